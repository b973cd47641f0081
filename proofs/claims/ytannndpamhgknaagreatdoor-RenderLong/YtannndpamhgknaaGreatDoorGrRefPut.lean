/- The reference's put: a number among others that rise, once. -/
import Derived.Test.YtannndpamhgknaaGreatDoorGrRowN
import Derived.Test.YtannndpamhgknaaGreatDoorGrRefMath
namespace Go.Proofs.YtannndpamhgknaaGreatDoor.Gr
open Go.RowKit

theorem RowNew.drew {w : World} {B : Nat} {v : Value} {xs : List Int} (h : RowNew w B v xs) : RowNew w.drew B v xs := h.on ((Below.refl _ _).drew)
theorem RowNew.allo {w : World} {B : Nat} {v : Value} {xs : List Int} {o : Obj} (h : RowNew w B v xs) : RowNew (w.alloc o) B v xs := h.on (up_alloc _ _)
theorem Row.drew {w : World} {v : Value} {xs : List Int} (h : Row w v xs) : Row w.drew v xs := h.on ((Below.refl _ _).drew)
theorem Row.allo {w : World} {v : Value} {xs : List Int} {o : Obj} (h : Row w v xs) : Row (w.alloc o) v xs := h.on (up_alloc _ _)

set_option maxHeartbeats 4000000 in
theorem put_some (s : Nat → Bool) (m : Nat) (hm : m < 20) (g cap n : Nat) (w : World) (B : Nat) (hn : (symL s).length = n) (h : RowNew w B (.slice (some ⟨g, 0, none⟩) n cap) (symL s)) :
    Calls Tryz.prog 124 #[.slice (some ⟨g, 0, none⟩) n cap, .int .i64 (m : Int)] w fun e w' => ∃ u, e = .returned u ∧ ((u = .slice (some ⟨g, 0, none⟩) n cap ∧ s m = true) ∨ (RowNew w' w.heap.size u (symL (addS s m)))) ∧ Below w.heap.size w w' := by
  have hl20 := symL_length s
  rw [hn] at hl20
  have HROW := hid (h.row (by rw [hn]; unfold maxLen; omega))
  have hcap : n ≤ cap := by
    obtain ⟨_, ⟨e, _⟩ | ⟨g', cap', cur, e, _, _, hc, _⟩⟩ := h
    · simp at e
    · simp at e; rw [hn] at hc; omega
  have HC : Hid (∀ j, j < n → w.cell? ⟨g, j, none⟩ = some (.int .i64 ((symL s).getD j 0))) := hid (fun j hj => by
    obtain ⟨ad, c, e, _, hc⟩ := HROW.out
    obtain ⟨a, e2, h4⟩ := hc j (by rw [hn]; exact hj)
    simp only [Value.slice.injEq] at e
    rw [← e.1] at e2
    obtain rfl := Option.some.inj e2
    rw [Addr.add_lit, Nat.zero_add] at h4
    exact h4)
  have HN := hid hn
  clear h hn
  go_enter Tryz.func124, Tryz.ntmps124
  go_wp2
  go_loopw [5] (fun v wr => ∃ k : Nat, k ≤ n ∧ v = .int .i64 k ∧ Hid (∀ j y, j < k → (symL s)[j]? = some y → y < (m : Int)) ∧ wr = w) (fun v _ => n - (intOf v).toNat)
  case atStart => exact ⟨0, by omega, rfl, hid (fun j y hj => absurd hj (Nat.not_lt_zero _)), rfl⟩
  case round =>
    obtain ⟨k, hk, rfl, HLT, rfl⟩ := hrel
    by_cases hlt : k < n
    · have hc := HC.out k hlt
      have HX : Hid ((symL s)[k]? = some ((symL s).getD k 0)) := hid (getD_at (by rw [HN.out]; exact hlt))
      obtain ⟨q, -, -, hq⟩ := mem_symL.1 (List.mem_of_getElem? HX.out)
      generalize (symL s).getD k 0 = y at *
      subst hq
      have hlt2 : (k : Int) < (n : Int) := by omega
      by_cases hy : (q : Int) < (m : Int)
      · go_wp2
        go_roundw
        case rel =>
          refine ⟨k + 1, by omega, by simp, hid (fun j y hj hy2 => ?_), trivial⟩
          by_cases e : j = k
          · subst e
            obtain rfl := Option.some.inj (HX.out.symm.trans hy2)
            exact hy
          · exact HLT.out j y (by omega) hy2
        case measure => simp [intOf]; omega
      · by_cases hy2 : q = m
        · subst hy2
          have HS := hid (put_old HX.out)
          go_wp2
          go_ret
          exact ⟨_, rfl, Or.inl ⟨rfl, HS.out⟩, Below.refl _ _⟩
        · have hy3 : ((q : Int) == (m : Int)) = false := by simp; omega
          have HPN : Hid ([] ++ (symL s).take k ++ [(m : Int)] ++ (symL s).drop k = symL (addS s m)) := hid (by rw [List.nil_append]; exact put_new hm HLT.out (fun y hy => by obtain rfl := Option.some.inj (HX.out.symm.trans hy); omega))
          have HT := hid (row_take (xs := symL s) (k := k) (c := cap) (by rw [HN.out]; exact HROW.out) (by rw [HN.out]; omega))
          have HD := hid (row_drop (xs := symL s) (k := k) (o := k) (n := n - k) (c := cap - k) (by rw [HN.out]; exact HROW.out) (by rw [HN.out]; omega) (by rw [HN.out]) (.inl rfl))
          go_wp2
          have hk1 : k ≤ cap := by omega
          have hk2 : ¬ cap = k := by omega
          have HLT1 : Hid (([] : List Int).length + ((symL s).take k).length ≤ 1000000) := hid (by have := HN.out; simp; omega)
          have HLT2 : Hid (([] ++ (symL s).take k).length + [(m : Int)].length ≤ 1000000) := hid (by have := HN.out; simp; omega)
          have HLT3 : Hid (([] ++ (symL s).take k ++ [(m : Int)]).length + ((symL s).drop k).length ≤ 1000000) := hid (by have := HN.out; simp; omega)
          go_region_law (first
            | (refine step_append_row _ rfl (.tmp 33) (.tmp 36) rfl wr.heap.size _ [] (by simp [Act.eval]) ((row_made wr wr.heap.size (Nat.le_refl _) _ rfl).drew) _ ((symL s).take k) (by simp [Act.eval]) (HT.out.on ((up_alloc wr (.cells #[] 3)).drew)) (fun n c e => by simp at e) HLT1.out ((up_alloc wr (.cells #[] 3)).drew).size ?_; intro v1 w1 hR1 hg1 hloc1; have HR1 := hid hR1; have HB1 : Hid (Below wr.heap.size wr w1) := hid (((up_alloc wr (.cells #[] 3)).drew).grown hg1 ((up_alloc wr (.cells #[] 3)).drew).size (fun j e => by simp [Value.ownBlock] at e; omega)); have hz1 := HB1.out.size; clear hR1 hg1 hloc1)
            | (refine step_append_row _ rfl (.tmp 33) (.tmp 36) rfl wr.heap.size _ [] (by simp [Act.eval]) ((row_made wr wr.heap.size (Nat.le_refl _) _ rfl).allo.drew) _ ((symL s).take k) (by simp [Act.eval]) (HT.out.on ((up_trans (up_alloc wr (.cells #[] 3)) (up_alloc _ (.cells #[.int .i64 (m : Int)] 3))).drew)) (fun n c e => by simp at e) HLT1.out ((up_trans (up_alloc wr (.cells #[] 3)) (up_alloc _ (.cells #[.int .i64 (m : Int)] 3))).drew).size ?_; intro v1 w1 hR1 hg1 hloc1; have HR1 := hid hR1; have HB1 : Hid (Below wr.heap.size wr w1) := hid (((up_trans (up_alloc wr (.cells #[] 3)) (up_alloc _ (.cells #[.int .i64 (m : Int)] 3))).drew).grown hg1 ((up_trans (up_alloc wr (.cells #[] 3)) (up_alloc _ (.cells #[.int .i64 (m : Int)] 3))).drew).size (fun j e => by simp [Value.ownBlock] at e; omega)); have HO1 : Hid (Row w1 (.slice (some ⟨wr.heap.size + 1, 0, none⟩) 1 1) [(m : Int)]) := hid (row_kept (row_one (wr.alloc (.cells #[] 3)) (m : Int) (wr.heap.size + 1) (by simp)).drew hg1 (.inr (by simp [Value.ownBlock]))); have hz1 := HB1.out.size; clear hR1 hg1 hloc1)
            | (refine step_append_row _ rfl (.tmp 33) (.tmp 36) rfl wr.heap.size _ [] (by simp [Act.eval]) ((row_made (wr.alloc (.cells #[.int .i64 (m : Int)] 3)) wr.heap.size (by simp) (wr.heap.size + 1) (by simp)).drew) _ ((symL s).take k) (by simp [Act.eval]) (HT.out.on ((up_trans (up_alloc wr (.cells #[.int .i64 (m : Int)] 3)) (up_alloc _ (.cells #[] 3))).drew)) (fun n c e => by simp at e) HLT1.out ((up_trans (up_alloc wr (.cells #[.int .i64 (m : Int)] 3)) (up_alloc _ (.cells #[] 3))).drew).size ?_; intro v1 w1 hR1 hg1 hloc1; have HR1 := hid hR1; have HB1 : Hid (Below wr.heap.size wr w1) := hid (((up_trans (up_alloc wr (.cells #[.int .i64 (m : Int)] 3)) (up_alloc _ (.cells #[] 3))).drew).grown hg1 ((up_trans (up_alloc wr (.cells #[.int .i64 (m : Int)] 3)) (up_alloc _ (.cells #[] 3))).drew).size (fun j e => by simp [Value.ownBlock] at e; omega)); have HO1 : Hid (Row w1 (.slice (some ⟨wr.heap.size, 0, none⟩) 1 1) [(m : Int)]) := hid (row_kept (row_one wr (m : Int) _ rfl).allo.drew hg1 (.inr (by simp [Value.ownBlock]))); have hz1 := HB1.out.size; clear hR1 hg1 hloc1)
            | (refine step_append_row _ rfl (.tmp 37) (.tmp 39) rfl wr.heap.size _ ([] ++ (symL s).take k) (by simp [Act.eval]) (HR1.out.allo) _ [(m : Int)] (by simp [Act.eval]) (row_one w1 (m : Int) _ rfl) (fun n c e => by simp at e) HLT2.out (HB1.out.alloc HB1.out.size (.cells #[.int .i64 (m : Int)] 3)).size ?_; intro v2 w2 hR2 hg2 hloc2; have HR2 := hid hR2; have HB2 : Hid (Below wr.heap.size wr w2) := hid ((HB1.out.alloc HB1.out.size (.cells #[.int .i64 (m : Int)] 3)).grown hg2 (HB1.out.alloc HB1.out.size (.cells #[.int .i64 (m : Int)] 3)).size (fun j e => (World.ownsRow.lt HR1.out j e).1)); have hz2 := HB2.out.size; clear hR2 hg2 hloc2)
            | (refine step_append_row _ rfl (.tmp 37) (.tmp 39) rfl wr.heap.size _ ([] ++ (symL s).take k) (by simp [Act.eval]) (HR1.out) _ [(m : Int)] (by simp [Act.eval]) (HO1.out) (fun n c e => by simp at e) HLT2.out (HB1.out).size ?_; intro v2 w2 hR2 hg2 hloc2; have HR2 := hid hR2; have HB2 : Hid (Below wr.heap.size wr w2) := hid ((HB1.out).grown hg2 (HB1.out).size (fun j e => (World.ownsRow.lt HR1.out j e).1)); have hz2 := HB2.out.size; clear hR2 hg2 hloc2)
            | (refine step_append_row _ rfl (.tmp 40) (.tmp 43) rfl wr.heap.size _ ([] ++ (symL s).take k ++ [(m : Int)]) (by simp [Act.eval]) HR2.out _ ((symL s).drop k) (by simp [Act.eval]) (HD.out.on HB2.out) (fun n c e => by simp at e) HLT3.out HB2.out.size ?_; intro v3 w3 hR3 hg3 hloc3; have HR3 := hid hR3; have HB3 : Hid (Below wr.heap.size wr w3) := hid (HB2.out.grown hg3 HB2.out.size (fun j e => (World.ownsRow.lt HR2.out j e).1)); clear hR3 hg3 hloc3))
          all_goals
            go_wp2
            go_ret
            exact ⟨_, rfl, Or.inr (HPN.out ▸ HR3.out), HB3.out⟩
    · obtain rfl : k = n := by omega
      have HPN : Hid ([] ++ (symL s).take k ++ [(m : Int)] ++ (symL s).drop k = symL (addS s m)) := hid (by rw [List.nil_append]; exact put_new hm HLT.out (fun y hy => by have := (List.getElem?_eq_some_iff.1 hy).1; have := HN.out; omega))
      by_cases hck : cap = k
      · obtain rfl : k = cap := hck.symm
        have HT := hid (row_take (xs := symL s) (k := k) (c := k) (by rw [HN.out]; exact HROW.out) (by rw [HN.out]; omega))
        have HD := hid (row_drop (xs := symL s) (k := k) (o := 0) (n := 0) (c := 0) (by rw [HN.out]; exact HROW.out) (by rw [HN.out]; omega) (by rw [HN.out]; omega) (.inr rfl))
        go_wp2
        have hk1 : k ≤ k := Nat.le_refl _
        have HLT1 : Hid (([] : List Int).length + ((symL s).take k).length ≤ 1000000) := hid (by have := HN.out; simp; omega)
        have HLT2 : Hid (([] ++ (symL s).take k).length + [(m : Int)].length ≤ 1000000) := hid (by have := HN.out; simp; omega)
        have HLT3 : Hid (([] ++ (symL s).take k ++ [(m : Int)]).length + ((symL s).drop k).length ≤ 1000000) := hid (by have := HN.out; simp; omega)
        go_region_law (first
          | (refine step_append_row _ rfl (.tmp 33) (.tmp 36) rfl wr.heap.size _ [] (by simp [Act.eval]) ((row_made wr wr.heap.size (Nat.le_refl _) _ rfl).drew) _ ((symL s).take k) (by simp [Act.eval]) (HT.out.on ((up_alloc wr (.cells #[] 3)).drew)) (fun n c e => by simp at e) HLT1.out ((up_alloc wr (.cells #[] 3)).drew).size ?_; intro v1 w1 hR1 hg1 hloc1; have HR1 := hid hR1; have HB1 : Hid (Below wr.heap.size wr w1) := hid (((up_alloc wr (.cells #[] 3)).drew).grown hg1 ((up_alloc wr (.cells #[] 3)).drew).size (fun j e => by simp [Value.ownBlock] at e; omega)); have hz1 := HB1.out.size; clear hR1 hg1 hloc1)
          | (refine step_append_row _ rfl (.tmp 33) (.tmp 36) rfl wr.heap.size _ [] (by simp [Act.eval]) ((row_made wr wr.heap.size (Nat.le_refl _) _ rfl).allo.drew) _ ((symL s).take k) (by simp [Act.eval]) (HT.out.on ((up_trans (up_alloc wr (.cells #[] 3)) (up_alloc _ (.cells #[.int .i64 (m : Int)] 3))).drew)) (fun n c e => by simp at e) HLT1.out ((up_trans (up_alloc wr (.cells #[] 3)) (up_alloc _ (.cells #[.int .i64 (m : Int)] 3))).drew).size ?_; intro v1 w1 hR1 hg1 hloc1; have HR1 := hid hR1; have HB1 : Hid (Below wr.heap.size wr w1) := hid (((up_trans (up_alloc wr (.cells #[] 3)) (up_alloc _ (.cells #[.int .i64 (m : Int)] 3))).drew).grown hg1 ((up_trans (up_alloc wr (.cells #[] 3)) (up_alloc _ (.cells #[.int .i64 (m : Int)] 3))).drew).size (fun j e => by simp [Value.ownBlock] at e; omega)); have HO1 : Hid (Row w1 (.slice (some ⟨wr.heap.size + 1, 0, none⟩) 1 1) [(m : Int)]) := hid (row_kept (row_one (wr.alloc (.cells #[] 3)) (m : Int) (wr.heap.size + 1) (by simp)).drew hg1 (.inr (by simp [Value.ownBlock]))); have hz1 := HB1.out.size; clear hR1 hg1 hloc1)
          | (refine step_append_row _ rfl (.tmp 33) (.tmp 36) rfl wr.heap.size _ [] (by simp [Act.eval]) ((row_made (wr.alloc (.cells #[.int .i64 (m : Int)] 3)) wr.heap.size (by simp) (wr.heap.size + 1) (by simp)).drew) _ ((symL s).take k) (by simp [Act.eval]) (HT.out.on ((up_trans (up_alloc wr (.cells #[.int .i64 (m : Int)] 3)) (up_alloc _ (.cells #[] 3))).drew)) (fun n c e => by simp at e) HLT1.out ((up_trans (up_alloc wr (.cells #[.int .i64 (m : Int)] 3)) (up_alloc _ (.cells #[] 3))).drew).size ?_; intro v1 w1 hR1 hg1 hloc1; have HR1 := hid hR1; have HB1 : Hid (Below wr.heap.size wr w1) := hid (((up_trans (up_alloc wr (.cells #[.int .i64 (m : Int)] 3)) (up_alloc _ (.cells #[] 3))).drew).grown hg1 ((up_trans (up_alloc wr (.cells #[.int .i64 (m : Int)] 3)) (up_alloc _ (.cells #[] 3))).drew).size (fun j e => by simp [Value.ownBlock] at e; omega)); have HO1 : Hid (Row w1 (.slice (some ⟨wr.heap.size, 0, none⟩) 1 1) [(m : Int)]) := hid (row_kept (row_one wr (m : Int) _ rfl).allo.drew hg1 (.inr (by simp [Value.ownBlock]))); have hz1 := HB1.out.size; clear hR1 hg1 hloc1)
          | (refine step_append_row _ rfl (.tmp 37) (.tmp 39) rfl wr.heap.size _ ([] ++ (symL s).take k) (by simp [Act.eval]) (HR1.out.allo) _ [(m : Int)] (by simp [Act.eval]) (row_one w1 (m : Int) _ rfl) (fun n c e => by simp at e) HLT2.out (HB1.out.alloc HB1.out.size (.cells #[.int .i64 (m : Int)] 3)).size ?_; intro v2 w2 hR2 hg2 hloc2; have HR2 := hid hR2; have HB2 : Hid (Below wr.heap.size wr w2) := hid ((HB1.out.alloc HB1.out.size (.cells #[.int .i64 (m : Int)] 3)).grown hg2 (HB1.out.alloc HB1.out.size (.cells #[.int .i64 (m : Int)] 3)).size (fun j e => (World.ownsRow.lt HR1.out j e).1)); have hz2 := HB2.out.size; clear hR2 hg2 hloc2)
          | (refine step_append_row _ rfl (.tmp 37) (.tmp 39) rfl wr.heap.size _ ([] ++ (symL s).take k) (by simp [Act.eval]) (HR1.out) _ [(m : Int)] (by simp [Act.eval]) (HO1.out) (fun n c e => by simp at e) HLT2.out (HB1.out).size ?_; intro v2 w2 hR2 hg2 hloc2; have HR2 := hid hR2; have HB2 : Hid (Below wr.heap.size wr w2) := hid ((HB1.out).grown hg2 (HB1.out).size (fun j e => (World.ownsRow.lt HR1.out j e).1)); have hz2 := HB2.out.size; clear hR2 hg2 hloc2)
          | (refine step_append_row _ rfl (.tmp 40) (.tmp 43) rfl wr.heap.size _ ([] ++ (symL s).take k ++ [(m : Int)]) (by simp [Act.eval]) HR2.out _ ((symL s).drop k) (by simp [Act.eval]) (HD.out.on HB2.out) (fun n c e => by simp at e) HLT3.out HB2.out.size ?_; intro v3 w3 hR3 hg3 hloc3; have HR3 := hid hR3; have HB3 : Hid (Below wr.heap.size wr w3) := hid (HB2.out.grown hg3 HB2.out.size (fun j e => (World.ownsRow.lt HR2.out j e).1)); clear hR3 hg3 hloc3))
        all_goals
          go_wp2
          go_ret
          exact ⟨_, rfl, Or.inr (HPN.out ▸ HR3.out), HB3.out⟩
      · have HT := hid (row_take (xs := symL s) (k := k) (c := cap) (by rw [HN.out]; exact HROW.out) (by rw [HN.out]; omega))
        have HD := hid (row_drop (xs := symL s) (k := k) (o := k) (n := 0) (c := cap - k) (by rw [HN.out]; exact HROW.out) (by rw [HN.out]; omega) (by rw [HN.out]; omega) (.inl rfl))
        go_wp2
        have hk1 : k ≤ cap := by omega
        have hk2 : ¬ cap = k := hck
        have HLT1 : Hid (([] : List Int).length + ((symL s).take k).length ≤ 1000000) := hid (by have := HN.out; simp; omega)
        have HLT2 : Hid (([] ++ (symL s).take k).length + [(m : Int)].length ≤ 1000000) := hid (by have := HN.out; simp; omega)
        have HLT3 : Hid (([] ++ (symL s).take k ++ [(m : Int)]).length + ((symL s).drop k).length ≤ 1000000) := hid (by have := HN.out; simp; omega)
        go_region_law (first
          | (refine step_append_row _ rfl (.tmp 33) (.tmp 36) rfl wr.heap.size _ [] (by simp [Act.eval]) ((row_made wr wr.heap.size (Nat.le_refl _) _ rfl).drew) _ ((symL s).take k) (by simp [Act.eval]) (HT.out.on ((up_alloc wr (.cells #[] 3)).drew)) (fun n c e => by simp at e) HLT1.out ((up_alloc wr (.cells #[] 3)).drew).size ?_; intro v1 w1 hR1 hg1 hloc1; have HR1 := hid hR1; have HB1 : Hid (Below wr.heap.size wr w1) := hid (((up_alloc wr (.cells #[] 3)).drew).grown hg1 ((up_alloc wr (.cells #[] 3)).drew).size (fun j e => by simp [Value.ownBlock] at e; omega)); have hz1 := HB1.out.size; clear hR1 hg1 hloc1)
          | (refine step_append_row _ rfl (.tmp 33) (.tmp 36) rfl wr.heap.size _ [] (by simp [Act.eval]) ((row_made wr wr.heap.size (Nat.le_refl _) _ rfl).allo.drew) _ ((symL s).take k) (by simp [Act.eval]) (HT.out.on ((up_trans (up_alloc wr (.cells #[] 3)) (up_alloc _ (.cells #[.int .i64 (m : Int)] 3))).drew)) (fun n c e => by simp at e) HLT1.out ((up_trans (up_alloc wr (.cells #[] 3)) (up_alloc _ (.cells #[.int .i64 (m : Int)] 3))).drew).size ?_; intro v1 w1 hR1 hg1 hloc1; have HR1 := hid hR1; have HB1 : Hid (Below wr.heap.size wr w1) := hid (((up_trans (up_alloc wr (.cells #[] 3)) (up_alloc _ (.cells #[.int .i64 (m : Int)] 3))).drew).grown hg1 ((up_trans (up_alloc wr (.cells #[] 3)) (up_alloc _ (.cells #[.int .i64 (m : Int)] 3))).drew).size (fun j e => by simp [Value.ownBlock] at e; omega)); have HO1 : Hid (Row w1 (.slice (some ⟨wr.heap.size + 1, 0, none⟩) 1 1) [(m : Int)]) := hid (row_kept (row_one (wr.alloc (.cells #[] 3)) (m : Int) (wr.heap.size + 1) (by simp)).drew hg1 (.inr (by simp [Value.ownBlock]))); have hz1 := HB1.out.size; clear hR1 hg1 hloc1)
          | (refine step_append_row _ rfl (.tmp 33) (.tmp 36) rfl wr.heap.size _ [] (by simp [Act.eval]) ((row_made (wr.alloc (.cells #[.int .i64 (m : Int)] 3)) wr.heap.size (by simp) (wr.heap.size + 1) (by simp)).drew) _ ((symL s).take k) (by simp [Act.eval]) (HT.out.on ((up_trans (up_alloc wr (.cells #[.int .i64 (m : Int)] 3)) (up_alloc _ (.cells #[] 3))).drew)) (fun n c e => by simp at e) HLT1.out ((up_trans (up_alloc wr (.cells #[.int .i64 (m : Int)] 3)) (up_alloc _ (.cells #[] 3))).drew).size ?_; intro v1 w1 hR1 hg1 hloc1; have HR1 := hid hR1; have HB1 : Hid (Below wr.heap.size wr w1) := hid (((up_trans (up_alloc wr (.cells #[.int .i64 (m : Int)] 3)) (up_alloc _ (.cells #[] 3))).drew).grown hg1 ((up_trans (up_alloc wr (.cells #[.int .i64 (m : Int)] 3)) (up_alloc _ (.cells #[] 3))).drew).size (fun j e => by simp [Value.ownBlock] at e; omega)); have HO1 : Hid (Row w1 (.slice (some ⟨wr.heap.size, 0, none⟩) 1 1) [(m : Int)]) := hid (row_kept (row_one wr (m : Int) _ rfl).allo.drew hg1 (.inr (by simp [Value.ownBlock]))); have hz1 := HB1.out.size; clear hR1 hg1 hloc1)
          | (refine step_append_row _ rfl (.tmp 37) (.tmp 39) rfl wr.heap.size _ ([] ++ (symL s).take k) (by simp [Act.eval]) (HR1.out.allo) _ [(m : Int)] (by simp [Act.eval]) (row_one w1 (m : Int) _ rfl) (fun n c e => by simp at e) HLT2.out (HB1.out.alloc HB1.out.size (.cells #[.int .i64 (m : Int)] 3)).size ?_; intro v2 w2 hR2 hg2 hloc2; have HR2 := hid hR2; have HB2 : Hid (Below wr.heap.size wr w2) := hid ((HB1.out.alloc HB1.out.size (.cells #[.int .i64 (m : Int)] 3)).grown hg2 (HB1.out.alloc HB1.out.size (.cells #[.int .i64 (m : Int)] 3)).size (fun j e => (World.ownsRow.lt HR1.out j e).1)); have hz2 := HB2.out.size; clear hR2 hg2 hloc2)
          | (refine step_append_row _ rfl (.tmp 37) (.tmp 39) rfl wr.heap.size _ ([] ++ (symL s).take k) (by simp [Act.eval]) (HR1.out) _ [(m : Int)] (by simp [Act.eval]) (HO1.out) (fun n c e => by simp at e) HLT2.out (HB1.out).size ?_; intro v2 w2 hR2 hg2 hloc2; have HR2 := hid hR2; have HB2 : Hid (Below wr.heap.size wr w2) := hid ((HB1.out).grown hg2 (HB1.out).size (fun j e => (World.ownsRow.lt HR1.out j e).1)); have hz2 := HB2.out.size; clear hR2 hg2 hloc2)
          | (refine step_append_row _ rfl (.tmp 40) (.tmp 43) rfl wr.heap.size _ ([] ++ (symL s).take k ++ [(m : Int)]) (by simp [Act.eval]) HR2.out _ ((symL s).drop k) (by simp [Act.eval]) (HD.out.on HB2.out) (fun n c e => by simp at e) HLT3.out HB2.out.size ?_; intro v3 w3 hR3 hg3 hloc3; have HR3 := hid hR3; have HB3 : Hid (Below wr.heap.size wr w3) := hid (HB2.out.grown hg3 HB2.out.size (fun j e => (World.ownsRow.lt HR2.out j e).1)); clear hR3 hg3 hloc3))
        all_goals
          go_wp2
          go_ret
          exact ⟨_, rfl, Or.inr (HPN.out ▸ HR3.out), HB3.out⟩

set_option maxHeartbeats 4000000 in
theorem put_nils (s : Nat → Bool) (m : Nat) (hm : m < 20) (w : World) (hn : symL s = []) :
    Calls Tryz.prog 124 #[.slice none 0 0, .int .i64 (m : Int)] w fun e w' => ∃ u, e = .returned u ∧ RowNew w' w.heap.size u (symL (addS s m)) ∧ Below w.heap.size w w' := by
  have HPN : Hid ([(m : Int)] = symL (addS s m)) := hid (by
    rw [← put_new (s := s) (m := m) (k0 := 0) hm (fun j y hj => absurd hj (Nat.not_lt_zero _)) (fun y hy => by rw [hn] at hy; simp at hy), hn]; rfl)
  clear hn hm
  go_enter Tryz.func124, Tryz.ntmps124
  go_wp2
  refine wp_loop_rounds 1 ?_
  rw [rounds_succ]
  go_wp2
  go_region_law (first
    | (refine step_append_row _ rfl (.tmp 33) (.tmp 36) rfl w.heap.size _ [] (by simp [Act.eval]) ((row_made w w.heap.size (Nat.le_refl _) _ rfl).drew) _ [] (by simp [Act.eval]) (row_nil _ none 0) (fun n c e => by simp at e; exact e.2.symm) (by decide) ((up_alloc w (.cells #[] 3)).drew).size ?_; intro v1 w1 hR1 hg1 hloc1; have HR1 := hid hR1; have HB1 : Hid (Below w.heap.size w w1) := hid (((up_alloc w (.cells #[] 3)).drew).grown hg1 ((up_alloc w (.cells #[] 3)).drew).size (fun j e => by simp [Value.ownBlock] at e; omega)); have hz1 := HB1.out.size; clear hR1 hg1 hloc1)
    | (refine step_append_row _ rfl (.tmp 33) (.tmp 36) rfl w.heap.size _ [] (by simp [Act.eval]) ((row_made w w.heap.size (Nat.le_refl _) _ rfl).allo.drew) _ [] (by simp [Act.eval]) (row_nil _ none 0) (fun n c e => by simp at e; exact e.2.symm) (by decide) ((up_trans (up_alloc w (.cells #[] 3)) (up_alloc _ (.cells #[.int .i64 (m : Int)] 3))).drew).size ?_; intro v1 w1 hR1 hg1 hloc1; have HR1 := hid hR1; have HB1 : Hid (Below w.heap.size w w1) := hid (((up_trans (up_alloc w (.cells #[] 3)) (up_alloc _ (.cells #[.int .i64 (m : Int)] 3))).drew).grown hg1 ((up_trans (up_alloc w (.cells #[] 3)) (up_alloc _ (.cells #[.int .i64 (m : Int)] 3))).drew).size (fun j e => by simp [Value.ownBlock] at e; omega)); have HO1 : Hid (Row w1 (.slice (some ⟨w.heap.size + 1, 0, none⟩) 1 1) [(m : Int)]) := hid (row_kept (row_one (w.alloc (.cells #[] 3)) (m : Int) (w.heap.size + 1) (by simp)).drew hg1 (.inr (by simp [Value.ownBlock]))); have hz1 := HB1.out.size; clear hR1 hg1 hloc1)
    | (refine step_append_row _ rfl (.tmp 33) (.tmp 36) rfl w.heap.size _ [] (by simp [Act.eval]) ((row_made (w.alloc (.cells #[.int .i64 (m : Int)] 3)) w.heap.size (by simp) (w.heap.size + 1) (by simp)).drew) _ [] (by simp [Act.eval]) (row_nil _ none 0) (fun n c e => by simp at e; exact e.2.symm) (by decide) ((up_trans (up_alloc w (.cells #[.int .i64 (m : Int)] 3)) (up_alloc _ (.cells #[] 3))).drew).size ?_; intro v1 w1 hR1 hg1 hloc1; have HR1 := hid hR1; have HB1 : Hid (Below w.heap.size w w1) := hid (((up_trans (up_alloc w (.cells #[.int .i64 (m : Int)] 3)) (up_alloc _ (.cells #[] 3))).drew).grown hg1 ((up_trans (up_alloc w (.cells #[.int .i64 (m : Int)] 3)) (up_alloc _ (.cells #[] 3))).drew).size (fun j e => by simp [Value.ownBlock] at e; omega)); have HO1 : Hid (Row w1 (.slice (some ⟨w.heap.size, 0, none⟩) 1 1) [(m : Int)]) := hid (row_kept (row_one w (m : Int) _ rfl).allo.drew hg1 (.inr (by simp [Value.ownBlock]))); have hz1 := HB1.out.size; clear hR1 hg1 hloc1)
    | (refine step_append_row _ rfl (.tmp 37) (.tmp 39) rfl w.heap.size _ ([] ++ []) (by simp [Act.eval]) (HR1.out.allo) _ [(m : Int)] (by simp [Act.eval]) (row_one w1 (m : Int) _ rfl) (fun n c e => by simp at e) (by simp) (HB1.out.alloc HB1.out.size (.cells #[.int .i64 (m : Int)] 3)).size ?_; intro v2 w2 hR2 hg2 hloc2; have HR2 := hid hR2; have HB2 : Hid (Below w.heap.size w w2) := hid ((HB1.out.alloc HB1.out.size (.cells #[.int .i64 (m : Int)] 3)).grown hg2 (HB1.out.alloc HB1.out.size (.cells #[.int .i64 (m : Int)] 3)).size (fun j e => (World.ownsRow.lt HR1.out j e).1)); have hz2 := HB2.out.size; clear hR2 hg2 hloc2)
    | (refine step_append_row _ rfl (.tmp 37) (.tmp 39) rfl w.heap.size _ ([] ++ []) (by simp [Act.eval]) (HR1.out) _ [(m : Int)] (by simp [Act.eval]) (HO1.out) (fun n c e => by simp at e) (by simp) (HB1.out).size ?_; intro v2 w2 hR2 hg2 hloc2; have HR2 := hid hR2; have HB2 : Hid (Below w.heap.size w w2) := hid ((HB1.out).grown hg2 (HB1.out).size (fun j e => (World.ownsRow.lt HR1.out j e).1)); have hz2 := HB2.out.size; clear hR2 hg2 hloc2)
    | (refine step_append_row _ rfl (.tmp 40) (.tmp 43) rfl w.heap.size _ ([] ++ [] ++ [(m : Int)]) (by simp [Act.eval]) HR2.out _ [] (by simp [Act.eval]) (row_nil _ none 0) (fun n c e => by simp at e; exact e.2.symm) (by simp) HB2.out.size ?_; intro v3 w3 hR3 hg3 hloc3; have HR3 := hid hR3; have HB3 : Hid (Below w.heap.size w w3) := hid (HB2.out.grown hg3 HB2.out.size (fun j e => (World.ownsRow.lt HR2.out j e).1)); clear hR3 hg3 hloc3))
  all_goals
    go_wp2
    go_ret
    exact ⟨_, rfl, HPN.out ▸ HR3.out, HB3.out⟩

theorem put_any (s : Nat → Bool) (m : Nat) (hm : m < 20) (v : Value) (w : World) (B : Nat) (hB : B ≤ w.heap.size) (h : RowNew w B v (symL s)) :
    Calls Tryz.prog 124 #[v, .int .i64 (m : Int)] w fun e w' => ∃ u, e = .returned u ∧ RowNew w' B u (symL (addS s m)) ∧ Below w.heap.size w w' := by
  have h0 := h
  obtain ⟨_, ⟨rfl, hl⟩ | ⟨g, cap, cur, rfl, _⟩⟩ := h
  · refine (put_nils s m hm w (List.eq_nil_of_length_eq_zero hl)).mono ?_
    rintro e w' ⟨u, rfl, hu, hb⟩
    exact ⟨u, rfl, hu.base hB, hb⟩
  · refine (put_some s m hm g cap _ w B rfl h0).mono ?_
    rintro e w' ⟨u, rfl, ⟨rfl, hs⟩ | hu, hb⟩
    · exact ⟨_, rfl, by rw [addS_of hs]; exact h0.on hb, hb⟩
    · exact ⟨u, rfl, hu.base hB, hb⟩

end Go.Proofs.YtannndpamhgknaaGreatDoor.Gr
