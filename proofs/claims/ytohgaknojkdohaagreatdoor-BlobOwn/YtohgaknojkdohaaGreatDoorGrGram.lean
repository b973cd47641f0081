/- Check, Units and Reached of package gram answer what the document says of rules. -/
import Derived.Test.YtohgaknojkdohaaGreatDoorGrBehindW
namespace Go.Proofs.YtohgaknojkdohaaGreatDoor.Gr
open Go.RowKit Go.Maps

theorem circles_any (B g : Nat) (G : Nat → Option Nat) (E : Nat → Nat → Bool) (w : World) (h : GraphAt w B g G E) (hE : ∀ x y, E x y = true → x < 20 ∧ y < 20) (k : Nat) (hk : k < 20) :
    Calls Tryz.prog 119 #[.map (some g), .int .i64 (k : Int)] w fun e w' => e = .returned (.bool (reachS E k k)) ∧ Below w.heap.size w w' := by
  have HB := hid (behind_any B g G E w h hE k hk)
  have HH := hid (fun c w1 h => has_any c (reachS E k) k hk w1 h)
  clear h hE
  go_enter Tryz.func119, Tryz.ntmps119
  go_wp2_with fail
  refine HB.out.mono ?_
  rintro e w1 ⟨c, rfl, hc, hs, bel⟩
  have HS := hid hs
  have HL := hid bel
  clear hs bel
  go_wp2_with fail
  refine (HH.out c w1 HS.out).mono ?_
  rintro e w2 ⟨rfl, o, rfl⟩
  have HL2 := hid (up_trans HL.out (up_alloc w1 o))
  go_wp2
  go_ret
  exact ⟨rfl, HL2.out⟩

theorem index_circles (B g : Nat) (G : Nat → Option Nat) (E : Nat → Nat → Bool) (s : Nat → Bool) (v : Value) (w : World) (h : GraphAt w B g G E) (hE : ∀ x y, E x y = true → x < 20 ∧ y < 20) (hv : Row w v (symL s)) :
    Calls Tryz.prog 144 #[v, .func (.func 119) #[.map (some g)] #[]] w fun e w' => ∃ i : Int, e = .returned (.int .i64 i) ∧ (0 ≤ i ↔ ∃ k, k < 20 ∧ s k = true ∧ reachS E k k = true) ∧ Below w.heap.size w w' := by
  obtain ⟨ad, cap, rfl, hmx, hc⟩ := hv
  have HC := hid hc
  have H := hid h
  have HP := hid (fun w1 h k hk => circles_any B g G E w1 h hE k hk)
  have hl20 := symL_length s
  clear hc h hmx
  generalize hlen : (symL s).length = n at *
  have HL := hid hlen
  clear hlen
  go_enter Tryz.func144, Tryz.ntmps144
  go_wp2
  go_loopw [8] (fun v wr => ∃ j : Nat, j ≤ n ∧ v = .int .i64 j ∧ Hid (∀ i y, i < j → (symL s)[i]? = some y → reachS E y.toNat y.toNat = false) ∧ Below w.heap.size w wr) (fun v _ => n - (intOf v).toNat)
  case atStart => exact ⟨0, by omega, rfl, hid (fun i y hi => absurd hi (Nat.not_lt_zero _)), Below.refl _ _⟩
  case round =>
    obtain ⟨j, hj, rfl, ht, hb⟩ := hrel
    by_cases hlt : j < n
    · obtain ⟨a, rfl, hcj⟩ := HC.out j hlt
      have hcj2 := (hb.cell (lt_of_cell hcj)).trans hcj
      have HX : Hid ((symL s)[j]? = some ((symL s).getD j 0)) := hid (getD_at (by rw [HL.out]; exact hlt))
      obtain ⟨m, hm, hsm, hmy⟩ := mem_symL.1 (List.mem_of_getElem? HX.out)
      rw [hmy] at HX hcj2
      have HSM : Hid (s m = true) := hid hsm
      have HB := hid hb
      have HPP := hid (HP.out wr (H.out.on hb) m hm)
      clear hb hcj hmy hsm
      have hlt2 : (j : Int) < (n : Int) := by omega
      cases hp : reachS E m m with
      | false =>
        rw [hp] at HPP
        have HF : Hid (reachS E m m = false) := hid hp
        clear hp
        go_wp2_with fail
        refine HPP.out.mono ?_
        rintro e w1 ⟨rfl, bel⟩
        have HB2 := hid (up_trans HB.out bel)
        clear bel
        go_wp2
        go_roundw
        case rel =>
          refine ⟨j + 1, by omega, by simp, hid (fun i y hi hy => ?_), HB2.out⟩
          by_cases e : i = j
          · subst e
            obtain rfl := Option.some.inj (HX.out.symm.trans hy)
            simpa using HF.out
          · exact ht.out i y (by omega) hy
        case measure => simp [intOf]; omega
      | true =>
        rw [hp] at HPP
        have HF : Hid (reachS E m m = true) := hid hp
        clear hp
        go_wp2_with fail
        refine HPP.out.mono ?_
        rintro e w1 ⟨rfl, bel⟩
        have HB2 := hid (up_trans HB.out bel)
        clear bel
        go_wp2
        go_ret
        exact ⟨_, rfl, ⟨fun _ => ⟨m, hm, HSM.out, HF.out⟩, fun _ => by omega⟩, HB2.out⟩
    · obtain rfl : j = n := by omega
      have HB := hid hb
      clear hb
      go_wp2
      go_ret
      refine ⟨_, rfl, ⟨fun h => by omega, fun ⟨k, hk, hs, hr⟩ => ?_⟩, HB.out⟩
      obtain ⟨i, hi⟩ := List.getElem?_of_mem (mem_symL.2 ⟨k, hk, hs, rfl⟩)
      have := ht.out i (k : Int) (by rw [← HL.out]; exact (List.getElem?_eq_some_iff.1 hi).1) hi
      simp [hr] at this

theorem contains_circles (B g : Nat) (G : Nat → Option Nat) (E : Nat → Nat → Bool) (s : Nat → Bool) (v : Value) (w : World) (h : GraphAt w B g G E) (hE : ∀ x y, E x y = true → x < 20 ∧ y < 20) (hv : Row w v (symL s)) (q : Bool) (hq : q = true ↔ ∃ k, k < 20 ∧ s k = true ∧ reachS E k k = true) :
    Calls Tryz.prog 117 #[v, .func (.func 119) #[.map (some g)] #[]] w fun e w' => e = .returned (.bool q) ∧ Below w.heap.size w w' := by
  have HI := hid (index_circles B g G E s v w h hE hv)
  have HQ := hid hq
  clear h hE hq
  obtain ⟨ad, cap, rfl, _, _⟩ := hv
  go_enter Tryz.func117, Tryz.ntmps117
  go_wp2_with fail
  refine HI.out.mono ?_
  rintro e w1 ⟨i, rfl, hi, bel⟩
  have HL := hid bel
  have HH := hid (hi.trans HQ.out.symm)
  clear bel hi
  by_cases h0 : 0 ≤ i
  · obtain rfl : q = true := HH.out.1 h0
    go_wp2
    go_ret
    exact ⟨rfl, HL.out⟩
  · obtain rfl : q = false := by
      cases q with
      | false => rfl
      | true => exact absurd (HH.out.2 rfl) h0
    go_wp2
    go_ret
    exact ⟨ret_bool (decide_eq_false (by omega)), HL.out⟩

theorem Reach.first {E : Nat → Nat → Bool} {f j : Nat} (h : Reach E f j) : ∃ y, E f y = true := h (fun _ => ∃ y, E f y = true) (fun y e => ⟨y, e⟩) (fun _ _ h _ => h)

open Classical in
theorem check_any (rs : List Rule) (v : Value) (w : World) (h : RulesAt w v rs) (hT : Tab w) : Calls Tryz.prog 73 #[v] w fun e w' => e = .returned (.bool (check rs)) ∧ Below w.heap.size w w' := by
  have HA := hid (all_right rs v w h hT)
  have H := hid h
  obtain ⟨ad, cap, rfl, hmx, _⟩ := h
  clear hT
  by_cases h60 : rs.length ≤ 60
  · have e1 : ¬ (60 < (rs.length : Int)) := by omega
    cases hr : rs.all right with
    | false =>
      rw [hr] at HA
      have HC : Hid (check rs = false) := hid (by simp [check, hr])
      rw [HC.out]
      clear hr HC
      go_enter Tryz.func73, Tryz.ntmps73
      go_wp2_with fail
      refine HA.out.mono ?_
      rintro e w1 ⟨rfl, bel⟩
      have HL := hid bel
      clear bel
      go_wp2
      go_ret
      exact ⟨rfl, HL.out⟩
    | true =>
      rw [hr] at HA
      have hE := fun x y => edge_lt (L := 1) hr x y
      have HE := hid hE
      have HD := hid (fun w1 h => draw_any rs (.slice ad rs.length cap) 1 w1 h hr)
      obtain ⟨q, hq⟩ : ∃ q : Bool, q = !(check rs) := ⟨_, rfl⟩
      have hq2 : q = true ↔ ∃ k, Reach (edge 1 rs) k k := by
        rw [hq, check_eq, hr, decide_eq_true h60, Bool.true_and, Bool.true_and, Bool.not_eq_true', decide_eq_false_iff_not, noRound]
        exact Classical.not_forall_not
      rw [show check rs = !q by rw [hq]; simp]
      have HQ := hid hq2
      clear hq hr hq2 hE
      go_enter Tryz.func73, Tryz.ntmps73
      go_wp2_with fail
      refine HA.out.mono ?_
      rintro e w1 ⟨rfl, bel⟩
      have HL := hid bel
      clear bel
      go_wp2_with fail
      refine (HD.out w1 (H.out.on HL.out)).mono ?_
      rintro e w2 ⟨g, G, rfl, hg, bel⟩
      have HG := hid hg
      have HL2 := hid (up_trans HL.out bel)
      clear hg bel
      go_wp2_with fail
      refine (symbols_graph _ g G _ w2 HG.out).mono ?_
      rintro e w3 ⟨u, rfl, hrow, bel⟩
      have HL3 := hid (up_trans HL2.out bel)
      have HR := hid (hrow.row (by have := symL_length (fun k => (G k).isSome); unfold maxLen; omega))
      have HG3 := hid (HG.out.on bel)
      have hmf : ∀ w, (Instr.makeFunc (.func 119) #[.map (some g)] #[]).run Tryz.prog w = .ok (.func (.func 119) #[.map (some g)] #[]) w := fun _ => by kernel_rfl
      clear bel hrow
      go_wp2_with fail
      refine (contains_circles _ g G _ _ _ w3 HG3.out HE.out HR.out q (HQ.out.trans ?_)).mono ?_
      · constructor
        · rintro ⟨k, hk⟩
          obtain ⟨y, hy⟩ := hk.first
          have hlt := HE.out k y hy
          refine ⟨k, hlt.1, ?_, (reachS_iff (fun x y e => (HE.out x y e).1)).2 hk⟩
          cases hG : G k with
          | none => have := HG3.out.empty k hlt.1 hG y hlt.2; rw [hy] at this; cases this
          | some c => rfl
        · rintro ⟨k, _, _, hr⟩
          exact ⟨k, (reachS_iff (fun x y e => (HE.out x y e).1)).1 hr⟩
      · rintro e w4 ⟨rfl, bel⟩
        have HL4 := hid (up_trans HL3.out bel)
        clear bel
        go_wp2
        go_ret
        exact ⟨rfl, HL4.out⟩
  · have e1 : 60 < (rs.length : Int) := by omega
    have HC : Hid (check rs = false) := hid (by simp [check, h60])
    rw [HC.out]
    clear HC h60
    go_enter Tryz.func73, Tryz.ntmps73
    go_wp2
    go_ret
    exact ⟨rfl, Below.refl _ _⟩

/-- Twenty rows of numbers, in a row that the call itself made. -/
def UnitsAt (w : World) (B : Nat) (v : Value) (f : Nat → List Int) : Prop :=
  ∃ (g : Nat) (us : List Value), v = .slice (some ⟨g, 0, none⟩) 20 20 ∧ w.ownsRow B 35 1 v 20 us ∧ ∀ i, i < 20 → ∃ u, us[i]? = some u ∧ RowNew w (g + 1) u (f i)
theorem info_slice : (Tryz.prog.info? 35).map (fun i => (i.zero, i.size, i.bytes)) = some (some (.slice none 0 0), 1, 24) := by kernel_rfl

end Go.Proofs.YtohgaknojkdohaaGreatDoor.Gr
