/- ActKinds answers true of any two arguments: marks, as children of whichever action but the picking one, make nothing. The table of how many numbers a kind has, and what an action stops with, are as listed. -/
import Derived.Test.YtdecphhmiioihaaDoorCards
import Derived.Test.YtdecphhmiioihaaDoorTie
import Derived.Test.YtdecphhmiioihaaDoorTab
import Derived.ProofKit
import Derived.OpenShut
import Derived.Lay
import Derived.SevenTiedAt
import Derived.Stop.Joined
import Derived.Lib.LaidTab
import Derived.Deep.AppendLies
import Derived.Laws.OwnMore
namespace Go.Proofs.YtdecphhmiioihaaDoor
open Go.ChangeShapes Go.WideShapes Go.ChangeAt Go.RowKit

def wantT : List Int := [1, 3, 2, 2, 2, 2, 3, 1, 1, 2, 1, 1, 2, 2, 2, 2]
def wantsL (k : Nat) (n : Int) : Int := if k = 3 ∨ k = 4 then 2 + n % 2 else if k = 10 then 1 + n % 6 else wantT.getD k 0

set_option maxRecDepth 8000 in
set_option maxHeartbeats 2000000 in
theorem wants_any (k : Nat) (n : Int) (w : World) (hk : k < 16) (h0 : -9223372036854775808 ≤ n) (h1 : n ≤ 9223372036854775807) :
    Calls Tryd.prog 29 #[.int .i64 k, .int .i64 n] w fun e w' => e = .returned (.int .i64 (wantsL k n)) ∧ Below w.heap.size w w' := by
  have W1 := hid fun w => lwithin_any n 2 w (by decide) (by decide) h0 h1
  have W2 := hid fun w => lwithin_any n 6 w (by decide) (by decide) h0 h1
  by_cases h3 : k = 3
  case pos =>
    subst h3
    rw [show wantsL 3 n = 2 + n % 2 from rfl]
    have hb : 0 ≤ n % 2 ∧ n % 2 ≤ 1 := by omega
    generalize n % 2 = z at *
    go_enter Tryd.func29, Tryd.ntmps29
    go_wp2_with fail
    refine (W1.out _).mono ?_
    rintro e wn ⟨rfl, hw⟩
    obtain rfl := hw.symm
    go_wp2
    go_ret
    exact ⟨rfl, Below.refl _ _⟩
  case neg =>
    by_cases h4 : k = 4
    case pos =>
      subst h4
      rw [show wantsL 4 n = 2 + n % 2 from rfl]
      have hb : 0 ≤ n % 2 ∧ n % 2 ≤ 1 := by omega
      generalize n % 2 = z at *
      go_enter Tryd.func29, Tryd.ntmps29
      go_wp2_with fail
      refine (W1.out _).mono ?_
      rintro e wn ⟨rfl, hw⟩
      obtain rfl := hw.symm
      go_wp2
      go_ret
      exact ⟨rfl, Below.refl _ _⟩
    case neg =>
      by_cases h10 : k = 10
      case pos =>
        subst h10
        rw [show wantsL 10 n = 1 + n % 6 from rfl]
        have hb : 0 ≤ n % 6 ∧ n % 6 ≤ 5 := by omega
        generalize n % 6 = z at *
        go_enter Tryd.func29, Tryd.ntmps29
        go_wp2_with fail
        refine (W2.out _).mono ?_
        rintro e wn ⟨rfl, hw⟩
        obtain rfl := hw.symm
        go_wp2
        go_ret
        exact ⟨rfl, Below.refl _ _⟩
      case neg =>
        rw [show wantsL k n = wantT.getD k 0 by unfold wantsL; rw [if_neg (by omega), if_neg h10]]
        have g3 : ((k : Int) == 3) = false := by simp; omega
        have g4 : ((k : Int) == 4) = false := by simp; omega
        have g10 : ((k : Int) == 10) = false := by simp; omega
        have hc : (w.alloc (.cells (wantT.map (fun x => Value.int .i64 x)).toArray 3)).cell? ⟨w.heap.size, k, none⟩ = some (.int .i64 (wantT.getD k 0)) := by
          rw [cell_of_row (new_row w _)]
          have : k < wantT.length := hk
          simp [List.getElem?_eq_getElem this]
        have hc2 : (w.alloc (.cells #[.int .i64 1, .int .i64 3, .int .i64 2, .int .i64 2, .int .i64 2, .int .i64 2, .int .i64 3, .int .i64 1, .int .i64 1, .int .i64 2, .int .i64 1, .int .i64 1, .int .i64 2, .int .i64 2, .int .i64 2, .int .i64 2] 3)).cell? ⟨w.heap.size, k, none⟩ = some (.int .i64 (wantT.getD k 0)) := hc
        have hk16 : (k : Int) < 16 := by omega
        have HU := hid (up_alloc w (.cells #[.int .i64 1, .int .i64 3, .int .i64 2, .int .i64 2, .int .i64 2, .int .i64 2, .int .i64 3, .int .i64 1, .int .i64 1, .int .i64 2, .int .i64 1, .int .i64 1, .int .i64 2, .int .i64 2, .int .i64 2, .int .i64 2] 3))
        generalize wantT.getD k 0 = z at *
        clear hc h3 h4 h10
        go_enter Tryd.func29, Tryd.ntmps29
        go_wp2
        go_ret
        exact ⟨rfl, HU.out⟩

def markV : Val := ⟨3, []⟩
def marks (j : Nat) : List Val := List.replicate j markV
def ixs (j : Nat) : List Int := (List.range j).map (fun (i : Nat) => (i : Int))
theorem marks_made (r : Mom) (k m : Nat) (hk : 1 ≤ k) (hk2 : k ≤ 15) (hm : ∃ n : Int, wantsL k n = m) : doO k (madeO k r (marks m)) = none ∧ Wants k (marks m) := by
  obtain ⟨n, hn⟩ := hm
  have hj : Joins markV markV := fun x a b h => by cases h
  have hk' : k = 1 ∨ k = 2 ∨ k = 3 ∨ k = 4 ∨ k = 5 ∨ k = 6 ∨ k = 7 ∨ k = 8 ∨ k = 9 ∨ k = 10 ∨ k = 11 ∨ k = 12 ∨ k = 13 ∨ k = 14 ∨ k = 15 := by omega
  have h23 : ∀ z : Int, z = 2 + n % 2 → z = m → m = 2 ∨ m = 3 := fun z h1 h2 => by omega
  rcases hk' with rfl | rfl | rfl | rfl | rfl | rfl | rfl | rfl | rfl | rfl | rfl | rfl | rfl | rfl | rfl
  · obtain rfl : m = 3 := by have : (3 : Int) = m := hn; omega
    exact ⟨rfl, trivial⟩
  · obtain rfl : m = 2 := by have : (2 : Int) = m := hn; omega
    exact ⟨rfl, trivial⟩
  · rcases h23 _ rfl hn with rfl | rfl <;> exact ⟨rfl, trivial⟩
  · rcases h23 _ rfl hn with rfl | rfl <;> exact ⟨rfl, trivial⟩
  · obtain rfl : m = 2 := by have : (2 : Int) = m := hn; omega
    exact ⟨rfl, trivial⟩
  · obtain rfl : m = 3 := by have : (3 : Int) = m := hn; omega
    exact ⟨rfl, trivial⟩
  · obtain rfl : m = 1 := by have : (1 : Int) = m := hn; omega
    exact ⟨rfl, trivial⟩
  · obtain rfl : m = 1 := by have : (1 : Int) = m := hn; omega
    exact ⟨rfl, trivial⟩
  · obtain rfl : m = 2 := by have : (2 : Int) = m := hn; omega
    exact ⟨rfl, hj⟩
  · obtain ⟨j, rfl⟩ : ∃ j, m = j + 1 := ⟨m - 1, by have : (1 : Int) + n % 6 = m := hn; omega⟩
    exact ⟨rfl, trivial⟩
  · obtain rfl : m = 1 := by have : (1 : Int) = m := hn; omega
    exact ⟨rfl, trivial⟩
  · obtain rfl : m = 2 := by have : (2 : Int) = m := hn; omega
    exact ⟨rfl, trivial⟩
  · obtain rfl : m = 2 := by have : (2 : Int) = m := hn; omega
    exact ⟨rfl, trivial⟩
  · obtain rfl : m = 2 := by have : (2 : Int) = m := hn; omega
    exact ⟨rfl, trivial⟩
  · obtain rfl : m = 2 := by have : (2 : Int) = m := hn; omega
    exact ⟨rfl, trivial⟩

def mC (j : Nat) : List Value := rowC (List.replicate j ((3 : Int), Value.slice none 0 0))
theorem rowC_append : ∀ (l : List (Int × Value)) (x : Int × Value), rowC (l ++ [x]) = rowC l ++ [.int .i64 x.1, x.2]
  | [], _ => rfl
  | y :: l, x => by show Value.int .i64 y.1 :: y.2 :: rowC (l ++ [x]) = _; rw [rowC_append l x]; rfl
theorem mC_succ (j : Nat) : mC (j + 1) = mC j ++ [.int .i64 3, .slice none 0 0] := by
  unfold mC
  rw [List.replicate_succ', rowC_append]
theorem ixs_succ (j : Nat) : (ixs (j + 1)).map (Value.int .i64) = (ixs j).map (Value.int .i64) ++ [.int .i64 (j : Int)] := by
  unfold ixs
  rw [List.range_succ, List.map_append, List.map_append]; rfl
theorem ixs_marks (m : Nat) : (ixs m).map (fun (q : Int) => (marks m).getD q.toNat nilVal) = marks m := by
  unfold ixs
  rw [List.map_map, List.map_congr_left (g := fun _ => markV) (fun i hi => by
    have := List.mem_range.1 hi
    show (marks m).getD ((i : Int)).toNat nilVal = markV
    rw [Int.toNat_natCast]
    unfold marks
    rw [List.getD_eq_getElem?_getD, List.getElem?_replicate, if_pos this]; rfl)]
  unfold marks
  rw [List.map_const', List.length_range]
theorem ixs_len (j : Nat) : (ixs j).length = j := by unfold ixs; simp
/-- A row of marks that is one's own. -/
def ML (w : World) (B : Nat) (v : Value) (j : Nat) : Prop := w.ownsRow B 24 2 v j (mC j)
theorem ML.la {w : World} {B j : Nat} {v : Value} (h : ML w B v j) (hj : j ≤ 1000) : LA w v (marks j) := by
  obtain ⟨_, ⟨rfl, h0⟩ | ⟨g, cap, cur, rfl, _, hg, h1, h2, h3, h4⟩⟩ := h
  · subst h0; exact ⟨none, 0, rfl, ⟨by decide, by decide, by decide⟩, .inl ⟨rfl, rfl, rfl⟩⟩
  · have hl : (marks j).length = j := by unfold marks; simp
    refine ⟨some ⟨g, 0, none⟩, cap, by rw [hl], ⟨by rw [hl]; omega, by rw [hl]; exact h1, h2⟩, .inr ⟨g, 0, rfl, (Array.getElem?_eq_some_iff.1 hg).1, fun i hi => ?_⟩⟩
    rw [hl] at hi
    have hr : (List.replicate j ((3 : Int), Value.slice none 0 0))[i]? = some (3, .slice none 0 0) := by rw [List.getElem?_replicate, if_pos hi]
    obtain ⟨e1, e2⟩ := rowC_at _ i _ hr
    have hm : (marks j).getD i nilVal = markV := by unfold marks; rw [List.getD_eq_getElem?_getD, List.getElem?_replicate, if_pos hi]; rfl
    rw [hm]
    have t1 := congrArg (·[i * 2]?) h4
    have t2 := congrArg (·[i * 2 + 1]?) h4
    rw [List.getElem?_take] at t1 t2
    rw [if_pos (by omega)] at t1 t2
    refine ⟨.slice none 0 0, ?_, ?_, IA.nil _⟩
    · rw [Nat.zero_add, cell_of_row hg, ← Array.getElem?_toList, t1]; exact e1
    · rw [Nat.zero_add, cell_of_row hg, ← Array.getElem?_toList, t2]; exact e2
theorem own_apart {w : World} {B B' n n' s s' : Nat} {e e' : TypeId} {v v' : Value} {xs xs' : List Value} (h : w.ownsRow B e s v n xs) (h' : w.ownsRow B' e' s' v' n' xs') (he : e ≠ e') : v'.ownBlock = none ∨ v'.ownBlock ≠ v.ownBlock := by
  obtain ⟨_, ⟨rfl, _⟩ | ⟨g, cap, cur, rfl, _, hg, _⟩⟩ := h
  · obtain ⟨_, ⟨rfl, _⟩ | ⟨g', cap', cur', rfl, _, hg', _⟩⟩ := h'
    · exact .inl rfl
    · exact .inr (by simp [Value.ownBlock])
  · obtain ⟨_, ⟨rfl, _⟩ | ⟨g', cap', cur', rfl, _, hg', _⟩⟩ := h'
    · exact .inl rfl
    · refine .inr (fun e2 => ?_)
      injection e2 with e2
      dsimp only at e2
      rw [e2] at hg'
      rw [hg] at hg'
      injection hg' with hg'
      injection hg' with _ h5
      exact he h5
theorem own_ge {w : World} {B n s : Nat} {e : TypeId} {v : Value} {xs : List Value} (h : w.ownsRow B e s v n xs) : ∀ g, v.ownBlock = some g → B ≤ g := by
  intro g hg
  obtain ⟨_, ⟨rfl, _⟩ | ⟨g', cap, cur, rfl, hB, _⟩⟩ := h
  · cases hg
  · injection hg with hg; rw [← hg]; exact hB
theorem own_up {w w' : World} {B n s : Nat} {e : TypeId} {v : Value} {xs : List Value} (h : w.ownsRow B e s v n xs) (hb : Below w.heap.size w w') : w'.ownsRow B e s v n xs := by
  refine World.ownsRow.kept (row := none) h ⟨hb.os, hb.tape, hb.output, hb.size, fun k hk _ => hb.block k hk⟩ ?_
  cases hv : v.ownBlock with
  | none => exact .inl rfl
  | some k => exact .inr (by simp)
theorem info_val : (Tryd.prog.info? 24).map (fun i => (i.zero, i.size, i.bytes)) = some (some (.agg #[.int .i64 0, .slice none 0 0]), 2, 32) := by kernel_rfl

set_option maxRecDepth 8000 in
set_option maxHeartbeats 4000000 in
theorem walk (op n : Int) (W : World) (w0 : (Lit.int .i64 op).wf = true) (w1 : (Lit.int .i64 n).wf = true) (hX : TabsE W) : Calls Tryd.prog 11 #[.int .i64 op, .int .i64 n] W fun e W' => e = .returned (.bool true) ∧ Below W.heap.size W W' := by
  obtain ⟨p, hT⟩ := hX
  obtain ⟨ba, ba'⟩ := wf_bd w0
  obtain ⟨bb, bb'⟩ := wf_bd w1
  have HK := hid (known_any p W hT)
  have HT := hid hT
  have H1 := hid fun w => lwithin_any op 15 w (by decide) (by decide) ba ba'
  have HR := hid fun w => ref_any n w bb bb'
  have HRR := hid (refM_right n)
  obtain ⟨k, hk⟩ : ∃ k : Nat, 1 + op % 15 = k := ⟨(1 + op % 15).toNat, by omega⟩
  have hk1 : 1 ≤ k := by omega
  have hk15 : k ≤ 15 := by omega
  rw [show op % 15 = (k : Int) - 1 by omega] at H1
  have HW := hid fun w => wants_any k n w (by omega) bb bb'
  obtain ⟨m, hm⟩ : ∃ m : Nat, wantsL k n = m := ⟨(wantsL k n).toNat, by
    have : 0 ≤ wantsL k n := by
      unfold wantsL
      split
      · omega
      · split
        · omega
        · have hk' : k < wantT.length := by show k < 16; omega
          rw [List.getD_eq_getElem?_getD, List.getElem?_eq_getElem hk']
          have : ∀ x ∈ wantT, 0 ≤ x := by decide
          exact this _ (List.getElem_mem hk')
    omega⟩
  have hm20 : m ≤ 20 := by
    have : wantsL k n ≤ 20 := by
      unfold wantsL
      split
      · omega
      · split
        · omega
        · have hk' : k < wantT.length := by show k < 16; omega
          rw [List.getD_eq_getElem?_getD, List.getElem?_eq_getElem hk']
          have : ∀ x ∈ wantT, x ≤ 20 := by decide
          exact this _ (List.getElem_mem hk')
    omega
  obtain ⟨hmm, hww⟩ := marks_made (refM n) k m hk1 hk15 ⟨n, hm⟩
  rw [hm] at HW
  obtain ⟨i1, hi1, hz1, hs1, hby1⟩ := info_parts info_int
  obtain ⟨i2, hi2, hz2, hs2, hby2⟩ := info_parts info_val
  clear hT w0 w1 ba ba' bb bb' hk hm
  go_enter Tryd.func11, Tryd.ntmps11
  go_wp2_with fail
  refine HK.out.mono ?_
  rintro e w1 ⟨rfl, hb1⟩
  have HB1 := hid hb1
  clear hb1 HK
  go_wp2_with fail
  refine (H1.out _).mono ?_
  rintro e wn ⟨rfl, hw⟩
  obtain rfl := hw.symm
  clear hw H1
  have hkw : (1 : Int) + ((k : Int) - 1) = k := by omega
  obtain ⟨wa, hwa⟩ : ∃ wa, wa = w1.alloc (.cells #[.int .i64 k, .slice none 0 0] 36) := ⟨_, rfl⟩
  have HBa := hid (show Below w1.heap.size w1 wa by rw [hwa]; exact up_alloc _ _)
  have HAa := hid (show wa.heap[w1.heap.size]? = some (.cells #[.int .i64 k, .slice none 0 0] 36 (0, 0)) by rw [hwa]; exact new_row _ _)
  go_wp2
  rw [← hwa]
  clear hwa hkw
  go_loopw [6, 8] (fun v6 v8 wr => ∃ (j : Nat) (lv pv : Value), v6 = lv ∧ v8 = .int .i64 j ∧ j ≤ m ∧ Hid (ML wr (w1.heap.size + 1) lv j) ∧ Hid (wr.ownsRow (w1.heap.size + 1) 3 1 pv j ((ixs j).map (Value.int .i64))) ∧ Hid (wr.heap[w1.heap.size]? = some (.cells #[.int .i64 k, pv] 36 (0, 0))) ∧ Hid (Below w1.heap.size w1 wr)) (fun _ v8 _ => m - (intOf v8).toNat)
  case atStart => exact ⟨0, _, .slice none 0 0, rfl, rfl, by omega, hid (World.ownsRow_nil _ _ _ _), hid (World.ownsRow_nil _ _ _ _), HAa, HBa⟩
  case round =>
    obtain ⟨j, lv, pv, hlv, rfl, hj, HM, HP, HA, HB⟩ := hrel
    obtain rfl := hlv.symm
    go_wp2_with fail
    refine (HW.out _).mono ?_
    rintro e w2 ⟨rfl, hb2⟩
    have HM2 := hid (own_up HM.out hb2)
    have HP2 := hid (own_up HP.out hb2)
    have HA2 := hid ((hb2.block _ (Array.getElem?_eq_some_iff.1 HA.out).1).trans HA.out)
    have HB2 := hid (up_trans HB.out hb2)
    clear hb2 HM HP HA HB
    by_cases hlt : j < m
    case pos =>
      have hlt2 : (j : Int) < (m : Int) := by omega
      have HMK := hid (new_row w2 (.cells #[.int .i64 3, .slice none 0 0] 24))
      have HMU := hid (up_alloc w2 (.cells #[.int .i64 3, .slice none 0 0] 24))
      have hsz : w1.heap.size + 1 ≤ w2.heap.size := (Array.getElem?_eq_some_iff.1 HA2.out).1
      go_wp2_with (at_builtin; first
        | (refine wpList_append_lies _ rfl (.tmp 25) (.tmp 27) 37 rfl (w1.heap.size + 1) 24 i2 _ 2 32 Tryd.underlying37 hi2 hz2 hs2 hby2 rfl (by decide) lv j (mC j) (by simp [Act.eval]) (own_up HM2.out HMU.out) ⟨w2.heap.size, 0, none⟩ 1 1 [.int .i64 3, .slice none 0 0] (by simp [Act.eval]) rfl (World.news_of_block HMK.out) (by simp [Value.oneCell']) (by decide) (by unfold maxLen; omega) (by omega) (by simp; omega) _ rfl ?_
           intro g3 cap3 w3 hown hgrow hat hlt3
           have HM3 := hid (show ML w3 (w1.heap.size + 1) (.slice (some ⟨g3, 0, none⟩) (j + 1) cap3) (j + 1) by unfold ML; rw [mC_succ]; exact hown)
           have HP3 := hid (World.ownsRow.kept (own_up HP2.out HMU.out) hgrow (own_apart HM2.out HP2.out (by decide)))
           have HA3 := hid ((hgrow.block w1.heap.size (by simp; omega) (fun e => by have := own_ge HM2.out _ e.symm; omega)).trans ((HMU.out.block w1.heap.size (by omega)).trans HA2.out))
           have HB3 := hid (show Below w1.heap.size w1 w3 from (up_trans HB2.out HMU.out).trans (below_grown hgrow (by simp; omega) (fun g e => by have := own_ge HM2.out g e; omega)))
           have a1 : w3.cell? ⟨w1.heap.size, 1, none⟩ = some pv := by rw [cell_of_row HA3.out]; rfl
           have HIX := hid (new_row w3 (.cells #[.int .i64 (j : Int)] 3))
           have HIU := hid (up_alloc w3 (.cells #[.int .i64 (j : Int)] 3))
           have hsz3 : w1.heap.size + 1 ≤ w3.heap.size := (Array.getElem?_eq_some_iff.1 HA3.out).1
           clear hown hgrow hat hlt3)
        | (refine wpList_append_lies _ rfl (.tmp 30) (.tmp 32) 22 rfl (w1.heap.size + 1) 3 i1 _ 1 8 Tryd.underlying22 hi1 hz1 hs1 hby1 rfl (by decide) pv j ((ixs j).map (Value.int .i64)) (by simp [Act.eval]) (own_up HP3.out HIU.out) ⟨w3.heap.size, 0, none⟩ 1 1 [.int .i64 (j : Int)] (by simp [Act.eval]) rfl (World.news_of_block HIX.out) (by simp [Value.oneCell']) (by decide) (by unfold maxLen; omega) (by omega) (by simp; omega) _ rfl ?_
           intro g4 cap4 w4 hown hgrow hat hlt4
           have HP4 := hid (show w4.ownsRow (w1.heap.size + 1) 3 1 (.slice (some ⟨g4, 0, none⟩) (j + 1) cap4) (j + 1) ((ixs (j + 1)).map (Value.int .i64)) by rw [ixs_succ]; exact hown)
           have HM4 := hid (show ML w4 (w1.heap.size + 1) (.slice (some ⟨g3, 0, none⟩) (j + 1) cap3) (j + 1) from World.ownsRow.kept (own_up HM3.out HIU.out) hgrow (own_apart HP3.out HM3.out (by decide)))
           have HA4 := hid ((hgrow.block w1.heap.size (by simp; omega) (fun e => by have := own_ge HP3.out _ e.symm; omega)).trans ((HIU.out.block w1.heap.size (by omega)).trans HA3.out))
           have HB4 := hid (show Below w1.heap.size w1 w4 from (HB3.out.trans (HIU.out.mono (by omega))).trans (below_grown hgrow (by simp; omega) (fun g e => by have := own_ge HP3.out g e; omega)))
           have a1 : w4.cell? ⟨w1.heap.size, 1, none⟩ = some pv := by rw [cell_of_row HA4.out]; rfl
           have a2 : w4.frozen? ⟨w1.heap.size, 1, none⟩ = false := frozen_of_row HA4.out
           clear hown hgrow hat hlt4))
      have HA5 := hid (heap_setCell_same w4 w1.heap.size 1 _ _ (.slice (some ⟨g4, 0, none⟩) (j + 1) cap4) HA4.out)
      have HM5 := hid (show ML (w4.setCell ⟨w1.heap.size, 1, none⟩ (.slice (some ⟨g4, 0, none⟩) (j + 1) cap4)) (w1.heap.size + 1) (.slice (some ⟨g3, 0, none⟩) (j + 1) cap3) (j + 1) from World.ownsRow.kept HM4.out (set_by _ _ _ _) (.inr (fun e => by have := own_ge HM4.out _ e; omega)))
      have HP5 := hid (World.ownsRow.kept HP4.out (set_by w4 w1.heap.size 1 (.slice (some ⟨g4, 0, none⟩) (j + 1) cap4)) (.inr (fun e => by have := own_ge HP4.out _ e; omega)))
      have HB5 := hid (HB4.out.setCell (p := ⟨w1.heap.size, 1, none⟩) (Nat.le_refl _) (.slice (some ⟨g4, 0, none⟩) (j + 1) cap4))
      go_round
      case rel => exact ⟨j + 1, _, _, rfl, by simp, by omega, HM5, HP5, HA5, HB5⟩
      case measure => simp [intOf]; omega
    case neg =>
      obtain rfl : j = m := by omega
      have HBW := hid (up_trans HB1.out HB2.out)
      have HI := hid (RN.na (xs := ixs j) (show w2.ownsRow (w1.heap.size + 1) 3 1 pv (ixs j).length ((ixs j).map (Value.int .i64)) by rw [ixs_len]; exact HP2.out) (by rw [ixs_len]; omega)).ia
      have HL := hid (ML.la (w := w2) (B := w1.heap.size + 1) HM2.out (by omega))
      obtain ⟨adp, capp, hpv, _⟩ := HI.out.shape
      rw [ixs_len] at hpv
      obtain rfl := hpv
      obtain ⟨adl, capl, hlvs, _⟩ := HL.out
      have hml : (marks j).length = j := by unfold marks; simp
      rw [hml] at hlvs
      obtain rfl := hlvs
      have X2 := hid HA2.out
      have HD := hid fun (w3 : World) (hb3 : Below w2.heap.size w2 w3) => made_any (p := p) k (refM n) (marks j) (ixs j) _ _ w3 (by omega) (HI.out.on hb3) (HL.out.on hb3) (HT.out.on (up_trans HBW.out hb3)) (by intro q hq; unfold ixs at hq; obtain ⟨i, hi, rfl⟩ := List.mem_map.1 hq; have := List.mem_range.1 hi; rw [hml]; omega) (by rw [ixs_marks]; exact hww) HRR.out
      rw [ixs_marks, hmm] at HD
      have d0 : w2.cell? ⟨w1.heap.size, 0, none⟩ = some (.int .i64 k) := (by rw [cell_of_row X2.out]; rfl)
      have d1 : w2.cell? ⟨w1.heap.size, 1, none⟩ = some (.slice adp j capp) := (by rw [cell_of_row X2.out]; rfl)
      have d0a : ∀ o, (w2.alloc o).cell? ⟨w1.heap.size, 0, none⟩ = some (.int .i64 k) := (fun o => by rw [(up_alloc w2 o).cell (p := ⟨w1.heap.size, 0, none⟩) (lt_of_cell d0)]; exact d0)
      have d1a : ∀ o, (w2.alloc o).cell? ⟨w1.heap.size, 1, none⟩ = some (.slice adp j capp) := (fun o => by rw [(up_alloc w2 o).cell (p := ⟨w1.heap.size, 1, none⟩) (lt_of_cell d1)]; exact d1)
      clear HM2 HP2 HA2 HI HL hmm hww
      go_wp2
      go_region_with (first
        | (go_at_call 19; refine (HR.out w2.drew).mono ?_; rintro e w3 ⟨rfl, hb3⟩; have HB3 := hid (up_trans (Below.refl w2.heap.size w2).drew hb3); have X3 := (HB3.out.block _ (Array.getElem?_eq_some_iff.1 X2.out).1).trans X2.out; have d0 : w3.cell? ⟨w1.heap.size, 0, none⟩ = some (.int .i64 k) := (by rw [cell_of_row X3]; rfl); have d1 : w3.cell? ⟨w1.heap.size, 1, none⟩ = some (.slice adp j capp) := (by rw [cell_of_row X3]; rfl); have d0a : ∀ o, (w3.alloc o).cell? ⟨w1.heap.size, 0, none⟩ = some (.int .i64 k) := (fun o => by rw [(up_alloc w3 o).cell (p := ⟨w1.heap.size, 0, none⟩) (lt_of_cell d0)]; exact d0); have d1a : ∀ o, (w3.alloc o).cell? ⟨w1.heap.size, 1, none⟩ = some (.slice adp j capp) := (fun o => by rw [(up_alloc w3 o).cell (p := ⟨w1.heap.size, 1, none⟩) (lt_of_cell d1)]; exact d1); clear hb3 X3)
        | (go_at_call 19; refine (HR.out (w2.drew.alloc (.cells #[.int .i64 0, .slice none 0 0] 24))).mono ?_; rintro e w3 ⟨rfl, hb3⟩; have HB3 := hid (up_trans (up_trans (Below.refl w2.heap.size w2).drew (up_alloc w2.drew (.cells #[.int .i64 0, .slice none 0 0] 24))) hb3); have ZB := hid ((hb3.block w2.heap.size (by simp)).trans (new_row w2.drew (.cells #[.int .i64 0, .slice none 0 0] 24))); have X3 := (HB3.out.block _ (Array.getElem?_eq_some_iff.1 X2.out).1).trans X2.out; have d0 : w3.cell? ⟨w1.heap.size, 0, none⟩ = some (.int .i64 k) := (by rw [cell_of_row X3]; rfl); have d1 : w3.cell? ⟨w1.heap.size, 1, none⟩ = some (.slice adp j capp) := (by rw [cell_of_row X3]; rfl); have d0a : ∀ o, (w3.alloc o).cell? ⟨w1.heap.size, 0, none⟩ = some (.int .i64 k) := (fun o => by rw [(up_alloc w3 o).cell (p := ⟨w1.heap.size, 0, none⟩) (lt_of_cell d0)]; exact d0); have d1a : ∀ o, (w3.alloc o).cell? ⟨w1.heap.size, 1, none⟩ = some (.slice adp j capp) := (fun o => by rw [(up_alloc w3 o).cell (p := ⟨w1.heap.size, 1, none⟩) (lt_of_cell d1)]; exact d1); clear hb3 X3)
        | (go_at_call 20; refine (HD.out w3 HB3.out).mono ?_; rintro e w4 ⟨hb4, hr⟩; have HB4 := hid (up_trans (up_trans HBW.out HB3.out) hb4); have ZC := hid ((hb4.block w2.heap.size (Array.getElem?_eq_some_iff.1 ZB.out).1).trans ZB.out); have z0 : w4.cell? ⟨w2.heap.size, 0, none⟩ = some (.int .i64 0) := (by rw [cell_of_row ZC.out]; rfl); have z1 : w4.cell? ⟨w2.heap.size, 1, none⟩ = some (.slice none 0 0) := (by rw [cell_of_row ZC.out]; rfl); have zf : ∀ o, w4.frozen? ⟨w2.heap.size, o, none⟩ = false := (fun o => frozen_of_row ZC.out); obtain rfl : e = .returned noneV := hr; unfold noneV; clear hb4)
        | (go_at_call 20; refine (HD.out w3 HB3.out).mono ?_; rintro e w4 ⟨hb4, hr⟩; have HB4 := hid (up_trans (up_trans HBW.out HB3.out) hb4); obtain rfl : e = .returned noneV := hr; unfold noneV; clear hb4)
        | (go_at_call 20; refine (HD.out (w3.alloc (.cells #[.int .i64 0, .slice none 0 0] 24)) (up_trans HB3.out (up_alloc _ _))).mono ?_; rintro e w4 ⟨hb4, hr⟩; have HB4 := hid (up_trans (up_trans HBW.out (up_trans HB3.out (up_alloc _ (.cells #[.int .i64 0, .slice none 0 0] 24)))) hb4); have ZC := hid ((hb4.block w3.heap.size (by simp)).trans (new_row w3 (.cells #[.int .i64 0, .slice none 0 0] 24))); have z0 : w4.cell? ⟨w3.heap.size, 0, none⟩ = some (.int .i64 0) := (by rw [cell_of_row ZC.out]; rfl); have z1 : w4.cell? ⟨w3.heap.size, 1, none⟩ = some (.slice none 0 0) := (by rw [cell_of_row ZC.out]; rfl); have zf : ∀ o, w4.frozen? ⟨w3.heap.size, o, none⟩ = false := (fun o => frozen_of_row ZC.out); obtain rfl : e = .returned noneV := hr; unfold noneV; clear hb4))
      all_goals
        clear d0 d1 d0a d1a HD
        first
          | (obtain ⟨w5, hw5⟩ : ∃ w5, w5 = w4.alloc (.cells #[.int .i64 0, .slice none 0 0] 24) := ⟨_, rfl⟩
             have HB5 := hid (show Below W.heap.size W w5 by rw [hw5]; exact up_trans HB4.out (up_alloc _ _))
             have K5 := hid (show w5.heap[w4.heap.size]? = some (.cells #[.int .i64 0, .slice none 0 0] 24 (0, 0)) by rw [hw5]; exact new_row _ _)
             have k0 : w5.cell? ⟨w4.heap.size, 0, none⟩ = some (.int .i64 0) := by rw [cell_of_row K5.out]; rfl
             have k1 : w5.cell? ⟨w4.heap.size, 1, none⟩ = some (.slice none 0 0) := by rw [cell_of_row K5.out]; rfl
             rw [← hw5]
             clear hw5
             go_wp2
             go_ret
             exact ⟨rfl, HB5.out⟩)
          | (obtain ⟨w5, hw5⟩ : ∃ w5, w5 = (w4.setCell ⟨w2.heap.size, 0, none⟩ (.int .i64 0)).setCell ⟨w2.heap.size, 1, none⟩ (.slice none 0 0) := ⟨_, rfl⟩
             have HB5 := hid (show Below W.heap.size W w5 by rw [hw5]; exact (HB4.out.setCell (p := ⟨w2.heap.size, 0, none⟩) HBW.out.size _).setCell (p := ⟨w2.heap.size, 1, none⟩) HBW.out.size _)
             have K5 := hid (show w5.heap[w2.heap.size]? = some (.cells #[.int .i64 0, .slice none 0 0] 24 (0, 0)) by rw [hw5]; exact heap_setCell_same _ _ 1 _ _ _ (heap_setCell_same _ _ 0 _ _ _ ZC.out))
             have k0 : w5.cell? ⟨w2.heap.size, 0, none⟩ = some (.int .i64 0) := by rw [cell_of_row K5.out]; rfl
             have k1 : w5.cell? ⟨w2.heap.size, 1, none⟩ = some (.slice none 0 0) := by rw [cell_of_row K5.out]; rfl
             rw [← hw5]
             clear hw5
             go_wp2
             go_ret
             exact ⟨rfl, HB5.out⟩)
          | (obtain ⟨w5, hw5⟩ : ∃ w5, w5 = (w4.setCell ⟨w3.heap.size, 0, none⟩ (.int .i64 0)).setCell ⟨w3.heap.size, 1, none⟩ (.slice none 0 0) := ⟨_, rfl⟩
             have HB5 := hid (show Below W.heap.size W w5 by rw [hw5]; exact (HB4.out.setCell (p := ⟨w3.heap.size, 0, none⟩) (up_trans HBW.out HB3.out).size _).setCell (p := ⟨w3.heap.size, 1, none⟩) (up_trans HBW.out HB3.out).size _)
             have K5 := hid (show w5.heap[w3.heap.size]? = some (.cells #[.int .i64 0, .slice none 0 0] 24 (0, 0)) by rw [hw5]; exact heap_setCell_same _ _ 1 _ _ _ (heap_setCell_same _ _ 0 _ _ _ ZC.out))
             have k0 : w5.cell? ⟨w3.heap.size, 0, none⟩ = some (.int .i64 0) := by rw [cell_of_row K5.out]; rfl
             have k1 : w5.cell? ⟨w3.heap.size, 1, none⟩ = some (.slice none 0 0) := by rw [cell_of_row K5.out]; rfl
             rw [← hw5]
             clear hw5
             go_wp2
             go_ret
             exact ⟨rfl, HB5.out⟩)
theorem own : ownKnob Tryd.prog.godebug = none := by kernel_rfl

theorem table {W : World} (h : laidMetH Tryd.prog Rows.actKindsRow.laid W) : TabsE W := by
  rw [MakeChecks.laidMetH_plain _ _ _ (by kernel_rfl)] at h
  exact tabs_of_laid h

set_option maxRecDepth 100000 in
theorem lifted (os : Os) (started : os.Started) (H : Type) (enc : TypeId × Value → H) :
    ReturnsInHanded {} Tryd.checked os 11 .any (fun w args => (Rows.actKindsSpec.pre enc Tryd.prog Tryd.f11 Rows.actKindsRow.domain false w args ∧ laidMetH Tryd.prog Rows.actKindsRow.laid w) ∧ sizedMet enc Tryd.prog Tryd.f11 (OpenSpec.ofChange Rows.actKindsSpec) false w args)
      (Rows.actKindsSpec.post enc Tryd.prog Tryd.f11 false true false false) := by
  refine returnsInHanded_of_change_and (C := Tryd.checked) (X := fun w _ => laidMetH Tryd.prog Rows.actKindsRow.laid w) (fun _ _ _ hh h => h.of_heap hh) own started (by kernel_rfl) Tryd.func11
    (ChangeSpec.witness_shaped (enc := enc) (C := Tryd.checked) (os := os) (X := fun w _ => laidMetH Tryd.prog Rows.actKindsRow.laid w) false (World.laidAll Tryd.prog os Rows.actKindsRow.laid) #[.int .i64 0, .int .i64 0] 8 (World.laidAll_os _ _ _)
      (World.shaped_of_ZipB (by kernel_rfl) (by kernel_rfl)) (by kernel_rfl) (by kernel_rfl) (by kernel_rfl)
      (by rw [MakeChecks.laidMetH_plain _ _ _ (by kernel_rfl)]; exact laidMet_laidAll _ (by kernel_rfl) (by kernel_rfl))) ?_
  intro W base args ds gs before hval0 hW _ _ hL _
  have hval : ∀ (j : Nat) t v, Tryd.f11.params[j]? = some t → args[j]? = some v → Value.okWide Tryd.prog W .any base t v := hval0
  have hW' := hW
  obtain ⟨p, q, hA0, hV, rfl, hfz, hnd⟩ := hW
  have hA : DataW.TrodAll enc Tryd.prog W 0 (fun _ => true) true Tryd.f11.params.toList args.toList ds p := hA0
  rw [Tryd.params11] at hA hval
  obtain ⟨v0, vs0, d0, ds0, p0, q0, hargs, rfl, rfl, h0, r0⟩ := trodAll_cons hA
  obtain ⟨v1, vs1, d1, ds1, p1, q1, rfl, rfl, rfl, h1, r1⟩ := trodAll_cons r0
  obtain ⟨rfl, rfl, rfl⟩ := trodAll_nil r1
  obtain rfl : args = #[v0, v1] := by cases args; simp_all
  obtain ⟨rfl, rfl⟩ := trodVars_none hV
  obtain ⟨a0, rfl, rfl, rfl, w0⟩ := open_int Tryd.underlying3 (hval 0 3 v0 rfl rfl) h0
  obtain ⟨a1, rfl, rfl, rfl, w1⟩ := open_int Tryd.underlying3 (hval 1 3 v1 rfl rfl) h1
  clear hA0 hval0
  refine (walk a0 a1 W w0 w1 (table hL)).mono fun e W' ⟨he, bel⟩ => ?_
  subst he
  exact ⟨_, rfl, _, _, _, [], _, [], hW', trodAll_mk1 (shut_bool Tryd.underlying4 _), (trodAll_cons_mk (shut_int Tryd.underlying3 w0) (trodAll_cons_mk (shut_int Tryd.underlying3 w1) trodAll_mk0)), rfl, bel.frame _, fun h => by cases h⟩

theorem row_holds : Rows.ActKindsSaid :=
  OpenClaim.holds_of_wide 11 Tryd.f11 rfl rfl rfl rfl rfl rfl rfl ⟨rfl, rfl, rfl, rfl, rfl⟩ rfl rfl rfl rfl rfl (by kernel_rfl) Tryd.func11 (by kernel_rfl)
    (of_decide_eq_true (by kernel_rfl)) (by unfold Func.isWrapper; first | (rw [if_pos (by decide +kernel)]; kernel_rfl) | (rw [if_neg (by decide +kernel)]; exact ⟨rfl, rfl⟩))
    (fun os started H enc _ => lifted os started H enc)

theorem actKinds_holds : Rows.ActKindsCardSaid :=
  Claim7.holds_tied_plain_at .later [] _ _ _ _ row_holds (fun _ h => by cases h) (by kernel_rfl) (fun _ h => by cases h) actKinds_row_tie rfl ⟨rfl, rfl⟩ (by kernel_rfl) rfl
    (fun f fn hf hfn => by
      obtain rfl : f = 11 := Option.some.inj ((show Tryd.prog.funcNamed "interlocutor/interlocutorlaw8.ActKinds" = some 11 by kernel_rfl).symm.trans hf) |>.symm
      obtain rfl : fn = Tryd.f11 := (Option.some.inj (Tryd.func11.symm.trans hfn)).symm
      exact ⟨by kernel_rfl, fun j t ht => by
        rw [Tryd.params11] at ht
        have hm : t ∈ [3, 3] := by simpa using Array.mem_of_getElem? ht
        have hall : ([3, 3].all fun u => !Tryd.prog.wantsStandIn u) = true := by kernel_rfl
        exact (show Tryd.prog.wantsStandIn t = false by simpa using List.all_eq_true.1 hall t hm)⟩)
    (by kernel_rfl)

end Go.Proofs.YtdecphhmiioihaaDoor
