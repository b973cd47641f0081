/- ActNext answers true of any two arguments: the next of a weekday is behind the reference, by one to seven days. The table of how many numbers a kind has, and what an action stops with, are as listed. -/
import Derived.Test.YtdecphhmiioihaaDoorCards
import Derived.Test.YtdecphhmiioihaaDoorTie
import Derived.Test.YtdecphhmiioihaaDoorTab
import Derived.ProofKit
import Derived.OpenShut
import Derived.Lay
import Derived.SevenTiedAt
import Derived.Stop.Joined
import Derived.Lib.LaidTab
namespace Go.Proofs.YtdecphhmiioihaaDoor
open Go.ChangeShapes Go.WideShapes Go.ChangeAt Go.RowKit

theorem date_right (y m d : Int) (h : Ci.dayB y m d = true) : rightB ⟨4, [y, m, d]⟩ = true := by
  show (wholeB ⟨4, [y, m, d]⟩ && Ci.dayB y m d) = true
  rw [h, Bool.and_true]; rfl
theorem ciInB {n a b : Int} : Ci.inB n a b = true ↔ a ≤ n ∧ n ≤ b := by unfold Ci.inB; simp
theorem on_do (k : Nat) (r : Mom) (mo da : Int) : doO k (onO r mo da) = onO r mo da := by
  unfold onO
  by_cases h : Ci.addOk r.y r.m r.d mo da = true
  · rw [if_pos h]
    show (if k = 0 ∨ rightB _ = true then some _ else none) = _
    refine if_pos (.inr (date_right _ _ _ ?_))
    unfold Ci.addOk at h
    simp only [Bool.and_eq_true] at h
    unfold Ci.dayB
    rw [h.2, (Ci.Civ.of_num _).2]
    rfl
  · rw [if_neg h]; rfl
theorem on_zero' (y m d : Int) (hv : Ci.Civ.vld y m d = true) (da : Int) : Ci.addK y m d 0 da = Ci.Civ.num y m d + da := by
  obtain ⟨h1, h2, h3, h4⟩ := (Ci.Civ.vld_iff y m d).1 hv
  have e1 : Ci.onY y m 0 = y := by unfold Ci.onY; omega
  have e2 : Ci.onM y m 0 = m := by unfold Ci.onM; rw [e1]; omega
  have e3 : Ci.onD y m d 0 = d := by unfold Ci.onD; rw [e1, e2]; exact if_neg (by omega)
  unfold Ci.addK
  rw [e1, e2, e3]
theorem next_made (r : Mom) (k : Int) (h0 : 0 ≤ k) (h1 : k ≤ 6) : doO 7 (madeO 7 r [⟨2, [k]⟩]) = onO r 0 ((k - (Ci.Civ.num r.y r.m r.d + 3) % 7 + 7 - 1) % 7 + 1) := by
  show doO 7 (nextO r ⟨2, [k]⟩) = _
  have e : nextO r ⟨2, [k]⟩ = if inB k 0 6 = true then onO r 0 ((k - (Ci.Civ.num r.y r.m r.d + 3) % 7 + 7 - 1) % 7 + 1) else none := rfl
  rw [e, if_pos (inB_true h0 h1)]
  exact on_do _ _ _ _
/-- Where there is none the reference is in the calendar's last week. -/
theorem last_week (y m d a : Int) (hv : Ci.Civ.vld y m d = true) (h1 : y ≤ 9999) (hy : 1 ≤ y) (ha : 1 ≤ a) (ha7 : a ≤ 7) (hn : Ci.addOk y m d 0 a = false) : y = 9999 ∧ m = 12 ∧ 25 ≤ d := by
  have hK := on_zero' y m d hv a
  obtain ⟨hk1, hk2⟩ := Ci.Civ.of_num (Ci.addK y m d 0 a)
  unfold Ci.addOk at hn
  rw [show Ci.inB 0 (-1000000) 1000000 = true by decide, (ciInB (n := a) (a := -10000000) (b := 10000000)).2 ⟨by omega, by omega⟩, Bool.true_and, Bool.true_and] at hn
  have hn2 : ¬ (1 ≤ Ci.Civ.cY (Ci.addK y m d 0 a) ∧ Ci.Civ.cY (Ci.addK y m d 0 a) ≤ 9999) := fun h => by rw [ciInB.2 h] at hn; cases hn
  obtain ⟨m1, m2, d1, d2⟩ := (Ci.Civ.vld_iff y m d).1 hv
  have hlow : 1 ≤ Ci.Civ.cY (Ci.addK y m d 0 a) := by
    by_cases h : 1 ≤ Ci.Civ.cY (Ci.addK y m d 0 a)
    · exact h
    · have := Ci.Civ.num_lt _ _ _ y m d hk2 hv (.inl (show Ci.Civ.cY (Ci.addK y m d 0 a) < y by omega))
      omega
  have hhigh : 9999 < Ci.Civ.cY (Ci.addK y m d 0 a) := by omega
  have e31 : Ci.Civ.vld 9999 12 31 = true := by decide
  have e25 : Ci.Civ.vld 9999 12 25 = true := by decide
  have n31 : Ci.Civ.num 9999 12 31 = Ci.Civ.num 9999 12 25 + 6 := by decide
  have h2 := Ci.Civ.num_lt 9999 12 31 _ _ _ e31 hk2 (.inl hhigh)
  by_cases hb : y < 9999 ∨ y = 9999 ∧ (m < 12 ∨ m = 12 ∧ d < 25)
  · have := Ci.Civ.num_lt y m d 9999 12 25 hv e25 hb
    omega
  · omega

set_option maxRecDepth 8000 in
set_option maxHeartbeats 4000000 in
theorem walk (wd x : Int) (W : World) (w0 : (Lit.int .i64 wd).wf = true) (w1 : (Lit.int .i64 x).wf = true) (hX : TabsE W) : Calls Tryd.prog 5 #[.int .i64 wd, .int .i64 x] W fun e W' => e = .returned (.bool true) ∧ Below W.heap.size W W' := by
  obtain ⟨p, hT⟩ := hX
  obtain ⟨ba, ba'⟩ := wf_bd w0
  obtain ⟨bc, bc'⟩ := wf_bd w1
  have HK := hid (known_any p W hT)
  have HT := hid hT
  have H1 := hid fun w => lwithin_any wd 7 w (by decide) (by decide) ba ba'
  have HR := hid fun w => ref_any x w bc bc'
  have hrr := refM_right x
  obtain ⟨hv, hy0, hy1⟩ := hrr.bd
  have hk : 0 ≤ wd % 7 ∧ wd % 7 ≤ 6 := by omega
  have HRR := hid hrr
  unfold momV at HR
  generalize wd % 7 = k at *
  generalize refM x = r at *
  clear hT w0 w1 ba ba' bc bc' hrr
  obtain ⟨hk0, hk1⟩ := hk
  have hm := next_made r k hk0 hk1
  have ha : 1 ≤ (k - (Ci.Civ.num r.y r.m r.d + 3) % 7 + 7 - 1) % 7 + 1 ∧ (k - (Ci.Civ.num r.y r.m r.d + 3) % 7 + 7 - 1) % 7 + 1 ≤ 7 := by omega
  have hwk : (Ci.Civ.num r.y r.m r.d + ((k - (Ci.Civ.num r.y r.m r.d + 3) % 7 + 7 - 1) % 7 + 1) + 3) % 7 = k := by omega
  generalize (k - (Ci.Civ.num r.y r.m r.d + 3) % 7 + 7 - 1) % 7 + 1 = a at *
  obtain ⟨ha0, ha1⟩ := ha
  have HLW := hid (last_week r.y r.m r.d a hv hy1 hy0 ha0 ha1)
  have hKK := on_zero' r.y r.m r.d hv a
  obtain ⟨m1, m2, d1, d2⟩ := (Ci.Civ.vld_iff _ _ _).1 hv
  have hd31 : r.d ≤ 31 := by have := Ci.len_le r.y r.m; omega
  go_enter Tryd.func5, Tryd.ntmps5
  go_wp2_with fail
  refine HK.out.mono ?_
  rintro e w1 ⟨rfl, hb1⟩
  have HB1 := hid hb1
  clear hb1 HK
  go_wp2_with fail
  refine (HR.out _).mono ?_
  rintro e w2 ⟨rfl, hb2⟩
  have HB2 := hid (up_trans HB1.out hb2)
  clear hb2
  obtain ⟨w3, hw3⟩ : ∃ w3, w3 = w2.alloc (.cells #[.int .i64 r.y, .int .i64 r.m, .int .i64 r.d, .int .i64 r.h, .int .i64 r.i, .int .i64 r.s] 31) := ⟨_, rfl⟩
  obtain ⟨hc, hb, hsw3⟩ := chain_heap w2 [.cells #[.int .i64 r.y, .int .i64 r.m, .int .i64 r.d, .int .i64 r.h, .int .i64 r.i, .int .i64 r.s] 31]
  simp only [List.foldl_cons, List.foldl_nil] at hc hb hsw3
  rw [← hw3] at hc hb hsw3
  have hw3_0 := hid (show w3.heap[w2.heap.size]? = some _ from hc 0 _ rfl)
  have HBw3 := hid hb
  have Hsw3 := hid (show w3.heap.size = w2.heap.size + 1 from hsw3)
  clear hc hb hsw3
  have HB3 := hid (up_trans HB2.out HBw3.out)
  go_wp2_with fail
  rw [← hw3]
  refine (H1.out _).mono ?_
  rintro e wn ⟨rfl, hw⟩
  obtain rfl := hw.symm
  clear hw hw3 H1 HR
  obtain ⟨w4, hw4⟩ : ∃ w4, w4 = ((w3.alloc (.cells #[.int .i64 (0)] 3)).alloc (.cells #[.int .i64 (k)] 3)).alloc (.cells #[.int .i64 2, .slice (some ⟨w3.heap.size + 1, 0, none⟩) 1 1] 24) := ⟨_, rfl⟩
  obtain ⟨hc, hb, hsw4⟩ := chain_heap w3 [.cells #[.int .i64 (0)] 3, .cells #[.int .i64 (k)] 3, .cells #[.int .i64 2, .slice (some ⟨w3.heap.size + 1, 0, none⟩) 1 1] 24]
  simp only [List.foldl_cons, List.foldl_nil] at hc hb hsw4
  rw [← hw4] at hc hb hsw4
  have hw4_0 := hid (show w4.heap[w3.heap.size]? = some _ from hc 0 _ rfl)
  have hw4_1 := hid (hc 1 _ rfl)
  have hw4_2 := hid (hc 2 _ rfl)
  have HBw4 := hid hb
  have Hsw4 := hid (show w4.heap.size = w3.heap.size + 3 from hsw4)
  clear hc hb hsw4
  have HP := hid (IA.at [0] hw4_0.out (by simp))
  have HL := hid (LA.one hw4_2.out (IA.at [k] hw4_1.out (by simp)))
  have HB4 := hid (up_trans HB3.out HBw4.out)
  have HX4 := hid ((HBw4.out.block w2.heap.size (by have := Hsw3.out; omega)).trans hw3_0.out)
  have t0 : (((w3.alloc (.cells #[.int .i64 (0)] 3)).alloc (.cells #[.int .i64 (k)] 3)).alloc (.cells #[.int .i64 2, .slice (some ⟨w3.heap.size + 1, 0, none⟩) 1 1] 24)).cell? ⟨w2.heap.size, 0, none⟩ = some (.int .i64 r.y) := by rw [← hw4, cell_of_row HX4.out]; rfl
  have t1 : (((w3.alloc (.cells #[.int .i64 (0)] 3)).alloc (.cells #[.int .i64 (k)] 3)).alloc (.cells #[.int .i64 2, .slice (some ⟨w3.heap.size + 1, 0, none⟩) 1 1] 24)).cell? ⟨w2.heap.size, 1, none⟩ = some (.int .i64 r.m) := by rw [← hw4, cell_of_row HX4.out]; rfl
  have t2 : (((w3.alloc (.cells #[.int .i64 (0)] 3)).alloc (.cells #[.int .i64 (k)] 3)).alloc (.cells #[.int .i64 2, .slice (some ⟨w3.heap.size + 1, 0, none⟩) 1 1] 24)).cell? ⟨w2.heap.size, 2, none⟩ = some (.int .i64 r.d) := by rw [← hw4, cell_of_row HX4.out]; rfl
  have t3 : (((w3.alloc (.cells #[.int .i64 (0)] 3)).alloc (.cells #[.int .i64 (k)] 3)).alloc (.cells #[.int .i64 2, .slice (some ⟨w3.heap.size + 1, 0, none⟩) 1 1] 24)).cell? ⟨w2.heap.size, 3, none⟩ = some (.int .i64 r.h) := by rw [← hw4, cell_of_row HX4.out]; rfl
  have t4 : (((w3.alloc (.cells #[.int .i64 (0)] 3)).alloc (.cells #[.int .i64 (k)] 3)).alloc (.cells #[.int .i64 2, .slice (some ⟨w3.heap.size + 1, 0, none⟩) 1 1] 24)).cell? ⟨w2.heap.size, 4, none⟩ = some (.int .i64 r.i) := by rw [← hw4, cell_of_row HX4.out]; rfl
  have t5 : (((w3.alloc (.cells #[.int .i64 (0)] 3)).alloc (.cells #[.int .i64 (k)] 3)).alloc (.cells #[.int .i64 2, .slice (some ⟨w3.heap.size + 1, 0, none⟩) 1 1] 24)).cell? ⟨w2.heap.size, 5, none⟩ = some (.int .i64 r.s) := by rw [← hw4, cell_of_row HX4.out]; rfl
  have HD := hid (made_any (p := p) 7 r _ _ _ _ w4 (by decide) HP.out HL.out (HT.out.on HB4.out) (by intro q hq; simp at hq; subst hq; simp) trivial HRR.out)
  rw [show doO 7 (madeO 7 r (List.map (fun (q : Int) => [(⟨2, [k]⟩ : Val)].getD q.toNat nilVal) [0])) = _ from hm] at HD
  unfold momV at HD
  clear hw4_0 hw4_1 hw4_2 hw3_0 HP HL hm
  go_wp2_with fail
  rw [← hw4]
  refine HD.out.mono ?_
  rintro e w5 ⟨hb5, hr⟩
  have HB5 := hid (up_trans HB4.out hb5)
  have HX5 := hid ((hb5.block w2.heap.size (by have := Hsw3.out; have := Hsw4.out; omega)).trans HX4.out)
  clear hb5 HD hw4 t0 t1 t2 t3 t4 t5 HX4
  unfold onO at hr
  cases hok : Ci.addOk r.y r.m r.d 0 a with
  | false =>
    rw [hok, if_neg (by decide)] at hr
    obtain rfl : e = .returned noneV := hr
    unfold noneV
    obtain ⟨l1, l2, l3⟩ := HLW.out hok
    clear hok HLW
    obtain ⟨w6, hw6⟩ : ∃ w6, w6 = w5.alloc (.cells #[.int .i64 0, .slice none 0 0] 24) := ⟨_, rfl⟩
    obtain ⟨hc, hb, hsw6⟩ := chain_heap w5 [.cells #[.int .i64 0, .slice none 0 0] 24]
    simp only [List.foldl_cons, List.foldl_nil] at hc hb hsw6
    rw [← hw6] at hc hb hsw6
    have hw6_0 := hid (show w6.heap[w5.heap.size]? = some _ from hc 0 _ rfl)
    have HBw6 := hid hb
    have Hsw6 := hid (show w6.heap.size = w5.heap.size + 1 from hsw6)
    clear hc hb hsw6
    have HB6 := hid (up_trans HB5.out HBw6.out)
    have HX6 := hid ((HBw6.out.block w2.heap.size (Array.getElem?_eq_some_iff.1 HX5.out).1).trans HX5.out)
    have t0 : (w5.alloc (.cells #[.int .i64 0, .slice none 0 0] 24)).cell? ⟨w2.heap.size, 0, none⟩ = some (.int .i64 9999) := by rw [← hw6, cell_of_row HX6.out, l1]; rfl
    have t1 : (w5.alloc (.cells #[.int .i64 0, .slice none 0 0] 24)).cell? ⟨w2.heap.size, 1, none⟩ = some (.int .i64 12) := by rw [← hw6, cell_of_row HX6.out, l2]; rfl
    have t2 : (w5.alloc (.cells #[.int .i64 0, .slice none 0 0] 24)).cell? ⟨w2.heap.size, 2, none⟩ = some (.int .i64 r.d) := by rw [← hw6, cell_of_row HX6.out, l1]; rfl
    clear hw6_0 HX5
    generalize r.d = rd at *
    clear hKK hwk hv HX6
    go_wp2
    go_ret
    exact ⟨ret_bool (by simp), by rw [← hw6]; exact HB6.out⟩
  | true =>
    rw [hok, if_pos rfl] at hr
    obtain ⟨vv, rfl, hvv⟩ := hr
    have hcy : 1 ≤ Ci.Civ.cY (Ci.addK r.y r.m r.d 0 a) ∧ Ci.Civ.cY (Ci.addK r.y r.m r.d 0 a) ≤ 9999 := by unfold Ci.addOk at hok; simp only [Bool.and_eq_true] at hok; exact ciInB.1 hok.2
    obtain ⟨hn1, hn2⟩ := Ci.Civ.of_num (Ci.addK r.y r.m r.d 0 a)
    clear hok HLW
    generalize Ci.Civ.cY (Ci.addK r.y r.m r.d 0 a) = z0 at *
    generalize Ci.Civ.cM (Ci.addK r.y r.m r.d 0 a) = z1 at *
    generalize Ci.Civ.cD (Ci.addK r.y r.m r.d 0 a) = z2 at *
    obtain ⟨q1, q2, q3, q4⟩ := (Ci.Civ.vld_iff _ _ _).1 hn2
    have q31 : z2 ≤ 31 := by have := Ci.len_le z0 z1; omega
    rw [hKK] at hn1
    have HDy := hid fun (y m d : Int) (w : World) (h : (y = z0 ∧ m = z1 ∧ d = z2) ∨ (y = r.y ∧ m = r.m ∧ d = r.d)) => (show Calls Tryd.prog 22 #[.int .i64 y, .int .i64 m, .int .i64 d] w _ from Ci.rdays_any y m d w (by omega) (by omega) (by omega) (by omega) (by omega) (by omega))
    have HWd := hid fun w => Ci.rweekday_any z0 z1 z2 w (by omega) (by omega) (by omega) (by omega) (by omega) (by omega)
    obtain ⟨fv, rfl, hf⟩ := hvv
    have HF := hid hf.ia
    obtain ⟨gb, go, cap, rfl, hc1, hc2, hlt⟩ := hf.ia.has3
    dsimp only at *
    obtain ⟨w6, hw6⟩ : ∃ w6, w6 = w5.alloc (.cells #[.int .i64 4, .slice (some ⟨gb, go, none⟩) 3 cap] 24) := ⟨_, rfl⟩
    obtain ⟨hc, hb, hsw6⟩ := chain_heap w5 [.cells #[.int .i64 4, .slice (some ⟨gb, go, none⟩) 3 cap] 24]
    simp only [List.foldl_cons, List.foldl_nil] at hc hb hsw6
    rw [← hw6] at hc hb hsw6
    have hw6_0 := hid (show w6.heap[w5.heap.size]? = some _ from hc 0 _ rfl)
    have HBw6 := hid hb
    have Hsw6 := hid (show w6.heap.size = w5.heap.size + 1 from hsw6)
    clear hc hb hsw6
    have HB6 := hid (up_trans HB5.out HBw6.out)
    have HX6 := hid ((HBw6.out.block w2.heap.size (Array.getElem?_eq_some_iff.1 HX5.out).1).trans HX5.out)
    have t0 : w6.cell? ⟨w2.heap.size, 0, none⟩ = some (.int .i64 r.y) := by rw [cell_of_row HX6.out]; rfl
    have t1 : w6.cell? ⟨w2.heap.size, 1, none⟩ = some (.int .i64 r.m) := by rw [cell_of_row HX6.out]; rfl
    have t2 : w6.cell? ⟨w2.heap.size, 2, none⟩ = some (.int .i64 r.d) := by rw [cell_of_row HX6.out]; rfl
    have c0 : w6.cell? ⟨w5.heap.size, 0, none⟩ = some (.int .i64 4) := by rw [cell_of_row hw6_0.out]; rfl
    have c1 : w6.cell? ⟨w5.heap.size, 1, none⟩ = some (.slice (some ⟨gb, go, none⟩) 3 cap) := by rw [cell_of_row hw6_0.out]; rfl
    have e0 := (HF.out.on HBw6.out).cell0
    have e1 := (HF.out.on HBw6.out).cell1
    have e2 := (HF.out.on HBw6.out).cell2
    have c0' : (w5.alloc (.cells #[.int .i64 4, .slice (some ⟨gb, go, none⟩) 3 cap] 24)).cell? ⟨w5.heap.size, 0, none⟩ = some (.int .i64 4) := by rw [← hw6]; exact c0
    have c1' : (w5.alloc (.cells #[.int .i64 4, .slice (some ⟨gb, go, none⟩) 3 cap] 24)).cell? ⟨w5.heap.size, 1, none⟩ = some (.slice (some ⟨gb, go, none⟩) 3 cap) := by rw [← hw6]; exact c1
    have nb := Ci.num_bd r.y r.m r.d (by omega) (by omega) m1 m2 d1 hd31
    rw [hn1, hwk] at HWd
    have hws : IntKind.i64.wrap (Ci.Civ.num z0 z1 z2 - Ci.Civ.num r.y r.m r.d) = a := by rw [hn1, IntKind.wrap_i64]; omega
    generalize Ci.Civ.num = D at *
    generalize r.y = ry at *
    generalize r.m = rm at *
    generalize r.d = rd at *
    clear hw6_0 HX5 hf hKK hwk hv hn1 hn2 q4 d2 hcy nb
    go_wp2
    rw [← hw6]
    clear hw6 c0' c1'
    go_quiet ((go_at_call 22; exact (HDy.out _ _ _ _ (by first | exact Or.inl ⟨rfl, rfl, rfl⟩ | exact Or.inr ⟨rfl, rfl, rfl⟩)).mono (fun e w' h => ⟨h.1, _, h.2⟩)))
    have hg1 : decide (1 ≤ a) = true := decide_eq_true ha0
    have hg2 : decide (a ≤ 7) = true := decide_eq_true ha1
    go_wp2
    go_quiet ((go_at_call 23; exact (HWd.out _).mono (fun e w' h => ⟨h.1, _, h.2⟩)))
    go_wp2
    go_ret
    exact ⟨by simp, below_drewN (below_drewN HB6.out _) _⟩

theorem own : ownKnob Tryd.prog.godebug = none := by kernel_rfl

theorem table {W : World} (h : laidMetH Tryd.prog Rows.actNextRow.laid W) : TabsE W := by
  rw [MakeChecks.laidMetH_plain _ _ _ (by kernel_rfl)] at h
  exact tabs_of_laid h

set_option maxRecDepth 100000 in
theorem lifted (os : Os) (started : os.Started) (H : Type) (enc : TypeId × Value → H) :
    ReturnsInHanded {} Tryd.checked os 5 .any (fun w args => (Rows.actNextSpec.pre enc Tryd.prog Tryd.f5 Rows.actNextRow.domain false w args ∧ laidMetH Tryd.prog Rows.actNextRow.laid w) ∧ sizedMet enc Tryd.prog Tryd.f5 (OpenSpec.ofChange Rows.actNextSpec) false w args)
      (Rows.actNextSpec.post enc Tryd.prog Tryd.f5 false true false false) := by
  refine returnsInHanded_of_change_and (C := Tryd.checked) (X := fun w _ => laidMetH Tryd.prog Rows.actNextRow.laid w) (fun _ _ _ hh h => h.of_heap hh) own started (by kernel_rfl) Tryd.func5
    (ChangeSpec.witness_shaped (enc := enc) (C := Tryd.checked) (os := os) (X := fun w _ => laidMetH Tryd.prog Rows.actNextRow.laid w) false (World.laidAll Tryd.prog os Rows.actNextRow.laid) #[.int .i64 0, .int .i64 0] 8 (World.laidAll_os _ _ _)
      (World.shaped_of_ZipB (by kernel_rfl) (by kernel_rfl)) (by kernel_rfl) (by kernel_rfl) (by kernel_rfl)
      (by rw [MakeChecks.laidMetH_plain _ _ _ (by kernel_rfl)]; exact laidMet_laidAll _ (by kernel_rfl) (by kernel_rfl))) ?_
  intro W base args ds gs before hval0 hW _ _ hL _
  have hval : ∀ (j : Nat) t v, Tryd.f5.params[j]? = some t → args[j]? = some v → Value.okWide Tryd.prog W .any base t v := hval0
  have hW' := hW
  obtain ⟨p, q, hA0, hV, rfl, hfz, hnd⟩ := hW
  have hA : DataW.TrodAll enc Tryd.prog W 0 (fun _ => true) true Tryd.f5.params.toList args.toList ds p := hA0
  rw [Tryd.params5] at hA hval
  obtain ⟨v0, vs0, d0, ds0, p0, q0, hargs, rfl, rfl, h0, r0⟩ := trodAll_cons hA
  obtain ⟨v1, vs1, d1, ds1, p1, q1, rfl, rfl, rfl, h1, r1⟩ := trodAll_cons r0
  obtain ⟨rfl, rfl, rfl⟩ := trodAll_nil r1
  obtain rfl : args = #[v0, v1] := by cases args; simp_all
  obtain ⟨rfl, rfl⟩ := trodVars_none hV
  obtain ⟨a0, rfl, rfl, rfl, w0⟩ := open_int Tryd.underlying3 (hval 0 3 v0 rfl rfl) h0
  obtain ⟨a1, rfl, rfl, rfl, w1⟩ := open_int Tryd.underlying3 (hval 1 3 v1 rfl rfl) h1
  clear hA0 hval0
  refine (walk a0 a1 W w0 w1 (table hL)).mono fun e W' ⟨he, bel⟩ => ?_
  subst he
  exact ⟨_, rfl, _, _, _, [], _, [], hW', trodAll_mk1 (shut_bool Tryd.underlying4 _), (trodAll_cons_mk (shut_int Tryd.underlying3 w0) (trodAll_cons_mk (shut_int Tryd.underlying3 w1) trodAll_mk0)), rfl, bel.frame _, fun h => by cases h⟩

theorem row_holds : Rows.ActNextSaid :=
  OpenClaim.holds_of_wide 5 Tryd.f5 rfl rfl rfl rfl rfl rfl rfl ⟨rfl, rfl, rfl, rfl, rfl⟩ rfl rfl rfl rfl rfl (by kernel_rfl) Tryd.func5 (by kernel_rfl)
    (of_decide_eq_true (by kernel_rfl)) (by unfold Func.isWrapper; first | (rw [if_pos (by decide +kernel)]; kernel_rfl) | (rw [if_neg (by decide +kernel)]; exact ⟨rfl, rfl⟩))
    (fun os started H enc _ => lifted os started H enc)

theorem actNext_holds : Rows.ActNextCardSaid :=
  Claim7.holds_tied_plain_at .later [] _ _ _ _ row_holds (fun _ h => by cases h) (by kernel_rfl) (fun _ h => by cases h) actNext_row_tie rfl ⟨rfl, rfl⟩ (by kernel_rfl) rfl
    (fun f fn hf hfn => by
      obtain rfl : f = 5 := Option.some.inj ((show Tryd.prog.funcNamed "interlocutor/interlocutorlaw8.ActNext" = some 5 by kernel_rfl).symm.trans hf) |>.symm
      obtain rfl : fn = Tryd.f5 := (Option.some.inj (Tryd.func5.symm.trans hfn)).symm
      exact ⟨by kernel_rfl, fun j t ht => by
        rw [Tryd.params5] at ht
        have hm : t ∈ [3, 3] := by simpa using Array.mem_of_getElem? ht
        have hall : ([3, 3].all fun u => !Tryd.prog.wantsStandIn u) = true := by kernel_rfl
        exact (show Tryd.prog.wantsStandIn t = false by simpa using List.all_eq_true.1 hall t hm)⟩)
    (by kernel_rfl)

end Go.Proofs.YtdecphhmiioihaaDoor
