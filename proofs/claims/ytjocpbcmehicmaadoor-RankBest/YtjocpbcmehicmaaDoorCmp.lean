/- rank.Cmp, and how two readings are held by its two orders. -/
import Derived.Test.YtjocpbcmehicmaaDoorTurn
namespace Go.Proofs.YtjocpbcmehicmaaDoor
open Go.RowKit

set_option maxRecDepth 8000 in
set_option maxHeartbeats 1000000 in
theorem compareA_any (xs ys : List Int) (v u : Value) (w : World) (hx : IB w v xs) (hy : IB w u ys) :
    Calls Tryd.prog 46 #[v, u] w fun e w' => e = .returned (.int .i64 (cmpL xs ys)) ∧ w' = w := by
  have HX := hid hx
  have HY := hid hy
  obtain ⟨ad, cap, rfl, a1, a2, a3⟩ := hx.shape
  obtain ⟨ad2, cap2, rfl, b1, b2, b3⟩ := hy.shape
  obtain ⟨n, hn⟩ : ∃ n, n = xs.length := ⟨_, rfl⟩
  obtain ⟨m, hm⟩ : ∃ m, m = ys.length := ⟨_, rfl⟩
  have HN := hid hn
  have HM := hid hm
  have HC := hid compare_any
  rw [← hn] at a1 a3 ⊢
  rw [← hm] at b1 b3 ⊢
  clear hx hy hn hm
  go_enter Tryd.func46, Tryd.ntmps46
  go_wp2
  go_loop [11] (fun v11 => ∃ j : Nat, j ≤ n ∧ j ≤ m ∧ v11 = .int .i64 j ∧ Hid (cmpL (xs.drop j) (ys.drop j) = cmpL xs ys)) (fun v11 => n - (intOf v11).toNat)
  case atStart => exact ⟨0, by omega, by omega, rfl, hid (by simp)⟩
  case round =>
    obtain ⟨j, hj, hjm, rfl, he⟩ := hrel
    by_cases hlt3 : j < n
    case pos =>
      have hlt4 : (j : Int) < (n : Int) := by omega
      obtain ⟨b, o, c, e1, _, _, hlt, hcs⟩ := HX.out.has (by rw [← HN.out]; omega)
      injection e1 with e1a _ e1c
      subst e1a e1c
      have c0 := hcs j (by rw [← HN.out]; exact hlt3)
      clear hcs
      by_cases hlt5 : j < m
      case pos =>
        have hlt6 : (j : Int) < (m : Int) := by omega
        obtain ⟨b2, o2, c2, e2, _, _, hlt2, hcs2⟩ := HY.out.has (by rw [← HM.out]; omega)
        injection e2 with e2a _ e2c
        subst e2a e2c
        have c1 := hcs2 j (by rw [← HM.out]; exact hlt5)
        clear hcs2
        have HS : Hid (cmpL xs ys = if ord (xs.getD j 0) (ys.getD j 0) = 0 then cmpL (xs.drop (j + 1)) (ys.drop (j + 1)) else ord (xs.getD j 0) (ys.getD j 0)) := hid (by rw [← he.out, getD_drop xs j (by rw [← HN.out]; exact hlt3), getD_drop ys j (by rw [← HM.out]; exact hlt5)]; rfl)
        generalize xs.getD j 0 = a at *
        generalize ys.getD j 0 = b at *
        go_wp2_with fail
        refine (HC.out _ _ _).mono ?_
        rintro e w1 ⟨rfl, rfl⟩
        by_cases hz : ord a b = 0
        case pos =>
          have HZ := hid (HS.out.trans (if_pos hz))
          rw [hz]
          clear hz HS
          go_wp2
          go_round
          case rel => exact ⟨j + 1, by omega, by omega, by simp, HZ.out.symm⟩
          case measure => simp [intOf]; omega
        case neg =>
          have HZ := hid (HS.out.trans (if_neg hz))
          have hz2 : (ord a b != 0) = true := by simpa using hz
          clear HS
          go_wp2
          go_ret
          exact ⟨ret_int HZ.out.symm, rfl⟩
      case neg =>
        obtain rfl : j = m := by omega
        have HZ : Hid (cmpL xs ys = 1) := hid (by rw [← he.out, getD_drop xs j (by rw [← HN.out]; exact hlt3), show ys.drop _ = [] from List.drop_eq_nil_of_le (by rw [← HM.out]; omega)]; rfl)
        go_wp2
        go_ret
        exact ⟨ret_int HZ.out.symm, rfl⟩
    case neg =>
      obtain rfl : j = n := by omega
      by_cases hlt5 : j < m
      case pos =>
        have hlt6 : (j : Int) < (m : Int) := by omega
        have HZ : Hid (cmpL xs ys = -1) := hid (by rw [← he.out, getD_drop ys j (by rw [← HM.out]; exact hlt5), show xs.drop _ = [] from List.drop_eq_nil_of_le (by rw [← HN.out]; omega)]; rfl)
        go_wp2
        go_ret
        exact ⟨ret_int HZ.out.symm, rfl⟩
      case neg =>
        obtain rfl : j = m := by omega
        have HZ : Hid (cmpL xs ys = 0) := hid (by rw [← he.out, List.drop_eq_nil_of_le (by have := HN.out; omega), List.drop_eq_nil_of_le (by have := HM.out; omega)]; rfl)
        go_wp2
        go_ret
        exact ⟨ret_int HZ.out.symm, rfl⟩

set_option maxHeartbeats 1000000 in
theorem byKind_any (k1 : Int) (f1 : Value) (k2 : Int) (f2 : Value) (w : World) :
    Calls Tryd.prog 25 #[.agg #[.int .i64 k1, f1], .agg #[.int .i64 k2, f2]] w fun e w' => e = .returned (.int .i64 (ord k1 k2)) ∧ Gr w w' := by
  have HC := hid compare_any
  go_enter Tryd.func25, Tryd.ntmps25
  go_wp2_with fail
  refine (HC.out _ _ _).mono ?_
  rintro e w1 ⟨rfl, rfl⟩
  go_wp2
  go_ret
  exact ⟨rfl, (Gr.alloc _ _).trans (Gr.alloc _ _)⟩

set_option maxHeartbeats 1000000 in
theorem byMany_any (k1 : Int) (a1 : Option Addr) (n1 c1 : Nat) (k2 : Int) (a2 : Option Addr) (n2 c2 : Nat) (w : World) :
    Calls Tryd.prog 26 #[.agg #[.int .i64 k1, .slice a1 n1 c1], .agg #[.int .i64 k2, .slice a2 n2 c2]] w fun e w' => e = .returned (.int .i64 (ord n1 n2)) ∧ Gr w w' := by
  have HC := hid compare_any
  go_enter Tryd.func26, Tryd.ntmps26
  go_wp2_with fail
  refine (HC.out _ _ _).mono ?_
  rintro e w1 ⟨rfl, rfl⟩
  go_wp2
  go_ret
  exact ⟨rfl, (Gr.alloc _ _).trans (Gr.alloc _ _)⟩

set_option maxHeartbeats 1000000 in
theorem byFields_any (k1 : Int) (f1 : Value) (k2 : Int) (f2 : Value) (xs ys : List Int) (w : World) (h1 : IB w f1 xs) (h2 : IB w f2 ys) :
    Calls Tryd.prog 27 #[.agg #[.int .i64 k1, f1], .agg #[.int .i64 k2, f2]] w fun e w' => e = .returned (.int .i64 (cmpL xs ys)) ∧ Gr w w' := by
  have HC := hid fun w' (hb : Gr w w') => compareA_any xs ys f1 f2 w' (h1.on hb.below) (h2.on hb.below)
  clear h1 h2
  go_enter Tryd.func27, Tryd.ntmps27
  go_wp2_with fail
  refine (HC.out _ ((Gr.alloc _ _).trans (Gr.alloc _ _))).mono ?_
  rintro e w1 ⟨rfl, rfl⟩
  go_wp2
  go_ret
  exact ⟨rfl, (Gr.alloc _ _).trans (Gr.alloc _ _)⟩

set_option maxRecDepth 8000 in
set_option maxHeartbeats 2000000 in
theorem cmp_any (x y : Val) (v u : Value) (w : World) (hv : VA w v x) (hu : VA w u y) :
    Calls Tryd.prog 14 #[v, u] w fun e w' => e = .returned (.int .i64 (cmpV x y)) ∧ Gr w w' := by
  obtain ⟨kx, fx⟩ := x
  obtain ⟨ky, fy⟩ := y
  obtain ⟨fv, rfl, hf⟩ := hv
  obtain ⟨fu, rfl, hg⟩ := hu
  have HF := hid hf
  have HG := hid hg
  dsimp only at *
  obtain ⟨ad, cap, rfl, a1, a2, a3⟩ := hf.shape
  obtain ⟨ad2, cap2, rfl, b1, b2, b3⟩ := hg.shape
  have HE : Hid (cmpV ⟨kx, fx⟩ ⟨ky, fy⟩ = firstNZ [(25, ord kx ky), (26, ord (fx.length : Int) (fy.length : Int)), (27, cmpL fx fy)]) := hid (by
    unfold cmpV firstNZ firstNZ firstNZ firstNZ
    dsimp only
    split
    · split
      · split
        · assumption
        · rfl
      · rfl
    · rfl)
  rw [HE.out]
  have HC := hid fun (w2 : World) (hw : Gr w w2) (b : Nat) => inV_any [(25, ord kx ky), (26, ord (fx.length : Int) (fy.length : Int)), (27, cmpL fx fy)] b kx (.slice ad fx.length cap) ky (.slice ad2 fy.length cap2) w2
  generalize hres : firstNZ [(25, ord kx ky), (26, ord (fx.length : Int) (fy.length : Int)), (27, cmpL fx fy)] = res at *
  clear hf hg HE
  go_enter Tryd.func14, Tryd.ntmps14
  go_wp2_with fail
  have HW : Gr w (((w.alloc (.cells #[.int .i64 kx, .slice ad fx.length cap] 24)).alloc (.cells #[.int .i64 ky, .slice ad2 fy.length cap2] 24)).alloc (.cells #[.func (.func 25) #[] #[], .func (.func 26) #[] #[], .func (.func 27) #[] #[]] 46)) := ((Gr.alloc _ _).trans (Gr.alloc _ _)).trans (Gr.alloc _ _)
  refine (HC.out _ HW (w.heap.size + 1 + 1) (by simp) (by simp) ?_ ?_ ?_).mono ?_
  · intro j hj
    have hr := new_row ((w.alloc (.cells #[.int .i64 kx, .slice ad fx.length cap] 24)).alloc (.cells #[.int .i64 ky, .slice ad2 fy.length cap2] 24)) (.cells #[.func (.func 25) #[] #[], .func (.func 26) #[] #[], .func (.func 27) #[] #[]] 46)
    rw [show ((w.alloc (.cells #[.int .i64 kx, .slice ad fx.length cap] 24)).alloc (.cells #[.int .i64 ky, .slice ad2 fy.length cap2] 24)).heap.size = w.heap.size + 1 + 1 by simp] at hr
    rw [cell_of_row (o := j) hr]
    have : j = 0 ∨ j = 1 ∨ j = 2 := by simp at hj; omega
    rcases this with rfl | rfl | rfl <;> rfl
  · intro p hp
    simp only [List.mem_cons, List.mem_nil_iff, or_false] at hp
    rcases hp with rfl | rfl | rfl
    · exact enters_of Tryd.func25 (by kernel_rfl) rfl
    · exact enters_of Tryd.func26 (by kernel_rfl) rfl
    · exact enters_of Tryd.func27 (by kernel_rfl) rfl
  · intro p hp w3 h3
    simp only [List.mem_cons, List.mem_nil_iff, or_false] at hp
    rcases hp with rfl | rfl | rfl
    · exact byKind_any _ _ _ _ _
    · exact byMany_any _ _ _ _ _ _ _ _ _
    · exact byFields_any _ _ _ _ _ _ _ (HF.out.on (HW.trans h3).below) (HG.out.on (HW.trans h3).below)
  rintro e w3 ⟨rfl, hg3⟩
  have HG3 := hid (HW.trans hg3)
  clear hg3 HW
  go_wp2
  go_ret
  exact ⟨rfl, HG3.out⟩

set_option maxHeartbeats 1000000 in
theorem byCost_any (k1 : Int) (f1 : Value) (c1 : Int) (k2 : Int) (f2 : Value) (c2 : Int) (w : World) :
    Calls Tryd.prog 51 #[.agg #[.int .i64 k1, f1, .int .i64 c1], .agg #[.int .i64 k2, f2, .int .i64 c2]] w fun e w' => e = .returned (.int .i64 (ord c1 c2)) ∧ Gr w w' := by
  have HC := hid compare_any
  go_enter Tryd.func51, Tryd.ntmps51
  go_wp2_with fail
  refine (HC.out _ _ _).mono ?_
  rintro e w1 ⟨rfl, rfl⟩
  go_wp2
  go_ret
  exact ⟨rfl, (Gr.alloc _ _).trans (Gr.alloc _ _)⟩

set_option maxHeartbeats 1000000 in
theorem byValue_any (x y : Val) (f1 : Value) (c1 : Int) (f2 : Value) (c2 : Int) (w : World) (h1 : IB w f1 x.f) (h2 : IB w f2 y.f) :
    Calls Tryd.prog 50 #[.agg #[.int .i64 x.kind, f1, .int .i64 c1], .agg #[.int .i64 y.kind, f2, .int .i64 c2]] w fun e w' => e = .returned (.int .i64 (cmpV x y)) ∧ Gr w w' := by
  have HC := hid fun w' (hb : Gr w w') => cmp_any x y (.agg #[.int .i64 x.kind, f1]) (.agg #[.int .i64 y.kind, f2]) w' ⟨f1, rfl, h1.on hb.below⟩ ⟨f2, rfl, h2.on hb.below⟩
  obtain ⟨k1, hk1⟩ : ∃ k, k = x.kind := ⟨_, rfl⟩
  obtain ⟨k2, hk2⟩ : ∃ k, k = y.kind := ⟨_, rfl⟩
  rw [← hk1, ← hk2] at HC ⊢
  clear h1 h2 hk1 hk2
  go_enter Tryd.func50, Tryd.ntmps50
  go_wp2_with fail
  refine (HC.out _ ((Gr.alloc _ _).trans (Gr.alloc _ _))).mono ?_
  rintro e w1 ⟨rfl, hw1⟩
  have HG := hid (((Gr.alloc _ _).trans (Gr.alloc _ _)).trans hw1)
  clear hw1
  go_wp2
  go_ret
  exact ⟨rfl, HG.out⟩

set_option maxRecDepth 8000 in
set_option maxHeartbeats 2000000 in
theorem byValueCost_any (x y : Val) (f1 : Value) (c1 : Int) (f2 : Value) (c2 : Int) (w : World) (hf : IB w f1 x.f) (hg : IB w f2 y.f) :
    Calls Tryd.prog 32 #[.agg #[.int .i64 x.kind, f1, .int .i64 c1], .agg #[.int .i64 y.kind, f2, .int .i64 c2]] w fun e w' => e = .returned (.int .i64 (firstNZ [(50, cmpV x y), (51, ord c1 c2)])) ∧ Gr w w' := by
  obtain ⟨kx, fx⟩ := x
  obtain ⟨ky, fy⟩ := y
  have HF := hid hf
  have HG := hid hg
  dsimp only at *
  obtain ⟨ad, cap, rfl, a1, a2, a3⟩ := hf.shape
  obtain ⟨ad2, cap2, rfl, b1, b2, b3⟩ := hg.shape
  have HC := hid fun (w2 : World) (hw : Gr w w2) (b : Nat) => inR_any [(50, cmpV ⟨kx, fx⟩ ⟨ky, fy⟩), (51, ord c1 c2)] b kx (.slice ad fx.length cap) c1 ky (.slice ad2 fy.length cap2) c2 w2
  generalize hres : firstNZ [(50, cmpV ⟨kx, fx⟩ ⟨ky, fy⟩), (51, ord c1 c2)] = res at *
  clear hf hg
  go_enter Tryd.func32, Tryd.ntmps32
  go_wp2_with fail
  have HW : Gr w (((w.alloc (.cells #[.int .i64 kx, .slice ad fx.length cap, .int .i64 c1] 50)).alloc (.cells #[.int .i64 ky, .slice ad2 fy.length cap2, .int .i64 c2] 50)).alloc (.cells #[.func (.func 50) #[] #[], .func (.func 51) #[] #[]] 53)) := ((Gr.alloc _ _).trans (Gr.alloc _ _)).trans (Gr.alloc _ _)
  refine (HC.out _ HW (w.heap.size + 1 + 1) (by simp) (by simp) ?_ ?_ ?_).mono ?_
  · intro j hj
    have hr := new_row ((w.alloc (.cells #[.int .i64 kx, .slice ad fx.length cap, .int .i64 c1] 50)).alloc (.cells #[.int .i64 ky, .slice ad2 fy.length cap2, .int .i64 c2] 50)) (.cells #[.func (.func 50) #[] #[], .func (.func 51) #[] #[]] 53)
    rw [show ((w.alloc (.cells #[.int .i64 kx, .slice ad fx.length cap, .int .i64 c1] 50)).alloc (.cells #[.int .i64 ky, .slice ad2 fy.length cap2, .int .i64 c2] 50)).heap.size = w.heap.size + 1 + 1 by simp] at hr
    rw [cell_of_row (o := j) hr]
    have : j = 0 ∨ j = 1 := by simp at hj; omega
    rcases this with rfl | rfl <;> rfl
  · intro p hp
    simp only [List.mem_cons, List.mem_nil_iff, or_false] at hp
    rcases hp with rfl | rfl
    · exact enters_of Tryd.func50 (by kernel_rfl) rfl
    · exact enters_of Tryd.func51 (by kernel_rfl) rfl
  · intro p hp w3 h3
    simp only [List.mem_cons, List.mem_nil_iff, or_false] at hp
    rcases hp with rfl | rfl
    · exact byValue_any ⟨kx, fx⟩ ⟨ky, fy⟩ _ _ _ _ _ (HF.out.on (HW.trans h3).below) (HG.out.on (HW.trans h3).below)
    · exact byCost_any _ _ _ _ _ _ _
  rintro e w3 ⟨rfl, hg3⟩
  have HG3 := hid (HW.trans hg3)
  clear hg3 HW
  go_wp2
  go_ret
  exact ⟨rfl, HG3.out⟩

set_option maxRecDepth 8000 in
set_option maxHeartbeats 2000000 in
theorem byCostValue_any (x y : Val) (f1 : Value) (c1 : Int) (f2 : Value) (c2 : Int) (w : World) (hf : IB w f1 x.f) (hg : IB w f2 y.f) :
    Calls Tryd.prog 35 #[.agg #[.int .i64 x.kind, f1, .int .i64 c1], .agg #[.int .i64 y.kind, f2, .int .i64 c2]] w fun e w' => e = .returned (.int .i64 (firstNZ [(51, ord c1 c2), (50, cmpV x y)])) ∧ Gr w w' := by
  obtain ⟨kx, fx⟩ := x
  obtain ⟨ky, fy⟩ := y
  have HF := hid hf
  have HG := hid hg
  dsimp only at *
  obtain ⟨ad, cap, rfl, a1, a2, a3⟩ := hf.shape
  obtain ⟨ad2, cap2, rfl, b1, b2, b3⟩ := hg.shape
  have HC := hid fun (w2 : World) (hw : Gr w w2) (b : Nat) => inR_any [(51, ord c1 c2), (50, cmpV ⟨kx, fx⟩ ⟨ky, fy⟩)] b kx (.slice ad fx.length cap) c1 ky (.slice ad2 fy.length cap2) c2 w2
  generalize hres : firstNZ [(51, ord c1 c2), (50, cmpV ⟨kx, fx⟩ ⟨ky, fy⟩)] = res at *
  clear hf hg
  go_enter Tryd.func35, Tryd.ntmps35
  go_wp2_with fail
  have HW : Gr w (((w.alloc (.cells #[.int .i64 kx, .slice ad fx.length cap, .int .i64 c1] 50)).alloc (.cells #[.int .i64 ky, .slice ad2 fy.length cap2, .int .i64 c2] 50)).alloc (.cells #[.func (.func 51) #[] #[], .func (.func 50) #[] #[]] 53)) := ((Gr.alloc _ _).trans (Gr.alloc _ _)).trans (Gr.alloc _ _)
  refine (HC.out _ HW (w.heap.size + 1 + 1) (by simp) (by simp) ?_ ?_ ?_).mono ?_
  · intro j hj
    have hr := new_row ((w.alloc (.cells #[.int .i64 kx, .slice ad fx.length cap, .int .i64 c1] 50)).alloc (.cells #[.int .i64 ky, .slice ad2 fy.length cap2, .int .i64 c2] 50)) (.cells #[.func (.func 51) #[] #[], .func (.func 50) #[] #[]] 53)
    rw [show ((w.alloc (.cells #[.int .i64 kx, .slice ad fx.length cap, .int .i64 c1] 50)).alloc (.cells #[.int .i64 ky, .slice ad2 fy.length cap2, .int .i64 c2] 50)).heap.size = w.heap.size + 1 + 1 by simp] at hr
    rw [cell_of_row (o := j) hr]
    have : j = 0 ∨ j = 1 := by simp at hj; omega
    rcases this with rfl | rfl <;> rfl
  · intro p hp
    simp only [List.mem_cons, List.mem_nil_iff, or_false] at hp
    rcases hp with rfl | rfl
    · exact enters_of Tryd.func51 (by kernel_rfl) rfl
    · exact enters_of Tryd.func50 (by kernel_rfl) rfl
  · intro p hp w3 h3
    simp only [List.mem_cons, List.mem_nil_iff, or_false] at hp
    rcases hp with rfl | rfl
    · exact byCost_any _ _ _ _ _ _ _
    · exact byValue_any ⟨kx, fx⟩ ⟨ky, fy⟩ _ _ _ _ _ (HF.out.on (HW.trans h3).below) (HG.out.on (HW.trans h3).below)
  rintro e w3 ⟨rfl, hg3⟩
  have HG3 := hid (HW.trans hg3)
  clear hg3 HW
  go_wp2
  go_ret
  exact ⟨rfl, HG3.out⟩

set_option maxHeartbeats 1000000 in
theorem isAlike_any (x y : Val) (f1 : Value) (c1 : Int) (f2 : Value) (c2 : Int) (w : World) (h1 : IB w f1 x.f) (h2 : IB w f2 y.f) :
    Calls Tryd.prog 34 #[.agg #[.int .i64 x.kind, f1, .int .i64 c1], .agg #[.int .i64 y.kind, f2, .int .i64 c2]] w fun e w' => e = .returned (.bool (cmpV x y == 0)) ∧ Gr w w' := by
  have HC := hid fun w' (hb : Gr w w') => byValue_any x y f1 c1 f2 c2 w' (h1.on hb.below) (h2.on hb.below)
  generalize cmpV x y = res at *
  obtain ⟨k1, hk1⟩ : ∃ k, k = x.kind := ⟨_, rfl⟩
  obtain ⟨k2, hk2⟩ : ∃ k, k = y.kind := ⟨_, rfl⟩
  rw [← hk1, ← hk2] at HC ⊢
  clear h1 h2 hk1 hk2
  go_enter Tryd.func34, Tryd.ntmps34
  go_wp2_with fail
  refine (HC.out _ ((Gr.alloc _ _).trans (Gr.alloc _ _))).mono ?_
  rintro e w1 ⟨rfl, hw1⟩
  have HG := hid (((Gr.alloc _ _).trans (Gr.alloc _ _)).trans hw1)
  clear hw1
  go_wp2
  go_ret
  exact ⟨rfl, HG.out⟩
end Go.Proofs.YtjocpbcmehicmaaDoor
