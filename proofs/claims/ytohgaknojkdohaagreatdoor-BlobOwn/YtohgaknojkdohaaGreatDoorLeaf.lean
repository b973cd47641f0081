/- What the small functions of package blob answer. -/
import Derived.Test.YtohgaknojkdohaaGreatDoorProg
import Derived.Test.YtohgaknojkdohaaGreatDoorMath
import Derived.Test.YtohgaknojkdohaaGreatDoorGrRules
namespace Go.Proofs.YtohgaknojkdohaaGreatDoor
open Go.RowKit Gr

theorem bwithin_any (n a b : Int) (w : World) : Calls Tryz.prog 68 #[.int .i64 n, .int .i64 a, .int .i64 b] w fun e w' => e = .returned (.bool (inB n a b)) ∧ w' = w := by
  by_cases h1 : a ≤ n
  · by_cases h2 : n ≤ b
    · rw [inB_true (And.intro h1 h2)]
      go_enter Tryz.func68, Tryz.ntmps68
      go_wp2
      go_ret
      exact ⟨rfl, rfl⟩
    · rw [inB_false (fun h => h2 h.2)]
      go_enter Tryz.func68, Tryz.ntmps68
      go_wp2
      go_ret
      exact ⟨rfl, rfl⟩
  · rw [inB_false (fun h => h1 h.1)]
    go_enter Tryz.func68, Tryz.ntmps68
    go_wp2
    go_ret
    exact ⟨rfl, rfl⟩
theorem ywithin_any (n a b : Int) (w : World) : Calls Tryz.prog 135 #[.int .u8 n, .int .u8 a, .int .u8 b] w fun e w' => e = .returned (.bool (inB n a b)) ∧ w' = w := by
  by_cases h1 : a ≤ n
  · by_cases h2 : n ≤ b
    · rw [inB_true (And.intro h1 h2)]
      go_enter Tryz.func135, Tryz.ntmps135
      go_wp2
      go_ret
      exact ⟨rfl, rfl⟩
    · rw [inB_false (fun h => h2 h.2)]
      go_enter Tryz.func135, Tryz.ntmps135
      go_wp2
      go_ret
      exact ⟨rfl, rfl⟩
  · rw [inB_false (fun h => h1 h.1)]
    go_enter Tryz.func135, Tryz.ntmps135
    go_wp2
    go_ret
    exact ⟨rfl, rfl⟩
theorem idSign_any (n : Int) (w : World) : Calls Tryz.prog 107 #[.int .u8 n] w fun e w' => e = .returned (.bool (idSign n)) ∧ w' = w := by
  have H1 := hid (fun w => ywithin_any n 97 122 w)
  have H2 := hid (fun w => ywithin_any n 48 57 w)
  unfold idSign
  generalize inB n 97 122 = b1 at *
  generalize inB n 48 57 = b2 at *
  cases b1 with
  | true =>
    go_enter Tryz.func107, Tryz.ntmps107
    go_wp2_with fail
    refine (H1.out _).mono ?_
    rintro e w1 ⟨rfl, rfl⟩
    go_wp2
    go_ret
    exact ⟨rfl, rfl⟩
  | false =>
    cases b2 with
    | true =>
      go_enter Tryz.func107, Tryz.ntmps107
      go_wp2_with fail
      refine (H1.out _).mono ?_
      rintro e w1 ⟨rfl, rfl⟩
      go_wp2_with fail
      refine (H2.out _).mono ?_
      rintro e w2 ⟨rfl, rfl⟩
      go_wp2
      go_ret
      exact ⟨rfl, rfl⟩
    | false =>
      go_enter Tryz.func107, Tryz.ntmps107
      go_wp2_with fail
      refine (H1.out _).mono ?_
      rintro e w1 ⟨rfl, rfl⟩
      go_wp2_with fail
      refine (H2.out _).mono ?_
      rintro e w2 ⟨rfl, rfl⟩
      go_wp2
      go_ret
      exact ⟨ret_bool (by by_cases h : n = 45 <;> simp [h]), rfl⟩
theorem isClass_any (n : Int) (w : World) : Calls Tryz.prog 111 #[.int .i64 n] w fun e w' => e = .returned (.bool (clsOk n)) ∧ w' = w := by
  have H1 := hid (fun w => bwithin_any n 1 49 w)
  go_enter Tryz.func111, Tryz.ntmps111
  go_wp2_with fail
  refine (H1.out _).mono ?_
  rintro e w1 ⟨rfl, rfl⟩
  go_wp2
  go_ret
  exact ⟨rfl, rfl⟩
theorem isField_any (n : Int) (w : World) : Calls Tryz.prog 138 #[.int .i64 n] w fun e w' => e = .returned (.bool (fieldOk n)) ∧ w' = w := by
  have H1 := hid (fun w => bwithin_any n 0 5 w)
  go_enter Tryz.func138, Tryz.ntmps138
  go_wp2_with fail
  refine (H1.out _).mono ?_
  rintro e w1 ⟨rfl, rfl⟩
  go_wp2
  go_ret
  exact ⟨rfl, rfl⟩

end Go.Proofs.YtohgaknojkdohaaGreatDoor
