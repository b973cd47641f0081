/- What the reference's own calls Weekday, Civil, Add answer: the same numbers as package civil's; they leave the world as it is. -/
import Derived.Test.YtengcdodoblabaaDoorCiRef
namespace Go.Proofs.YtengcdodoblabaaDoor.Ci
open Go.RowKit

theorem rc_facts (k r Y D M : Int) (hr : r = k + 719468 - 146097 * ((k + 719468) / 146097)) (hY : Y = (r - r / 1460 + r / 36524 - r / 146096) / 365) (hD : D = r - (365 * Y + Y / 4 - Y / 100)) (hM : M = (5 * D + 2) / 153) :
    (0 ≤ r ∧ r ≤ 146096 ∧ 0 ≤ Y ∧ Y ≤ 399 ∧ 0 ≤ D ∧ D ≤ 365 ∧ 0 ≤ M ∧ M ≤ 11) ∧ Y = Civ.ofY k ∧ D = Civ.ofD k ∧ M = Civ.ofM k := by
  have e1 : r = k + 719468 - (k + 719468) / 146097 * 146097 := by omega
  have e2 : Y = Civ.ofY k := by rw [hY, e1]; rfl
  have e3 : D = Civ.ofD k := by rw [hD, e2, e1]; rfl
  have e4 : M = Civ.ofM k := by rw [hM, e3]; rfl
  have hy := Civ.yr r (by omega) (by omega)
  obtain ⟨y0, y1, y2, y3⟩ := hy
  have e5 : Civ.yOf r = Y := hY.symm
  rw [e5] at y0 y1 y2 y3
  have e6 : D = r - Civ.aY Y := hD
  have hd1 : D ≤ 365 := by split at y3 <;> omega
  have hd0 : 0 ≤ D := by omega
  have := mM_bd D hd0 hd1
  exact ⟨⟨by omega, by omega, y0, y1, hd0, hd1, by omega, by omega⟩, e2, e3, e4⟩

theorem ret3 {a b c a' b' c' : Int} (h1 : a = a') (h2 : b = b') (h3 : c = c') : Ending.returned (.tuple #[.int .i64 a, .int .i64 b, .int .i64 c]) = .returned (.tuple #[.int .i64 a', .int .i64 b', .int .i64 c']) := by rw [h1, h2, h3]
theorem p9 (x : Int) : x + 3 - 12 = x - 9 := by omega

theorem onY' (y m mo : Int) : onY y m mo = (12 * y + m - 1 + mo) / 12 := by unfold onY; rw [Int.mul_comm y 12]
theorem onM' (y m mo : Int) : onM y m mo = 12 * y + m - 1 + mo - 12 * onY y m mo + 1 := by unfold onM; rw [Int.mul_comm y 12]

def addN (k : Int) : Value := if inB (Civ.cY k) 1 9999 then tup (Civ.cY k) (Civ.cM k) (Civ.cD k) true else tup 0 0 0 false

end Go.Proofs.YtengcdodoblabaaDoor.Ci
