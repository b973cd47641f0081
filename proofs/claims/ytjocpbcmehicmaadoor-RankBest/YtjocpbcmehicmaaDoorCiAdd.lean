/- What civil.Add answers of a day of the years 1 to 9999, of any months and any days: the day that the chapter's own way reckons, or none; it leaves what was in memory as it was. -/
import Derived.Test.YtjocpbcmehicmaaDoorCiDays
namespace Go.Proofs.YtjocpbcmehicmaaDoor.Ci
open Go.RowKit

theorem hid {p : Prop} (h : p) : Hid p := h

def addK (y m d mo da : Int) : Int := Civ.num (onY y m mo) (onM y m mo) (onD y m d mo) + da
def addOk (y m d mo da : Int) : Bool := inB mo (-1000000) 1000000 && inB da (-10000000) 10000000 && inB (Civ.cY (addK y m d mo da)) 1 9999
def tup (a b c : Int) (x : Bool) : Value := .tuple #[.int .i64 a, .int .i64 b, .int .i64 c, .bool x]
def addV (y m d mo da : Int) : Value := if addOk y m d mo da then tup (Civ.cY (addK y m d mo da)) (Civ.cM (addK y m d mo da)) (Civ.cD (addK y m d mo da)) true else tup 0 0 0 false

theorem on_bd (y m d mo : Int) (hv : Civ.vld y m d = true) (hy0 : 1 ≤ y) (hy1 : y ≤ 9999) (hq0 : -1000000 ≤ mo) (hq1 : mo ≤ 1000000) :
    (-1000000 ≤ onY y m mo ∧ onY y m mo ≤ 1000000) ∧ (1 ≤ onM y m mo ∧ onM y m mo ≤ 12) ∧ (1 ≤ onD y m d mo ∧ onD y m d mo ≤ 31) ∧ Civ.vld (onY y m mo) (onM y m mo) (onD y m d mo) = true := by
  obtain ⟨v1, v2, v3, v4⟩ := (Civ.vld_iff _ _ _).1 hv
  have h1 := len_le y m
  have h2 := len_le (onY y m mo) (onM y m mo)
  have hY : -1000000 ≤ onY y m mo ∧ onY y m mo ≤ 1000000 := by unfold onY; omega
  have hM : 1 ≤ onM y m mo ∧ onM y m mo ≤ 12 := by unfold onM onY; omega
  have hD : 1 ≤ onD y m d mo ∧ onD y m d mo ≤ 31 ∧ onD y m d mo ≤ Civ.len (onY y m mo) (onM y m mo) := by unfold onD; split <;> omega
  exact ⟨hY, hM, ⟨hD.1, hD.2.1⟩, (Civ.vld_iff _ _ _).2 ⟨hM.1, hM.2, hD.1, hD.2.2⟩⟩

end Go.Proofs.YtjocpbcmehicmaaDoor.Ci
