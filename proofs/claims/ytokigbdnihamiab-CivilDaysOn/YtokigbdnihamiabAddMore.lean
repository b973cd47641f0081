/- What civil.Add comes to in the statements' own cases: months on and back, days on and back, a month's last days. -/
import Derived.Test.YtokigbdnihamiabBase
namespace Go.Proofs.Ytokigbdnihamiab
open Go.RowKit

theorem addV_no {y m d mo da : Int} (h : addOk y m d mo da = false) : addV y m d mo da = .tuple #[.int .i64 0, .int .i64 0, .int .i64 0, .bool false] := by
  unfold addV; rw [h]; rfl
theorem addV_yes {y m d mo da : Int} (h : addOk y m d mo da = true) : addV y m d mo da = .tuple #[.int .i64 (Civ.cY (addK y m d mo da)), .int .i64 (Civ.cM (addK y m d mo da)), .int .i64 (Civ.cD (addK y m d mo da)), .bool true] := by
  unfold addV; rw [h]; rfl
theorem addOk_iff {y m d mo da : Int} (q0 : -1000000 ≤ mo) (q1 : mo ≤ 1000000) (r0 : -10000000 ≤ da) (r1 : da ≤ 10000000) : addOk y m d mo da = inB (Civ.cY (addK y m d mo da)) 1 9999 := by
  unfold addOk; rw [inB_true q0 q1, inB_true r0 r1]; rfl

/-- no days: the day so many months on -/
theorem add_months (y m d mo : Int) (hv : Civ.vld y m d = true) (hy0 : 1 ≤ y) (hy1 : y ≤ 9999) (q0 : -1000000 ≤ mo) (q1 : mo ≤ 1000000) :
    addV y m d mo 0 = if inB (onY y m mo) 1 9999 then .tuple #[.int .i64 (onY y m mo), .int .i64 (onM y m mo), .int .i64 (onD y m d mo), .bool true] else .tuple #[.int .i64 0, .int .i64 0, .int .i64 0, .bool false] := by
  obtain ⟨_, _, _, v⟩ := on_bd y m d mo hv hy0 hy1 q0 q1
  have hK : addK y m d mo 0 = Civ.num (onY y m mo) (onM y m mo) (onD y m d mo) := by unfold addK; omega
  obtain ⟨e1, e2, e3⟩ := Civ.of_back _ _ _ v
  have ho := addOk_iff (y := y) (m := m) (d := d) (mo := mo) (da := 0) q0 q1 (by omega) (by omega)
  rw [hK, e1] at ho
  cases hb : inB (onY y m mo) 1 9999
  · rw [hb] at ho; rw [addV_no ho]; rfl
  · rw [hb] at ho; rw [addV_yes ho, hK, e1, e2, e3]; rfl

theorem on_zero (y m d : Int) (hv : Civ.vld y m d = true) : onY y m 0 = y ∧ onM y m 0 = m ∧ onD y m d 0 = d := by
  obtain ⟨v1, v2, v3, v4⟩ := (Civ.vld_iff _ _ _).1 hv
  have h1 : onY y m 0 = y := by unfold onY; omega
  have h2 : onM y m 0 = m := by unfold onM; rw [h1]; omega
  refine ⟨h1, h2, ?_⟩
  unfold onD; rw [h1, h2]; split <;> omega

/-- no months: the day so many days on -/
theorem add_days (y m d da : Int) (hv : Civ.vld y m d = true) (r0 : -10000000 ≤ da) (r1 : da ≤ 10000000) :
    addV y m d 0 da = if inB (Civ.cY (Civ.num y m d + da)) 1 9999 then .tuple #[.int .i64 (Civ.cY (Civ.num y m d + da)), .int .i64 (Civ.cM (Civ.num y m d + da)), .int .i64 (Civ.cD (Civ.num y m d + da)), .bool true] else .tuple #[.int .i64 0, .int .i64 0, .int .i64 0, .bool false] := by
  obtain ⟨e1, e2, e3⟩ := on_zero y m d hv
  have hK : addK y m d 0 da = Civ.num y m d + da := by unfold addK; rw [e1, e2, e3]
  have ho := addOk_iff (y := y) (m := m) (d := d) (mo := 0) (da := da) (by omega) (by omega) r0 r1
  rw [hK] at ho
  cases hb : inB (Civ.cY (Civ.num y m d + da)) 1 9999
  · rw [hb] at ho; rw [addV_no ho]; rfl
  · rw [hb] at ho; rw [addV_yes ho, hK]; rfl

theorem on_back (y m k : Int) (h1 : 1 ≤ m) (h2 : m ≤ 12) : onY (onY y m k) (onM y m k) (-k) = y ∧ onM (onY y m k) (onM y m k) (-k) = m := by
  unfold onM onY; omega

theorem era_num (y m d j : Int) : Civ.num (y + 400 * j) m d = Civ.num y m d + 146097 * j := by
  rw [Civ.num_G, Civ.num_G]
  have e : Civ.mY (y + 400 * j) m = Civ.mY y m + 400 * j := by unfold Civ.mY; omega
  rw [e]
  unfold Civ.G
  omega
theorem era_len (y m j : Int) : Civ.len (y + 400 * j) m = Civ.len y m := by
  unfold Civ.len; rw [Civ.lp_era]
theorem era_vld (y m d j : Int) : Civ.vld (y + 400 * j) m d = Civ.vld y m d := by
  unfold Civ.vld; rw [era_len]
end Go.Proofs.Ytokigbdnihamiab
