/- What package civil answers of days that are: the number of a day, the way back from it, whether a day is between two years, weekdays, lengths; each call leaves what was in memory as it was. -/
import Derived.Test.YtjocpbcmehicmaaDoorCiLeaf
import Derived.Deep.QuietTactic
import Derived.BigQuiet
import Derived.WalkSmall
import Derived.ChangeKeysEq
namespace Go.Proofs.YtjocpbcmehicmaaDoor.Ci
open Go.RowKit
theorem aY_bd (y : Int) (h0 : 0 ≤ y) (h1 : y ≤ 399) : 0 ≤ Civ.aY y ∧ Civ.aY y ≤ 146097 := by unfold Civ.aY; omega
theorem aM_bd (m : Int) (h0 : 0 ≤ m) (h1 : m ≤ 11) : 0 ≤ Civ.aM m ∧ Civ.aM m ≤ 400 := by unfold Civ.aM; omega
theorem num_lo (y m d : Int) (h3 : m < 3) : Civ.num y m d = (y - 1) / 400 * 146097 + Civ.aY (y - 1 - (y - 1) / 400 * 400) + Civ.aM (m - 3 + 12) + d - 1 - 719468 := by
  unfold Civ.num Civ.mY Civ.mM; simp only [if_pos h3]; rw [show m + 9 = m - 3 + 12 by omega]
theorem num_hi (y m d : Int) (h3 : ¬ m < 3) : Civ.num y m d = y / 400 * 146097 + Civ.aY (y - y / 400 * 400) + Civ.aM (m - 3) + d - 1 - 719468 := by
  unfold Civ.num Civ.mY Civ.mM; simp only [if_neg h3]

theorem mM_bd (n : Int) (h0 : 0 ≤ n) (h1 : n ≤ 365) : 0 ≤ (5 * n + 2) / 153 ∧ (5 * n + 2) / 153 ≤ 11 := by omega
theorem info3 : (Tryd.prog.info? 3).isSome = true := by kernel_rfl
theorem cells3 : Tryd.prog.cellsOf 3 = 1 := by kernel_rfl
theorem part_int (w : World) (k : Int) (xs : Array Value) (i : Nat) (h : xs[i]? = some (.int .i64 k)) : (part 3 xs i).run Tryd.prog w = .ok (.int .i64 k) w := by
  simp [part, h]
theorem equalIn_int3 (w : World) (a b : Int) : (Op.equalIn 9999 3 (.int .i64 a) (.int .i64 b)).run Tryd.prog w = .ok (a == b) w := by
  have h := run_equalIn_int (P := Tryd.prog) w 9998 3 .i64 .i64 a b Tryd.underlying3
  exact h
theorem eqItems_step (w : World) (x x' : Int) (xs ys : Array Value) (i : Nat) (is : List Nat) (h : xs[i * 1]? = some (.int .i64 x)) (h' : ys[i * 1]? = some (.int .i64 x')) :
    (Op.eqItems 9999 3 1 xs ys (i :: is)).run Tryd.prog w = if (x == x') = true then (Op.eqItems 9999 3 1 xs ys is).run Tryd.prog w else .ok false w := by
  simp only [Op.eqItems, Sem.run_bind, part_int w x xs _ h, part_int w x' ys _ h', equalIn_int3, Result.andThen_ok]
  cases x == x' <;> simp
theorem eqItems_date (w : World) (y m d y' m' d' : Int) : (Op.eqItems 9999 3 1 #[.int .i64 y, .int .i64 m, .int .i64 d] #[.int .i64 y', .int .i64 m', .int .i64 d'] [0, 1, 2]).run Tryd.prog w = .ok ((y == y') && (m == m') && (d == d')) w := by
  rw [eqItems_step w y y' _ _ 0 _ rfl rfl, eqItems_step w m m' _ _ 1 _ rfl rfl, eqItems_step w d d' _ _ 2 _ rfl rfl]
  cases y == y' <;> cases m == m' <;> cases d == d' <;> simp [Op.eqItems]
/-- a world that has grown out of w: below w's size it is as w is -/
structure Ext (w : World) where
  out : World
  below : Below w.heap.size w out

theorem Ext.cells {w : World} (s : Ext w) (b o : Nat) (h : b < w.heap.size) : s.out.cell? ⟨b, o, none⟩ = w.cell? ⟨b, o, none⟩ := s.below.cell (p := ⟨b, o, none⟩) h
theorem Ext.to {w w' : World} (s : Ext w) (h : Below s.out.heap.size s.out w') : ∃ s' : Ext w, w' = s'.out :=
  ⟨⟨w', s.below.trans (h.mono s.below.size)⟩, rfl⟩
theorem Ext.same {w : World} (s : Ext w) : ∃ s' : Ext w, s.out = s'.out := ⟨s, rfl⟩

section
variable {P : Program}
theorem wp_region_ext {id : Nat} {Q : Exit → Act → World → Prop} {a : Act} {w : World} {l : List Oper} (hm : P.follows .mixedOrders = true) (hB : Region.lexB .any l.toArray = true)
    (h : wpQuiet P l.toArray (fun w' => ∃ s : Ext w, w' = s.out) (fun a' => ∀ w', (∃ s : Ext w, w' = s.out) → Q .normal a' w') l a) : (Code.region id l.toArray true).wp P Q a w :=
  wp_region_quiet (C := fun w' => ∃ s : Ext w, w' = s.out) hm hB ⟨⟨w.drew, (Below.refl _ _).drew⟩, rfl⟩ (by simpa using h)
end

theorem num_bd (y m d : Int) (hy0 : -1000000 ≤ y) (hy1 : y ≤ 1000000) (hm0 : 1 ≤ m) (hm1 : m ≤ 12) (hd0 : 1 ≤ d) (hd1 : d ≤ 31) : -400000000 ≤ Civ.num y m d ∧ Civ.num y m d ≤ 400000000 := by
  unfold Civ.num Civ.aY Civ.aM Civ.mY Civ.mM; split <;> omega
theorem len_le (y m : Int) : 28 ≤ Civ.len y m ∧ Civ.len y m ≤ 31 := by
  unfold Civ.len; split; split <;> omega; split <;> omega

end Go.Proofs.YtjocpbcmehicmaaDoor.Ci
