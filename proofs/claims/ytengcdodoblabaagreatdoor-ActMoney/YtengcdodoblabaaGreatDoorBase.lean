/- Values, rows of numbers, rows of values in memory; what a call leaves of them. -/
import Derived.Test.YtengcdodoblabaaGreatDoorCiRightMore
import Derived.Test.YtengcdodoblabaaGreatDoorCiRefMore
import Derived.Test.YtengcdodoblabaaGreatDoorCiBase
import Derived.Test.YtengcdodoblabaaGreatDoorDeMain
import Derived.Test.YtengcdodoblabaaGreatDoorDeRef
import Derived.WalkMore
namespace Go.Proofs.YtengcdodoblabaaGreatDoor
open Go.RowKit

theorem hid {p : Prop} (h : p) : Hid p := h
theorem ret_int {k : IntKind} {a b : Int} (h : a = b) : Ending.returned (.int k a) = .returned (.int k b) := by rw [h]
theorem ret_bool {a b : Bool} (h : a = b) : Ending.returned (.bool a) = .returned (.bool b) := by rw [h]
theorem up_trans {w w1 w2 : World} (h : Below w.heap.size w w1) (k : Below w1.heap.size w1 w2) : Below w.heap.size w w2 := h.trans (k.mono h.size)
theorem up_alloc (w : World) (o : Obj) : Below w.heap.size w (w.alloc o) := (Below.refl _ _).alloc (Nat.le_refl _) o
theorem lt_of_cell {w : World} {p : Addr} {v : Value} (h : w.cell? p = some v) : p.block < w.heap.size := by
  unfold World.cell? at h
  cases hx : w.heap[p.block]? with
  | none => rw [hx] at h; cases h
  | some o => exact (Array.getElem?_eq_some_iff.1 hx).1
theorem key_cut {G T : Prop} (rest : G → T) (key : G) : T := rest key

/-- A row of numbers. -/
def IA (w : World) (v : Value) (xs : List Int) : Prop :=
  ∃ (ad : Option Addr) (cap : Nat), v = .slice ad xs.length cap ∧ (xs.length ≤ 1000000 ∧ xs.length ≤ cap ∧ cap ≤ maxLen) ∧
    ((ad = none ∧ cap = 0 ∧ xs = []) ∨ ∃ b o, ad = some ⟨b, o, none⟩ ∧ b < w.heap.size ∧ ∀ j, j < xs.length → w.cell? ⟨b, o + j, none⟩ = some (.int .i64 (xs.getD j 0)))
theorem IA.on {w w' : World} {v : Value} {xs : List Int} (h : IA w v xs) (hb : Below w.heap.size w w') : IA w' v xs := by
  obtain ⟨ad, cap, h1, h2, h3⟩ := h
  refine ⟨ad, cap, h1, h2, ?_⟩
  rcases h3 with h3 | ⟨b, o, e, hlt, hc⟩
  · exact .inl h3
  · exact .inr ⟨b, o, e, Nat.lt_of_lt_of_le hlt hb.size, fun j hj => (hb.cell hlt).trans (hc j hj)⟩
theorem IA.nil (w : World) : IA w (.slice none 0 0) [] := ⟨none, 0, rfl, ⟨by decide, by decide, by decide⟩, .inl ⟨rfl, rfl, rfl⟩⟩
theorem IA.shape {w : World} {v : Value} {xs : List Int} (h : IA w v xs) : ∃ ad cap, v = .slice ad xs.length cap ∧ xs.length ≤ cap ∧ cap ≤ maxLen ∧ xs.length ≤ 1000000 := by
  obtain ⟨ad, cap, h1, h2, _⟩ := h
  exact ⟨ad, cap, h1, h2.2.1, h2.2.2, h2.1⟩
/-- A row that has some. -/
theorem IA.has {w : World} {v : Value} {xs : List Int} (h : IA w v xs) (hn : 0 < xs.length) : ∃ b o cap, v = .slice (some ⟨b, o, none⟩) xs.length cap ∧ xs.length ≤ cap ∧ cap ≤ maxLen ∧ b < w.heap.size ∧ ∀ j, j < xs.length → w.cell? ⟨b, o + j, none⟩ = some (.int .i64 (xs.getD j 0)) := by
  obtain ⟨ad, cap, h1, h2, h3⟩ := h
  rcases h3 with ⟨_, _, e⟩ | ⟨b, o, e, hlt, hc⟩
  · rw [e] at hn; cases hn
  · exact ⟨b, o, cap, by rw [h1, e], h2.2.1, h2.2.2, hlt, hc⟩
theorem IA.lit (w : World) (xs : List Int) (t : TypeId) (hn : 0 < xs.length) (hm : xs.length ≤ 1000) : IA (w.alloc (.cells (xs.map (fun x => Value.int .i64 x)).toArray t)) (.slice (some ⟨w.heap.size, 0, none⟩) xs.length xs.length) xs := by
  refine ⟨_, _, rfl, ⟨by omega, Nat.le_refl _, by unfold maxLen; omega⟩, .inr ⟨w.heap.size, 0, rfl, by simp, fun j hj => ?_⟩⟩
  have : (w.alloc (.cells (xs.map (fun x => Value.int .i64 x)).toArray t)).heap[w.heap.size]? = some (.cells (xs.map (fun x => Value.int .i64 x)).toArray t) := by
    show (w.heap.push _)[w.heap.size]? = _; simp
  unfold World.cell?
  dsimp only
  rw [this]
  simp [List.getElem?_eq_getElem hj]

structure Val where
  kind : Int
  f : List Int
def nilVal : Val := ⟨0, []⟩
/-- A value. -/
def VA (w : World) (v : Value) (x : Val) : Prop := ∃ fv, v = .agg #[.int .i64 x.kind, fv] ∧ IA w fv x.f
theorem VA.on {w w' : World} {v : Value} {x : Val} (h : VA w v x) (hb : Below w.heap.size w w') : VA w' v x := by
  obtain ⟨fv, h1, h2⟩ := h
  exact ⟨fv, h1, h2.on hb⟩
/-- A row of values. -/
def LA (w : World) (v : Value) (xs : List Val) : Prop :=
  ∃ (ad : Option Addr) (cap : Nat), v = .slice ad xs.length cap ∧ (xs.length ≤ 1000000 ∧ xs.length ≤ cap ∧ cap ≤ maxLen) ∧
    ((ad = none ∧ cap = 0 ∧ xs = []) ∨ ∃ b o, ad = some ⟨b, o, none⟩ ∧ b < w.heap.size ∧ ∀ j, j < xs.length → ∃ fv, w.cell? ⟨b, o + j * 2, none⟩ = some (.int .i64 (xs.getD j nilVal).kind) ∧ w.cell? ⟨b, o + j * 2 + 1, none⟩ = some fv ∧ IA w fv (xs.getD j nilVal).f)
theorem LA.on {w w' : World} {v : Value} {xs : List Val} (h : LA w v xs) (hb : Below w.heap.size w w') : LA w' v xs := by
  obtain ⟨ad, cap, h1, h2, h3⟩ := h
  refine ⟨ad, cap, h1, h2, ?_⟩
  rcases h3 with h3 | ⟨b, o, e, hlt, hc⟩
  · exact .inl h3
  · refine .inr ⟨b, o, e, Nat.lt_of_lt_of_le hlt hb.size, fun j hj => ?_⟩
    obtain ⟨fv, c0, c1, c2⟩ := hc j hj
    exact ⟨fv, (hb.cell hlt).trans c0, (hb.cell hlt).trans c1, c2.on hb⟩

structure Mom where
  y : Int
  m : Int
  d : Int
  h : Int
  i : Int
  s : Int
def momV (r : Mom) : Value := .agg #[.int .i64 r.y, .int .i64 r.m, .int .i64 r.d, .int .i64 r.h, .int .i64 r.i, .int .i64 r.s]

/-- How many numbers a kind has. -/
def fieldsL : List Int := [0, 2, 1, 0, 3, 3, 6, 2, 2, 1, 6]
/-- The two variables: how many numbers a kind has, and what an action stops with. -/
structure Tabs (p : Value) (w : World) : Prop where
  fields : ∀ k : Nat, k < 11 → w.cell? ⟨0, k, none⟩ = some (.int .i64 (fieldsL.getD k 0))
  stop : w.cell? ⟨1, 0, none⟩ = some (.iface 97 p)
theorem Tabs.on {p : Value} {w w' : World} (h : Tabs p w) (hb : Below w.heap.size w w') : Tabs p w' :=
  ⟨fun k hk => (hb.cell (lt_of_cell (h.fields k hk))).trans (h.fields k hk), (hb.cell (lt_of_cell h.stop)).trans h.stop⟩
/-- What an action stops with. -/
def boom (p : Value) : List PanicEntry := [{ v := .iface 97 p, recovered := false }]

def inB (n a b : Int) : Bool := decide (a ≤ n) && decide (n ≤ b)
theorem inB_true {n a b : Int} (h1 : a ≤ n) (h2 : n ≤ b) : inB n a b = true := by unfold inB; simp [h1, h2]
theorem inB_false {n a b : Int} (h : n < a ∨ b < n) : inB n a b = false := by unfold inB; simp; omega
theorem inB_iff {n a b : Int} : inB n a b = true ↔ a ≤ n ∧ n ≤ b := by unfold inB; simp

set_option maxHeartbeats 400000 in
theorem within_any (n a b : Int) (w : World) :
    Calls Tryz.prog 30 #[.int .i64 n, .int .i64 a, .int .i64 b] w fun e w' => e = .returned (.bool (inB n a b)) ∧ w' = w := by
  go_enter Tryz.func30, Tryz.ntmps30
  go_wp2
  all_goals
    go_ret
    refine ⟨ret_bool (Bool.eq_iff_iff.2 ?_), rfl⟩
    unfold inB
    simp
    omega

theorem need_yes (w : World) : Calls Tryz.prog 52 #[.bool true] w fun e w' => e = .returned (.tuple #[]) ∧ w' = w := by
  go_enter Tryz.func52, Tryz.ntmps52
  go_wp2
  go_end0
  exact ⟨rfl, rfl⟩

theorem need_no (p : Value) (w : World) (hT : Tabs p w) : Calls Tryz.prog 52 #[.bool false] w fun e w' => e = .panicked (boom p) ∧ w' = w := by
  have h := hT.stop
  clear hT
  go_enter Tryz.func52, Tryz.ntmps52
  go_wp2
  exact ⟨rfl, rfl, rfl⟩
end Go.Proofs.YtengcdodoblabaaGreatDoor
