/- ActGroups answers true of any row of numbers and any two numbers: groups of three digits are together one number; a group of another length is none. The table of how many numbers a kind has, and what an action stops with, are as listed. -/
import Derived.Test.YtengcdodoblabaaDoorCards
import Derived.Test.YtengcdodoblabaaDoorTie
import Derived.Test.YtengcdodoblabaaDoorTab
import Derived.ProofKit
import Derived.OpenShut
import Derived.Lay
import Derived.SevenTiedAt
import Derived.Stop.Joined
import Derived.Lib.LaidTab
import Derived.Deep.Cut
import Derived.Deep.CutBlock
import Derived.Deep.RegionHeld
import Derived.Deep.AppendLies
import Derived.Laws.OwnMore
import Derived.Test.YtengcdodoblabaaDoorVal
import Derived.Test.YtengcdodoblabaaDoorArgs
namespace Go.Proofs.YtengcdodoblabaaDoor
open Go.ChangeShapes Go.WideShapes Go.ChangeAt Go.RowKit

theorem own_apart {w : World} {B B' n n' s s' : Nat} {e e' : TypeId} {v v' : Value} {xs xs' : List Value} (h : w.ownsRow B e s v n xs) (h' : w.ownsRow B' e' s' v' n' xs') (he : e ≠ e') : v'.ownBlock = none ∨ v'.ownBlock ≠ v.ownBlock := by
  obtain ⟨_, ⟨rfl, _⟩ | ⟨g, cap, cur, rfl, _, hg, _⟩⟩ := h
  · obtain ⟨_, ⟨rfl, _⟩ | ⟨g', cap', cur', rfl, _, hg', _⟩⟩ := h'
    · exact .inl rfl
    · exact .inr (by simp [Value.ownBlock])
  · obtain ⟨_, ⟨rfl, _⟩ | ⟨g', cap', cur', rfl, _, hg', _⟩⟩ := h'
    · exact .inl rfl
    · refine .inr (fun e2 => ?_)
      injection e2 with e2
      dsimp only at e2
      rw [e2] at hg'
      rw [hg] at hg'
      injection hg' with hg'
      injection hg' with _ h5
      exact he h5
theorem own_ge {w : World} {B n s : Nat} {e : TypeId} {v : Value} {xs : List Value} (h : w.ownsRow B e s v n xs) : ∀ g, v.ownBlock = some g → B ≤ g := by
  intro g hg
  obtain ⟨_, ⟨rfl, _⟩ | ⟨g', cap, cur, rfl, hB, _⟩⟩ := h
  · cases hg
  · injection hg with hg; rw [← hg]; exact hB
theorem own_up {w w' : World} {B n s : Nat} {e : TypeId} {v : Value} {xs : List Value} (h : w.ownsRow B e s v n xs) (hb : Below w.heap.size w w') : w'.ownsRow B e s v n xs := by
  refine World.ownsRow.kept (row := none) h ⟨hb.os, hb.tape, hb.output, hb.size, fun k hk _ => hb.block k hk⟩ ?_
  cases hv : v.ownBlock with
  | none => exact .inl rfl
  | some k => exact .inr (by simp)
theorem info_val : (Tryd.prog.info? 24).map (fun i => (i.zero, i.size, i.bytes)) = some (some (.agg #[.int .i64 0, .slice none 0 0]), 2, 32) := by kernel_rfl
theorem rowC_append : ∀ (l : List (Int × Value)) (x : Int × Value), rowC (l ++ [x]) = rowC l ++ [.int .i64 x.1, x.2]
  | [], _ => rfl
  | y :: l, x => by show Value.int .i64 y.1 :: y.2 :: rowC (l ++ [x]) = _; rw [rowC_append l x]; rfl
theorem row_at {w : World} {o : Obj} {g : Nat} (h : g = w.heap.size) : (w.alloc o).heap[g]? = some o := by subst h; exact new_row w o
theorem row_up {w : World} {o o' : Obj} {g : Nat} (h : w.heap[g]? = some o) : (w.alloc o').heap[g]? = some o := ((up_alloc w o').block g (Array.getElem?_eq_some_iff.1 h).1).trans h
theorem row_drew {w : World} {o : Obj} {g : Nat} (h : w.heap[g]? = some o) : w.drew.heap[g]? = some o := h
theorem row_on {w w' : World} {o : Obj} {g : Nat} (hb : Below w.heap.size w w') (h : w.heap[g]? = some o) : w'.heap[g]? = some o := (hb.block g (Array.getElem?_eq_some_iff.1 h).1).trans h

theorem row_on2 {w w' : World} {o : Obj} {g : Nat} (hb : Below w.heap.size w w') (h : w.heap[g]? = some o) : w'.heap[g]? = some o ∧ g < w.heap.size := ⟨row_on hb h, (Array.getElem?_eq_some_iff.1 h).1⟩
/-- What stands behind the second call: the answer in its block. -/
def Fin (w5 : World) (m s : Int) (v18 v19 : Value) (w : World) : Prop :=
  ∃ g sv, v18 = .pointer (some ⟨g, 0, none⟩) ∧ v19 = .bool true ∧ Hid (w.heap[g]? = some (.cells #[.int .i64 7, sv] 24 (0, 0))) ∧ Hid (IA w sv [m, s]) ∧ Hid (Below w5.heap.size w5 w)
theorem fin_alloc {w5 w4 : World} {m s : Int} {sv : Value} (hf : IA w4 sv [m, s]) (hb : Below w5.heap.size w5 w4) : Fin w5 m s (.pointer (some ⟨w4.heap.size, 0, none⟩)) (.bool true) (w4.alloc (.cells #[.int .i64 7, sv] 24)) :=
  ⟨_, _, rfl, rfl, new_row _ _, hf.on (up_alloc _ _), up_trans hb (up_alloc _ _)⟩
theorem fin_set {w5 w4 : World} {m s : Int} {sv z0 z1 : Value} {B g : Nat} (hz : w4.heap[g]? = some (.cells #[z0, z1] 24 (0, 0))) (hf : NA B w4 sv [m, s]) (hg : g < B) (hg5 : w5.heap.size ≤ g) (hb : Below w5.heap.size w5 w4) :
    Fin w5 m s (.pointer (some ⟨g, 0, none⟩)) (.bool true) ((w4.setCell ⟨g, 0, none⟩ (.int .i64 7)).setCell ⟨g, 1, none⟩ sv) :=
  ⟨_, _, rfl, rfl, heap_setCell_same _ _ 1 _ _ _ (heap_setCell_same _ _ 0 _ _ _ hz), (NA.set (NA.set hf hg) hg).ia, (hb.setCell (p := ⟨g, 0, none⟩) hg5 _).setCell (p := ⟨g, 1, none⟩) hg5 _⟩
section
variable {w5 : World} {bv : Nat} {x0 x1 : Value}
theorem s_up {w : World} (h : w.cell? ⟨bv, 0, none⟩ = some x0 ∧ w.cell? ⟨bv, 1, none⟩ = some x1 ∧ Hid (Below w5.heap.size w5 w)) (o : Obj) :
    (w.alloc o).cell? ⟨bv, 0, none⟩ = some x0 ∧ (w.alloc o).cell? ⟨bv, 1, none⟩ = some x1 ∧ Hid (Below w5.heap.size w5 (w.alloc o)) :=
  ⟨((up_alloc w o).cell (lt_of_cell h.1)).trans h.1, ((up_alloc w o).cell (lt_of_cell h.2.1)).trans h.2.1, up_trans h.2.2 (up_alloc _ _)⟩
theorem s_on {w w' : World} (h : w.cell? ⟨bv, 0, none⟩ = some x0 ∧ w.cell? ⟨bv, 1, none⟩ = some x1 ∧ Hid (Below w5.heap.size w5 w)) (hb : Below w.heap.size w w') :
    w'.cell? ⟨bv, 0, none⟩ = some x0 ∧ w'.cell? ⟨bv, 1, none⟩ = some x1 ∧ Hid (Below w5.heap.size w5 w') :=
  ⟨(hb.cell (lt_of_cell h.1)).trans h.1, (hb.cell (lt_of_cell h.2.1)).trans h.2.1, up_trans h.2.2 hb⟩
theorem s_set {w : World} {g : Nat} {x y : Value} (h : w.cell? ⟨bv, 0, none⟩ = some x0 ∧ w.cell? ⟨bv, 1, none⟩ = some x1 ∧ Hid (Below w5.heap.size w5 w)) (hbv : bv < w5.heap.size) (hg : w5.heap.size ≤ g) :
    ((w.setCell ⟨g, 0, none⟩ x).setCell ⟨g, 1, none⟩ y).cell? ⟨bv, 0, none⟩ = some x0 ∧ ((w.setCell ⟨g, 0, none⟩ x).setCell ⟨g, 1, none⟩ y).cell? ⟨bv, 1, none⟩ = some x1 ∧ Hid (Below w5.heap.size w5 ((w.setCell ⟨g, 0, none⟩ x).setCell ⟨g, 1, none⟩ y)) := by
  have hb : Below w5.heap.size w5 ((w.setCell ⟨g, 0, none⟩ x).setCell ⟨g, 1, none⟩ y) := (h.2.2.out.setCell (p := ⟨g, 0, none⟩) hg _).setCell (p := ⟨g, 1, none⟩) hg _
  exact ⟨((hb.cell (p := ⟨bv, 0, none⟩) hbv).trans (h.2.2.out.cell (p := ⟨bv, 0, none⟩) hbv).symm).trans h.1, ((hb.cell (p := ⟨bv, 1, none⟩) hbv).trans (h.2.2.out.cell (p := ⟨bv, 1, none⟩) hbv).symm).trans h.2.1, hb⟩
end

/-- A number of so many digits. -/
def numV (c : Int × Int) : Val := ⟨1, [c.1, c.2]⟩
def grpV (a : Int) (ns : List Int) : Int := ns.foldl (fun a n => 1000 * a + n) a
theorem grpV_snoc (a : Int) (ns : List Int) (n : Int) : grpV a (ns ++ [n]) = 1000 * grpV a ns + n := by unfold grpV; rw [List.foldl_append]; rfl
theorem grp_some : ∀ (ns : List Int) (a d : Int), (∀ n ∈ ns, 0 ≤ n ∧ n ≤ 999) → d + 3 * (ns.length : Int) ≤ 18 → grpL (ns.map fun n => numV (n, 3)) a d = some ⟨7, [grpV a ns, 0]⟩
  | [], a, d, _, _ => rfl
  | n :: ns, a, d, h, hd => by
    obtain ⟨h0, h1⟩ := h n (by simp)
    have hl : ((n :: ns).length : Int) = ns.length + 1 := by simp
    show grpL (numV (n, 3) :: ns.map fun n => numV (n, 3)) a d = _
    have e : grpL (numV (n, 3) :: ns.map fun n => numV (n, 3)) a d = if (3 : Int) = 3 then if d + 3 ≤ 18 then if inB n 0 999 = true then grpL (ns.map fun n => numV (n, 3)) (a * 1000 + n) (d + 3) else none else none else none := rfl
    rw [e, if_pos rfl, if_pos (by omega), if_pos (inB_true h0 h1), grp_some ns _ _ (fun m hm => h m (by simp [hm])) (by omega)]
    show some (⟨7, [grpV (a * 1000 + n) ns, 0]⟩ : Val) = some ⟨7, [grpV (1000 * a + n) ns, 0]⟩
    rw [Int.mul_comm]
theorem grp_none : ∀ (cs : List (Int × Int)) (a d : Int), (∃ c ∈ cs, c.2 = 4) → grpL (cs.map numV) a d = none
  | [], _, _, h => by obtain ⟨c, hc, _⟩ := h; cases hc
  | c :: cs, a, d, h => by
    have e : grpL ((c :: cs).map numV) a d = if c.2 = 3 then if d + 3 ≤ 18 then if inB c.1 0 999 = true then grpL (cs.map numV) (a * 1000 + c.1) (d + 3) else none else none else none := rfl
    rw [e]
    by_cases h3 : c.2 = 3
    · rw [if_pos h3]
      obtain ⟨c', hc, h4⟩ := h
      rcases List.mem_cons.1 hc with rfl | hc
      · omega
      · rw [grp_none cs _ _ ⟨c', hc, h4⟩]
        split
        · split <;> rfl
        · rfl
    · rw [if_neg h3]
theorem groups_some (r : Mom) (x f : Int) (ns : List Int) (h0 : 0 ≤ x) (h1 : x ≤ 999) (f0 : 1 ≤ f) (f1 : f ≤ 3) (hn : ∀ n ∈ ns, 0 ≤ n ∧ n ≤ 999) (hl : ns.length ≤ 5) (hv0 : 0 ≤ grpV x ns) (hv1 : grpV x ns ≤ 999999999999999999) :
    doO 10 (madeO 10 r (numV (x, f) :: ns.map fun n => numV (n, 3))) = some ⟨7, [grpV x ns, 0]⟩ := by
  have e : madeO 10 r (numV (x, f) :: ns.map fun n => numV (n, 3)) = if inB f 1 3 = true then if inB x 0 999 = true then grpL (ns.map fun n => numV (n, 3)) x f else none else none := rfl
  rw [e, if_pos (inB_true f0 f1), if_pos (inB_true h0 h1), grp_some ns x f hn (by omega)]
  exact if_pos (.inr (norm_right (grpV x ns) 0 (by omega) (by omega) (by omega)))
theorem groups_none (r : Mom) (cs : List (Int × Int)) (h : ∃ c ∈ cs, c.2 = 4) : doO 10 (madeO 10 r (cs.map numV)) = none := by
  cases cs with
  | nil => obtain ⟨c, hc, _⟩ := h; cases hc
  | cons c cs =>
    have e : madeO 10 r ((c :: cs).map numV) = if inB c.2 1 3 = true then if inB c.1 0 999 = true then grpL (cs.map numV) c.1 c.2 else none else none := rfl
    rw [e]
    obtain ⟨c', hc, h4⟩ := h
    rcases List.mem_cons.1 hc with rfl | hc
    · rw [h4]; rfl
    · rw [grp_none cs _ _ ⟨c', hc, h4⟩]
      split
      · split <;> rfl
      · rfl

/-- Children by the blocks of their numbers. -/
def KC (cs : List (Nat × Int × Int)) : List Value := rowC (cs.map fun c => ((1 : Int), Value.slice (some ⟨c.1, 0, none⟩) 2 2))
def kidsOf (cs : List (Nat × Int × Int)) : List (Int × Int) := cs.map (·.2)
def Kids (w : World) (P : Option Nat) (cs : List (Nat × Int × Int)) : Prop := ∀ c ∈ cs, w.heap[c.1]? = some (.cells #[.int .i64 c.2.1, .int .i64 c.2.2] 3 (0, 0)) ∧ P ≠ some c.1
theorem KC_snoc (cs : List (Nat × Int × Int)) (c : Nat × Int × Int) : KC (cs ++ [c]) = KC cs ++ [.int .i64 1, .slice (some ⟨c.1, 0, none⟩) 2 2] := by
  unfold KC
  rw [List.map_append, List.map_cons, List.map_nil, rowC_append]
def KL (w : World) (B : Nat) (v : Value) (cs : List (Nat × Int × Int)) : Prop := w.ownsRow B 24 2 v cs.length (KC cs)
theorem KL.la {w : World} {B : Nat} {v : Value} {cs : List (Nat × Int × Int)} {P : Option Nat} (h : KL w B v cs) (hk : Kids w P cs) (hj : cs.length ≤ 1000) : LA w v ((kidsOf cs).map numV) := by
  have hlen : ((kidsOf cs).map numV).length = cs.length := by unfold kidsOf; simp
  obtain ⟨_, ⟨rfl, h0⟩ | ⟨g, cap, cur, rfl, _, hg, h1, h2, h3, h4⟩⟩ := h
  · have : cs = [] := List.length_eq_zero_iff.1 h0
    subst this
    exact ⟨none, 0, rfl, ⟨by decide, by decide, by decide⟩, .inl ⟨rfl, rfl, rfl⟩⟩
  · refine ⟨some ⟨g, 0, none⟩, cap, by rw [hlen], ⟨by rw [hlen]; omega, by rw [hlen]; exact h1, h2⟩, .inr ⟨g, 0, rfl, (Array.getElem?_eq_some_iff.1 hg).1, fun i hi => ?_⟩⟩
    rw [hlen] at hi
    obtain ⟨c, hc⟩ : ∃ c, cs[i]? = some c := ⟨_, List.getElem?_eq_getElem hi⟩
    have hr : (cs.map fun c => ((1 : Int), Value.slice (some ⟨c.1, 0, none⟩) 2 2))[i]? = some (1, .slice (some ⟨c.1, 0, none⟩) 2 2) := by rw [List.getElem?_map, hc]; rfl
    obtain ⟨e1, e2⟩ := rowC_at _ i _ hr
    have hm : ((kidsOf cs).map numV).getD i nilVal = numV c.2 := by unfold kidsOf; rw [List.getD_eq_getElem?_getD, List.getElem?_map, List.getElem?_map, hc]; rfl
    rw [hm]
    have t1 := congrArg (·[i * 2]?) h4
    have t2 := congrArg (·[i * 2 + 1]?) h4
    rw [List.getElem?_take] at t1 t2
    rw [if_pos (by omega)] at t1 t2
    refine ⟨.slice (some ⟨c.1, 0, none⟩) 2 2, ?_, ?_, IA.at [c.2.1, c.2.2] (hk c (List.mem_of_getElem? hc)).1 (by simp)⟩
    · rw [Nat.zero_add, cell_of_row hg, ← Array.getElem?_toList, t1]; exact e1
    · rw [Nat.zero_add, cell_of_row hg, ← Array.getElem?_toList, t2]; exact e2
theorem Kids.on {w w' : World} {P : Option Nat} {cs : List (Nat × Int × Int)} (h : Kids w P cs) (hb : Below w.heap.size w w') : Kids w' P cs := fun c hc => ⟨row_on hb (h c hc).1, (h c hc).2⟩
theorem Kids.grown {w w' : World} {P Q : Option Nat} {cs : List (Nat × Int × Int)} (h : Kids w P cs) (hg : w.grownBy w' Q) (hq : ∀ c ∈ cs, Q ≠ some c.1) : Kids w' P cs := fun c hc =>
  ⟨(hg.block c.1 (Array.getElem?_eq_some_iff.1 (h c hc).1).1 (fun e => hq c hc e.symm)).trans (h c hc).1, (h c hc).2⟩
/-- A row of values lies apart from rows of numbers. -/
theorem KL.apart {w : World} {B : Nat} {v : Value} {cs cs' : List (Nat × Int × Int)} {P : Option Nat} (h : KL w B v cs) (hk : Kids w P cs') : ∀ c ∈ cs', v.ownBlock ≠ some c.1 := by
  intro c hc e
  obtain ⟨_, ⟨rfl, _⟩ | ⟨g, cap, cur, rfl, _, hg, _⟩⟩ := h
  · cases e
  · injection e with e
    dsimp only at e
    rw [e] at hg
    have := hg.symm.trans (hk c hc).1
    injection this with this
    injection this with _ h5
    exact absurd h5 (by decide)
def ixs (j : Nat) : List Int := (List.range j).map (fun (i : Nat) => (i : Int))
theorem ixs_succ (j : Nat) : (ixs (j + 1)).map (Value.int .i64) = (ixs j).map (Value.int .i64) ++ [.int .i64 (j : Int)] := by
  unfold ixs
  rw [List.range_succ, List.map_append, List.map_append]; rfl
theorem ixs_len (j : Nat) : (ixs j).length = j := by unfold ixs; simp
theorem ixs_all {α : Type} (l : List α) (z : α) : (ixs l.length).map (fun (q : Int) => l.getD q.toNat z) = l := by
  unfold ixs
  rw [List.map_map]
  apply List.ext_getElem
  · simp
  · intro i h1 h2
    simp [List.getD_eq_getElem?_getD, List.getElem?_eq_getElem h2]
theorem lits_at (w : World) (k : Nat) (hk : k < 3) : (w.alloc (.cells #[.int .i64 10, .int .i64 100, .int .i64 1000] 3)).cell? ⟨w.heap.size, k, none⟩ = some (.int .i64 (De.Dc.ten (k + 1))) := by
  rw [cell_of_row (new_row w _)]
  have : k = 0 ∨ k = 1 ∨ k = 2 := by omega
  rcases this with rfl | rfl | rfl <;> rfl
theorem ten_three (k : Nat) (hk : k < 3) : 10 ≤ De.Dc.ten (k + 1) ∧ De.Dc.ten (k + 1) ≤ 1000 := by
  have : k = 0 ∨ k = 1 ∨ k = 2 := by omega
  rcases this with rfl | rfl | rfl <;> decide
theorem own_not {w : World} {B n s b : Nat} {e t : TypeId} {v : Value} {xs : List Value} {c : Array Value} {fz : Nat × Nat} (h : w.ownsRow B e s v n xs) (hb : w.heap[b]? = some (.cells c t fz)) (he : t ≠ e) : v.ownBlock ≠ some b := by
  intro k
  obtain ⟨_, ⟨rfl, _⟩ | ⟨g, cap, cur, rfl, _, hg, _⟩⟩ := h
  · cases k
  · injection k with k
    dsimp only at k
    rw [k] at hg
    have := hg.symm.trans hb
    injection this with this
    injection this with _ h5
    exact he h5.symm
theorem own_lt {w : World} {B n s : Nat} {e : TypeId} {v : Value} {xs : List Value} (h : w.ownsRow B e s v n xs) : ∀ g, v.ownBlock = some g → g < w.heap.size := by
  intro g k
  obtain ⟨_, ⟨rfl, _⟩ | ⟨g', cap, cur, rfl, _, hg, _⟩⟩ := h
  · cases k
  · injection k with k
    dsimp only at k
    rw [← k]
    exact (Array.getElem?_eq_some_iff.1 hg).1
theorem grown_row {w w' : World} {P : Option Nat} {b : Nat} {o : Obj} (h : w.heap[b]? = some o) (hg : w.grownBy w' P) (hn : P ≠ some b) : w'.heap[b]? = some o :=
  (hg.block b (Array.getElem?_eq_some_iff.1 h).1 (fun e => hn e.symm)).trans h
theorem ten_le15 (n : Nat) (h : n ≤ 5) : De.Dc.ten (3 * n) ≤ 1000000000000000 := by
  rcases (by omega : n = 0 ∨ n = 1 ∨ n = 2 ∨ n = 3 ∨ n = 4 ∨ n = 5) with rfl | rfl | rfl | rfl | rfl | rfl <;> decide
theorem grpV_bd (x : Int) (h0 : 0 ≤ x) (h1 : x ≤ 999) (l : List Int) (hl : ∀ n ∈ l, 0 ≤ n ∧ n ≤ 999) : ∀ j, 0 ≤ grpV x (l.take j) ∧ grpV x (l.take j) < De.Dc.ten (3 * (j + 1)) := by
  intro j
  induction j with
  | zero =>
    rw [List.take_zero]
    have : De.Dc.ten (3 * (0 + 1)) = 1000 := by decide
    exact ⟨h0, by show x < _; omega⟩
  | succ j ih =>
    rw [ten3 (j + 1)]
    by_cases hj : j < l.length
    · rw [List.take_succ_eq_append_getElem hj, grpV_snoc]
      obtain ⟨a, b⟩ := hl _ (List.getElem_mem hj)
      omega
    · rw [List.take_of_length_le (by omega)]
      rw [List.take_of_length_le (by omega)] at ih
      have := De.Dc.ten_pos (3 * (j + 1))
      omega
/-- What stands in memory ahead of a round, and behind the last one. -/
def St (wA : World) (b i : Nat) (cs : List (Nat × Int × Int)) (lv pv : Value) (w : World) : Prop :=
  KL w wA.heap.size lv cs ∧ w.ownsRow wA.heap.size 3 1 pv i ((ixs i).map (Value.int .i64)) ∧ Kids w pv.ownBlock cs ∧ w.heap[b]? = some (.cells #[.int .i64 10, pv] 32 (0, 0)) ∧ Below wA.heap.size wA w
theorem St.on {wA : World} {b i : Nat} {cs : List (Nat × Int × Int)} {lv pv : Value} {w w' : World} (h : St wA b i cs lv pv w) (hb : Below w.heap.size w w') : St wA b i cs lv pv w' :=
  ⟨own_up h.1 hb, own_up h.2.1 hb, h.2.2.1.on hb, row_on hb h.2.2.2.1, h.2.2.2.2.trans (hb.mono h.2.2.2.2.size)⟩
theorem st_val {wA : World} {b i : Nat} {cs : List (Nat × Int × Int)} {lv pv v' : Value} {w2 w3 : World} {g : Nat} {n d : Int} (h : St wA b i cs lv pv w2) (hg : w2.heap[g]? = some (.cells #[.int .i64 n, .int .i64 d] 3 (0, 0))) (hp : pv.ownBlock ≠ some g)
    (hown : w3.ownsRow wA.heap.size 24 2 v' (cs.length + 1) (KC cs ++ [.int .i64 1, .slice (some ⟨g, 0, none⟩) 2 2])) (hgrow : w2.grownBy w3 lv.ownBlock) : St wA b i (cs ++ [(g, n, d)]) v' pv w3 := by
  obtain ⟨h1, h2, h3, h4, h5⟩ := h
  refine ⟨?_, World.ownsRow.kept h2 hgrow (own_apart h1 h2 (by decide)), fun c hc => ?_, grown_row h4 hgrow (own_not h1 h4 (by decide)), h5.trans (below_grown hgrow h5.size (own_ge h1))⟩
  · unfold KL
    rw [KC_snoc, List.length_append]
    exact hown
  · rcases List.mem_append.1 hc with hc | hc
    · exact Kids.grown h3 hgrow (KL.apart h1 h3) c hc
    · obtain rfl : c = (g, n, d) := by simpa using hc
      exact ⟨grown_row hg hgrow (own_not h1 hg (by decide)), hp⟩
theorem st_num {wA : World} {b i g cap : Nat} {cs : List (Nat × Int × Int)} {lv pv : Value} {w3 w4 : World} (h : St wA b i cs lv pv w3)
    (hown : w4.ownsRow wA.heap.size 3 1 (.slice (some ⟨g, 0, none⟩) (i + 1) cap) (i + 1) ((ixs (i + 1)).map (Value.int .i64))) (hgrow : w3.grownBy w4 pv.ownBlock) (hat : pv.ownBlock = some g ∨ g = w3.heap.size) (hB : wA.heap.size ≤ b) :
    (w4.heap[b]? = some (.cells #[.int .i64 10, pv] 32 (0, 0))) ∧ St wA b (i + 1) cs lv (.slice (some ⟨g, 0, none⟩) (i + 1) cap) (w4.setCell ⟨b, 1, none⟩ (.slice (some ⟨g, 0, none⟩) (i + 1) cap)) := by
  obtain ⟨h1, h2, h3, h4, h5⟩ := h
  have hbw := grown_row h4 hgrow (own_not h2 h4 (by decide))
  have h1' : KL w4 wA.heap.size lv cs := World.ownsRow.kept h1 hgrow (own_apart h2 h1 (by decide))
  have h5' := h5.trans (below_grown hgrow h5.size (own_ge h2))
  refine ⟨hbw, World.ownsRow.kept h1' (set_by _ _ _ _) (.inr (fun e => own_not h1' hbw (by decide) e)), World.ownsRow.kept hown (set_by _ _ _ _) (.inr (fun e => own_not hown hbw (by decide) e)), fun c hc => ⟨?_, ?_⟩, heap_setCell_same _ _ 1 _ _ _ hbw, ?_⟩
  · have hr := grown_row (h3 c hc).1 hgrow (h3 c hc).2
    refine (heap_setCell_other w4 ⟨b, 1, none⟩ c.1 _ (fun e => ?_)).trans hr
    dsimp only at e
    rw [e] at hr
    have := hr.symm.trans hbw
    injection this with this
    injection this with _ h5
    exact absurd h5 (by decide)
  · rcases hat with hat | hat
    · intro e
      exact (h3 c hc).2 (hat.trans e)
    · intro e
      injection e with e
      dsimp only at e
      have := (Array.getElem?_eq_some_iff.1 (h3 c hc).1).1
      omega
  · exact h5'.setCell (p := ⟨b, 1, none⟩) hB _

theorem rowC_set : ∀ (l : List (Int × Value)) (j : Nat) (x : Int × Value), ((rowC l).set (j * 2) (.int .i64 x.1)).set (j * 2 + 1) x.2 = rowC (l.set j x)
  | [], j, x => by simp [rowC]
  | y :: l, 0, x => rfl
  | y :: l, j + 1, x => by
    show ((Value.int .i64 y.1 :: y.2 :: rowC l).set ((j + 1) * 2) _).set ((j + 1) * 2 + 1) _ = Value.int .i64 y.1 :: y.2 :: rowC (l.set j x)
    rw [show (j + 1) * 2 + 1 = (j * 2 + 1) + 1 + 1 by omega, show (j + 1) * 2 = j * 2 + 1 + 1 by omega, List.set_cons_succ, List.set_cons_succ, List.set_cons_succ, List.set_cons_succ, rowC_set l j x]
/-- A child's cells. -/
theorem kid_cells {wA w : World} {b i gl capl kk gk : Nat} {xk dk : Int} {cs : List (Nat × Int × Int)} {pv : Value} {n : Nat} (h : St wA b i cs (.slice (some ⟨gl, 0, none⟩) n capl) pv w) (hk : cs[kk]? = some (gk, xk, dk)) :
    w.cell? ⟨gl, kk * 2, none⟩ = some (.int .i64 1) ∧ w.cell? ⟨gl, kk * 2 + 1, none⟩ = some (.slice (some ⟨gk, 0, none⟩) 2 2) ∧ w.cell? ⟨gk, 0, none⟩ = some (.int .i64 xk) ∧ (∃ cur, w.heap[gl]? = some (.cells cur 24 (0, 0))) := by
  obtain ⟨h1, h2, h3, h4, h5⟩ := h
  have hlt := (List.getElem?_eq_some_iff.1 hk).1
  have h3k := (h3 _ (List.mem_of_getElem? hk)).1
  obtain ⟨_, ⟨e, h0⟩ | ⟨g, cap, cur, e, _, hg, p1, p2, p3, p4⟩⟩ := h1
  · cases e
  · injection e with e1 e2 e3
    injection e1 with e1
    injection e1 with e1
    subst e1
    have hr : (cs.map fun c => ((1 : Int), Value.slice (some ⟨c.1, 0, none⟩) 2 2))[kk]? = some (1, .slice (some ⟨gk, 0, none⟩) 2 2) := by rw [List.getElem?_map, hk]; rfl
    obtain ⟨r1, r2⟩ := rowC_at _ kk _ hr
    have t1 := congrArg (·[kk * 2]?) p4
    have t2 := congrArg (·[kk * 2 + 1]?) p4
    rw [List.getElem?_take] at t1 t2
    rw [if_pos (by omega)] at t1 t2
    refine ⟨?_, ?_, by rw [cell_of_row h3k]; rfl, cur, hg⟩
    · rw [cell_of_row hg, ← Array.getElem?_toList, t1]; exact r1
    · rw [cell_of_row hg, ← Array.getElem?_toList, t2]; exact r2
/-- One child laid anew. -/
theorem st_set {wA w : World} {b i gl capl kk gn : Nat} {x d : Int} {cs : List (Nat × Int × Int)} {pv : Value} {n : Nat} (h : St wA b i cs (.slice (some ⟨gl, 0, none⟩) n capl) pv w) (hn : n = cs.length) (hg : w.heap[gn]? = some (.cells #[.int .i64 x, .int .i64 d] 3 (0, 0))) (hp : pv.ownBlock ≠ some gn) (hB : wA.heap.size ≤ gl) :
    St wA b i (cs.set kk (gn, x, d)) (.slice (some ⟨gl, 0, none⟩) n capl) pv ((w.setCell ⟨gl, kk * 2, none⟩ (.int .i64 1)).setCell ⟨gl, kk * 2 + 1, none⟩ (.slice (some ⟨gn, 0, none⟩) 2 2)) := by
  subst hn
  obtain ⟨h1, h2, h3, h4, h5⟩ := h
  have n4 : gl ≠ b := fun e => own_not h1 h4 (by decide) (by rw [← e]; rfl)
  have n2 : pv.ownBlock = none ∨ pv.ownBlock ≠ some gl := own_apart h1 h2 (by decide)
  have far : ∀ {k : Nat} {o : Obj}, w.heap[k]? = some o → gl ≠ k → ((w.setCell ⟨gl, kk * 2, none⟩ (.int .i64 1)).setCell ⟨gl, kk * 2 + 1, none⟩ (.slice (some ⟨gn, 0, none⟩) 2 2)).heap[k]? = some o := fun {k o} hk hne =>
    (heap_setCell_other _ ⟨gl, kk * 2 + 1, none⟩ k _ (Ne.symm hne)).trans ((heap_setCell_other w ⟨gl, kk * 2, none⟩ k _ (Ne.symm hne)).trans hk)
  have k1 := (World.ownsRow.stored h1 (kk * 2) (.int .i64 1))
  have k2 := (World.ownsRow.stored k1.1 (kk * 2 + 1) (.slice (some ⟨gn, 0, none⟩) 2 2))
  have hgrow := grown_on k1.2 k2.2
  have hne : ∀ {k : Nat} {c : Array Value}, w.heap[k]? = some (.cells c 3 (0, 0)) → gl ≠ k := fun hk e => own_not h1 hk (by decide) (by rw [← e]; rfl)
  refine ⟨?_, World.ownsRow.kept h2 hgrow n2, fun c hc => ?_, far h4 n4, (h5.setCell (p := ⟨gl, kk * 2, none⟩) hB _).setCell (p := ⟨gl, kk * 2 + 1, none⟩) hB _⟩
  · unfold KL
    rw [List.length_set]
    have e : ((KC cs).set (kk * 2) (.int .i64 1)).set (kk * 2 + 1) (.slice (some ⟨gn, 0, none⟩) 2 2) = KC (cs.set kk (gn, x, d)) := by
      unfold KC
      rw [List.map_set]
      exact rowC_set _ kk (1, _)
    rw [← e]
    exact k2.1
  · rcases List.mem_or_eq_of_mem_set hc with hc | rfl
    · exact ⟨far (h3 c hc).1 (hne (h3 c hc).1), (h3 c hc).2⟩
    · exact ⟨far hg (hne hg), hp⟩

set_option maxRecDepth 8000 in
set_option maxHeartbeats 8000000 in
theorem walk (v0 : Value) (x0 : List Int) (first bad : Int) (W : World) (u0 : IX W v0 x0) (w0 : (Lit.int .i64 first).wf = true) (w1 : (Lit.int .i64 bad).wf = true) (hX : TabsE W) : Calls Tryd.prog 4 #[v0, .int .i64 first, .int .i64 bad] W fun e W' => e = .returned (.bool true) ∧ Below W.heap.size W W' := by
  obtain ⟨p, hT⟩ := hX
  obtain ⟨ba, ba'⟩ := wf_bd w0
  obtain ⟨bb, bb'⟩ := wf_bd w1
  have HK := hid (known_any p W hT)
  have HT := hid hT
  have HR := hid fun w => ref_any first w ba ba'
  have HRR := hid (refM_right first)
  have H1 := hid fun w => lwithin_any first 3 w (by decide) (by decide) ba ba'
  obtain ⟨k, hk⟩ : ∃ k : Nat, first % 3 = k := ⟨(first % 3).toNat, by omega⟩
  rw [hk] at H1
  have hk3 : k < 3 := by omega
  obtain ⟨t0, t1⟩ := ten_three k hk3
  have htd : -9223372036854775808 ≤ first.tdiv 3 ∧ first.tdiv 3 ≤ 9223372036854775807 := by
    by_cases h : 0 ≤ first
    · rw [Int.tdiv_eq_ediv_of_nonneg h]; omega
    · have e : first.tdiv 3 = -((-first).tdiv 3) := by rw [Int.neg_tdiv]; omega
      rw [e, Int.tdiv_eq_ediv_of_nonneg (by omega)]; omega
  have H2 := hid fun w => lwithin_any (first.tdiv 3) (De.Dc.ten (k + 1)) w (by omega) (by omega) htd.1 htd.2
  have hx0 : 0 ≤ first.tdiv 3 % De.Dc.ten (k + 1) := Int.emod_nonneg _ (by omega)
  have hx1 : first.tdiv 3 % De.Dc.ten (k + 1) < De.Dc.ten (k + 1) := Int.emod_lt_of_pos _ (by omega)
  generalize first.tdiv 3 % De.Dc.ten (k + 1) = x at *
  have HTA := hid fun w => lits_at w k hk3
  generalize De.Dc.ten (k + 1) = P at *
  obtain ⟨htd0, htd1⟩ := htd
  obtain ⟨ad0, cap0, rfl, hc0, hc1, hcell, hall⟩ := u0
  obtain ⟨NS, hNS⟩ : ∃ NS, NS = (x0.take 5).map (fun y => y % 1000) := ⟨_, rfl⟩
  have hNSl : NS.length ≤ 5 := by rw [hNS]; simp; omega
  have hNSb : ∀ n ∈ NS, 0 ≤ n ∧ n ≤ 999 := by
    intro n hn
    rw [hNS] at hn
    obtain ⟨y, _, rfl⟩ := List.mem_map.1 hn
    omega
  have hbd := grpV_bd x hx0 (by omega) NS hNSb
  have HB5 := hid (show ∀ bb : Int, True from fun _ => trivial)
  have HCE := hid hcell
  have HAL := hid hall
  obtain ⟨i1, hi1, hz1, hs1, hby1⟩ := info_parts info_int
  obtain ⟨i2, hi2, hz2, hs2, hby2⟩ := info_parts info_val
  have HNS := hid hNS
  have HNSB := hid hNSb
  have HBD := hid hbd
  obtain ⟨D, hD⟩ : ∃ D : Int, D = 1 + (k : Int) := ⟨_, rfl⟩
  have hD3 : 1 ≤ D ∧ D ≤ 3 := by omega
  obtain ⟨D1, D2⟩ := hD3
  obtain ⟨N0, hN0⟩ : ∃ N0, N0 = x0.length := ⟨_, rfl⟩
  have hm : NS.length = min N0 5 := by rw [hNS, hN0]; simp; omega
  have HN0 := hid hN0
  have HDk := hid hD
  clear hT w0 w1 ba ba' hk hNS hNSb hbd hcell hall HB5 hD hN0
  rw [← HN0.out] at hc0
  rw [← HN0.out]
  go_enter Tryd.func4, Tryd.ntmps4
  go_wp2_with fail
  refine HK.out.mono ?_
  rintro e w1 ⟨rfl, hb1⟩
  have HB1 := hid hb1
  clear hb1 HK
  go_wp2_with fail
  refine (H1.out _).mono ?_
  rintro e wn ⟨rfl, hw⟩
  obtain rfl := hw.symm
  clear hw
  have c0 := HTA.out w1
  have hk3' : (k : Int) < 3 := by omega
  have hd1 : wrap64 (1 + (k : Int) - 1) = k := by rw [show (1 : Int) + (k : Int) - 1 = k by omega]; exact IntWalk.wrap64_in _ (by omega)
  obtain ⟨wA, hwA⟩ : ∃ wA, wA = w1.alloc (.cells #[.int .i64 10, .int .i64 100, .int .i64 1000] 3) := ⟨_, rfl⟩
  have HBA := hid (show Below W.heap.size W wA by rw [hwA]; exact up_trans HB1.out (up_alloc _ _))
  go_wp2_with fail
  rw [← hwA]
  clear hwA c0
  have hD' : (1 : Int) + (k : Int) = D := HDk.out.symm
  refine (H2.out _).mono ?_
  rintro e wn ⟨rfl, hw⟩
  obtain rfl := hw.symm
  clear hw
  clear H1 H2 HTA
  obtain ⟨wB, hwB⟩ : ∃ wB, wB = (((wA.alloc (.cells #[.int .i64 (x), .int .i64 (D)] 3)).alloc (.cells #[.int .i64 1, .slice (some ⟨wA.heap.size, 0, none⟩) 2 2] 24)).alloc (.cells #[.int .i64 (0)] 3)).alloc (.cells #[.int .i64 10, .slice (some ⟨wA.heap.size + 1 + 1, 0, none⟩) 1 1] 32) := ⟨_, rfl⟩
  obtain ⟨hc, hb, hswB⟩ := chain_heap wA [.cells #[.int .i64 (x), .int .i64 (D)] 3, .cells #[.int .i64 1, .slice (some ⟨wA.heap.size, 0, none⟩) 2 2] 24, .cells #[.int .i64 (0)] 3, .cells #[.int .i64 10, .slice (some ⟨wA.heap.size + 1 + 1, 0, none⟩) 1 1] 32]
  simp only [List.foldl_cons, List.foldl_nil] at hc hb hswB
  rw [← hwB] at hc hb hswB
  have hwB_0 := hid (show wB.heap[wA.heap.size]? = some _ from hc 0 _ rfl)
  have hwB_1 := hid (hc 1 _ rfl)
  have hwB_2 := hid (hc 2 _ rfl)
  have hwB_3 := hid (hc 3 _ rfl)
  have HBwB := hid hb
  have HswB := hid (show wB.heap.size = wA.heap.size + 4 from hswB)
  clear hc hb hswB
  have HS0 : Hid (St wA (wA.heap.size + 1 + 1 + 1) 1 [(wA.heap.size, x, D)] (.slice (some ⟨wA.heap.size + 1, 0, none⟩) 1 1) (.slice (some ⟨wA.heap.size + 1 + 1, 0, none⟩) 1 1) wB) := hid ⟨⟨rfl, .inr ⟨_, 1, _, rfl, by omega, hwB_1.out, by simp, by simp [maxLen], rfl, rfl⟩⟩, ⟨rfl, .inr ⟨_, 1, _, rfl, by omega, hwB_2.out, by simp, by simp [maxLen], rfl, rfl⟩⟩, fun c hc => by simp at hc; subst hc; exact ⟨hwB_0.out, by simp [Value.ownBlock]; omega⟩, hwB_3.out, HBwB.out⟩
  generalize hab : wA.heap.size + 1 + 1 + 1 = ab at *
  go_upto_block 0 with fail
  rw [← hwB]
  clear hwB hwB_0 hwB_1 hwB_2 hwB_3
  have HBB := hid (up_trans HBA.out HBwB.out)
  have HAb := hid (show wA.heap.size ≤ ab by omega)
  clear HBwB HswB hab
  go_cut [8, 9] from 18 (fun v8 v9 wc => ∃ cs lv pv, v8 = .int .i64 (grpV x NS) ∧ v9 = lv ∧ Hid (kidsOf cs = (x, D) :: NS.map fun n => (n, (3 : Int))) ∧ Hid (cs.length = NS.length + 1) ∧ Hid (St wA ab (NS.length + 1) cs lv pv wc))
  case first =>
    go_wp2
    go_loopw [8, 9, 11] (fun v8 v9 v11 wr => ∃ (j : Nat) (cs : List (Nat × Int × Int)) (lv pv : Value), j ≤ NS.length ∧ v11 = .int .i64 j ∧ v8 = .int .i64 (grpV x (NS.take j)) ∧ v9 = lv ∧ Hid (kidsOf cs = (x, D) :: (NS.take j).map fun n => (n, (3 : Int))) ∧ Hid (cs.length = j + 1) ∧ Hid (St wA ab (j + 1) cs lv pv wr)) (fun _ _ v11 _ => NS.length - (intOf v11).toNat)
    case atStart => exact ⟨0, _, _, _, by omega, rfl, rfl, rfl, hid rfl, hid rfl, HS0⟩
    case round =>
      obtain ⟨j, cs, lv, pv, hj, rfl, rfl, hlv, HKi, HLn, HS⟩ := hrel
      obtain rfl := hlv.symm
      by_cases hlt : j < NS.length
      case pos =>
        have h1 : (j : Int) < (N0 : Int) := by omega
        have h2 : (j : Int) < 5 := by omega
        obtain ⟨g0, o0, rfl, hg0, hcells⟩ := HCE.out (by rw [← HN0.out]; omega)
        obtain ⟨s1, s2, s3, s4, s5⟩ := HS.out
        have HWr := hid (up_trans HBA.out s5)
        have y0 := ((HWr.out.cell (p := ⟨g0, o0 + j, none⟩) hg0)).trans (hcells j (by rw [← HN0.out]; omega))
        have hyb := HAL.out _ (List.getElem_mem (show j < x0.length by rw [← HN0.out]; omega))
        have hyg : x0.getD j 0 = x0[j]'(by rw [← HN0.out]; omega) := by rw [List.getD_eq_getElem?_getD, List.getElem?_eq_getElem (by rw [← HN0.out]; omega)]; rfl
        have hnj : NS[j]? = some (x0.getD j 0 % 1000) := by rw [HNS.out, List.getElem?_map, List.getElem?_take, if_pos (by omega), List.getElem?_eq_getElem (by rw [← HN0.out]; omega), hyg]; rfl
        rw [← hyg] at hyb
        generalize x0.getD j 0 = y at *
        have HM := hid fun w => lwithin_any y 1000 w (by decide) (by decide) hyb.1 hyb.2
        have htk : NS.take (j + 1) = NS.take j ++ [y % 1000] := by rw [List.take_add_one, hnj]; rfl
        obtain ⟨bd0, bd1⟩ := HBD.out j
        have hten := ten_small j (by omega)
        have hgs := grpV_snoc x (NS.take j) (y % 1000)
        have hnb : 0 ≤ y % 1000 ∧ y % 1000 ≤ 999 := by omega
        generalize y % 1000 = n at *
        generalize hV : grpV x (NS.take j) = V at *
        have HTK := hid htk
        have HGS := hid hgs
        clear htk hgs hV hnj hyg hcells hg0 hyb
        go_wp2_with fail
        refine (HM.out _).mono ?_
        rintro e wn ⟨rfl, hw⟩
        obtain rfl := hw.symm
        clear hw HM
        have HUB := hid (up_trans (up_alloc wr (.cells #[.int .i64 (n), .int .i64 (3)] 3)) (up_alloc _ (.cells #[.int .i64 1, .slice (some ⟨wr.heap.size, 0, none⟩) 2 2] 24)))
        have HRA := hid (row_up (o' := .cells #[.int .i64 1, .slice (some ⟨wr.heap.size, 0, none⟩) 2 2] 24) (new_row wr (.cells #[.int .i64 (n), .int .i64 (3)] 3)))
        have HRB := hid (new_row (wr.alloc (.cells #[.int .i64 (n), .int .i64 (3)] 3)) (.cells #[.int .i64 1, .slice (some ⟨wr.heap.size, 0, none⟩) 2 2] 24))
        rw [show (wr.alloc (.cells #[.int .i64 (n), .int .i64 (3)] 3)).heap.size = wr.heap.size + 1 by simp] at HRB
        have HS2 := hid (HS.out.on HUB.out)
        have HPG := hid (fun (e : pv.ownBlock = some wr.heap.size) => by have := own_lt s2 _ e; omega : pv.ownBlock ≠ some wr.heap.size)
        clear s1 s2 s3 s4 s5 y0
        go_wp2_with (at_builtin; first
          | (refine wpList_append_lies _ rfl (.tmp 53) (.tmp 57) 30 rfl wA.heap.size 24 i2 _ 2 32 Tryd.underlying30 hi2 hz2 hs2 hby2 rfl (by decide) lv cs.length (KC cs) (by simp [Act.eval]) HS2.out.1 ⟨wr.heap.size + 1, 0, none⟩ 1 1 [.int .i64 1, .slice (some ⟨wr.heap.size, 0, none⟩) 2 2] (by simp [Act.eval]) rfl (World.news_of_block HRB.out) (by simp [Value.oneCell']) (by decide) (by have := HLn.out; unfold maxLen; omega) (by have := HLn.out; omega) HS2.out.2.2.2.2.size _ rfl ?_
             intro g3 cap3 w3 hown hgrow hat hlt3
             have HS3 := hid (st_val HS2.out HRA.out HPG.out hown hgrow)
             have a1 : w3.cell? ⟨ab, 1, none⟩ = some pv := by rw [cell_of_row HS3.out.2.2.2.1]; rfl
             clear hown hgrow hat hlt3)
          | (refine wpList_append_lies _ rfl (.tmp 60) (.tmp 63) 22 rfl wA.heap.size 3 i1 _ 1 8 Tryd.underlying22 hi1 hz1 hs1 hby1 rfl (by decide) pv (j + 1) ((ixs (j + 1)).map (Value.int .i64)) (by simp [Act.eval]) (HS3.out.on (up_alloc w3 (.cells #[.int .i64 ((j : Int) + 1)] 3))).2.1 ⟨w3.heap.size, 0, none⟩ 1 1 [.int .i64 ((j : Int) + 1)] (by simp [Act.eval]) rfl (World.news_of_block (new_row w3 (.cells #[.int .i64 ((j : Int) + 1)] 3))) (by simp [Value.oneCell']) (by decide) (by unfold maxLen; omega) (by omega) (HS3.out.on (up_alloc w3 (.cells #[.int .i64 ((j : Int) + 1)] 3))).2.2.2.2.size _ rfl ?_
             intro g4 cap4 w4 hown hgrow hat hlt4
             obtain ⟨hb4, hs4⟩ := st_num (HS3.out.on (up_alloc w3 (.cells #[.int .i64 ((j : Int) + 1)] 3))) (by rw [ixs_succ]; exact hown) hgrow hat HAb.out
             have HB4 := hid hb4
             have HS4 := hid hs4
             have a1 : w4.cell? ⟨ab, 1, none⟩ = some pv := by rw [cell_of_row HB4.out]; rfl
             have a2 : w4.frozen? ⟨ab, 1, none⟩ = false := frozen_of_row HB4.out
             clear hown hgrow hat hlt4 hb4 hs4))
        have HS5 := hid (show St wA ab (j + 1 + 1) (cs ++ [(wr.heap.size, n, 3)]) _ _ _ from HS4.out)
        have HK5 := hid (show kidsOf (cs ++ [(wr.heap.size, n, 3)]) = (x, D) :: (NS.take (j + 1)).map fun n => (n, (3 : Int)) by unfold kidsOf; rw [List.map_append, show cs.map (·.2) = _ from HKi.out, HTK.out, List.map_append]; rfl)
        go_round
        case rel => exact ⟨j + 1, cs ++ [(wr.heap.size, n, 3)], _, _, by omega, by simp, by rw [HTK.out, HGS.out], rfl, HK5, hid (by rw [List.length_append, HLn.out]; rfl), HS5⟩
        case measure => simp [intOf]; omega
      case neg =>
        obtain rfl : j = NS.length := by omega
        rw [List.take_length] at *
        by_cases h5 : N0 ≤ 5
        case pos =>
          have hq : ¬ (NS.length : Int) < (N0 : Int) := by omega
          have hq2 : decide ((NS.length : Int) < (N0 : Int)) = false := decide_eq_false hq
          go_wp2
          go_meet
          case rel => exact ⟨cs, _, pv, rfl, rfl, HKi, HLn, HS⟩
        case neg =>
          have hq : (NS.length : Int) < (N0 : Int) := by omega
          have hq2 : ¬ (NS.length : Int) < 5 := by omega
          go_wp2
          go_meet
          case rel => exact ⟨cs, _, pv, rfl, rfl, HKi, HLn, HS⟩
  case rest =>
    obtain ⟨wP, rfl⟩ : ∃ wP, wP = wc := ⟨_, rfl⟩
    obtain ⟨cs, lv, pv, rfl, hlv, HKi, HLn, HS⟩ := hcut
    obtain rfl := hlv.symm
    have HWc := hid (up_trans HBA.out HS.out.2.2.2.2)
    have hV : 0 ≤ grpV x NS ∧ grpV x NS < De.Dc.ten (3 * (NS.length + 1)) := by have h := HBD.out NS.length; rw [List.take_length] at h; exact h
    have hV2 : De.Dc.ten (3 * (NS.length + 1)) ≤ 1000000000000000000 := by rw [ten3, show (1000000000000000000 : Int) = 1000 * 1000000000000000 by decide]; have := ten_le15 NS.length hNSl; omega
    obtain ⟨hV0, hV1⟩ := hV
    have HM := hid (groups_some (refM first) x D NS hx0 (by omega) D1 D2 HNSB.out hNSl hV0 (by omega))
    have hcl : cs.length ≤ 6 := by have := HLn.out; omega
    have HLA := hid (HS.out.1.la HS.out.2.2.1 (by omega))
    rw [HKi.out] at HLA
    have hpn := HS.out.2.1
    have HPA := hid (RN.na (xs := ixs (NS.length + 1)) (show RN wP wA.heap.size pv (ixs (NS.length + 1)) by unfold RN; rw [ixs_len]; exact hpn) (by rw [ixs_len]; omega)).ia
    obtain ⟨V, hVe⟩ : ∃ V, V = grpV x NS := ⟨_, rfl⟩
    rw [← hVe] at hV0 hV1 HM ⊢
    have HVe := hid hVe
    clear hVe hpn
    rw [← HLn.out] at HS HPA
    obtain ⟨gl, capl, el, hgl, hgl2⟩ := World.ownsRow.form HS.out.1 (by have := HLn.out; omega)
    obtain ⟨gp, capp, ep, hgp, hgp2⟩ := World.ownsRow.form HS.out.2.1 (by have := HLn.out; omega)
    subst el ep
    obtain ⟨KS, hKS⟩ : ∃ KS, KS = numV (x, D) :: NS.map (fun n => numV (n, 3)) := ⟨_, rfl⟩
    have hK2 : List.map numV ((x, D) :: NS.map fun n => (n, (3 : Int))) = KS := by rw [hKS, List.map_cons, List.map_map]; rfl
    rw [hK2] at HLA
    rw [← hKS] at HM
    have hKl : KS.length = cs.length := by rw [hKS, HLn.out]; simp
    have HW10 := hid (show Wants 10 KS by rw [hKS]; trivial)
    have HKl := hid hKl
    rw [← hKl] at HPA
    have HDO := hid fun (w : World) (hb : Below wP.heap.size wP w) => made_any (p := p) 10 (refM first) KS (ixs KS.length) _ _ w (by decide) (HPA.out.on hb) (HLA.out.on hb) (HT.out.on (up_trans HWc.out hb)) (by intro q hq; unfold ixs at hq; obtain ⟨i, hi, rfl⟩ := List.mem_map.1 hq; have := List.mem_range.1 hi; omega) (by rw [ixs_all]; exact HW10.out) HRR.out
    rw [ixs_all, HM.out, hKl] at HDO
    generalize hL : cs.length = L at *
    have HL := hid hL
    clear hK2 hKS hKl HM hL
    have hab5 : ab < wP.heap.size := (Array.getElem?_eq_some_iff.1 HS.out.2.2.2.1).1
    have k0 : wP.drew.cell? ⟨ab, 0, none⟩ = some (.int .i64 10) := by rw [show wP.drew.cell? ⟨ab, 0, none⟩ = wP.cell? ⟨ab, 0, none⟩ from rfl, cell_of_row HS.out.2.2.2.1]; rfl
    have k1 : wP.drew.cell? ⟨ab, 1, none⟩ = some (.slice (some ⟨gp, 0, none⟩) L capp) := by rw [show wP.drew.cell? ⟨ab, 1, none⟩ = wP.cell? ⟨ab, 1, none⟩ from rfl, cell_of_row HS.out.2.2.2.1]; rfl
    go_wp2
    go_cut [13, 14] from 18 (fun v13 v14 wd => Fin wP V 0 v13 v14 wd)
    case first =>
      go_region_held (fun w' => w'.cell? ⟨ab, 0, none⟩ = some (.int .i64 10) ∧ w'.cell? ⟨ab, 1, none⟩ = some (.slice (some ⟨gp, 0, none⟩) L capp) ∧ Hid (Below wP.heap.size wP w')) (first | assumption | exact ⟨k0, k1, hid (Below.refl _ _).drew⟩ | exact s_on (by assumption) (by assumption) | exact s_up HS4.out _ | exact s_up (by assumption) _ | exact s_set (by assumption) hab5 (by omega)) (first
        | (go_at_call 13; refine (HR.out _).mono ?_; rintro e w3 ⟨rfl, hb3⟩; have hsz3 : wP.heap.size ≤ w3.heap.size := (by have := hb3.size; simp at this; omega))
        | (go_at_call 12; refine (HDO.out _ (Hid.out (And.right (And.right (by assumption))))).mono ?_; rintro e w4 ⟨hb4, hr⟩; have HS4 := hid (s_on (w5 := wP) (bv := ab) (x0 := .int .i64 10) (x1 := .slice (some ⟨gp, 0, none⟩) L capp) (by assumption) hb4); obtain ⟨vv, rfl, hv⟩ := hr; obtain ⟨fv, rfl, hf⟩ := hv; have HF4 := hid hf; obtain ⟨gb, go, gcap, rfl, hc1', hc2', hlt⟩ := hf.ia.has2; clear hf; dsimp only at HF4 ⊢; (first | (have hzz := row_on2 (g := wP.heap.size) (o := .cells #[.int .i64 0, .slice none 0 0] 24 (0, 0)) hb4 (by first | ((repeat (first | exact row_at (by first | (simp; done) | fail) | with_reducible refine row_up ?_ | with_reducible refine row_on hb3 ?_ | with_reducible refine row_drew ?_)); done) | fail); obtain ⟨zc, zlt⟩ := hzz; have ZC := hid zc; have z0 : w4.cell? ⟨wP.heap.size, 0, none⟩ = some (.int .i64 0) := (by rw [cell_of_row ZC.out]; rfl); have z1 : w4.cell? ⟨wP.heap.size, 1, none⟩ = some (.slice none 0 0) := (by rw [cell_of_row ZC.out]; rfl); have zf : ∀ o, w4.frozen? ⟨wP.heap.size, o, none⟩ = false := (fun o => frozen_of_row ZC.out)) | (have hzz := row_on2 (g := w3.heap.size) (o := .cells #[.int .i64 0, .slice none 0 0] 24 (0, 0)) hb4 (by first | ((repeat (first | exact row_at (by first | (simp; done) | fail) | with_reducible refine row_up ?_ | with_reducible refine row_on hb3 ?_ | with_reducible refine row_drew ?_)); done) | fail); obtain ⟨zc, zlt⟩ := hzz; have ZC := hid zc; have z0 : w4.cell? ⟨w3.heap.size, 0, none⟩ = some (.int .i64 0) := (by rw [cell_of_row ZC.out]; rfl); have z1 : w4.cell? ⟨w3.heap.size, 1, none⟩ = some (.slice none 0 0) := (by rw [cell_of_row ZC.out]; rfl); have zf : ∀ o, w4.frozen? ⟨w3.heap.size, o, none⟩ = false := (fun o => frozen_of_row ZC.out)) | skip)))
      all_goals
        go_wp2_with fail
        go_meet
        case rel => first | exact fin_alloc HF4.out.ia HS4.out.2.2.out | exact fin_set ZC.out HF4.out zlt (by omega) HS4.out.2.2
    case rest =>
      obtain ⟨g18, sv18, rfl, rfl, HG18, HI18, HB18⟩ := hcut
      obtain ⟨b18, o18, cap18, rfl, _, _, _⟩ := HI18.out.has2
      have HBW := hid (up_trans HWc.out HB18.out)
      have HS' := hid (HS.out.on HB18.out)
      have HLA' := hid (HLA.out.on HB18.out)
      have k2 : wc.cell? ⟨g18, 0, none⟩ = some (.int .i64 7) := by rw [cell_of_row HG18.out]; rfl
      have k3 : wc.cell? ⟨g18, 1, none⟩ = some (.slice (some ⟨b18, o18, none⟩) 2 cap18) := by rw [cell_of_row HG18.out]; rfl
      clear HS HLA HWc HB18 k0 k1 HDO HPA HG18 hab5
      obtain ⟨w6, hw6⟩ : ∃ w6, w6 = wc.alloc (.cells #[.int .i64 (V), .int .i64 (0)] 3) := ⟨_, rfl⟩
      have HB6 := hid (show Below wc.heap.size wc w6 by rw [hw6]; exact up_alloc _ _)
      have HC1 := hid (rcmp_any ⟨7, [V, 0]⟩ ⟨7, [V, 0]⟩ _ _ w6 ⟨_, rfl, HI18.out.on HB6.out⟩ ⟨_, rfl, IA.at [V, 0] (show w6.heap[wc.heap.size]? = some _ by rw [hw6]; exact new_row _ _) (by simp)⟩)
      rw [cmpV_self] at HC1
      go_wp2_with fail
      rw [← hw6]
      clear hw6 k2 k3 HI18
      refine HC1.out.mono ?_
      rintro e w7 ⟨rfl, hb7⟩
      have HB7 := hid (up_trans HB6.out hb7)
      have HS7 := hid (HS'.out.on HB7.out)
      have HLA7 := hid (HLA'.out.on HB7.out)
      have HW7 := hid (up_trans HBW.out HB7.out)
      clear hb7 HC1 HB6 HB7 HS' HLA' HBW
      have HMB := hid fun w => lwithin_any bad (L : Int) w (by have := HLn.out; omega) (by have := HLn.out; omega) bb bb'
      obtain ⟨kk, hkk⟩ : ∃ kk : Nat, bad % (L : Int) = kk := ⟨(bad % (L : Int)).toNat, by have := Int.emod_nonneg bad (show (L : Int) ≠ 0 by have := HLn.out; omega); omega⟩
      have hkL : kk < L := by have := Int.emod_lt_of_pos bad (show (0 : Int) < L by have := HLn.out; omega); omega
      rw [hkk] at HMB
      clear hkk
      go_wp2_with fail
      refine (HMB.out _).mono ?_
      rintro e wn ⟨rfl, hw⟩
      obtain rfl := hw.symm
      clear hw HMB
      obtain ⟨⟨gk, xk, dk⟩, hck⟩ : ∃ c, cs[kk]? = some c := ⟨_, List.getElem?_eq_getElem (by rw [HL.out]; exact hkL)⟩
      obtain ⟨q0, q1, q2, q3⟩ := kid_cells HS7.out hck
      have hk' : (kk : Int) < (L : Int) := by omega
      have HCK := hid hck
      clear hck
      obtain ⟨cur, hcur⟩ := q3
      obtain ⟨w8, hw8⟩ : ∃ w8, w8 = w7.alloc (.cells #[.int .i64 (xk), .int .i64 (4)] 3) := ⟨_, rfl⟩
      have HU8 := hid (show Below w7.heap.size w7 w8 by rw [hw8]; exact up_alloc _ _)
      have HN8 := hid (show w8.heap[w7.heap.size]? = some _ by rw [hw8]; exact new_row _ _)
      have m0 := (HU8.out.cell (lt_of_cell q0)).trans q0
      have m1 := (HU8.out.cell (lt_of_cell q1)).trans q1
      have m2 : ∀ o, w8.frozen? ⟨gl, o, none⟩ = false := fun o => frozen_of_row (row_on HU8.out hcur)
      rw [hw8] at m0 m1 m2
      have HPN := hid (show (Value.slice (some ⟨gp, 0, none⟩) L capp).ownBlock ≠ some w7.heap.size from fun e => by have := own_lt HS7.out.2.1 _ e; omega)
      have HS8 := hid (st_set (kk := kk) (x := xk) (d := 4) (HS7.out.on HU8.out) HL.out.symm HN8.out HPN.out hgl)
      obtain ⟨w9, hw9⟩ : ∃ w9, w9 = (w8.setCell ⟨gl, kk * 2, none⟩ (.int .i64 1)).setCell ⟨gl, kk * 2 + 1, none⟩ (.slice (some ⟨w7.heap.size, 0, none⟩) 2 2) := ⟨_, rfl⟩
      rw [← hw9] at HS8
      rw [hw8] at hw9
      go_wp2
      rw [← hw9]
      clear hw9 m0 m1 m2 hw8 HPN HN8 hcur q0 q1 q2 HS7 HLA7
      obtain ⟨ds, hds⟩ : ∃ ds, ds = cs.set kk (w7.heap.size, xk, 4) := ⟨_, rfl⟩
      rw [← hds] at HS8
      have hdl : ds.length = L := by rw [hds, List.length_set, HL.out]
      have HLA9 := hid (HS8.out.1.la HS8.out.2.2.1 (by rw [hdl]; omega))
      obtain ⟨KS9, hKS9⟩ : ∃ KS9, KS9 = List.map numV (kidsOf ds) := ⟨_, rfl⟩
      rw [← hKS9] at HLA9
      have hK9 : KS9.length = L := by rw [hKS9]; unfold kidsOf; simp [hdl]
      have HM9 := hid (groups_none (refM first) (kidsOf ds) ⟨(xk, 4), by unfold kidsOf; rw [hds]; exact List.mem_map.2 ⟨(w7.heap.size, xk, 4), List.mem_iff_getElem?.2 ⟨kk, by rw [List.getElem?_set]; simp [HL.out, hkL]⟩, rfl⟩, rfl⟩)
      rw [← hKS9] at HM9
      have HPA9 := hid (RN.na (xs := ixs L) (show RN w9 wA.heap.size _ (ixs L) by unfold RN; rw [ixs_len]; exact HS8.out.2.1) (by rw [ixs_len]; omega)).ia
      have HWT9 := hid (show Wants 10 KS9 by obtain ⟨z, zs, hz⟩ : ∃ z zs, KS9 = z :: zs := by { cases hq : KS9 with | nil => rw [hq] at hK9; have := HLn.out; simp at hK9; omega | cons z zs => exact ⟨z, zs, rfl⟩ }; rw [hz]; trivial)
      have HW9 := hid (up_trans HBA.out HS8.out.2.2.2.2)
      have hK9' := hid hK9
      clear hKS9 hds hdl hK9
      rw [← hK9'.out] at HPA9
      have HDO := hid fun (w : World) (hb : Below w9.heap.size w9 w) => made_any (p := p) 10 (refM first) KS9 (ixs KS9.length) _ _ w (by decide) (HPA9.out.on hb) (HLA9.out.on hb) (HT.out.on (up_trans HW9.out hb)) (by intro q hq; unfold ixs at hq; obtain ⟨i, hi, rfl⟩ := List.mem_map.1 hq; have := List.mem_range.1 hi; omega) (by rw [ixs_all]; exact HWT9.out) HRR.out
      rw [ixs_all, HM9.out, hK9'.out] at HDO
      have hlq : (ixs KS9.length).length = L := by rw [ixs_len]; exact hK9'.out
      clear HM9 HWT9
      have hab5 : ab < w9.heap.size := (Array.getElem?_eq_some_iff.1 HS8.out.2.2.2.1).1
      have k0 : w9.drew.cell? ⟨ab, 0, none⟩ = some (.int .i64 10) := by rw [show w9.drew.cell? ⟨ab, 0, none⟩ = w9.cell? ⟨ab, 0, none⟩ from rfl, cell_of_row HS8.out.2.2.2.1]; rfl
      have k1 : w9.drew.cell? ⟨ab, 1, none⟩ = some (.slice (some ⟨gp, 0, none⟩) L capp) := by rw [show w9.drew.cell? ⟨ab, 1, none⟩ = w9.cell? ⟨ab, 1, none⟩ from rfl, cell_of_row HS8.out.2.2.2.1]; rfl
      go_cut [17] from 18 (fun v17 wd => v17 = .bool false ∧ Hid (Below w9.heap.size w9 wd))
      case first =>
        go_region_held (fun w' => w'.cell? ⟨ab, 0, none⟩ = some (.int .i64 10) ∧ w'.cell? ⟨ab, 1, none⟩ = some (.slice (some ⟨gp, 0, none⟩) L capp) ∧ Hid (Below w9.heap.size w9 w')) (first | assumption | exact ⟨k0, k1, hid (Below.refl _ _).drew⟩ | exact s_on (by assumption) (by assumption) | exact s_up HS4.out _ | exact s_up (by assumption) _ | exact s_set (by assumption) hab5 (by omega)) (first
          | (go_at_call 13; refine (HR.out _).mono ?_; rintro e w3 ⟨rfl, hb3⟩; have hsz3 : w9.heap.size ≤ w3.heap.size := (by have := hb3.size; simp at this; omega))
          | (go_at_call 12; refine (HDO.out _ (Hid.out (And.right (And.right (by assumption))))).mono ?_; rintro e w4 ⟨hb4, hr⟩; have HS4 := hid (s_on (w5 := w9) (bv := ab) (x0 := .int .i64 10) (x1 := .slice (some ⟨gp, 0, none⟩) L capp) (by assumption) hb4); obtain rfl : e = .returned noneV := hr; unfold noneV; (first | (have hzz := row_on2 (g := w9.heap.size) (o := .cells #[.int .i64 0, .slice none 0 0] 24 (0, 0)) hb4 (by first | ((repeat (first | exact row_at (by first | (simp; done) | fail) | with_reducible refine row_up ?_ | with_reducible refine row_on hb3 ?_ | with_reducible refine row_drew ?_)); done) | fail); obtain ⟨zc, zlt⟩ := hzz; have ZC := hid zc; have z0 : w4.cell? ⟨w9.heap.size, 0, none⟩ = some (.int .i64 0) := (by rw [cell_of_row ZC.out]; rfl); have z1 : w4.cell? ⟨w9.heap.size, 1, none⟩ = some (.slice none 0 0) := (by rw [cell_of_row ZC.out]; rfl); have zf : ∀ o, w4.frozen? ⟨w9.heap.size, o, none⟩ = false := (fun o => frozen_of_row ZC.out)) | (have hzz := row_on2 (g := w3.heap.size) (o := .cells #[.int .i64 0, .slice none 0 0] 24 (0, 0)) hb4 (by first | ((repeat (first | exact row_at (by first | (simp; done) | fail) | with_reducible refine row_up ?_ | with_reducible refine row_on hb3 ?_ | with_reducible refine row_drew ?_)); done) | fail); obtain ⟨zc, zlt⟩ := hzz; have ZC := hid zc; have z0 : w4.cell? ⟨w3.heap.size, 0, none⟩ = some (.int .i64 0) := (by rw [cell_of_row ZC.out]; rfl); have z1 : w4.cell? ⟨w3.heap.size, 1, none⟩ = some (.slice none 0 0) := (by rw [cell_of_row ZC.out]; rfl); have zf : ∀ o, w4.frozen? ⟨w3.heap.size, o, none⟩ = false := (fun o => frozen_of_row ZC.out)) | skip)))
        all_goals
          go_wp2_with fail
          go_meet
          case rel => first | exact ⟨rfl, hid (up_trans HS4.out.2.2.out (up_alloc _ _))⟩ | exact ⟨rfl, hid ((HS4.out.2.2.out.setCell (p := ⟨w9.heap.size, 0, none⟩) (Nat.le_refl _) _).setCell (p := ⟨w9.heap.size, 1, none⟩) (Nat.le_refl _) _)⟩ | exact ⟨rfl, hid ((HS4.out.2.2.out.setCell (p := ⟨w3.heap.size, 0, none⟩) hsz3 _).setCell (p := ⟨w3.heap.size, 1, none⟩) hsz3 _)⟩
      case rest =>
        obtain ⟨rfl, hb9⟩ := hcut
        have HB9 := hid (up_trans HW9.out hb9.out)
        clear hb9
        go_wp2
        go_ret
        exact ⟨rfl, HB9.out⟩

theorem own : ownKnob Tryd.prog.godebug = none := by kernel_rfl

theorem table {W : World} (h : laidMetH Tryd.prog Rows.actGroupsRow.laid W) : TabsE W := by
  rw [MakeChecks.laidMetH_plain _ _ _ (by kernel_rfl)] at h
  exact tabs_of_laid h

set_option maxRecDepth 100000 in
theorem lifted (os : Os) (started : os.Started) (H : Type) (enc : TypeId × Value → H) :
    ReturnsInHanded {} Tryd.checked os 4 .any (fun w args => (Rows.actGroupsSpec.pre enc Tryd.prog Tryd.f4 Rows.actGroupsRow.domain false w args ∧ laidMetH Tryd.prog Rows.actGroupsRow.laid w) ∧ sizedMet enc Tryd.prog Tryd.f4 (OpenSpec.ofChange Rows.actGroupsSpec) false w args)
      (Rows.actGroupsSpec.post enc Tryd.prog Tryd.f4 false true false false) := by
  refine returnsInHanded_of_change_and (C := Tryd.checked) (X := fun w _ => laidMetH Tryd.prog Rows.actGroupsRow.laid w) (fun _ _ _ hh h => h.of_heap hh) own started (by kernel_rfl) Tryd.func4
    (ChangeSpec.witness_shaped (enc := enc) (C := Tryd.checked) (os := os) (X := fun w _ => laidMetH Tryd.prog Rows.actGroupsRow.laid w) false (World.laidAll Tryd.prog os Rows.actGroupsRow.laid) #[.slice none 0 0, .int .i64 0, .int .i64 0] 8 (World.laidAll_os _ _ _)
      (World.shaped_of_ZipB (by kernel_rfl) (by kernel_rfl)) (by kernel_rfl) (by kernel_rfl) (by kernel_rfl)
      (by rw [MakeChecks.laidMetH_plain _ _ _ (by kernel_rfl)]; exact laidMet_laidAll _ (by kernel_rfl) (by kernel_rfl))) ?_
  intro W base args ds gs before hval0 hW _ _ hL _
  have hval : ∀ (j : Nat) t v, Tryd.f4.params[j]? = some t → args[j]? = some v → Value.okWide Tryd.prog W .any base t v := hval0
  have hW' := hW
  obtain ⟨p, q, hA0, hV, rfl, hfz, hnd⟩ := hW
  have hA : DataW.TrodAll enc Tryd.prog W 0 (fun _ => true) true Tryd.f4.params.toList args.toList ds p := hA0
  rw [Tryd.params4] at hA hval
  obtain ⟨v0, vs0, d0, ds0, p0, q0, hargs, rfl, rfl, h0, r0⟩ := trodAll_cons hA
  obtain ⟨v1, vs1, d1, ds1, p1, q1, rfl, rfl, rfl, h1, r1⟩ := trodAll_cons r0
  obtain ⟨v2, vs2, d2, ds2, p2, q2, rfl, rfl, rfl, h2, r2⟩ := trodAll_cons r1
  obtain ⟨rfl, rfl, rfl⟩ := trodAll_nil r2
  obtain rfl : args = #[v0, v1, v2] := by cases args; simp_all
  obtain ⟨rfl, rfl⟩ := trodVars_none hV
  obtain ⟨x0, w0⟩ := ints_at (hval 0 22 v0 rfl rfl) h0
  have l0 : ∀ x ∈ p0, x.block < W.heap.size := fun x hx => hW'.lt x (by simp [hx])
  obtain ⟨a1, rfl, rfl, rfl, w1⟩ := open_int Tryd.underlying3 (hval 1 3 v1 rfl rfl) h1
  obtain ⟨a2, rfl, rfl, rfl, w2⟩ := open_int Tryd.underlying3 (hval 2 3 v2 rfl rfl) h2
  clear hA0 hval0
  refine (walk v0 x0 a1 a2 W w0 w1 w2 (table hL)).mono fun e W' ⟨he, bel⟩ => ?_
  subst he
  exact ⟨_, rfl, _, _, _, _, _, [], hW', trodAll_mk1 (shut_bool Tryd.underlying4 _), (trodAll_cons_mk (Below.trod (by kernel_rfl) (by kernel_rfl) (of_decide_eq_true (by kernel_rfl)) h0 bel l0) (trodAll_cons_mk (shut_int Tryd.underlying3 w1) (trodAll_cons_mk (shut_int Tryd.underlying3 w2) trodAll_mk0))), rfl, bel.frame _, fun h => by cases h⟩

theorem row_holds : Rows.ActGroupsSaid :=
  OpenClaim.holds_of_wide 4 Tryd.f4 rfl rfl rfl rfl rfl rfl rfl ⟨rfl, rfl, rfl, rfl, rfl⟩ rfl rfl rfl rfl rfl (by kernel_rfl) Tryd.func4 (by kernel_rfl)
    (of_decide_eq_true (by kernel_rfl)) (by unfold Func.isWrapper; first | (rw [if_pos (by decide +kernel)]; kernel_rfl) | (rw [if_neg (by decide +kernel)]; exact ⟨rfl, rfl⟩))
    (fun os started H enc _ => lifted os started H enc)

theorem actGroups_holds : Rows.ActGroupsCardSaid :=
  Claim7.holds_tied_plain_at .later [] _ _ _ _ row_holds (fun _ h => by cases h) (by kernel_rfl) (fun _ h => by cases h) actGroups_row_tie rfl ⟨rfl, rfl⟩ (by kernel_rfl) rfl
    (fun f fn hf hfn => by
      obtain rfl : f = 4 := Option.some.inj ((show Tryd.prog.funcNamed "interlocutor/interlocutorlaw8.ActGroups" = some 4 by kernel_rfl).symm.trans hf) |>.symm
      obtain rfl : fn = Tryd.f4 := (Option.some.inj (Tryd.func4.symm.trans hfn)).symm
      exact ⟨by kernel_rfl, fun j t ht => by
        rw [Tryd.params4] at ht
        have hm : t ∈ [22, 3, 3] := by simpa using Array.mem_of_getElem? ht
        have hall : ([22, 3, 3].all fun u => !Tryd.prog.wantsStandIn u) = true := by kernel_rfl
        exact (show Tryd.prog.wantsStandIn t = false by simpa using List.all_eq_true.1 hall t hm)⟩)
    (by kernel_rfl)

end Go.Proofs.YtengcdodoblabaaDoor
