/- Sets of symbols and graphs of symbols, as package gram holds them in maps: what is in them, and what 'add', 'has', 'rising', 'symbols' answer. -/
import Derived.Test.YtohgaknojkdohaaGreatDoorGrRowN
import Derived.Test.YtohgaknojkdohaaGreatDoorGrIter
import Derived.Maps.OwnSet
import Derived.Maps.OwnOps
namespace Go.Proofs.YtohgaknojkdohaaGreatDoor.Gr
open Go.RowKit Go.Maps

theorem keyed : Keyed Tryz.prog 3 := int_keyed Tryz.underlying3
theorem wf_sym {k : Nat} (h : k < 20) : (Lit.int .i64 (k : Int)).wf = true := WalkArith.wf_i64 (by omega)
theorem key_sym {k : Nat} (h : k < 20) : keyOf Tryz.prog 3 (.int .i64 (k : Int)) = some (.int .i64 (k : Int)) := keyOf_int_mk Tryz.underlying3 (wf_sym h)
theorem isKey_sym (k : Int) : WideAt.IsKeyLit (.int .i64 k) := trivial

/-- The keys of a map as read are the symbols of which s holds. -/
def KeysIn (D : DataW Unit) (s : Nat → Bool) : Prop := (∀ k : Nat, k < 20 → Maps.has D (.int .i64 (k : Int)) = s k) ∧ ∀ x : Int, Maps.has D (.int .i64 x) = true → ∃ k : Nat, k < 20 ∧ x = k

theorem keysIn_empty : KeysIn (.map []) (fun _ => false) := ⟨fun _ _ => rfl, fun _ h => by cases h⟩
theorem KeysIn.mem {D : DataW Unit} {s : Nat → Bool} (h : KeysIn D s) (x : Int) : x ∈ symL s ↔ Maps.has D (.int .i64 x) = true := by
  rw [mem_symL]
  constructor
  · rintro ⟨k, h1, h2, rfl⟩
    rw [h.1 k h1]; exact h2
  · intro hx
    obtain ⟨k, h1, rfl⟩ := h.2 x hx
    exact ⟨k, h1, by rw [← h.1 k h1]; exact hx, rfl⟩
theorem KeysIn.put {D : DataW Unit} {s : Nat → Bool} (h : KeysIn D s) (hD : IsMap D) {k : Nat} (hk : k < 20) (d : DataW Unit) : KeysIn (D.put (.int .i64 (k : Int)) d) (fun j => s j || decide (j = k)) := by
  constructor
  · intro j hj
    by_cases e : j = k
    · subst e
      rw [has_put_same hD (isKey_sym _)]; simp
    · rw [has_put_other (by intro e2; simp at e2; omega), h.1 j hj]; simp [e]
  · intro x hx
    by_cases e : x = (k : Int)
    · exact ⟨k, hk, e⟩
    · rw [has_put_other (by intro e2; simp at e2; exact e e2)] at hx
      exact h.2 x hx

theorem sorted_le {l : List Int} (h : l.Pairwise (· < ·)) : l.mergeSort leI = l :=
  List.mergeSort_of_pairwise (h.imp (fun h => by simp only [leI, decide_eq_true_eq]; omega))
theorem perm_keys {w : World} {R : Value → Option (DataW Unit × List MemPlace)} {b n : Nat} {D : DataW Unit} {s : Nat → Bool} (h : w.ownsMap Tryz.prog 3 R b n D) (hk : KeysIn D s) : (symL s).Perm (intKeys D) := by
  obtain ⟨es, hD, hpw, _⟩ := h.entries keyed
  obtain ⟨es', hD', hko⟩ := h.keysOf
  obtain rfl : es = es' := by rw [hD] at hD'; simpa using hD'
  subst hD
  exact perm_intKeys hpw (fun p hp => by obtain ⟨v, hv⟩ := hko p hp; obtain ⟨x, _, hx, _⟩ := Maps.keyOf_i64 Tryz.underlying3 hv; exact ⟨x, hx⟩) ((symL_sorted s).imp (fun h => by omega)) (hk.mem)
theorem sorted_keys {w : World} {R : Value → Option (DataW Unit × List MemPlace)} {b n : Nat} {D : DataW Unit} {s : Nat → Bool} (h : w.ownsMap Tryz.prog 3 R b n D) (hk : KeysIn D s) {ss : List Int} (hp : ss.Perm (intKeys D)) : ss.mergeSort leI = symL s := by
  rw [mergeSort_of_perm_i (hp.trans (perm_keys h hk).symm), sorted_le (symL_sorted s)]
theorem size_keys {w : World} {R : Value → Option (DataW Unit × List MemPlace)} {b n : Nat} {D : DataW Unit} {s : Nat → Bool} (h : w.ownsMap Tryz.prog 3 R b n D) (hk : KeysIn D s) : Maps.size D = (symL s).length := by
  rw [(perm_keys h hk).length_eq]
  obtain ⟨es, rfl⟩ := h.isMap
  simp [intKeys, Maps.size]
theorem tight {w : World} {R : Value → Option (DataW Unit × List MemPlace)} {b n : Nat} {D : DataW Unit} (h : w.ownsMap Tryz.prog 3 R b n D) : w.ownsMap Tryz.prog 3 R b (Maps.size D) D := by
  obtain ⟨es, clock, hb, F, _, rfl⟩ := h
  exact ⟨es, clock, hb, F, by rw [size_eq, length_sorted]; simp, rfl⟩

/-- How many entries the map at a block has. -/
def entriesAt (w : World) (b : Nat) : Nat := match w.heap[b]? with | some (.map es _) => es.size | _ => 0
theorem entries_size {w : World} {R : Value → Option (DataW Unit × List MemPlace)} {b n : Nat} {D : DataW Unit} (h : w.ownsMap Tryz.prog 3 R b n D) : entriesAt w b = Maps.size D := by
  obtain ⟨es, clock, hb, _, _, rfl⟩ := h
  rw [size_eq, length_sorted]
  simp [entriesAt, hb]

/-- Block b of w is a set that holds the symbols of which s holds. -/
def SetAt (w : World) (b : Nat) (s : Nat → Bool) : Prop := ∃ D : DataW Unit, w.ownsMap Tryz.prog 3 unitElem b 20 D ∧ KeysIn D s
theorem SetAt.lt {w : World} {b : Nat} {s : Nat → Bool} (h : SetAt w b s) : b < w.heap.size := by
  obtain ⟨D, h, _⟩ := h
  exact h.lt
theorem SetAt.congr {w : World} {b : Nat} {s t : Nat → Bool} (h : SetAt w b s) (e : ∀ k, k < 20 → s k = t k) : SetAt w b t := by
  obtain ⟨D, h1, h2, h3⟩ := h
  exact ⟨D, h1, fun k hk => (h2 k hk).trans (e k hk), h3⟩
theorem owns_on {w w' : World} {R : Value → Option (DataW Unit × List MemPlace)} {b n : Nat} {D : DataW Unit} (h : w.ownsMap Tryz.prog 3 R b n D) (e : w'.heap[b]? = w.heap[b]?) : w'.ownsMap Tryz.prog 3 R b n D := by
  obtain ⟨es, clock, hb, F, hs, hD⟩ := h
  exact ⟨es, clock, e.trans hb, F, hs, hD⟩
theorem SetAt.same {w w' : World} {b : Nat} {s : Nat → Bool} (h : SetAt w b s) (e : w'.heap[b]? = w.heap[b]?) : SetAt w' b s := by
  obtain ⟨D, h1, h2⟩ := h
  exact ⟨D, owns_on h1 e, h2⟩
theorem SetAt.on {w w' : World} {b : Nat} {s : Nat → Bool} (h : SetAt w b s) (hb : Below w.heap.size w w') : SetAt w' b s := h.same (hb.block b h.lt)
theorem SetAt.kept {w w' : World} {b : Nat} {s : Nat → Bool} {row : Option Nat} (h : SetAt w b s) (hg : w.grownBy w' row) (hne : some b ≠ row) : SetAt w' b s := h.same (hg.block b h.lt hne)
theorem setAt_made (w : World) : SetAt (w.alloc (.map #[] 0)) w.heap.size (fun _ => false) := ⟨.map [], (World.ownsMap_made w _ _ _).mono (by omega), keysIn_empty⟩
theorem SetAt.entries {w : World} {b : Nat} {s : Nat → Bool} (h : SetAt w b s) : entriesAt w b = (symL s).length := by
  obtain ⟨D, h1, h2⟩ := h
  rw [entries_size h1, size_keys h1 h2]
theorem SetAt.look {w : World} {b : Nat} {s : Nat → Bool} (h : SetAt w b s) {k : Nat} (hk : k < 20) : (Instr.lookup 179 (.map (some b)) (.int .i64 (k : Int)) true).run Tryz.prog w = .ok (.tuple #[.agg #[], .bool (s k)]) w := by
  obtain ⟨D, h1, h2⟩ := h
  obtain ⟨v, ps, hrun, hv⟩ := h1.look_ok keyed Tryz.underlying179 (Tryz.zeroValue163 _) unitElem_mk (key_sym hk)
  obtain ⟨rfl, _⟩ := unitElem_inv hv
  rw [hrun, h2.1 k hk]
theorem SetAt.add {w : World} {b : Nat} {s : Nat → Bool} (h : SetAt w b s) {k : Nat} (hk : k < 20) : ∃ w', (Instr.mapUpdate 179 (.map (some b)) (.int .i64 (k : Int)) (.agg #[])).run Tryz.prog w = .ok () w' ∧ SetAt w' b (fun j => s j || decide (j = k)) ∧ w.grownBy w' (some b) := by
  obtain ⟨D, h1, h2⟩ := h
  obtain ⟨w', hrun, ho, hg⟩ := h1.update keyed Tryz.underlying179 (by unfold maxLen; omega) (key_sym hk) unitElem_mk
  have hk2 := h2.put h1.isMap hk (.agg [])
  refine ⟨w', hrun, ⟨_, (tight ho).mono ?_, hk2⟩, hg⟩
  rw [size_keys ho hk2]
  exact symL_length _

theorem add_any (b : Nat) (s : Nat → Bool) (k : Nat) (hk : k < 20) (w : World) (h : SetAt w b s) : Calls Tryz.prog 156 #[.map (some b), .int .i64 (k : Int)] w fun e w' => e = .returned (.tuple #[]) ∧ SetAt w' b (fun j => s j || decide (j = k)) ∧ w.grownBy w' (some b) := by
  obtain ⟨w', hrun, hs, hg⟩ := h.add hk
  have HS := hid hs
  have HG := hid hg
  clear hs hg h
  go_enter Tryz.func156, Tryz.ntmps156
  go_wp2
  go_end0
  exact ⟨rfl, HS.out, HG.out⟩

theorem has_any (b : Nat) (s : Nat → Bool) (k : Nat) (hk : k < 20) (w : World) (h : SetAt w b s) : Calls Tryz.prog 148 #[.map (some b), .int .i64 (k : Int)] w fun e w' => e = .returned (.bool (s k)) ∧ ∃ o, w' = w.alloc o := by
  have hrun := h.look hk
  clear h
  go_enter Tryz.func148, Tryz.ntmps148
  go_wp2
  go_ret
  exact ⟨rfl, _, rfl⟩

theorem rising_set (b : Nat) (s : Nat → Bool) (w : World) (h : SetAt w b s) : Calls Tryz.prog 160 #[.map (some b)] w fun e w' => ∃ v, e = .returned v ∧ RowNew w' w.heap.size v (symL s) ∧ Below w.heap.size w w' := by
  obtain ⟨D, h1, h2⟩ := h
  have hsz := size_keys h1 h2
  have hl := symL_length s
  refine (rising_keys b 20 D unitElem w h1 (by unfold maxLen; omega) (by omega)).mono ?_
  rintro e w' ⟨v, ss, rfl, hp, hrow, _, hb⟩
  have e1 : ss.mergeSort (fun x y => decide (x ≤ y)) = symL s := sorted_keys h1 h2 hp
  have e2 : ss.length = (symL s).length := by rw [← e1, List.length_mergeSort]
  rw [e1, e2] at hrow
  exact ⟨v, rfl, hrow, hb⟩

end Go.Proofs.YtohgaknojkdohaaGreatDoor.Gr
