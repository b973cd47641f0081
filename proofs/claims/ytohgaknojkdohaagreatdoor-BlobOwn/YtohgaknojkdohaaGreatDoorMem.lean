/- How locales, and what they hold, lie in memory. -/
import Derived.Test.YtohgaknojkdohaaGreatDoorLeaf
namespace Go.Proofs.YtohgaknojkdohaaGreatDoor
open Go.RowKit Gr

/-- A slice of rules that has no room where it is nil. -/
def RulesOk (w : World) (v : Value) (rs : List Rule) : Prop := RulesAt w v rs ∧ ∀ n c, v = .slice none n c → c = 0
theorem RulesOk.on {w w' : World} {v : Value} {rs : List Rule} (h : RulesOk w v rs) (hb : Below w.heap.size w w') : RulesOk w' v rs := ⟨h.1.on hb, h.2⟩
theorem RulesOk.nil (w : World) : RulesOk w (.slice none 0 0) [] := ⟨⟨none, 0, rfl, by simp, fun j hj => by simp at hj⟩, fun n c e => by injection e with _ _ e; exact e.symm⟩
theorem RulesOk.shape {w : World} {v : Value} {rs : List Rule} (h : RulesOk w v rs) : ∃ ad cap, v = .slice ad rs.length cap ∧ rs.length ≤ 1000000 := by
  obtain ⟨⟨ad, cap, h1, h0, _⟩, _⟩ := h
  exact ⟨ad, cap, h1, h0⟩

/-- The 3 cells of one. -/
def EntryIn (w : World) (g o : Nat) (x : Entry) : Prop := w.cell? ⟨g, o, none⟩ = some (.string x.text) ∧ w.cell? ⟨g, o + 1, none⟩ = some (.int .i64 x.cls) ∧ w.cell? ⟨g, o + 2, none⟩ = some (.int .i64 x.val)
theorem EntryIn.on {w w' : World} {g o : Nat} {x : Entry} (h : EntryIn w g o x) (hb : Below w.heap.size w w') : EntryIn w' g o x := by
  obtain ⟨h0, h1, h2⟩ := h
  exact ⟨(hb.cell (lt_of_cell h0)).trans h0, (hb.cell (lt_of_cell h1)).trans h1, (hb.cell (lt_of_cell h2)).trans h2⟩
def nilEntry : Entry := ⟨⟨#[]⟩, 0, 0⟩
/-- A slice of them. -/
def EntriesAt (w : World) (v : Value) (xs : List Entry) : Prop :=
  ∃ (ad : Option Addr) (cap : Nat), v = .slice ad xs.length cap ∧ xs.length ≤ 1000000 ∧ ((ad = none → cap = 0) ∧ xs.length ≤ cap) ∧ ∀ j, j < xs.length → ∃ g o, ad = some ⟨g, o, none⟩ ∧ EntryIn w g (o + j * 3) (xs.getD j nilEntry)
theorem EntriesAt.on {w w' : World} {v : Value} {xs : List Entry} (h : EntriesAt w v xs) (hb : Below w.heap.size w w') : EntriesAt w' v xs := by
  obtain ⟨ad, cap, h1, h0, hn, h2⟩ := h
  refine ⟨ad, cap, h1, h0, hn, fun j hj => ?_⟩
  obtain ⟨g, o, h3, h4⟩ := h2 j hj
  exact ⟨g, o, h3, h4.on hb⟩
theorem EntriesAt.nil (w : World) : EntriesAt w (.slice none 0 0) [] := ⟨none, 0, rfl, by simp, ⟨fun _ => rfl, by simp⟩, fun j hj => by simp at hj⟩
theorem EntriesAt.shape {w : World} {v : Value} {xs : List Entry} (h : EntriesAt w v xs) : ∃ ad cap, v = .slice ad xs.length cap ∧ xs.length ≤ 1000000 := by
  obtain ⟨ad, cap, h1, h0, _⟩ := h
  exact ⟨ad, cap, h1, h0⟩
theorem EntriesAt.none_cap {w : World} {v : Value} {xs : List Entry} (h : EntriesAt w v xs) : ∀ n c, v = .slice none n c → c = 0 := by
  obtain ⟨ad, cap, rfl, _, hn, _⟩ := h
  intro n c e
  injection e with e1 e2 e3
  rw [← e3]
  exact hn.1 e1
theorem Entry_at {xs : List Entry} {j : Nat} (h : j < xs.length) : xs[j]? = some (xs.getD j nilEntry) := by
  rw [List.getD_eq_getElem?_getD, List.getElem?_eq_getElem h]; rfl

/-- The 5 cells of one. -/
def PartIn (w : World) (g o : Nat) (x : Part) : Prop := w.cell? ⟨g, o, none⟩ = some (.int .i64 x.kind) ∧ w.cell? ⟨g, o + 1, none⟩ = some (.string x.text) ∧ w.cell? ⟨g, o + 2, none⟩ = some (.int .i64 x.field) ∧ w.cell? ⟨g, o + 3, none⟩ = some (.int .i64 x.width) ∧ w.cell? ⟨g, o + 4, none⟩ = some (.int .i64 x.cls)
theorem PartIn.on {w w' : World} {g o : Nat} {x : Part} (h : PartIn w g o x) (hb : Below w.heap.size w w') : PartIn w' g o x := by
  obtain ⟨h0, h1, h2, h3, h4⟩ := h
  exact ⟨(hb.cell (lt_of_cell h0)).trans h0, (hb.cell (lt_of_cell h1)).trans h1, (hb.cell (lt_of_cell h2)).trans h2, (hb.cell (lt_of_cell h3)).trans h3, (hb.cell (lt_of_cell h4)).trans h4⟩
def nilPart : Part := ⟨0, ⟨#[]⟩, 0, 0, 0⟩
/-- A slice of them. -/
def PartsAt (w : World) (v : Value) (xs : List Part) : Prop :=
  ∃ (ad : Option Addr) (cap : Nat), v = .slice ad xs.length cap ∧ xs.length ≤ 1000000 ∧ ((ad = none → cap = 0) ∧ xs.length ≤ cap) ∧ ∀ j, j < xs.length → ∃ g o, ad = some ⟨g, o, none⟩ ∧ PartIn w g (o + j * 5) (xs.getD j nilPart)
theorem PartsAt.on {w w' : World} {v : Value} {xs : List Part} (h : PartsAt w v xs) (hb : Below w.heap.size w w') : PartsAt w' v xs := by
  obtain ⟨ad, cap, h1, h0, hn, h2⟩ := h
  refine ⟨ad, cap, h1, h0, hn, fun j hj => ?_⟩
  obtain ⟨g, o, h3, h4⟩ := h2 j hj
  exact ⟨g, o, h3, h4.on hb⟩
theorem PartsAt.nil (w : World) : PartsAt w (.slice none 0 0) [] := ⟨none, 0, rfl, by simp, ⟨fun _ => rfl, by simp⟩, fun j hj => by simp at hj⟩
theorem PartsAt.shape {w : World} {v : Value} {xs : List Part} (h : PartsAt w v xs) : ∃ ad cap, v = .slice ad xs.length cap ∧ xs.length ≤ 1000000 := by
  obtain ⟨ad, cap, h1, h0, _⟩ := h
  exact ⟨ad, cap, h1, h0⟩
theorem PartsAt.none_cap {w : World} {v : Value} {xs : List Part} (h : PartsAt w v xs) : ∀ n c, v = .slice none n c → c = 0 := by
  obtain ⟨ad, cap, rfl, _, hn, _⟩ := h
  intro n c e
  injection e with e1 e2 e3
  rw [← e3]
  exact hn.1 e1
theorem Part_at {xs : List Part} {j : Nat} (h : j < xs.length) : xs[j]? = some (xs.getD j nilPart) := by
  rw [List.getD_eq_getElem?_getD, List.getElem?_eq_getElem h]; rfl

/-- The 2 cells of one. -/
def StyleIn (w : World) (g o : Nat) (x : Style) : Prop := ∃ v0, w.cell? ⟨g, o, none⟩ = some (.int .i64 x.kind) ∧ w.cell? ⟨g, o + 1, none⟩ = some (v0) ∧ PartsAt w v0 x.parts
theorem StyleIn.on {w w' : World} {g o : Nat} {x : Style} (h : StyleIn w g o x) (hb : Below w.heap.size w w') : StyleIn w' g o x := by
  obtain ⟨v0, h0, h1, a0⟩ := h
  exact ⟨v0, (hb.cell (lt_of_cell h0)).trans h0, (hb.cell (lt_of_cell h1)).trans h1, a0.on hb⟩
def nilStyle : Style := ⟨0, []⟩
/-- A slice of them. -/
def StylesAt (w : World) (v : Value) (xs : List Style) : Prop :=
  ∃ (ad : Option Addr) (cap : Nat), v = .slice ad xs.length cap ∧ xs.length ≤ 1000000 ∧ ((ad = none → cap = 0) ∧ xs.length ≤ cap) ∧ ∀ j, j < xs.length → ∃ g o, ad = some ⟨g, o, none⟩ ∧ StyleIn w g (o + j * 2) (xs.getD j nilStyle)
theorem StylesAt.on {w w' : World} {v : Value} {xs : List Style} (h : StylesAt w v xs) (hb : Below w.heap.size w w') : StylesAt w' v xs := by
  obtain ⟨ad, cap, h1, h0, hn, h2⟩ := h
  refine ⟨ad, cap, h1, h0, hn, fun j hj => ?_⟩
  obtain ⟨g, o, h3, h4⟩ := h2 j hj
  exact ⟨g, o, h3, h4.on hb⟩
theorem StylesAt.nil (w : World) : StylesAt w (.slice none 0 0) [] := ⟨none, 0, rfl, by simp, ⟨fun _ => rfl, by simp⟩, fun j hj => by simp at hj⟩
theorem StylesAt.shape {w : World} {v : Value} {xs : List Style} (h : StylesAt w v xs) : ∃ ad cap, v = .slice ad xs.length cap ∧ xs.length ≤ 1000000 := by
  obtain ⟨ad, cap, h1, h0, _⟩ := h
  exact ⟨ad, cap, h1, h0⟩
theorem StylesAt.none_cap {w : World} {v : Value} {xs : List Style} (h : StylesAt w v xs) : ∀ n c, v = .slice none n c → c = 0 := by
  obtain ⟨ad, cap, rfl, _, hn, _⟩ := h
  intro n c e
  injection e with e1 e2 e3
  rw [← e3]
  exact hn.1 e1
theorem Style_at {xs : List Style} {j : Nat} (h : j < xs.length) : xs[j]? = some (xs.getD j nilStyle) := by
  rw [List.getD_eq_getElem?_getD, List.getElem?_eq_getElem h]; rfl

/-- The 6 cells of one. -/
def LocaleIn (w : World) (g o : Nat) (x : Locale) : Prop := ∃ v0 v1 v2, w.cell? ⟨g, o, none⟩ = some (.string x.id) ∧ w.cell? ⟨g, o + 1, none⟩ = some (.int .i64 x.parent) ∧ w.cell? ⟨g, o + 2, none⟩ = some (.int .i64 x.digits) ∧ w.cell? ⟨g, o + 3, none⟩ = some (v0) ∧ w.cell? ⟨g, o + 4, none⟩ = some (v1) ∧ w.cell? ⟨g, o + 5, none⟩ = some (v2) ∧ EntriesAt w v0 x.lex ∧ RulesOk w v1 x.rules ∧ StylesAt w v2 x.styles
theorem LocaleIn.on {w w' : World} {g o : Nat} {x : Locale} (h : LocaleIn w g o x) (hb : Below w.heap.size w w') : LocaleIn w' g o x := by
  obtain ⟨v0, v1, v2, h0, h1, h2, h3, h4, h5, a0, a1, a2⟩ := h
  exact ⟨v0, v1, v2, (hb.cell (lt_of_cell h0)).trans h0, (hb.cell (lt_of_cell h1)).trans h1, (hb.cell (lt_of_cell h2)).trans h2, (hb.cell (lt_of_cell h3)).trans h3, (hb.cell (lt_of_cell h4)).trans h4, (hb.cell (lt_of_cell h5)).trans h5, a0.on hb, a1.on hb, a2.on hb⟩
/-- A slice of them. -/
def LocalesAt (w : World) (v : Value) (xs : List Locale) : Prop :=
  ∃ (ad : Option Addr) (cap : Nat), v = .slice ad xs.length cap ∧ xs.length ≤ 1000000 ∧ ((ad = none → cap = 0) ∧ xs.length ≤ cap) ∧ ∀ j, j < xs.length → ∃ g o, ad = some ⟨g, o, none⟩ ∧ LocaleIn w g (o + j * 6) (xs.getD j nilLocale)
theorem LocalesAt.on {w w' : World} {v : Value} {xs : List Locale} (h : LocalesAt w v xs) (hb : Below w.heap.size w w') : LocalesAt w' v xs := by
  obtain ⟨ad, cap, h1, h0, hn, h2⟩ := h
  refine ⟨ad, cap, h1, h0, hn, fun j hj => ?_⟩
  obtain ⟨g, o, h3, h4⟩ := h2 j hj
  exact ⟨g, o, h3, h4.on hb⟩
theorem LocalesAt.nil (w : World) : LocalesAt w (.slice none 0 0) [] := ⟨none, 0, rfl, by simp, ⟨fun _ => rfl, by simp⟩, fun j hj => by simp at hj⟩
theorem LocalesAt.shape {w : World} {v : Value} {xs : List Locale} (h : LocalesAt w v xs) : ∃ ad cap, v = .slice ad xs.length cap ∧ xs.length ≤ 1000000 := by
  obtain ⟨ad, cap, h1, h0, _⟩ := h
  exact ⟨ad, cap, h1, h0⟩
theorem LocalesAt.none_cap {w : World} {v : Value} {xs : List Locale} (h : LocalesAt w v xs) : ∀ n c, v = .slice none n c → c = 0 := by
  obtain ⟨ad, cap, rfl, _, hn, _⟩ := h
  intro n c e
  injection e with e1 e2 e3
  rw [← e3]
  exact hn.1 e1
theorem Locale_at {xs : List Locale} {j : Nat} (h : j < xs.length) : xs[j]? = some (xs.getD j nilLocale) := by
  rw [List.getD_eq_getElem?_getD, List.getElem?_eq_getElem h]; rfl

def entryV (x : Entry) : Value := .agg #[.string x.text, .int .i64 x.cls, .int .i64 x.val]
def partV (x : Part) : Value := .agg #[.int .i64 x.kind, .string x.text, .int .i64 x.field, .int .i64 x.width, .int .i64 x.cls]
def styleV (x : Style) (v0 : Value) : Value := .agg #[.int .i64 x.kind, v0]
def localeV (x : Locale) (v0 v1 v2 : Value) : Value := .agg #[.string x.id, .int .i64 x.parent, .int .i64 x.digits, v0, v1, v2]
/-- A locale's three rows. -/
def LocaleAt (w : World) (x : Locale) (v0 v1 v2 : Value) : Prop := EntriesAt w v0 x.lex ∧ RulesOk w v1 x.rules ∧ StylesAt w v2 x.styles
theorem LocaleAt.on {w w' : World} {x : Locale} {v0 v1 v2 : Value} (h : LocaleAt w x v0 v1 v2) (hb : Below w.heap.size w w') : LocaleAt w' x v0 v1 v2 := ⟨h.1.on hb, h.2.1.on hb, h.2.2.on hb⟩

end Go.Proofs.YtohgaknojkdohaaGreatDoor
