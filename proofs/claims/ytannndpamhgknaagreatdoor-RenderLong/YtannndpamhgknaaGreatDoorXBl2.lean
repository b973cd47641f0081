/- BlDec, BlWr, BlWr2, BlEnc, BlRSame, BlKn: these texts, one behind the other. -/
import Derived.Test.YtannndpamhgknaaGreatDoorXBl1
import Derived.Defers
import Derived.Recover
import Derived.Test.YtannndpamhgknaaGreatDoorGrRefCheck
import Derived.Lib.AppendStr
import Derived.Deep.RegionHeld
import Derived.Test.YtannndpamhgknaaGreatDoorXBl0
/- What is read: parse, and Decode. -/
namespace Go.Proofs.YtannndpamhgknaaGreatDoor.Bl
open Go.RowKit Gr

/-- Bytes that are handed in. -/
def BIn (w : World) (v : Value) (bs : List Int) : Prop :=
  ∃ (ad : Option Addr) (cap : Nat), v = .slice ad bs.length cap ∧ (Byt bs ∧ bs.length ≤ 1000000 ∧ bs.length ≤ cap ∧ cap ≤ maxLen) ∧
    ((ad = none ∧ cap = 0 ∧ bs = []) ∨ ∃ b o, ad = some ⟨b, o, none⟩ ∧ b < w.heap.size ∧ ∀ j, j < bs.length → w.cell? ⟨b, o + j, none⟩ = some (.int .u8 (bs.getD j 0)))
theorem BIn.on {w w' : World} {v : Value} {bs : List Int} (h : BIn w v bs) (hb : Below w.heap.size w w') : BIn w' v bs := by
  obtain ⟨ad, cap, h1, h2, h3⟩ := h
  refine ⟨ad, cap, h1, h2, ?_⟩
  rcases h3 with h3 | ⟨b, o, e, hlt, hc⟩
  · exact .inl h3
  · exact .inr ⟨b, o, e, Nat.lt_of_lt_of_le hlt hb.size, fun j hj => (hb.cell (lt_of_cell (hc j hj))).trans (hc j hj)⟩
theorem BIn.shape {w : World} {v : Value} {bs : List Int} (h : BIn w v bs) : ∃ ad cap, v = .slice ad bs.length cap := by
  obtain ⟨ad, cap, h1, _⟩ := h
  exact ⟨ad, cap, h1⟩
theorem BIn.nil (w : World) : BIn w (.slice none 0 0) [] := ⟨none, 0, rfl, ⟨fun z h => (nomatch h), by decide, by decide, by decide⟩, .inl ⟨rfl, rfl, rfl⟩⟩

end Go.Proofs.YtannndpamhgknaaGreatDoor.Bl

/- What is written: package blob's writer, number by number, text by text. -/
namespace Go.Proofs.YtannndpamhgknaaGreatDoor.Bl
open Go.RowKit Gr

/-- A number's bytes, the greatest first. -/
def byteAt (n : Int) (s : Nat) : Int := (n / (2 : Int) ^ s) % 256
def numB (n : Int) : List Int := (List.range 8).map fun k : Nat => byteAt n (56 - 8 * k)
end Go.Proofs.YtannndpamhgknaaGreatDoor.Bl

/- What is written: package blob's writer, all but single numbers; Encode. -/
namespace Go.Proofs.YtannndpamhgknaaGreatDoor.Bl
open Go.RowKit Gr

theorem numB_length (n : Int) : (numB n).length = 8 := by simp [numB]
def encText (s : ByteArray) : List Int := numB (s.size : Int) ++ nums s
def encNums (l : List Int) : List Int := l.flatMap numB
def encInts (l : List Int) : List Int := numB (l.length : Int) ++ l.flatMap numB
def encEntry (x : Entry) : List Int := encText x.text ++ encNums [x.cls, x.val]
def encPart (x : Part) : List Int := numB x.kind ++ encText x.text ++ encNums [x.field, x.width, x.cls]
def encParts (l : List Part) : List Int := numB (l.length : Int) ++ l.flatMap encPart
def encStyle (x : Style) : List Int := numB x.kind ++ encParts x.parts
def encRule (x : Rule) : List Int := numB x.lhs ++ encInts x.rhs ++ numB x.op ++ encInts x.p ++ numB x.cost
def encEntries (l : List Entry) : List Int := numB (l.length : Int) ++ l.flatMap encEntry
def encRules (l : List Rule) : List Int := numB (l.length : Int) ++ l.flatMap encRule
def encStyles (l : List Style) : List Int := numB (l.length : Int) ++ l.flatMap encStyle
def encLocale (x : Locale) : List Int := encText x.id ++ encNums [x.parent, x.digits] ++ encEntries x.lex ++ encRules x.rules ++ encStyles x.styles
def encLocales (l : List Locale) : List Int := numB (l.length : Int) ++ l.flatMap encLocale
end Go.Proofs.YtannndpamhgknaaGreatDoor.Bl

/- Locales as bytes: what package blob's Encode answers; the reference's numbers, texts, rows of numbers. -/
namespace Go.Proofs.YtannndpamhgknaaGreatDoor.Bl
open Go.RowKit Gr

/-- A row of bytes that the call made, from block B on. -/
def RB (w : World) (B : Nat) (v : Value) (bs : List Int) : Prop := w.ownsRow B 5 1 v bs.length (bs.map (Value.int .u8))
theorem RB.on {w w' : World} {B : Nat} {v : Value} {bs : List Int} (h : RB w B v bs) (hb : Below w.heap.size w w') : RB w' B v bs := owns_below h hb
theorem RB.nil (w : World) (B : Nat) : RB w B (.slice none 0 0) [] := World.ownsRow_nil _ _ _ _
theorem RB.shape {w : World} {B : Nat} {v : Value} {bs : List Int} (h : RB w B v bs) : ∃ ad cap, v = .slice ad bs.length cap := by
  obtain ⟨ad, cap, e, _⟩ := own_shape h
  exact ⟨ad, cap, e⟩

end Go.Proofs.YtannndpamhgknaaGreatDoor.Bl

/- Bytes as numbers from 0 to 255, and back: for the reference's Same. -/
namespace Go.Proofs.YtannndpamhgknaaGreatDoor.Bl
open Go.RowKit Gr

theorem Byt.nil : Byt [] := fun z h => by simp at h
theorem Byt.flat {α : Type} {f : α → List Int} (l : List α) (h : ∀ x, Byt (f x)) : Byt (l.flatMap f) := fun z hz => by
  obtain ⟨x, _, hx⟩ := List.mem_flatMap.1 hz
  exact h x z hx
end Go.Proofs.YtannndpamhgknaaGreatDoor.Bl

/- What stands ahead of every statement: known. -/
namespace Go.Proofs.YtannndpamhgknaaGreatDoor.Bl
open Go.RowKit Gr

theorem own_lit (w : World) (e : TypeId) (size n g : Nat) (arr : Array Value) (cs : List Value) (hc : arr = cs.toArray) (hg : g = w.heap.size) (hs : cs.length = n * size) (hn : n ≤ 1000) : (w.alloc (.cells arr e)).ownsRow g e size (.slice (some ⟨g, 0, none⟩) n n) n cs := by
  subst hc
  refine ⟨hs, .inr ⟨g, n, cs.toArray, rfl, Nat.le_refl _, row_new' w _ g hg, Nat.le_refl _, by unfold maxLen; omega, by simpa using hs, ?_⟩⟩
  rw [← hs]
  simp
theorem bin_of_rb {w : World} {B : Nat} {v : Value} {bs : List Int} (h : RB w B v bs) (hB : Byt bs) (h0 : 0 < bs.length) (hl : bs.length ≤ 1000000) : BIn w v bs := by
  obtain ⟨g, cap, rfl, hBg, hc, hcs⟩ := own_at h h0
  have hcm : cap ≤ maxLen := by
    obtain ⟨_, ⟨e, _⟩ | ⟨g', cap', cur, e, _, _, _, h5, _⟩⟩ := h
    · cases e
    · injection e with _ _ e; subst e; exact h5
  have hg := (World.ownsRow.lt h g rfl).2
  refine ⟨_, _, rfl, ⟨hB, hl, hc, hcm⟩, .inr ⟨g, 0, rfl, hg, fun j hj => ?_⟩⟩
  rw [Nat.zero_add]
  exact hcs j _ (by rw [List.getElem?_map, getD_at hj]; rfl)
def en0 : Locale := ⟨⟨#[101, 110]⟩, -1, 0, [⟨⟨#[109, 97, 121]⟩, 1, 5⟩], [], []⟩
theorem k1 : decL [] = none := by decide +kernel
theorem k2 : rightL [en0] = true := by decide +kernel
theorem k3 : decL (encLocales [en0]) = some [en0] := by kernel_rfl
theorem k4 : (encLocales [en0]).length ≤ 800000 ∧ 0 < (encLocales [en0]).length := by decide +kernel
end Go.Proofs.YtannndpamhgknaaGreatDoor.Bl
