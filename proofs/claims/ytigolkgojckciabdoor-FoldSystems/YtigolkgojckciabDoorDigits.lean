/- What a digit of one of the four systems is made alike to: its number's own digit. -/
import Derived.Test.YtigolkgojckciabDoorRefOne
namespace Go.Proofs.YtigolkgojckciabDoor
open Go.RowKit

theorem nought_ok (k d : Int) (hd0 : 0 ≤ d) (hd1 : d ≤ 9) : okRune (nought k + d) := by
  unfold okRune nought
  repeat' split
  all_goals omega

theorem digit_rune (k d : Int) (hk0 : 0 ≤ k) (hk1 : k < 4) (hd0 : 0 ≤ d) (hd1 : d ≤ 9) : runeZ (nought k + d) = 48 + d := by
  have key : ∀ x y, narrowZ x = x → blankZ x = x → dashZ x = x → quoteZ' x = x → digitZ x = y → smallZ y = y → runeZ x = y := by
    intro x y h1 h2 h3 h4 h5 h6
    unfold runeZ
    rw [h1, h2, h3, h4, h5, h6]
  have hn : nought k + d = 48 + d ∨ nought k + d = 1632 + d ∨ nought k + d = 1776 + d ∨ nought k + d = 2406 + d := by
    unfold nought
    repeat' split
    all_goals omega
  apply key
  · unfold narrowZ; omega
  · unfold blankZ; omega
  · unfold dashZ; omega
  · unfold quoteZ'; omega
  · unfold digitZ
    have : k = 0 ∨ k = 1 ∨ k = 2 ∨ k = 3 := by omega
    rcases this with rfl | rfl | rfl | rfl
    · rw [show nought 0 = 48 from rfl]; omega
    · rw [show nought 1 = 1632 from rfl]; omega
    · rw [show nought 2 = 1776 from rfl]; omega
    · rw [show nought 3 = 2406 from rfl]; omega
  · unfold smallZ; omega

theorem one_runes (r : Int) (h : okRune r) : runesOf (Lib.encodeRune r) = [runeZ r] := by
  have := runesOf_flat [r] (by intro x hx; simp at hx; subst hx; exact h)
  simpa using this
theorem one_places (r : Int) (h : okRune r) : placesOf (Lib.encodeRune r) = [0, ((Lib.encodeRune r).length : Int)] := by
  have := signsOf_flat [r] (by intro x hx; simp at hx; subst hx; exact h)
  simp only [List.flatMap_cons, List.flatMap_nil, List.append_nil] at this
  unfold placesOf
  rw [this]
  rfl
theorem one_text (r : Int) (h : okRune r) : textOf (Lib.encodeRune r) = Lib.encodeRune (runeZ r) := by
  unfold textOf
  rw [one_runes r h]
  simp
theorem low_encode (r : Int) (h0 : 0 ≤ r) (h1 : r ≤ 127) : Lib.encodeRune r = [r.toNat.toUInt8] := by simp [Lib.encodeRune, Lib.encodeRuneZ_one h0 h1]

end Go.Proofs.YtigolkgojckciabDoor
