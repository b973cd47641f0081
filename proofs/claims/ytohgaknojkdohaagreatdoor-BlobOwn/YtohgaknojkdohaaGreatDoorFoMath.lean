/- The plain mathematics of signs made alike: what a sign is made to, the signs of a row of bytes, where they begin, what is written of them; what was written is read again. -/
import Derived.Lib.DecodeN
import Derived.Lib.RuneBytes
import Derived.Lib.Strings
namespace Go.Proofs.YtohgaknojkdohaaGreatDoor.Fo
open Go.Lib

def narrowZ (r : Int) : Int := if 65281 ≤ r ∧ r ≤ 65374 then r - 65248 else r
def blankZ (r : Int) : Int := if r = 9 ∨ r = 160 ∨ (8192 ≤ r ∧ r ≤ 8202) ∨ r = 8239 ∨ r = 8287 ∨ r = 12288 then 32 else r
def dashZ (r : Int) : Int := if (8208 ≤ r ∧ r ≤ 8213) ∨ r = 8722 then 45 else r
def quoteZ' (r : Int) : Int := if r = 8216 ∨ r = 8217 ∨ r = 700 then 39 else r
def digitZ (r : Int) : Int := if 1632 ≤ r ∧ r ≤ 1641 then r - 1584 else if 1776 ≤ r ∧ r ≤ 1785 then r - 1728 else if 2406 ≤ r ∧ r ≤ 2415 then r - 2358 else r
def smallZ (r : Int) : Int := if (65 ≤ r ∧ r ≤ 90) ∨ (192 ≤ r ∧ r ≤ 222 ∧ r ≠ 215) ∨ (913 ≤ r ∧ r ≤ 937 ∧ r ≠ 930) ∨ (1040 ≤ r ∧ r ≤ 1071) then r + 32 else if 1024 ≤ r ∧ r ≤ 1039 then r + 80 else r
def runeZ (r : Int) : Int := smallZ (digitZ (quoteZ' (dashZ (blankZ (narrowZ r)))))

theorem narrowZ_twice (r : Int) : narrowZ (runeZ r) = runeZ r ∧ runeZ (runeZ r) = runeZ r := by
  have h1 : ∃ a, a = narrowZ r := ⟨_, rfl⟩
  obtain ⟨a, ha⟩ := h1
  obtain ⟨b, hb⟩ : ∃ b, b = blankZ a := ⟨_, rfl⟩
  obtain ⟨c, hc⟩ : ∃ c, c = dashZ b := ⟨_, rfl⟩
  obtain ⟨d, hd⟩ : ∃ d, d = quoteZ' c := ⟨_, rfl⟩
  obtain ⟨e, he⟩ : ∃ e, e = digitZ d := ⟨_, rfl⟩
  obtain ⟨f, hf⟩ : ∃ f, f = smallZ e := ⟨_, rfl⟩
  have hr : runeZ r = f := by simp only [runeZ, ← ha, ← hb, ← hc, ← hd, ← he, ← hf]
  rw [hr]
  have key : narrowZ f = f ∧ blankZ f = f ∧ dashZ f = f ∧ quoteZ' f = f ∧ digitZ f = f ∧ smallZ f = f := by
    clear hr
    unfold narrowZ at ha
    unfold blankZ at hb
    unfold dashZ at hc
    unfold quoteZ' at hd
    unfold digitZ at he
    unfold smallZ at hf
    unfold narrowZ blankZ dashZ quoteZ' digitZ smallZ
    have e1 : ¬ (65281 ≤ f ∧ f ≤ 65374) := by omega
    have e2 : ¬ (f = 9 ∨ f = 160 ∨ (8192 ≤ f ∧ f ≤ 8202) ∨ f = 8239 ∨ f = 8287 ∨ f = 12288) := by omega
    have e3 : ¬ ((8208 ≤ f ∧ f ≤ 8213) ∨ f = 8722) := by omega
    have e4 : ¬ (f = 8216 ∨ f = 8217 ∨ f = 700) := by omega
    have e5 : ¬ (1632 ≤ f ∧ f ≤ 1641) ∧ ¬ (1776 ≤ f ∧ f ≤ 1785) ∧ ¬ (2406 ≤ f ∧ f ≤ 2415) := by omega
    have e6 : ¬ ((65 ≤ f ∧ f ≤ 90) ∨ (192 ≤ f ∧ f ≤ 222 ∧ f ≠ 215) ∨ (913 ≤ f ∧ f ≤ 937 ∧ f ≠ 930) ∨ (1040 ≤ f ∧ f ≤ 1071)) ∧ ¬ (1024 ≤ f ∧ f ≤ 1039) := by omega
    rw [if_neg e1, if_neg e2, if_neg e3, if_neg e4, if_neg e5.1, if_neg e5.2.1, if_neg e5.2.2, if_neg e6.1, if_neg e6.2]
    exact ⟨rfl, rfl, rfl, rfl, rfl, rfl⟩
  refine ⟨key.1, ?_⟩
  unfold runeZ
  rw [key.1, key.2.1, key.2.2.1, key.2.2.2.1, key.2.2.2.2.1, key.2.2.2.2.2]
theorem gd (s : ByteArray) (i : Nat) : s.data.toList.getD i 0 = s.get! i := by
  cases s with
  | mk d =>
    show d.toList.getD i 0 = d[i]!
    by_cases h : i < d.size
    · rw [getElem!_pos d i h]; simp [List.getD, h]
    · rw [getElem!_neg d i h]; simp [List.getD, h]; rfl

/-- A rune that may be written. -/
def okRune (r : Int) : Prop := (0 ≤ r ∧ r < 55296) ∨ (57344 ≤ r ∧ r ≤ 1114111)

/-- The sign that a row of bytes begins with, and its width. -/
def decL (l : List UInt8) : Nat × Nat := decodeN l.length (l.getD 0 0).toNat (l.getD 1 0).toNat (l.getD 2 0).toNat (l.getD 3 0).toNat

theorem decL_drop (s : ByteArray) (pos : Nat) : Utf8.decode s pos = decL (s.data.toList.drop pos) := by
  rw [decode_at, ← gd, ← gd, ← gd, ← gd]
  unfold decL
  have e : ∀ k, (s.data.toList.drop pos).getD k 0 = s.data.toList.getD (pos + k) 0 := by intro k; simp [List.getD, List.getElem?_drop]
  rw [e, e, e, e, List.length_drop, Nat.add_zero pos, size_eq]

set_option maxRecDepth 100000 in
set_option maxHeartbeats 2000000 in
theorem decN_facts (n b0 b1 b2 b3 : Nat) (hn : 1 ≤ n) (h0 : b0 < 256) : 1 ≤ (decodeN n b0 b1 b2 b3).2 ∧ (decodeN n b0 b1 b2 b3).2 ≤ n ∧ (decodeN n b0 b1 b2 b3).2 ≤ 4 ∧ okRune ((decodeN n b0 b1 b2 b3).1 : Int) := by
  unfold decodeN okRune
  repeat' split
  all_goals (simp only; omega)

theorem decL_facts (l : List UInt8) (h : l ≠ []) : 1 ≤ (decL l).2 ∧ (decL l).2 ≤ l.length ∧ (decL l).2 ≤ 4 ∧ okRune ((decL l).1 : Int) :=
  decN_facts _ _ _ _ _ (List.length_pos_iff.2 h) (UInt8.toNat_lt _)

/-- The signs of a row of bytes, each with its width. -/
def signs : Nat → List UInt8 → List (Nat × Nat)
  | 0, _ => []
  | _ + 1, [] => []
  | f + 1, x :: l => decL (x :: l) :: signs f ((x :: l).drop (decL (x :: l)).2)

theorem signs_nil (f : Nat) : signs f [] = [] := by cases f <;> rfl

theorem signs_cons (f : Nat) (l : List UInt8) (h : l ≠ []) : signs (f + 1) l = decL l :: signs f (l.drop (decL l).2) := by
  cases l with
  | nil => exact absurd rfl h
  | cons x l => rfl

theorem signs_fuel : ∀ (f g : Nat) (l : List UInt8), l.length ≤ f → l.length ≤ g → signs f l = signs g l
  | 0, g, l, hf, _ => by
    obtain rfl : l = [] := List.length_eq_zero_iff.1 (by omega)
    rw [signs_nil, signs_nil]
  | f + 1, 0, l, _, hg => by
    obtain rfl : l = [] := List.length_eq_zero_iff.1 (by omega)
    rw [signs_nil, signs_nil]
  | f + 1, g + 1, l, hf, hg => by
    by_cases h : l = []
    · rw [h, signs_nil, signs_nil]
    · have := decL_facts l h
      rw [signs_cons _ _ h, signs_cons _ _ h, signs_fuel f g _ (by rw [List.length_drop]; omega) (by rw [List.length_drop]; omega)]

theorem signs_length : ∀ (f : Nat) (l : List UInt8), (signs f l).length ≤ f
  | 0, l => by simp [signs]
  | f + 1, l => by
    by_cases h : l = []
    · rw [h, signs_nil]; simp
    · have := signs_length f (l.drop (decL l).2)
      rw [signs_cons _ _ h, List.length_cons]; omega

/-- What was read is valid, of one to four bytes. -/
theorem signs_ok : ∀ (f : Nat) (l : List UInt8) (x : Nat × Nat), x ∈ signs f l → 1 ≤ x.2 ∧ x.2 ≤ 4 ∧ okRune (x.1 : Int)
  | 0, l, x, hx => by simp [signs] at hx
  | f + 1, l, x, hx => by
    by_cases h : l = []
    · rw [h, signs_nil] at hx; cases hx
    · rw [signs_cons _ _ h] at hx
      rcases List.mem_cons.1 hx with rfl | hx
      · have := decL_facts l h
        exact ⟨this.1, this.2.2.1, this.2.2.2⟩
      · exact signs_ok f _ x hx

/-- Where signs begin. -/
def places : Nat → List (Nat × Nat) → List Int
  | _, [] => []
  | p, x :: r => (p : Int) :: places (p + x.2) r
def ends : Nat → List (Nat × Nat) → Nat
  | p, [] => p
  | p, x :: r => ends (p + x.2) r

theorem signs_ends : ∀ (f : Nat) (l : List UInt8) (p : Nat), l.length ≤ f → ends p (signs f l) = p + l.length
  | 0, l, p, h => by
    obtain rfl : l = [] := List.length_eq_zero_iff.1 (by omega)
    rfl
  | f + 1, l, p, hf => by
    by_cases h : l = []
    · rw [h, signs_nil]; rfl
    · have := decL_facts l h
      rw [signs_cons _ _ h, ends, signs_ends f _ _ (by rw [List.length_drop]; omega), List.length_drop]
      omega

theorem places_length : ∀ (p : Nat) (r : List (Nat × Nat)), (places p r).length = r.length
  | _, [] => rfl
  | p, x :: r => by simp [places, places_length]

def signsOf (l : List UInt8) : List (Nat × Nat) := signs l.length l
def runesOf (l : List UInt8) : List Int := (signsOf l).map fun x => runeZ (x.1 : Int)
def placesOf (l : List UInt8) : List Int := places 0 (signsOf l) ++ [(l.length : Int)]
def textOf (l : List UInt8) : List UInt8 := (runesOf l).flatMap encodeRune

theorem runesOf_length (l : List UInt8) : (runesOf l).length ≤ l.length := by
  simp only [runesOf, List.length_map]; exact signs_length _ _
theorem placesOf_length (l : List UInt8) : (placesOf l).length = (runesOf l).length + 1 := by
  simp [placesOf, runesOf, places_length]

/-- Rune keeps a rune valid. -/
theorem runeZ_ok (r : Int) (h : okRune r) : okRune (runeZ r) := by
  obtain ⟨a, ha⟩ : ∃ a, a = narrowZ r := ⟨_, rfl⟩
  obtain ⟨b, hb⟩ : ∃ b, b = blankZ a := ⟨_, rfl⟩
  obtain ⟨c, hc⟩ : ∃ c, c = dashZ b := ⟨_, rfl⟩
  obtain ⟨d, hd⟩ : ∃ d, d = quoteZ' c := ⟨_, rfl⟩
  obtain ⟨e, he⟩ : ∃ e, e = digitZ d := ⟨_, rfl⟩
  obtain ⟨f, hf⟩ : ∃ f, f = smallZ e := ⟨_, rfl⟩
  have hr : runeZ r = f := by simp only [runeZ, ← ha, ← hb, ← hc, ← hd, ← he, ← hf]
  rw [hr]
  clear hr
  unfold okRune at h ⊢
  have h1 : (0 ≤ a ∧ a < 55296) ∨ (57344 ≤ a ∧ a ≤ 1114111) := by unfold narrowZ at ha; omega
  have h2 : (0 ≤ b ∧ b < 55296) ∨ (57344 ≤ b ∧ b ≤ 1114111) := by unfold blankZ at hb; omega
  have h3 : (0 ≤ c ∧ c < 55296) ∨ (57344 ≤ c ∧ c ≤ 1114111) := by unfold dashZ at hc; omega
  have h4 : (0 ≤ d ∧ d < 55296) ∨ (57344 ≤ d ∧ d ≤ 1114111) := by unfold quoteZ' at hd; omega
  have h5 : (0 ≤ e ∧ e < 55296) ∨ (57344 ≤ e ∧ e ≤ 1114111) := by unfold digitZ at he; omega
  unfold smallZ at hf; omega

theorem runesOf_ok (l : List UInt8) : ∀ r ∈ runesOf l, okRune r := by
  intro r hr
  simp only [runesOf, List.mem_map] at hr
  obtain ⟨x, hx, rfl⟩ := hr
  exact runeZ_ok _ (signs_ok _ _ x hx).2.2

theorem runesOf_twice (l : List UInt8) : ∀ r ∈ runesOf l, runeZ r = r := by
  intro r hr
  simp only [runesOf, List.mem_map] at hr
  obtain ⟨x, hx, rfl⟩ := hr
  exact (narrowZ_twice _).2

/-! What was written is read again. -/

set_option maxRecDepth 100000 in
set_option maxHeartbeats 4000000 in
theorem decL_encode (r : Int) (h : okRune r) (rest : List UInt8) : decL (encodeRune r ++ rest) = (r.toNat, (encodeRune r).length) := by
  obtain ⟨n, rfl⟩ : ∃ n : Nat, r = (n : Int) := ⟨r.toNat, by unfold okRune at h; omega⟩
  have hc : ∀ (x : Int) (m : Nat), x = (m : Int) → m < 256 → ((x.toNat.toUInt8).toNat : Nat) = m := by
    intro x m h0 h1
    subst h0
    simp
    omega
  unfold okRune at h
  have hN : (n : Int).toNat = n := by simp
  rw [hN]
  by_cases h1 : n ≤ 127
  · have e : encodeRune n = [(n : Int).toNat.toUInt8] := by simp [encodeRune, encodeRuneZ_one (r := (n : Int)) (by omega) (by omega)]
    rw [e]
    have e0 := hc n n rfl (by omega)
    simp only [decL, List.cons_append, List.nil_append, List.getD_cons_zero, List.length_cons, List.length_nil, e0]
    unfold decodeN
    rw [if_pos (by omega)]
  · by_cases h2 : n ≤ 2047
    · have e : encodeRune n = [(192 + (n : Int) / 64).toNat.toUInt8, (128 + (n : Int) % 64).toNat.toUInt8] := by simp [encodeRune, encodeRuneZ_two (r := (n : Int)) (by omega) (by omega)]
      rw [e]
      have e0 := hc (192 + (n : Int) / 64) (192 + n / 64) (by omega) (by omega)
      have e1 := hc (128 + (n : Int) % 64) (128 + n % 64) (by omega) (by omega)
      simp only [decL, List.cons_append, List.nil_append, List.getD_cons_zero, List.getD_cons_succ, List.length_cons, List.length_nil, e0, e1]
      unfold decodeN
      rw [if_neg (by omega), if_pos (by omega), if_pos (by omega)]
      simp only [Prod.mk.injEq, and_true]
      omega
    · by_cases h3 : n ≤ 65535
      · have e : encodeRune n = [(224 + (n : Int) / 4096).toNat.toUInt8, (128 + (n : Int) / 64 % 64).toNat.toUInt8, (128 + (n : Int) % 64).toNat.toUInt8] := by simp [encodeRune, encodeRuneZ_three (r := (n : Int)) (by omega)]
        rw [e]
        have e0 := hc (224 + (n : Int) / 4096) (224 + n / 4096) (by omega) (by omega)
        have e1 := hc (128 + (n : Int) / 64 % 64) (128 + n / 64 % 64) (by omega) (by omega)
        have e2 := hc (128 + (n : Int) % 64) (128 + n % 64) (by omega) (by omega)
        simp only [decL, List.cons_append, List.nil_append, List.getD_cons_zero, List.getD_cons_succ, List.length_cons, List.length_nil, e0, e1, e2]
        unfold decodeN
        rw [if_neg (by omega), if_neg (by omega), if_pos (by omega), if_pos (by omega)]
        simp only [Prod.mk.injEq, and_true]
        omega
      · have e : encodeRune n = [(240 + (n : Int) / 262144).toNat.toUInt8, (128 + (n : Int) / 4096 % 64).toNat.toUInt8, (128 + (n : Int) / 64 % 64).toNat.toUInt8, (128 + (n : Int) % 64).toNat.toUInt8] := by simp [encodeRune, encodeRuneZ_four (r := (n : Int)) (by omega) (by omega)]
        rw [e]
        have e0 := hc (240 + (n : Int) / 262144) (240 + n / 262144) (by omega) (by omega)
        have e1 := hc (128 + (n : Int) / 4096 % 64) (128 + n / 4096 % 64) (by omega) (by omega)
        have e2 := hc (128 + (n : Int) / 64 % 64) (128 + n / 64 % 64) (by omega) (by omega)
        have e3 := hc (128 + (n : Int) % 64) (128 + n % 64) (by omega) (by omega)
        simp only [decL, List.cons_append, List.nil_append, List.getD_cons_zero, List.getD_cons_succ, List.length_cons, List.length_nil, e0, e1, e2, e3]
        unfold decodeN
        rw [if_neg (by omega), if_neg (by omega), if_neg (by omega), if_pos (by omega), if_pos (by omega)]
        simp only [Prod.mk.injEq, and_true]
        omega

theorem encodeRune_length (r : Int) : 1 ≤ (encodeRune r).length ∧ (encodeRune r).length ≤ 4 := by
  have := encodeRuneZ_length r
  simpa [encodeRune] using this

theorem flat_length : ∀ (rs : List Int), (rs.flatMap encodeRune).length ≤ 4 * rs.length ∧ rs.length ≤ (rs.flatMap encodeRune).length
  | [] => by simp
  | r :: rs => by
    have := flat_length rs
    have := encodeRune_length r
    simp only [List.flatMap_cons, List.length_append, List.length_cons]
    omega

/-- Signs one behind the other, and more behind. -/
theorem signs_flat : ∀ (rs : List Int) (f : Nat) (rest : List UInt8), (∀ r ∈ rs, okRune r) → signs (rs.length + f) (rs.flatMap encodeRune ++ rest) = rs.map (fun r => (r.toNat, (encodeRune r).length)) ++ signs f rest
  | [], f, rest, _ => by simp
  | r :: rs, f, rest, h => by
    have h0 := encodeRune_length r
    have hr := h r (by simp)
    have hd := decL_encode r hr (rs.flatMap encodeRune ++ rest)
    rw [List.flatMap_cons, List.length_cons, List.append_assoc, show rs.length + 1 + f = (rs.length + f) + 1 by omega, signs_cons _ _ (by intro h1; have := congrArg List.length h1; simp only [List.length_append, List.length_nil] at this; omega), hd]
    simp only [List.drop_left', List.map_cons, List.cons_append]
    rw [signs_flat rs f rest (fun x hx => h x (by simp [hx]))]

theorem signsOf_flat (rs : List Int) (h : ∀ r ∈ rs, okRune r) : signsOf (rs.flatMap encodeRune) = rs.map (fun r => (r.toNat, (encodeRune r).length)) := by
  have h1 := signs_flat rs 0 [] h
  rw [List.append_nil, Nat.add_zero, signs_nil, List.append_nil] at h1
  unfold signsOf
  rw [← h1]
  by_cases hl : rs = []
  · subst hl; rfl
  · have h2 := flat_length rs
    have h3 := signs_flat rs ((rs.flatMap encodeRune).length - rs.length) [] h
    rw [List.append_nil, signs_nil, List.append_nil, show rs.length + ((rs.flatMap encodeRune).length - rs.length) = (rs.flatMap encodeRune).length by omega] at h3
    rw [h3, h1]

theorem runesOf_flat (rs : List Int) (h : ∀ r ∈ rs, okRune r) : runesOf (rs.flatMap encodeRune) = rs.map runeZ := by
  unfold runesOf
  rw [signsOf_flat rs h, List.map_map]
  apply List.map_congr_left
  intro r hr
  have := h r hr
  unfold okRune at this
  simp only [Function.comp]
  rw [Int.toNat_of_nonneg (by omega)]

/-- What was folded is folded to itself. -/
theorem runesOf_text (l : List UInt8) : runesOf (textOf l) = runesOf l := by
  unfold textOf
  rw [runesOf_flat _ (runesOf_ok l)]
  have h := runesOf_twice l
  generalize runesOf l = q at h
  induction q with
  | nil => rfl
  | cons x q ih => rw [List.map_cons, h x (by simp), ih (fun r hr => h r (by simp [hr]))]

theorem textOf_text (l : List UInt8) : textOf (textOf l) = textOf l := by
  have h : textOf (textOf l) = (runesOf (textOf l)).flatMap encodeRune := rfl
  rw [h, runesOf_text]
  rfl

theorem signsOf_cons (x : UInt8) (l : List UInt8) (h : x.toNat < 128) : signsOf (x :: l) = (x.toNat, 1) :: signsOf l := by
  have hd : decL (x :: l) = (x.toNat, 1) := by
    simp only [decL, List.getD_cons_zero, decodeN]
    rw [if_pos h]
  unfold signsOf
  rw [List.length_cons, signs_cons _ _ (by simp), hd]
  rfl
end Go.Proofs.YtohgaknojkdohaaGreatDoor.Fo
