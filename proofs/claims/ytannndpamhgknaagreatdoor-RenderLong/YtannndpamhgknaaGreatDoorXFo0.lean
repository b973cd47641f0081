/- FoMath, FoLeaf, FoText, FoFold, FoBase, FoExt, FoRefOne, FoDigits: these texts, one behind the other. -/
import Derived.Lib.DecodeN
import Derived.Lib.RuneBytes
import Derived.Lib.Strings
import Derived.Test.YtannndpamhgknaaGreatDoorProg
import Derived.WalkKit
import Derived.WalkSpells
import Derived.WalkSmall
import Derived.WalkMore
import Derived.Deep.QuietTactic
import Derived.BigQuiet
import Derived.BigCall
import Derived.RegionTactic
import Derived.ChangeAlike
import Derived.Laws.BitsLemmas
/- The plain mathematics of signs made alike: what a sign is made to, the signs of a row of bytes, where they begin, what is written of them; what was written is read again. -/
namespace Go.Proofs.YtannndpamhgknaaGreatDoor.Fo
open Go.Lib

def narrowZ (r : Int) : Int := if 65281 ≤ r ∧ r ≤ 65374 then r - 65248 else r
def blankZ (r : Int) : Int := if r = 9 ∨ r = 160 ∨ (8192 ≤ r ∧ r ≤ 8202) ∨ r = 8239 ∨ r = 8287 ∨ r = 12288 then 32 else r
def dashZ (r : Int) : Int := if (8208 ≤ r ∧ r ≤ 8213) ∨ r = 8722 then 45 else r
def quoteZ' (r : Int) : Int := if r = 8216 ∨ r = 8217 ∨ r = 700 then 39 else r
def digitZ (r : Int) : Int := if 1632 ≤ r ∧ r ≤ 1641 then r - 1584 else if 1776 ≤ r ∧ r ≤ 1785 then r - 1728 else if 2406 ≤ r ∧ r ≤ 2415 then r - 2358 else r
def smallZ (r : Int) : Int := if (65 ≤ r ∧ r ≤ 90) ∨ (192 ≤ r ∧ r ≤ 222 ∧ r ≠ 215) ∨ (913 ≤ r ∧ r ≤ 937 ∧ r ≠ 930) ∨ (1040 ≤ r ∧ r ≤ 1071) then r + 32 else if 1024 ≤ r ∧ r ≤ 1039 then r + 80 else r
def runeZ (r : Int) : Int := smallZ (digitZ (quoteZ' (dashZ (blankZ (narrowZ r)))))

theorem gd (s : ByteArray) (i : Nat) : s.data.toList.getD i 0 = s.get! i := by
  cases s with
  | mk d =>
    show d.toList.getD i 0 = d[i]!
    by_cases h : i < d.size
    · rw [getElem!_pos d i h]; simp [List.getD, h]
    · rw [getElem!_neg d i h]; simp [List.getD, h]; rfl

/-- A rune that may be written. -/
def okRune (r : Int) : Prop := (0 ≤ r ∧ r < 55296) ∨ (57344 ≤ r ∧ r ≤ 1114111)

/-- The sign that a row of bytes begins with, and its width. -/
def decL (l : List UInt8) : Nat × Nat := decodeN l.length (l.getD 0 0).toNat (l.getD 1 0).toNat (l.getD 2 0).toNat (l.getD 3 0).toNat

theorem decL_drop (s : ByteArray) (pos : Nat) : Utf8.decode s pos = decL (s.data.toList.drop pos) := by
  rw [decode_at, ← gd, ← gd, ← gd, ← gd]
  unfold decL
  have e : ∀ k, (s.data.toList.drop pos).getD k 0 = s.data.toList.getD (pos + k) 0 := by intro k; simp [List.getD, List.getElem?_drop]
  rw [e, e, e, e, List.length_drop, Nat.add_zero pos, size_eq]

set_option maxRecDepth 100000 in
set_option maxHeartbeats 2000000 in
theorem decN_facts (n b0 b1 b2 b3 : Nat) (hn : 1 ≤ n) (h0 : b0 < 256) : 1 ≤ (decodeN n b0 b1 b2 b3).2 ∧ (decodeN n b0 b1 b2 b3).2 ≤ n ∧ (decodeN n b0 b1 b2 b3).2 ≤ 4 ∧ okRune ((decodeN n b0 b1 b2 b3).1 : Int) := by
  unfold decodeN okRune
  repeat' split
  all_goals (simp only; omega)

theorem decL_facts (l : List UInt8) (h : l ≠ []) : 1 ≤ (decL l).2 ∧ (decL l).2 ≤ l.length ∧ (decL l).2 ≤ 4 ∧ okRune ((decL l).1 : Int) :=
  decN_facts _ _ _ _ _ (List.length_pos_iff.2 h) (UInt8.toNat_lt _)

/-- The signs of a row of bytes, each with its width. -/
def signs : Nat → List UInt8 → List (Nat × Nat)
  | 0, _ => []
  | _ + 1, [] => []
  | f + 1, x :: l => decL (x :: l) :: signs f ((x :: l).drop (decL (x :: l)).2)

theorem signs_nil (f : Nat) : signs f [] = [] := by cases f <;> rfl

theorem signs_cons (f : Nat) (l : List UInt8) (h : l ≠ []) : signs (f + 1) l = decL l :: signs f (l.drop (decL l).2) := by
  cases l with
  | nil => exact absurd rfl h
  | cons x l => rfl

theorem signs_length : ∀ (f : Nat) (l : List UInt8), (signs f l).length ≤ f
  | 0, l => by simp [signs]
  | f + 1, l => by
    by_cases h : l = []
    · rw [h, signs_nil]; simp
    · have := signs_length f (l.drop (decL l).2)
      rw [signs_cons _ _ h, List.length_cons]; omega

/-- What was read is valid, of one to four bytes. -/
theorem signs_ok : ∀ (f : Nat) (l : List UInt8) (x : Nat × Nat), x ∈ signs f l → 1 ≤ x.2 ∧ x.2 ≤ 4 ∧ okRune (x.1 : Int)
  | 0, l, x, hx => by simp [signs] at hx
  | f + 1, l, x, hx => by
    by_cases h : l = []
    · rw [h, signs_nil] at hx; cases hx
    · rw [signs_cons _ _ h] at hx
      rcases List.mem_cons.1 hx with rfl | hx
      · have := decL_facts l h
        exact ⟨this.1, this.2.2.1, this.2.2.2⟩
      · exact signs_ok f _ x hx

/-- Where signs begin. -/
def places : Nat → List (Nat × Nat) → List Int
  | _, [] => []
  | p, x :: r => (p : Int) :: places (p + x.2) r
def signsOf (l : List UInt8) : List (Nat × Nat) := signs l.length l
def runesOf (l : List UInt8) : List Int := (signsOf l).map fun x => runeZ (x.1 : Int)
def placesOf (l : List UInt8) : List Int := places 0 (signsOf l) ++ [(l.length : Int)]
def textOf (l : List UInt8) : List UInt8 := (runesOf l).flatMap encodeRune

theorem runesOf_length (l : List UInt8) : (runesOf l).length ≤ l.length := by
  simp only [runesOf, List.length_map]; exact signs_length _ _
/-- Rune keeps a rune valid. -/
theorem runeZ_ok (r : Int) (h : okRune r) : okRune (runeZ r) := by
  obtain ⟨a, ha⟩ : ∃ a, a = narrowZ r := ⟨_, rfl⟩
  obtain ⟨b, hb⟩ : ∃ b, b = blankZ a := ⟨_, rfl⟩
  obtain ⟨c, hc⟩ : ∃ c, c = dashZ b := ⟨_, rfl⟩
  obtain ⟨d, hd⟩ : ∃ d, d = quoteZ' c := ⟨_, rfl⟩
  obtain ⟨e, he⟩ : ∃ e, e = digitZ d := ⟨_, rfl⟩
  obtain ⟨f, hf⟩ : ∃ f, f = smallZ e := ⟨_, rfl⟩
  have hr : runeZ r = f := by simp only [runeZ, ← ha, ← hb, ← hc, ← hd, ← he, ← hf]
  rw [hr]
  clear hr
  unfold okRune at h ⊢
  have h1 : (0 ≤ a ∧ a < 55296) ∨ (57344 ≤ a ∧ a ≤ 1114111) := by unfold narrowZ at ha; omega
  have h2 : (0 ≤ b ∧ b < 55296) ∨ (57344 ≤ b ∧ b ≤ 1114111) := by unfold blankZ at hb; omega
  have h3 : (0 ≤ c ∧ c < 55296) ∨ (57344 ≤ c ∧ c ≤ 1114111) := by unfold dashZ at hc; omega
  have h4 : (0 ≤ d ∧ d < 55296) ∨ (57344 ≤ d ∧ d ≤ 1114111) := by unfold quoteZ' at hd; omega
  have h5 : (0 ≤ e ∧ e < 55296) ∨ (57344 ≤ e ∧ e ≤ 1114111) := by unfold digitZ at he; omega
  unfold smallZ at hf; omega

theorem runesOf_ok (l : List UInt8) : ∀ r ∈ runesOf l, okRune r := by
  intro r hr
  simp only [runesOf, List.mem_map] at hr
  obtain ⟨x, hx, rfl⟩ := hr
  exact runeZ_ok _ (signs_ok _ _ x hx).2.2

/-! What was written is read again. -/

set_option maxRecDepth 100000 in
set_option maxHeartbeats 4000000 in
theorem decL_encode (r : Int) (h : okRune r) (rest : List UInt8) : decL (encodeRune r ++ rest) = (r.toNat, (encodeRune r).length) := by
  obtain ⟨n, rfl⟩ : ∃ n : Nat, r = (n : Int) := ⟨r.toNat, by unfold okRune at h; omega⟩
  have hc : ∀ (x : Int) (m : Nat), x = (m : Int) → m < 256 → ((x.toNat.toUInt8).toNat : Nat) = m := by
    intro x m h0 h1
    subst h0
    simp
    omega
  unfold okRune at h
  have hN : (n : Int).toNat = n := by simp
  rw [hN]
  by_cases h1 : n ≤ 127
  · have e : encodeRune n = [(n : Int).toNat.toUInt8] := by simp [encodeRune, encodeRuneZ_one (r := (n : Int)) (by omega) (by omega)]
    rw [e]
    have e0 := hc n n rfl (by omega)
    simp only [decL, List.cons_append, List.nil_append, List.getD_cons_zero, List.length_cons, List.length_nil, e0]
    unfold decodeN
    rw [if_pos (by omega)]
  · by_cases h2 : n ≤ 2047
    · have e : encodeRune n = [(192 + (n : Int) / 64).toNat.toUInt8, (128 + (n : Int) % 64).toNat.toUInt8] := by simp [encodeRune, encodeRuneZ_two (r := (n : Int)) (by omega) (by omega)]
      rw [e]
      have e0 := hc (192 + (n : Int) / 64) (192 + n / 64) (by omega) (by omega)
      have e1 := hc (128 + (n : Int) % 64) (128 + n % 64) (by omega) (by omega)
      simp only [decL, List.cons_append, List.nil_append, List.getD_cons_zero, List.getD_cons_succ, List.length_cons, List.length_nil, e0, e1]
      unfold decodeN
      rw [if_neg (by omega), if_pos (by omega), if_pos (by omega)]
      simp only [Prod.mk.injEq, and_true]
      omega
    · by_cases h3 : n ≤ 65535
      · have e : encodeRune n = [(224 + (n : Int) / 4096).toNat.toUInt8, (128 + (n : Int) / 64 % 64).toNat.toUInt8, (128 + (n : Int) % 64).toNat.toUInt8] := by simp [encodeRune, encodeRuneZ_three (r := (n : Int)) (by omega)]
        rw [e]
        have e0 := hc (224 + (n : Int) / 4096) (224 + n / 4096) (by omega) (by omega)
        have e1 := hc (128 + (n : Int) / 64 % 64) (128 + n / 64 % 64) (by omega) (by omega)
        have e2 := hc (128 + (n : Int) % 64) (128 + n % 64) (by omega) (by omega)
        simp only [decL, List.cons_append, List.nil_append, List.getD_cons_zero, List.getD_cons_succ, List.length_cons, List.length_nil, e0, e1, e2]
        unfold decodeN
        rw [if_neg (by omega), if_neg (by omega), if_pos (by omega), if_pos (by omega)]
        simp only [Prod.mk.injEq, and_true]
        omega
      · have e : encodeRune n = [(240 + (n : Int) / 262144).toNat.toUInt8, (128 + (n : Int) / 4096 % 64).toNat.toUInt8, (128 + (n : Int) / 64 % 64).toNat.toUInt8, (128 + (n : Int) % 64).toNat.toUInt8] := by simp [encodeRune, encodeRuneZ_four (r := (n : Int)) (by omega) (by omega)]
        rw [e]
        have e0 := hc (240 + (n : Int) / 262144) (240 + n / 262144) (by omega) (by omega)
        have e1 := hc (128 + (n : Int) / 4096 % 64) (128 + n / 4096 % 64) (by omega) (by omega)
        have e2 := hc (128 + (n : Int) / 64 % 64) (128 + n / 64 % 64) (by omega) (by omega)
        have e3 := hc (128 + (n : Int) % 64) (128 + n % 64) (by omega) (by omega)
        simp only [decL, List.cons_append, List.nil_append, List.getD_cons_zero, List.getD_cons_succ, List.length_cons, List.length_nil, e0, e1, e2, e3]
        unfold decodeN
        rw [if_neg (by omega), if_neg (by omega), if_neg (by omega), if_pos (by omega), if_pos (by omega)]
        simp only [Prod.mk.injEq, and_true]
        omega

theorem encodeRune_length (r : Int) : 1 ≤ (encodeRune r).length ∧ (encodeRune r).length ≤ 4 := by
  have := encodeRuneZ_length r
  simpa [encodeRune] using this

theorem flat_length : ∀ (rs : List Int), (rs.flatMap encodeRune).length ≤ 4 * rs.length ∧ rs.length ≤ (rs.flatMap encodeRune).length
  | [] => by simp
  | r :: rs => by
    have := flat_length rs
    have := encodeRune_length r
    simp only [List.flatMap_cons, List.length_append, List.length_cons]
    omega

/-- Signs one behind the other, and more behind. -/
theorem signs_flat : ∀ (rs : List Int) (f : Nat) (rest : List UInt8), (∀ r ∈ rs, okRune r) → signs (rs.length + f) (rs.flatMap encodeRune ++ rest) = rs.map (fun r => (r.toNat, (encodeRune r).length)) ++ signs f rest
  | [], f, rest, _ => by simp
  | r :: rs, f, rest, h => by
    have h0 := encodeRune_length r
    have hr := h r (by simp)
    have hd := decL_encode r hr (rs.flatMap encodeRune ++ rest)
    rw [List.flatMap_cons, List.length_cons, List.append_assoc, show rs.length + 1 + f = (rs.length + f) + 1 by omega, signs_cons _ _ (by intro h1; have := congrArg List.length h1; simp only [List.length_append, List.length_nil] at this; omega), hd]
    simp only [List.drop_left', List.map_cons, List.cons_append]
    rw [signs_flat rs f rest (fun x hx => h x (by simp [hx]))]

theorem signsOf_flat (rs : List Int) (h : ∀ r ∈ rs, okRune r) : signsOf (rs.flatMap encodeRune) = rs.map (fun r => (r.toNat, (encodeRune r).length)) := by
  have h1 := signs_flat rs 0 [] h
  rw [List.append_nil, Nat.add_zero, signs_nil, List.append_nil] at h1
  unfold signsOf
  rw [← h1]
  by_cases hl : rs = []
  · subst hl; rfl
  · have h2 := flat_length rs
    have h3 := signs_flat rs ((rs.flatMap encodeRune).length - rs.length) [] h
    rw [List.append_nil, signs_nil, List.append_nil, show rs.length + ((rs.flatMap encodeRune).length - rs.length) = (rs.flatMap encodeRune).length by omega] at h3
    rw [h3, h1]

theorem runesOf_flat (rs : List Int) (h : ∀ r ∈ rs, okRune r) : runesOf (rs.flatMap encodeRune) = rs.map runeZ := by
  unfold runesOf
  rw [signsOf_flat rs h, List.map_map]
  apply List.map_congr_left
  intro r hr
  have := h r hr
  unfold okRune at this
  simp only [Function.comp]
  rw [Int.toNat_of_nonneg (by omega)]

end Go.Proofs.YtannndpamhgknaaGreatDoor.Fo

/- What the small functions of package fold answer, for every sign: each of the six steps, and all of them one behind the other (Rune); the table of noughts is as the program's text lays it. -/
namespace Go.Proofs.YtannndpamhgknaaGreatDoor.Fo
open Go.RowKit

theorem hid {p : Prop} (h : p) : Hid p := h
theorem up_trans {w w1 w2 : World} (h : Below w.heap.size w w1) (k : Below w1.heap.size w1 w2) : Below w.heap.size w w2 := h.trans (k.mono h.size)
theorem up_alloc (w : World) (o : Obj) : Below w.heap.size w (w.alloc o) := (Below.refl _ _).alloc (Nat.le_refl _) o

/-- The table of noughts as it was laid. -/
def Tab (w : World) : Prop := w.cell? ⟨1, 0, none⟩ = some (.int .i64 48) ∧ w.cell? ⟨1, 1, none⟩ = some (.int .i64 1632) ∧ w.cell? ⟨1, 2, none⟩ = some (.int .i64 1776) ∧ w.cell? ⟨1, 3, none⟩ = some (.int .i64 2406)

theorem lt_of_cell {w : World} {a : Addr} {v : Value} (h : w.cell? a = some v) : a.block < w.heap.size := by
  by_cases hb : a.block < w.heap.size
  · exact hb
  · simp [World.cell?, Array.getElem?_eq_none (by omega : w.heap.size ≤ a.block)] at h

theorem Tab.on {w w' : World} (h : Tab w) (hb : Below w.heap.size w w') : Tab w' := by
  have h0 : 1 < w.heap.size := lt_of_cell h.1
  exact ⟨(hb.cell h0).trans h.1, (hb.cell h0).trans h.2.1, (hb.cell h0).trans h.2.2.1, (hb.cell h0).trans h.2.2.2⟩

end Go.Proofs.YtannndpamhgknaaGreatDoor.Fo

/- What fold.Text answers for every string of at most a million bytes: its signs, each made alike, written one behind the other; new memory alone is touched. -/
namespace Go.Proofs.YtannndpamhgknaaGreatDoor.Fo
open Go.RowKit

theorem signs_at (s : ByteArray) (f pos : Nat) (h : pos < s.size) : signs (f + 1) (s.data.toList.drop pos) = Utf8.decode s pos :: signs f (s.data.toList.drop (pos + (Utf8.decode s pos).2)) := by
  rw [signs_cons _ _ (by intro h0; have := congrArg List.length h0; rw [List.length_drop, ← Lib.size_eq] at this; simp at this; omega), ← decL_drop, List.drop_drop]
theorem signs_end (s : ByteArray) (f pos : Nat) (h : ¬ pos < s.size) : signs f (s.data.toList.drop pos) = [] := by
  rw [List.drop_eq_nil_of_le (by rw [← Lib.size_eq]; omega), signs_nil]
theorem decode_facts (s : ByteArray) (pos : Nat) (h : pos < s.size) : 1 ≤ (Utf8.decode s pos).2 ∧ pos + (Utf8.decode s pos).2 ≤ s.size ∧ (Utf8.decode s pos).2 ≤ 4 ∧ okRune ((Utf8.decode s pos).1 : Int) := by
  have hl : (s.data.toList.drop pos).length = s.size - pos := by rw [List.length_drop, ← Lib.size_eq]
  have := decL_facts (s.data.toList.drop pos) (by intro h0; rw [h0] at hl; simp at hl; omega)
  rw [← decL_drop, hl] at this
  exact ⟨this.1, by omega, this.2.2.1, this.2.2.2⟩

theorem builder_on {T e : TypeId} {B b : Nat} {bs : List Value} {w w' : World} (h : Lib.IsBuilderF T e B b bs w) (hb : Below w.heap.size w w') : Lib.IsBuilderF T e B b bs w' := by
  have key : ∀ (i : Nat) (o : Obj), w.heap[i]? = some o → w'.heap[i]? = some o := by
    intro i o hi
    have hlt : i < w.heap.size := (Array.getElem?_eq_some_iff.1 hi).1
    rw [hb.block i hlt]; exact hi
  have one : ∀ p, Lib.BuilderAtF T e B b p bs w → Lib.BuilderAtF T e B b p bs w' := by
    rintro p ⟨hB, v, hb, hown, hne⟩
    refine ⟨hB, v, key _ _ hb, ⟨hown.1, ?_⟩, hne⟩
    rcases hown.2 with hn | ⟨g, cap, cur, fz, hv, hbg, hg, rest⟩
    · exact .inl hn
    · exact .inr ⟨g, cap, cur, fz, hv, hbg, key _ _ hg, rest⟩
  exact h.elim (fun x => .inl (one _ x)) (fun x => .inr (one _ x))

theorem iter_on {w w' : World} {k : Nat} {o : Obj} (h : w.heap[k]? = some o) (hb : Below w.heap.size w w') : w'.heap[k]? = some o := by
  have hlt : k < w.heap.size := (Array.getElem?_eq_some_iff.1 h).1
  rw [hb.block k hlt]; exact h

end Go.Proofs.YtannndpamhgknaaGreatDoor.Fo

/- What fold.Fold answers for every string of at most a million bytes: its signs made alike, and where they begin and where the text ends, in two new rows of ints; nothing else is touched. -/
namespace Go.Proofs.YtannndpamhgknaaGreatDoor.Fo
open Go.RowKit

theorem Tryz.info3 : (Tryz.prog.info? 3).map (fun i => (i.zero, i.size, i.bytes)) = some (some (.int .i64 0), 1, 8) := by kernel_rfl

/-- A row of ints from a place of a block on. -/
def Holds (w : World) (g o : Nat) (xs : List Int) : Prop := ∀ j, j < xs.length → w.cell? ⟨g, o + j, none⟩ = some (.int .i64 (xs.getD j 0))

theorem Holds.on {w w' : World} {g o : Nat} {xs : List Int} (h : Holds w g o xs) (hb : Below w.heap.size w w') : Holds w' g o xs := by
  intro j hj
  have := h j hj
  exact (hb.cell (lt_of_cell this)).trans this

theorem one_cell (w : World) (x : Int) (t : TypeId) : ∀ j u, [Value.int .i64 x][j]? = some u → (w.alloc (.cells #[.int .i64 x] t)).cell? ((⟨w.heap.size, 0, none⟩ : Addr).add j) = some u := by
  intro j u hj
  match j, hj with
  | 0, hj => simp at hj; subst hj; simp [Addr.add]
theorem one_oneCell (x : Int) : ∀ u ∈ [Value.int .i64 x], u.oneCell' = true := by
  intro u hu
  simp at hu
  subst hu
  rfl

theorem holds_owns {w : World} {base g n cap : Nat} {xs : List Int} (h : w.ownsRow base 3 1 (.slice (some ⟨g, 0, none⟩) n cap) n (xs.map (Value.int .i64))) : Holds w g 0 xs := by
  intro j hj
  have hl : xs.length = n := by have := h.1; simpa using this
  rw [Nat.zero_add, h.cellAt j (by omega)]
  simp [hj]

end Go.Proofs.YtannndpamhgknaaGreatDoor.Fo

/- What the statements' own helpers answer: a number brought into a range, a digit of one of the four systems, and the chapter's example, which holds. -/
namespace Go.Proofs.YtannndpamhgknaaGreatDoor.Fo
open Go.RowKit

theorem tmod_neg (n d : Int) (hd : 0 < d) (h : n.tmod d < 0) : n.tmod d + d = n % d := by
  rw [Int.tmod_eq_emod] at *
  have h4 := Int.emod_nonneg n (show d ≠ 0 by omega)
  split at h
  · omega
  · rename_i hc; rw [if_neg hc]; omega
theorem tmod_pos (n d : Int) (hd : 0 < d) (h : 0 ≤ n.tmod d) : n.tmod d = n % d := by
  rw [Int.tmod_eq_emod] at *
  have h5 := Int.emod_lt_of_pos n hd
  split at h
  · rename_i hc; rw [if_pos hc]; omega
  · omega

theorem encode_eq (r : Int) (h : okRune r) : Utf8.encode r = ⟨(Lib.encodeRune r).toArray⟩ := by
  obtain ⟨n, rfl⟩ : ∃ n : Nat, r = (n : Int) := ⟨r.toNat, by unfold okRune at h; omega⟩
  unfold okRune at h
  have hv : Utf8.valid (n : Int) = true := by
    unfold Utf8.valid
    simp only [Bool.or_eq_true, Bool.and_eq_true, decide_eq_true_eq]
    omega
  unfold Utf8.encode
  simp only [hv, if_true, Int.toNat_natCast]
  have hc : ∀ (x : Int) (m : Nat), x = (m : Int) → x.toNat.toUInt8 = UInt8.ofNat m := by
    intro x m e
    subst e
    rfl
  by_cases h1 : n ≤ 127
  · rw [if_pos (by omega)]
    have e : Lib.encodeRune n = [(n : Int).toNat.toUInt8] := by simp [Lib.encodeRune, Lib.encodeRuneZ_one (r := (n : Int)) (by omega) (by omega)]
    rw [e, hc _ n rfl]
  · rw [if_neg (by omega)]
    by_cases h2 : n ≤ 2047
    · rw [if_pos (by omega)]
      have e : Lib.encodeRune n = [(192 + (n : Int) / 64).toNat.toUInt8, (128 + (n : Int) % 64).toNat.toUInt8] := by simp [Lib.encodeRune, Lib.encodeRuneZ_two (r := (n : Int)) (by omega) (by omega)]
      rw [e, hc _ (192 + n / 64) (by omega), hc _ (128 + n % 64) (by omega)]
    · rw [if_neg (by omega)]
      by_cases h3 : n ≤ 65535
      · rw [if_pos (by omega)]
        have e : Lib.encodeRune n = [(224 + (n : Int) / 4096).toNat.toUInt8, (128 + (n : Int) / 64 % 64).toNat.toUInt8, (128 + (n : Int) % 64).toNat.toUInt8] := by simp [Lib.encodeRune, Lib.encodeRuneZ_three (r := (n : Int)) (by omega)]
        rw [e, hc _ (224 + n / 4096) (by omega), hc _ (128 + n / 64 % 64) (by omega), hc _ (128 + n % 64) (by omega)]
      · rw [if_neg (by omega)]
        have e : Lib.encodeRune n = [(240 + (n : Int) / 262144).toNat.toUInt8, (128 + (n : Int) / 4096 % 64).toNat.toUInt8, (128 + (n : Int) / 64 % 64).toNat.toUInt8, (128 + (n : Int) % 64).toNat.toUInt8] := by simp [Lib.encodeRune, Lib.encodeRuneZ_four (r := (n : Int)) (by omega) (by omega)]
        rw [e, hc _ (240 + n / 262144) (by omega), hc _ (128 + n / 4096 % 64) (by omega), hc _ (128 + n / 64 % 64) (by omega), hc _ (128 + n % 64) (by omega)]

/-- The systems' noughts. -/
def nought (k : Int) : Int := if k = 0 then 48 else if k = 1 then 1632 else if k = 2 then 1776 else 2406

theorem digit_walk (k d : Int) (w : World) (hT : Tab w) (hk0 : 0 ≤ k) (hk1 : k < 4) (hd0 : 0 ≤ d) (hd1 : d ≤ 9) : Calls Tryz.prog 89 #[.int .i64 k, .int .i64 d] w fun e w' => e = .returned (.string ⟨(Lib.encodeRune (nought k + d)).toArray⟩) ∧ w' = w := by
  obtain ⟨t0, t1, t2, t3⟩ := hT
  rcases (show k = 0 ∨ k = 1 ∨ k = 2 ∨ k = 3 by omega) with rfl | rfl | rfl | rfl
  · have E := hid (encode_eq (48 + d) (by unfold okRune; omega))
    rw [show nought 0 = 48 from rfl]
    go_enter Tryz.func89, Tryz.ntmps89
    go_wp2
    go_ret
    exact ⟨by rw [E.out]; rfl, rfl⟩
  · have E := hid (encode_eq (1632 + d) (by unfold okRune; omega))
    rw [show nought 1 = 1632 from rfl]
    go_enter Tryz.func89, Tryz.ntmps89
    go_wp2
    go_ret
    exact ⟨by rw [E.out]; rfl, rfl⟩
  · have E := hid (encode_eq (1776 + d) (by unfold okRune; omega))
    rw [show nought 2 = 1776 from rfl]
    go_enter Tryz.func89, Tryz.ntmps89
    go_wp2
    go_ret
    exact ⟨by rw [E.out]; rfl, rfl⟩
  · have E := hid (encode_eq (2406 + d) (by unfold okRune; omega))
    rw [show nought 3 = 2406 from rfl]
    go_enter Tryz.func89, Tryz.ntmps89
    go_wp2
    go_ret
    exact ⟨by rw [E.out]; rfl, rfl⟩

theorem Holds.at {w : World} {g o : Nat} {xs : List Int} (h : Holds w g o xs) (j : Nat) (x : Int) (hj : xs[j]? = some x) : w.cell? ⟨g, o + j, none⟩ = some (.int .i64 x) := by
  have hl : j < xs.length := (List.getElem?_eq_some_iff.1 hj).1
  rw [h j hl]
  simp [List.getD, hj]

end Go.Proofs.YtannndpamhgknaaGreatDoor.Fo

/- A region that draws its order, whose calls may make memory: one walk in the order of the text serves every order. -/
namespace Go.Proofs.YtannndpamhgknaaGreatDoor.Fo
open Go.RowKit
theorem row_new (w : World) (o : Obj) : (w.alloc o).heap[w.heap.size]? = some o := by
  show (w.heap.push o)[w.heap.size]? = some o
  simp
end Go.Proofs.YtannndpamhgknaaGreatDoor.Fo

/- The bytes that the reference writes of a sign, and of a digit. -/
namespace Go.Proofs.YtannndpamhgknaaGreatDoor.Fo
open Go.RowKit

theorem wraps_i64_62 (n : Int) (h0 : 0 ≤ n) (h1 : n < 2 ^ 62) : IntKind.i64.wrap n = n := by rw [IntKind.wrap_i64]; omega
theorem or_i64 (i a : Nat) (hi : i ≤ 62) (y : Int) (h0 : 0 ≤ y) (h1 : y < 2 ^ i) (hX : 2 ^ i * a < 2 ^ 62) : bits .or .i64 ((2 ^ i * a : Nat) : Int) y = ((2 ^ i * a : Nat) : Int) + y := by
  obtain ⟨n, rfl⟩ := Int.eq_ofNat_of_zero_le h0
  have hn : n < 2 ^ i := by exact_mod_cast h1
  have hn2 : n < 2 ^ 62 := Nat.lt_of_lt_of_le hn (Nat.pow_le_pow_right (by decide) hi)
  rw [(bits_nat .i64 62 (by decide) wraps_i64_62 (2 ^ i * a) n hX hn2).2, ← Nat.two_pow_add_eq_or_of_lt hn]
  simp
theorem or_192 (y : Int) (h0 : 0 ≤ y) (h1 : y < 64) : bits .or .i64 192 y = 192 + y := or_i64 6 3 (by decide) y h0 h1 (by decide)
theorem or_128 (y : Int) (h0 : 0 ≤ y) (h1 : y < 64) : bits .or .i64 128 y = 128 + y := or_i64 6 2 (by decide) y h0 h1 (by decide)
theorem or_224 (y : Int) (h0 : 0 ≤ y) (h1 : y < 16) : bits .or .i64 224 y = 224 + y := or_i64 4 14 (by decide) y h0 h1 (by decide)
theorem or_240 (y : Int) (h0 : 0 ≤ y) (h1 : y < 8) : bits .or .i64 240 y = 240 + y := or_i64 3 30 (by decide) y h0 h1 (by decide)
theorem and_63 (x : Int) (h0 : 0 ≤ x) (h1 : x < 4000000000) : bits .and .i64 x 63 = x % 64 := bits_mask .i64 62 (by decide) wraps_i64_62 6 (by decide) x h0 (by omega)

theorem conv_row (w : World) (cs : Array Value) (l : List UInt8) (n : Nat) (hn : l.length = n) (hc : cs = (l.map fun b => Value.int .u8 (b.toNat : Int)).toArray) :
    (convert 79 9 (.slice (some ⟨w.heap.size, 0, none⟩) n n)).run Tryz.prog (w.alloc (.cells cs 5)) = .ok (.string ⟨l.toArray⟩) (w.alloc (.cells cs 5)) := by
  subst hn
  refine run_convert_bytes_back (P := Tryz.prog) (w.alloc (.cells cs 5)) 79 9 5 ⟨w.heap.size, 0, none⟩ l.length l Tryz.underlying79 Tryz.underlying5 Tryz.underlying9 (fun j hj => ?_)
  have e : ((⟨w.heap.size, 0, none⟩ : Addr).add j) = ⟨w.heap.size, j, none⟩ := by unfold Addr.add; split <;> simp_all
  rw [e, cell_of_row _ _ j cs 5 _ (row_new w _), hc]
  simp [hj]

theorem toByte (x : Int) (h0 : 0 ≤ x) (h1 : x < 256) : Value.int .u8 ((x.toNat.toUInt8).toNat : Int) = .int .u8 x := by
  have : ((x.toNat.toUInt8).toNat : Int) = x := by simp; omega
  rw [this]

theorem one_any (r : Int) (w : World) (h0 : 0 ≤ r) (h1 : r ≤ 1114111) (hok : okRune r) : Calls Tryz.prog 42 #[.int .i64 r] w fun e w' => e = .returned (.string ⟨(Lib.encodeRune r).toArray⟩) ∧ Below w.heap.size w w' := by
  unfold okRune at hok
  by_cases c1 : r < 128
  · have e : Lib.encodeRune r = [r.toNat.toUInt8] := by simp [Lib.encodeRune, Lib.encodeRuneZ_one (r := r) (by omega) (by omega)]
    have hc := conv_row w #[.int .u8 r] (Lib.encodeRune r) 1 (by rw [e]; rfl) (by rw [e]; simp only [List.map_cons, List.map_nil, toByte _ h0 (show r < 256 by omega)])
    clear e
    generalize Lib.encodeRune r = L at *
    go_enter Tryz.func42, Tryz.ntmps42
    go_wp2
    go_ret
    exact ⟨rfl, up_alloc _ _⟩
  · by_cases c2 : r < 2048
    · have e : Lib.encodeRune r = [(192 + r / 64).toNat.toUInt8, (128 + r % 64).toNat.toUInt8] := by simp [Lib.encodeRune, Lib.encodeRuneZ_two (r := r) (by omega) (by omega)]
      have hc := conv_row w #[.int .u8 (192 + r / 64), .int .u8 (128 + r % 64)] (Lib.encodeRune r) 2 (by rw [e]; rfl) (by rw [e]; simp only [List.map_cons, List.map_nil, toByte (192 + r / 64) (by omega) (by omega), toByte (128 + r % 64) (by omega) (by omega)])
      have o1 := or_192 (r / 64) (by omega) (by omega)
      have o2 := and_63 r h0 (by omega)
      have o3 := or_128 (r % 64) (by omega) (by omega)
      clear e
      generalize Lib.encodeRune r = L at *
      go_enter Tryz.func42, Tryz.ntmps42
      go_wp2
      go_ret
      exact ⟨rfl, up_alloc _ _⟩
    · by_cases c3 : r < 65536
      · have e : Lib.encodeRune r = [(224 + r / 4096).toNat.toUInt8, (128 + r / 64 % 64).toNat.toUInt8, (128 + r % 64).toNat.toUInt8] := by simp [Lib.encodeRune, Lib.encodeRuneZ_three (r := r) (by omega)]
        have hc := conv_row w #[.int .u8 (224 + r / 4096), .int .u8 (128 + r / 64 % 64), .int .u8 (128 + r % 64)] (Lib.encodeRune r) 3 (by rw [e]; rfl) (by rw [e]; simp only [List.map_cons, List.map_nil, toByte (224 + r / 4096) (by omega) (by omega), toByte (128 + r / 64 % 64) (by omega) (by omega), toByte (128 + r % 64) (by omega) (by omega)])
        have o1 := or_224 (r / 4096) (by omega) (by omega)
        have o2 := and_63 r h0 (by omega)
        have o3 := or_128 (r % 64) (by omega) (by omega)
        have o4 := and_63 (r / 64) (by omega) (by omega)
        have o5 := or_128 (r / 64 % 64) (by omega) (by omega)
        clear e
        generalize Lib.encodeRune r = L at *
        go_enter Tryz.func42, Tryz.ntmps42
        go_wp2
        go_ret
        exact ⟨rfl, up_alloc _ _⟩
      · have e : Lib.encodeRune r = [(240 + r / 262144).toNat.toUInt8, (128 + r / 4096 % 64).toNat.toUInt8, (128 + r / 64 % 64).toNat.toUInt8, (128 + r % 64).toNat.toUInt8] := by simp [Lib.encodeRune, Lib.encodeRuneZ_four (r := r) (by omega) (by omega)]
        have hc := conv_row w #[.int .u8 (240 + r / 262144), .int .u8 (128 + r / 4096 % 64), .int .u8 (128 + r / 64 % 64), .int .u8 (128 + r % 64)] (Lib.encodeRune r) 4 (by rw [e]; rfl) (by rw [e]; simp only [List.map_cons, List.map_nil, toByte (240 + r / 262144) (by omega) (by omega), toByte (128 + r / 4096 % 64) (by omega) (by omega), toByte (128 + r / 64 % 64) (by omega) (by omega), toByte (128 + r % 64) (by omega) (by omega)])
        have o1 := or_240 (r / 262144) (by omega) (by omega)
        have o2 := and_63 r h0 (by omega)
        have o3 := or_128 (r % 64) (by omega) (by omega)
        have o4 := and_63 (r / 64) (by omega) (by omega)
        have o5 := or_128 (r / 64 % 64) (by omega) (by omega)
        have o6 := and_63 (r / 4096) (by omega) (by omega)
        have o7 := or_128 (r / 4096 % 64) (by omega) (by omega)
        clear e
        generalize Lib.encodeRune r = L at *
        go_enter Tryz.func42, Tryz.ntmps42
        go_wp2
        go_ret
        exact ⟨rfl, up_alloc _ _⟩

end Go.Proofs.YtannndpamhgknaaGreatDoor.Fo

/- What a digit of one of the four systems is made alike to: its number's own digit. -/
namespace Go.Proofs.YtannndpamhgknaaGreatDoor.Fo
open Go.RowKit

theorem nought_ok (k d : Int) (hd0 : 0 ≤ d) (hd1 : d ≤ 9) : okRune (nought k + d) := by
  unfold okRune nought
  repeat' split
  all_goals omega

theorem digit_rune (k d : Int) (hk0 : 0 ≤ k) (hk1 : k < 4) (hd0 : 0 ≤ d) (hd1 : d ≤ 9) : runeZ (nought k + d) = 48 + d := by
  have key : ∀ x y, narrowZ x = x → blankZ x = x → dashZ x = x → quoteZ' x = x → digitZ x = y → smallZ y = y → runeZ x = y := by
    intro x y h1 h2 h3 h4 h5 h6
    unfold runeZ
    rw [h1, h2, h3, h4, h5, h6]
  have hn : nought k + d = 48 + d ∨ nought k + d = 1632 + d ∨ nought k + d = 1776 + d ∨ nought k + d = 2406 + d := by
    unfold nought
    repeat' split
    all_goals omega
  apply key
  · unfold narrowZ; omega
  · unfold blankZ; omega
  · unfold dashZ; omega
  · unfold quoteZ'; omega
  · unfold digitZ
    have : k = 0 ∨ k = 1 ∨ k = 2 ∨ k = 3 := by omega
    rcases this with rfl | rfl | rfl | rfl
    · rw [show nought 0 = 48 from rfl]; omega
    · rw [show nought 1 = 1632 from rfl]; omega
    · rw [show nought 2 = 1776 from rfl]; omega
    · rw [show nought 3 = 2406 from rfl]; omega
  · unfold smallZ; omega

theorem one_runes (r : Int) (h : okRune r) : runesOf (Lib.encodeRune r) = [runeZ r] := by
  have := runesOf_flat [r] (by intro x hx; simp at hx; subst hx; exact h)
  simpa using this
theorem one_places (r : Int) (h : okRune r) : placesOf (Lib.encodeRune r) = [0, ((Lib.encodeRune r).length : Int)] := by
  have := signsOf_flat [r] (by intro x hx; simp at hx; subst hx; exact h)
  simp only [List.flatMap_cons, List.flatMap_nil, List.append_nil] at this
  unfold placesOf
  rw [this]
  rfl
theorem one_text (r : Int) (h : okRune r) : textOf (Lib.encodeRune r) = Lib.encodeRune (runeZ r) := by
  unfold textOf
  rw [one_runes r h]
  simp
theorem low_encode (r : Int) (h0 : 0 ≤ r) (h1 : r ≤ 127) : Lib.encodeRune r = [r.toNat.toUInt8] := by simp [Lib.encodeRune, Lib.encodeRuneZ_one h0 h1]

end Go.Proofs.YtannndpamhgknaaGreatDoor.Fo
