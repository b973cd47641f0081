/- What a Shape makes may be: plain mathematics. -/
import Derived.Test.YtannndpamhgknaaGreatDoorMBlSmp3
import Derived.Test.YtannndpamhgknaaGreatDoorXBl5
import Derived.Test.YtannndpamhgknaaGreatDoorXGr0
namespace Go.Proofs.YtannndpamhgknaaGreatDoor.Bl
open Go.RowKit Gr

def wordX (n : Nat) : ByteArray := [⟨#[111, 110, 101]⟩, ⟨#[120, 32, 121]⟩, ⟨#[195, 164]⟩, ⟨#[55, 117, 112]⟩, ⟨#[45]⟩].getD n ⟨#[]⟩
def moreX (d wd vl : Int) (raws : List Raw) : Locale := ⟨⟨#[120]⟩, -1, d % 4, [⟨wordX (wd % 5).toNat, 1 + vl % 3, vl % 100 - 5⟩, ⟨⟨#[116, 119, 111]⟩, 2, 2⟩], lrules raws 6, []⟩
def makeL (o d wd vl : Int) (raws : List Raw) (m : Bool) : List Locale := sampleL o d ++ if m = true then [moreX d wd vl raws] else []
theorem getD_app {ls ys : List Locale} {k : Nat} (h : k < ls.length) : (ls ++ ys).getD k nilLocale = ls.getD k nilLocale := by
  rw [List.getD_eq_getElem?_getD, List.getD_eq_getElem?_getD, List.getElem?_append_left h]
theorem chainUp_app (ls ys : List Locale) (i : Nat) (hi : i < ls.length) (hp : Par ls i) : ∀ (f : Nat) (a : Int), a ≤ i → chainUp (ls ++ ys) f a = chainUp ls f a
  | 0, _, _ => rfl
  | f + 1, a, ha => by
    unfold chainUp
    by_cases h : a < 0
    · rw [if_pos h, if_pos h]
    · rw [if_neg h, if_neg h, getD_app (by omega)]
      have := hp a.toNat (by omega)
      rw [chainUp_app ls ys i hi hp f _ (by omega)]
theorem chainOf_app (ls ys : List Locale) (i : Nat) (hi : i < ls.length) (hp : Par ls i) : chainOf (ls ++ ys) i = chainOf ls i := by
  unfold chainOf
  rw [chainUp_app ls ys i hi hp _ _ (Int.le_refl _)]
theorem rulesOf_app (ls ys : List Locale) (i : Nat) (hi : i < ls.length) (hp : Par ls i) : rulesOf (ls ++ ys) i = rulesOf ls i := by
  unfold rulesOf
  rw [chainOf_app ls ys i hi hp]
  have h : ∀ k ∈ chainOf ls i, ((ls ++ ys).getD k.toNat nilLocale).rules = (ls.getD k.toNat nilLocale).rules := fun k hk => by
    have := chainOf_mem ls i hp hk
    rw [getD_app (by omega)]
  revert h
  generalize chainOf ls i = l
  intro h
  induction l with
  | nil => rfl
  | cons k l ih =>
    rw [List.flatMap_cons, List.flatMap_cons, h k (by simp), ih (fun q hq => h q (List.mem_cons_of_mem _ hq))]
theorem takenAt_app (ls ys : List Locale) (i : Nat) (hi : i < ls.length) : takenAt (ls ++ ys) i = takenAt ls i := by
  unfold takenAt
  rw [List.take_append_of_le_length (by omega), getD_app hi]
theorem rightAt_app (ls ys : List Locale) (i : Nat) (hi : i < ls.length) (hp : Par ls i) : rightAt (ls ++ ys) i = rightAt ls i := by
  unfold rightAt
  rw [takenAt_app ls ys i hi, rulesOf_app ls ys i hi hp, getD_app hi]
theorem rightL_snoc (ls : List Locale) (x : Locale) (h : rightL ls = true) (hl : ls.length < 10) (hx : rightAt (ls ++ [x]) ls.length = true) : rightL (ls ++ [x]) = true := by
  unfold rightL
  rw [List.length_append, List.length_singleton, Bool.and_eq_true]
  refine ⟨decide_eq_true (by omega), List.all_eq_true.2 fun i hi => ?_⟩
  have hi' := List.mem_range.1 hi
  by_cases e : i < ls.length
  · rw [rightAt_app ls [x] i e (fun j hj => rightL_par h j (by omega))]
    exact rightL_at h e
  · obtain rfl : i = ls.length := by omega
    exact hx
theorem sampleL_right (o d : Int) : rightL (sampleL o d) = true := by
  have h : ∀ (a : Fin 3) (b : Fin 4), rightL [⟨⟨#[98, 97, 115, 101]⟩, -1, 0, wordsL, othersM 7, stylesL⟩, ⟨⟨#[101, 110]⟩, 0, 0, [], datesL ((a : Nat) : Int), []⟩, ⟨⟨#[97, 114, 45, 49]⟩, 1, ((b : Nat) : Int), [⟨⟨#[109, 97, 105]⟩, 1, 5⟩], [], []⟩] = true := by decide +kernel
  have := h ⟨(o % 3).toNat, by omega⟩ ⟨(d % 4).toNat, by omega⟩
  simp only at this
  rw [Int.toNat_of_nonneg (by omega), Int.toNat_of_nonneg (by omega)] at this
  exact this

theorem moreX_right (o d wd vl : Int) (raws : List Raw) : rightAt (sampleL o d ++ [moreX d wd vl raws]) 3 = true := by
  have hx : (sampleL o d ++ [moreX d wd vl raws]).getD 3 nilLocale = moreX d wd vl raws := rfl
  have hp : (moreX d wd vl raws).parent < 0 := by simp [moreX]
  have hch : chainOf (sampleL o d ++ [moreX d wd vl raws]) 3 = [(3 : Int)] := chainOf_root _ 3 (by rw [hx]; exact hp)
  have hru : rulesOf (sampleL o d ++ [moreX d wd vl raws]) 3 = lrules raws 6 := by
    unfold rulesOf
    rw [hch]
    show ((sampleL o d ++ [moreX d wd vl raws]).getD 3 nilLocale).rules ++ [] = _
    rw [hx, List.append_nil]
    rfl
  have htk : takenAt (sampleL o d ++ [moreX d wd vl raws]) 3 = false := by
    unfold takenAt
    rw [hx]
    show (decide ((⟨#[98, 97, 115, 101]⟩ : ByteArray) = ⟨#[120]⟩) || (decide ((⟨#[101, 110]⟩ : ByteArray) = ⟨#[120]⟩) || (decide ((⟨#[97, 114, 45, 49]⟩ : ByteArray) = ⟨#[120]⟩) || false))) = false
    decide +kernel
  have hw : wordOk (wordX (wd % 5).toNat) = true := by
    have h : ∀ k : Fin 5, wordOk (wordX k) = true := by decide +kernel
    exact h ⟨(wd % 5).toNat, by omega⟩
  have he : entryOk ⟨wordX (wd % 5).toNat, 1 + vl % 3, vl % 100 - 5⟩ = true := by
    unfold entryOk
    simp only
    rw [hw, show clsOk (1 + vl % 3) = true from inB_true ⟨by omega, by omega⟩, inB_true ⟨by omega, by omega⟩]
    rfl
  have he2 : entryOk ⟨⟨#[116, 119, 111]⟩, 2, 2⟩ = true := by decide +kernel
  have hi : idOk ⟨#[120]⟩ = true := by decide +kernel
  unfold rightAt
  rw [hx, htk, hru, lrules_check]
  simp only [moreX, hi, List.all_cons, List.all_nil, he, he2, List.length_cons, List.length_nil]
  rw [inB_true ⟨by omega, by omega⟩, inB_true (show 0 ≤ d % 4 ∧ d % 4 ≤ 3 by omega)]
  rfl
theorem makeL_right (o d wd vl : Int) (raws : List Raw) (m : Bool) : rightL (makeL o d wd vl raws m) = true := by
  unfold makeL
  cases m with
  | false => rw [if_neg (by decide), List.append_nil]; exact sampleL_right o d
  | true => rw [if_pos rfl]; exact rightL_snoc _ _ (sampleL_right o d) (by simp [sampleL]) (moreX_right o d wd vl raws)
theorem inB_I64 {n a b : Int} (h : inB n a b = true) (ha : -9223372036854775808 ≤ a) (hb : b ≤ 9223372036854775807) : I64 n := by
  have := inB_iff.1 h
  exact ⟨by omega, by omega⟩

theorem highs_le (k : Nat) : highs.getD k 0 ≤ 6 := by
  by_cases h : k < 16
  · have h' : ∀ j : Fin 16, highs.getD j 0 ≤ 6 := by decide
    exact h' ⟨k, h⟩
  · rw [List.getD_eq_getElem?_getD, List.getElem?_eq_none (by simp [highs]; omega)]
    decide
theorem right_ok {r : Rule} (h : right r = true) : OkRule r := by
  simp only [right, isSym, rhsOk, actOk, asked, Bool.and_eq_true, List.all_eq_true] at h
  obtain ⟨⟨⟨h1, h2, h3⟩, h4⟩, h5, h6, h7⟩ := h
  have k2 := inB_iff.1 h2
  have k6 := inB_iff.1 h6
  have k8 := highs_le r.op.toNat
  refine ⟨inB_I64 h1 (by decide) (by decide), ⟨by omega, fun n hn => inB_I64 (h3 n hn) (by decide) (by decide)⟩, inB_I64 h5 (by decide) (by decide), ⟨by omega, fun n hn => inB_I64 (h7 n hn) (by decide) (by omega)⟩, inB_I64 h4 (by decide) (by decide)⟩
theorem entry_ok {x : Entry} (h : entryOk x = true) : OkEntry x := by
  simp only [entryOk, wordOk, clsOk, Bool.and_eq_true] at h
  obtain ⟨⟨h1, _⟩, h2, h3⟩ := h
  have := inB_iff.1 h1
  exact ⟨by omega, inB_I64 h2 (by decide) (by decide), inB_I64 h3 (by decide) (by decide)⟩
theorem I64_zero : I64 0 := ⟨by decide, by decide⟩
theorem part_ok {x : Part} (h : partOk x = true) : OkPart x := by
  unfold partOk at h
  split at h
  · rename_i hk
    simp only [Bool.and_eq_true, decide_eq_true_eq] at h
    obtain ⟨h1, h2, h3, h4⟩ := h
    exact ⟨by rw [hk]; exact I64_zero, h1, by rw [h2]; exact I64_zero, by rw [h3]; exact I64_zero, by rw [h4]; exact I64_zero⟩
  · split at h
    · rename_i hk
      simp only [fieldOk, Bool.and_eq_true, decide_eq_true_eq] at h
      obtain ⟨h1, h2, h3, h4⟩ := h
      exact ⟨by rw [hk]; exact ⟨by decide, by decide⟩, by omega, inB_I64 h1 (by decide) (by decide), inB_I64 h2 (by decide) (by decide), by rw [h4]; exact I64_zero⟩
    · split at h
      · rename_i hk
        simp only [fieldOk, clsOk, Bool.and_eq_true, decide_eq_true_eq] at h
        obtain ⟨h1, h2, h3, h4⟩ := h
        exact ⟨by rw [hk]; exact ⟨by decide, by decide⟩, by omega, inB_I64 h1 (by decide) (by decide), by rw [h4]; exact I64_zero, inB_I64 h2 (by decide) (by decide)⟩
      · cases h
theorem style_ok {x : Style} (h : styleOk x = true) : OkStyle x := by
  simp only [styleOk, Bool.and_eq_true, List.all_eq_true] at h
  obtain ⟨h1, h2, h3⟩ := h
  have := inB_iff.1 h2
  exact ⟨inB_I64 h1 (by decide) (by decide), by omega, fun y hy => part_ok (h3 y hy)⟩
theorem own_rules (ls : List Locale) (i : Nat) : ∃ a, rulesOf ls i = a ++ (ls.getD i nilLocale).rules := by
  unfold rulesOf chainOf
  rw [chainUp_nat, List.reverse_cons, List.flatMap_append]
  refine ⟨_, congrArg _ ?_⟩
  rw [List.flatMap_cons, List.flatMap_nil, List.append_nil, Int.toNat_natCast]
theorem locale_ok {ls : List Locale} {i : Nat} (h : rightAt ls i = true) (hi : i < 10) : OkLocale (ls.getD i nilLocale) := by
  simp only [rightAt, idOk, Bool.and_eq_true, decide_eq_true_eq, List.all_eq_true] at h
  obtain ⟨⟨h1, _⟩, _, h3, h4, h5, h6, h7, h8, h9⟩ := h
  have k1 := inB_iff.1 h1
  have k3 := inB_iff.1 h3
  obtain ⟨a, ha⟩ := own_rules ls i
  have hr := List.all_eq_true.1 (check_right h9)
  have hn : (rulesOf ls i).length ≤ 60 := by
    simp only [check, Bool.and_eq_true, decide_eq_true_eq] at h9
    exact h9.1
  rw [ha] at hr hn
  rw [List.length_append] at hn
  exact ⟨by omega, ⟨by omega, by omega⟩, inB_I64 h4 (by decide) (by decide), ⟨h5, fun y hy => entry_ok (h6 y hy)⟩, ⟨by omega, fun y hy => right_ok (hr y (List.mem_append_right _ hy))⟩, ⟨h7, fun y hy => style_ok (h8 y hy)⟩⟩
theorem locales_ok {ls : List Locale} (h : rightL ls = true) : ∀ x ∈ ls, OkLocale x := fun x hx => by
  obtain ⟨i, hi, rfl⟩ := List.getElem_of_mem hx
  have := locale_ok (rightL_at h hi) (by have := rightL_length h; omega)
  rwa [List.getD_eq_getElem?_getD, List.getElem?_eq_getElem hi] at this
theorem flat_le {α : Type} {f : α → List Int} {c : Nat} : ∀ (xs : List α), (∀ x ∈ xs, (f x).length ≤ c) → (xs.flatMap f).length ≤ xs.length * c
  | [], _ => by simp
  | x :: xs, h => by
    rw [List.flatMap_cons, List.length_append, List.length_cons, Nat.add_mul, Nat.one_mul]
    have h1 := h x (by simp)
    have h2 := flat_le xs (fun y hy => h y (List.mem_cons_of_mem _ hy))
    omega
theorem text_len (s : ByteArray) : (encText s).length = 8 + s.size := by unfold encText; rw [List.length_append, numB_length, nums_length]
theorem nums_len (l : List Int) : (encNums l).length = l.length * 8 := by
  unfold encNums
  induction l with
  | nil => rfl
  | cons x l ih => rw [List.flatMap_cons, List.length_append, numB_length, ih, List.length_cons]; omega
theorem ints_len (l : List Int) : (encInts l).length = 8 + l.length * 8 := by
  unfold encInts
  rw [List.length_append, numB_length]
  exact congrArg _ (nums_len l)
theorem entry_len {x : Entry} (h : OkEntry x) : (encEntry x).length ≤ 44 := by
  unfold encEntry
  rw [List.length_append, text_len, nums_len]
  have := h.1
  simp
  omega
theorem part_len {x : Part} (h : OkPart x) : (encPart x).length ≤ 60 := by
  unfold encPart
  rw [List.length_append, List.length_append, numB_length, text_len, nums_len]
  have := h.2.1
  simp
  omega
theorem style_len {x : Style} (h : OkStyle x) : (encStyle x).length ≤ 736 := by
  unfold encStyle encParts
  rw [List.length_append, List.length_append, numB_length, numB_length]
  have h1 := flat_le (f := encPart) (c := 60) x.parts (fun y hy => part_len (h.2.2 y hy))
  have h2 := h.2.1
  omega
theorem rule_len {x : Rule} (h : OkRule x) : (encRule x).length ≤ 136 := by
  unfold encRule
  rw [List.length_append, List.length_append, List.length_append, List.length_append, numB_length, numB_length, numB_length, ints_len, ints_len]
  have h1 := h.2.1.1
  have h2 := h.2.2.2.1.1
  omega
end Go.Proofs.YtannndpamhgknaaGreatDoor.Bl
