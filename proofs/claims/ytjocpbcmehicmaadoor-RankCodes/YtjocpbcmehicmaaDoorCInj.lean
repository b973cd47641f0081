/- Two values have one text just where they are one. -/
import Derived.Test.YtjocpbcmehicmaaDoorRCode
namespace Go.Proofs.YtjocpbcmehicmaaDoor

def valD (l : List UInt8) : Nat := l.foldl (fun a d => 10 * a + (d.toNat - 48)) 0
theorem dig_nat (k : Nat) (h : k < 10) : (UInt8.ofNat (48 + k)).toNat = 48 + k := by simp; omega
theorem valD_dec : ∀ u : Nat, valD (Lib.decDigits u) = u ∧ ∀ d ∈ Lib.decDigits u, 48 ≤ d.toNat := by
  intro u
  induction u using Nat.strongRecOn with
  | ind u ih =>
    rw [Lib.decDigits]
    by_cases h : u < 10
    · rw [dif_pos h]
      refine ⟨?_, fun d hd => ?_⟩
      · show 10 * 0 + ((UInt8.ofNat (48 + u)).toNat - 48) = u
        rw [dig_nat u h]; omega
      · simp only [List.mem_singleton] at hd
        rw [hd, dig_nat u h]; omega
    · rw [dif_neg h]
      obtain ⟨h1, h2⟩ := ih (u / 10) (by omega)
      refine ⟨?_, fun d hd => ?_⟩
      · unfold valD at *
        rw [List.foldl_append, h1]
        show 10 * (u / 10) + ((UInt8.ofNat (48 + u % 10)).toNat - 48) = u
        rw [dig_nat (u % 10) (by omega)]; omega
      · rcases List.mem_append.1 hd with hd | hd
        · exact h2 d hd
        · simp only [List.mem_singleton] at hd
          rw [hd, dig_nat (u % 10) (by omega)]; omega
theorem dec_inj {u v : Nat} (h : Lib.decDigits u = Lib.decDigits v) : u = v := by
  rw [← (valD_dec u).1, h, (valD_dec v).1]
theorem dec_head (u : Nat) : ∃ d l, Lib.decDigits u = d :: l ∧ 48 ≤ d.toNat := by
  have h := dec_pos u
  have h2 := (valD_dec u).2
  match e : Lib.decDigits u with
  | [] => rw [e] at h; simp at h
  | d :: l => exact ⟨d, l, rfl, h2 d (by rw [e]; simp)⟩
theorem itoa_inj {a b : Int} (h : Lib.itoa a = Lib.itoa b) : a = b := by
  unfold Lib.itoa at h
  by_cases ha : a < 0 <;> by_cases hb : b < 0
  · rw [if_pos ha, if_pos hb] at h
    have := dec_inj (List.cons.inj h).2
    omega
  · rw [if_pos ha, if_neg hb] at h
    obtain ⟨d, l, e, hd⟩ := dec_head b.toNat
    rw [e] at h
    have := (List.cons.inj h).1
    rw [← this] at hd
    exact absurd hd (by decide)
  · rw [if_neg ha, if_pos hb] at h
    obtain ⟨d, l, e, hd⟩ := dec_head a.toNat
    rw [e] at h
    have := (List.cons.inj h).1
    rw [this] at hd
    exact absurd hd (by decide)
  · rw [if_neg ha, if_neg hb] at h
    have := dec_inj h
    omega
theorem itoa_no (a : Int) : ∀ d ∈ Lib.itoa a, d ≠ 44 := by
  intro d hd e
  unfold Lib.itoa at hd
  split at hd
  · rcases List.mem_cons.1 hd with h | h
    · rw [e] at h; exact absurd h (by decide)
    · have := (valD_dec _).2 d h; rw [e] at this; exact absurd this (by decide)
  · have := (valD_dec _).2 d hd; rw [e] at this; exact absurd this (by decide)
theorem codeF_head (f : List Int) : codeF f = [] ∨ ∃ l, codeF f = 44 :: l := by
  cases f with
  | nil => exact .inl rfl
  | cons y l => exact .inr ⟨_, rfl⟩
theorem split_at : ∀ (l1 l2 r1 r2 : List UInt8), (∀ d ∈ l1, d ≠ 44) → (∀ d ∈ l2, d ≠ 44) → (r1 = [] ∨ ∃ l, r1 = 44 :: l) → (r2 = [] ∨ ∃ l, r2 = 44 :: l) → l1 ++ r1 = l2 ++ r2 → l1 = l2 ∧ r1 = r2
  | [], [], _, _, _, _, _, _, h => ⟨rfl, h⟩
  | [], d :: l2, r1, r2, _, h2, h3, _, h => by
    rcases h3 with rfl | ⟨l, rfl⟩
    · simp at h
    · have := (List.cons.inj h).1
      exact absurd this.symm (h2 d (by simp))
  | d :: l1, [], r1, r2, h1, _, _, h4, h => by
    rcases h4 with rfl | ⟨l, rfl⟩
    · simp at h
    · have := (List.cons.inj h).1
      exact absurd this (h1 d (by simp))
  | d :: l1, e :: l2, r1, r2, h1, h2, h3, h4, h => by
    obtain ⟨a, b⟩ := List.cons.inj h
    obtain ⟨c1, c2⟩ := split_at l1 l2 r1 r2 (fun x hx => h1 x (by simp [hx])) (fun x hx => h2 x (by simp [hx])) h3 h4 b
    exact ⟨by rw [a, c1], c2⟩
theorem codeF_inj : ∀ f g : List Int, codeF f = codeF g → f = g
  | [], [], _ => rfl
  | [], _ :: _, h => by cases h
  | _ :: _, [], h => by cases h
  | y :: f, z :: g, h => by
    have h' := (List.cons.inj h).2
    obtain ⟨a, b⟩ := split_at _ _ _ _ (itoa_no y) (itoa_no z) (codeF_head f) (codeF_head g) h'
    rw [itoa_inj a, codeF_inj f g b]
theorem codeL_inj {x y : Val} (h : codeL x = codeL y) : x = y := by
  obtain ⟨a, b⟩ := split_at _ _ _ _ (itoa_no x.kind) (itoa_no y.kind) (codeF_head x.f) (codeF_head y.f) h
  have h1 := itoa_inj a
  have h2 := codeF_inj _ _ b
  cases x; cases y; simp at h1 h2; rw [h1, h2]
def codeS (x : Val) : ByteArray := ⟨(codeL x).toArray⟩
theorem codeS_inj {x y : Val} (h : codeS x = codeS y) : x = y := by
  have : (codeL x).toArray = (codeL y).toArray := congrArg ByteArray.data h
  exact codeL_inj (by simpa using congrArg Array.toList this)
theorem loop_eq (bs : ByteArray) : ∀ (n i : Nat) (r : List UInt8), bs.size - i = n → ByteArray.toList.loop bs i r = r.reverse ++ bs.data.toList.drop i
  | 0, i, r, h => by
    unfold ByteArray.toList.loop
    rw [if_neg (by omega), List.drop_eq_nil_of_le (by have : bs.data.toList.length = bs.size := rfl
                                                      omega)]
    simp
  | n + 1, i, r, h => by
    have hl : i < bs.data.toList.length := by
      have : bs.data.toList.length = bs.size := rfl
      omega
    unfold ByteArray.toList.loop
    rw [if_pos (by omega), loop_eq bs n (i + 1) _ (by omega), List.drop_eq_getElem_cons hl]
    have : bs.get! i = bs.data.toList[i] := by
      obtain ⟨a⟩ := bs
      show a[i]! = _
      rw [getElem!_pos a i (by simpa using hl)]
      simp
    rw [this]
    simp
theorem toList_data (s : ByteArray) : s.toList = s.data.toList := by
  have := loop_eq s _ 0 [] rfl
  simpa [ByteArray.toList] using this
theorem toList_inj {s t : ByteArray} (h : ¬ t = s) : ¬ t.toList = s.toList := fun e => h (by
  rw [toList_data, toList_data] at e
  obtain ⟨⟨a⟩⟩ := s
  obtain ⟨⟨b⟩⟩ := t
  simpa using e)
theorem codeT (x y : Val) : ((codeS x).toList == (codeS y).toList) = (cmpV x y == 0) := by
  rw [Bool.eq_iff_iff, beq_iff_eq, beq_iff_eq, cmpV_iff]
  constructor
  · intro h
    by_cases e : codeS x = codeS y
    · exact codeS_inj e
    · exact absurd h (toList_inj (s := codeS y) (t := codeS x) e)
  · rintro rfl; rfl
end Go.Proofs.YtjocpbcmehicmaaDoor
