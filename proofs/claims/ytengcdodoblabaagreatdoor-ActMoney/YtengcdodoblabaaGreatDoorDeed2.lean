/- An action at work: numbers, words, counts, years. -/
import Derived.Test.YtengcdodoblabaaGreatDoorDeed
namespace Go.Proofs.YtengcdodoblabaaGreatDoor
open Go.RowKit
section
variable {p : Value} {W0 : World} {g : Nat} {op : Int} {r : Mom}

def IntV (_ : World) (v : Value) (x : Int) : Prop := v = .int .i64 x
def headO (o : Option (List Int × List Val)) : Option (Int × List Val) := o.map fun x => (x.1.getD 0 0, x.2)
def numO (cs : List Val) : Option (Int × List Val) := headO (takeO 1 cs)
def wordO (cs : List Val) : Option (Int × List Val) := headO (takeO 2 cs)
def countO (cs : List Val) : Option (Int × List Val) := if (cs.headD nilVal).kind = 2 then wordO cs else numO cs
theorem take_pos {kind : Int} {cs : List Val} {x : List Int × List Val} (h : takeO kind cs = some x) (hk : kind = 1 ∨ kind = 2 ∨ 4 ≤ kind) : 0 < x.1.length := by
  cases cs with
  | nil => cases h
  | cons c cs =>
    have h' : (if takeB kind c then some (c.f, cs) else none) = some x := h
    by_cases hb : takeB kind c = true
    · rw [if_pos hb] at h'
      unfold takeB at hb
      simp only [Bool.and_eq_true, beq_iff_eq] at hb
      obtain ⟨⟨h1, h2⟩, h3⟩ := hb
      obtain ⟨k, f⟩ := c
      obtain ⟨h4, h5⟩ := len_of_whole h2
      obtain ⟨a1, a2⟩ := inB_iff.1 h4
      injection h' with h'
      rw [← h']
      dsimp only at *
      have hk : k = 1 ∨ k = 2 ∨ k = 4 ∨ k = 5 ∨ k = 6 ∨ k = 7 ∨ k = 8 ∨ k = 9 ∨ k = 10 := by omega
      rcases hk with rfl | rfl | rfl | rfl | rfl | rfl | rfl | rfl | rfl <;> simp [fieldsL] at h5 <;> omega
    · rw [if_neg hb] at h'; cases h'

set_option maxRecDepth 8000 in
set_option maxHeartbeats 1000000 in
theorem number_any (c : Val) (cs : List Val) (w : World) (h : DD p W0 g op r (c :: cs) w) :
    Calls Tryz.prog 78 #[.pointer (some ⟨g, 0, none⟩)] w (Ret p W0 g op r w IntV (numO (c :: cs))) := by
  have HN := hid (take_any 1 c cs w h)
  have HE : Hid (numO (c :: cs) = headO (takeO 1 (c :: cs))) := hid rfl
  generalize numO (c :: cs) = o at *
  clear h
  go_enter Tryz.func78, Tryz.ntmps78
  go_wp2_with fail
  refine HN.out.mono ?_
  intro e w1 hr
  have HG := hid hr.grown
  cases ht : takeO 1 (c :: cs) with
  | none =>
    obtain rfl := hr.of_none ht
    have HO : Hid (o = none) := hid (by rw [HE.out, ht]; rfl)
    clear hr HN
    go_wp2
    exact ⟨rfl, Ret.no HO.out HG.out⟩
  | some x =>
    obtain ⟨f, cs'⟩ := x
    obtain ⟨v, rfl, hv, hd⟩ := hr.of_some ht
    have hp := take_pos ht (.inl rfl)
    have HO : Hid (o = some (f.getD 0 0, cs')) := hid (by rw [HE.out, ht]; rfl)
    have HD := hid hd
    obtain ⟨b, oo, cap, rfl, hl, hc, hlt, hcs⟩ := (hv.on hd.base).has hp
    have c0 := hcs 0 hp
    rw [Nat.add_zero] at c0
    dsimp only at hp
    generalize f.length = n at *
    generalize f.getD 0 0 = z at *
    clear hr HN hv hd hcs ht
    go_wp2
    go_ret
    exact Ret.yes (V := IntV) HO.out HG.out rfl HD.out

set_option maxRecDepth 8000 in
set_option maxHeartbeats 1000000 in
theorem word_any (c : Val) (cs : List Val) (w : World) (h : DD p W0 g op r (c :: cs) w) :
    Calls Tryz.prog 79 #[.pointer (some ⟨g, 0, none⟩)] w (Ret p W0 g op r w IntV (wordO (c :: cs))) := by
  have HN := hid (take_any 2 c cs w h)
  have HE : Hid (wordO (c :: cs) = headO (takeO 2 (c :: cs))) := hid rfl
  generalize wordO (c :: cs) = o at *
  clear h
  go_enter Tryz.func79, Tryz.ntmps79
  go_wp2_with fail
  refine HN.out.mono ?_
  intro e w1 hr
  have HG := hid hr.grown
  cases ht : takeO 2 (c :: cs) with
  | none =>
    obtain rfl := hr.of_none ht
    have HO : Hid (o = none) := hid (by rw [HE.out, ht]; rfl)
    clear hr HN
    go_wp2
    exact ⟨rfl, Ret.no HO.out HG.out⟩
  | some x =>
    obtain ⟨f, cs'⟩ := x
    obtain ⟨v, rfl, hv, hd⟩ := hr.of_some ht
    have hp := take_pos ht (.inr (.inl rfl))
    have HO : Hid (o = some (f.getD 0 0, cs')) := hid (by rw [HE.out, ht]; rfl)
    have HD := hid hd
    obtain ⟨b, oo, cap, rfl, hl, hc, hlt, hcs⟩ := (hv.on hd.base).has hp
    have c0 := hcs 0 hp
    rw [Nat.add_zero] at c0
    dsimp only at hp
    generalize f.length = n at *
    generalize f.getD 0 0 = z at *
    clear hr HN hv hd hcs ht
    go_wp2
    go_ret
    exact Ret.yes (V := IntV) HO.out HG.out rfl HD.out

set_option maxRecDepth 8000 in
set_option maxHeartbeats 1000000 in
theorem count_any (c : Val) (cs : List Val) (w : World) (h : DD p W0 g op r (c :: cs) w) :
    Calls Tryz.prog 77 #[.pointer (some ⟨g, 0, none⟩)] w (Ret p W0 g op r w IntV (countO (c :: cs))) := by
  have HF := hid (first_any c cs w h)
  have HD := hid h
  have HE : Hid (countO (c :: cs) = if c.kind = 2 then wordO (c :: cs) else numO (c :: cs)) := hid rfl
  have hfd : ∀ (k : Int) (x : Value) (W : World), (Instr.field 27 (.agg #[.int .i64 k, x]) 0).run Tryz.prog W = .ok (.int .i64 k) W := fun _ _ _ => by kernel_rfl
  generalize countO (c :: cs) = o at *
  clear h
  go_enter Tryz.func77, Tryz.ntmps77
  go_wp2_with fail
  refine HF.out.mono ?_
  rintro e w1 ⟨⟨v, rfl, hv⟩, hb⟩
  have HB := hid hb
  have HD1 := hid (HD.out.on hb)
  obtain ⟨fv, rfl, hf⟩ := hv
  obtain ⟨adf, capf, rfl, _⟩ := hf.shape
  clear hb hf HF
  by_cases hk : c.kind = 2
  · have HO := hid (HE.out.trans (if_pos hk))
    have HW := hid (word_any c cs w1 HD1.out)
    generalize wordO (c :: cs) = o2 at *
    rw [hk]
    generalize c.f.length = nf at *
    clear hk HE
    go_wp2_with fail
    refine HW.out.mono ?_
    intro e w2 hr
    have HG := hid (grown_on (grown_of HB.out) hr.grown)
    cases o2 with
    | none =>
      obtain rfl := hr.of_none rfl
      clear hr HW
      go_wp2
      exact ⟨rfl, Ret.no HO.out HG.out⟩
    | some x =>
      obtain ⟨z, cs'⟩ := x
      obtain ⟨v, rfl, hv, hd⟩ := hr.of_some rfl
      have HD2 := hid hd
      unfold IntV at hv
      subst hv
      clear hr HW hd
      go_wp2
      go_ret
      exact Ret.yes (V := IntV) HO.out HG.out rfl HD2.out
  · have HO := hid (HE.out.trans (if_neg hk))
    have HW := hid (number_any c cs w1 HD1.out)
    have hk2 : (c.kind == 2) = false := by simpa using hk
    generalize numO (c :: cs) = o2 at *
    generalize c.kind = kk at *
    generalize c.f.length = nf at *
    clear hk HE
    go_wp2_with fail
    refine HW.out.mono ?_
    intro e w2 hr
    have HG := hid (grown_on (grown_of HB.out) hr.grown)
    cases o2 with
    | none =>
      obtain rfl := hr.of_none rfl
      clear hr HW
      go_wp2
      exact ⟨rfl, Ret.no HO.out HG.out⟩
    | some x =>
      obtain ⟨z, cs'⟩ := x
      obtain ⟨v, rfl, hv, hd⟩ := hr.of_some rfl
      have HD2 := hid hd
      unfold IntV at hv
      subst hv
      clear hr HW hd
      go_wp2
      go_ret
      exact Ret.yes (V := IntV) HO.out HG.out rfl HD2.out
end
end Go.Proofs.YtengcdodoblabaaGreatDoor
