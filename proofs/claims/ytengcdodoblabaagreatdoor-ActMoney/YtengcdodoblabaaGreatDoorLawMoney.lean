/- ActMoney answers true of any three numbers: money is so many of its least unit; what is finer is none. The table of how many numbers a kind has, and what an action stops with, are as listed. -/
import Derived.Test.YtengcdodoblabaaGreatDoorCards
import Derived.Test.YtengcdodoblabaaGreatDoorTie
import Derived.Test.YtengcdodoblabaaGreatDoorTab
import Derived.ProofKit
import Derived.OpenShut
import Derived.Lay
import Derived.SevenTiedAt
import Derived.Stop.Joined
import Derived.Lib.LaidTab
import Derived.Deep.Cut
import Derived.Test.YtengcdodoblabaaGreatDoorVal
import Derived.Test.YtengcdodoblabaaGreatDoorRDoB
import Derived.Test.YtengcdodoblabaaGreatDoorRDoD
import Derived.Test.YtengcdodoblabaaGreatDoorRDoM
import Derived.Test.YtengcdodoblabaaGreatDoorRelReg
namespace Go.Proofs.YtengcdodoblabaaGreatDoor
open Go.ChangeShapes Go.WideShapes Go.ChangeAt Go.RowKit

/-- What Do answers, held as a value. -/
def AnsV (B : Nat) (o : Option Val) (v : Value) (w : World) : Prop := match o with
  | some x => ∃ u, v = .tuple #[u, .bool true] ∧ NV B w u x
  | none => v = noneV
/-- The values of a region that calls Do of money, operation by operation. -/
def Pm (B : Nat) (k c : Int) (dv : Value) (d : Val) (o : Option Val) (j : Nat) (v : Value) (w : World) : Prop :=
  match j with
  | 0 => ∃ g, v = .slice (some ⟨g, 0, none⟩) 2 2 ∧ IA w v [0, 1]
  | 1 => ∃ g, v = .agg #[.int .i64 12, .slice (some ⟨g, 0, none⟩) 2 2] ∧ IA w (.slice (some ⟨g, 0, none⟩) 2 2) [0, 1]
  | 2 => v = .int .i64 k
  | 3 => ∃ g, v = .slice (some ⟨g, 0, none⟩) 1 1 ∧ IA w v [k]
  | 4 => ∃ g, v = .agg #[.int .i64 2, .slice (some ⟨g, 0, none⟩) 1 1] ∧ IA w (.slice (some ⟨g, 0, none⟩) 1 1) [k]
  | 5 => v = dv
  | 6 => ∃ g, v = .slice (some ⟨g, 0, none⟩) 2 2 ∧ LA w v [⟨2, [k]⟩, d]
  | 7 => v = .int .i64 c
  | 8 => v = momV (refM c)
  | 9 => AnsV B o v w
  | 10 => AnsV B o v w
  | 11 => (match o with | some x => NV B w v x | none => v = .agg #[.int .i64 0, .slice none 0 0])
  | 12 => v = .bool o.isSome
  | 13 => ∃ g, v = .pointer (some ⟨g, 0, none⟩) ∧ B ≤ g ∧ w.heap[g]? = some (.cells #[.int .i64 0, .slice none 0 0] 27 (0, 0))
  | _ => False
theorem AnsV.on {B : Nat} {o : Option Val} {v : Value} {w w' : World} (h : AnsV B o v w) (hb : Below w.heap.size w w') : AnsV B o v w' := by
  cases o with
  | none => exact h
  | some x => obtain ⟨u, e, h⟩ := h; exact ⟨u, e, h.on hb⟩
theorem Pm.on {B : Nat} {k c : Int} {dv : Value} {d : Val} {o : Option Val} : ∀ (j : Nat) (v : Value) (w w' : World), Below w.heap.size w w' → Pm B k c dv d o j v w → Pm B k c dv d o j v w' := by
  intro j v w w' hb h
  match j with
  | 0 => obtain ⟨g, e, h⟩ := h; exact ⟨g, e, h.on hb⟩
  | 1 => obtain ⟨g, e, h⟩ := h; exact ⟨g, e, h.on hb⟩
  | 2 => exact h
  | 3 => obtain ⟨g, e, h⟩ := h; exact ⟨g, e, h.on hb⟩
  | 4 => obtain ⟨g, e, h⟩ := h; exact ⟨g, e, h.on hb⟩
  | 5 => exact h
  | 6 => obtain ⟨g, e, h⟩ := h; exact ⟨g, e, h.on hb⟩
  | 7 => exact h
  | 8 => exact h
  | 9 => exact AnsV.on h hb
  | 10 => exact AnsV.on h hb
  | 11 =>
    cases o with
    | none => exact h
    | some x => exact NV.on h hb
  | 12 => exact h
  | 13 => obtain ⟨g, e, h1, h2⟩ := h; exact ⟨g, e, h1, row_on hb h2⟩
  | _ + 14 => exact h.elim

/-- What of the values does not hang on memory. -/
def Wm (o : Option Val) (j : Nat) (v : Value) : Prop := match j with
  | 10 => ∃ u, v = .tuple #[u, .bool o.isSome]
  | 12 => v = .bool o.isSome
  | _ => True
theorem Pm.weak {B : Nat} {k c : Int} {dv : Value} {d : Val} {o : Option Val} : ∀ (j : Nat) (v : Value) (w : World), Pm B k c dv d o j v w → Wm o j v := by
  intro j v w h
  match j with
  | 10 =>
    cases o with
    | none => exact ⟨_, h⟩
    | some x => obtain ⟨u, e, _⟩ := h; exact ⟨u, e⟩
  | 12 => exact h
  | 0 | 1 | 2 | 3 | 4 | 5 | 6 | 7 | 8 | 9 | 11 => exact trivial
  | 13 => exact trivial
  | _ + 14 => exact trivial
/-- The answer as it lies in memory. -/
def RM (w3 : World) (o : Option Val) (v9 v10 : Value) (w : World) : Prop :=
  ∃ g sv, v9 = .pointer (some ⟨g, 0, none⟩) ∧ v10 = .bool o.isSome ∧ Below w3.heap.size w3 w ∧ w.heap[g]? = some (.cells #[.int .i64 (o.getD nilVal).kind, sv] 27 (0, 0)) ∧ IA w sv (o.getD nilVal).f
theorem scaled_short {m : Int} {s to : Nat} {n : Int} (h : De.Dc.scaled m s to = some n) (hn : De.Dc.norm m s = (m, s)) : s ≤ to := by
  rcases Nat.lt_or_ge to s with hlt | hge
  · exfalso
    unfold De.Dc.scaled at h
    rw [if_pos hlt, De.Dc.down_eq] at h
    split at h
    · rename_i h0
      have hsh := De.Dc.norm_short s m
      rw [hn] at hsh
      dsimp only at hsh
      obtain ⟨d, hd⟩ : ∃ d, s - to = d + 1 := ⟨s - to - 1, by omega⟩
      rw [hd, De.Dc.tenS] at h0
      have hp := De.Dc.ten_pos d
      have h1 : m % 10 = 0 := by
        have : m = 10 * De.Dc.ten d * (m / (10 * De.Dc.ten d)) := by
          have := Int.mul_ediv_add_emod m (10 * De.Dc.ten d)
          omega
        rw [this, Int.mul_assoc]
        exact Int.mul_emod_right _ _
      omega
    · cases h
  · exact hge
theorem money_some {k M S : Int} {x : Val} (k0 : 0 ≤ k) (hr : rightB ⟨7, [M, S]⟩ = true) (h : doO 12 (moneyO ⟨2, [k]⟩ ⟨7, [M, S]⟩) = some x) : ∃ n, x = ⟨8, [k, n]⟩ ∧ S ≤ k % 10 := by
  unfold doO at h
  obtain ⟨y, h1, h2⟩ := Option.bind_eq_some_iff.1 h
  split at h2
  · obtain rfl := Option.some.inj h2
    unfold moneyO at h1
    obtain ⟨c, hc, h1⟩ := Option.bind_eq_some_iff.1 h1
    obtain ⟨f, hf, h1⟩ := Option.bind_eq_some_iff.1 h1
    obtain rfl : k = c := Option.some.inj hc
    rw [take_if 7 (by decide), if_pos ⟨rfl, hr⟩] at hf
    obtain rfl : [M, S] = f := Option.some.inj hf
    rw [if_pos k0] at h1
    obtain ⟨n, hn, h1⟩ := Option.bind_eq_some_iff.1 h1
    obtain rfl := Option.some.inj h1
    refine ⟨n, rfl, ?_⟩
    have hb : normB M S = true := by
      unfold rightB at hr
      simp only [Bool.and_eq_true] at hr
      exact hr.2
    unfold normB at hb
    simp only [Bool.and_eq_true, beq_iff_eq] at hb
    obtain ⟨⟨_, hi⟩, hb1, hb2⟩ := hb
    obtain ⟨i1, i2⟩ := inB_iff.1 hi
    have hnn : De.Dc.norm M S.toNat = (M, S.toNat) := by
      ext
      · exact hb1
      · show (De.Dc.norm M S.toNat).2 = S.toNat
        omega
    have := scaled_short (show De.Dc.scaled M S.toNat (k % 10).toNat = some n from hn) hnn
    omega
  · cases h2
theorem money_len {a b x : Val} (h : doO 12 (moneyO a b) = some x) : x.f.length = 2 := by
  unfold doO at h
  obtain ⟨y, h1, h2⟩ := Option.bind_eq_some_iff.1 h
  split at h2
  · obtain rfl := Option.some.inj h2
    unfold moneyO at h1
    obtain ⟨c, _, h1⟩ := Option.bind_eq_some_iff.1 h1
    obtain ⟨f, _, h1⟩ := Option.bind_eq_some_iff.1 h1
    split at h1
    · obtain ⟨n, _, h1⟩ := Option.bind_eq_some_iff.1 h1
      obtain rfl := Option.some.inj h1
      rfl
    · cases h1
  · cases h2
/-- Behind the store: the answer in its block. -/
def FnM (w3 : World) (o : Option Val) (us : Nat → Value) (w : World) : Prop :=
  ∃ g sv, us 13 = .pointer (some ⟨g, 0, none⟩) ∧ Below w3.heap.size w3 w ∧ w.heap[g]? = some (.cells #[.int .i64 (o.getD nilVal).kind, sv] 27 (0, 0)) ∧ IA w sv (o.getD nilVal).f
theorem ia_set {B : Nat} {w : World} {v x y : Value} {a b : Int} {g : Nat} (h : NA B w v [a, b]) (hz : w.heap[g]? = some (.cells #[.int .i64 0, .slice none 0 0] 27 (0, 0))) : IA ((w.setCell ⟨g, 0, none⟩ x).setCell ⟨g, 1, none⟩ y) v [a, b] := by
  rcases h with ⟨h, _⟩ | ⟨b', cap, cs, t, e, h1, _, h2, h3⟩
  · cases h
  · have hne : b' ≠ g := fun e => by
      subst e
      have e2 := hz.symm.trans h2
      injection e2 with e2
      injection e2 with e3
      have := h3 1 (by simp)
      rw [← e3] at this
      cases this
    have h4 : ((w.setCell ⟨g, 0, none⟩ x).setCell ⟨g, 1, none⟩ y).heap[b']? = some (.cells cs t (0, 0)) := (heap_setCell_other _ ⟨g, 1, none⟩ b' _ hne).trans ((heap_setCell_other w ⟨g, 0, none⟩ b' _ hne).trans h2)
    exact NA.ia (B := 0) (.inr ⟨b', cap, cs, t, e, h1, Nat.zero_le _, h4, h3⟩)

set_option maxRecDepth 8000 in
set_option maxHeartbeats 8000000 in
theorem walk (c m s : Int) (W : World) (w0 : (Lit.int .i64 c).wf = true) (w1 : (Lit.int .i64 m).wf = true) (w2 : (Lit.int .i64 s).wf = true) (hX : TabsE W) : Calls Tryz.prog 5 #[.int .i64 c, .int .i64 m, .int .i64 s] W fun e W' => e = .returned (.bool true) ∧ Below W.heap.size W W' := by
  obtain ⟨p, hT⟩ := hX
  obtain ⟨ba, ba'⟩ := wf_bd w0
  have HK := hid (known_any p W hT)
  have HT := hid hT
  have HR := hid fun w => ref_any c w ba ba'
  have HRR := hid (refM_right c)
  have H1 := hid fun w => lwithin_any c 10000 w (by decide) (by decide) ba ba'
  obtain ⟨⟨kd, fd⟩, hdk, hdr, hdv⟩ := lvalue_any 3 m s (by unfold i64; omega) (wf_bd w1) (wf_bd w2)
  obtain rfl : kd = 7 := hdk
  have HV := hid hdv
  have hx : 0 ≤ c % 10000 ∧ c % 10000 ≤ 9999 := by omega
  generalize c % 10000 = k at *
  obtain ⟨k0, k1⟩ := hx
  have hfd : fd.length = 2 := by
    have hw : wholeB ⟨7, fd⟩ = true := by
      unfold rightB at hdr
      simp only [Bool.and_eq_true] at hdr
      exact hdr.1
    have := (len_of_whole hw).2
    rw [show fieldsL.getD (Int.toNat 7) 0 = 2 by decide] at this
    omega
  obtain ⟨M, S, rfl⟩ := len2 hfd
  have HDR := hid hdr
  clear hT w0 w1 w2 ba ba' hdv hfd hdr
  go_enter Tryz.func5, Tryz.ntmps5
  go_wp2_with fail
  refine HK.out.mono ?_
  rintro e w1 ⟨rfl, hb1⟩
  have HB1 := hid hb1
  clear hb1 HK
  go_wp2_with fail
  refine (H1.out _).mono ?_
  rintro e wn ⟨rfl, hw⟩
  obtain rfl := hw.symm
  clear hw
  go_wp2_with fail
  refine (HV.out _).mono ?_
  rintro e w2 ⟨u, rfl, hu, hb2⟩
  obtain ⟨fv, rfl, hf⟩ := hu
  obtain ⟨bd, od, capd, rfl, _, _, _⟩ := hf.ia.has2
  dsimp only at hf ⊢
  have HF := hid hf.ia
  have HB2 := hid (up_trans HB1.out hb2)
  clear hf hb2 H1 HV
  obtain ⟨w3, hw3⟩ : ∃ w3, w3 = w2.alloc (.cells #[.int .i64 7, .slice (some ⟨bd, od, none⟩) 2 capd] 27) := ⟨_, rfl⟩
  have hal := up_alloc w2 (.cells #[.int .i64 7, .slice (some ⟨bd, od, none⟩) 2 capd] 27)
  rw [← hw3] at hal
  have K3 := hid (show w3.heap[w2.heap.size]? = some (.cells #[.int .i64 7, .slice (some ⟨bd, od, none⟩) 2 capd] 27 (0, 0)) by rw [hw3]; exact new_row _ _)
  have HF3 := hid (HF.out.on hal)
  have HB3 := hid (up_trans HB2.out hal)
  go_wp2
  rw [← hw3]
  clear hw3 hal
  have HDA := hid fun (w : World) (pv lv : Value) (hp : IA w pv [0, 1]) (hl : LA w lv [⟨2, [k]⟩, ⟨7, [M, S]⟩]) (hb : Below w3.heap.size w3 w) => made_any (p := p) 12 (refM c) _ _ pv lv w (by decide) hp hl (HT.out.on (up_trans HB3.out hb)) (by intro q hq; simp at hq; rcases hq with rfl | rfl <;> simp) trivial HRR.out
  rw [show doO 12 (madeO 12 (refM c) (List.map (fun (q : Int) => [(⟨2, [k]⟩ : Val), ⟨7, [M, S]⟩].getD q.toNat nilVal) [0, 1])) = doO 12 (moneyO ⟨2, [k]⟩ ⟨7, [M, S]⟩) from rfl] at HDA
  obtain ⟨o, ho⟩ : ∃ o, o = doO 12 (moneyO ⟨2, [k]⟩ ⟨7, [M, S]⟩) := ⟨_, rfl⟩
  rw [← ho] at HDA
  have Ho := hid ho
  have HO2 := hid (show ∀ x, o = some x → x.f.length = 2 from fun x hx => money_len (ho.symm.trans hx))
  clear ho
  have k0' : w3.cell? ⟨w2.heap.size, 0, none⟩ = some (.int .i64 7) := by rw [cell_of_row K3.out]; rfl
  have k1' : w3.cell? ⟨w2.heap.size, 1, none⟩ = some (.slice (some ⟨bd, od, none⟩) 2 capd) := by rw [cell_of_row K3.out]; rfl
  have hlt2 : w2.heap.size < w3.heap.size := (Array.getElem?_eq_some_iff.1 K3.out).1
  go_cut [9, 10] from 11 (fun v9 v10 wc => RM w3 o v9 v10 wc)
  case first =>
    refine wp_region_rel (n := 14) (E := fun i => i == 12) (by kernel_rfl) (by kernel_rfl) (fun us => ⟨#[.int .i64 c, .int .i64 m, .int .i64 s, undef, undef, undef, .bool false, .int .i64 k, .pointer (some ⟨w2.heap.size, 0, none⟩), us 13, undef, undef, undef, .bool true, .bool false, .int .i64 c, .int .i64 k, .int .i64 m, .int .i64 s, .agg #[.int .i64 7, .slice (some ⟨bd, od, none⟩) 2 capd], us 10, us 0, us 1, us 2, us 3, us 4, us 5, us 6, us 7, us 8, us 9, us 11, us 12, undef, undef, undef, undef, undef, undef, undef, undef, undef, undef, undef, undef, undef, undef, undef, undef, undef, undef, undef, undef, undef, undef, undef, undef, undef, undef, undef, undef, undef, undef, undef, undef, undef, undef, undef, undef, undef, undef, undef, undef, undef, undef, undef, undef, undef, undef, undef], []⟩) (Pm w3.heap.size k c (.agg #[.int .i64 7, .slice (some ⟨bd, od, none⟩) 2 capd]) ⟨7, [M, S]⟩ o) (Wm o) (fun w => Below w3.heap.size w3 w) (fun w w' => Below w.heap.size w w') (FnM w3 o) (fun _ => undef) (by rfl) ((Below.refl _ _).drew) (fun j v w w' h hp => Pm.on j v w w' h hp) Pm.weak (fun us w i v hE h => ?_) ?_ ?_ ?_ ?_
    case refine_1 =>
      obtain ⟨g, sv, e, h⟩ := h
      obtain rfl : i = 12 := by simpa using hE
      exact ⟨g, sv, by simpa [upd] using e, h⟩
    case refine_2 =>
      intro i hi us w hC hd
      rcases (by omega : i = 0 ∨ i = 1 ∨ i = 2 ∨ i = 3 ∨ i = 4 ∨ i = 5 ∨ i = 6 ∨ i = 7 ∨ i = 8 ∨ i = 9 ∨ i = 10 ∨ i = 11 ∨ i = 12 ∨ i = 13) with rfl | rfl | rfl | rfl | rfl | rfl | rfl | rfl | rfl | rfl | rfl | rfl | rfl | rfl
      ·
        refine wpOp_step rfl (fun K hK => ?_)
        rw [if_pos (by rfl)]
        go_simp
        exact hK _ _ ⟨_, rfl, ⟨_, rfl, IA.at [0, 1] (new_row _ _) (by simp)⟩, up_alloc _ _, up_trans hC (up_alloc _ _)⟩
      ·
        have h0 := hd _ rfl ⟨0, .data⟩ (by simp) rfl
        obtain ⟨g, e, h⟩ := h0
        refine wpOp_step rfl (fun K hK => ?_)
        rw [if_pos (by rfl)]
        rw [e]
        go_simp
        exact hK _ _ ⟨_, by simp [upd, e], ⟨g, rfl, by rw [← e]; exact h⟩, Below.refl _ _, hC⟩
      ·
        refine wpOp_step rfl (fun K hK => ?_)
        rw [if_pos (by rfl)]
        go_simp
        exact hK _ _ ⟨_, rfl, rfl, Below.refl _ _, hC⟩
      ·
        have h2 := hd _ rfl ⟨2, .data⟩ (by simp) rfl
        have e : us 2 = .int .i64 k := h2
        refine wpOp_step rfl (fun K hK => ?_)
        rw [if_pos (by rfl)]
        rw [e]
        go_simp
        exact hK _ _ ⟨_, by simp [upd, e], ⟨_, rfl, IA.at [k] (new_row _ _) (by simp)⟩, up_alloc _ _, up_trans hC (up_alloc _ _)⟩
      ·
        have h3 := hd _ rfl ⟨3, .data⟩ (by simp) rfl
        obtain ⟨g, e, h⟩ := h3
        refine wpOp_step rfl (fun K hK => ?_)
        rw [if_pos (by rfl)]
        rw [e]
        go_simp
        exact hK _ _ ⟨_, by simp [upd, e], ⟨g, rfl, by rw [← e]; exact h⟩, Below.refl _ _, hC⟩
      ·
        have a0 := (hC.cell (p := ⟨w2.heap.size, 0, none⟩) hlt2).trans k0'
        have a1 := (hC.cell (p := ⟨w2.heap.size, 1, none⟩) hlt2).trans k1'
        refine wpOp_step rfl (fun K hK => ?_)
        rw [if_pos (by rfl)]
        go_simp
        exact hK _ _ ⟨_, rfl, rfl, Below.refl _ _, hC⟩
      ·
        have h4 := hd _ rfl ⟨4, .data⟩ (by simp) rfl
        have h5 := hd _ rfl ⟨5, .data⟩ (by simp) rfl
        obtain ⟨g, e, h⟩ := h4
        have e5 : us 5 = (.agg #[.int .i64 7, .slice (some ⟨bd, od, none⟩) 2 capd]) := h5
        refine wpOp_step rfl (fun K hK => ?_)
        rw [if_pos (by rfl)]
        rw [e, e5]
        go_simp
        exact hK _ _ ⟨_, by simp [upd, e, e5], ⟨_, rfl, LA.two (new_row _ _) (h.on (up_alloc _ _)) ((HF3.out.on hC).on (up_alloc _ _))⟩, up_alloc _ _, up_trans hC (up_alloc _ _)⟩
      ·
        refine wpOp_step rfl (fun K hK => ?_)
        rw [if_pos (by rfl)]
        go_simp
        exact hK _ _ ⟨_, rfl, rfl, Below.refl _ _, hC⟩
      ·
        have h7 := hd _ rfl ⟨7, .data⟩ (by simp) rfl
        have e : us 7 = .int .i64 c := h7
        refine wpOp_step rfl (fun K hK => ?_)
        rw [if_pos (by rfl)]
        rw [e]
        go_simp
        go_at_call 10
        refine (HR.out _).mono ?_
        rintro e' w' ⟨rfl, hb⟩
        exact hK _ _ ⟨_, by simp [upd, e], rfl, hb, up_trans hC hb⟩
      ·
        have h1 := hd _ rfl ⟨1, .data⟩ (by simp) rfl
        have h6 := hd _ rfl ⟨6, .data⟩ (by simp) rfl
        have h8 := hd _ rfl ⟨8, .data⟩ (by simp) rfl
        obtain ⟨g1, e1, p1⟩ := h1
        obtain ⟨g6, e6, p6⟩ := h6
        have e8 : us 8 = momV (refM c) := h8
        refine wpOp_step rfl (fun K hK => ?_)
        rw [if_pos (by rfl)]
        rw [e1, e6, e8]
        go_simp
        go_at_call 11
        refine (HDA.out _ _ _ p1 (by rw [← e6]; exact p6) hC).mono ?_
        rintro e' w' ⟨hb, hr⟩
        cases o with
        | none =>
          obtain rfl : e' = .returned noneV := hr
          exact hK _ _ ⟨_, by simp [upd, e1, e6, e8], rfl, hb, up_trans hC hb⟩
        | some x =>
          obtain ⟨v, rfl, hv⟩ := hr
          exact hK _ _ ⟨_, by simp [upd, e1, e6, e8], ⟨v, rfl, hv.low hC.size⟩, hb, up_trans hC hb⟩
      ·
        have h9 := hd _ rfl ⟨9, .data⟩ (by simp) rfl
        refine wpOp_step rfl (fun K hK => ?_)
        rw [if_pos (by rfl)]
        go_simp
        exact hK _ _ ⟨_, rfl, h9, Below.refl _ _, hC⟩
      ·
        have h10 := hd _ rfl ⟨10, .data⟩ (by simp) rfl
        cases o with
        | none =>
          have e : us 10 = noneV := h10
          refine wpOp_step rfl (fun K hK => ?_)
          rw [if_pos (by rfl)]
          rw [e]
          unfold noneV
          go_simp
          exact hK _ _ ⟨_, by simp [upd, e, noneV], rfl, Below.refl _ _, hC⟩
        | some x =>
          obtain ⟨u, e, h⟩ := h10
          refine wpOp_step rfl (fun K hK => ?_)
          rw [if_pos (by rfl)]
          rw [e]
          go_simp
          exact hK _ _ ⟨_, by simp [upd, e], h, Below.refl _ _, hC⟩
      ·
        have h10 := hd _ rfl ⟨10, .data⟩ (by simp) rfl
        obtain ⟨u, e⟩ := Pm.weak 10 _ _ h10
        refine wpOp_step rfl (fun K hK => ?_)
        rw [if_pos (by rfl)]
        rw [e]
        go_simp
        exact hK _ _ ⟨_, by simp [upd, e], rfl, Below.refl _ _, hC⟩
      ·
        refine wpOp_step rfl (fun K hK => ?_)
        rw [if_pos (by rfl)]
        go_simp
        exact hK _ _ ⟨_, rfl, ⟨_, rfl, hC.size, new_row _ _⟩, up_alloc _ _, up_trans hC (up_alloc _ _)⟩
    case refine_3 =>
      intro us w hC hd
      obtain ⟨g, e, hg, hz⟩ := hd 13 (by decide) rfl
      have h11 := hd 11 (by decide) rfl
      have z0 : w.cell? ⟨g, 0, none⟩ = some (.int .i64 0) := by rw [cell_of_row hz]; rfl
      have z1 : w.cell? ⟨g, 1, none⟩ = some (.slice none 0 0) := by rw [cell_of_row hz]; rfl
      have zf : ∀ o, w.frozen? ⟨g, o, none⟩ = false := fun o => frozen_of_row hz
      cases o with
      | none =>
        have e11 : us 11 = .agg #[.int .i64 0, .slice none 0 0] := h11
        refine wpOp_step rfl (fun K hK => ?_)
        rw [if_pos (by rfl)]
        rw [e, e11]
        go_simp
        exact hK _ _ ⟨by simp [e, e11], g, _, e, (hC.setCell (p := ⟨g, 0, none⟩) hg _).setCell (p := ⟨g, 1, none⟩) hg _, heap_setCell_same _ _ 1 _ _ _ (heap_setCell_same _ _ 0 _ _ _ hz), IA.nil _⟩
      | some x =>
        obtain ⟨kx, fx⟩ := x
        obtain ⟨fv, e11, hf⟩ := (show NV _ w (us 11) ⟨kx, fx⟩ from h11)
        obtain ⟨x1, x2, rfl⟩ := len2 (HO2.out _ rfl)
        obtain ⟨bx, ox, cx, rfl, _, _, _⟩ := hf.ia.has2
        dsimp only at e11 hf
        refine wpOp_step rfl (fun K hK => ?_)
        rw [if_pos (by rfl)]
        rw [e, e11]
        go_simp
        exact hK _ _ ⟨by simp [e, e11], g, _, e, (hC.setCell (p := ⟨g, 0, none⟩) hg _).setCell (p := ⟨g, 1, none⟩) hg _, heap_setCell_same _ _ 1 _ _ _ (heap_setCell_same _ _ 0 _ _ _ hz), ia_set hf hz⟩
    case refine_4 =>
      intro i hi hE us w hd
      obtain rfl : i = 12 := by simpa using hE
      have h10 := hd _ rfl ⟨10, .data⟩ (by simp) rfl
      obtain ⟨u, e⟩ := h10
      refine wpOp_step rfl (fun K hK => ?_)
      rw [if_pos (by rfl)]
      rw [e]
      go_simp
      exact hK _ _ ⟨_, by simp [upd, e], rfl, rfl⟩
    case refine_5 =>
      intro us w hF hd
      have e12 : us 12 = .bool o.isSome := hd 12 (by decide)
      obtain ⟨g, sv, e, h⟩ := hF
      skip
      go_wp2_with fail
      go_meet
      case rel => exact ⟨g, sv, rfl, rfl, h⟩
  case rest =>
    obtain ⟨wP, rfl⟩ : ∃ wP, wP = wc := ⟨_, rfl⟩
    obtain ⟨g9, sv9, rfl, rfl, hb9, hrow9, hia9⟩ := hcut
    have HB9 := hid hb9
    have HR9 := hid hrow9
    have HI9 := hid hia9
    have k0' := (hb9.cell (p := ⟨w2.heap.size, 0, none⟩) hlt2).trans k0'
    have k1' := (hb9.cell (p := ⟨w2.heap.size, 1, none⟩) hlt2).trans k1'
    have hlt2 : w2.heap.size < wP.heap.size := Nat.lt_of_lt_of_le hlt2 hb9.size
    have HF3 := hid (HF3.out.on hb9)
    have HBP := hid (up_trans HB3.out hb9)
    clear hb9 hrow9 hia9 HDA
    have HDB := hid fun (w : World) (pv lv : Value) (hp : IA w pv [0, 1]) (hl : LA w lv [⟨2, [k]⟩, ⟨7, [M, S]⟩]) (_ : Below wP.heap.size wP w) => rDo_any 12 (refM c) _ _ pv lv _ w (by decide) hp hl (by intro q hq; simp at hq; rcases hq with rfl | rfl <;> simp) (by decide) (by decide) (fun g n cap w' hl' _ => rmade_12 ⟨2, [k]⟩ ⟨7, [M, S]⟩ (refM c) g n cap w' hl')
    rw [← Ho.out] at HDB
    go_wp2
    go_cut [11, 12] from 13 (fun v11 v12 wc => RM wP o v11 v12 wc)
    case first =>
      refine wp_region_rel (n := 14) (E := fun i => i == 12) (by kernel_rfl) (by kernel_rfl) (fun us => ⟨#[.int .i64 c, .int .i64 m, .int .i64 s, undef, undef, undef, .bool false, .int .i64 k, .pointer (some ⟨w2.heap.size, 0, none⟩), .pointer (some ⟨g9, 0, none⟩), .bool o.isSome, us 13, u12, u13, u14, u15, u16, u17, u18, u19, u20, u21, u22, u23, u24, u25, u26, u27, u28, u29, u30, u31, u32, us 10, us 0, us 1, us 2, us 3, us 4, us 5, us 6, us 7, us 8, us 9, us 11, us 12, u46, u47, u48, u49, u50, u51, u52, u53, u54, u55, u56, u57, u58, u59, u60, u61, u62, u63, u64, u65, u66, u67, u68, u69, u70, u71, u72, u73, u74, u75, u76, u77, u78, u79], []⟩) (Pm wP.heap.size k c (.agg #[.int .i64 7, .slice (some ⟨bd, od, none⟩) 2 capd]) ⟨7, [M, S]⟩ o) (Wm o) (fun w => Below wP.heap.size wP w) (fun w w' => Below w.heap.size w w') (FnM wP o) (fun i => (#[u34, u35, u36, u37, u38, u39, u40, u41, u42, u43, u33, u44, u45, u11] : Array Value).getD i undef) (by rfl) ((Below.refl _ _).drew) (fun j v w w' h hp => Pm.on j v w w' h hp) Pm.weak (fun us w i v hE h => ?_) ?_ ?_ ?_ ?_
      case refine_1 =>
        obtain ⟨g, sv, e, h⟩ := h
        obtain rfl : i = 12 := by simpa using hE
        exact ⟨g, sv, by simpa [upd] using e, h⟩
      case refine_2 =>
        intro i hi us w hC hd
        rcases (by omega : i = 0 ∨ i = 1 ∨ i = 2 ∨ i = 3 ∨ i = 4 ∨ i = 5 ∨ i = 6 ∨ i = 7 ∨ i = 8 ∨ i = 9 ∨ i = 10 ∨ i = 11 ∨ i = 12 ∨ i = 13) with rfl | rfl | rfl | rfl | rfl | rfl | rfl | rfl | rfl | rfl | rfl | rfl | rfl | rfl
        ·
          refine wpOp_step rfl (fun K hK => ?_)
          rw [if_pos (by rfl)]
          go_simp
          exact hK _ _ ⟨_, rfl, ⟨_, rfl, IA.at [0, 1] (new_row _ _) (by simp)⟩, up_alloc _ _, up_trans hC (up_alloc _ _)⟩
        ·
          have h0 := hd _ rfl ⟨0, .data⟩ (by simp) rfl
          obtain ⟨g, e, h⟩ := h0
          refine wpOp_step rfl (fun K hK => ?_)
          rw [if_pos (by rfl)]
          rw [e]
          go_simp
          exact hK _ _ ⟨_, by simp [upd, e], ⟨g, rfl, by rw [← e]; exact h⟩, Below.refl _ _, hC⟩
        ·
          refine wpOp_step rfl (fun K hK => ?_)
          rw [if_pos (by rfl)]
          go_simp
          exact hK _ _ ⟨_, rfl, rfl, Below.refl _ _, hC⟩
        ·
          have h2 := hd _ rfl ⟨2, .data⟩ (by simp) rfl
          have e : us 2 = .int .i64 k := h2
          refine wpOp_step rfl (fun K hK => ?_)
          rw [if_pos (by rfl)]
          rw [e]
          go_simp
          exact hK _ _ ⟨_, by simp [upd, e], ⟨_, rfl, IA.at [k] (new_row _ _) (by simp)⟩, up_alloc _ _, up_trans hC (up_alloc _ _)⟩
        ·
          have h3 := hd _ rfl ⟨3, .data⟩ (by simp) rfl
          obtain ⟨g, e, h⟩ := h3
          refine wpOp_step rfl (fun K hK => ?_)
          rw [if_pos (by rfl)]
          rw [e]
          go_simp
          exact hK _ _ ⟨_, by simp [upd, e], ⟨g, rfl, by rw [← e]; exact h⟩, Below.refl _ _, hC⟩
        ·
          have a0 := (hC.cell (p := ⟨w2.heap.size, 0, none⟩) hlt2).trans k0'
          have a1 := (hC.cell (p := ⟨w2.heap.size, 1, none⟩) hlt2).trans k1'
          refine wpOp_step rfl (fun K hK => ?_)
          rw [if_pos (by rfl)]
          go_simp
          exact hK _ _ ⟨_, rfl, rfl, Below.refl _ _, hC⟩
        ·
          have h4 := hd _ rfl ⟨4, .data⟩ (by simp) rfl
          have h5 := hd _ rfl ⟨5, .data⟩ (by simp) rfl
          obtain ⟨g, e, h⟩ := h4
          have e5 : us 5 = (.agg #[.int .i64 7, .slice (some ⟨bd, od, none⟩) 2 capd]) := h5
          refine wpOp_step rfl (fun K hK => ?_)
          rw [if_pos (by rfl)]
          rw [e, e5]
          go_simp
          exact hK _ _ ⟨_, by simp [upd, e, e5], ⟨_, rfl, LA.two (new_row _ _) (h.on (up_alloc _ _)) ((HF3.out.on hC).on (up_alloc _ _))⟩, up_alloc _ _, up_trans hC (up_alloc _ _)⟩
        ·
          refine wpOp_step rfl (fun K hK => ?_)
          rw [if_pos (by rfl)]
          go_simp
          exact hK _ _ ⟨_, rfl, rfl, Below.refl _ _, hC⟩
        ·
          have h7 := hd _ rfl ⟨7, .data⟩ (by simp) rfl
          have e : us 7 = .int .i64 c := h7
          refine wpOp_step rfl (fun K hK => ?_)
          rw [if_pos (by rfl)]
          rw [e]
          go_simp
          go_at_call 10
          refine (HR.out _).mono ?_
          rintro e' w' ⟨rfl, hb⟩
          exact hK _ _ ⟨_, by simp [upd, e], rfl, hb, up_trans hC hb⟩
        ·
          have h1 := hd _ rfl ⟨1, .data⟩ (by simp) rfl
          have h6 := hd _ rfl ⟨6, .data⟩ (by simp) rfl
          have h8 := hd _ rfl ⟨8, .data⟩ (by simp) rfl
          obtain ⟨g1, e1, p1⟩ := h1
          obtain ⟨g6, e6, p6⟩ := h6
          have e8 : us 8 = momV (refM c) := h8
          refine wpOp_step rfl (fun K hK => ?_)
          rw [if_pos (by rfl)]
          rw [e1, e6, e8]
          go_simp
          go_at_call 12
          refine (HDB.out _ _ _ p1 (by rw [← e6]; exact p6) hC).mono ?_
          rintro e' w' ⟨hb, hr⟩
          cases o with
          | none =>
            obtain rfl : e' = .returned noneV := hr
            exact hK _ _ ⟨_, by simp [upd, e1, e6, e8], rfl, hb, up_trans hC hb⟩
          | some x =>
            obtain ⟨v, rfl, hv⟩ := hr
            exact hK _ _ ⟨_, by simp [upd, e1, e6, e8], ⟨v, rfl, hv.low hC.size⟩, hb, up_trans hC hb⟩
        ·
          have h9 := hd _ rfl ⟨9, .data⟩ (by simp) rfl
          refine wpOp_step rfl (fun K hK => ?_)
          rw [if_pos (by rfl)]
          go_simp
          exact hK _ _ ⟨_, rfl, h9, Below.refl _ _, hC⟩
        ·
          have h10 := hd _ rfl ⟨10, .data⟩ (by simp) rfl
          cases o with
          | none =>
            have e : us 10 = noneV := h10
            refine wpOp_step rfl (fun K hK => ?_)
            rw [if_pos (by rfl)]
            rw [e]
            unfold noneV
            go_simp
            exact hK _ _ ⟨_, by simp [upd, e, noneV], rfl, Below.refl _ _, hC⟩
          | some x =>
            obtain ⟨u, e, h⟩ := h10
            refine wpOp_step rfl (fun K hK => ?_)
            rw [if_pos (by rfl)]
            rw [e]
            go_simp
            exact hK _ _ ⟨_, by simp [upd, e], h, Below.refl _ _, hC⟩
        ·
          have h10 := hd _ rfl ⟨10, .data⟩ (by simp) rfl
          obtain ⟨u, e⟩ := Pm.weak 10 _ _ h10
          refine wpOp_step rfl (fun K hK => ?_)
          rw [if_pos (by rfl)]
          rw [e]
          go_simp
          exact hK _ _ ⟨_, by simp [upd, e], rfl, Below.refl _ _, hC⟩
        ·
          refine wpOp_step rfl (fun K hK => ?_)
          rw [if_pos (by rfl)]
          go_simp
          exact hK _ _ ⟨_, rfl, ⟨_, rfl, hC.size, new_row _ _⟩, up_alloc _ _, up_trans hC (up_alloc _ _)⟩
      case refine_3 =>
        intro us w hC hd
        obtain ⟨g, e, hg, hz⟩ := hd 13 (by decide) rfl
        have h11 := hd 11 (by decide) rfl
        have z0 : w.cell? ⟨g, 0, none⟩ = some (.int .i64 0) := by rw [cell_of_row hz]; rfl
        have z1 : w.cell? ⟨g, 1, none⟩ = some (.slice none 0 0) := by rw [cell_of_row hz]; rfl
        have zf : ∀ o, w.frozen? ⟨g, o, none⟩ = false := fun o => frozen_of_row hz
        cases o with
        | none =>
          have e11 : us 11 = .agg #[.int .i64 0, .slice none 0 0] := h11
          refine wpOp_step rfl (fun K hK => ?_)
          rw [if_pos (by rfl)]
          rw [e, e11]
          go_simp
          exact hK _ _ ⟨by simp [e, e11], g, _, e, (hC.setCell (p := ⟨g, 0, none⟩) hg _).setCell (p := ⟨g, 1, none⟩) hg _, heap_setCell_same _ _ 1 _ _ _ (heap_setCell_same _ _ 0 _ _ _ hz), IA.nil _⟩
        | some x =>
          obtain ⟨kx, fx⟩ := x
          obtain ⟨fv, e11, hf⟩ := (show NV _ w (us 11) ⟨kx, fx⟩ from h11)
          obtain ⟨x1, x2, rfl⟩ := len2 (HO2.out _ rfl)
          obtain ⟨bx, ox, cx, rfl, _, _, _⟩ := hf.ia.has2
          dsimp only at e11 hf
          refine wpOp_step rfl (fun K hK => ?_)
          rw [if_pos (by rfl)]
          rw [e, e11]
          go_simp
          exact hK _ _ ⟨by simp [e, e11], g, _, e, (hC.setCell (p := ⟨g, 0, none⟩) hg _).setCell (p := ⟨g, 1, none⟩) hg _, heap_setCell_same _ _ 1 _ _ _ (heap_setCell_same _ _ 0 _ _ _ hz), ia_set hf hz⟩
      case refine_4 =>
        intro i hi hE us w hd
        obtain rfl : i = 12 := by simpa using hE
        have h10 := hd _ rfl ⟨10, .data⟩ (by simp) rfl
        obtain ⟨u, e⟩ := h10
        refine wpOp_step rfl (fun K hK => ?_)
        rw [if_pos (by rfl)]
        rw [e]
        go_simp
        exact hK _ _ ⟨_, by simp [upd, e], rfl, rfl⟩
      case refine_5 =>
        intro us w hF hd
        have e12 : us 12 = .bool o.isSome := hd 12 (by decide)
        obtain ⟨g, sv, e, h⟩ := hF
        skip
        go_wp2_with fail
        go_meet
        case rel => exact ⟨g, sv, rfl, rfl, h⟩
    case rest =>
      obtain ⟨wQ, rfl⟩ : ∃ wQ, wQ = wc := ⟨_, rfl⟩
      obtain ⟨g11, sv11, rfl, rfl, hb11, hrow11, hia11⟩ := hcut
      have HBQ := hid (up_trans HBP.out hb11)
      have HR11 := hid hrow11
      have HI11 := hid hia11
      have HR9 := hid (row_on hb11 HR9.out)
      have HI9 := hid (HI9.out.on hb11)
      have k0' := (hb11.cell (p := ⟨w2.heap.size, 0, none⟩) hlt2).trans k0'
      have k1' := (hb11.cell (p := ⟨w2.heap.size, 1, none⟩) hlt2).trans k1'
      have hlt2 : w2.heap.size < wQ.heap.size := Nat.lt_of_lt_of_le hlt2 hb11.size
      have HF3 := hid (HF3.out.on hb11)
      clear hb11 hrow11 hia11 HDB HB9 HBP HR HRR HB1 HB2 HB3 K3
      have a0 : wQ.cell? ⟨g9, 0, none⟩ = some (.int .i64 (o.getD nilVal).kind) := by rw [cell_of_row HR9.out]; rfl
      have a1 : wQ.cell? ⟨g9, 1, none⟩ = some sv9 := by rw [cell_of_row HR9.out]; rfl
      have c0 : wQ.cell? ⟨g11, 0, none⟩ = some (.int .i64 (o.getD nilVal).kind) := by rw [cell_of_row HR11.out]; rfl
      have c1 : wQ.cell? ⟨g11, 1, none⟩ = some sv11 := by rw [cell_of_row HR11.out]; rfl
      have HC := hid (rcmp_any (o.getD nilVal) (o.getD nilVal) (.agg #[.int .i64 (o.getD nilVal).kind, sv9]) (.agg #[.int .i64 (o.getD nilVal).kind, sv11]) wQ ⟨_, rfl, HI9.out⟩ ⟨_, rfl, HI11.out⟩)
      rw [cmpV_self] at HC
      obtain ⟨ad9, cp9, e9, _⟩ := HI9.out.shape
      obtain ⟨ad11, cp11, e11, _⟩ := HI11.out.shape
      subst e9 e11
      have HMS := hid (show ∀ x, o = some x → ∃ n, x = ⟨8, [k, n]⟩ ∧ S ≤ k % 10 from fun x hx => money_some k0 HDR.out (Ho.out.symm.trans hx))
      clear HR11 HI11 HO2 Ho
      cases o with
      | none =>
        dsimp only [Option.getD, Option.isSome, nilVal] at *
        go_wp2_with fail
        refine HC.out.mono ?_
        rintro e w7 ⟨rfl, hb7⟩
        have HB7 := hid (up_trans HBQ.out hb7)
        clear hb7
        go_wp2
        go_ret
        exact ⟨rfl, HB7.out⟩
      | some x =>
        obtain ⟨n, rfl, hS⟩ := HMS.out x rfl
        dsimp only [Option.getD, Option.isSome] at *
        go_wp2_with fail
        refine HC.out.mono ?_
        rintro e w7 ⟨rfl, hb7⟩
        have HB7 := hid (up_trans HBQ.out hb7)
        have k1'' := (hb7.cell (p := ⟨w2.heap.size, 1, none⟩) hlt2).trans k1'
        have HF7 := hid (HF3.out.on hb7)
        have HI7 := hid (HI9.out.on hb7)
        have t0 := HF7.out.cell1
        have a1'' := (hb7.cell (p := ⟨g9, 1, none⟩) (lt_of_cell a1)).trans a1
        obtain ⟨bb, oo, cc, e, _, _, _⟩ := HI7.out.has2
        injection e with e1 e2 e3
        subst e1 e3
        have t1 := HI7.out.cell0
        have hkm : k.tmod 10 = k % 10 := Int.tmod_eq_emod_of_nonneg k0
        have hS2 : decide (S ≤ k % 10) = true := decide_eq_true hS
        clear hb7 a0 a1 c0 c1 k0' k1' HC
        go_wp2
        go_ret
        exact ⟨rfl, HB7.out⟩

theorem own : ownKnob Tryz.prog.godebug = none := by kernel_rfl

theorem table {W : World} (h : laidMetH Tryz.prog Rows.actMoneyRow.laid W) : TabsE W := by
  rw [MakeChecks.laidMetH_plain _ _ _ (by kernel_rfl)] at h
  exact tabs_of_laid h

set_option maxRecDepth 100000 in
theorem lifted (os : Os) (started : os.Started) (H : Type) (enc : TypeId × Value → H) :
    ReturnsInHanded {} Tryz.checked os 5 .any (fun w args => (Rows.actMoneySpec.pre enc Tryz.prog Tryz.f5 Rows.actMoneyRow.domain false w args ∧ laidMetH Tryz.prog Rows.actMoneyRow.laid w) ∧ sizedMet enc Tryz.prog Tryz.f5 (OpenSpec.ofChange Rows.actMoneySpec) false w args)
      (Rows.actMoneySpec.post enc Tryz.prog Tryz.f5 false true false false) := by
  refine returnsInHanded_of_change_and (C := Tryz.checked) (X := fun w _ => laidMetH Tryz.prog Rows.actMoneyRow.laid w) (fun _ _ _ hh h => h.of_heap hh) own started (by kernel_rfl) Tryz.func5
    (ChangeSpec.witness_shaped (enc := enc) (C := Tryz.checked) (os := os) (X := fun w _ => laidMetH Tryz.prog Rows.actMoneyRow.laid w) false (World.laidAll Tryz.prog os Rows.actMoneyRow.laid) #[.int .i64 0, .int .i64 0, .int .i64 0] 8 (World.laidAll_os _ _ _)
      (World.shaped_of_ZipB (by kernel_rfl) (by kernel_rfl)) (by kernel_rfl) (by kernel_rfl) (by kernel_rfl)
      (by rw [MakeChecks.laidMetH_plain _ _ _ (by kernel_rfl)]; exact laidMet_laidAll _ (by kernel_rfl) (by kernel_rfl))) ?_
  intro W base args ds gs before hval0 hW _ _ hL _
  have hval : ∀ (j : Nat) t v, Tryz.f5.params[j]? = some t → args[j]? = some v → Value.okWide Tryz.prog W .any base t v := hval0
  have hW' := hW
  obtain ⟨p, q, hA0, hV, rfl, hfz, hnd⟩ := hW
  have hA : DataW.TrodAll enc Tryz.prog W 0 (fun _ => true) true Tryz.f5.params.toList args.toList ds p := hA0
  rw [Tryz.params5] at hA hval
  obtain ⟨v0, vs0, d0, ds0, p0, q0, hargs, rfl, rfl, h0, r0⟩ := trodAll_cons hA
  obtain ⟨v1, vs1, d1, ds1, p1, q1, rfl, rfl, rfl, h1, r1⟩ := trodAll_cons r0
  obtain ⟨v2, vs2, d2, ds2, p2, q2, rfl, rfl, rfl, h2, r2⟩ := trodAll_cons r1
  obtain ⟨rfl, rfl, rfl⟩ := trodAll_nil r2
  obtain rfl : args = #[v0, v1, v2] := by cases args; simp_all
  obtain ⟨rfl, rfl⟩ := trodVars_none hV
  obtain ⟨a0, rfl, rfl, rfl, w0⟩ := open_int Tryz.underlying3 (hval 0 3 v0 rfl rfl) h0
  obtain ⟨a1, rfl, rfl, rfl, w1⟩ := open_int Tryz.underlying3 (hval 1 3 v1 rfl rfl) h1
  obtain ⟨a2, rfl, rfl, rfl, w2⟩ := open_int Tryz.underlying3 (hval 2 3 v2 rfl rfl) h2
  clear hA0 hval0
  refine (walk a0 a1 a2 W w0 w1 w2 (table hL)).mono fun e W' ⟨he, bel⟩ => ?_
  subst he
  exact ⟨_, rfl, _, _, _, [], _, [], hW', trodAll_mk1 (shut_bool Tryz.underlying4 _), (trodAll_cons_mk (shut_int Tryz.underlying3 w0) (trodAll_cons_mk (shut_int Tryz.underlying3 w1) (trodAll_cons_mk (shut_int Tryz.underlying3 w2) trodAll_mk0))), rfl, bel.frame _, fun h => by cases h⟩

theorem row_holds : Rows.ActMoneySaid :=
  OpenClaim.holds_of_wide 5 Tryz.f5 rfl rfl rfl rfl rfl rfl rfl ⟨rfl, rfl, rfl, rfl, rfl⟩ rfl rfl rfl rfl rfl (by kernel_rfl) Tryz.func5 (by kernel_rfl)
    (of_decide_eq_true (by kernel_rfl)) (by unfold Func.isWrapper; first | (rw [if_pos (by decide +kernel)]; kernel_rfl) | (rw [if_neg (by decide +kernel)]; exact ⟨rfl, rfl⟩))
    (fun os started H enc _ => lifted os started H enc)

theorem actMoney_holds : Rows.ActMoneyCardSaid :=
  Claim7.holds_tied_plain_at .later [] _ _ _ _ row_holds (fun _ h => by cases h) (by kernel_rfl) (fun _ h => by cases h) actMoney_row_tie rfl ⟨rfl, rfl⟩ (by kernel_rfl) rfl
    (fun f fn hf hfn => by
      obtain rfl : f = 5 := Option.some.inj ((show Tryz.prog.funcNamed "interlocutor/interlocutorlaw8.ActMoney" = some 5 by kernel_rfl).symm.trans hf) |>.symm
      obtain rfl : fn = Tryz.f5 := (Option.some.inj (Tryz.func5.symm.trans hfn)).symm
      exact ⟨by kernel_rfl, fun j t ht => by
        rw [Tryz.params5] at ht
        have hm : t ∈ [3, 3, 3] := by simpa using Array.mem_of_getElem? ht
        have hall : ([3, 3, 3].all fun u => !Tryz.prog.wantsStandIn u) = true := by kernel_rfl
        exact (show Tryz.prog.wantsStandIn t = false by simpa using List.all_eq_true.1 hall t hm)⟩)
    (by kernel_rfl)

end Go.Proofs.YtengcdodoblabaaGreatDoor
