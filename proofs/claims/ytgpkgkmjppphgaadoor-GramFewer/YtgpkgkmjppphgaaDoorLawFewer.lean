/- GramFewer answers true of every input: with a rule taken out rules that were right are; no more is reached. The table of places reads as the program's text lays it. -/
import Derived.Test.YtgpkgkmjppphgaaDoorCards
import Derived.Test.YtgpkgkmjppphgaaDoorTie
import Derived.Test.YtgpkgkmjppphgaaDoorTable
import Derived.Test.YtgpkgkmjppphgaaDoorLRules
import Derived.ProofKit
import Derived.OpenShut
import Derived.Lay
import Derived.SevenTiedAt
import Derived.Stop.Joined
import Derived.Lib.LaidTab
namespace Go.Proofs.YtgpkgkmjppphgaaDoor
open Go.ChangeShapes Go.WideShapes Go.ChangeAt Go.RowKit


theorem symL_le {s t : Nat → Bool} (h : ∀ k, k < 20 → s k = true → t k = true) : (symL s).length ≤ (symL t).length := by
  unfold symL
  rw [List.length_map, List.length_map, ← List.countP_eq_length_filter, ← List.countP_eq_length_filter]
  exact List.countP_mono_left (fun x hx hs => h x (by simpa using hx) hs)
theorem check_sub {rs qs : List Rule} (h : check rs = true) (hm : ∀ r, r ∈ qs → r ∈ rs) (hl : qs.length ≤ rs.length) : check qs = true := by
  have hr := check_right h
  simp only [check_eq, Bool.and_eq_true, decide_eq_true_eq] at h ⊢
  refine ⟨by omega, List.all_eq_true.2 (fun r hq => List.all_eq_true.1 hr r (hm r hq)), fun i hi => h.2.2 i (hi.mono (fun x y e => edge_mem hm x y e))⟩
theorem reached_sub {rs qs : List Rule} (hr : rs.all right = true) (hq : qs.all right = true) (hm : ∀ r, r ∈ qs → r ∈ rs) : (reachedL qs).length ≤ (reachedL rs).length := symL_le (fun k _ hk => by
  rcases (reachedS_iff hq).1 hk with e | e
  · exact (reachedS_iff hr).2 (.inl e)
  · exact (reachedS_iff hr).2 (.inr (e.mono (fun x y e => edge_mem hm x y e))))
def lessOne (rs : List Rule) (k : Nat) : List Rule := [] ++ rs.take k ++ rs.drop (k + 1)
theorem lessOne_mem (rs : List Rule) (k : Nat) : ∀ r, r ∈ lessOne rs k → r ∈ rs := fun r h => by
  simp only [lessOne, List.nil_append, List.mem_append] at h
  rcases h with h | h
  · exact List.mem_of_mem_take h
  · exact List.mem_of_mem_drop h
theorem lessOne_length (rs : List Rule) (k : Nat) : (lessOne rs k).length ≤ rs.length := by simp [lessOne]; omega
theorem rules_take {w : World} {g cap : Nat} {rs : List Rule} (h : RulesAt w (.slice (some ⟨g, 0, none⟩) rs.length cap) rs) (k c : Nat) (hk : k ≤ rs.length) : RulesAt w (.slice (some ⟨g, 0, none⟩) k c) (rs.take k) := by
  obtain ⟨ad, cap', e, hl, hc⟩ := h
  simp only [Value.slice.injEq, true_and] at e
  obtain ⟨rfl, rfl⟩ := e
  have hlen : (rs.take k).length = k := by simp; omega
  refine ⟨_, c, by rw [hlen], by omega, fun j hj => ?_⟩
  rw [hlen] at hj
  obtain ⟨g', o', e, h4⟩ := hc j (by omega)
  refine ⟨g', o', e, ?_⟩
  have : (rs.take k).getD j nilRule = rs.getD j nilRule := by simp [List.getD_eq_getElem?_getD, hj]
  rw [this]; exact h4
theorem rules_drop {w : World} {g cap : Nat} {rs : List Rule} (h : RulesAt w (.slice (some ⟨g, 0, none⟩) rs.length cap) rs) (k o m c : Nat) (hk : k ≤ rs.length) (hm : m = rs.length - k) (ho : o = k * 5 ∨ m = 0) : RulesAt w (.slice (some ⟨g, o, none⟩) m c) (rs.drop k) := by
  obtain ⟨ad, cap', e, hl, hc⟩ := h
  simp only [Value.slice.injEq, true_and] at e
  obtain ⟨rfl, rfl⟩ := e
  have hlen : (rs.drop k).length = m := by simp; omega
  refine ⟨_, c, by rw [hlen], by omega, fun j hj => ⟨_, _, rfl, ?_⟩⟩
  rw [hlen] at hj
  obtain ⟨g', o', e, h4⟩ := hc (k + j) (by omega)
  simp only [Option.some.injEq, Addr.mk.injEq, and_true] at e
  obtain ⟨rfl, rfl⟩ := e
  have : (rs.drop k).getD j nilRule = rs.getD (k + j) nilRule := by simp [List.getD_eq_getElem?_getD]
  rw [this]
  rcases ho with rfl | h0
  · rw [show k * 5 + j * 5 = 0 + (k + j) * 5 by omega]; exact h4
  · omega

set_option maxRecDepth 4000 in
set_option maxHeartbeats 20000000 in
theorem walk (v0 : Value) (l : List Raw) (a1 a2 : Int) (W : World) (hl0 : RawsAt W v0 l) (_ : (Lit.int .i64 a1).wf = true) (_ : (Lit.int .i64 a2).wf = true) (hT : Tab W) : Calls Tryd.prog 9 #[v0, .int .i64 a1, .int .i64 a2] W fun e W' => e = .returned (.bool true) ∧ Below W.heap.size W W' := by
  have HK := hid (known_any W hT)
  have HT := hid hT
  have HL0 := hid hl0
  have HW := hid (fun a n w h h' => lwithin_any a n w h h')
  have hsym : 1 ≤ 1 + a1 % 20 ∧ 1 + a1 % 20 ≤ 20 := by omega
  obtain ⟨ad, cap, hv0, hmx, -⟩ := hl0
  subst hv0
  unfold maxLen at hmx
  clear hT
  cases hf : few l with
  | false =>
    have HF := hid (fun w1 (bel : Below W.heap.size W w1) => few_any l _ w1 (HL0.out.on bel))
    rw [hf] at HF
    clear hf
    go_enter Tryd.func9, Tryd.ntmps9
    go_wp2_with fail
    refine HK.out.mono ?_
    rintro e w1 ⟨rfl, bel⟩
    have HL1 := hid bel
    clear bel HK
    go_wp2_with fail
    refine (HF.out w1 HL1.out).mono ?_
    rintro e w2 ⟨rfl, rfl⟩
    go_wp2
    go_ret
    exact ⟨rfl, HL1.out⟩
  | true =>
    have HF := hid (fun w1 (bel : Below W.heap.size W w1) => few_any l _ w1 (HL0.out.on bel))
    rw [hf] at HF
    clear hf
    have HRL := hid (fun w1 (h : RawsAt w1 (.slice ad l.length cap) l) => lrules_any l _ (1 + a1 % 20) hsym w1 h)
    have HCK := hid (lrules_check l (1 + a1 % 20))
    have HRR := hid (lrules_right l (1 + a1 % 20))
    have hr20 := lrules_length l (1 + a1 % 20)
    generalize lrules l (1 + a1 % 20) = rs at *
    generalize l.length = n at *
    go_enter Tryd.func9, Tryd.ntmps9
    go_wp2_with fail
    refine HK.out.mono ?_
    rintro e w1 ⟨rfl, bel⟩
    have HL1 := hid bel
    clear bel HK
    go_wp2_with fail
    refine (HF.out w1 HL1.out).mono ?_
    rintro e w2 ⟨rfl, hw2⟩
    obtain rfl := hw2.symm
    clear hw2
    go_wp2_with fail
    refine (HW.out a1 20 w1 (by decide) (by decide)).mono ?_
    rintro e w2 ⟨rfl, hw2⟩
    obtain rfl := hw2.symm
    clear hw2
    go_wp2_with fail
    refine (HRL.out w1 (HL0.out.on HL1.out)).mono ?_
    rintro e w3 ⟨u, rfl, hu, bel⟩
    have HL3 := hid (up_trans HL1.out bel)
    have HR3 := hid (hu.rules (by omega))
    have HRN := hid hu
    have HNC := hid hu.none_cap
    have HOW := hid (fun k e => Nat.le_trans HL1.out.size (hu.own k e).1)
    obtain ⟨ad3, cap3, eu⟩ := hu.shape
    generalize hq : rs.length = q at *
    have HQ := hid hq
    subst eu
    clear bel hq
    by_cases h0 : q = 0
    · subst h0
      go_wp2_with fail
      refine (check_any rs _ w3 HR3.out (HT.out.on HL3.out)).mono ?_
      rintro e w4 ⟨rfl, bel⟩
      rw [HCK.out]
      have HL4 := hid (up_trans HL3.out bel)
      clear bel
      go_wp2
      go_ret
      exact ⟨rfl, HL4.out⟩
    · have g0 : ((q : Int) == 0) = false := by simp; omega
      have hq0 : 0 < q := by omega
      clear h0
      obtain ⟨k, hk⟩ : ∃ k : Nat, a2 % (q : Int) = (k : Int) := ⟨(a2 % (q : Int)).toNat, by have := Int.emod_nonneg a2 (show (q : Int) ≠ 0 by omega); omega⟩
      have hkq : k < q := by have := Int.emod_lt_of_pos a2 (show 0 < (q : Int) by omega); omega
      have HW2 := hid (fun w => lwithin_any a2 (q : Int) w (by omega) (by omega))
      rw [hk] at HW2
      clear hk
      have hform : ∃ g, ad3 = some ⟨g, 0, none⟩ ∧ q ≤ cap3 := by
        obtain ⟨cs, ⟨_, ⟨e, h0'⟩ | ⟨g, cap', cur, e, _, _, hnc, _⟩⟩, _⟩ := HRN.out
        · simp at e; omega
        · simp at e; rw [HQ.out] at hnc; exact ⟨g, e.1, by omega⟩
      obtain ⟨g, rfl, hcap⟩ := hform
      have HBIG : Hid (check (lessOne rs k) = true ∧ (reachedL (lessOne rs k)).length ≤ (reachedL rs).length ∧ (lessOne rs k).all right = true) := hid (by
        have h1 := check_sub HCK.out (lessOne_mem rs k) (lessOne_length rs k)
        exact ⟨h1, reached_sub (check_right HCK.out) (check_right h1) (lessOne_mem rs k), check_right h1⟩)
      have HTK := hid (rules_take (rs := rs) (k := k) (c := cap3) (by rw [HQ.out]; exact HR3.out) (by have := HQ.out; omega))
      have HLT1 : Hid (([] : List Rule).length + (rs.take k).length ≤ 1000000) := hid (by have := HQ.out; simp; omega)
      have HLT2 : Hid (([] ++ rs.take k).length + (rs.drop (k + 1)).length ≤ 1000000) := hid (by have := HQ.out; simp; omega)
      have k1 : k ≤ cap3 := by omega
      have k2 : k + 1 ≤ cap3 := by omega
      have k3 : k + 1 ≤ q := by omega
      have k4 : (k : Int) + 1 ≤ (q : Int) := by omega
      have hwrap : IntKind.i64.wrap ((k : Int) + 1) = ((k + 1 : Nat) : Int) := by rw [IntKind.wrap_i64]; omega
      have k5 : (0 : Int) ≤ (k : Int) + 1 := by omega
      have k6 : (k : Int) ≤ (k : Int) + 1 := by omega
      by_cases hck : cap3 = k + 1
      · subst hck
        have HDR := hid (rules_drop (rs := rs) (k := k + 1) (o := 0) (m := 0) (c := 0) (by rw [HQ.out]; exact HR3.out) (by have := HQ.out; omega) (by have := HQ.out; omega) (.inr rfl))
        have hqk : q - (k + 1) = 0 := by omega
        go_wp2_with (go_at_call 17; refine (HW2.out _).mono ?_; rintro e w4 ⟨rfl, hw4⟩; obtain rfl := hw4.symm; clear hw4)
        go_region_law (first
          | (refine step_append_rules w3 _ ((up_alloc w3 (.cells #[] 26)).drew) rfl (.tmp 29) (.tmp 32) rfl w3.heap.size (.slice (some ⟨w3.heap.size, 0, none⟩) 0 0) [] (by simp [Act.eval]) ((rulesNew_made w3 w3.heap.size (Nat.le_refl _) _ rfl).on ((Below.refl _ _).drew)) (fun g e => by simp [Value.ownBlock] at e; omega) _ (rs.take k) (by simp [Act.eval]) HTK.out (fun n c e => by simp at e) HLT1.out ((up_alloc w3 (.cells #[] 26)).drew).size ?_; intro v1 w5 hR5 hg5 hloc5; have HR5 := hid hR5; have HB5 : Hid (Below w3.heap.size w3 w5) := hid (((up_alloc w3 (.cells #[] 26)).drew).grown hg5 ((up_alloc w3 (.cells #[] 26)).drew).size (fun j e => by simp [Value.ownBlock] at e; omega)); clear hR5 hg5 hloc5)
          | (refine step_append_rules w3 _ HB5.out rfl (.tmp 33) (.tmp 37) rfl w3.heap.size v1 ([] ++ rs.take k) (by simp [Act.eval]) HR5.out (fun g e => (HR5.out.own g e).1) _ (rs.drop (k + 1)) (by simp [Act.eval]) HDR.out (fun n c e => by simp at e) HLT2.out HB5.out.size ?_; intro v2 w6 hR6 hg6 hloc6; have HR6 := hid (RulesNew.rules (rs := lessOne rs k) hR6 (by have := lessOne_length rs k; have := HQ.out; omega)); have HB6 : Hid (Below w3.heap.size w3 w6) := hid (HB5.out.grown hg6 HB5.out.size (fun j e => (HR5.out.own j e).1)); obtain ⟨ad6, cap6, e6⟩ := hR6.shape; generalize ([] ++ rs.take k ++ rs.drop (k + 1)).length = m6 at e6; subst e6; clear hR6 hg6 hloc6))
        have HL6 := hid (HL3.out.trans (HB6.out.mono HL3.out.size))
        go_wp2_with fail
        refine (check_any rs _ w6 (HR3.out.on HB6.out) (HT.out.on HL6.out)).mono ?_
        rintro e w7 ⟨rfl, bel⟩
        rw [HCK.out]
        have HL7 := hid (up_trans HL6.out bel)
        have HR7 := hid (HR6.out.on bel)
        have HA7 := hid ((HR3.out.on HB6.out).on bel)
        clear bel
        go_wp2_with fail
        refine (check_any (lessOne rs k) _ w7 HR7.out (HT.out.on HL7.out)).mono ?_
        rintro e w8 ⟨rfl, bel⟩
        rw [HBIG.out.1]
        have HL8 := hid (up_trans HL7.out bel)
        have HR8 := hid (HR7.out.on bel)
        have HA8 := hid (HA7.out.on bel)
        clear bel
        go_wp2_with fail
        refine (reached_any (lessOne rs k) _ w8 HR8.out (HT.out.on HL8.out) HBIG.out.2.2).mono ?_
        rintro e w9 ⟨x, rfl, hx, bel⟩
        have HL9 := hid (up_trans HL8.out bel)
        have HA9 := hid (HA8.out.on bel)
        obtain ⟨ad9, cap9, e9⟩ := hx.shape
        have hx20 := symL_length (reachedS (lessOne rs k))
        subst e9
        clear bel hx
        go_wp2_with fail
        refine (reached_any rs _ w9 HA9.out (HT.out.on HL9.out) HRR.out).mono ?_
        rintro e w10 ⟨y, rfl, hy, bel⟩
        have HL10 := hid (up_trans HL9.out bel)
        obtain ⟨ad10, cap10, e10⟩ := hy.shape
        subst e10
        clear bel hy
        have hle := HBIG.out.2.1
        have hy20 : (reachedL rs).length ≤ 20 := symL_length (reachedS rs)
        generalize (reachedL (lessOne rs k)).length = x1 at *
        generalize (reachedL rs).length = x2 at *
        have hle2 : (x1 : Int) ≤ (x2 : Int) := by omega
        go_wp2
        go_ret
        exact ⟨ret_bool (by simp), HL10.out⟩
      · have HDR := hid (rules_drop (rs := rs) (k := k + 1) (o := (k + 1) * 5) (m := q - (k + 1)) (c := cap3 - (k + 1)) (by rw [HQ.out]; exact HR3.out) (by have := HQ.out; omega) (by rw [HQ.out]) (.inl rfl))
        go_wp2_with (go_at_call 17; refine (HW2.out _).mono ?_; rintro e w4 ⟨rfl, hw4⟩; obtain rfl := hw4.symm; clear hw4)
        go_region_law (first
          | (refine step_append_rules w3 _ ((up_alloc w3 (.cells #[] 26)).drew) rfl (.tmp 29) (.tmp 32) rfl w3.heap.size (.slice (some ⟨w3.heap.size, 0, none⟩) 0 0) [] (by simp [Act.eval]) ((rulesNew_made w3 w3.heap.size (Nat.le_refl _) _ rfl).on ((Below.refl _ _).drew)) (fun g e => by simp [Value.ownBlock] at e; omega) _ (rs.take k) (by simp [Act.eval]) HTK.out (fun n c e => by simp at e) HLT1.out ((up_alloc w3 (.cells #[] 26)).drew).size ?_; intro v1 w5 hR5 hg5 hloc5; have HR5 := hid hR5; have HB5 : Hid (Below w3.heap.size w3 w5) := hid (((up_alloc w3 (.cells #[] 26)).drew).grown hg5 ((up_alloc w3 (.cells #[] 26)).drew).size (fun j e => by simp [Value.ownBlock] at e; omega)); clear hR5 hg5 hloc5)
          | (refine step_append_rules w3 _ HB5.out rfl (.tmp 33) (.tmp 37) rfl w3.heap.size v1 ([] ++ rs.take k) (by simp [Act.eval]) HR5.out (fun g e => (HR5.out.own g e).1) _ (rs.drop (k + 1)) (by simp [Act.eval]) HDR.out (fun n c e => by simp at e) HLT2.out HB5.out.size ?_; intro v2 w6 hR6 hg6 hloc6; have HR6 := hid (RulesNew.rules (rs := lessOne rs k) hR6 (by have := lessOne_length rs k; have := HQ.out; omega)); have HB6 : Hid (Below w3.heap.size w3 w6) := hid (HB5.out.grown hg6 HB5.out.size (fun j e => (HR5.out.own j e).1)); obtain ⟨ad6, cap6, e6⟩ := hR6.shape; generalize ([] ++ rs.take k ++ rs.drop (k + 1)).length = m6 at e6; subst e6; clear hR6 hg6 hloc6))
        have HL6 := hid (HL3.out.trans (HB6.out.mono HL3.out.size))
        go_wp2_with fail
        refine (check_any rs _ w6 (HR3.out.on HB6.out) (HT.out.on HL6.out)).mono ?_
        rintro e w7 ⟨rfl, bel⟩
        rw [HCK.out]
        have HL7 := hid (up_trans HL6.out bel)
        have HR7 := hid (HR6.out.on bel)
        have HA7 := hid ((HR3.out.on HB6.out).on bel)
        clear bel
        go_wp2_with fail
        refine (check_any (lessOne rs k) _ w7 HR7.out (HT.out.on HL7.out)).mono ?_
        rintro e w8 ⟨rfl, bel⟩
        rw [HBIG.out.1]
        have HL8 := hid (up_trans HL7.out bel)
        have HR8 := hid (HR7.out.on bel)
        have HA8 := hid (HA7.out.on bel)
        clear bel
        go_wp2_with fail
        refine (reached_any (lessOne rs k) _ w8 HR8.out (HT.out.on HL8.out) HBIG.out.2.2).mono ?_
        rintro e w9 ⟨x, rfl, hx, bel⟩
        have HL9 := hid (up_trans HL8.out bel)
        have HA9 := hid (HA8.out.on bel)
        obtain ⟨ad9, cap9, e9⟩ := hx.shape
        have hx20 := symL_length (reachedS (lessOne rs k))
        subst e9
        clear bel hx
        go_wp2_with fail
        refine (reached_any rs _ w9 HA9.out (HT.out.on HL9.out) HRR.out).mono ?_
        rintro e w10 ⟨y, rfl, hy, bel⟩
        have HL10 := hid (up_trans HL9.out bel)
        obtain ⟨ad10, cap10, e10⟩ := hy.shape
        subst e10
        clear bel hy
        have hle := HBIG.out.2.1
        have hy20 : (reachedL rs).length ≤ 20 := symL_length (reachedS rs)
        generalize (reachedL (lessOne rs k)).length = x1 at *
        generalize (reachedL rs).length = x2 at *
        have hle2 : (x1 : Int) ≤ (x2 : Int) := by omega
        go_wp2
        go_ret
        exact ⟨ret_bool (by simp), HL10.out⟩

theorem own : ownKnob Tryd.prog.godebug = none := by kernel_rfl

theorem table {W : World} (h : laidMetH Tryd.prog Rows.gramFewerRow.laid W) : Tab W := by
  rw [MakeChecks.laidMetH_plain _ _ _ (by kernel_rfl)] at h
  exact tab_of_laid h

set_option maxRecDepth 100000 in
theorem lifted (os : Os) (started : os.Started) (H : Type) (enc : TypeId × Value → H) :
    ReturnsInHanded {} Tryd.checked os 9 .any (fun w args => (Rows.gramFewerSpec.pre enc Tryd.prog Tryd.f9 Rows.gramFewerRow.domain false w args ∧ laidMetH Tryd.prog Rows.gramFewerRow.laid w) ∧ sizedMet enc Tryd.prog Tryd.f9 (OpenSpec.ofChange Rows.gramFewerSpec) false w args)
      (Rows.gramFewerSpec.post enc Tryd.prog Tryd.f9 false true false false) := by
  refine returnsInHanded_of_change_and (C := Tryd.checked) (X := fun w _ => laidMetH Tryd.prog Rows.gramFewerRow.laid w) (fun _ _ _ hh h => h.of_heap hh) own started (by kernel_rfl) Tryd.func9
    (ChangeSpec.witness_shaped (enc := enc) (C := Tryd.checked) (os := os) (X := fun w _ => laidMetH Tryd.prog Rows.gramFewerRow.laid w) false (World.laidAll Tryd.prog os Rows.gramFewerRow.laid) #[.slice none 0 0, .int .i64 0, .int .i64 0] 8 (World.laidAll_os _ _ _)
      (World.shaped_of_ZipB (by kernel_rfl) (by kernel_rfl)) (by kernel_rfl) (by kernel_rfl) (by kernel_rfl)
      (by rw [MakeChecks.laidMetH_plain _ _ _ (by kernel_rfl)]; exact laidMet_laidAll _ (by kernel_rfl) (by kernel_rfl))) ?_
  intro W base args ds gs before hval0 hW _ _ hL _
  have hval : ∀ (j : Nat) t v, Tryd.f9.params[j]? = some t → args[j]? = some v → Value.okWide Tryd.prog W .any base t v := hval0
  have hW' := hW
  obtain ⟨p, q, hA0, hV, rfl, hfz, hnd⟩ := hW
  have hA : DataW.TrodAll enc Tryd.prog W 0 (fun _ => true) true Tryd.f9.params.toList args.toList ds p := hA0
  rw [Tryd.params9] at hA hval
  obtain ⟨v0, vs0, d0, ds0, p0, q0, hargs, rfl, rfl, h0, r0⟩ := trodAll_cons hA
  obtain ⟨v1, vs1, d1, ds1, p1, q1, rfl, rfl, rfl, h1, r1⟩ := trodAll_cons r0
  obtain ⟨v2, vs2, d2, ds2, p2, q2, rfl, rfl, rfl, h2, r2⟩ := trodAll_cons r1
  obtain ⟨rfl, rfl, rfl⟩ := trodAll_nil r2
  obtain rfl : args = #[v0, v1, v2] := by cases args; simp_all
  obtain ⟨rfl, rfl⟩ := trodVars_none hV
  obtain ⟨x0, w0⟩ := raws_of (hval 0 27 v0 rfl rfl) h0
  have l0 : ∀ x ∈ p0, x.block < W.heap.size := fun x hx => hW'.lt x (by simp [hx])
  obtain ⟨a1, rfl, rfl, rfl, w1⟩ := open_int Tryd.underlying3 (hval 1 3 v1 rfl rfl) h1
  obtain ⟨a2, rfl, rfl, rfl, w2⟩ := open_int Tryd.underlying3 (hval 2 3 v2 rfl rfl) h2
  clear hA0 hval0
  refine (walk v0 x0 a1 a2 W w0 w1 w2 (table hL)).mono fun e W' ⟨he, bel⟩ => ?_
  subst he
  exact ⟨_, rfl, _, _, _, _, _, [], hW', trodAll_mk1 (shut_bool Tryd.underlying4 _), (trodAll_cons_mk (Below.trod (by kernel_rfl) (by kernel_rfl) (of_decide_eq_true (by kernel_rfl)) h0 bel l0) (trodAll_cons_mk (shut_int Tryd.underlying3 w1) (trodAll_cons_mk (shut_int Tryd.underlying3 w2) trodAll_mk0))), rfl, bel.frame _, fun h => by cases h⟩

theorem row_holds : Rows.GramFewerSaid :=
  OpenClaim.holds_of_wide 9 Tryd.f9 rfl rfl rfl rfl rfl rfl rfl ⟨rfl, rfl, rfl, rfl, rfl⟩ rfl rfl rfl rfl rfl (by kernel_rfl) Tryd.func9 (by kernel_rfl)
    (of_decide_eq_true (by kernel_rfl)) (by unfold Func.isWrapper; first | (rw [if_pos (by decide +kernel)]; kernel_rfl) | (rw [if_neg (by decide +kernel)]; exact ⟨rfl, rfl⟩))
    (fun os started H enc _ => lifted os started H enc)

theorem gramFewer_holds : Rows.GramFewerCardSaid :=
  Claim7.holds_tied_plain_at .later [] _ _ _ _ row_holds (fun _ h => by cases h) (by kernel_rfl) (fun _ h => by cases h) gramFewer_row_tie rfl ⟨rfl, rfl⟩ (by kernel_rfl) rfl
    (fun f fn hf hfn => by
      obtain rfl : f = 9 := Option.some.inj ((show Tryd.prog.funcNamed "interlocutor/interlocutorlaw4.GramFewer" = some 9 by kernel_rfl).symm.trans hf) |>.symm
      obtain rfl : fn = Tryd.f9 := (Option.some.inj (Tryd.func9.symm.trans hfn)).symm
      exact ⟨by kernel_rfl, fun j t ht => by
        rw [Tryd.params9] at ht
        have hm : t ∈ [27, 3, 3] := by simpa using Array.mem_of_getElem? ht
        have hall : ([27, 3, 3].all fun u => !Tryd.prog.wantsStandIn u) = true := by kernel_rfl
        exact (show Tryd.prog.wantsStandIn t = false by simpa using List.all_eq_true.1 hall t hm)⟩)
    (by kernel_rfl)

end Go.Proofs.YtgpkgkmjppphgaaDoor
