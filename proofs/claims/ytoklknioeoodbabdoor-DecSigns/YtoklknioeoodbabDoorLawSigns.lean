/- DecSigns answers true of every three ints: of the decimal that two stand for, with the other sign all is as before but the sign: normed, in so many digits as the third stands for, written. The library's tables read as their text lays them. -/
import Derived.Test.YtoklknioeoodbabDoorCards
import Derived.Test.YtoklknioeoodbabDoorTie
import Derived.Test.YtoklknioeoodbabDoorBase
import Derived.ProofKit
import Derived.OpenShut
import Derived.Lay
import Derived.SevenTiedAt
import Derived.Stop.Joined
import Derived.Lib.LaidTab
namespace Go.Proofs.YtoklknioeoodbabDoor
open Go.ChangeShapes Go.WideShapes Go.ChangeAt Go.RowKit

theorem scaled_none {a : Int} {s k : Nat} (h : Dc.scaled a s k = none) : Dc.scaled (-a) s k = none := by rw [Dc.scaled_neg, h]; rfl
theorem scaled_some {a v : Int} {s k : Nat} (h : Dc.scaled a s k = some v) : Dc.scaled (-a) s k = some (-v) := by rw [Dc.scaled_neg, h]; rfl
theorem cons_mk (X : List UInt8) : (ByteArray.mk #[45] ++ ByteArray.mk X.toArray) = ByteArray.mk (45 :: X).toArray := by
  rw [show #[(45 : UInt8)] = [45].toArray from rfl, mk_app]; rfl

set_option maxRecDepth 100000 in
set_option maxHeartbeats 4000000 in
theorem walk_at (m c o a n v : Int) (s t k : Nat) (is : Bool) (x y : ByteArray) (w : World) (htab : Tab w) (a0 : -1000000000000000000 < a) (a1 : a < 1000000000000000000)
    (n0 : -1000000000000000000 < n) (n1 : n < 1000000000000000000) (v0 : -1000000000000000000 < v) (v1 : v < 1000000000000000000) (hx : x.size ≤ 100) (hz : y.size ≤ 100)
    (hxy : a = 0 ∧ x = y ∨ 0 < a ∧ ⟨#[45]⟩ ++ x = y ∨ a < 0 ∧ ⟨#[45]⟩ ++ y = x)
    (HM : Hid (∀ w, Calls Tryd.prog 8 #[.int .i64 m, .int .i64 c] w fun e w' => e = .returned (.tuple #[.int .i64 a, .int .i64 s]) ∧ w' = w))
    (HW : Hid (∀ w, Calls Tryd.prog 13 #[.int .i64 o, .int .i64 19] w fun e w' => e = .returned (.int .i64 k) ∧ w' = w))
    (HN : Hid (∀ w, Calls Tryd.prog 11 #[.int .i64 a, .int .i64 s] w fun e w' => e = .returned (.tuple #[.int .i64 n, .int .i64 t]) ∧ Below w.heap.size w w'))
    (HN' : Hid (∀ w, Calls Tryd.prog 11 #[.int .i64 (-a), .int .i64 s] w fun e w' => e = .returned (.tuple #[.int .i64 (-n), .int .i64 t]) ∧ Below w.heap.size w w'))
    (HS : Hid (∀ w, Calls Tryd.prog 12 #[.int .i64 a, .int .i64 s, .int .i64 k] w fun e w' => e = .returned (.tuple #[.int .i64 v, .bool is]) ∧ Below w.heap.size w w'))
    (HS' : Hid (∀ w, Calls Tryd.prog 12 #[.int .i64 (-a), .int .i64 s, .int .i64 k] w fun e w' => e = .returned (.tuple #[.int .i64 (-v), .bool is]) ∧ Below w.heap.size w w'))
    (HT : Hid (∀ w, Tab w → Calls Tryd.prog 14 #[.int .i64 a, .int .i64 s] w fun e w' => e = .returned (.string x) ∧ Below w.heap.size w w'))
    (HT' : Hid (∀ w, Tab w → Calls Tryd.prog 14 #[.int .i64 (-a), .int .i64 s] w fun e w' => e = .returned (.string y) ∧ Below w.heap.size w w')) :
    Calls Tryd.prog 4 #[.int .i64 m, .int .i64 c, .int .i64 o] w fun e w' => e = .returned (.bool true) ∧ Below w.heap.size w w' := by
  have HK := hid (known_any w htab)
  rcases hxy with ⟨ha, hxy⟩ | ⟨ha, hxy⟩ | ⟨ha, hxy⟩
  · subst ha hxy
    go_enter Tryd.func4, Tryd.ntmps4
    go_wp2_with fail
    refine HK.out.mono ?_
    rintro e w1 ⟨rfl, b1⟩
    go_wp2_with fail
    refine (HM.out _).mono ?_
    rintro e w2 ⟨rfl, rfl⟩
    go_wp2_with fail
    refine (HN.out _).mono ?_
    rintro e w3 ⟨rfl, b3⟩
    go_wp2_with fail
    refine (HN'.out _).mono ?_
    rintro e w4 ⟨rfl, b4⟩
    go_wp2_with fail
    refine (HW.out _).mono ?_
    rintro e w5 ⟨rfl, rfl⟩
    go_wp2_with fail
    refine (HS.out _).mono ?_
    rintro e w6 ⟨rfl, b6⟩
    go_wp2_with fail
    refine (HW.out _).mono ?_
    rintro e w7 ⟨rfl, rfl⟩
    go_wp2_with fail
    refine (HS'.out _).mono ?_
    rintro e w8 ⟨rfl, b8⟩
    have B8 := hid (up_trans (up_trans (up_trans (up_trans b1 b3) b4) b6) b8)
    go_wp2_with fail
    refine (HT.out _ (htab.on B8.out)).mono ?_
    rintro e w9 ⟨rfl, b9⟩
    have B9 := hid (up_trans B8.out b9)
    go_wp2_with fail
    refine (HT'.out _ (htab.on B9.out)).mono ?_
    rintro e w10 ⟨rfl, b10⟩
    go_wp2
    go_ret
    exact ⟨rfl, up_trans B9.out b10⟩
  · have ha' : (a == 0) = false := by simp; omega
    have ha2 : (a != 0) = true := by simp; omega
    go_enter Tryd.func4, Tryd.ntmps4
    go_wp2_with fail
    refine HK.out.mono ?_
    rintro e w1 ⟨rfl, b1⟩
    go_wp2_with fail
    refine (HM.out _).mono ?_
    rintro e w2 ⟨rfl, rfl⟩
    go_wp2_with fail
    refine (HN.out _).mono ?_
    rintro e w3 ⟨rfl, b3⟩
    go_wp2_with fail
    refine (HN'.out _).mono ?_
    rintro e w4 ⟨rfl, b4⟩
    go_wp2_with fail
    refine (HW.out _).mono ?_
    rintro e w5 ⟨rfl, rfl⟩
    go_wp2_with fail
    refine (HS.out _).mono ?_
    rintro e w6 ⟨rfl, b6⟩
    go_wp2_with fail
    refine (HW.out _).mono ?_
    rintro e w7 ⟨rfl, rfl⟩
    go_wp2_with fail
    refine (HS'.out _).mono ?_
    rintro e w8 ⟨rfl, b8⟩
    have B8 := hid (up_trans (up_trans (up_trans (up_trans b1 b3) b4) b6) b8)
    go_wp2_with fail
    refine (HT.out _ (htab.on B8.out)).mono ?_
    rintro e w9 ⟨rfl, b9⟩
    have B9 := hid (up_trans B8.out b9)
    go_wp2_with fail
    refine (HT'.out _ (htab.on B9.out)).mono ?_
    rintro e w10 ⟨rfl, b10⟩
    go_wp2
    go_ret
    exact ⟨rfl, up_trans B9.out b10⟩
  · have ha' : (a == 0) = false := by simp; omega
    have ha2 : (a != 0) = true := by simp; omega
    go_enter Tryd.func4, Tryd.ntmps4
    go_wp2_with fail
    refine HK.out.mono ?_
    rintro e w1 ⟨rfl, b1⟩
    go_wp2_with fail
    refine (HM.out _).mono ?_
    rintro e w2 ⟨rfl, rfl⟩
    go_wp2_with fail
    refine (HN.out _).mono ?_
    rintro e w3 ⟨rfl, b3⟩
    go_wp2_with fail
    refine (HN'.out _).mono ?_
    rintro e w4 ⟨rfl, b4⟩
    go_wp2_with fail
    refine (HW.out _).mono ?_
    rintro e w5 ⟨rfl, rfl⟩
    go_wp2_with fail
    refine (HS.out _).mono ?_
    rintro e w6 ⟨rfl, b6⟩
    go_wp2_with fail
    refine (HW.out _).mono ?_
    rintro e w7 ⟨rfl, rfl⟩
    go_wp2_with fail
    refine (HS'.out _).mono ?_
    rintro e w8 ⟨rfl, b8⟩
    have B8 := hid (up_trans (up_trans (up_trans (up_trans b1 b3) b4) b6) b8)
    go_wp2_with fail
    refine (HT.out _ (htab.on B8.out)).mono ?_
    rintro e w9 ⟨rfl, b9⟩
    have B9 := hid (up_trans B8.out b9)
    go_wp2_with fail
    refine (HT'.out _ (htab.on B9.out)).mono ?_
    rintro e w10 ⟨rfl, b10⟩
    go_wp2
    go_ret
    exact ⟨rfl, up_trans B9.out b10⟩

theorem txt_size (a : Int) (s : Nat) (hs : s ≤ 18) (a0 : -1000000000000000000 < a) (a1 : a < 1000000000000000000) : (ByteArray.mk (Dc.text a s).toArray).size ≤ 100 := by
  have h1 : (Dc.sgn a).length ≤ 1 := by unfold Dc.sgn; split <;> simp
  have h3 : a.natAbs / 10 ^ s ≤ a.natAbs := Nat.div_le_self _ _
  have h2 := nd_le (a.natAbs / 10 ^ s) (by omega)
  show (Dc.text a s).toArray.size ≤ 100
  unfold Dc.text
  simp only [List.size_toArray, List.length_append, Lib.decDigits_length]
  split
  · simp; omega
  · simp [Dc.pad_length]; omega

theorem walk (m c o : Int) (w : World) (_w0 : (Lit.int .i64 m).wf = true) (w1 : (Lit.int .i64 c).wf = true) (_w2 : (Lit.int .i64 o).wf = true) (htab : Tab w) :
    Calls Tryd.prog 4 #[.int .i64 m, .int .i64 c, .int .i64 o] w fun e w' => e = .returned (.bool true) ∧ Below w.heap.size w w' := by
  obtain ⟨c0, c1⟩ := bounds_i64 w1
  obtain ⟨a, s, a0, a1, hs, hM⟩ := make_any m c c0 c1
  obtain ⟨k, hk⟩ : ∃ k : Nat, (k : Int) = o % 19 := ⟨(o % 19).toNat, by omega⟩
  have hk18 : k ≤ 18 := by omega
  have HW : Hid (∀ w, Calls Tryd.prog 13 #[.int .i64 o, .int .i64 19] w fun e w' => e = .returned (.int .i64 k) ∧ w' = w) := fun w => by
    rw [hk]; exact lwithin_any o 19 w (by omega) (by omega)
  have nb := norm_bd' a s a0 a1
  have HN : Hid (∀ w, Calls Tryd.prog 11 #[.int .i64 a, .int .i64 s] w fun e w' => e = .returned (.tuple #[.int .i64 (Dc.norm a s).1, .int .i64 (Dc.norm a s).2]) ∧ Below w.heap.size w w') := fun w => norm_any a s w hs a0 a1
  have HN' : Hid (∀ w, Calls Tryd.prog 11 #[.int .i64 (-a), .int .i64 s] w fun e w' => e = .returned (.tuple #[.int .i64 (-(Dc.norm a s).1), .int .i64 (Dc.norm a s).2]) ∧ Below w.heap.size w w') := fun w => by
    have h := norm_any (-a) s w hs (by omega) (by omega)
    rw [Dc.norm_neg] at h
    exact h
  have HT : Hid (∀ w, Tab w → Calls Tryd.prog 14 #[.int .i64 a, .int .i64 s] w fun e w' => e = .returned (.string ⟨(Dc.text a s).toArray⟩) ∧ Below w.heap.size w w') := fun w ht => text_any a s w hs a0 a1 ht
  have HT' : Hid (∀ w, Tab w → Calls Tryd.prog 14 #[.int .i64 (-a), .int .i64 s] w fun e w' => e = .returned (.string ⟨(Dc.text (-a) s).toArray⟩) ∧ Below w.heap.size w w') := fun w ht => text_any (-a) s w hs (by omega) (by omega) ht
  have hx := txt_size a s hs a0 a1
  have hz := txt_size (-a) s hs (by omega) (by omega)
  have hxy : a = 0 ∧ (ByteArray.mk (Dc.text a s).toArray) = ByteArray.mk (Dc.text (-a) s).toArray ∨ 0 < a ∧ ⟨#[45]⟩ ++ (ByteArray.mk (Dc.text a s).toArray) = ByteArray.mk (Dc.text (-a) s).toArray ∨ a < 0 ∧ ⟨#[45]⟩ ++ ByteArray.mk (Dc.text (-a) s).toArray = ByteArray.mk (Dc.text a s).toArray := by
    have h : a = 0 ∨ 0 < a ∨ a < 0 := by omega
    rcases h with h | h | h
    · refine Or.inl ⟨h, ?_⟩
      subst h; rfl
    · refine Or.inr (Or.inl ⟨h, ?_⟩)
      rw [cons_mk, Dc.text_neg a s h]
    · refine Or.inr (Or.inr ⟨h, ?_⟩)
      have e := Dc.text_neg (-a) s (by omega)
      rw [Int.neg_neg] at e
      rw [cons_mk, e]
  have HS := fun w => scaled_any a s k w hs hk18 a0 a1
  have HS' := fun w => scaled_any (-a) s k w hs hk18 (by omega) (by omega)
  cases hr : Dc.scaled a s k with
  | none =>
    rw [hr] at HS
    rw [scaled_none hr] at HS'
    exact walk_at m c o a _ 0 s _ k false _ _ w htab a0 a1 nb.1 nb.2 (by omega) (by omega) hx hz hxy hM HW HN HN' HS HS' HT HT'
  | some v =>
    obtain ⟨_, v0, v1⟩ := Dc.scaled_val a s k v hr a0 a1 hs hk18
    rw [hr] at HS
    rw [scaled_some hr] at HS'
    exact walk_at m c o a _ v s _ k true _ _ w htab a0 a1 nb.1 nb.2 v0 v1 hx hz hxy hM HW HN HN' HS HS' HT HT'

theorem own : ownKnob Tryd.prog.godebug = none := by kernel_rfl

theorem table {W : World} (h : laidMetH Tryd.prog Rows.decSignsRow.laid W) : Tab W := by
  rw [MakeChecks.laidMetH_plain _ _ _ (by kernel_rfl)] at h
  obtain ⟨ps, ⟨g0, t0, cs0, f0, p0, q0, hg0, ht0, hv0, hd0, ⟨g1, t1, cs1, f1, p1, q1, hg1, ht1, hv1, hd1, ⟨g2, t2, cs2, f2, p2, q2, hg2, ht2, hv2, hd2, _, _⟩, _⟩, _⟩, _, _⟩ := h
  obtain rfl := Option.some.inj ((show Tryd.prog.globalNamed "internal/strconv.uint64pow10" = some 0 by kernel_rfl).symm.trans hg2)
  obtain rfl := Option.some.inj ((show (Tryd.prog.globals[0]?).map (·.type) = some 54 by kernel_rfl).symm.trans ht2)
  have e : (Rows.laid_internal_strconv_uint64pow10 : DataW Unit) = Lib.tabData .u64 Lib.pow10Tab := by kernel_rfl
  rw [e] at hd2
  unfold Tab Lib.TabIs
  rw [hv2, ← Lib.cells_of_tab Tryd.underlying54 Tryd.underlying47 (by kernel_rfl) (by kernel_rfl) hd2]

set_option maxRecDepth 100000 in
theorem lifted (os : Os) (started : os.Started) (H : Type) (enc : TypeId × Value → H) :
    ReturnsInHanded {} Tryd.checked os 4 .any (fun w args => (Rows.decSignsSpec.pre enc Tryd.prog Tryd.f4 Rows.decSignsRow.domain false w args ∧ laidMetH Tryd.prog Rows.decSignsRow.laid w) ∧ sizedMet enc Tryd.prog Tryd.f4 (OpenSpec.ofChange Rows.decSignsSpec) false w args)
      (Rows.decSignsSpec.post enc Tryd.prog Tryd.f4 false true false false) := by
  refine returnsInHanded_of_change_and (C := Tryd.checked) (X := fun w _ => laidMetH Tryd.prog Rows.decSignsRow.laid w) (fun _ _ _ hh h => h.of_heap hh) own started (by kernel_rfl) Tryd.func4
    (ChangeSpec.witness_shaped (enc := enc) (C := Tryd.checked) (os := os) (X := fun w _ => laidMetH Tryd.prog Rows.decSignsRow.laid w) false (World.laidAll Tryd.prog os Rows.decSignsRow.laid) #[.int .i64 0, .int .i64 0, .int .i64 0] 8 (World.laidAll_os _ _ _)
      (World.shaped_of_ZipB (by kernel_rfl) (by kernel_rfl)) (by kernel_rfl) (by kernel_rfl) (by kernel_rfl)
      (by rw [MakeChecks.laidMetH_plain _ _ _ (by kernel_rfl)]; exact laidMet_laidAll _ (by kernel_rfl) (by kernel_rfl))) ?_
  intro W base args ds gs before hval0 hW _ _ hL _
  have hval : ∀ (j : Nat) t v, Tryd.f4.params[j]? = some t → args[j]? = some v → Value.okWide Tryd.prog W .any base t v := hval0
  have hW' := hW
  obtain ⟨p, q, hA0, hV, rfl, hfz, hnd⟩ := hW
  have hA : DataW.TrodAll enc Tryd.prog W 0 (fun _ => true) true Tryd.f4.params.toList args.toList ds p := hA0
  rw [Tryd.params4] at hA hval
  obtain ⟨v0, vs0, d0, ds0, p0, q0, hargs, rfl, rfl, h0, r0⟩ := trodAll_cons hA
  obtain ⟨v1, vs1, d1, ds1, p1, q1, rfl, rfl, rfl, h1, r1⟩ := trodAll_cons r0
  obtain ⟨v2, vs2, d2, ds2, p2, q2, rfl, rfl, rfl, h2, r2⟩ := trodAll_cons r1
  obtain ⟨rfl, rfl, rfl⟩ := trodAll_nil r2
  obtain rfl : args = #[v0, v1, v2] := by cases args; simp_all
  obtain ⟨rfl, rfl⟩ := trodVars_none hV
  obtain ⟨a0, rfl, rfl, rfl, w0⟩ := open_int Tryd.underlying3 (hval 0 3 v0 rfl rfl) h0
  obtain ⟨a1, rfl, rfl, rfl, w1⟩ := open_int Tryd.underlying3 (hval 1 3 v1 rfl rfl) h1
  obtain ⟨a2, rfl, rfl, rfl, w2⟩ := open_int Tryd.underlying3 (hval 2 3 v2 rfl rfl) h2
  clear hA0 hval0
  refine (walk a0 a1 a2 W w0 w1 w2 (table hL)).mono fun e W' ⟨he, bel⟩ => ?_
  subst he
  exact ⟨_, rfl, _, _, _, [], _, [], hW', trodAll_mk1 (shut_bool Tryd.underlying4 _), (trodAll_cons_mk (shut_int Tryd.underlying3 w0) (trodAll_cons_mk (shut_int Tryd.underlying3 w1) (trodAll_cons_mk (shut_int Tryd.underlying3 w2) trodAll_mk0))), rfl, bel.frame _, fun h => by cases h⟩

theorem row_holds : Rows.DecSignsSaid :=
  OpenClaim.holds_of_wide 4 Tryd.f4 rfl rfl rfl rfl rfl rfl rfl ⟨rfl, rfl, rfl, rfl, rfl⟩ rfl rfl rfl rfl rfl (by kernel_rfl) Tryd.func4 (by kernel_rfl)
    (of_decide_eq_true (by kernel_rfl)) (by unfold Func.isWrapper; first | (rw [if_pos (by decide +kernel)]; kernel_rfl) | (rw [if_neg (by decide +kernel)]; exact ⟨rfl, rfl⟩))
    (fun os started H enc _ => lifted os started H enc)

theorem decSigns_holds : Rows.DecSignsCardSaid :=
  Claim7.holds_tied_plain_at .later [] _ _ _ _ row_holds (fun _ h => by cases h) (by kernel_rfl) (fun _ h => by cases h) decSigns_row_tie rfl ⟨rfl, rfl⟩ (by kernel_rfl) rfl
    (fun f fn hf hfn => by
      obtain rfl : f = 4 := Option.some.inj ((show Tryd.prog.funcNamed "interlocutor/interlocutorlaw2.DecSigns" = some 4 by kernel_rfl).symm.trans hf) |>.symm
      obtain rfl : fn = Tryd.f4 := (Option.some.inj (Tryd.func4.symm.trans hfn)).symm
      exact ⟨by kernel_rfl, fun j t ht => by
        rw [Tryd.params4] at ht
        have hm : t ∈ [3] := by simpa using Array.mem_of_getElem? ht
        have hall : ([3].all fun u => !Tryd.prog.wantsStandIn u) = true := by kernel_rfl
        exact (show Tryd.prog.wantsStandIn t = false by simpa using List.all_eq_true.1 hall t hm)⟩)
    (by kernel_rfl)

end Go.Proofs.YtoklknioeoodbabDoor
