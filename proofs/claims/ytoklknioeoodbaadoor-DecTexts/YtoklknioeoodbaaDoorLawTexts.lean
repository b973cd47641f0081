/- DecTexts answers true of every two ints: of the decimal that they stand for, dec.Text is the reference's text; its digits are its number's, and it has one point, or none. The library's tables read as their text lays them. -/
import Derived.Test.YtoklknioeoodbaaDoorCards
import Derived.Test.YtoklknioeoodbaaDoorTie
import Derived.Test.YtoklknioeoodbaaDoorBase
import Derived.Test.YtoklknioeoodbaaDoorRefText
import Derived.ProofKit
import Derived.OpenShut
import Derived.Lay
import Derived.SevenTiedAt
import Derived.Stop.Joined
import Derived.Lib.LaidTab
namespace Go.Proofs.YtoklknioeoodbaaDoor
open Go.ChangeShapes Go.WideShapes Go.ChangeAt Go.RowKit

theorem take_next (X : List UInt8) (k : Nat) (h : k < X.length) : X.take (k + 1) = X.take k ++ [X[k]] := by
  rw [List.take_add_one, List.getElem?_eq_getElem h]; rfl
theorem worth_take (X : List UInt8) (k : Nat) : Dc.worth 0 (X.take k) ≤ Dc.worth 0 X ∧ 0 ≤ Dc.worth 0 (X.take k) := by
  have h0 := Dc.worth_mono (X.take k) 0 (by omega)
  have h1 := Dc.worth_mono (X.drop k) (Dc.worth 0 (X.take k)) h0
  rw [← Dc.worth_append, List.take_append_drop] at h1
  exact ⟨h1, h0⟩
theorem points_bd : ∀ (X : List UInt8) (n : Int), 0 ≤ n → 0 ≤ Dc.points n X ∧ Dc.points n X ≤ n + X.length
  | [], n, h => by simp [Dc.points, h]
  | c :: X, n, h => by
    simp only [Dc.points, List.length_cons]
    split
    · have := points_bd X (n + 1) (by omega); omega
    · have := points_bd X n h; omega
def dg (c : Nat) (n : Int) : Int := if 48 ≤ c ∧ c ≤ 57 then 10 * n + ((c : Int) - 48) else n
def pt (c : Nat) (n : Int) : Int := if c = 46 then n + 1 else n
theorem worth_next (X : List UInt8) (k : Nat) (h : k < X.length) : Dc.worth 0 (X.take (k + 1)) = dg X[k].toNat (Dc.worth 0 (X.take k)) := by
  rw [take_next X k h, Dc.worth_append]; rfl
theorem points_next (X : List UInt8) (k : Nat) (h : k < X.length) : Dc.points 0 (X.take (k + 1)) = pt X[k].toNat (Dc.points 0 (X.take k)) := by
  rw [take_next X k h, Dc.points_append]; rfl
theorem text_len (a : Int) (s : Nat) (hs : s ≤ 18) (a0 : -1000000000000000000 < a) (a1 : a < 1000000000000000000) : (Dc.text a s).length ≤ 60 := by
  have h1 : (Dc.sgn a).length ≤ 1 := by unfold Dc.sgn; split <;> simp
  have h3 : a.natAbs / 10 ^ s ≤ a.natAbs := Nat.div_le_self _ _
  have h2 := nd_le (a.natAbs / 10 ^ s) (by omega)
  unfold Dc.text
  simp only [List.length_append, Lib.decDigits_length]
  split
  · simp; omega
  · simp [Dc.pad_length]; omega

set_option maxRecDepth 100000 in
set_option maxHeartbeats 4000000 in
theorem walk (m c : Int) (w : World) (_w0 : (Lit.int .i64 m).wf = true) (w1 : (Lit.int .i64 c).wf = true) (htab : Tab w) :
    Calls Tryd.prog 5 #[.int .i64 m, .int .i64 c] w fun e w' => e = .returned (.bool true) ∧ Below w.heap.size w w' := by
  have HK := hid (known_any w htab)
  obtain ⟨c0, c1⟩ := bounds_i64 w1
  obtain ⟨a, s, a0, a1, hs, hM⟩ := make_any m c c0 c1
  have HM := hid hM
  have HT := hid (fun w ht => text_any a s w hs a0 a1 ht)
  have HR := hid (fun w => rtext_any a s w hs a0 a1)
  have HV := hid (Dc.worth_text a s)
  have HP := hid (Dc.points_text a s)
  have hlen := text_len a s hs a0 a1
  have wt := worth_take (Dc.text a s)
  rw [Dc.worth_text] at wt
  have hpb := fun k => points_bd ((Dc.text a s).take k) 0 (Int.le_refl _)
  generalize Dc.text a s = X at *
  clear hM w1
  go_enter Tryd.func5, Tryd.ntmps5
  go_wp2_with fail
  refine HK.out.mono ?_
  rintro e w1 ⟨rfl, b1⟩
  go_wp2_with fail
  refine (HM.out _).mono ?_
  rintro e w2 ⟨rfl, rfl⟩
  go_wp2_with fail
  refine (HT.out _ (htab.on b1)).mono ?_
  rintro e w3 ⟨rfl, b3⟩
  go_wp2_with fail
  have W := hid wt
  have PB := hid hpb
  clear wt hpb
  go_loop [8, 9, 10] (fun n p i => ∃ (k : Nat) (v u : Int), k ≤ X.length ∧ i = .int .i64 k ∧ n = .int .i64 v ∧ p = .int .i64 u ∧ Hid (v = Dc.worth 0 (X.take k)) ∧ Hid (u = Dc.points 0 (X.take k))) (fun _ _ i => (X.length - intOf i).toNat)
  case atStart => exact ⟨0, 0, 0, by omega, rfl, rfl, rfl, rfl, rfl⟩
  case round =>
    obtain ⟨k, v, u, hk, rfl, rfl, rfl, hv, hu⟩ := hrel
    have v0 : 0 ≤ v := by rw [hv.out]; exact (W.out k).2
    have v1 : v < 1000000000000000000 := by
      have := (W.out k).1
      rw [hv.out]; omega
    have u0 : 0 ≤ u := by rw [hu.out]; exact (PB.out k).1
    have u1 : u ≤ 60 := by
      have := (PB.out k).2
      rw [List.length_take] at this
      rw [hu.out]; omega
    by_cases hlt : k < X.length
    · have HV1 := hid (worth_next X k hlt)
      have HP1 := hid (points_next X k hlt)
      obtain ⟨x, hx⟩ : ∃ x : Int, x = (X[k].toNat : Int) := ⟨_, rfl⟩
      have hix : ∀ h, ((((ByteArray.mk X.toArray)[k]'h).toNat : Nat) : Int) = x := fun h => by rw [hx]; rfl
      have x0 : 0 ≤ x := by omega
      have x1 : x ≤ 255 := by
        have := X[k].toNat_lt
        omega
      have W1 := (W.out (k + 1)).1
      have HX := hid hx
      clear hx
      by_cases h46 : x = 46
      · have n1 : Hid (Dc.worth 0 (X.take (k + 1)) = v) := by
          have h := HX.out
          unfold Hid; rw [HV1.out, dg, if_neg (by omega), hv.out]
        have n2 : Hid (Dc.points 0 (X.take (k + 1)) = u + 1) := by
          have h := HX.out
          unfold Hid; rw [HP1.out, pt, if_pos (by omega), hu.out]
        subst h46
        clear W1
        go_wp2
        go_round
        case rel => exact ⟨k + 1, v, u + 1, by omega, by go_num, rfl, by go_num, n1.out.symm, n2.out.symm⟩
        case measure => simp [intOf]; omega
      · have n2 : Hid (Dc.points 0 (X.take (k + 1)) = u) := by
          have h := HX.out
          unfold Hid; rw [HP1.out, pt, if_neg (by omega), hu.out]
        have h46' : (x == 46) = false := by simpa using h46
        by_cases h48 : 48 ≤ x
        · by_cases h57 : x ≤ 57
          · have n1 : Hid (Dc.worth 0 (X.take (k + 1)) = 10 * v + (x - 48)) := by
              have h := HX.out
              unfold Hid; rw [HV1.out, dg, if_pos (by omega), hv.out, h]
            rw [n1.out] at W1
            go_wp2
            go_round
            case rel => exact ⟨k + 1, 10 * v + (x - 48), u, by omega, by go_num, by go_num, rfl, n1.out.symm, n2.out.symm⟩
            case measure => simp [intOf]; omega
          · have n1 : Hid (Dc.worth 0 (X.take (k + 1)) = v) := by
              have h := HX.out
              unfold Hid; rw [HV1.out, dg, if_neg (by omega), hv.out]
            clear W1
            go_wp2
            go_round
            case rel => exact ⟨k + 1, v, u, by omega, by go_num, rfl, rfl, n1.out.symm, n2.out.symm⟩
            case measure => simp [intOf]; omega
        · have n1 : Hid (Dc.worth 0 (X.take (k + 1)) = v) := by
            have h := HX.out
            unfold Hid; rw [HV1.out, dg, if_neg (by omega), hv.out]
          clear W1
          go_wp2
          go_round
          case rel => exact ⟨k + 1, v, u, by omega, by go_num, rfl, rfl, n1.out.symm, n2.out.symm⟩
          case measure => simp [intOf]; omega
    · obtain rfl : k = X.length := by omega
      have hv2 := hv.out
      rw [List.take_length, HV.out] at hv2
      have hu2 := hu.out
      rw [List.take_length, HP.out] at hu2
      clear v0 v1 u0 u1
      by_cases hn : a < 0
      · have hva : v = -a := by omega
        clear hv2
        subst hva
        by_cases hz : s = 0
        · rw [if_pos hz] at hu2
          subst hz hu2
          go_wp2_with fail
          refine (HR.out _).mono ?_
          rintro e w4 ⟨rfl, b4⟩
          go_wp2
          go_ret
          exact ⟨rfl, up_trans (up_trans b1 b3) b4⟩
        · rw [if_neg hz] at hu2
          subst hu2
          have hz' : decide (0 < (s : Int)) = true := by simp; omega
          go_wp2_with fail
          refine (HR.out _).mono ?_
          rintro e w4 ⟨rfl, b4⟩
          go_wp2
          go_ret
          exact ⟨rfl, up_trans (up_trans b1 b3) b4⟩
      · have hva : v = a := by omega
        clear hv2
        subst hva
        by_cases hz : s = 0
        · rw [if_pos hz] at hu2
          subst hz hu2
          go_wp2_with fail
          refine (HR.out _).mono ?_
          rintro e w4 ⟨rfl, b4⟩
          go_wp2
          go_ret
          exact ⟨rfl, up_trans (up_trans b1 b3) b4⟩
        · rw [if_neg hz] at hu2
          subst hu2
          have hz' : decide (0 < (s : Int)) = true := by simp; omega
          go_wp2_with fail
          refine (HR.out _).mono ?_
          rintro e w4 ⟨rfl, b4⟩
          go_wp2
          go_ret
          exact ⟨rfl, up_trans (up_trans b1 b3) b4⟩

theorem own : ownKnob Tryd.prog.godebug = none := by kernel_rfl

theorem table {W : World} (h : laidMetH Tryd.prog Rows.decTextsRow.laid W) : Tab W := by
  rw [MakeChecks.laidMetH_plain _ _ _ (by kernel_rfl)] at h
  obtain ⟨ps, ⟨g0, t0, cs0, f0, p0, q0, hg0, ht0, hv0, hd0, ⟨g1, t1, cs1, f1, p1, q1, hg1, ht1, hv1, hd1, ⟨g2, t2, cs2, f2, p2, q2, hg2, ht2, hv2, hd2, _, _⟩, _⟩, _⟩, _, _⟩ := h
  obtain rfl := Option.some.inj ((show Tryd.prog.globalNamed "internal/strconv.uint64pow10" = some 0 by kernel_rfl).symm.trans hg2)
  obtain rfl := Option.some.inj ((show (Tryd.prog.globals[0]?).map (·.type) = some 53 by kernel_rfl).symm.trans ht2)
  have e : (Rows.laid_internal_strconv_uint64pow10 : DataW Unit) = Lib.tabData .u64 Lib.pow10Tab := by kernel_rfl
  rw [e] at hd2
  unfold Tab Lib.TabIs
  rw [hv2, ← Lib.cells_of_tab Tryd.underlying53 Tryd.underlying47 (by kernel_rfl) (by kernel_rfl) hd2]

set_option maxRecDepth 100000 in
theorem lifted (os : Os) (started : os.Started) (H : Type) (enc : TypeId × Value → H) :
    ReturnsInHanded {} Tryd.checked os 5 .any (fun w args => (Rows.decTextsSpec.pre enc Tryd.prog Tryd.f5 Rows.decTextsRow.domain false w args ∧ laidMetH Tryd.prog Rows.decTextsRow.laid w) ∧ sizedMet enc Tryd.prog Tryd.f5 (OpenSpec.ofChange Rows.decTextsSpec) false w args)
      (Rows.decTextsSpec.post enc Tryd.prog Tryd.f5 false true false false) := by
  refine returnsInHanded_of_change_and (C := Tryd.checked) (X := fun w _ => laidMetH Tryd.prog Rows.decTextsRow.laid w) (fun _ _ _ hh h => h.of_heap hh) own started (by kernel_rfl) Tryd.func5
    (ChangeSpec.witness_shaped (enc := enc) (C := Tryd.checked) (os := os) (X := fun w _ => laidMetH Tryd.prog Rows.decTextsRow.laid w) false (World.laidAll Tryd.prog os Rows.decTextsRow.laid) #[.int .i64 0, .int .i64 0] 8 (World.laidAll_os _ _ _)
      (World.shaped_of_ZipB (by kernel_rfl) (by kernel_rfl)) (by kernel_rfl) (by kernel_rfl) (by kernel_rfl)
      (by rw [MakeChecks.laidMetH_plain _ _ _ (by kernel_rfl)]; exact laidMet_laidAll _ (by kernel_rfl) (by kernel_rfl))) ?_
  intro W base args ds gs before hval0 hW _ _ hL _
  have hval : ∀ (j : Nat) t v, Tryd.f5.params[j]? = some t → args[j]? = some v → Value.okWide Tryd.prog W .any base t v := hval0
  have hW' := hW
  obtain ⟨p, q, hA0, hV, rfl, hfz, hnd⟩ := hW
  have hA : DataW.TrodAll enc Tryd.prog W 0 (fun _ => true) true Tryd.f5.params.toList args.toList ds p := hA0
  rw [Tryd.params5] at hA hval
  obtain ⟨v0, vs0, d0, ds0, p0, q0, hargs, rfl, rfl, h0, r0⟩ := trodAll_cons hA
  obtain ⟨v1, vs1, d1, ds1, p1, q1, rfl, rfl, rfl, h1, r1⟩ := trodAll_cons r0
  obtain ⟨rfl, rfl, rfl⟩ := trodAll_nil r1
  obtain rfl : args = #[v0, v1] := by cases args; simp_all
  obtain ⟨rfl, rfl⟩ := trodVars_none hV
  obtain ⟨a0, rfl, rfl, rfl, w0⟩ := open_int Tryd.underlying3 (hval 0 3 v0 rfl rfl) h0
  obtain ⟨a1, rfl, rfl, rfl, w1⟩ := open_int Tryd.underlying3 (hval 1 3 v1 rfl rfl) h1
  clear hA0 hval0
  refine (walk a0 a1 W w0 w1 (table hL)).mono fun e W' ⟨he, bel⟩ => ?_
  subst he
  exact ⟨_, rfl, _, _, _, [], _, [], hW', trodAll_mk1 (shut_bool Tryd.underlying4 _), (trodAll_cons_mk (shut_int Tryd.underlying3 w0) (trodAll_cons_mk (shut_int Tryd.underlying3 w1) trodAll_mk0)), rfl, bel.frame _, fun h => by cases h⟩

theorem row_holds : Rows.DecTextsSaid :=
  OpenClaim.holds_of_wide 5 Tryd.f5 rfl rfl rfl rfl rfl rfl rfl ⟨rfl, rfl, rfl, rfl, rfl⟩ rfl rfl rfl rfl rfl (by kernel_rfl) Tryd.func5 (by kernel_rfl)
    (of_decide_eq_true (by kernel_rfl)) (by unfold Func.isWrapper; first | (rw [if_pos (by decide +kernel)]; kernel_rfl) | (rw [if_neg (by decide +kernel)]; exact ⟨rfl, rfl⟩))
    (fun os started H enc _ => lifted os started H enc)

theorem decTexts_holds : Rows.DecTextsCardSaid :=
  Claim7.holds_tied_plain_at .later [] _ _ _ _ row_holds (fun _ h => by cases h) (by kernel_rfl) (fun _ h => by cases h) decTexts_row_tie rfl ⟨rfl, rfl⟩ (by kernel_rfl) rfl
    (fun f fn hf hfn => by
      obtain rfl : f = 5 := Option.some.inj ((show Tryd.prog.funcNamed "interlocutor/interlocutorlaw2.DecTexts" = some 5 by kernel_rfl).symm.trans hf) |>.symm
      obtain rfl : fn = Tryd.f5 := (Option.some.inj (Tryd.func5.symm.trans hfn)).symm
      exact ⟨by kernel_rfl, fun j t ht => by
        rw [Tryd.params5] at ht
        have hm : t ∈ [3] := by simpa using Array.mem_of_getElem? ht
        have hall : ([3].all fun u => !Tryd.prog.wantsStandIn u) = true := by kernel_rfl
        exact (show Tryd.prog.wantsStandIn t = false by simpa using List.all_eq_true.1 hall t hm)⟩)
    (by kernel_rfl)

end Go.Proofs.YtoklknioeoodbaaDoor
