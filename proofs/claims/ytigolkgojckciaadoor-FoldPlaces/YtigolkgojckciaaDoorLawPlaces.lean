/- FoldPlaces answers true of any numbers and any bytes: places rise from nought to the end, by one to four, and there is one more than signs. The table of noughts reads as the program's text lays it. -/
import Derived.Test.YtigolkgojckciaaDoorCards
import Derived.Test.YtigolkgojckciaaDoorTie
import Derived.Test.YtigolkgojckciaaDoorSigns
import Derived.ProofKit
import Derived.OpenShut
import Derived.Lay
import Derived.SevenTiedAt
import Derived.Stop.Joined
import Derived.Lib.LaidTab
import Derived.Carry
namespace Go.Proofs.YtigolkgojckciaaDoor
open Go.ChangeShapes Go.WideShapes Go.ChangeAt Go.RowKit

theorem places_step : ∀ (p : Nat) (r : List (Nat × Nat)) (E : Int), (∀ x ∈ r, 1 ≤ x.2 ∧ x.2 ≤ 4) → E = (ends p r : Int) → ∀ j, j < r.length → (places p r ++ [E]).getD j 0 < (places p r ++ [E]).getD (j + 1) 0 ∧ (places p r ++ [E]).getD (j + 1) 0 ≤ (places p r ++ [E]).getD j 0 + 4
  | p, [], E, _, _, j, hj => by simp at hj
  | p, x :: r, E, h, hE, j, hj => by
    have hx := h x (by simp)
    cases j with
    | zero =>
      cases r with
      | nil =>
        simp [ends] at hE
        simp [places, hE]
        omega
      | cons y r =>
        simp [places]
        omega
    | succ j =>
      have := places_step (p + x.2) r E (fun y hy => h y (by simp [hy])) (by simpa [ends] using hE) j (by simpa using hj)
      simpa [places] using this

theorem places_first (p : Nat) (r : List (Nat × Nat)) (E : Int) (hE : E = (ends p r : Int)) : (places p r ++ [E]).getD 0 0 = (p : Int) := by
  cases r with
  | nil => simpa [places, ends] using hE
  | cons x r => simp [places]

theorem placesOf_first (l : List UInt8) : (placesOf l).getD 0 0 = 0 := by
  have := places_first 0 (signsOf l) (l.length : Int) (by have := signs_ends l.length l 0 (Nat.le_refl _); unfold signsOf; omega)
  simpa [placesOf] using this
theorem placesOf_last (l : List UInt8) : (placesOf l).getD (runesOf l).length 0 = (l.length : Int) := by
  unfold placesOf runesOf
  rw [List.length_map]
  have : (places 0 (signsOf l)).length = (signsOf l).length := places_length _ _
  simp [List.getD, this]
theorem placesOf_step (l : List UInt8) (j : Nat) (hj : j < (runesOf l).length) : (placesOf l).getD j 0 < (placesOf l).getD (j + 1) 0 ∧ (placesOf l).getD (j + 1) 0 ≤ (placesOf l).getD j 0 + 4 :=
  places_step 0 (signsOf l) (l.length : Int) (fun x hx => by have := signs_ok _ _ x hx; exact ⟨this.1, this.2.1⟩) (by have := signs_ends l.length l 0 (Nat.le_refl _); unfold signsOf; omega) j (by simpa [runesOf] using hj)
theorem places_bd : ∀ (p : Nat) (r : List (Nat × Nat)), ∀ x ∈ places p r, 0 ≤ x ∧ x ≤ (ends p r : Int)
  | p, [], x, h => by simp [places] at h
  | p, y :: r, x, h => by
    have hm : ∀ (q : Nat) (r : List (Nat × Nat)), q ≤ ends q r := by
      intro q r
      induction r generalizing q with
      | nil => exact Nat.le_refl _
      | cons z r ih => have := ih (q + z.2); simp only [ends]; omega
    have h1 := hm (p + y.2) r
    simp only [places, List.mem_cons] at h
    rcases h with rfl | h
    · simp only [ends]; omega
    · have := places_bd (p + y.2) r x h; simpa only [ends] using this
theorem placesOf_bd (l : List UInt8) (j : Nat) : 0 ≤ (placesOf l).getD j 0 ∧ (placesOf l).getD j 0 ≤ (l.length : Int) := by
  by_cases hj : j < (placesOf l).length
  · have hm : (placesOf l).getD j 0 ∈ placesOf l := by simp [List.getD, hj]
    have he := signs_ends l.length l 0 (Nat.le_refl _)
    generalize (placesOf l).getD j 0 = x at *
    unfold placesOf at hm
    rcases List.mem_append.1 hm with h | h
    · have := places_bd 0 _ x h
      unfold signsOf at this
      omega
    · simp at h; omega
  · simp [List.getD, hj]

theorem walk (v0 : Value) (ns : List Int) (v1 : Value) (raw : List Int) (w : World) (h0 : Arg w .i64 v0 ns) (h1 : Arg w .u8 v1 raw) (hT : Tab w) :
    Calls Tryd.prog 6 #[v0, v1] w fun e w' => e = .returned (.bool true) ∧ Below w.heap.size w w' := by
  have HK := hid (known_any w hT)
  have HS := hid (fun (W : World) (hb : Below w.heap.size w W) (hr : raw.length ≤ 60) => signs_any v0 v1 ns raw W (h0.on hb) (h1.on hb) hr)
  obtain ⟨ad0, cap0, rfl, _, _, _, _, _⟩ := h0
  obtain ⟨ad1, cap1, rfl, hl1, hm1, _, _, _⟩ := h1
  unfold maxLen at hm1
  have HT := hid hT
  clear hT
  by_cases hr : raw.length ≤ 60
  · go_enter Tryd.func6, Tryd.ntmps6
    go_wp2_with fail
    refine HK.out.mono ?_
    rintro e w1 ⟨rfl, bel⟩
    have HT1 := hid (HT.out.on bel)
    have HL1 := hid bel
    clear bel
    go_wp2_with fail
    refine (HS.out w1 HL1.out hr).mono ?_
    rintro e w2 ⟨s, rfl, hs, bel⟩
    have HT2 := hid (HT1.out.on bel)
    have HL2 := hid (up_trans HL1.out bel)
    have hl : s.data.toList.length = s.size := (Lib.size_eq s).symm
    have hrl := runesOf_length s.data.toList
    have hpl := placesOf_length s.data.toList
    have p0 := placesOf_first s.data.toList
    have p1 := placesOf_last s.data.toList
    have p2 := placesOf_step s.data.toList
    have p3 := placesOf_bd s.data.toList
    have HF := hid (fold_walk s w2 (by omega) HT2.out)
    clear bel HT1 HL1 HS
    rw [hl] at p1 p3 hrl
    generalize placesOf s.data.toList = ps at *
    obtain ⟨n, hn⟩ : ∃ n, n = (runesOf s.data.toList).length := ⟨_, rfl⟩
    rw [← hn] at HF hpl p1 p2 hrl
    generalize runesOf s.data.toList = rs at *
    have HP0 := hid p0
    have HP1 := hid p1
    have HP2 := hid p2
    have HP3 := hid p3
    have HPL := hid hpl
    clear p0 p1 p2 p3 hpl hn hl
    go_wp2_with fail
    refine HF.out.mono ?_
    rintro e w3 ⟨g1, g2, c1, c2, rfl, k1, k2, H1, H2, b1, b2, bel⟩
    have HL3 := hid (up_trans HL2.out bel)
    have HH := hid H2
    have x0 : w3.cell? ⟨g2, 0, none⟩ = some (.int .i64 0) := by
      have := H2 0 (by have := HPL.out; omega)
      rw [HP0.out] at this
      simpa using this
    have x1 : w3.cell? ⟨g2, n, none⟩ = some (.int .i64 (s.size : Int)) := by
      have := H2 n (by have := HPL.out; omega)
      rw [HP1.out, Nat.zero_add] at this
      exact this
    clear bel HT2 HL2 H1 H2 b1 b2
    go_wp2
    clear x0 x1
    go_loopw [8] (fun v wr => ∃ j : Nat, j ≤ n ∧ v = .int .i64 j ∧ Below w3.heap.size w3 wr) (fun v _ => n - (intOf v).toNat)
    case atStart => exact ⟨0, by omega, rfl, Below.refl _ _⟩
    case round =>
      obtain ⟨j, hj, rfl, hb⟩ := hrel
      by_cases hlt : j < n
      · have hp := HP2.out j hlt
        have q0 := HP3.out j
        have y0 := (HH.out.on hb) j (by have := HPL.out; omega)
        have y1 := (HH.out.on hb) (j + 1) (by have := HPL.out; omega)
        rw [Nat.zero_add] at y0 y1
        generalize ps.getD j 0 = z0 at *
        generalize ps.getD (j + 1) 0 = z1 at *
        have HB := hid hb
        clear hb
        have e1 : IntKind.i64.wrap ((j : Int) + 1) = (j : Int) + 1 := by rw [IntKind.wrap_i64]; omega
        have e2 : IntKind.i64.wrap (z0 + 4) = z0 + 4 := by rw [IntKind.wrap_i64]; omega
        have e3 : decide (z1 ≤ z0) = false := by simp; omega
        have e4 : decide (z0 + 4 < z1) = false := by simp; omega
        have i1 : (j : Int) < (n : Int) + 1 := by omega
        have i2 : (j : Int) + 1 < (n : Int) + 1 := by omega
        have i3 : (0 : Int) ≤ (j : Int) + 1 := by omega
        go_wp2
        go_quiet (fail)
        go_wp2
        go_roundw
        case rel => exact ⟨j + 1, by omega, by simp, below_drewN HB.out _⟩
        case measure => simp [intOf]; omega
      · obtain rfl : j = n := by omega
        have HB := hid hb
        clear hb
        go_wp2
        go_ret
        exact ⟨rfl, up_trans HL3.out HB.out⟩
  · have hr2 : 60 < raw.length := by omega
    go_enter Tryd.func6, Tryd.ntmps6
    go_wp2_with fail
    refine HK.out.mono ?_
    rintro e w1 ⟨rfl, bel⟩
    have HL1 := hid bel
    clear bel
    go_wp2
    go_ret
    exact ⟨rfl, HL1.out⟩

theorem own : ownKnob Tryd.prog.godebug = none := by kernel_rfl

theorem table {W : World} (h : laidMetH Tryd.prog Rows.foldPlacesRow.laid W) : Tab W := by
  rw [MakeChecks.laidMetH_plain _ _ _ (by kernel_rfl)] at h
  have hn : Tryd.prog.globalNamed "interlocutor/fold.noughts" = some 0 := by kernel_rfl
  have hT := Lib.tabIs_of_head (k := .i64) (zs := [48, 1632, 1776, 2406]) hn (show (Tryd.prog.globals[0]?).map (·.type) = some 55 by kernel_rfl) Tryd.underlying55 Tryd.underlying49 (by kernel_rfl) (by kernel_rfl) h
  exact ⟨hT.cell hn 0 (by decide), hT.cell hn 1 (by decide), hT.cell hn 2 (by decide), hT.cell hn 3 (by decide)⟩

set_option maxRecDepth 100000 in
theorem lifted (os : Os) (started : os.Started) (H : Type) (enc : TypeId × Value → H) :
    ReturnsInHanded {} Tryd.checked os 6 .any (fun w args => (Rows.foldPlacesSpec.pre enc Tryd.prog Tryd.f6 Rows.foldPlacesRow.domain false w args ∧ laidMetH Tryd.prog Rows.foldPlacesRow.laid w) ∧ sizedMet enc Tryd.prog Tryd.f6 (OpenSpec.ofChange Rows.foldPlacesSpec) false w args)
      (Rows.foldPlacesSpec.post enc Tryd.prog Tryd.f6 false true false false) := by
  refine returnsInHanded_of_change_and (C := Tryd.checked) (X := fun w _ => laidMetH Tryd.prog Rows.foldPlacesRow.laid w) (fun _ _ _ hh h => h.of_heap hh) own started (by kernel_rfl) Tryd.func6
    (ChangeSpec.witness_shaped (enc := enc) (C := Tryd.checked) (os := os) (X := fun w _ => laidMetH Tryd.prog Rows.foldPlacesRow.laid w) false (World.laidAll Tryd.prog os Rows.foldPlacesRow.laid) #[.slice none 0 0, .slice none 0 0] 8 (World.laidAll_os _ _ _)
      (World.shaped_of_ZipB (by kernel_rfl) (by kernel_rfl)) (by kernel_rfl) (by kernel_rfl) (by kernel_rfl)
      (by rw [MakeChecks.laidMetH_plain _ _ _ (by kernel_rfl)]; exact laidMet_laidAll _ (by kernel_rfl) (by kernel_rfl))) ?_
  intro W base args ds gs before hval0 hW _ _ hL _
  have hval : ∀ (j : Nat) t v, Tryd.f6.params[j]? = some t → args[j]? = some v → Value.okWide Tryd.prog W .any base t v := hval0
  have hW' := hW
  obtain ⟨p, q, hA0, hV, rfl, hfz, hnd⟩ := hW
  have hA : DataW.TrodAll enc Tryd.prog W 0 (fun _ => true) true Tryd.f6.params.toList args.toList ds p := hA0
  rw [Tryd.params6] at hA hval
  obtain ⟨v0, vs0, d0, ds0, p0, q0, hargs, rfl, rfl, h0, r0⟩ := trodAll_cons hA
  obtain ⟨v1, vs1, d1, ds1, p1, q1, rfl, rfl, rfl, h1, r1⟩ := trodAll_cons r0
  obtain ⟨rfl, rfl, rfl⟩ := trodAll_nil r1
  obtain rfl : args = #[v0, v1] := by cases args; simp_all
  obtain ⟨rfl, rfl⟩ := trodVars_none hV
  obtain ⟨x0, w0⟩ := arg_of Tryd.underlying22 Tryd.underlying3 (by kernel_rfl) (hval 0 22 v0 rfl rfl) h0
  have l0 : ∀ x ∈ p0, x.block < W.heap.size := fun x hx => hW'.lt x (by simp [hx])
  obtain ⟨x1, w1⟩ := arg_of Tryd.underlying23 Tryd.underlying5 (by kernel_rfl) (hval 1 23 v1 rfl rfl) h1
  have l1 : ∀ x ∈ p1, x.block < W.heap.size := fun x hx => hW'.lt x (by simp [hx])
  clear hA0 hval0
  refine (walk v0 x0 v1 x1 W w0 w1 (table hL)).mono fun e W' ⟨he, bel⟩ => ?_
  subst he
  exact ⟨_, rfl, _, _, _, _, _, [], hW', trodAll_mk1 (shut_bool Tryd.underlying4 _), (trodAll_cons_mk (Below.trod (by kernel_rfl) (by kernel_rfl) (of_decide_eq_true (by kernel_rfl)) h0 bel l0) (trodAll_cons_mk (Below.trod (by kernel_rfl) (by kernel_rfl) (of_decide_eq_true (by kernel_rfl)) h1 bel l1) trodAll_mk0)), rfl, bel.frame _, fun h => by cases h⟩

theorem row_holds : Rows.FoldPlacesSaid :=
  OpenClaim.holds_of_wide 6 Tryd.f6 rfl rfl rfl rfl rfl rfl rfl ⟨rfl, rfl, rfl, rfl, rfl⟩ rfl rfl rfl rfl rfl (by kernel_rfl) Tryd.func6 (by kernel_rfl)
    (of_decide_eq_true (by kernel_rfl)) (by unfold Func.isWrapper; first | (rw [if_pos (by decide +kernel)]; kernel_rfl) | (rw [if_neg (by decide +kernel)]; exact ⟨rfl, rfl⟩))
    (fun os started H enc _ => lifted os started H enc)

theorem foldPlaces_holds : Rows.FoldPlacesCardSaid :=
  Claim7.holds_tied_plain_at .later [] _ _ _ _ row_holds (fun _ h => by cases h) (by kernel_rfl) (fun _ h => by cases h) foldPlaces_row_tie rfl ⟨rfl, rfl⟩ (by kernel_rfl) rfl
    (fun f fn hf hfn => by
      obtain rfl : f = 6 := Option.some.inj ((show Tryd.prog.funcNamed "interlocutor/interlocutorlaw3.FoldPlaces" = some 6 by kernel_rfl).symm.trans hf) |>.symm
      obtain rfl : fn = Tryd.f6 := (Option.some.inj (Tryd.func6.symm.trans hfn)).symm
      exact ⟨by kernel_rfl, fun j t ht => by
        rw [Tryd.params6] at ht
        have hm : t ∈ [22, 23] := by
          have := Array.mem_of_getElem? ht
          simp at this ⊢
          omega
        have hall : ([22, 23].all fun u => !Tryd.prog.wantsStandIn u) = true := by kernel_rfl
        exact (show Tryd.prog.wantsStandIn t = false by simpa using List.all_eq_true.1 hall t hm)⟩)
    (by kernel_rfl)

end Go.Proofs.YtigolkgojckciaaDoor
