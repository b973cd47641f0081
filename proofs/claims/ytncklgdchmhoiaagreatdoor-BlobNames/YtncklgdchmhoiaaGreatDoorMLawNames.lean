/- BlobNames answers true of any two names: whether one or two locales of these names may be is the document's; two of one name may not. The table of gram's places and fold's noughts is as listed. -/
import Derived.Test.YtncklgdchmhoiaaGreatDoorCards
import Derived.Test.YtncklgdchmhoiaaGreatDoorTie
import Derived.Test.YtncklgdchmhoiaaGreatDoorTe
import Derived.ProofKit
import Derived.OpenShut
import Derived.Lay
import Derived.SevenTiedAt
import Derived.Stop.Joined
import Derived.Lib.LaidTab
namespace Go.Proofs.YtncklgdchmhoiaaGreatDoor
open Go.ChangeShapes Go.WideShapes Go.ChangeAt Go.RowKit Gr

def named (s : ByteArray) : Locale := ⟨s, -1, 0, [], [], []⟩
theorem named_small (l : List ByteArray) (h : ∀ s ∈ l, s.size ≤ 60) : Small (l.map named) := fun x hx => by
  obtain ⟨s, hs, rfl⟩ := List.mem_map.1 hx
  have := h s hs
  exact ⟨by simp [named], by simp [named], by simp [named], by simp only [named]; omega⟩
theorem named_at (w : World) (a b : ByteArray) (g : Nat) (hg : g = w.heap.size) : LocalesAt (w.alloc (.cells #[.string a, .int .i64 (-1), .int .i64 0, .slice none 0 0, .slice none 0 0, .slice none 0 0, .string b, .int .i64 (-1), .int .i64 0, .slice none 0 0, .slice none 0 0, .slice none 0 0] 44)) (.slice (some ⟨g, 0, none⟩) 2 2) [named a, named b] := by
  have o := own_lit w 44 6 2 g #[.string a, .int .i64 (-1), .int .i64 0, .slice none 0 0, .slice none 0 0, .slice none 0 0, .string b, .int .i64 (-1), .int .i64 0, .slice none 0 0, .slice none 0 0, .slice none 0 0] [.string a, .int .i64 (-1), .int .i64 0, .slice none 0 0, .slice none 0 0, .slice none 0 0, .string b, .int .i64 (-1), .int .i64 0, .slice none 0 0, .slice none 0 0, .slice none 0 0] rfl hg rfl (by decide)
  exact Locales_own (xs := [named a, named b]) o ((LocaleC.one _ (named a) _ _ _ (EntriesAt.nil _) (RulesOk.nil _) (StylesAt.nil _) rfl rfl rfl).append (LocaleC.one _ (named b) _ _ _ (EntriesAt.nil _) (RulesOk.nil _) (StylesAt.nil _) rfl rfl rfl)) (by simp)
theorem twice (a : ByteArray) : rightL [named a, named a] = false := by
  cases h : rightL [named a, named a] with
  | false => rfl
  | true =>
    have h1 := rightL_at h (i := 1) (by simp)
    simp [rightAt, takenAt] at h1

set_option maxRecDepth 8000 in
theorem walk (a b : ByteArray) (w : World) (_ : a.size ≤ maxLen) (_ : b.size ≤ maxLen) (hT : Tabs w) :
    Calls Tryz.prog 8 #[.string a, .string b] w fun e w' => e = .returned (.bool true) ∧ Below w.heap.size w w' := by
  have HK := hid (known_any w hT)
  have HT := hid hT
  clear hT
  go_enter Tryz.func8, Tryz.ntmps8
  go_wp2_with fail
  refine HK.out.mono ?_
  rintro e w1 ⟨rfl, hb1⟩
  have HB1 := hid hb1
  clear hb1 HK
  by_cases h0 : a.size ≤ 60 ∧ b.size ≤ 60
  · obtain ⟨ha, hb⟩ := h0
    have ha2 : ¬ (60 : Int) < (a.size : Int) := by omega
    have hb2 : ¬ (60 : Int) < (b.size : Int) := by omega
    have HA := hid (named_at w1 a b _ rfl)
    have HU := hid (up_alloc w1 (.cells #[.string a, .int .i64 (-1), .int .i64 0, .slice none 0 0, .slice none 0 0, .slice none 0 0, .string b, .int .i64 (-1), .int .i64 0, .slice none 0 0, .slice none 0 0, .slice none 0 0] 44))
    have HS := hid (named_small [a, b] (fun s hs => by simp at hs; rcases hs with rfl | rfl <;> assumption))
    go_wp2_with fail
    obtain ⟨w2, hw2⟩ : ∃ w2, w2 = w1.alloc (.cells #[.string a, .int .i64 (-1), .int .i64 0, .slice none 0 0, .slice none 0 0, .slice none 0 0, .string b, .int .i64 (-1), .int .i64 0, .slice none 0 0, .slice none 0 0, .slice none 0 0] 44) := ⟨_, rfl⟩
    rw [← hw2] at HA HU ⊢
    obtain ⟨g, hg⟩ : ∃ g, g = w1.heap.size := ⟨_, rfl⟩
    rw [← hg] at HA ⊢
    have HB2 := hid (up_trans HB1.out HU.out)
    clear hw2 hg HU HB1
    have HR : Hid (∀ (s : Ext w2) (m : Nat), (m = 2 ∨ m = 1) → Calls Tryz.prog 16 #[.slice (some ⟨g, 0, none⟩) m 2] s.out fun e w' => e = .returned (.bool (rightL ([named a, named b].take m))) ∧ Below s.out.heap.size s.out w') := hid (fun s m hm => bright_any _ _ s.out ((HA.out.on s.below).take m (by rcases hm with rfl | rfl <;> simp)) (fun x hx => HS.out x (List.mem_of_mem_take hx)) ((HT.out.on HB2.out).on s.below))
    have HF : Hid (∀ (s : Ext w2) (m : Nat), (m = 2 ∨ m = 1) → Calls Tryz.prog 22 #[.slice (some ⟨g, 0, none⟩) m 2] s.out fun e w' => e = .returned (.bool (rightL ([named a, named b].take m))) ∧ Below s.out.heap.size s.out w') := hid (fun s m hm => refright_any _ _ s.out ((HA.out.on s.below).take m (by rcases hm with rfl | rfl <;> simp)) (fun x hx => HS.out x (List.mem_of_mem_take hx)))
    have HTW : Hid (a = b → rightL ([named a, named b].take 2) = false) := hid (fun e => by subst e; exact twice a)
    obtain ⟨r, hr⟩ : ∃ r : Nat → Bool, r = fun m => rightL ([named a, named b].take m) := ⟨_, rfl⟩
    have HR2 : Hid (∀ (s : Ext w2) (m : Nat), (m = 2 ∨ m = 1) → Calls Tryz.prog 16 #[.slice (some ⟨g, 0, none⟩) m 2] s.out fun e w' => e = .returned (.bool (r m)) ∧ Below s.out.heap.size s.out w') := hid (by rw [hr]; exact HR.out)
    have HF2 : Hid (∀ (s : Ext w2) (m : Nat), (m = 2 ∨ m = 1) → Calls Tryz.prog 22 #[.slice (some ⟨g, 0, none⟩) m 2] s.out fun e w' => e = .returned (.bool (r m)) ∧ Below s.out.heap.size s.out w') := hid (by rw [hr]; exact HF.out)
    have HTW2 : Hid (a = b → r 2 = false) := hid (by rw [hr]; exact HTW.out)
    clear hr HR HF HTW HS HA HT
    by_cases q : a = b
    · subst q
      have hr2 := HTW2.out rfl
      clear HTW2
      refine wp_region_ext2 (by kernel_rfl) (by kernel_rfl) (fun hne hcell => ?_)
      clear hcell
      repeat (go_big_quiet_step ((first | (go_at_call 16; exact (HR2.out _ _ (by first | exact Or.inl rfl | exact Or.inr rfl)).mono (fun e w' h => ⟨h.1, Ext.to _ h.2⟩)) | (go_at_call 22; exact (HF2.out _ _ (by first | exact Or.inl rfl | exact Or.inr rfl)).mono (fun e w' h => ⟨h.1, Ext.to _ h.2⟩)))))
      refine wpQuiet_nil ?_
      rintro _ ⟨s, rfl⟩
      go_wp2
      go_ret
      exact ⟨rfl, up_trans HB2.out s.below⟩
    · have q2 : (a.toList == b.toList) = false := by have := toList_inj q; simpa using this
      refine wp_region_ext2 (by kernel_rfl) (by kernel_rfl) (fun hne hcell => ?_)
      clear hcell
      repeat (go_big_quiet_step ((first | (go_at_call 16; exact (HR2.out _ _ (by first | exact Or.inl rfl | exact Or.inr rfl)).mono (fun e w' h => ⟨h.1, Ext.to _ h.2⟩)) | (go_at_call 22; exact (HF2.out _ _ (by first | exact Or.inl rfl | exact Or.inr rfl)).mono (fun e w' h => ⟨h.1, Ext.to _ h.2⟩)))))
      refine wpQuiet_nil ?_
      rintro _ ⟨s, rfl⟩
      go_wp2
      go_ret
      exact ⟨rfl, up_trans HB2.out s.below⟩
  · by_cases ha : a.size ≤ 60
    · have ha2 : ¬ (60 : Int) < (a.size : Int) := by omega
      have hb2 : (60 : Int) < (b.size : Int) := by omega
      go_wp2
      go_ret
      exact ⟨rfl, HB1.out⟩
    · have ha2 : (60 : Int) < (a.size : Int) := by omega
      go_wp2
      go_ret
      exact ⟨rfl, HB1.out⟩

theorem own : ownKnob Tryz.prog.godebug = none := by kernel_rfl

theorem table {W : World} (h : laidMetH Tryz.prog Rows.blobNamesRow.laid W) : Tabs W := by
  rw [MakeChecks.laidMetH_plain _ _ _ (by kernel_rfl)] at h
  exact tabs_of_laid h

set_option maxRecDepth 100000 in
theorem lifted (os : Os) (started : os.Started) (H : Type) (enc : TypeId × Value → H) :
    ReturnsInHanded {} Tryz.checked os 8 .any (fun w args => (Rows.blobNamesSpec.pre enc Tryz.prog Tryz.f8 Rows.blobNamesRow.domain false w args ∧ laidMetH Tryz.prog Rows.blobNamesRow.laid w) ∧ sizedMet enc Tryz.prog Tryz.f8 (OpenSpec.ofChange Rows.blobNamesSpec) false w args)
      (Rows.blobNamesSpec.post enc Tryz.prog Tryz.f8 false true false false) := by
  refine returnsInHanded_of_change_and (C := Tryz.checked) (X := fun w _ => laidMetH Tryz.prog Rows.blobNamesRow.laid w) (fun _ _ _ hh h => h.of_heap hh) own started (by kernel_rfl) Tryz.func8
    (ChangeSpec.witness_shaped (enc := enc) (C := Tryz.checked) (os := os) (X := fun w _ => laidMetH Tryz.prog Rows.blobNamesRow.laid w) false (World.laidAll Tryz.prog os Rows.blobNamesRow.laid) #[.string ⟨#[]⟩, .string ⟨#[]⟩] 8 (World.laidAll_os _ _ _)
      (World.shaped_of_ZipB (by kernel_rfl) (by kernel_rfl)) (by kernel_rfl) (by kernel_rfl) (by kernel_rfl)
      (by rw [MakeChecks.laidMetH_plain _ _ _ (by kernel_rfl)]; exact laidMet_laidAll _ (by kernel_rfl) (by kernel_rfl))) ?_
  intro W base args ds gs before hval0 hW _ _ hL _
  have hval : ∀ (j : Nat) t v, Tryz.f8.params[j]? = some t → args[j]? = some v → Value.okWide Tryz.prog W .any base t v := hval0
  have hW' := hW
  obtain ⟨p, q, hA0, hV, rfl, hfz, hnd⟩ := hW
  have hA : DataW.TrodAll enc Tryz.prog W 0 (fun _ => true) true Tryz.f8.params.toList args.toList ds p := hA0
  rw [Tryz.params8] at hA hval
  obtain ⟨v0, vs0, d0, ds0, p0, q0, hargs, rfl, rfl, h0, r0⟩ := trodAll_cons hA
  obtain ⟨v1, vs1, d1, ds1, p1, q1, rfl, rfl, rfl, h1, r1⟩ := trodAll_cons r0
  obtain ⟨rfl, rfl, rfl⟩ := trodAll_nil r1
  obtain rfl : args = #[v0, v1] := by cases args; simp_all
  obtain ⟨rfl, rfl⟩ := trodVars_none hV
  obtain ⟨a0, rfl, rfl, rfl, w0⟩ := ChangeMaps.open_string Tryz.underlying9 (hval 0 9 v0 rfl rfl) h0
  obtain ⟨a1, rfl, rfl, rfl, w1⟩ := ChangeMaps.open_string Tryz.underlying9 (hval 1 9 v1 rfl rfl) h1
  clear hA0 hval0
  refine (walk a0 a1 W w0 w1 (table hL)).mono fun e W' ⟨he, bel⟩ => ?_
  subst he
  exact ⟨_, rfl, _, _, _, [], _, [], hW', trodAll_mk1 (shut_bool Tryz.underlying4 _), (trodAll_cons_mk (ChangeMaps.shut_string Tryz.underlying9 w0) (trodAll_cons_mk (ChangeMaps.shut_string Tryz.underlying9 w1) trodAll_mk0)), rfl, bel.frame _, fun h => by cases h⟩

theorem row_holds : Rows.BlobNamesSaid :=
  OpenClaim.holds_of_wide 8 Tryz.f8 rfl rfl rfl rfl rfl rfl rfl ⟨rfl, rfl, rfl, rfl, rfl⟩ rfl rfl rfl rfl rfl (by kernel_rfl) Tryz.func8 (by kernel_rfl)
    (of_decide_eq_true (by kernel_rfl)) (by unfold Func.isWrapper; first | (rw [if_pos (by decide +kernel)]; kernel_rfl) | (rw [if_neg (by decide +kernel)]; exact ⟨rfl, rfl⟩))
    (fun os started H enc _ => lifted os started H enc)

theorem blobNames_holds : Rows.BlobNamesCardSaid :=
  Claim7.holds_tied_plain_at .later [] _ _ _ _ row_holds (fun _ h => by cases h) (by kernel_rfl) (fun _ h => by cases h) blobNames_row_tie rfl ⟨rfl, rfl⟩ (by kernel_rfl) rfl
    (fun f fn hf hfn => by
      obtain rfl : f = 8 := Option.some.inj ((show Tryz.prog.funcNamed "interlocutor/interlocutorlaw5.BlobNames" = some 8 by kernel_rfl).symm.trans hf) |>.symm
      obtain rfl : fn = Tryz.f8 := (Option.some.inj (Tryz.func8.symm.trans hfn)).symm
      exact ⟨by kernel_rfl, fun j t ht => by
        rw [Tryz.params8] at ht
        have hm : t ∈ [9, 9] := by simpa using Array.mem_of_getElem? ht
        have hall : ([9, 9].all fun u => !Tryz.prog.wantsStandIn u) = true := by kernel_rfl
        exact (show Tryz.prog.wantsStandIn t = false by simpa using List.all_eq_true.1 hall t hm)⟩)
    (by kernel_rfl)

end Go.Proofs.YtncklgdchmhoiaaGreatDoor
