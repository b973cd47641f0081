/- RenderLong: a text of 81 bytes and 20 for each further part; 256 at most. -/
import Derived.Test.YtannndpamhgknaaGreatDoorCards
import Derived.Test.YtannndpamhgknaaGreatDoorTie
import Derived.Test.YtannndpamhgknaaGreatDoorXRe6
import Derived.ProofKit
import Derived.OpenShut
import Derived.Lay
import Derived.SevenTiedAt
import Derived.Stop.Joined
import Derived.Lib.LaidTab
namespace Go.Proofs.YtannndpamhgknaaGreatDoor
open Go.ChangeShapes Go.WideShapes Go.ChangeAt Go.RowKit Gr Bl

def partF (f wd : Int) : Part := ⟨1, ⟨#[]⟩, f, wd, 0⟩
def partT (s : ByteArray) : Part := ⟨0, s, 0, 0, 0⟩
def twenty : ByteArray := ⟨#[49, 50, 51, 52, 53, 54, 55, 56, 57, 48, 49, 50, 51, 52, 53, 54, 55, 56, 57, 48]⟩
def longP (k : Nat) : List Part := [partF 0 9, partF 0 9, partF 0 9] ++ List.replicate k (partT twenty)
theorem long_yes : ∀ k : Nat, k < 10 → 81 + 20 * k ≤ 256 → (writeL 3 [] [⟨9, longP k⟩] 0 9 [7]).2 = 0 := by decide +kernel
theorem long_no : ∀ k : Nat, k < 10 → ¬ 81 + 20 * k ≤ 256 → writeL 3 [] [⟨9, longP k⟩] 0 9 [7] = ([], 6) := by decide +kernel
theorem long_ok : ∀ k : Nat, k < 10 → styleOk ⟨9, longP k⟩ = true := by decide +kernel
theorem longC (k : Nat) : (longP (k + 1)).flatMap partCells = (longP k).flatMap partCells ++ partCells (partT twenty) := by
  unfold longP
  rw [List.replicate_succ', ← List.append_assoc, List.flatMap_append]
  simp
theorem longL (k : Nat) : (longP k).length = 3 + k := by unfold longP; simp; omega
theorem info_partR : (Tryz.prog.info? 51).map (fun i => (i.zero, i.size, i.bytes)) = some (some (.agg #[.int .i64 0, .string ⟨#[]⟩, .int .i64 0, .int .i64 0, .int .i64 0]), 5, 48) := by kernel_rfl

theorem style_one {w : World} {g : Nat} {t : TypeId} {k : Int} {pv : Value} {ps : List Part} (hr : w.heap[g]? = some (.cells #[.int .i64 k, pv] t (0, 0))) (hp : PartsAt w pv ps) : StylesAt w (.slice (some ⟨g, 0, none⟩) 1 1) [⟨k, ps⟩] := by
  refine ⟨some ⟨g, 0, none⟩, 1, rfl, by simp, ⟨fun h => (by cases h), by simp⟩, fun j hj => ?_⟩
  obtain rfl : j = 0 := by simp at hj; exact hj
  exact ⟨g, 0, rfl, pv, by rw [Gr.cell_of_row _ _ _ _ _ _ hr]; rfl, by rw [Gr.cell_of_row _ _ _ _ _ _ hr]; rfl, hp⟩
def longLo (k : Nat) : Locale := ⟨⟨#[]⟩, 0, 3, [], [], [⟨9, longP k⟩]⟩
theorem long_good (k : Nat) (hk : k < 10) : LocG (longLo k) := ⟨(show (0 : Int) ≤ 3 by decide), (show (3 : Int) < 4 by decide), (fun x hx => by cases hx), fun s hs => by
  obtain rfl : s = ⟨9, longP k⟩ := by simpa [longLo] using hs
  exact sty_ok (long_ok k hk)⟩
theorem own_off {w : World} {B n size S : Nat} {e t : TypeId} {v : Value} {cs : List Value} {cur : Array Value} (h : w.ownsRow B e size v n cs) (hS : w.heap[S]? = some (.cells cur t (0, 0))) (ht : e ≠ t) : v.ownBlock ≠ some S := by
  obtain ⟨_, ⟨rfl, _⟩ | ⟨g, cap, cur', rfl, _, hg, _⟩⟩ := h
  · intro e; cases e
  · intro e
    injection e with e
    subst e
    rw [hg] at hS
    injection hS with hS
    injection hS with _ hS
    exact ht hS
set_option maxRecDepth 8000 in
set_option maxHeartbeats 2000000 in
theorem walk (n : Int) (W : World) (_ : (Lit.int .i64 n).wf = true) (hT : TabR W) : Calls Tryz.prog 6 #[.int .i64 n] W fun e W' => e = .returned (.bool true) ∧ Below W.heap.size W W' := by
  obtain ⟨kn, hkn⟩ : ∃ kn : Nat, n % 10 = kn := ⟨(n % 10).toNat, by omega⟩
  have hk10 : kn < 10 := by omega
  have HT := hid hT
  have HK := hid (known_any W hT)
  have HW := hid (fun w => within_any n 10 w (by decide) (by decide))
  have HP := hid (fun w => lpart_any 0 9 w)
  have HKN := hid hkn
  clear hT hkn
  go_enter Tryz.func6, Tryz.ntmps6
  go_wp2_with fail
  refine HK.out.mono ?_
  rintro e w1 ⟨rfl, hb1⟩
  have HB1 := hid hb1
  clear hb1 HK
  go_wp2_with fail
  refine (HW.out w1).mono ?_
  rintro e w1' ⟨rfl, rfl⟩
  rw [HKN.out]
  clear HW
  go_wp2_with fail
  refine (HP.out _).mono ?_
  rintro e w2 ⟨rfl, hb2⟩
  go_wp2_with fail
  refine (HP.out _).mono ?_
  rintro e w3 ⟨rfl, hb3⟩
  go_wp2_with fail
  refine (HP.out _).mono ?_
  rintro e w4 ⟨rfl, hb4⟩
  have HB4 := hid (up_trans HB1.out (up_trans hb2 (up_trans hb3 hb4)))
  clear hb2 hb3 hb4 HP
  go_wp2
  have HR0 := hid (row_new1 w4 (.cells #[.int .i64 1, .string ⟨#[]⟩, .int .i64 0, .int .i64 9, .int .i64 0, .int .i64 1, .string ⟨#[]⟩, .int .i64 0, .int .i64 9, .int .i64 0, .int .i64 1, .string ⟨#[]⟩, .int .i64 0, .int .i64 9, .int .i64 0] 51) (.cells #[.int .i64 9, .slice (some ⟨w4.heap.size, 0, none⟩) 3 3] 37))
  have HO0 := hid (World.ownsRow.alloc (World.ownsRow_lit (base := w4.heap.size) (e := 51) (size := 5) w4 #[.int .i64 1, .string ⟨#[]⟩, .int .i64 0, .int .i64 9, .int .i64 0, .int .i64 1, .string ⟨#[]⟩, .int .i64 0, .int .i64 9, .int .i64 0, .int .i64 1, .string ⟨#[]⟩, .int .i64 0, .int .i64 9, .int .i64 0] 3 (Nat.le_refl _) (by unfold maxLen; omega) rfl) (.cells #[.int .i64 9, .slice (some ⟨w4.heap.size, 0, none⟩) 3 3] 37))
  have HU0 := hid (up_trans (up_alloc w4 (.cells #[.int .i64 1, .string ⟨#[]⟩, .int .i64 0, .int .i64 9, .int .i64 0, .int .i64 1, .string ⟨#[]⟩, .int .i64 0, .int .i64 9, .int .i64 0, .int .i64 1, .string ⟨#[]⟩, .int .i64 0, .int .i64 9, .int .i64 0] 51)) (up_alloc _ (.cells #[.int .i64 9, .slice (some ⟨w4.heap.size, 0, none⟩) 3 3] 37)))
  go_loopw [5] (fun v5 wr => ∃ j : Nat, j ≤ kn ∧ v5 = .int .i64 j ∧ ∃ pv, wr.heap[w4.heap.size + 1]? = some (.cells #[.int .i64 9, pv] 37 (0, 0)) ∧ wr.ownsRow w4.heap.size 51 5 pv (3 + j) ((longP j).flatMap partCells) ∧ Below w4.heap.size w4 wr) (fun v _ => kn - (intOf v).toNat)
  case atStart => exact ⟨0, by omega, rfl, _, HR0.out, HO0.out, HU0.out⟩
  case round =>
    obtain ⟨j, hj, rfl, pv, hrow, hown, hb⟩ := hrel
    obtain ⟨adv, capv, rfl, _⟩ := own_shape hown
    have HOW := hid hown
    have HB := hid hb
    have HRW := hid hrow
    have c0 : wr.cell? ⟨w4.heap.size + 1, 0, none⟩ = some (.int .i64 9) := by rw [Gr.cell_of_row _ _ _ _ _ _ hrow]; rfl
    have c1 : wr.cell? ⟨w4.heap.size + 1, 1, none⟩ = some (.slice adv (3 + j) capv) := by rw [Gr.cell_of_row _ _ _ _ _ _ hrow]; rfl
    clear hb hrow HR0 HO0 HU0
    by_cases hlt : j < kn
    · have hlt2 : (j : Int) < (kn : Int) := by omega
      clear hown
      have HUA := hid (up_alloc wr (.cells #[.int .i64 0, .string ⟨#[49, 50, 51, 52, 53, 54, 55, 56, 57, 48, 49, 50, 51, 52, 53, 54, 55, 56, 57, 48]⟩, .int .i64 0, .int .i64 0, .int .i64 0] 51))
      have HOA := hid (World.ownsRow.alloc HOW.out (.cells #[.int .i64 0, .string ⟨#[49, 50, 51, 52, 53, 54, 55, 56, 57, 48, 49, 50, 51, 52, 53, 54, 55, 56, 57, 48]⟩, .int .i64 0, .int .i64 0, .int .i64 0] 51))
      have HRA := hid ((HUA.out.block (w4.heap.size + 1) (Array.getElem?_eq_some_iff.1 HRW.out).1).trans HRW.out)
      have HLIT := hid (cells_lit wr 51 (partCells (partT twenty)) #[.int .i64 0, .string ⟨#[49, 50, 51, 52, 53, 54, 55, 56, 57, 48, 49, 50, 51, 52, 53, 54, 55, 56, 57, 48]⟩, .int .i64 0, .int .i64 0, .int .i64 0] rfl wr.heap.size 1 5 rfl rfl (by intro u hu; simp [partCells] at hu; rcases hu with rfl | rfl | rfl | rfl | rfl <;> rfl))
      have hws := HB.out.size
      go_wp2_with (at_builtin; refine wpList_append_cells _ rfl (.tmp 24) (.tmp 26) 35 51 rfl _ 5 48 Tryz.underlying35 info_partR rfl (by decide) (by decide) w4.heap.size _ (3 + j) _ (by simp [Act.eval]) HOA.out _ 1 _ (by simp [Act.eval]) HLIT.out (by omega) (by simp; omega) ?_; intro v' w' h1 h2 h3; have HO2 := hid h1; have HR2 := hid ((h2.block (w4.heap.size + 1) (Array.getElem?_eq_some_iff.1 HRA.out).1 (fun e => own_off HOA.out HRA.out (by decide) e.symm)).trans HRA.out); have HB2 := hid ((up_trans HB.out HUA.out).grown h2 (by simp; omega) (fun q e => (World.ownsRow.lt HOA.out q e).1)); obtain ⟨adn, capn, en, _⟩ := own_shape h1; subst en; have d1 : w'.cell? ⟨w4.heap.size + 1, 1, none⟩ = some (.slice adv (3 + j) capv) := (by rw [Gr.cell_of_row _ _ _ _ _ _ HR2.out]; rfl); have d2 := Go.frozen_of_row w' (w4.heap.size + 1) 1 _ _ HR2.out; clear h1 h2 h3)
      go_roundw
      case rel => exact ⟨j + 1, by omega, by simp, _, heap_setCell_same _ _ 1 _ _ _ HR2.out, ownsRow_setCell_other (by rw [longC]; exact HO2.out) (own_off HO2.out HR2.out (by decide)) _, HB2.out.setCell (p := ⟨w4.heap.size + 1, 1, none⟩) (by simp) _⟩
      case measure => simp [intOf]; omega
    · obtain rfl : j = kn := by omega
      have hp3 := parts_of (longP j) hown (longL j) (by omega)
      have hua : Below wr.heap.size wr (((wr.alloc (.cells #[.int .i64 9, .slice adv (3 + j) capv] 37)).alloc (.cells #[.string ⟨#[]⟩, .int .i64 0, .int .i64 3, .slice none 0 0, .slice none 0 0, .slice (some ⟨wr.heap.size, 0, none⟩) 1 1] 33)).alloc (.cells #[.int .i64 7] 3)) := up_trans (up_trans (up_alloc wr (.cells #[.int .i64 9, .slice adv (3 + j) capv] 37)) (up_alloc _ (.cells #[.string ⟨#[]⟩, .int .i64 0, .int .i64 3, .slice none 0 0, .slice none 0 0, .slice (some ⟨wr.heap.size, 0, none⟩) 1 1] 33))) (up_alloc _ (.cells #[.int .i64 7] 3))
      have hra : (((wr.alloc (.cells #[.int .i64 9, .slice adv (3 + j) capv] 37)).alloc (.cells #[.string ⟨#[]⟩, .int .i64 0, .int .i64 3, .slice none 0 0, .slice none 0 0, .slice (some ⟨wr.heap.size, 0, none⟩) 1 1] 33)).alloc (.cells #[.int .i64 7] 3)).heap[wr.heap.size]? = some (.cells #[.int .i64 9, .slice adv (3 + j) capv] 37) := ((up_trans (up_alloc (wr.alloc (.cells #[.int .i64 9, .slice adv (3 + j) capv] 37)) (.cells #[.string ⟨#[]⟩, .int .i64 0, .int .i64 3, .slice none 0 0, .slice none 0 0, .slice (some ⟨wr.heap.size, 0, none⟩) 1 1] 33)) (up_alloc _ (.cells #[.int .i64 7] 3))).block wr.heap.size (by simp)).trans (row_new wr (.cells #[.int .i64 9, .slice adv (3 + j) capv] 37))
      have hrv : (((wr.alloc (.cells #[.int .i64 9, .slice adv (3 + j) capv] 37)).alloc (.cells #[.string ⟨#[]⟩, .int .i64 0, .int .i64 3, .slice none 0 0, .slice none 0 0, .slice (some ⟨wr.heap.size, 0, none⟩) 1 1] 33)).alloc (.cells #[.int .i64 7] 3)).heap[wr.heap.size + 1 + 1]? = some (.cells #[.int .i64 7] 3) := by
        have := row_new1 (wr.alloc (.cells #[.int .i64 9, .slice adv (3 + j) capv] 37)) (.cells #[.string ⟨#[]⟩, .int .i64 0, .int .i64 3, .slice none 0 0, .slice none 0 0, .slice (some ⟨wr.heap.size, 0, none⟩) 1 1] 33) (.cells #[.int .i64 7] 3)
        rwa [show (wr.alloc (.cells #[.int .i64 9, .slice adv (3 + j) capv] 37)).heap.size = wr.heap.size + 1 by simp] at this
      have HWR := hid (write_any (longLo j) (.slice none 0 0) (.slice none 0 0) (.slice (some ⟨wr.heap.size, 0, none⟩) 1 1) 0 ⟨9, [7]⟩ (.agg #[.int .i64 9, .slice (some ⟨wr.heap.size + 1 + 1, 0, none⟩) 1 1]) (((wr.alloc (.cells #[.int .i64 9, .slice adv (3 + j) capv] 37)).alloc (.cells #[.string ⟨#[]⟩, .int .i64 0, .int .i64 3, .slice none 0 0, .slice none 0 0, .slice (some ⟨wr.heap.size, 0, none⟩) 1 1] 33)).alloc (.cells #[.int .i64 7] 3)) ⟨EntriesAt.nil _, ⟨_, _, _, rfl⟩, style_one hra (hp3.on hua)⟩ (long_good j (by omega)) (va_lit 9 [7] _ _ hrv rfl rfl (by decide)) (HT.out.on (up_trans (up_trans HB4.out HB.out) hua)))
      have HBE := hid (up_trans (up_trans HB4.out HB.out) hua)
      have HYES := hid (long_yes j (by omega))
      have HNO := hid (long_no j (by omega))
      clear hp3 hua hra hrv hown
      unfold localeV longLo at HWR
      dsimp only at HWR
      generalize writeL 3 [] [⟨9, longP j⟩] 0 9 [7] = r at *
      obtain ⟨tx, er⟩ := r
      unfold writeV at HWR
      dsimp only at HWR HYES HNO
      go_wp2_with fail
      refine HWR.out.mono ?_
      rintro e w6 ⟨rfl, hb6⟩
      have HB6 := hid (up_trans HBE.out hb6)
      clear hb6 HWR HBE
      by_cases hle : 81 + 20 * j ≤ 256
      · obtain rfl : er = 0 := HYES.out hle
        have hle2 : (81 : Int) + 20 * (j : Int) ≤ 256 := by omega
        clear HYES HNO
        go_wp2
        go_ret
        exact ⟨rfl, HB6.out⟩
      · have hno := HNO.out hle
        injection hno with h1 h2
        subst h1 h2
        have hle2 : ¬ ((81 : Int) + 20 * (j : Int) ≤ 256) := by omega
        clear HYES HNO
        go_wp2
        go_ret
        refine ⟨ret_bool ?_, HB6.out⟩
        simp; omega

theorem own : ownKnob Tryz.prog.godebug = none := by kernel_rfl

theorem table {W : World} (h : laidMetH Tryz.prog Rows.renderLongRow.laid W) (hs : W.ShapedOpen Tryz.prog) : TabR W := by
  rw [MakeChecks.laidMetH_plain _ _ _ (by kernel_rfl)] at h
  exact tab_row h hs

set_option maxRecDepth 100000 in
theorem lifted (os : Os) (started : os.Started) (H : Type) (enc : TypeId × Value → H) :
    ReturnsInHanded {} Tryz.checked os 6 .any (fun w args => (Rows.renderLongSpec.pre enc Tryz.prog Tryz.f6 Rows.renderLongRow.domain false w args ∧ laidMetH Tryz.prog Rows.renderLongRow.laid w) ∧ sizedMet enc Tryz.prog Tryz.f6 (OpenSpec.ofChange Rows.renderLongSpec) false w args)
      (Rows.renderLongSpec.post enc Tryz.prog Tryz.f6 false true false false) := by
  refine handed_both (C := Tryz.checked) (X := fun w _ => laidMetH Tryz.prog Rows.renderLongRow.laid w) (fun _ _ _ hh h => h.of_heap hh) own started (by kernel_rfl) Tryz.func6
    (ChangeSpec.witness_shaped (enc := enc) (C := Tryz.checked) (os := os) (X := fun w _ => laidMetH Tryz.prog Rows.renderLongRow.laid w) false (World.laidAll Tryz.prog os Rows.renderLongRow.laid) #[.int .i64 0] 8 (World.laidAll_os _ _ _)
      (World.shaped_of_ZipB (by kernel_rfl) (by kernel_rfl)) (by kernel_rfl) (by kernel_rfl) (by kernel_rfl)
      (by rw [MakeChecks.laidMetH_plain _ _ _ (by kernel_rfl)]; exact laidMet_laidAll _ (by kernel_rfl) (by kernel_rfl))) ?_
  intro W base args ds gs before hval0 hW hSh hL
  have hval : ∀ (j : Nat) t v, Tryz.f6.params[j]? = some t → args[j]? = some v → Value.okWide Tryz.prog W .any base t v := hval0
  have hW' := hW
  obtain ⟨p, q, hA0, hV, rfl, hfz, hnd⟩ := hW
  have hA : DataW.TrodAll enc Tryz.prog W 0 (fun _ => true) true Tryz.f6.params.toList args.toList ds p := hA0
  rw [Tryz.params6] at hA hval
  obtain ⟨v0, vs0, d0, ds0, p0, q0, hargs, rfl, rfl, h0, r0⟩ := trodAll_cons hA
  obtain ⟨rfl, rfl, rfl⟩ := trodAll_nil r0
  obtain rfl : args = #[v0] := by cases args; simp_all
  obtain ⟨rfl, rfl⟩ := trodVars_none hV
  obtain ⟨a0, rfl, rfl, rfl, w0⟩ := open_int Tryz.underlying3 (hval 0 3 v0 rfl rfl) h0
  clear hA0 hval0
  refine (walk a0 W w0 (table hL hSh)).mono fun e W' ⟨he, bel⟩ => ?_
  subst he
  exact ⟨_, rfl, _, _, _, [], _, [], hW', trodAll_mk1 (shut_bool Tryz.underlying4 _), (trodAll_cons_mk (shut_int Tryz.underlying3 w0) trodAll_mk0), rfl, bel.frame _, fun h => by cases h⟩

theorem row_holds : Rows.RenderLongSaid :=
  OpenClaim.holds_of_wide 6 Tryz.f6 rfl rfl rfl rfl rfl rfl rfl ⟨rfl, rfl, rfl, rfl, rfl⟩ rfl rfl rfl rfl rfl (by kernel_rfl) Tryz.func6 (by kernel_rfl)
    (of_decide_eq_true (by kernel_rfl)) (by unfold Func.isWrapper; first | (rw [if_pos (by decide +kernel)]; kernel_rfl) | (rw [if_neg (by decide +kernel)]; exact ⟨rfl, rfl⟩))
    (fun os started H enc _ => lifted os started H enc)

theorem renderLong_holds : Rows.RenderLongCardSaid :=
  Claim7.holds_tied_plain_at .later [] _ _ _ _ row_holds (fun _ h => by cases h) (by kernel_rfl) (fun _ h => by cases h) renderLong_row_tie rfl ⟨rfl, rfl⟩ (by kernel_rfl) rfl
    (fun f fn hf hfn => by
      obtain rfl : f = 6 := Option.some.inj ((show Tryz.prog.funcNamed "interlocutor/interlocutorlaw11.RenderLong" = some 6 by kernel_rfl).symm.trans hf) |>.symm
      obtain rfl : fn = Tryz.f6 := (Option.some.inj (Tryz.func6.symm.trans hfn)).symm
      exact ⟨by kernel_rfl, fun j t ht => by
        rw [Tryz.params6] at ht
        have hm : t ∈ [3] := by simpa using Array.mem_of_getElem? ht
        have hall : ([3].all fun u => !Tryz.prog.wantsStandIn u) = true := by kernel_rfl
        exact (show Tryz.prog.wantsStandIn t = false by simpa using List.all_eq_true.1 hall t hm)⟩)
    (by kernel_rfl)

end Go.Proofs.YtannndpamhgknaaGreatDoor
