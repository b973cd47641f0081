/- FoldAscii answers true of any bytes: of plain bytes each is a sign, capitals are small, nothing else is another, but the tab. The table of noughts reads as the program's text lays it. -/
import Derived.Test.YtigolkgojckciabDoorCards
import Derived.Test.YtigolkgojckciabDoorTie
import Derived.Test.YtigolkgojckciabDoorArgs
import Derived.Test.YtigolkgojckciabDoorRefOne
import Derived.Laws.AppendOwnNone
import Derived.ProofKit
import Derived.OpenShut
import Derived.Lay
import Derived.SevenTiedAt
import Derived.Stop.Joined
import Derived.Lib.LaidTab
import Derived.Carry
namespace Go.Proofs.YtigolkgojckciabDoor
open Go.ChangeShapes Go.WideShapes Go.ChangeAt Go.RowKit

/-- What the statement makes of a plain byte. -/
def plain (y : Int) : Int := if 65 ≤ y ∧ y ≤ 90 then y + 32 else if y = 9 then 32 else y

theorem plain_rune (y : Int) (h0 : 0 ≤ y) (h1 : y < 128) : runeZ y = plain y := by
  have hn : narrowZ y = y := by unfold narrowZ; omega
  unfold runeZ
  rw [hn]
  by_cases h9 : y = 9
  · subst h9; decide
  · have hb : blankZ y = y := by unfold blankZ; omega
    have hd : dashZ y = y := by unfold dashZ; omega
    have hq : quoteZ' y = y := by unfold quoteZ'; omega
    have hg : digitZ y = y := by unfold digitZ; omega
    rw [hb, hd, hq, hg]
    unfold smallZ plain
    omega

theorem plain_signs : ∀ (l : List UInt8), (∀ x ∈ l, x.toNat < 128) → signsOf l = l.map fun x => (x.toNat, 1)
  | [], _ => rfl
  | x :: l, h => by
    rw [signsOf_cons x l (h x (by simp)), List.map_cons, plain_signs l (fun y hy => h y (by simp [hy]))]

theorem plain_places : ∀ (l : List UInt8) (p : Nat), places p (l.map fun x => (x.toNat, 1)) = (List.range' p l.length).map fun (k : Nat) => (k : Int)
  | [], p => rfl
  | x :: l, p => by
    simp only [List.map_cons, places, List.length_cons, List.range'_succ]
    rw [plain_places l (p + 1)]

theorem plain_places_at (l : List UInt8) (h : ∀ x ∈ l, x.toNat < 128) (j : Nat) (hj : j < l.length) : (placesOf l).getD j 0 = (j : Int) := by
  unfold placesOf
  rw [plain_signs l h, plain_places]
  simp [List.getD, List.getElem?_append, hj]

theorem plain_runes (l : List UInt8) (h : ∀ x ∈ l, x.toNat < 128) : runesOf l = l.map fun x => plain (x.toNat : Int) := by
  unfold runesOf
  rw [plain_signs l h, List.map_map]
  apply List.map_congr_left
  intro x hx
  have h1 := h x hx
  exact plain_rune (x.toNat : Int) (by omega) (by omega)

theorem and_127 (x : Int) (h0 : 0 ≤ x) (h1 : x < 256) : bits .and .u8 x 127 = x % 128 := bits_mask .u8 8 (by decide) wraps_u8 7 (by decide) x h0 (by omega)

theorem Tryd.info5 : (Tryd.prog.info? 5).map (fun i => (i.zero, i.size, i.bytes)) = some (some (.int .u8 0), 1, 1) := by kernel_rfl

theorem own_form {W : World} {B n m : Nat} {v v' : Value} {ys : List Value} (h : W.ownsRow B 5 1 v' n ys) (hnil : v' = .slice none 0 0 ↔ v = .slice none 0 0 ∧ m = 0) (hv : v ≠ .slice none 0 0) : ∃ g cap, v' = .slice (some ⟨g, 0, none⟩) n cap ∧ B ≤ g ∧ n ≤ cap := by
  rcases h.2 with ⟨rfl, _⟩ | ⟨g, cap, cur, rfl, hb, _, hn, _⟩
  · exact absurd (hnil.1 rfl).1 hv
  · exact ⟨g, cap, rfl, hb, hn⟩

/-- The bytes, the first j of them made plain. -/
def mixed (xs : List Int) (j : Nat) : List Int := (xs.take j).map (· % 128) ++ xs.drop j
theorem mixed_length (xs : List Int) (j : Nat) : (mixed xs j).length = xs.length := by
  simp [mixed]; omega
theorem mixed_at (xs : List Int) (j : Nat) (hj : j < xs.length) : (mixed xs j)[j]? = some (xs.getD j 0) := by
  unfold mixed
  rw [List.getElem?_append_right (by simp; omega)]
  simp [List.getD, hj, Nat.min_eq_left (Nat.le_of_lt hj)]
theorem mixed_step (xs : List Int) (j : Nat) (hj : j < xs.length) : mixed xs (j + 1) = (mixed xs j).set j (xs.getD j 0 % 128) := by
  unfold mixed
  have hl : ((xs.take j).map (· % 128)).length = j := by simp; omega
  rw [List.set_append_right _ _ (by omega), hl, Nat.sub_self, List.drop_eq_getElem_cons hj, List.set_cons_zero, List.take_add_one, List.map_append, List.append_assoc]
  simp [List.getD, hj]
theorem mixed_zero (xs : List Int) : mixed xs 0 = xs := by simp [mixed]
theorem mixed_all (xs : List Int) : mixed xs xs.length = xs.map (· % 128) := by simp [mixed]

theorem u8_cells {W : World} {a : Addr} {xs : List Int} (hc : ∀ j, j < xs.length → W.cell? (a.add j) = some (.int .u8 (xs.getD j 0))) : ∀ j u, (xs.map (Value.int .u8))[j]? = some u → W.cell? (a.add j) = some u := by
  intro j u hu
  have hj : j < xs.length := by have := (List.getElem?_eq_some_iff.1 hu).1; simpa using this
  rw [hc j hj, ← hu]
  simp [List.getD, hj]
theorem u8_ones (xs : List Int) : ∀ u ∈ xs.map (Value.int .u8), u.oneCell' = true := by
  intro u hu
  simp only [List.mem_map] at hu
  obtain ⟨x, _, rfl⟩ := hu
  rfl

/-- The plain bytes as bytes. -/
def bytesOf (xs : List Int) : List UInt8 := xs.map fun x => (x % 128).toNat.toUInt8
theorem bytesOf_low (xs : List Int) : ∀ x ∈ bytesOf xs, x.toNat < 128 := by
  intro x hx
  simp only [bytesOf, List.mem_map] at hx
  obtain ⟨y, _, rfl⟩ := hx
  have : ((y % 128).toNat.toUInt8).toNat = (y % 128).toNat := by simp; omega
  omega
theorem bytesOf_at (xs : List Int) (j : Nat) (hj : j < xs.length) : ((runesOf (bytesOf xs)).getD j 0) = plain (xs.getD j 0 % 128) := by
  rw [plain_runes _ (bytesOf_low xs)]
  have e : (((xs[j] % 128).toNat.toUInt8).toNat : Int) = xs[j] % 128 := by simp; omega
  simp only [bytesOf, List.map_map, List.getD, List.getElem?_map, List.getElem?_eq_getElem hj, Option.map_some, Option.getD_some, Function.comp, e]
theorem bytesOf_conv {W : World} {B g n cap : Nat} {xs : List Int} (hn : xs.length = n) (h : W.ownsRow B 5 1 (.slice (some ⟨g, 0, none⟩) n cap) n ((xs.map (· % 128)).map (Value.int .u8))) :
    (convert 22 9 (.slice (some ⟨g, 0, none⟩) n cap)).run Tryd.prog W = .ok (.string ⟨(bytesOf xs).toArray⟩) W := by
  have hl : (bytesOf xs).length = n := by simp [bytesOf, hn]
  have := run_convert_bytes_back (P := Tryd.prog) W 22 9 5 ⟨g, 0, none⟩ cap (bytesOf xs) Tryd.underlying22 Tryd.underlying5 Tryd.underlying9 (fun j hj => by
    rw [hl] at hj
    have e : ((⟨g, 0, none⟩ : Addr).add j) = ⟨g, j, none⟩ := by unfold Addr.add; split <;> simp_all
    have hjl : j < xs.length := by omega
    rw [e, h.cellAt j (by omega)]
    have e2 : (((xs[j] % 128).toNat.toUInt8).toNat : Int) = xs[j] % 128 := by simp; omega
    simp only [bytesOf, List.getElem_map, e2]
    simp [hjl])
  rw [hl] at this
  exact this

set_option maxHeartbeats 3000000 in
theorem walk (v0 : Value) (xs : List Int) (w : World) (h0 : Arg w .u8 v0 xs) (hT : Tab w) :
    Calls Tryd.prog 3 #[v0] w fun e w' => e = .returned (.bool true) ∧ Below w.heap.size w w' := by
  have HK := hid (known_any w hT)
  have HA := hid h0
  obtain ⟨ad0, cap0, rfl, hl0, hm0, hn0, hc0, hw0⟩ := h0
  unfold maxLen at hm0
  have HT := hid hT
  have HN := hid hn0
  have HC := hid hc0
  have HW := hid hw0
  clear hT hn0 hc0 hw0
  by_cases hr : xs.length ≤ 200
  · go_enter Tryd.func3, Tryd.ntmps3
    go_wp2_with fail
    refine HK.out.mono ?_
    rintro e w1 ⟨rfl, bel⟩
    have HL1 := hid bel
    clear bel
    obtain ⟨i0, hi, hz0, hz1, hz2⟩ := info_parts Tryd.info5
    have oL := World.ownsRow_lit (base := w1.heap.size) (e := 5) (size := 1) w1 #[] 0 (Nat.le_refl _) (by unfold maxLen; omega) rfl
    have HO := hid oL
    clear oL
    obtain ⟨n, hn⟩ : ∃ n, n = xs.length := ⟨_, rfl⟩
    have HX := hid hn
    rw [← hn] at hl0 hr ⊢
    clear hn
    cases ad0 with
    | none =>
      obtain rfl : n = 0 := by have := (HN.out rfl).1; have h2 := HX.out; rw [this] at h2; simpa using h2
      obtain rfl : cap0 = 0 := (HN.out rfl).2
      obtain rfl : xs = [] := (HN.out rfl).1
      go_wp2_with (at_builtin; refine wpList_append_own_none rfl (.tmp 14) (.tmp 15) 22 rfl w1.heap.size 5 i0 1 Tryd.underlying22 hi _ 0 [] rfl HO.out rfl ?_)
      have HOW : Hid ((w1.alloc (.cells #[] 5)).ownsRow w1.heap.size 5 1 (.slice (some ⟨w1.heap.size, 0, none⟩) 0 0) 0 (([] : List Int).map (Value.int .u8))) := hid HO.out
      have HB2 := hid (up_alloc w1 (.cells #[] 5))
      go_wp2
      refine wp_loop_rounds 1 ?_
      rw [rounds_succ]
      have hcv := bytesOf_conv (n := 0) (cap := 0) (xs := []) rfl HOW.out
      have HF := hid (fun w h => fold_at [] [] [0] 0 (by kernel_rfl) (by kernel_rfl) rfl (by decide) w h)
      have HTR := hid (HT.out.on (up_trans HL1.out HB2.out))
      rw [show bytesOf [] = [] from rfl] at hcv
      go_wp2_with fail
      refine (HF.out _ HTR.out).mono ?_
      rintro e u1 ⟨g1, g2, c1, c2, rfl, k1, k2, H1, H2, q1, q2, bel⟩
      have HBU := hid (up_trans (up_trans HL1.out HB2.out) bel)
      clear bel H1 H2 q1 q2
      go_wp2
      refine wp_loop_rounds 1 ?_
      rw [rounds_succ]
      go_wp2
      go_ret
      exact ⟨rfl, HBU.out⟩
    | some a =>
      have hup := HL1.out
      have hcells := u8_cells (W := w1.alloc (.cells #[] 5)) (a := a) (xs := xs) (fun j hj => by
        have h3 := HC.out a rfl j hj
        have hb := up_trans hup (up_alloc w1 (.cells #[] 5))
        exact (hb.cell (lt_of_cell h3)).trans h3)
      have HCE := hid hcells
      clear hcells hup
      go_wp2_with (at_builtin; refine wpList_append_own _ rfl (.tmp 14) (.tmp 15) 22 rfl w1.heap.size 5 i0 (.int .u8 0) 1 1 Tryd.underlying22 hi hz0 hz1 hz2 rfl (by decide) _ 0 [] rfl HO.out a n cap0 (xs.map (Value.int .u8)) rfl (by have := HX.out; simp; omega) HCE.out (u8_ones _) (by unfold maxLen; omega) (by omega) (by simp) ?_; intro v' W2 ho gr hnil; obtain ⟨g, cap, rfl, hBg, hcap⟩ := own_form (v := .slice (some ⟨w1.heap.size, 0, none⟩) 0 0) ho hnil (by intro h; cases h); have HOW := hid ho; have HGR := hid gr; clear ho gr hnil)
      have HB2 := hid ((up_alloc w1 (.cells #[] 5)).grown HGR.out (by simp) (by intro k hk; simp [Value.ownBlock, Act.eval] at hk; omega))
      simp only [Nat.zero_add, List.nil_append] at HOW
      go_loopw [4] (fun v wr => ∃ j : Nat, j ≤ n ∧ v = .int .i64 j ∧ wr.ownsRow w1.heap.size 5 1 (.slice (some ⟨g, 0, none⟩) n cap) n ((mixed xs j).map (Value.int .u8)) ∧ Below w1.heap.size w1 wr) (fun v _ => n - (intOf v).toNat)
      case atStart => exact ⟨0, by omega, rfl, by rw [mixed_zero]; exact HOW.out, HB2.out⟩
      case round =>
        obtain ⟨j, hj, rfl, hown, hb⟩ := hrel
        have HOJ := hid hown
        have HBJ := hid hb
        clear hown hb
        by_cases hlt : j < n
        · have hjl : j < xs.length := by have := HX.out; omega
          have cx : wr.cell? ⟨g, j, none⟩ = some (.int .u8 (xs.getD j 0)) := by
            rw [HOJ.out.cellAt j (by omega), List.getElem?_map, mixed_at xs j hjl]
            rfl
          have fx := HOJ.out.frozenAt j
          have st := HOJ.out.stored j (.int .u8 (xs.getD j 0 % 128))
          have hms : (mixed xs (j + 1)).map (Value.int .u8) = ((mixed xs j).map (Value.int .u8)).set j (.int .u8 (xs.getD j 0 % 128)) := by rw [mixed_step xs j hjl, List.map_set]
          rw [← hms] at st
          have HST := hid st
          clear st hms
          have xb := bounds_u8 (HW.out (xs.getD j 0) (by simp [List.getD, hjl]))
          have e1 := and_127 (xs.getD j 0) (by omega) (by omega)
          generalize xs.getD j 0 = x at *
          clear hjl
          go_wp2
          go_roundw
          case rel => exact ⟨j + 1, by omega, by simp, HST.out.1, HBJ.out.grown HST.out.2 HBJ.out.size (by intro k hk; cases hk; exact hBg)⟩
          case measure => simp [intOf]; omega
        · obtain rfl : j = n := by omega
          have hown2 := HOJ.out
          rw [show mixed xs j = xs.map (· % 128) by have := HX.out; rw [this]; exact mixed_all xs] at hown2
          have hcv := bytesOf_conv HX.out.symm hown2
          have hlb : (bytesOf xs).length = j := by have := HX.out; simp [bytesOf]; omega
          have hrl : (runesOf (bytesOf xs)).length = j := by rw [plain_runes _ (bytesOf_low xs)]; simpa using hlb
          have HF := hid (fun w h => fold_at (bytesOf xs) _ _ j rfl rfl hrl (by omega) w h)
          have Hcap : Hid (∀ i, i < j → wr.cell? ⟨g, i, none⟩ = some (.int .u8 (xs.getD i 0 % 128))) := by
            intro i hij
            rw [hown2.cellAt i (by omega)]
            have : i < xs.length := by have := HX.out; omega
            simp [List.getD, this]
          have HRR : Hid (∀ i, i < j → (runesOf (bytesOf xs)).getD i 0 = plain (xs.getD i 0 % 128)) := fun i hij => bytesOf_at xs i (by have := HX.out; omega)
          have HPP : Hid (∀ i, i < j → (placesOf (bytesOf xs)).getD i 0 = (i : Int)) := fun i hij => plain_places_at _ (bytesOf_low xs) i (by omega)
          have hpl : (placesOf (bytesOf xs)).length = j + 1 := by rw [placesOf_length, hrl]
          have HRL := hid hrl
          have HPL := hid hpl
          clear hown2 hlb hrl hpl
          have HTR := hid (HT.out.on (up_trans HL1.out HBJ.out))
          generalize (⟨(bytesOf xs).toArray⟩ : ByteArray) = BS at *
          generalize runesOf (bytesOf xs) = rs at *
          generalize placesOf (bytesOf xs) = ps at *
          go_wp2_with fail
          refine (HF.out _ HTR.out).mono ?_
          rintro e u1 ⟨g1, g2, c1, c2, rfl, k1, k2, H1, H2, q1, q2, bel⟩
          have HCU : Hid (∀ i, i < j → u1.cell? ⟨g, i, none⟩ = some (.int .u8 (xs.getD i 0 % 128))) := fun i hij => (bel.cell (lt_of_cell (Hcap.out i hij))).trans (Hcap.out i hij)
          have HBU := hid (up_trans (up_trans HL1.out HBJ.out) bel)
          have HH1 := hid H1
          have HH2 := hid H2
          clear bel H1 H2 q1 q2
          go_wp2
          go_loopw [7] (fun v wr => ∃ i : Nat, i ≤ j ∧ v = .int .i64 i ∧ wr = u1) (fun v _ => j - (intOf v).toNat)
          case atStart => exact ⟨0, by omega, rfl, rfl⟩
          case round =>
            obtain ⟨i, hij, rfl, rfl⟩ := hrel
            by_cases hlt2 : i < j
            · have x1 := HCU.out i hlt2
              have x2 := HH1.out i (by have := HRL.out; omega)
              have x3 := HH2.out i (by have := HPL.out; omega)
              rw [HRR.out i hlt2, Nat.zero_add] at x2
              rw [HPP.out i hlt2, Nat.zero_add] at x3
              have yb : 0 ≤ xs.getD i 0 % 128 ∧ xs.getD i 0 % 128 < 128 := by omega
              generalize xs.getD i 0 % 128 = y at *
              rcases (show (65 ≤ y ∧ y ≤ 90) ∨ y = 9 ∨ (¬ (65 ≤ y ∧ y ≤ 90) ∧ y ≠ 9 ∧ y < 65) ∨ (y ≠ 9 ∧ 90 < y) by omega) with c | rfl | c | c
              · rw [show plain y = y + 32 by unfold plain; omega] at x2
                have z1 : (y + 32 == 9) = false := by simp; omega
                go_wp2
                go_roundw
                case rel => exact ⟨i + 1, by omega, by simp, by first | rfl | trivial⟩
                case measure => simp [intOf]; omega
              · rw [show plain 9 = 32 from rfl] at x2
                go_wp2
                go_roundw
                case rel => exact ⟨i + 1, by omega, by simp, by first | rfl | trivial⟩
                case measure => simp [intOf]; omega
              · rw [show plain y = y by unfold plain; omega] at x2
                have z1 : (y == 9) = false := by simp; omega
                go_wp2
                go_roundw
                case rel => exact ⟨i + 1, by omega, by simp, by first | rfl | trivial⟩
                case measure => simp [intOf]; omega
              · rw [show plain y = y by unfold plain; omega] at x2
                have z1 : (y == 9) = false := by simp; omega
                go_wp2
                go_roundw
                case rel => exact ⟨i + 1, by omega, by simp, by first | rfl | trivial⟩
                case measure => simp [intOf]; omega
            · obtain rfl : i = j := by omega
              go_wp2
              go_ret
              exact ⟨rfl, HBU.out⟩
  · have hr2 : 200 < xs.length := by omega
    go_enter Tryd.func3, Tryd.ntmps3
    go_wp2_with fail
    refine HK.out.mono ?_
    rintro e w1 ⟨rfl, bel⟩
    have HL1 := hid bel
    clear bel
    go_wp2
    go_ret
    exact ⟨rfl, HL1.out⟩

theorem own : ownKnob Tryd.prog.godebug = none := by kernel_rfl

theorem table {W : World} (h : laidMetH Tryd.prog Rows.foldAsciiRow.laid W) : Tab W := by
  rw [MakeChecks.laidMetH_plain _ _ _ (by kernel_rfl)] at h
  have hn : Tryd.prog.globalNamed "interlocutor/fold.noughts" = some 0 := by kernel_rfl
  have hT := Lib.tabIs_of_head (k := .i64) (zs := [48, 1632, 1776, 2406]) hn (show (Tryd.prog.globals[0]?).map (·.type) = some 46 by kernel_rfl) Tryd.underlying46 Tryd.underlying42 (by kernel_rfl) (by kernel_rfl) h
  exact ⟨hT.cell hn 0 (by decide), hT.cell hn 1 (by decide), hT.cell hn 2 (by decide), hT.cell hn 3 (by decide)⟩

set_option maxRecDepth 100000 in
theorem lifted (os : Os) (started : os.Started) (H : Type) (enc : TypeId × Value → H) :
    ReturnsInHanded {} Tryd.checked os 3 .any (fun w args => (Rows.foldAsciiSpec.pre enc Tryd.prog Tryd.f3 Rows.foldAsciiRow.domain false w args ∧ laidMetH Tryd.prog Rows.foldAsciiRow.laid w) ∧ sizedMet enc Tryd.prog Tryd.f3 (OpenSpec.ofChange Rows.foldAsciiSpec) false w args)
      (Rows.foldAsciiSpec.post enc Tryd.prog Tryd.f3 false true false false) := by
  refine returnsInHanded_of_change_and (C := Tryd.checked) (X := fun w _ => laidMetH Tryd.prog Rows.foldAsciiRow.laid w) (fun _ _ _ hh h => h.of_heap hh) own started (by kernel_rfl) Tryd.func3
    (ChangeSpec.witness_shaped (enc := enc) (C := Tryd.checked) (os := os) (X := fun w _ => laidMetH Tryd.prog Rows.foldAsciiRow.laid w) false (World.laidAll Tryd.prog os Rows.foldAsciiRow.laid) #[.slice none 0 0] 8 (World.laidAll_os _ _ _)
      (World.shaped_of_ZipB (by kernel_rfl) (by kernel_rfl)) (by kernel_rfl) (by kernel_rfl) (by kernel_rfl)
      (by rw [MakeChecks.laidMetH_plain _ _ _ (by kernel_rfl)]; exact laidMet_laidAll _ (by kernel_rfl) (by kernel_rfl))) ?_
  intro W base args ds gs before hval0 hW _ _ hL _
  have hval : ∀ (j : Nat) t v, Tryd.f3.params[j]? = some t → args[j]? = some v → Value.okWide Tryd.prog W .any base t v := hval0
  have hW' := hW
  obtain ⟨p, q, hA0, hV, rfl, hfz, hnd⟩ := hW
  have hA : DataW.TrodAll enc Tryd.prog W 0 (fun _ => true) true Tryd.f3.params.toList args.toList ds p := hA0
  rw [Tryd.params3] at hA hval
  obtain ⟨v0, vs0, d0, ds0, p0, q0, hargs, rfl, rfl, h0, r0⟩ := trodAll_cons hA
  obtain ⟨rfl, rfl, rfl⟩ := trodAll_nil r0
  obtain rfl : args = #[v0] := by cases args; simp_all
  obtain ⟨rfl, rfl⟩ := trodVars_none hV
  obtain ⟨x0, w0⟩ := arg_of Tryd.underlying22 Tryd.underlying5 (by kernel_rfl) (hval 0 22 v0 rfl rfl) h0
  have l0 : ∀ x ∈ p0, x.block < W.heap.size := fun x hx => hW'.lt x (by simp [hx])
  clear hA0 hval0
  refine (walk v0 x0 W w0 (table hL)).mono fun e W' ⟨he, bel⟩ => ?_
  subst he
  exact ⟨_, rfl, _, _, _, _, _, [], hW', trodAll_mk1 (shut_bool Tryd.underlying4 _), (trodAll_cons_mk (Below.trod (by kernel_rfl) (by kernel_rfl) (of_decide_eq_true (by kernel_rfl)) h0 bel l0) trodAll_mk0), rfl, bel.frame _, fun h => by cases h⟩

theorem row_holds : Rows.FoldAsciiSaid :=
  OpenClaim.holds_of_wide 3 Tryd.f3 rfl rfl rfl rfl rfl rfl rfl ⟨rfl, rfl, rfl, rfl, rfl⟩ rfl rfl rfl rfl rfl (by kernel_rfl) Tryd.func3 (by kernel_rfl)
    (of_decide_eq_true (by kernel_rfl)) (by unfold Func.isWrapper; first | (rw [if_pos (by decide +kernel)]; kernel_rfl) | (rw [if_neg (by decide +kernel)]; exact ⟨rfl, rfl⟩))
    (fun os started H enc _ => lifted os started H enc)

theorem foldAscii_holds : Rows.FoldAsciiCardSaid :=
  Claim7.holds_tied_plain_at .later [] _ _ _ _ row_holds (fun _ h => by cases h) (by kernel_rfl) (fun _ h => by cases h) foldAscii_row_tie rfl ⟨rfl, rfl⟩ (by kernel_rfl) rfl
    (fun f fn hf hfn => by
      obtain rfl : f = 3 := Option.some.inj ((show Tryd.prog.funcNamed "interlocutor/interlocutorlaw3.FoldAscii" = some 3 by kernel_rfl).symm.trans hf) |>.symm
      obtain rfl : fn = Tryd.f3 := (Option.some.inj (Tryd.func3.symm.trans hfn)).symm
      exact ⟨by kernel_rfl, fun j t ht => by
        rw [Tryd.params3] at ht
        have hm : t ∈ [22] := by simpa using Array.mem_of_getElem? ht
        have hall : ([22].all fun u => !Tryd.prog.wantsStandIn u) = true := by kernel_rfl
        exact (show Tryd.prog.wantsStandIn t = false by simpa using List.all_eq_true.1 hall t hm)⟩)
    (by kernel_rfl)

end Go.Proofs.YtigolkgojckciabDoor
