/- BlobOwn answers true of any shape, any number: what was resolved is written all over, and the locales are as they were. The table of gram's places and fold's noughts is as listed. -/
import Derived.Test.YtohgaknojkdohaaGreatDoorCards
import Derived.Test.YtohgaknojkdohaaGreatDoorTie
import Derived.Test.YtohgaknojkdohaaGreatDoorTf
import Derived.Test.YtohgaknojkdohaaGreatDoorFb
import Derived.ProofKit
import Derived.OpenShut
import Derived.Lay
import Derived.SevenTiedAt
import Derived.Stop.Joined
import Derived.Lib.LaidTab
import Derived.Test.YtohgaknojkdohaaGreatDoorTh
namespace Go.Proofs.YtohgaknojkdohaaGreatDoor
open Go.ChangeShapes Go.WideShapes Go.ChangeAt Go.RowKit Gr

theorem right_rowsO {ls : List Locale} (h : rightL ls = true) : ∀ x ∈ ls, (∀ s ∈ x.styles, s.parts.length ≤ 100000) ∧ (∀ r ∈ x.rules, r.rhs.length ≤ 100000 ∧ r.p.length ≤ 100000) := fun x hx => by
  have hk := locales_ok h x hx
  exact ⟨fun s hs => by have := (hk.2.2.2.2.2.2 s hs).2.1; omega, fun r hr => by have h1 := (hk.2.2.2.2.1.2 r hr).2.1.1; have h2 := (hk.2.2.2.2.1.2 r hr).2.2.2.1.1; exact ⟨by omega, by omega⟩⟩
theorem held6 {B W W' : World} {p1 p2 p3 p4 p5 p6 : Addr} {u1 u2 u3 u4 u5 u6 : Value} (b : Below W.heap.size W W') (h : Hid (Below B.heap.size B W) ∧ W.cell? p1 = some u1 ∧ W.cell? p2 = some u2 ∧ W.cell? p3 = some u3 ∧ W.cell? p4 = some u4 ∧ W.cell? p5 = some u5 ∧ W.cell? p6 = some u6) :
    Hid (Below B.heap.size B W') ∧ W'.cell? p1 = some u1 ∧ W'.cell? p2 = some u2 ∧ W'.cell? p3 = some u3 ∧ W'.cell? p4 = some u4 ∧ W'.cell? p5 = some u5 ∧ W'.cell? p6 = some u6 :=
  ⟨hid (up_trans h.1.out b), (b.cell (lt_of_cell h.2.1)).trans h.2.1, (b.cell (lt_of_cell h.2.2.1)).trans h.2.2.1, (b.cell (lt_of_cell h.2.2.2.1)).trans h.2.2.2.1, (b.cell (lt_of_cell h.2.2.2.2.1)).trans h.2.2.2.2.1, (b.cell (lt_of_cell h.2.2.2.2.2.1)).trans h.2.2.2.2.2.1, (b.cell (lt_of_cell h.2.2.2.2.2.2)).trans h.2.2.2.2.2.2⟩
set_option maxRecDepth 40000 in
set_option maxHeartbeats 4000000 in
theorem walk_of (ls : List Locale) (q1 : rightL ls = true) (q3 : decL (encLocales ls) = some ls) (q4 : (encLocales ls).length ≤ 800000) (hS : Small ls) (o d wd vl : Int) (adr : Option Addr) (nr capr : Nat) (m : Bool) (fw : Bool) (byz : Int) (w : World) (hT : Tabs w) 
    (hF : ∀ W, Below w.heap.size w W → Calls Tryz.prog 12 #[(.agg #[.int .i64 o, .int .i64 d, .int .i64 wd, .int .i64 vl, .slice adr nr capr, .bool m])] W fun e w' => e = .returned (.bool fw) ∧ Below W.heap.size W w')
    (hM : ∀ W, Below w.heap.size w W → Calls Tryz.prog 13 #[(.agg #[.int .i64 o, .int .i64 d, .int .i64 wd, .int .i64 vl, .slice adr nr capr, .bool m])] W fun e w' => ∃ v, e = .returned v ∧ LocalesAt w' v ls ∧ Below W.heap.size W w') :
    Calls Tryz.prog 10 #[(.agg #[.int .i64 o, .int .i64 d, .int .i64 wd, .int .i64 vl, .slice adr nr capr, .bool m]), .int .i64 byz] w fun e w' => e = .returned (.bool true) ∧ Below w.heap.size w w' := by
  have HU0 := hid (up_alloc w (.cells #[.int .i64 o, .int .i64 d, .int .i64 wd, .int .i64 vl, .slice adr nr capr, .bool m] 24))
  have HX0 := hid (row_new w (.cells #[.int .i64 o, .int .i64 d, .int .i64 wd, .int .i64 vl, .slice adr nr capr, .bool m] 24))
  have HK := hid (known_any (w.alloc (.cells #[.int .i64 o, .int .i64 d, .int .i64 wd, .int .i64 vl, .slice adr nr capr, .bool m] 24)) (hT.on HU0.out))
  have HF := hid hF
  have HM := hid hM
  have HT := hid hT
  have HQ := hid (And.intro q1 (And.intro q3 (And.intro q4 hS)))
  clear hT hF hM q1 q3 q4 hS
  go_enter Tryz.func10, Tryz.ntmps10
  go_wp2_with fail
  refine HK.out.mono ?_
  rintro e w1 ⟨rfl, hb1⟩
  have HB1 := hid (up_trans HU0.out hb1)
  have HX1 := hid ((hb1.block w.heap.size (by simp)).trans HX0.out)
  have hlt1 : w.heap.size < w1.heap.size := (Array.getElem?_eq_some_iff.1 HX1.out).1
  have c0 : w1.cell? ⟨w.heap.size, 0, none⟩ = some (.int .i64 o) := by rw [cell_of_row _ _ _ _ _ _ HX1.out]; rfl
  have c1 : w1.cell? ⟨w.heap.size, 1, none⟩ = some (.int .i64 d) := by rw [cell_of_row _ _ _ _ _ _ HX1.out]; rfl
  have c2 : w1.cell? ⟨w.heap.size, 2, none⟩ = some (.int .i64 wd) := by rw [cell_of_row _ _ _ _ _ _ HX1.out]; rfl
  have c3 : w1.cell? ⟨w.heap.size, 3, none⟩ = some (.int .i64 vl) := by rw [cell_of_row _ _ _ _ _ _ HX1.out]; rfl
  have c4 : w1.cell? ⟨w.heap.size, 4, none⟩ = some (.slice adr nr capr) := by rw [cell_of_row _ _ _ _ _ _ HX1.out]; rfl
  have c5 : w1.cell? ⟨w.heap.size, 5, none⟩ = some (.bool m) := by rw [cell_of_row _ _ _ _ _ _ HX1.out]; rfl
  clear hb1 HK HX0 HU0
  go_wp2_with fail
  refine (HF.out _ HB1.out).mono ?_
  rintro e w2 ⟨rfl, hb2⟩
  have HB2 := hid (up_trans HB1.out hb2)
  have HX2 := hid ((hb2.block w.heap.size hlt1).trans HX1.out)
  clear c0 c1 c2 c3 c4 c5 hlt1 HB1 HX1 hb2
  have c0 : w2.cell? ⟨w.heap.size, 0, none⟩ = some (.int .i64 o) := by rw [cell_of_row _ _ _ _ _ _ HX2.out]; rfl
  have c1 : w2.cell? ⟨w.heap.size, 1, none⟩ = some (.int .i64 d) := by rw [cell_of_row _ _ _ _ _ _ HX2.out]; rfl
  have c2 : w2.cell? ⟨w.heap.size, 2, none⟩ = some (.int .i64 wd) := by rw [cell_of_row _ _ _ _ _ _ HX2.out]; rfl
  have c3 : w2.cell? ⟨w.heap.size, 3, none⟩ = some (.int .i64 vl) := by rw [cell_of_row _ _ _ _ _ _ HX2.out]; rfl
  have c4 : w2.cell? ⟨w.heap.size, 4, none⟩ = some (.slice adr nr capr) := by rw [cell_of_row _ _ _ _ _ _ HX2.out]; rfl
  have c5 : w2.cell? ⟨w.heap.size, 5, none⟩ = some (.bool m) := by rw [cell_of_row _ _ _ _ _ _ HX2.out]; rfl
  clear HX2
  cases fw with
  | false =>
    go_wp2
    go_ret
    exact ⟨rfl, HB2.out⟩
  | true =>
    have HM1 := hid HM.out
    have HM2 := hid HM.out
    go_wp2
    go_region_held (fun W => Hid (Below w2.heap.size w2 W) ∧ W.cell? ⟨w.heap.size, 0, none⟩ = some (.int .i64 o) ∧ W.cell? ⟨w.heap.size, 1, none⟩ = some (.int .i64 d) ∧ W.cell? ⟨w.heap.size, 2, none⟩ = some (.int .i64 wd) ∧ W.cell? ⟨w.heap.size, 3, none⟩ = some (.int .i64 vl) ∧ W.cell? ⟨w.heap.size, 4, none⟩ = some (.slice adr nr capr) ∧ W.cell? ⟨w.heap.size, 5, none⟩ = some (.bool m)) (first | assumption | exact ⟨hid (Below.refl _ _).drew, c0, c1, c2, c3, c4, c5⟩ | exact held6 (by assumption) (by assumption)) (first
      | (go_at_call 13; refine (HM1.out _ (up_trans HB2.out (Hid.out (And.left (by assumption))))).mono ?_; rintro e w3 ⟨lv, rfl, hl3, hb3⟩; have HL3 := hid hl3; obtain ⟨adl, capl, el, _⟩ := hl3.shape; obtain ⟨nl, hnl⟩ : ∃ nl, nl = ls.length := ⟨_, rfl⟩; rw [← hnl] at el; subst el; clear hl3 hnl HM1)
      | (go_at_call 13; refine (HM2.out _ (up_trans HB2.out (Hid.out (And.left (by assumption))))).mono ?_; rintro e w4 ⟨mv, rfl, hl4, hb4⟩; have HM4 := hid hl4; have HL4 := hid (HL3.out.on hb4); obtain ⟨adm, capm, em, _⟩ := hl4.shape; obtain ⟨nm, hnm⟩ : ∃ nm, nm = ls.length := ⟨_, rfl⟩; rw [← hnm] at em; subst em; clear hl4 hnm HM2))
    have HB4 := hid (up_trans HB2.out (Hid.out (And.left (by assumption))))
    clear HM HF c0 c1 c2 c3 c4 c5 HB2 HL3
    have HRV := hid (ResolveO_any ls ⟨#[101, 110]⟩ _ w4 HL4.out HQ.out.2.2.2 (HT.out.on HB4.out) (right_rowsO HQ.out.1))
    go_wp2_with fail
    refine HRV.out.mono ?_
    rintro e w5 ⟨hb5, h5⟩
    have HB5 := hid hb5
    obtain ⟨X, hX, v0, v1, v2, bo, rfl, hO⟩ : ∃ X : Locale, True ∧ ∃ v0 v1 v2 bo, e = .returned (.tuple #[localeV X v0 v1 v2, .bool bo]) ∧ Stl w5 (fun W => LocaleO w4.heap.size W X v0 v1 v2) := by
      rcases h5 with ⟨_, i, _, _, _, v0, v1, v2, rfl, hs⟩ | ⟨_, rfl⟩
      · exact ⟨_, trivial, v0, v1, v2, true, rfl, hs⟩
      · exact ⟨nilLocale, trivial, _, _, _, false, rfl, fun W _ => ⟨⟨[], World.ownsRow_nil _ _ _ _, EntryC.nil _⟩, ⟨[], World.ownsRow_nil _ _ _ _, RuleO.nil _ _⟩, ⟨[], World.ownsRow_nil _ _ _ _, StyleO.nil _ _⟩⟩⟩
    clear h5 hb5 HRV hX
    obtain ⟨xid, xpa, xdi, xlx, xrl, xst⟩ := X
    have hs0 := own_shape hO.now.1.choose_spec.1
    have hs1 := own_shape hO.now.2.1.choose_spec.1
    have hs2 := own_shape hO.now.2.2.choose_spec.1
    obtain ⟨ad0, cap0, e0, _⟩ := hs0
    obtain ⟨ad1, cap1, e1, _⟩ := hs1
    obtain ⟨ad2, cap2, e2, _⟩ := hs2
    dsimp only at e0 e1 e2
    obtain ⟨n0, h0⟩ : ∃ n0, n0 = xlx.length := ⟨_, rfl⟩
    obtain ⟨n1, h1⟩ : ∃ n1, n1 = xrl.length := ⟨_, rfl⟩
    obtain ⟨n2, h2⟩ : ∃ n2, n2 = xst.length := ⟨_, rfl⟩
    rw [← h0] at e0
    rw [← h1] at e1
    rw [← h2] at e2
    subst e0 e1 e2
    have HN := hid (And.intro h0 (And.intro h1 h2))
    have HU6 := hid (up_alloc w5 (.cells #[.string xid, .int .i64 xpa, .int .i64 xdi, .slice ad0 n0 cap0, .slice ad1 n1 cap1, .slice ad2 n2 cap2] 44))
    have HK6 := hid (row_new w5 (.cells #[.string xid, .int .i64 xpa, .int .i64 xdi, .slice ad0 n0 cap0, .slice ad1 n1 cap1, .slice ad2 n2 cap2] 44))
    have HO := hid (hO _ (KeepL.up HU6.out))
    have hw45 := HB5.out.size
    unfold localeV
    dsimp only
    clear hO h0 h1 h2
    go_wp2
    obtain ⟨w6, hw6⟩ : ∃ w6, w6 = w5.alloc (.cells #[.string xid, .int .i64 xpa, .int .i64 xdi, .slice ad0 n0 cap0, .slice ad1 n1 cap1, .slice ad2 n2 cap2] 44) := ⟨_, rfl⟩
    rw [← hw6] at HU6 HK6 HO ⊢
    obtain ⟨gX, hgX⟩ : ∃ gX, gX = w5.heap.size := ⟨_, rfl⟩
    rw [← hgX] at HK6 ⊢
    have HB6 := hid (up_trans HB5.out HU6.out)
    obtain ⟨B, hB⟩ : ∃ B, B = w4.heap.size := ⟨_, rfl⟩
    have HBE := hid hB
    rw [← hB] at HO
    clear hw6 hgX HU6 HB5 hw45 hB
    have HX3 : Hid (∀ W, Rel B w6 W → W.cell? ⟨gX, 3, none⟩ = some (.slice ad0 n0 cap0)) := hid (fun W R => R.same HK6.out rfl (not_locale _))
    have HX4 : Hid (∀ W, Rel B w6 W → W.cell? ⟨gX, 4, none⟩ = some (.slice ad1 n1 cap1)) := hid (fun W R => R.same HK6.out rfl (not_locale _))
    have HX5 : Hid (∀ W, Rel B w6 W → W.cell? ⟨gX, 5, none⟩ = some (.slice ad2 n2 cap2)) := hid (fun W R => R.same HK6.out rfl (not_locale _))
    obtain ⟨cl, hol, _⟩ := HO.out.1
    obtain ⟨cr, hor, hrO⟩ := HO.out.2.1
    obtain ⟨cst, hos, hsO⟩ := HO.out.2.2
    dsimp only at hol hor hrO hos hsO
    have HOL := hid hol
    have HOR := hid (And.intro hor hrO)
    have HOS := hid (And.intro hos hsO)
    have hm0 : n0 ≤ 9223372036854775807 := by rw [HN.out.1]; exact own_len hol
    have hm1 : n1 ≤ 9223372036854775807 := by rw [HN.out.2.1]; exact own_len hor
    have hm2 : n2 ≤ 9223372036854775807 := by rw [HN.out.2.2]; exact own_len hos
    clear hol hor hrO hos hsO HO HK6
    go_loopw [9] (fun v9 wr => ∃ i : Nat, i ≤ n0 ∧ v9 = .int .i64 i ∧ Rel B w6 wr) (fun v9 _ => n0 - (intOf v9).toNat)
    case atStart => exact ⟨0, by omega, rfl, Rel.refl _ _⟩
    case round =>
      obtain ⟨i, hi, rfl, hR⟩ := hrel
      have x3 := HX3.out _ hR
      by_cases hlt : i < n0
      · have hlt2 : (i : Int) < (n0 : Int) := by omega
        have hi0 : (0 : Int) ≤ (i : Int) := by omega
        obtain ⟨g, cap, eg, ⟨u, hu⟩, hf, hset⟩ := lex_round hR HOL.out (i := i) (by rw [← HN.out.1]; exact hlt)
        injection eg with eg1 _ eg3
        subst eg1 eg3
        have HSET := hid hset
        clear hset hR
        go_wp2
        go_roundw
        case rel => exact ⟨i + 1, by omega, by simp, HSET.out _⟩
        case measure => simp [intOf]; omega
      · obtain rfl : i = n0 := by omega
        have HR1 := hid hR
        clear hR hlt hi
        go_wp2
        go_loopw [10] (fun v10 wr => ∃ j : Nat, j ≤ n1 ∧ v10 = .int .i64 j ∧ Rel B w6 wr) (fun v10 _ => n1 - (intOf v10).toNat)
        case atStart => exact ⟨0, by omega, rfl, HR1.out⟩
        case round =>
          obtain ⟨j, hj, rfl, hR⟩ := hrel
          clear x3
          have x4 := HX4.out _ hR
          by_cases hlt : j < n1
          · have hlt2 : (j : Int) < (n1 : Int) := by omega
            have hj0 : (0 : Int) ≤ (j : Int) := by omega
            obtain ⟨g, cap, eg, ⟨u, hu⟩, hf, hset, sv, xs, hsv, hsvc⟩ := rule_round hR HOR.out.1 HOR.out.2 (i := j) (by rw [← HN.out.2.1]; exact hlt)
            injection eg with eg1 _ eg3
            subst eg1 eg3
            have HSET := hid hset
            have HSV := hid hsv
            have HSC := hid hsvc
            obtain ⟨adq, capq, eq, _⟩ := hsv.shape
            obtain ⟨nq, hnq⟩ : ∃ nq, nq = xs.length := ⟨_, rfl⟩
            rw [← hnq] at eq
            have HNQ := hid hnq
            subst eq
            have hmq : nq ≤ 1000000 := by rw [hnq]; exact HSV.out.1
            clear hset hR hsv hsvc hnq
            go_wp2
            go_loopw [11] (fun v11 wr => ∃ k : Nat, k ≤ nq ∧ v11 = .int .i64 k ∧ Rel B w6 wr) (fun v11 _ => nq - (intOf v11).toNat)
            case atStart => exact ⟨0, by omega, rfl, HSET.out _⟩
            case round =>
              obtain ⟨k, hk, rfl, hR⟩ := hrel
              clear x4 hu hf
              have x4 := HX4.out _ hR
              have y1 := HSC.out _ hR
              by_cases hlk : k < nq
              · have hlk2 : (k : Int) < (nq : Int) := by omega
                have hk0 : (0 : Int) ≤ (k : Int) := by omega
                obtain ⟨g2, cap2', eg, ⟨u, hu⟩, hf, hset⟩ := int_round hR HSV.out (i := k) (by rw [← HNQ.out]; exact hlk)
                injection eg with eg1 _ eg3
                subst eg1 eg3
                have HSET2 := hid hset
                clear hset hR
                go_wp2
                go_roundw
                case rel => exact ⟨k + 1, by omega, by simp, HSET2.out _⟩
                case measure => simp [intOf]; omega
              · obtain rfl : k = nq := by omega
                have HR2 := hid hR
                clear hR
                go_wp2
                go_roundw
                case rel => exact ⟨j + 1, by omega, by simp, HR2.out⟩
                case measure => simp [intOf]; omega
          · obtain rfl : j = n1 := by omega
            have HR3 := hid hR
            clear hR hlt hj HR1
            go_wp2
            go_loopw [12] (fun v12 wr => ∃ i : Nat, i ≤ n2 ∧ v12 = .int .i64 i ∧ Rel B w6 wr) (fun v12 _ => n2 - (intOf v12).toNat)
            case atStart => exact ⟨0, by omega, rfl, HR3.out⟩
            case round =>
              obtain ⟨i2, hi2, rfl, hR⟩ := hrel
              clear x4
              have x5 := HX5.out _ hR
              by_cases hlt : i2 < n2
              · have hlt2 : (i2 : Int) < (n2 : Int) := by omega
                have hi0 : (0 : Int) ≤ (i2 : Int) := by omega
                obtain ⟨g, cap, eg, sv, xs, hsv, hsvc⟩ := style_round HOS.out.1 HOS.out.2 (i := i2) (by rw [← HN.out.2.2]; exact hlt)
                injection eg with eg1 _ eg3
                subst eg1 eg3
                have HSV := hid hsv
                have HSC := hid hsvc
                have HR4 := hid hR
                obtain ⟨adq, capq, eq, _⟩ := hsv.shape
                obtain ⟨nq, hnq⟩ : ∃ nq, nq = xs.length := ⟨_, rfl⟩
                rw [← hnq] at eq
                have HNQ := hid hnq
                subst eq
                have hmq : nq ≤ 1000000 := by rw [hnq]; exact HSV.out.1
                clear hR hsv hsvc hnq
                go_wp2
                go_loopw [13] (fun v13 wr => ∃ k : Nat, k ≤ nq ∧ v13 = .int .i64 k ∧ Rel B w6 wr) (fun v13 _ => nq - (intOf v13).toNat)
                case atStart => exact ⟨0, by omega, rfl, HR4.out⟩
                case round =>
                  obtain ⟨k, hk, rfl, hR⟩ := hrel
                  clear x5
                  have x5 := HX5.out _ hR
                  have y1 := HSC.out _ hR
                  by_cases hlk : k < nq
                  · have hlk2 : (k : Int) < (nq : Int) := by omega
                    have hk0 : (0 : Int) ≤ (k : Int) := by omega
                    obtain ⟨g2, cap2', eg, ⟨u, hu⟩, hf, hset⟩ := part_round hR HSV.out (i := k) (by rw [← HNQ.out]; exact hlk)
                    injection eg with eg1 _ eg3
                    subst eg1 eg3
                    have HSET2 := hid hset
                    clear hset hR
                    go_wp2
                    go_roundw
                    case rel => exact ⟨k + 1, by omega, by simp, HSET2.out _⟩
                    case measure => simp [intOf]; omega
                  · obtain rfl : k = nq := by omega
                    have HR5 := hid hR
                    clear hR
                    go_wp2
                    go_roundw
                    case rel => exact ⟨i2 + 1, by omega, by simp, HR5.out⟩
                    case measure => simp [intOf]; omega
              · obtain rfl : i2 = n2 := by omega
                have hbw : Below w4.heap.size w4 wr := by
                  have h1 := hR.below
                  rw [HBE.out] at h1
                  exact HB6.out.trans h1
                have HBW := hid (up_trans HB4.out hbw)
                have HSM := hid (same_any ls ls _ _ wr (HL4.out.on hbw) (HM4.out.on hbw) HQ.out.2.2.1 HQ.out.2.2.1)
                simp only [decide_true] at HSM
                clear hR hbw
                go_wp2_with fail
                refine HSM.out.mono ?_
                rintro e w9 ⟨rfl, hb9⟩
                have HB9 := hid (up_trans HBW.out hb9)
                clear hb9
                go_wp2
                go_ret
                exact ⟨rfl, HB9.out⟩

theorem walk (v : Value) (x : Shp) (byz : Int) (w : World) (h : ShapeAt w v x) (_ : (Lit.int .i64 byz).wf = true) (hT : Tabs w) :
    Calls Tryz.prog 10 #[v, .int .i64 byz] w fun e w' => e = .returned (.bool true) ∧ Below w.heap.size w w' := by
  obtain ⟨rv, rfl, hr⟩ := h
  have hr' := hr
  obtain ⟨adr, capr, rfl, _⟩ := hr'
  exact walk_of (mkL x) (mkL_right x) (there_back (mkL_right x)) (right_len (mkL_right x)) (right_small (mkL_right x)) _ _ _ _ _ _ _ _ _ byz w hT (fun W hb => few5_any _ _ _ _ _ _ _ W (hr.on hb)) (fun W hb => make_at x _ W (hr.on hb))

theorem own : ownKnob Tryz.prog.godebug = none := by kernel_rfl

theorem table {W : World} (h : laidMetH Tryz.prog Rows.blobOwnRow.laid W) : Tabs W := by
  rw [MakeChecks.laidMetH_plain _ _ _ (by kernel_rfl)] at h
  exact tabs_of_laid h

set_option maxRecDepth 100000 in
theorem lifted (os : Os) (started : os.Started) (H : Type) (enc : TypeId × Value → H) :
    ReturnsInHanded {} Tryz.checked os 10 .any (fun w args => (Rows.blobOwnSpec.pre enc Tryz.prog Tryz.f10 Rows.blobOwnRow.domain false w args ∧ laidMetH Tryz.prog Rows.blobOwnRow.laid w) ∧ sizedMet enc Tryz.prog Tryz.f10 (OpenSpec.ofChange Rows.blobOwnSpec) false w args)
      (Rows.blobOwnSpec.post enc Tryz.prog Tryz.f10 false true false false) := by
  refine returnsInHanded_of_change_and (C := Tryz.checked) (X := fun w _ => laidMetH Tryz.prog Rows.blobOwnRow.laid w) (fun _ _ _ hh h => h.of_heap hh) own started (by kernel_rfl) Tryz.func10
    (ChangeSpec.witness_shaped (enc := enc) (C := Tryz.checked) (os := os) (X := fun w _ => laidMetH Tryz.prog Rows.blobOwnRow.laid w) false (World.laidAll Tryz.prog os Rows.blobOwnRow.laid) #[.agg #[.int .i64 0, .int .i64 0, .int .i64 0, .int .i64 0, .slice none 0 0, .bool false], .int .i64 0] 8 (World.laidAll_os _ _ _)
      (World.shaped_of_ZipB (by kernel_rfl) (by kernel_rfl)) (by kernel_rfl) (by kernel_rfl) (by kernel_rfl)
      (by rw [MakeChecks.laidMetH_plain _ _ _ (by kernel_rfl)]; exact laidMet_laidAll _ (by kernel_rfl) (by kernel_rfl))) ?_
  intro W base args ds gs before hval0 hW _ _ hL _
  have hval : ∀ (j : Nat) t v, Tryz.f10.params[j]? = some t → args[j]? = some v → Value.okWide Tryz.prog W .any base t v := hval0
  have hW' := hW
  obtain ⟨p, q, hA0, hV, rfl, hfz, hnd⟩ := hW
  have hA : DataW.TrodAll enc Tryz.prog W 0 (fun _ => true) true Tryz.f10.params.toList args.toList ds p := hA0
  rw [Tryz.params10] at hA hval
  obtain ⟨v0, vs0, d0, ds0, p0, q0, hargs, rfl, rfl, h0, r0⟩ := trodAll_cons hA
  obtain ⟨v1, vs1, d1, ds1, p1, q1, rfl, rfl, rfl, h1, r1⟩ := trodAll_cons r0
  obtain ⟨rfl, rfl, rfl⟩ := trodAll_nil r1
  obtain rfl : args = #[v0, v1] := by cases args; simp_all
  obtain ⟨rfl, rfl⟩ := trodVars_none hV
  obtain ⟨x0, w0⟩ := shape_at (hval 0 24 v0 rfl rfl) h0
  have l0 : ∀ x ∈ p0, x.block < W.heap.size := fun x hx => hW'.lt x (by simp [hx])
  obtain ⟨a1, rfl, rfl, rfl, w1⟩ := open_int Tryz.underlying3 (hval 1 3 v1 rfl rfl) h1
  clear hA0 hval0
  refine (walk v0 x0 a1 W w0 w1 (table hL)).mono fun e W' ⟨he, bel⟩ => ?_
  subst he
  exact ⟨_, rfl, _, _, _, _, _, [], hW', trodAll_mk1 (shut_bool Tryz.underlying4 _), (trodAll_cons_mk (Below.trod (by kernel_rfl) (by kernel_rfl) (of_decide_eq_true (by kernel_rfl)) h0 bel l0) (trodAll_cons_mk (shut_int Tryz.underlying3 w1) trodAll_mk0)), rfl, bel.frame _, fun h => by cases h⟩

theorem row_holds : Rows.BlobOwnSaid :=
  OpenClaim.holds_of_wide 10 Tryz.f10 rfl rfl rfl rfl rfl rfl rfl ⟨rfl, rfl, rfl, rfl, rfl⟩ rfl rfl rfl rfl rfl (by kernel_rfl) Tryz.func10 (by kernel_rfl)
    (of_decide_eq_true (by kernel_rfl)) (by unfold Func.isWrapper; first | (rw [if_pos (by decide +kernel)]; kernel_rfl) | (rw [if_neg (by decide +kernel)]; exact ⟨rfl, rfl⟩))
    (fun os started H enc _ => lifted os started H enc)

theorem blobOwn_holds : Rows.BlobOwnCardSaid :=
  Claim7.holds_tied_plain_at .later [] _ _ _ _ row_holds (fun _ h => by cases h) (by kernel_rfl) (fun _ h => by cases h) blobOwn_row_tie rfl ⟨rfl, rfl⟩ (by kernel_rfl) rfl
    (fun f fn hf hfn => by
      obtain rfl : f = 10 := Option.some.inj ((show Tryz.prog.funcNamed "interlocutor/interlocutorlaw5.BlobOwn" = some 10 by kernel_rfl).symm.trans hf) |>.symm
      obtain rfl : fn = Tryz.f10 := (Option.some.inj (Tryz.func10.symm.trans hfn)).symm
      exact ⟨by kernel_rfl, fun j t ht => by
        rw [Tryz.params10] at ht
        have hm : t ∈ [24, 3] := by simpa using Array.mem_of_getElem? ht
        have hall : ([24, 3].all fun u => !Tryz.prog.wantsStandIn u) = true := by kernel_rfl
        exact (show Tryz.prog.wantsStandIn t = false by simpa using List.all_eq_true.1 hall t hm)⟩)
    (by kernel_rfl)

end Go.Proofs.YtohgaknojkdohaaGreatDoor
