/- BlobResolves answers true of any shape, any name, any number: each of seven names is resolved as the reference resolves it; the sample's third locale has one word more than its second, as many rules, those of the sample. The table of gram's places and fold's noughts is as listed. -/
import Derived.Test.YtohgaknojkdohaaGreatDoorCards
import Derived.Test.YtohgaknojkdohaaGreatDoorTie
import Derived.Test.YtohgaknojkdohaaGreatDoorTf
import Derived.Test.YtohgaknojkdohaaGreatDoorFb
import Derived.ProofKit
import Derived.OpenShut
import Derived.Lay
import Derived.SevenTiedAt
import Derived.Stop.Joined
import Derived.Lib.LaidTab
import Derived.Test.YtohgaknojkdohaaGreatDoorTg
namespace Go.Proofs.YtohgaknojkdohaaGreatDoor
open Go.ChangeShapes Go.WideShapes Go.ChangeAt Go.RowKit Gr

def idsL (name : ByteArray) (j : Nat) : ByteArray := [name, ⟨#[98, 97, 115, 101]⟩, ⟨#[101, 110]⟩, ⟨#[97, 114, 45, 49]⟩, ⟨#[120]⟩, ⟨#[]⟩, ⟨#[69, 78]⟩].getD j ⟨#[]⟩
theorem ids_cell (name : ByteArray) (w : World) (j : Nat) (hj : j < 7) : (w.alloc (.cells #[.string name, .string ⟨#[98, 97, 115, 101]⟩, .string ⟨#[101, 110]⟩, .string ⟨#[97, 114, 45, 49]⟩, .string ⟨#[120]⟩, .string ⟨#[]⟩, .string ⟨#[69, 78]⟩] 9)).cell? ⟨w.heap.size, j, none⟩ = some (.string (idsL name j)) := by
  rw [new_cell]
  rcases (by omega : j = 0 ∨ j = 1 ∨ j = 2 ∨ j = 3 ∨ j = 4 ∨ j = 5 ∨ j = 6) with rfl | rfl | rfl | rfl | rfl | rfl | rfl <;> rfl
theorem held5 {B W W' : World} {p1 p2 p3 p4 p5 : Addr} {u1 u2 u3 u4 u5 : Value} (b : Below W.heap.size W W') (h : Hid (Below B.heap.size B W) ∧ W.cell? p1 = some u1 ∧ W.cell? p2 = some u2 ∧ W.cell? p3 = some u3 ∧ W.cell? p4 = some u4 ∧ W.cell? p5 = some u5) :
    Hid (Below B.heap.size B W') ∧ W'.cell? p1 = some u1 ∧ W'.cell? p2 = some u2 ∧ W'.cell? p3 = some u3 ∧ W'.cell? p4 = some u4 ∧ W'.cell? p5 = some u5 :=
  ⟨hid (up_trans h.1.out b), (b.cell (lt_of_cell h.2.1)).trans h.2.1, (b.cell (lt_of_cell h.2.2.1)).trans h.2.2.1, (b.cell (lt_of_cell h.2.2.2.1)).trans h.2.2.2.1, (b.cell (lt_of_cell h.2.2.2.2.1)).trans h.2.2.2.2.1, (b.cell (lt_of_cell h.2.2.2.2.2)).trans h.2.2.2.2.2⟩
set_option maxRecDepth 40000 in
set_option maxHeartbeats 4000000 in
theorem walk_of (ls : List Locale) (q1 : rightL ls = true) (q3 : decL (encLocales ls) = some ls) (q4 : (encLocales ls).length ≤ 800000) (hS : Small ls) (o d wd vl : Int) (adr : Option Addr) (nr capr : Nat) (m : Bool) (fw : Bool) (name : ByteArray) (n : Int) (X Y : Locale) (w : World) (hT : Tabs w) (hf : (Res ls ⟨#[97, 114, 45, 49]⟩ X true ∧ Res ls ⟨#[101, 110]⟩ Y true) ∧ (X.lex.length = 23 ∧ Y.lex.length = 22 ∧ X.rules.length = 30 ∧ Y.rules.length = 30) ∧ check X.rules = true ∧ (X.lex.getD 0 nilEntry).text = ⟨#[106, 97, 110]⟩)
    (hF : ∀ W, Below w.heap.size w W → Calls Tryz.prog 12 #[(.agg #[.int .i64 o, .int .i64 d, .int .i64 wd, .int .i64 vl, .slice adr nr capr, .bool m])] W fun e w' => e = .returned (.bool fw) ∧ Below W.heap.size W w')
    (hM : ∀ W, Below w.heap.size w W → Calls Tryz.prog 13 #[(.agg #[.int .i64 o, .int .i64 d, .int .i64 wd, .int .i64 vl, .slice adr nr capr, .bool m])] W fun e w' => ∃ v, e = .returned v ∧ LocalesAt w' v ls ∧ Below W.heap.size W w') :
    Calls Tryz.prog 6 #[(.agg #[.int .i64 o, .int .i64 d, .int .i64 wd, .int .i64 vl, .slice adr nr capr, .bool m]), .string name, .int .i64 n] w fun e w' => e = .returned (.bool true) ∧ Below w.heap.size w w' := by
  have HU0 := hid (up_alloc w (.cells #[.int .i64 o, .int .i64 d, .int .i64 wd, .int .i64 vl, .slice adr nr capr, .bool m] 24))
  have HX0 := hid (row_new w (.cells #[.int .i64 o, .int .i64 d, .int .i64 wd, .int .i64 vl, .slice adr nr capr, .bool m] 24))
  have HK := hid (known_any (w.alloc (.cells #[.int .i64 o, .int .i64 d, .int .i64 wd, .int .i64 vl, .slice adr nr capr, .bool m] 24)) (hT.on HU0.out))
  have HF := hid hF
  have HM := hid hM
  have HT := hid hT
  have HQ := hid (And.intro q1 (And.intro q3 (And.intro q4 hS)))
  clear hT hF hM q1 q3 q4 hS
  have HF1 := hid hf
  clear hf
  go_enter Tryz.func6, Tryz.ntmps6
  go_wp2_with fail
  refine HK.out.mono ?_
  rintro e w1 ⟨rfl, hb1⟩
  have HB1 := hid (up_trans HU0.out hb1)
  have HX1 := hid ((hb1.block w.heap.size (by simp)).trans HX0.out)
  have hlt1 : w.heap.size < w1.heap.size := (Array.getElem?_eq_some_iff.1 HX1.out).1
  have c0 : w1.cell? ⟨w.heap.size, 0, none⟩ = some (.int .i64 o) := by rw [cell_of_row _ _ _ _ _ _ HX1.out]; rfl
  have c1 : w1.cell? ⟨w.heap.size, 1, none⟩ = some (.int .i64 d) := by rw [cell_of_row _ _ _ _ _ _ HX1.out]; rfl
  have c2 : w1.cell? ⟨w.heap.size, 2, none⟩ = some (.int .i64 wd) := by rw [cell_of_row _ _ _ _ _ _ HX1.out]; rfl
  have c3 : w1.cell? ⟨w.heap.size, 3, none⟩ = some (.int .i64 vl) := by rw [cell_of_row _ _ _ _ _ _ HX1.out]; rfl
  have c4 : w1.cell? ⟨w.heap.size, 4, none⟩ = some (.slice adr nr capr) := by rw [cell_of_row _ _ _ _ _ _ HX1.out]; rfl
  have c5 : w1.cell? ⟨w.heap.size, 5, none⟩ = some (.bool m) := by rw [cell_of_row _ _ _ _ _ _ HX1.out]; rfl
  clear hb1 HK HX0 HU0
  go_wp2_with fail
  refine (HF.out _ HB1.out).mono ?_
  rintro e w2 ⟨rfl, hb2⟩
  have HB2 := hid (up_trans HB1.out hb2)
  have HX2 := hid ((hb2.block w.heap.size hlt1).trans HX1.out)
  clear c0 c1 c2 c3 c4 c5 hlt1 HB1 HX1 hb2
  have c0 : w2.cell? ⟨w.heap.size, 0, none⟩ = some (.int .i64 o) := by rw [cell_of_row _ _ _ _ _ _ HX2.out]; rfl
  have c1 : w2.cell? ⟨w.heap.size, 1, none⟩ = some (.int .i64 d) := by rw [cell_of_row _ _ _ _ _ _ HX2.out]; rfl
  have c2 : w2.cell? ⟨w.heap.size, 2, none⟩ = some (.int .i64 wd) := by rw [cell_of_row _ _ _ _ _ _ HX2.out]; rfl
  have c3 : w2.cell? ⟨w.heap.size, 3, none⟩ = some (.int .i64 vl) := by rw [cell_of_row _ _ _ _ _ _ HX2.out]; rfl
  have c4 : w2.cell? ⟨w.heap.size, 4, none⟩ = some (.slice adr nr capr) := by rw [cell_of_row _ _ _ _ _ _ HX2.out]; rfl
  have c5 : w2.cell? ⟨w.heap.size, 5, none⟩ = some (.bool m) := by rw [cell_of_row _ _ _ _ _ _ HX2.out]; rfl
  clear HX2
  cases fw with
  | false =>
    go_wp2
    go_ret
    exact ⟨rfl, HB2.out⟩
  | true =>
    by_cases hmn : (60 : Int) < (name.size : Int)
    · go_wp2
      go_ret
      exact ⟨rfl, HB2.out⟩
    go_wp2_with fail
    refine (HM.out _ HB2.out).mono ?_
    rintro e w3 ⟨lv, rfl, hl3, hb3⟩
    have HB3 := hid (up_trans HB2.out hb3)
    have HL3 := hid hl3
    obtain ⟨adl, capl, el, _⟩ := hl3.shape
    obtain ⟨nl, hnl⟩ : ∃ nl, nl = ls.length := ⟨_, rfl⟩
    rw [← hnl] at el
    subst el
    clear hl3 hb3 HB2 HM HF hnl c0 c1 c2 c3 c4 c5
    have HU4 := hid (up_alloc w3 (.cells #[.string name, .string ⟨#[98, 97, 115, 101]⟩, .string ⟨#[101, 110]⟩, .string ⟨#[97, 114, 45, 49]⟩, .string ⟨#[120]⟩, .string ⟨#[]⟩, .string ⟨#[69, 78]⟩] 9))
    have HI := hid (ids_cell name w3)
    go_wp2
    obtain ⟨w4, hw4⟩ : ∃ w4, w4 = w3.alloc (.cells #[.string name, .string ⟨#[98, 97, 115, 101]⟩, .string ⟨#[101, 110]⟩, .string ⟨#[97, 114, 45, 49]⟩, .string ⟨#[120]⟩, .string ⟨#[]⟩, .string ⟨#[69, 78]⟩] 9) := ⟨_, rfl⟩
    rw [← hw4] at HU4 HI ⊢
    obtain ⟨g8, hg8⟩ : ∃ g8, g8 = w3.heap.size := ⟨_, rfl⟩
    rw [← hg8] at HI ⊢
    have HB4 := hid (up_trans HB3.out HU4.out)
    have HL4 := hid (HL3.out.on HU4.out)
    clear hw4 hg8 HU4 HB3 HL3
    go_loopw [9] (fun v9 wr => ∃ j : Nat, j ≤ 7 ∧ v9 = .int .i64 j ∧ Below w4.heap.size w4 wr) (fun v9 _ => 7 - (intOf v9).toNat)
    case atStart => exact ⟨0, by omega, rfl, Below.refl _ _⟩
    case round =>
      obtain ⟨j, hj, rfl, hb⟩ := hrel
      have HBR := hid (up_trans HB4.out hb)
      have HLR := hid (HL4.out.on hb)
      have HBJ := hid hb
      by_cases hlt : j < 7
      · have hlt2 : (j : Int) < 7 := by omega
        have hj0 : (0 : Int) ≤ (j : Int) := by omega
        have ci := (hb.cell (lt_of_cell (HI.out j hlt))).trans (HI.out j hlt)
        obtain ⟨s, hs⟩ : ∃ s, s = idsL name j := ⟨_, rfl⟩
        rw [← hs] at ci
        obtain ⟨y, b, hy⟩ := Res.exists ls s
        have HY := hid hy
        have HR := hid (bres_any ls s _ wr HLR.out (HT.out.on HBR.out) HQ.out.1 hy)
        clear hs hy hb
        go_wp2_with fail
        refine HR.out.mono ?_
        rintro e wa ⟨v0, v1, v2, rfl, ha, hba⟩
        have HA := hid ha
        obtain ⟨ad0, ap0, e0, _⟩ := ha.1.shape
        obtain ⟨ad1, ap1, e1, _⟩ := ha.2.1.shape
        obtain ⟨ad2, ap2, e2, _⟩ := ha.2.2.shape
        have HBA := hid (up_trans HBR.out hba)
        have HBJA := hid (up_trans HBJ.out hba)
        have HLA := hid (HLR.out.on hba)
        replace ci := (hba.cell (lt_of_cell ci)).trans ci
        have HSM := hid (fun v0 v1 v2 u0 u1 u2 w h k => res_same HQ.out.1 HY.out v0 v1 v2 u0 u1 u2 w h k)
        have HRR := hid (fun W hl => rres_any ls s (.slice adl nl capl) W hl HQ.out.1 HY.out)
        obtain ⟨yid, ypa, ydi, ylx, yrl, yst⟩ := y
        unfold localeV at HSM HRR ⊢
        dsimp only at HSM HRR e0 e1 e2 ⊢
        obtain ⟨l0, h0⟩ : ∃ l0, l0 = ylx.length := ⟨_, rfl⟩
        obtain ⟨l1, h1⟩ : ∃ l1, l1 = yrl.length := ⟨_, rfl⟩
        obtain ⟨l2, h2⟩ : ∃ l2, l2 = yst.length := ⟨_, rfl⟩
        rw [← h0] at e0
        rw [← h1] at e1
        rw [← h2] at e2
        subst e0 e1 e2
        have HH := hid (And.intro h0 (And.intro h1 h2))
        have HUA := hid (up_alloc wa (.cells #[.string yid, .int .i64 ypa, .int .i64 ydi, .slice ad0 l0 ap0, .slice ad1 l1 ap1, .slice ad2 l2 ap2] 44))
        have HKA := hid (row_new wa (.cells #[.string yid, .int .i64 ypa, .int .i64 ydi, .slice ad0 l0 ap0, .slice ad1 l1 ap1, .slice ad2 l2 ap2] 44))
        clear ha hba h0 h1 h2 HR HBR HBJ HLR
        replace ci := (HUA.out.cell (lt_of_cell ci)).trans ci
        go_wp2_with fail
        obtain ⟨wb, hwb⟩ : ∃ wb, wb = wa.alloc (.cells #[.string yid, .int .i64 ypa, .int .i64 ydi, .slice ad0 l0 ap0, .slice ad1 l1 ap1, .slice ad2 l2 ap2] 44) := ⟨_, rfl⟩
        rw [← hwb] at HUA HKA ci ⊢
        obtain ⟨ga, hga⟩ : ∃ ga, ga = wa.heap.size := ⟨_, rfl⟩
        rw [← hga] at HKA ⊢
        have HA2 := hid (show LocaleAt wb _ _ _ _ from ⟨HA.out.1.on HUA.out, HA.out.2.1.on HUA.out, HA.out.2.2.on HUA.out⟩)
        have HBJB := hid (up_trans HBJA.out HUA.out)
        have hla : ga < wb.heap.size := (Array.getElem?_eq_some_iff.1 HKA.out).1
        refine (HRR.out wb (HLA.out.on HUA.out)).mono ?_
        clear hwb hga
        rintro e wc ⟨u0, u1, u2, rfl, hc, hbc⟩
        have HC := hid hc
        obtain ⟨bd0, bp0, e0, _⟩ := hc.1.shape
        obtain ⟨bd1, bp1, e1, _⟩ := hc.2.1.shape
        obtain ⟨bd2, bp2, e2, _⟩ := hc.2.2.shape
        dsimp only at e0 e1 e2
        rw [← HH.out.1] at e0
        rw [← HH.out.2.1] at e1
        rw [← HH.out.2.2] at e2
        subst e0 e1 e2
        have HUC := hid (up_alloc wc (.cells #[.string yid, .int .i64 ypa, .int .i64 ydi, .slice bd0 l0 bp0, .slice bd1 l1 bp1, .slice bd2 l2 bp2] 44))
        have HKC := hid (row_new wc (.cells #[.string yid, .int .i64 ypa, .int .i64 ydi, .slice bd0 l0 bp0, .slice bd1 l1 bp1, .slice bd2 l2 bp2] 44))
        have hlc : ga < wc.heap.size := Nat.lt_of_lt_of_le hla hbc.size
        have HKA2 := hid ((Below.heap_alloc wc (.cells #[.string yid, .int .i64 ypa, .int .i64 ydi, .slice bd0 l0 bp0, .slice bd1 l1 bp1, .slice bd2 l2 bp2] 44) ga hlc).trans ((hbc.block ga hla).trans HKA.out))
        have HA3 := hid (show LocaleAt (wc.alloc (.cells #[.string yid, .int .i64 ypa, .int .i64 ydi, .slice bd0 l0 bp0, .slice bd1 l1 bp1, .slice bd2 l2 bp2] 44)) _ _ _ _ from ⟨(HA2.out.1.on hbc).on HUC.out, (HA2.out.2.1.on hbc).on HUC.out, (HA2.out.2.2.on hbc).on HUC.out⟩)
        have HC3 := hid (show LocaleAt (wc.alloc (.cells #[.string yid, .int .i64 ypa, .int .i64 ydi, .slice bd0 l0 bp0, .slice bd1 l1 bp1, .slice bd2 l2 bp2] 44)) _ _ _ _ from ⟨HC.out.1.on HUC.out, HC.out.2.1.on HUC.out, HC.out.2.2.on HUC.out⟩)
        have HBJC := hid (up_trans (up_trans HBJB.out hbc) HUC.out)
        have ca0 : (wc.alloc (.cells #[.string yid, .int .i64 ypa, .int .i64 ydi, .slice bd0 l0 bp0, .slice bd1 l1 bp1, .slice bd2 l2 bp2] 44)).cell? ⟨ga, 0, none⟩ = some (.string yid) := by rw [cell_of_row _ _ _ _ _ _ HKA2.out]; rfl
        have ca1 : (wc.alloc (.cells #[.string yid, .int .i64 ypa, .int .i64 ydi, .slice bd0 l0 bp0, .slice bd1 l1 bp1, .slice bd2 l2 bp2] 44)).cell? ⟨ga, 1, none⟩ = some (.int .i64 ypa) := by rw [cell_of_row _ _ _ _ _ _ HKA2.out]; rfl
        have ca2 : (wc.alloc (.cells #[.string yid, .int .i64 ypa, .int .i64 ydi, .slice bd0 l0 bp0, .slice bd1 l1 bp1, .slice bd2 l2 bp2] 44)).cell? ⟨ga, 2, none⟩ = some (.int .i64 ydi) := by rw [cell_of_row _ _ _ _ _ _ HKA2.out]; rfl
        have ca3 : (wc.alloc (.cells #[.string yid, .int .i64 ypa, .int .i64 ydi, .slice bd0 l0 bp0, .slice bd1 l1 bp1, .slice bd2 l2 bp2] 44)).cell? ⟨ga, 3, none⟩ = some (.slice ad0 l0 ap0) := by rw [cell_of_row _ _ _ _ _ _ HKA2.out]; rfl
        have ca4 : (wc.alloc (.cells #[.string yid, .int .i64 ypa, .int .i64 ydi, .slice bd0 l0 bp0, .slice bd1 l1 bp1, .slice bd2 l2 bp2] 44)).cell? ⟨ga, 4, none⟩ = some (.slice ad1 l1 ap1) := by rw [cell_of_row _ _ _ _ _ _ HKA2.out]; rfl
        have ca5 : (wc.alloc (.cells #[.string yid, .int .i64 ypa, .int .i64 ydi, .slice bd0 l0 bp0, .slice bd1 l1 bp1, .slice bd2 l2 bp2] 44)).cell? ⟨ga, 5, none⟩ = some (.slice ad2 l2 ap2) := by rw [cell_of_row _ _ _ _ _ _ HKA2.out]; rfl
        have HSM2 := hid (HSM.out _ _ _ _ _ _ _ HA3.out HC3.out)
        clear hc hbc ci hla hlc HA HA2 HC HA3 HC3 HSM HRR
        have hbb : (b != b) = false := by simp
        go_wp2_with fail
        refine HSM2.out.mono ?_
        rintro e wd ⟨rfl, hbd⟩
        have HBD := hid (up_trans HBJC.out hbd)
        clear hbd
        go_wp2
        go_roundw
        case rel => exact ⟨j + 1, by omega, by simp, HBD.out⟩
        case measure => simp [intOf]; omega
      · obtain rfl : j = 7 := by omega
        clear HI hb
        have HR1 := hid (bres_any ls ⟨#[97, 114, 45, 49]⟩ _ wr HLR.out (HT.out.on HBR.out) HQ.out.1 HF1.out.1.1)
        go_wp2_with fail
        refine HR1.out.mono ?_
        rintro e wa ⟨v0, v1, v2, rfl, ha, hba⟩
        have HA := hid ha
        obtain ⟨adx, apx, ex, _, _, hcx⟩ := ha.1
        rw [HF1.out.2.1.1] at ex
        obtain ⟨gx, ox, eg, c0, _⟩ := hcx 0 (by rw [HF1.out.2.1.1]; decide)
        rw [HF1.out.2.2.2] at c0
        simp only [Nat.zero_mul, Nat.add_zero] at c0
        subst eg
        obtain ⟨ad1, ap1, e1, _⟩ := ha.2.1.shape
        rw [HF1.out.2.1.2.2.1] at e1
        obtain ⟨ad2, ap2, e2, _⟩ := ha.2.2.shape
        generalize X.styles.length = l2 at e2
        subst ex e1 e2
        have HBA := hid (up_trans HBR.out hba)
        have HLA := hid (HLR.out.on hba)
        have HUA := hid (up_alloc wa (.cells #[.string X.id, .int .i64 X.parent, .int .i64 X.digits, .slice (some ⟨gx, ox, none⟩) 23 apx, .slice ad1 30 ap1, .slice ad2 l2 ap2] 44))
        have HKA := hid (row_new wa (.cells #[.string X.id, .int .i64 X.parent, .int .i64 X.digits, .slice (some ⟨gx, ox, none⟩) 23 apx, .slice ad1 30 ap1, .slice ad2 l2 ap2] 44))
        have C0 := hid ((HUA.out.cell (lt_of_cell c0)).trans c0)
        clear hcx ha hba HR1 HBR HLR c0
        unfold localeV
        go_wp2_with fail
        obtain ⟨wb, hwb⟩ : ∃ wb, wb = wa.alloc (.cells #[.string X.id, .int .i64 X.parent, .int .i64 X.digits, .slice (some ⟨gx, ox, none⟩) 23 apx, .slice ad1 30 ap1, .slice ad2 l2 ap2] 44) := ⟨_, rfl⟩
        rw [← hwb] at HUA HKA C0 ⊢
        obtain ⟨ga, hga⟩ : ∃ ga, ga = wa.heap.size := ⟨_, rfl⟩
        rw [← hga] at HKA ⊢
        have HA2 := hid (HA.out.2.1.on HUA.out)
        have HBB := hid (up_trans HBA.out HUA.out)
        have hla : ga < wb.heap.size := (Array.getElem?_eq_some_iff.1 HKA.out).1
        refine (bres_any ls ⟨#[101, 110]⟩ _ wb (HLA.out.on HUA.out) (HT.out.on HBB.out) HQ.out.1 HF1.out.1.2).mono ?_
        clear hwb hga
        rintro e wc ⟨u0, u1, u2, rfl, hc, hbc⟩
        obtain ⟨bd0, bp0, e0, _⟩ := hc.1.shape
        obtain ⟨bd1, bp1, e1, _⟩ := hc.2.1.shape
        obtain ⟨bd2, bp2, e2, _⟩ := hc.2.2.shape
        rw [HF1.out.2.1.2.1] at e0
        rw [HF1.out.2.1.2.2.2] at e1
        generalize Y.styles.length = m2 at e2
        subst e0 e1 e2
        have HUC := hid (up_alloc wc (.cells #[.string Y.id, .int .i64 Y.parent, .int .i64 Y.digits, .slice bd0 22 bp0, .slice bd1 30 bp1, .slice bd2 m2 bp2] 44))
        have HKC := hid (row_new wc (.cells #[.string Y.id, .int .i64 Y.parent, .int .i64 Y.digits, .slice bd0 22 bp0, .slice bd1 30 bp1, .slice bd2 m2 bp2] 44))
        have hlc : ga < wc.heap.size := Nat.lt_of_lt_of_le hla hbc.size
        have HKA2 := hid ((Below.heap_alloc wc (.cells #[.string Y.id, .int .i64 Y.parent, .int .i64 Y.digits, .slice bd0 22 bp0, .slice bd1 30 bp1, .slice bd2 m2 bp2] 44) ga hlc).trans ((hbc.block ga hla).trans HKA.out))
        have HA3 := hid ((HA2.out.on hbc).on HUC.out)
        have HB9 := hid (up_trans (up_trans HBB.out hbc) HUC.out)
        have C1 := hid (((up_trans hbc HUC.out).cell (lt_of_cell C0.out)).trans C0.out)
        clear hc hbc hla hlc HA HA2 C0 HKA
        unfold localeV
        go_wp2_with fail
        obtain ⟨w9, hw9⟩ : ∃ w9, w9 = wc.alloc (.cells #[.string Y.id, .int .i64 Y.parent, .int .i64 Y.digits, .slice bd0 22 bp0, .slice bd1 30 bp1, .slice bd2 m2 bp2] 44) := ⟨_, rfl⟩
        rw [← hw9] at HUC HKC HKA2 HA3 HB9 C1 ⊢
        obtain ⟨gc, hgc⟩ : ∃ gc, gc = wc.heap.size := ⟨_, rfl⟩
        rw [← hgc] at HKC ⊢
        have k3 : w9.cell? ⟨ga, 3, none⟩ = some (.slice (some ⟨gx, ox, none⟩) 23 apx) := by rw [cell_of_row _ _ _ _ _ _ HKA2.out]; rfl
        have k4 : w9.cell? ⟨ga, 4, none⟩ = some (.slice ad1 30 ap1) := by rw [cell_of_row _ _ _ _ _ _ HKA2.out]; rfl
        have k5 : w9.cell? ⟨gc, 3, none⟩ = some (.slice bd0 22 bp0) := by rw [cell_of_row _ _ _ _ _ _ HKC.out]; rfl
        have k6 : w9.cell? ⟨gc, 4, none⟩ = some (.slice bd1 30 bp1) := by rw [cell_of_row _ _ _ _ _ _ HKC.out]; rfl
        have k7 := C1.out
        have HCK : Hid (∀ W : World, Below w9.heap.size w9 W → Calls Tryz.prog 28 #[.slice ad1 30 ap1] W fun e w' => e = .returned (.bool true) ∧ Below W.heap.size W w') := hid (fun W b => by
          have := rcheck_any X.rules _ W (HA3.out.on b).1
          rw [HF1.out.2.2.1] at this
          exact this)
        have HTX : Hid (∀ W : World, Calls Tryz.prog 29 #[.string ⟨#[106, 97, 110]⟩] W fun e w' => e = .returned (.string ⟨#[106, 97, 110]⟩) ∧ Below W.heap.size W w') := hid (fun W => by
          have := Fo.rtext_walk ⟨#[106, 97, 110]⟩ W (by decide)
          rw [jan_text] at this
          exact this)
        clear hw9 hgc HUC HKC HKA2 HA3 C1
        refine wp_region_held_drew (S := fun W => Hid (Below w9.heap.size w9 W) ∧ W.cell? ⟨ga, 3, none⟩ = some (.slice (some ⟨gx, ox, none⟩) 23 apx) ∧ W.cell? ⟨ga, 4, none⟩ = some (.slice ad1 30 ap1) ∧ W.cell? ⟨gc, 3, none⟩ = some (.slice bd0 22 bp0) ∧ W.cell? ⟨gc, 4, none⟩ = some (.slice bd1 30 bp1) ∧ W.cell? ⟨gx, ox, none⟩ = some (.string ⟨#[106, 97, 110]⟩)) (by kernel_rfl) ⟨hid (Below.refl _ _).drew, k3, k4, k5, k6, k7⟩ (fun hHeld => ?_)
        clear k3 k4 k5 k6 k7
        generalize w9.drew = wz at hHeld ⊢
        refine held_take (i := 0) (v := ?_) rfl (by kernel_rfl) (by kernel_rfl) (by kernel_rfl) (fun _ _ _ h => h) (by rfl) (fun W hW => ?_) hHeld ?_
        rotate_left
        · (obtain ⟨_, c1, c2, c3, c4, c5⟩ := hW; go_simp; try with_reducible rfl)
        try simp only [Act.put, List.setIfInBounds_toArray, List.set_cons_zero, List.set_cons_succ]
        refine held_take (i := 1) (v := ?_) rfl (by kernel_rfl) (by kernel_rfl) (by kernel_rfl) (fun _ _ _ h => h) (by rfl) (fun W hW => ?_) hHeld ?_
        rotate_left
        · (obtain ⟨_, c1, c2, c3, c4, c5⟩ := hW; go_simp; try with_reducible rfl)
        try simp only [Act.put, List.setIfInBounds_toArray, List.set_cons_zero, List.set_cons_succ]
        refine held_take (i := 2) (v := ?_) rfl (by kernel_rfl) (by kernel_rfl) (by kernel_rfl) (fun _ _ _ h => h) (by rfl) (fun W hW => ?_) hHeld ?_
        rotate_left
        · (obtain ⟨_, c1, c2, c3, c4, c5⟩ := hW; go_simp; try with_reducible rfl)
        try simp only [Act.put, List.setIfInBounds_toArray, List.set_cons_zero, List.set_cons_succ]
        refine held_take (i := 3) (v := ?_) rfl (by kernel_rfl) (by kernel_rfl) (by kernel_rfl) (fun _ _ _ h => h) (by rfl) (fun W hW => ?_) hHeld ?_
        rotate_left
        · (obtain ⟨_, c1, c2, c3, c4, c5⟩ := hW; go_simp; try with_reducible rfl)
        try simp only [Act.put, List.setIfInBounds_toArray, List.set_cons_zero, List.set_cons_succ]
        refine held_take (i := 4) (v := ?_) rfl (by kernel_rfl) (by kernel_rfl) (by kernel_rfl) (fun _ _ _ h => h) (by rfl) (fun W hW => ?_) hHeld ?_
        rotate_left
        · (obtain ⟨_, c1, c2, c3, c4, c5⟩ := hW; go_simp; try with_reducible rfl)
        try simp only [Act.put, List.setIfInBounds_toArray, List.set_cons_zero, List.set_cons_succ]
        refine held_take (i := 5) (v := ?_) rfl (by kernel_rfl) (by kernel_rfl) (by kernel_rfl) (fun _ _ _ h => h) (by rfl) (fun W hW => ?_) hHeld ?_
        rotate_left
        · (obtain ⟨_, c1, c2, c3, c4, c5⟩ := hW; go_simp; try with_reducible rfl)
        try simp only [Act.put, List.setIfInBounds_toArray, List.set_cons_zero, List.set_cons_succ]
        refine held_take (i := 6) (v := ?_) rfl (by kernel_rfl) (by kernel_rfl) (by kernel_rfl) (fun _ _ _ h => h) (by rfl) (fun W hW => ?_) hHeld ?_
        rotate_left
        · (obtain ⟨_, c1, c2, c3, c4, c5⟩ := hW; go_simp; try with_reducible rfl)
        try simp only [Act.put, List.setIfInBounds_toArray, List.set_cons_zero, List.set_cons_succ]
        refine held_take (i := 7) (v := ?_) rfl (by kernel_rfl) (by kernel_rfl) (by kernel_rfl) (fun _ _ _ h => h) (by rfl) (fun W hW => ?_) hHeld ?_
        rotate_left
        · (obtain ⟨_, c1, c2, c3, c4, c5⟩ := hW; go_simp; try with_reducible rfl)
        try simp only [Act.put, List.setIfInBounds_toArray, List.set_cons_zero, List.set_cons_succ]
        refine held_take (i := 8) (v := ?_) rfl (by kernel_rfl) (by kernel_rfl) (by kernel_rfl) (fun _ _ _ h => h) (by rfl) (fun W hW => ?_) hHeld ?_
        rotate_left
        · (obtain ⟨_, c1, c2, c3, c4, c5⟩ := hW; go_simp; try with_reducible rfl)
        try simp only [Act.put, List.setIfInBounds_toArray, List.set_cons_zero, List.set_cons_succ]
        refine held_take (i := 9) (v := ?_) rfl (by kernel_rfl) (by kernel_rfl) (by kernel_rfl) (fun _ _ _ h => h) (by rfl) (fun W hW => ?_) hHeld ?_
        rotate_left
        · (obtain ⟨_, c1, c2, c3, c4, c5⟩ := hW; go_simp; try with_reducible rfl)
        try simp only [Act.put, List.setIfInBounds_toArray, List.set_cons_zero, List.set_cons_succ]
        refine held_take (i := 10) (v := ?_) rfl (by kernel_rfl) (by kernel_rfl) (by kernel_rfl) (fun _ _ _ h => h) (by rfl) (fun W hW => ?_) hHeld ?_
        rotate_left
        · (obtain ⟨_, c1, c2, c3, c4, c5⟩ := hW; go_simp; try with_reducible rfl)
        try simp only [Act.put, List.setIfInBounds_toArray, List.set_cons_zero, List.set_cons_succ]
        refine held_take (i := 11) (v := ?_) rfl (by kernel_rfl) (by kernel_rfl) (by kernel_rfl) (fun _ _ _ h => h) (by rfl) (fun W hW => ?_) hHeld ?_
        rotate_left
        · (obtain ⟨_, c1, c2, c3, c4, c5⟩ := hW; go_simp; try with_reducible rfl)
        try simp only [Act.put, List.setIfInBounds_toArray, List.set_cons_zero, List.set_cons_succ]
        refine held_take (i := 12) (v := ?_) rfl (by kernel_rfl) (by kernel_rfl) (by kernel_rfl) (fun _ _ _ h => h) (by rfl) (fun W hW => ?_) hHeld ?_
        rotate_left
        · (obtain ⟨_, c1, c2, c3, c4, c5⟩ := hW; go_simp; try with_reducible rfl)
        try simp only [Act.put, List.setIfInBounds_toArray, List.set_cons_zero, List.set_cons_succ]
        refine held_take (i := 13) (v := ?_) rfl (by kernel_rfl) (by kernel_rfl) (by kernel_rfl) (fun _ _ _ h => h) (by rfl) (fun W hW => ?_) hHeld ?_
        rotate_left
        · (obtain ⟨_, c1, c2, c3, c4, c5⟩ := hW; go_simp; try with_reducible rfl)
        try simp only [Act.put, List.setIfInBounds_toArray, List.set_cons_zero, List.set_cons_succ]
        refine held_take (i := 14) (v := ?_) rfl (by kernel_rfl) (by kernel_rfl) (by kernel_rfl) (fun _ _ _ h => h) (by rfl) (fun W hW => ?_) hHeld ?_
        rotate_left
        · (obtain ⟨_, c1, c2, c3, c4, c5⟩ := hW; go_simp; try with_reducible rfl)
        try simp only [Act.put, List.setIfInBounds_toArray, List.set_cons_zero, List.set_cons_succ]
        refine held_take (i := 15) (v := ?_) rfl (by kernel_rfl) (by kernel_rfl) (by kernel_rfl) (fun _ _ _ h => h) (by rfl) (fun W hW => ?_) hHeld ?_
        rotate_left
        · (obtain ⟨_, c1, c2, c3, c4, c5⟩ := hW; go_simp; try with_reducible rfl)
        try simp only [Act.put, List.setIfInBounds_toArray, List.set_cons_zero, List.set_cons_succ]
        refine held_take (i := 16) (v := ?_) rfl (by kernel_rfl) (by kernel_rfl) (by kernel_rfl) (fun _ _ _ h => h) (by rfl) (fun W hW => ?_) hHeld ?_
        rotate_left
        · (obtain ⟨_, c1, c2, c3, c4, c5⟩ := hW; go_simp; try with_reducible rfl)
        try simp only [Act.put, List.setIfInBounds_toArray, List.set_cons_zero, List.set_cons_succ]
        refine held_take (i := 17) (v := ?_) rfl (by kernel_rfl) (by kernel_rfl) (by kernel_rfl) (fun _ _ _ h => h) (by rfl) (fun W hW => ?_) hHeld ?_
        rotate_left
        · (obtain ⟨_, c1, c2, c3, c4, c5⟩ := hW; go_simp; try with_reducible rfl)
        try simp only [Act.put, List.setIfInBounds_toArray, List.set_cons_zero, List.set_cons_succ]
        refine held_take (i := 18) (v := ?_) rfl (by kernel_rfl) (by kernel_rfl) (by kernel_rfl) (fun _ _ _ h => h) (by rfl) (fun W hW => ?_) hHeld ?_
        rotate_left
        · (obtain ⟨_, c1, c2, c3, c4, c5⟩ := hW; go_simp; try with_reducible rfl)
        try simp only [Act.put, List.setIfInBounds_toArray, List.set_cons_zero, List.set_cons_succ]
        refine held_take (i := 19) (v := ?_) rfl (by kernel_rfl) (by kernel_rfl) (by kernel_rfl) (fun _ _ _ h => h) (by rfl) (fun W hW => ?_) hHeld ?_
        rotate_left
        · (obtain ⟨_, c1, c2, c3, c4, c5⟩ := hW; go_simp; try with_reducible rfl)
        try simp only [Act.put, List.setIfInBounds_toArray, List.set_cons_zero, List.set_cons_succ]
        refine held_take (i := 20) (v := ?_) rfl (by kernel_rfl) (by kernel_rfl) (by kernel_rfl) (fun _ _ _ h => h) (by rfl) (fun W hW => ?_) hHeld ?_
        rotate_left
        · (obtain ⟨_, c1, c2, c3, c4, c5⟩ := hW; go_simp; try with_reducible rfl)
        try simp only [Act.put, List.setIfInBounds_toArray, List.set_cons_zero, List.set_cons_succ]
        refine held_take (i := 23) (v := ?_) rfl (by kernel_rfl) (by kernel_rfl) (by kernel_rfl) (fun _ _ _ h => h) (by rfl) (fun W hW => ?_) hHeld ?_
        rotate_left
        · (obtain ⟨_, c1, c2, c3, c4, c5⟩ := hW; go_simp; try with_reducible rfl)
        try simp only [Act.put, List.setIfInBounds_toArray, List.set_cons_zero, List.set_cons_succ]
        refine wpAnyH_ready (rs := [21]) (by kernel_rfl) (by simp) ?_
        refine held_cons rfl (fun K hK => ?_) AllReadyH.nil
        rw [if_pos (by rfl)]
        go_simp
        go_at_call 26
        refine (others_any _).mono ?_
        rintro e wo ⟨vo, rfl, so, bo⟩
        obtain ⟨ado, capo, eo, _⟩ := so.now.shape
        rw [othersM_length] at eo
        subst eo
        clear so
        have hHeld := held5 bo hHeld
        refine hK.out _ _ hHeld (fun _ => ?_)
        clear hK K bo
        try simp only [Act.put, List.setIfInBounds_toArray, List.set_cons_zero, List.set_cons_succ]
        refine held_take (i := 22) (v := ?_) rfl (by kernel_rfl) (by kernel_rfl) (by kernel_rfl) (fun _ _ _ h => h) (by rfl) (fun W hW => ?_) hHeld ?_
        rotate_left
        · (obtain ⟨_, c1, c2, c3, c4, c5⟩ := hW; go_simp; try with_reducible rfl)
        try simp only [Act.put, List.setIfInBounds_toArray, List.set_cons_zero, List.set_cons_succ]
        refine wpAnyH_ready (rs := [24]) (by kernel_rfl) (by simp) ?_
        refine held_cons rfl (fun K hK => ?_) AllReadyH.nil
        rw [if_pos (by rfl)]
        go_simp
        go_at_call 27
        refine (dates_any n _).mono ?_
        rintro e wt ⟨vt, rfl, st, bo⟩
        obtain ⟨adt, capt, et, _⟩ := st.now.shape
        rw [show ∀ k, (datesL k).length = 8 from fun _ => rfl] at et
        subst et
        clear st
        have hHeld := held5 bo hHeld
        refine hK.out _ _ hHeld (fun _ => ?_)
        clear hK K bo
        try simp only [Act.put, List.setIfInBounds_toArray, List.set_cons_zero, List.set_cons_succ]
        refine held_take (i := 25) (v := ?_) rfl (by kernel_rfl) (by kernel_rfl) (by kernel_rfl) (fun _ _ _ h => h) (by rfl) (fun W hW => ?_) hHeld ?_
        rotate_left
        · (obtain ⟨_, c1, c2, c3, c4, c5⟩ := hW; go_simp; try with_reducible rfl)
        try simp only [Act.put, List.setIfInBounds_toArray, List.set_cons_zero, List.set_cons_succ]
        refine held_take (i := 26) (v := ?_) rfl (by kernel_rfl) (by kernel_rfl) (by kernel_rfl) (fun _ _ _ h => h) (by rfl) (fun W hW => ?_) hHeld ?_
        rotate_left
        · (obtain ⟨_, c1, c2, c3, c4, c5⟩ := hW; go_simp; try with_reducible rfl)
        try simp only [Act.put, List.setIfInBounds_toArray, List.set_cons_zero, List.set_cons_succ]
        refine held_take (i := 27) (v := ?_) rfl (by kernel_rfl) (by kernel_rfl) (by kernel_rfl) (fun _ _ _ h => h) (by rfl) (fun W hW => ?_) hHeld ?_
        rotate_left
        · (obtain ⟨_, c1, c2, c3, c4, c5⟩ := hW; go_simp; try with_reducible rfl)
        try simp only [Act.put, List.setIfInBounds_toArray, List.set_cons_zero, List.set_cons_succ]
        refine held_take (i := 28) (v := ?_) rfl (by kernel_rfl) (by kernel_rfl) (by kernel_rfl) (fun _ _ _ h => h) (by rfl) (fun W hW => ?_) hHeld ?_
        rotate_left
        · (obtain ⟨_, c1, c2, c3, c4, c5⟩ := hW; go_simp; try with_reducible rfl)
        try simp only [Act.put, List.setIfInBounds_toArray, List.set_cons_zero, List.set_cons_succ]
        refine held_take (i := 29) (v := ?_) rfl (by kernel_rfl) (by kernel_rfl) (by kernel_rfl) (fun _ _ _ h => h) (by rfl) (fun W hW => ?_) hHeld ?_
        rotate_left
        · (obtain ⟨_, c1, c2, c3, c4, c5⟩ := hW; go_simp; try with_reducible rfl)
        try simp only [Act.put, List.setIfInBounds_toArray, List.set_cons_zero, List.set_cons_succ]
        refine held_take (i := 30) (v := ?_) rfl (by kernel_rfl) (by kernel_rfl) (by kernel_rfl) (fun _ _ _ h => h) (by rfl) (fun W hW => ?_) hHeld ?_
        rotate_left
        · (obtain ⟨_, c1, c2, c3, c4, c5⟩ := hW; go_simp; try with_reducible rfl)
        try simp only [Act.put, List.setIfInBounds_toArray, List.set_cons_zero, List.set_cons_succ]
        refine held_take (i := 31) (v := ?_) rfl (by kernel_rfl) (by kernel_rfl) (by kernel_rfl) (fun _ _ _ h => h) (by rfl) (fun W hW => ?_) hHeld ?_
        rotate_left
        · (obtain ⟨_, c1, c2, c3, c4, c5⟩ := hW; go_simp; try with_reducible rfl)
        try simp only [Act.put, List.setIfInBounds_toArray, List.set_cons_zero, List.set_cons_succ]
        refine wpAnyH_ready (rs := [32]) (by kernel_rfl) (by simp) ?_
        refine held_cons rfl (fun K hK => ?_) AllReadyH.nil
        rw [if_pos (by rfl)]
        go_simp
        go_at_call 28
        refine (HCK.out _ hHeld.1.out).mono ?_
        rintro e wk ⟨rfl, bo⟩
        have hHeld := held5 bo hHeld
        refine hK.out _ _ hHeld (fun _ => ?_)
        clear hK K bo
        try simp only [Act.put, List.setIfInBounds_toArray, List.set_cons_zero, List.set_cons_succ]
        refine held_take (i := 33) (v := ?_) rfl (by kernel_rfl) (by kernel_rfl) (by kernel_rfl) (fun _ _ _ h => h) (by rfl) (fun W hW => ?_) hHeld ?_
        rotate_left
        · (obtain ⟨_, c1, c2, c3, c4, c5⟩ := hW; go_simp; try with_reducible rfl)
        try simp only [Act.put, List.setIfInBounds_toArray, List.set_cons_zero, List.set_cons_succ]
        refine held_take (i := 34) (v := ?_) rfl (by kernel_rfl) (by kernel_rfl) (by kernel_rfl) (fun _ _ _ h => h) (by rfl) (fun W hW => ?_) hHeld ?_
        rotate_left
        · (obtain ⟨_, c1, c2, c3, c4, c5⟩ := hW; go_simp; try with_reducible rfl)
        try simp only [Act.put, List.setIfInBounds_toArray, List.set_cons_zero, List.set_cons_succ]
        refine held_take (i := 35) (v := ?_) rfl (by kernel_rfl) (by kernel_rfl) (by kernel_rfl) (fun _ _ _ h => h) (by rfl) (fun W hW => ?_) hHeld ?_
        rotate_left
        · (obtain ⟨_, c1, c2, c3, c4, c5⟩ := hW; go_simp; try with_reducible rfl)
        try simp only [Act.put, List.setIfInBounds_toArray, List.set_cons_zero, List.set_cons_succ]
        refine held_take (i := 36) (v := ?_) rfl (by kernel_rfl) (by kernel_rfl) (by kernel_rfl) (fun _ _ _ h => h) (by rfl) (fun W hW => ?_) hHeld ?_
        rotate_left
        · (obtain ⟨_, c1, c2, c3, c4, c5⟩ := hW; go_simp; try with_reducible rfl)
        try simp only [Act.put, List.setIfInBounds_toArray, List.set_cons_zero, List.set_cons_succ]
        refine held_take (i := 37) (v := ?_) rfl (by kernel_rfl) (by kernel_rfl) (by kernel_rfl) (fun _ _ _ h => h) (by rfl) (fun W hW => ?_) hHeld ?_
        rotate_left
        · (obtain ⟨_, c1, c2, c3, c4, c5⟩ := hW; go_simp; try with_reducible rfl)
        try simp only [Act.put, List.setIfInBounds_toArray, List.set_cons_zero, List.set_cons_succ]
        refine held_take (i := 38) (v := ?_) rfl (by kernel_rfl) (by kernel_rfl) (by kernel_rfl) (fun _ _ _ h => h) (by rfl) (fun W hW => ?_) hHeld ?_
        rotate_left
        · (obtain ⟨_, c1, c2, c3, c4, c5⟩ := hW; go_simp; try with_reducible rfl)
        try simp only [Act.put, List.setIfInBounds_toArray, List.set_cons_zero, List.set_cons_succ]
        refine held_take (i := 39) (v := ?_) rfl (by kernel_rfl) (by kernel_rfl) (by kernel_rfl) (fun _ _ _ h => h) (by rfl) (fun W hW => ?_) hHeld ?_
        rotate_left
        · (obtain ⟨_, c1, c2, c3, c4, c5⟩ := hW; go_simp; try with_reducible rfl)
        try simp only [Act.put, List.setIfInBounds_toArray, List.set_cons_zero, List.set_cons_succ]
        refine held_take (i := 41) (v := ?_) rfl (by kernel_rfl) (by kernel_rfl) (by kernel_rfl) (fun _ _ _ h => h) (by rfl) (fun W hW => ?_) hHeld ?_
        rotate_left
        · (obtain ⟨_, c1, c2, c3, c4, c5⟩ := hW; go_simp; try with_reducible rfl)
        try simp only [Act.put, List.setIfInBounds_toArray, List.set_cons_zero, List.set_cons_succ]
        refine held_take (i := 42) (v := ?_) rfl (by kernel_rfl) (by kernel_rfl) (by kernel_rfl) (fun _ _ _ h => h) (by rfl) (fun W hW => ?_) hHeld ?_
        rotate_left
        · (obtain ⟨_, c1, c2, c3, c4, c5⟩ := hW; go_simp; try with_reducible rfl)
        try simp only [Act.put, List.setIfInBounds_toArray, List.set_cons_zero, List.set_cons_succ]
        refine held_take (i := 43) (v := ?_) rfl (by kernel_rfl) (by kernel_rfl) (by kernel_rfl) (fun _ _ _ h => h) (by rfl) (fun W hW => ?_) hHeld ?_
        rotate_left
        · (obtain ⟨_, c1, c2, c3, c4, c5⟩ := hW; go_simp; try with_reducible rfl)
        try simp only [Act.put, List.setIfInBounds_toArray, List.set_cons_zero, List.set_cons_succ]
        refine held_take (i := 44) (v := ?_) rfl (by kernel_rfl) (by kernel_rfl) (by kernel_rfl) (fun _ _ _ h => h) (by rfl) (fun W hW => ?_) hHeld ?_
        rotate_left
        · (obtain ⟨_, c1, c2, c3, c4, c5⟩ := hW; go_simp; try with_reducible rfl)
        try simp only [Act.put, List.setIfInBounds_toArray, List.set_cons_zero, List.set_cons_succ]
        refine held_take (i := 45) (v := ?_) rfl (by kernel_rfl) (by kernel_rfl) (by kernel_rfl) (fun _ _ _ h => h) (by rfl) (fun W hW => ?_) hHeld ?_
        rotate_left
        · (obtain ⟨_, c1, c2, c3, c4, c5⟩ := hW; go_simp; try with_reducible rfl)
        try simp only [Act.put, List.setIfInBounds_toArray, List.set_cons_zero, List.set_cons_succ]
        refine wpAnyH_ready (rs := [40]) (by kernel_rfl) (by simp) ?_
        refine held_cons rfl (fun K hK => ?_) AllReadyH.nil
        rw [if_pos (by rfl)]
        go_simp
        go_at_call 29
        refine (HTX.out _).mono ?_
        rintro e wx ⟨rfl, bo⟩
        have hHeld := held5 bo hHeld
        refine hK.out _ _ hHeld (fun _ => ?_)
        clear hK K bo
        try simp only [Act.put, List.setIfInBounds_toArray, List.set_cons_zero, List.set_cons_succ]
        refine held_take (i := 46) (v := ?_) rfl (by kernel_rfl) (by kernel_rfl) (by kernel_rfl) (fun _ _ _ h => h) (by rfl) (fun W hW => ?_) hHeld ?_
        rotate_left
        · (obtain ⟨_, c1, c2, c3, c4, c5⟩ := hW; go_simp; try with_reducible rfl)
        try simp only [Act.put, List.setIfInBounds_toArray, List.set_cons_zero, List.set_cons_succ]
        refine held_take (i := 47) (v := ?_) rfl (by kernel_rfl) (by kernel_rfl) (by kernel_rfl) (fun _ _ _ h => h) (by rfl) (fun W hW => ?_) hHeld ?_
        rotate_left
        · (obtain ⟨_, c1, c2, c3, c4, c5⟩ := hW; go_simp; try with_reducible rfl)
        try simp only [Act.put, List.setIfInBounds_toArray, List.set_cons_zero, List.set_cons_succ]
        refine held_take (i := 48) (v := ?_) rfl (by kernel_rfl) (by kernel_rfl) (by kernel_rfl) (fun _ _ _ h => h) (by rfl) (fun W hW => ?_) hHeld ?_
        rotate_left
        · (obtain ⟨_, c1, c2, c3, c4, c5⟩ := hW; go_simp; try with_reducible rfl)
        try simp only [Act.put, List.setIfInBounds_toArray, List.set_cons_zero, List.set_cons_succ]
        refine wpAnyH_done (by kernel_rfl) ?_ _
        go_wp2
        go_ret
        exact ⟨rfl, up_trans HB9.out hHeld.1.out⟩

theorem walk (v : Value) (x : Shp) (name : ByteArray) (n : Int) (w : World) (h : ShapeAt w v x) (_ : name.size ≤ maxLen) (_ : (Lit.int .i64 n).wf = true) (hT : Tabs w) :
    Calls Tryz.prog 6 #[v, .string name, .int .i64 n] w fun e w' => e = .returned (.bool true) ∧ Below w.heap.size w w' := by
  obtain ⟨rv, rfl, hr⟩ := h
  have hr' := hr
  obtain ⟨adr, capr, rfl, _⟩ := hr'
  exact walk_of (mkL x) (mkL_right x) (there_back (mkL_right x)) (right_len (mkL_right x)) (right_small (mkL_right x)) _ _ _ _ _ _ _ _ _ name n _ _ w hT ⟨⟨mk_ar x, mk_en x⟩, ⟨by rw [mk_lex2]; rfl, by rw [mk_lex1]; rfl, by rw [mk_rules2, List.length_append, othersM_length]; rfl, by rw [mk_rules1, List.length_append, othersM_length]; rfl⟩, mk_check x, by rw [mk_lex2]; rfl⟩ (fun W hb => few5_any _ _ _ _ _ _ _ W (hr.on hb)) (fun W hb => make_at x _ W (hr.on hb))

theorem own : ownKnob Tryz.prog.godebug = none := by kernel_rfl

theorem table {W : World} (h : laidMetH Tryz.prog Rows.blobResolvesRow.laid W) : Tabs W := by
  rw [MakeChecks.laidMetH_plain _ _ _ (by kernel_rfl)] at h
  exact tabs_of_laid h

set_option maxRecDepth 100000 in
theorem lifted (os : Os) (started : os.Started) (H : Type) (enc : TypeId × Value → H) :
    ReturnsInHanded {} Tryz.checked os 6 .any (fun w args => (Rows.blobResolvesSpec.pre enc Tryz.prog Tryz.f6 Rows.blobResolvesRow.domain false w args ∧ laidMetH Tryz.prog Rows.blobResolvesRow.laid w) ∧ sizedMet enc Tryz.prog Tryz.f6 (OpenSpec.ofChange Rows.blobResolvesSpec) false w args)
      (Rows.blobResolvesSpec.post enc Tryz.prog Tryz.f6 false true false false) := by
  refine returnsInHanded_of_change_and (C := Tryz.checked) (X := fun w _ => laidMetH Tryz.prog Rows.blobResolvesRow.laid w) (fun _ _ _ hh h => h.of_heap hh) own started (by kernel_rfl) Tryz.func6
    (ChangeSpec.witness_shaped (enc := enc) (C := Tryz.checked) (os := os) (X := fun w _ => laidMetH Tryz.prog Rows.blobResolvesRow.laid w) false (World.laidAll Tryz.prog os Rows.blobResolvesRow.laid) #[.agg #[.int .i64 0, .int .i64 0, .int .i64 0, .int .i64 0, .slice none 0 0, .bool false], .string ⟨#[]⟩, .int .i64 0] 8 (World.laidAll_os _ _ _)
      (World.shaped_of_ZipB (by kernel_rfl) (by kernel_rfl)) (by kernel_rfl) (by kernel_rfl) (by kernel_rfl)
      (by rw [MakeChecks.laidMetH_plain _ _ _ (by kernel_rfl)]; exact laidMet_laidAll _ (by kernel_rfl) (by kernel_rfl))) ?_
  intro W base args ds gs before hval0 hW _ _ hL _
  have hval : ∀ (j : Nat) t v, Tryz.f6.params[j]? = some t → args[j]? = some v → Value.okWide Tryz.prog W .any base t v := hval0
  have hW' := hW
  obtain ⟨p, q, hA0, hV, rfl, hfz, hnd⟩ := hW
  have hA : DataW.TrodAll enc Tryz.prog W 0 (fun _ => true) true Tryz.f6.params.toList args.toList ds p := hA0
  rw [Tryz.params6] at hA hval
  obtain ⟨v0, vs0, d0, ds0, p0, q0, hargs, rfl, rfl, h0, r0⟩ := trodAll_cons hA
  obtain ⟨v1, vs1, d1, ds1, p1, q1, rfl, rfl, rfl, h1, r1⟩ := trodAll_cons r0
  obtain ⟨v2, vs2, d2, ds2, p2, q2, rfl, rfl, rfl, h2, r2⟩ := trodAll_cons r1
  obtain ⟨rfl, rfl, rfl⟩ := trodAll_nil r2
  obtain rfl : args = #[v0, v1, v2] := by cases args; simp_all
  obtain ⟨rfl, rfl⟩ := trodVars_none hV
  obtain ⟨x0, w0⟩ := shape_at (hval 0 24 v0 rfl rfl) h0
  have l0 : ∀ x ∈ p0, x.block < W.heap.size := fun x hx => hW'.lt x (by simp [hx])
  obtain ⟨a1, rfl, rfl, rfl, w1⟩ := ChangeMaps.open_string Tryz.underlying9 (hval 1 9 v1 rfl rfl) h1
  obtain ⟨a2, rfl, rfl, rfl, w2⟩ := open_int Tryz.underlying3 (hval 2 3 v2 rfl rfl) h2
  clear hA0 hval0
  refine (walk v0 x0 a1 a2 W w0 w1 w2 (table hL)).mono fun e W' ⟨he, bel⟩ => ?_
  subst he
  exact ⟨_, rfl, _, _, _, _, _, [], hW', trodAll_mk1 (shut_bool Tryz.underlying4 _), (trodAll_cons_mk (Below.trod (by kernel_rfl) (by kernel_rfl) (of_decide_eq_true (by kernel_rfl)) h0 bel l0) (trodAll_cons_mk (ChangeMaps.shut_string Tryz.underlying9 w1) (trodAll_cons_mk (shut_int Tryz.underlying3 w2) trodAll_mk0))), rfl, bel.frame _, fun h => by cases h⟩

theorem row_holds : Rows.BlobResolvesSaid :=
  OpenClaim.holds_of_wide 6 Tryz.f6 rfl rfl rfl rfl rfl rfl rfl ⟨rfl, rfl, rfl, rfl, rfl⟩ rfl rfl rfl rfl rfl (by kernel_rfl) Tryz.func6 (by kernel_rfl)
    (of_decide_eq_true (by kernel_rfl)) (by unfold Func.isWrapper; first | (rw [if_pos (by decide +kernel)]; kernel_rfl) | (rw [if_neg (by decide +kernel)]; exact ⟨rfl, rfl⟩))
    (fun os started H enc _ => lifted os started H enc)

theorem blobResolves_holds : Rows.BlobResolvesCardSaid :=
  Claim7.holds_tied_plain_at .later [] _ _ _ _ row_holds (fun _ h => by cases h) (by kernel_rfl) (fun _ h => by cases h) blobResolves_row_tie rfl ⟨rfl, rfl⟩ (by kernel_rfl) rfl
    (fun f fn hf hfn => by
      obtain rfl : f = 6 := Option.some.inj ((show Tryz.prog.funcNamed "interlocutor/interlocutorlaw5.BlobResolves" = some 6 by kernel_rfl).symm.trans hf) |>.symm
      obtain rfl : fn = Tryz.f6 := (Option.some.inj (Tryz.func6.symm.trans hfn)).symm
      exact ⟨by kernel_rfl, fun j t ht => by
        rw [Tryz.params6] at ht
        have hm : t ∈ [24, 9, 3] := by simpa using Array.mem_of_getElem? ht
        have hall : ([24, 9, 3].all fun u => !Tryz.prog.wantsStandIn u) = true := by kernel_rfl
        exact (show Tryz.prog.wantsStandIn t = false by simpa using List.all_eq_true.1 hall t hm)⟩)
    (by kernel_rfl)

end Go.Proofs.YtohgaknojkdohaaGreatDoor
