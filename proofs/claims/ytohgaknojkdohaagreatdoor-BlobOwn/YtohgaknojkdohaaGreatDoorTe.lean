/- Kn, BExt: these texts, one behind the other. -/
import Derived.Test.YtohgaknojkdohaaGreatDoorTd
import Derived.Test.YtohgaknojkdohaaGreatDoorTc
import Derived.Test.YtohgaknojkdohaaGreatDoorGrTable
import Derived.Test.YtohgaknojkdohaaGreatDoorRows
import Derived.Test.YtohgaknojkdohaaGreatDoorCards
import Derived.Test.YtohgaknojkdohaaGreatDoorTie
import Derived.Test.YtohgaknojkdohaaGreatDoorChecked
import Derived.Lib.LaidTab
/- What stands ahead of every statement: known. -/
namespace Go.Proofs.YtohgaknojkdohaaGreatDoor
open Go.RowKit Gr

theorem own_lit (w : World) (e : TypeId) (size n g : Nat) (arr : Array Value) (cs : List Value) (hc : arr = cs.toArray) (hg : g = w.heap.size) (hs : cs.length = n * size) (hn : n ≤ 1000) : (w.alloc (.cells arr e)).ownsRow g e size (.slice (some ⟨g, 0, none⟩) n n) n cs := by
  subst hc
  refine ⟨hs, .inr ⟨g, n, cs.toArray, rfl, Nat.le_refl _, row_new' w _ g hg, Nat.le_refl _, by unfold maxLen; omega, by simpa using hs, ?_⟩⟩
  rw [← hs]
  simp
theorem bin_of_rb {w : World} {B : Nat} {v : Value} {bs : List Int} (h : RB w B v bs) (hB : Byt bs) (h0 : 0 < bs.length) (hl : bs.length ≤ 1000000) : BIn w v bs := by
  obtain ⟨g, cap, rfl, hBg, hc, hcs⟩ := own_at h h0
  have hcm : cap ≤ maxLen := by
    obtain ⟨_, ⟨e, _⟩ | ⟨g', cap', cur, e, _, _, _, h5, _⟩⟩ := h
    · cases e
    · injection e with _ _ e; subst e; exact h5
  have hg := (World.ownsRow.lt h g rfl).2
  refine ⟨_, _, rfl, ⟨hB, hl, hc, hcm⟩, .inr ⟨g, 0, rfl, hg, fun j hj => ?_⟩⟩
  rw [Nat.zero_add]
  exact hcs j _ (by rw [List.getElem?_map, getD_at hj]; rfl)
def en0 : Locale := ⟨⟨#[101, 110]⟩, -1, 0, [⟨⟨#[109, 97, 121]⟩, 1, 5⟩], [], []⟩
theorem k1 : decL [] = none := by decide +kernel
theorem k2 : rightL [en0] = true := by decide +kernel
theorem k3 : decL (encLocales [en0]) = some [en0] := by kernel_rfl
theorem k4 : (encLocales [en0]).length ≤ 800000 ∧ 0 < (encLocales [en0]).length := by decide +kernel
theorem k5 : (resOf [en0] 0).lex.length = 1 := by decide +kernel

theorem en0_small : Small [en0] := fun x hx => by
  obtain rfl := List.mem_singleton.1 hx
  decide +kernel
theorem en0_rows : ∀ x ∈ [en0], (∀ s ∈ x.styles, s.parts.length ≤ 100000) ∧ (∀ r ∈ x.rules, r.rhs.length ≤ 100000 ∧ r.p.length ≤ 100000) := fun x hx => by
  obtain rfl := List.mem_singleton.1 hx
  exact ⟨fun s hs => (nomatch hs), fun r hr => (nomatch hr)⟩
theorem en0_at (w : World) (g : Nat) (hg : g = w.heap.size) : LocalesAt ((w.alloc (.cells #[.string ⟨#[109, 97, 121]⟩, .int .i64 1, .int .i64 5] 46)).alloc (.cells #[.string ⟨#[101, 110]⟩, .int .i64 (-1), .int .i64 0, .slice (some ⟨g, 0, none⟩) 1 1, .slice none 0 0, .slice none 0 0] 44)) (.slice (some ⟨g + 1, 0, none⟩) 1 1) [en0] := by
  have o1 := own_lit w 46 3 1 g #[.string ⟨#[109, 97, 121]⟩, .int .i64 1, .int .i64 5] [.string ⟨#[109, 97, 121]⟩, .int .i64 1, .int .i64 5] rfl hg rfl (by decide)
  have o2 := own_lit (w.alloc (.cells #[.string ⟨#[109, 97, 121]⟩, .int .i64 1, .int .i64 5] 46)) 44 6 1 (g + 1) #[.string ⟨#[101, 110]⟩, .int .i64 (-1), .int .i64 0, .slice (some ⟨g, 0, none⟩) 1 1, .slice none 0 0, .slice none 0 0] [.string ⟨#[101, 110]⟩, .int .i64 (-1), .int .i64 0, .slice (some ⟨g, 0, none⟩) 1 1, .slice none 0 0, .slice none 0 0] rfl (by rw [hg]; simp) rfl (by decide)
  have e1 : EntriesAt _ _ [⟨⟨#[109, 97, 121]⟩, 1, 5⟩] := (Entries_own o1 (EntryC.one _ ⟨⟨#[109, 97, 121]⟩, 1, 5⟩) (by decide)).on (up_alloc _ (.cells #[.string ⟨#[101, 110]⟩, .int .i64 (-1), .int .i64 0, .slice (some ⟨g, 0, none⟩) 1 1, .slice none 0 0, .slice none 0 0] 44))
  exact Locales_own o2 (LocaleC.one _ en0 _ _ _ e1 (RulesOk.nil _) (StylesAt.nil _) rfl rfl rfl) (by decide)

set_option maxRecDepth 8000 in
set_option maxHeartbeats 2000000 in
theorem known_of (ls : List Locale) (hln : ls.length = 1) (q1 : decL [] = none) (q2 : rightL ls = true) (q3 : decL (encLocales ls) = some ls) (q4 : (encLocales ls).length ≤ 800000 ∧ 0 < (encLocales ls).length) (q5 : (resOf ls 0).lex.length = 1) (q6 : ∃ x ∈ ls, x.id = ⟨#[101, 110]⟩) (q7 : ∀ i, i < ls.length → (ls.getD i nilLocale).id ≠ ⟨#[100, 101]⟩) (hS : Small ls) (hX : ∀ x ∈ ls, (∀ s ∈ x.styles, s.parts.length ≤ 100000) ∧ (∀ r ∈ x.rules, r.rhs.length ≤ 100000 ∧ r.p.length ≤ 100000))
    (hAt : ∀ (w : World) (g : Nat), g = w.heap.size → LocalesAt ((w.alloc (.cells #[.string ⟨#[109, 97, 121]⟩, .int .i64 1, .int .i64 5] 46)).alloc (.cells #[.string ⟨#[101, 110]⟩, .int .i64 (-1), .int .i64 0, .slice (some ⟨g, 0, none⟩) 1 1, .slice none 0 0, .slice none 0 0] 44)) (.slice (some ⟨g + 1, 0, none⟩) 1 1) ls)
    (w : World) (hT : Tabs w) : Calls Tryz.prog 11 #[] w fun e w' => e = .returned (.bool true) ∧ Below w.heap.size w w' := by
  have HX := hid hX
  have HS := hid hS
  have HQ := hid (And.intro hln (And.intro q1 (And.intro q2 (And.intro q3 (And.intro q4 (And.intro q5 (And.intro q6 q7)))))))
  have HAT := hid hAt
  clear hln q1 q2 q3 q4 q5 q6 q7 hS hX hAt
  have HD0 := hid (decode_any [] _ w (BIn.nil w) hT)
  have HT := hid hT
  clear hT
  go_enter Tryz.func11, Tryz.ntmps11
  go_wp2_with fail
  refine HD0.out.mono ?_
  rintro e w1 ⟨hb1, h1⟩
  rw [HQ.out.2.1] at h1
  subst h1
  have HB1 := hid hb1
  have HA := hid (HAT.out w1 _ rfl)
  have HU : Hid (Below w1.heap.size w1 ((w1.alloc (.cells #[.string ⟨#[109, 97, 121]⟩, .int .i64 1, .int .i64 5] 46)).alloc (.cells #[.string ⟨#[101, 110]⟩, .int .i64 (-1), .int .i64 0, .slice (some ⟨w1.heap.size, 0, none⟩) 1 1, .slice none 0 0, .slice none 0 0] 44))) := hid (((Below.refl _ _).alloc (Nat.le_refl _) _).alloc (by simp) _)
  clear hb1 HD0
  go_wp2_with fail
  obtain ⟨w2, hw2⟩ : ∃ w2, w2 = (w1.alloc (.cells #[.string ⟨#[109, 97, 121]⟩, .int .i64 1, .int .i64 5] 46)).alloc (.cells #[.string ⟨#[101, 110]⟩, .int .i64 (-1), .int .i64 0, .slice (some ⟨w1.heap.size, 0, none⟩) 1 1, .slice none 0 0, .slice none 0 0] 44) := ⟨_, rfl⟩
  rw [← hw2] at HA HU ⊢
  obtain ⟨g, hg⟩ : ∃ g, g = w1.heap.size + 1 := ⟨_, rfl⟩
  rw [← hg] at HA ⊢
  have HB2 := hid (up_trans HB1.out HU.out)
  clear hw2 HB1 HU hg
  refine (encode_any ls _ w2 HA.out HS.out (HT.out.on HB2.out) HQ.out.2.2.1 HQ.out.2.2.2.2.1.1).mono ?_
  rintro e w3 ⟨bv, rfl, hR, hb3⟩
  have HB3 := hid (up_trans HB2.out hb3)
  have HA3 := hid (HA.out.on hb3)
  have HD := hid (decode_any _ _ w3 (bin_of_rb hR (byt_locales _) HQ.out.2.2.2.2.1.2 (by have := HQ.out.2.2.2.2.1.1; omega)) (HT.out.on HB3.out))
  obtain ⟨adb, capb, eb⟩ := hR.shape
  obtain ⟨nb, hnb⟩ : ∃ nb, nb = (encLocales ls).length := ⟨_, rfl⟩
  rw [← hnb] at eb
  subst eb
  clear hR hb3 HA HB2 hnb
  go_wp2_with fail
  refine HD.out.mono ?_
  rintro e w4 ⟨hb4, h4⟩
  rw [HQ.out.2.2.2.1] at h4
  obtain ⟨lv, rfl, hA4⟩ := h4
  have HB4 := hid (up_trans HB3.out hb4)
  have HA4 := hid (HA3.out.on hb4)
  have HM4 := hid hA4
  obtain ⟨adm, capm, em, _⟩ := hA4.shape
  rw [HQ.out.1] at em
  subst em
  clear hb4 hA4 HD HB3 HA3
  go_wp2_with fail
  refine (Resolve_any ls ⟨#[101, 110]⟩ _ w4 HA4.out HS.out (HT.out.on HB4.out) HX.out).mono ?_
  rintro e w5 ⟨hb5, h5⟩
  have HB5 := hid (up_trans HB4.out hb5)
  have HA5 := hid (HA4.out.on hb5)
  have HM5 := hid (HM4.out.on hb5)
  rcases h5 with ⟨_, i, hi, _, _, v0, v1, v2, rfl, hL⟩ | ⟨h5 | h5, _⟩
  · obtain rfl : i = 0 := by have := HQ.out.1; omega
    have hq5 := HQ.out.2.2.2.2.2.1
    have hL' := hL.now
    generalize resOf ls 0 = y at *
    obtain ⟨yid, ypa, ydi, ylx, yrl, yst⟩ := y
    obtain ⟨ad0, cap0, e0, _⟩ := hL'.1.shape
    obtain ⟨ad1, cap1, e1, _⟩ := hL'.2.1.shape
    obtain ⟨ad2, cap2, e2, _⟩ := hL'.2.2.shape
    unfold localeV
    dsimp only at hq5 e0 e1 e2 ⊢
    rw [hq5] at e0
    generalize yrl.length = l1 at e1
    generalize yst.length = l2 at e2
    subst e0 e1 e2
    have HU5 := hid (up_alloc w5 (.cells #[.string yid, .int .i64 ypa, .int .i64 ydi, .slice ad0 1 cap0, .slice ad1 l1 cap1, .slice ad2 l2 cap2] 44))
    have HK5 := hid (row_new w5 (.cells #[.string yid, .int .i64 ypa, .int .i64 ydi, .slice ad0 1 cap0, .slice ad1 l1 cap1, .slice ad2 l2 cap2] 44))
    clear hL hL' hb5 hi hq5
    go_wp2_with fail
    obtain ⟨w6, hw6⟩ : ∃ w6, w6 = w5.alloc (.cells #[.string yid, .int .i64 ypa, .int .i64 ydi, .slice ad0 1 cap0, .slice ad1 l1 cap1, .slice ad2 l2 cap2] 44) := ⟨_, rfl⟩
    rw [← hw6] at HU5 HK5 ⊢
    obtain ⟨g5, hg5⟩ : ∃ g5, g5 = w5.heap.size := ⟨_, rfl⟩
    rw [← hg5] at HK5 ⊢
    have HB6 := hid (up_trans HB5.out HU5.out)
    have HA6 := hid (HA5.out.on HU5.out)
    have HM6 := hid (HM5.out.on HU5.out)
    have hl6 : g5 < w6.heap.size := (Array.getElem?_eq_some_iff.1 HK5.out).1
    clear hw6 hg5 HU5 HB5 HA5 HM5
    refine (Resolve_any ls ⟨#[100, 101]⟩ _ w6 HA6.out HS.out (HT.out.on HB6.out) HX.out).mono ?_
    rintro e w7 ⟨hb7, h7⟩
    have HB7 := hid (up_trans HB6.out hb7)
    have HA7 := hid (HA6.out.on hb7)
    have HM7 := hid (HM6.out.on hb7)
    have HK7 := hid ((hb7.block _ hl6).trans HK5.out)
    rcases h7 with ⟨_, i, hi, hbad, _⟩ | ⟨_, rfl⟩
    · exact absurd hbad (HQ.out.2.2.2.2.2.2.2 i hi)
    have HU8 := hid (up_alloc w7 (.cells #[.string ⟨#[]⟩, .int .i64 0, .int .i64 0, .slice none 0 0, .slice none 0 0, .slice none 0 0] 44))
    have hl7 : g5 < w7.heap.size := (Array.getElem?_eq_some_iff.1 HK7.out).1
    clear hb7 HB6 HA6 HM6 HK5
    have HR := hid (fun W (b : Below w7.heap.size w7 W) => bright_any ls _ W (HA7.out.on b) HS.out ((HT.out.on HB7.out).on b))
    rw [HQ.out.2.2.1] at HR
    have HSM := hid (fun W (b : Below w7.heap.size w7 W) => same_any ls ls _ _ W (HA7.out.on b) (HM7.out.on b) HQ.out.2.2.2.2.1.1 HQ.out.2.2.2.2.1.1)
    unfold localeV nilLocale
    dsimp only
    go_wp2_with fail
    refine (HR.out _ HU8.out).mono ?_
    rintro e w8 ⟨rfl, hb8⟩
    have HB8 := hid (up_trans HU8.out hb8)
    clear hb8 HR HU8
    go_wp2_with fail
    refine (HSM.out _ HB8.out).mono ?_
    rintro e w9 ⟨rfl, hb9⟩
    have HB9 := hid (up_trans HB8.out hb9)
    have c3 : w9.cell? ⟨g5, 3, none⟩ = some (.slice ad0 1 cap0) := by rw [cell_of_row _ _ _ _ _ _ ((HB9.out.block _ hl7).trans HK7.out)]; rfl
    simp only [decide_true]
    clear hb9 HSM HB8
    go_wp2
    go_ret
    exact ⟨rfl, up_trans HB7.out HB9.out⟩
  · rw [HQ.out.2.2.1] at h5; cases h5
  · obtain ⟨x, hx, he⟩ := HQ.out.2.2.2.2.2.2.1
    exact absurd he (h5 x hx)
theorem known_any (w : World) (hT : Tabs w) : Calls Tryz.prog 11 #[] w fun e w' => e = .returned (.bool true) ∧ Below w.heap.size w w' :=
  known_of [en0] rfl k1 k2 k3 k4 k5 ⟨en0, by simp, rfl⟩ (fun i hi => by
    obtain rfl : i = 0 := by simpa using hi
    decide +kernel) en0_small en0_rows en0_at w hT

end Go.Proofs.YtohgaknojkdohaaGreatDoor

/- A region that draws its order, whose calls may make memory; the table of both variables. -/
namespace Go.Proofs.YtohgaknojkdohaaGreatDoor
open Go.RowKit Gr
/-- a world that has grown out of w: below w's size it is as w is -/
structure Ext (w : World) where
  out : World
  below : Below w.heap.size w out
theorem Ext.cells {w : World} (s : Ext w) (b o : Nat) (h : b < w.heap.size) : s.out.cell? ⟨b, o, none⟩ = w.cell? ⟨b, o, none⟩ := s.below.cell (p := ⟨b, o, none⟩) h
theorem Ext.to {w w' : World} (s : Ext w) (h : Below s.out.heap.size s.out w') : ∃ s' : Ext w, w' = s'.out :=
  ⟨⟨w', s.below.trans (h.mono s.below.size)⟩, rfl⟩
section
variable {P : Program}
theorem wp_region_ext {id : Nat} {Q : Exit → Act → World → Prop} {a : Act} {w : World} {l : List Oper} (hm : P.follows .mixedOrders = true) (hB : Region.lexB .any l.toArray = true)
    (h : wpQuiet P l.toArray (fun w' => ∃ s : Ext w, w' = s.out) (fun a' => ∀ w', (∃ s : Ext w, w' = s.out) → Q .normal a' w') l a) : (Code.region id l.toArray true).wp P Q a w :=
  wp_region_quiet (C := fun w' => ∃ s : Ext w, w' = s.out) hm hB ⟨⟨w.drew, (Below.refl _ _).drew⟩, rfl⟩ (by simpa using h)
theorem wp_region_ext2 {id : Nat} {Q : Exit → Act → World → Prop} {a : Act} {w : World} {l : List Oper} (hm : P.follows .mixedOrders = true) (hB : Region.lexB .any l.toArray = true)
    (h : Nonempty (Ext w) → (∀ (s : Ext w) (b o : Nat), b < w.heap.size → s.out.cell? ⟨b, o, none⟩ = w.cell? ⟨b, o, none⟩) → wpQuiet P l.toArray (fun w' => ∃ s : Ext w, w' = s.out) (fun a' => ∀ w', (∃ s : Ext w, w' = s.out) → Q .normal a' w') l a) : (Code.region id l.toArray true).wp P Q a w :=
  wp_region_ext hm hB (h ⟨⟨_, Below.refl _ _⟩⟩ (fun s b o => s.cells b o))
end
theorem tabs_of_laid {W : World} (h : laidMet Tryz.prog [("interlocutor/gram.places", Rows.laid_interlocutor_gram_places), ("interlocutor/fold.noughts", Rows.laid_interlocutor_fold_noughts)] W) : Tabs W := by
  obtain ⟨ps, ⟨g, t, cs, fuel, p, q, hg, ht, hvar, hd, h2, hps⟩, hnd, hall⟩ := h
  constructor
  · refine Gr.tab_of_laid ⟨MemPlace.row ⟨g, 0, none⟩ cs.size ++ p ++ [], ⟨g, t, cs, fuel, p, [], hg, ht, hvar, hd, rfl, rfl⟩, ?_, fun b off hm => hall b off (by rw [hps]; rw [List.append_nil] at hm; exact List.mem_append_left _ hm)⟩
    rw [hps] at hnd
    rw [List.append_nil]
    exact (List.nodup_append.1 hnd).1
  · have h3 : laidMet Tryz.prog [("interlocutor/fold.noughts", Rows.laid_interlocutor_fold_noughts)] W := ⟨q, h2, by rw [hps] at hnd; exact (List.nodup_append.1 hnd).2.1, fun b off hm => hall b off (by rw [hps]; exact List.mem_append_right _ hm)⟩
    have hn : Tryz.prog.globalNamed "interlocutor/fold.noughts" = some 1 := by kernel_rfl
    have hT := Lib.tabIs_of_head (k := .i64) (zs := [48, 1632, 1776, 2406]) hn (show (Tryz.prog.globals[1]?).map (·.type) = some 216 by kernel_rfl) Tryz.underlying216 Tryz.underlying192 (by kernel_rfl) (by kernel_rfl) h3
    exact ⟨hT.cell hn 0 (by decide), hT.cell hn 1 (by decide), hT.cell hn 2 (by decide), hT.cell hn 3 (by decide)⟩

end Go.Proofs.YtohgaknojkdohaaGreatDoor
