/- RankCompares answers true of any three values: any two are held as the document says; turned about the other way about; of three it goes on. The tables of the library are as listed. -/
import Derived.Test.YtjocpbcmehicmaaDoorCards
import Derived.Test.YtjocpbcmehicmaaDoorTie
import Derived.Test.YtjocpbcmehicmaaDoorArgs
import Derived.ProofKit
import Derived.OpenShut
import Derived.Lay
import Derived.SevenTiedAt
import Derived.Stop.Joined
import Derived.Lib.LaidTab
import Derived.Deep.Cut
import Derived.Deep.CutBlock
namespace Go.Proofs.YtjocpbcmehicmaaDoor
open Go.ChangeShapes Go.WideShapes Go.ChangeAt Go.RowKit


theorem ord_three (a b : Int) : ord a b = -1 ∨ ord a b = 0 ∨ ord a b = 1 := by rcases ord_cases a b with h | h | h <;> simp [h.2]
theorem cmpL_three : ∀ l k : List Int, cmpL l k = -1 ∨ cmpL l k = 0 ∨ cmpL l k = 1
  | [], [] => .inr (.inl rfl)
  | [], _ :: _ => .inl rfl
  | _ :: _, [] => .inr (.inr rfl)
  | a :: l, b :: k => by
    unfold cmpL
    split
    · exact cmpL_three l k
    · exact ord_three a b
theorem cmpV_three (x y : Val) : cmpV x y = -1 ∨ cmpV x y = 0 ∨ cmpV x y = 1 := by
  unfold cmpV
  split
  · split
    · exact cmpL_three _ _
    · exact ord_three _ _
  · exact ord_three _ _
theorem box2 {w w' : World} {b : Nat} {a0 a1 : Value} {t : TypeId} (h : w.heap[b]? = some (.cells #[a0, a1] t (0, 0))) (hb : Below w.heap.size w w') : w'.cell? ⟨b, 0, none⟩ = some a0 ∧ w'.cell? ⟨b, 1, none⟩ = some a1 := by
  have := (hb.block b (Array.getElem?_eq_some_iff.1 h).1).trans h
  exact ⟨cell_of_row (o := 0) this, cell_of_row (o := 1) this⟩

set_option maxRecDepth 8000 in
set_option maxHeartbeats 8000000 in
theorem walk (v0 : Value) (x0 : Val) (v1 : Value) (x1 : Val) (v2 : Value) (x2 : Val) (W : World) (w0 : VW W v0 x0) (w1 : VW W v1 x1) (w2 : VW W v2 x2) (hT : Tab W) :
    Calls Tryd.prog 3 #[v0, v1, v2] W fun e W' => e = .returned (.bool true) ∧ Below W.heap.size W W' := by
  obtain ⟨a0, c0, rfl, V0, _, m0⟩ := vw_ib w0
  obtain ⟨a1, c1, rfl, V1, _, m1⟩ := vw_ib w1
  obtain ⟨a2, c2, rfl, V2, _, m2⟩ := vw_ib w2
  obtain ⟨wa, hwa⟩ : ∃ wa, wa = ((W.alloc (.cells #[.int .i64 x0.kind, .slice a0 x0.f.length c0] 24)).alloc (.cells #[.int .i64 x1.kind, .slice a1 x1.f.length c1] 24)).alloc (.cells #[.int .i64 x2.kind, .slice a2 x2.f.length c2] 24) := ⟨_, rfl⟩
  obtain ⟨hc, hb, hsw⟩ := chain_heap W [.cells #[.int .i64 x0.kind, .slice a0 x0.f.length c0] 24, .cells #[.int .i64 x1.kind, .slice a1 x1.f.length c1] 24, .cells #[.int .i64 x2.kind, .slice a2 x2.f.length c2] 24]
  simp only [List.foldl_cons, List.foldl_nil] at hc hb hsw
  rw [← hwa] at hc hb hsw
  have R0 : wa.heap[W.heap.size]? = some _ := hc 0 _ rfl
  have R1 : wa.heap[W.heap.size + 1]? = some _ := hc 1 _ rfl
  have R2 : wa.heap[W.heap.size + 1 + 1]? = some _ := hc 2 _ rfl
  have hsz : wa.heap.size = W.heap.size + 3 := hsw
  have HK := hid (known_any wa (hT.on hb))
  have HB := hid hb
  have HV0 := hid V0
  have HV1 := hid V1
  have HV2 := hid V2
  have HR0 := hid R0
  have HR1 := hid R1
  have HR2 := hid R2
  have HS := hid hsz
  have HC := hid (cmp_any x0 x1)
  have HX := hid cmpVTO
  obtain ⟨n0, hn0⟩ : ∃ n, n = x0.f.length := ⟨_, rfl⟩
  obtain ⟨n1, hn1⟩ : ∃ n, n = x1.f.length := ⟨_, rfl⟩
  obtain ⟨n2, hn2⟩ : ∃ n, n = x2.f.length := ⟨_, rfl⟩
  clear w0 w1 w2 V0 V1 V2 hT hc hb hsw R0 R1 R2 hsz
  rw [← hn0] at m0 hwa HV0 HR0 ⊢
  rw [← hn1] at m1 hwa HV1 HR1 ⊢
  rw [← hn2] at m2 hwa HV2 HR2 ⊢
  obtain ⟨k0, hk0⟩ : ∃ k, k = x0.kind := ⟨_, rfl⟩
  obtain ⟨k1, hk1⟩ : ∃ k, k = x1.kind := ⟨_, rfl⟩
  obtain ⟨k2, hk2⟩ : ∃ k, k = x2.kind := ⟨_, rfl⟩
  rw [← hk0] at hwa HV0 HR0 ⊢
  rw [← hk1] at hwa HV1 HR1 ⊢
  rw [← hk2] at hwa HV2 HR2 ⊢
  clear hn0 hn1 hn2 hk0 hk1 hk2
  go_enter Tryd.func3, Tryd.ntmps3
  go_wp2_with fail
  rw [← hwa]
  clear hwa
  refine HK.out.mono ?_
  rintro e wb ⟨rfl, hbb⟩
  have HB2 := hid (HB.out.trans (hbb.mono HB.out.size))
  have hsz := HS.out
  have r0 := (hbb.block W.heap.size (by omega)).trans HR0.out
  have r1 := (hbb.block (W.heap.size + 1) (by omega)).trans HR1.out
  have r2 := (hbb.block (W.heap.size + 1 + 1) (by omega)).trans HR2.out
  have HQ0 := hid r0
  have HQ1 := hid r1
  have HQ2 := hid r2
  have HSB := hid (show W.heap.size + 3 ≤ wb.heap.size by have := hbb.size; omega)
  have p0 := cell_of_row (o := 0) r0
  have p1 := cell_of_row (o := 1) r0
  have q0 := cell_of_row (o := 0) r1
  have q1 := cell_of_row (o := 1) r1
  have s0 := cell_of_row (o := 0) r2
  have s1 := cell_of_row (o := 1) r2
  simp only [List.getElem?_toArray, List.getElem?_cons_zero, List.getElem?_cons_succ] at p0 p1 q0 q1 s0 s1
  clear hbb r0 r1 r2 hsz
  by_cases g0 : (20 : Int) < (n0 : Int)
  · go_wp2
    go_ret
    exact ⟨rfl, HB2.out⟩
  by_cases g1 : (20 : Int) < (n1 : Int)
  · go_wp2
    go_ret
    exact ⟨rfl, HB2.out⟩
  by_cases g2 : (20 : Int) < (n2 : Int)
  · go_wp2
    go_ret
    exact ⟨rfl, HB2.out⟩
  have HA0 := hid (HV0.out (by omega))
  have HA1 := hid (HV1.out (by omega))
  have HA2 := hid (HV2.out (by omega))
  have three := cmpV_three x0 x1
  have hturn := HX.out.turn x0 x1
  have hself := cmpV_self x0
  have E01 := hid (rfl : cmpV x0 x1 = cmpV x0 x1)
  clear HC p0 p1 q0 q1 s0 s1
  obtain ⟨p0, p1⟩ := box2 HQ0.out (Below.refl _ _)
  obtain ⟨q0, q1⟩ := box2 HQ1.out (Below.refl _ _)
  obtain ⟨s0, s1⟩ := box2 HQ2.out (Below.refl _ _)
  rcases three with hx | hx | hx
  · have h10 : cmpV x1 x0 = 1 := by omega
    go_wp2_with fail
    refine (cmp_any x0 x1 _ _ _ (HA0.out.on (HB2.out.trans ((Below.refl _ _).mono HB2.out.size))) (HA1.out.on (HB2.out.trans ((Below.refl _ _).mono HB2.out.size)))).mono ?_
    rintro e w11 ⟨rfl, h11⟩
    have HB11 := hid (h11.below)
    obtain ⟨p0, p1⟩ := box2 HQ0.out HB11.out
    obtain ⟨q0, q1⟩ := box2 HQ1.out HB11.out
    obtain ⟨s0, s1⟩ := box2 HQ2.out HB11.out
    clear h11
    rw [hx]
    go_wp2_with fail
    refine (rcmp_any x0 x1 _ _ _ (HA0.out.on (HB2.out.trans ((HB11.out).mono HB2.out.size))) (HA1.out.on (HB2.out.trans ((HB11.out).mono HB2.out.size)))).mono ?_
    rintro e w12 ⟨rfl, h12⟩
    have HB12 := hid (HB11.out.trans (h12.mono HB11.out.size))
    obtain ⟨p0, p1⟩ := box2 HQ0.out HB12.out
    obtain ⟨q0, q1⟩ := box2 HQ1.out HB12.out
    obtain ⟨s0, s1⟩ := box2 HQ2.out HB12.out
    clear h12
    rw [hx]
    go_wp2_with fail
    refine (cmp_any x1 x0 _ _ _ (HA1.out.on (HB2.out.trans ((HB12.out).mono HB2.out.size))) (HA0.out.on (HB2.out.trans ((HB12.out).mono HB2.out.size)))).mono ?_
    rintro e w13 ⟨rfl, h13⟩
    have HB13 := hid (HB12.out.trans (h13.below.mono HB12.out.size))
    obtain ⟨p0, p1⟩ := box2 HQ0.out HB13.out
    obtain ⟨q0, q1⟩ := box2 HQ1.out HB13.out
    obtain ⟨s0, s1⟩ := box2 HQ2.out HB13.out
    clear h13
    rw [h10]
    go_wp2_with fail
    refine (cmp_any x0 x0 _ _ _ (HA0.out.on (HB2.out.trans ((HB13.out).mono HB2.out.size))) (HA0.out.on (HB2.out.trans ((HB13.out).mono HB2.out.size)))).mono ?_
    rintro e w14 ⟨rfl, h14⟩
    have HB14 := hid (HB13.out.trans (h14.below.mono HB13.out.size))
    obtain ⟨p0, p1⟩ := box2 HQ0.out HB14.out
    obtain ⟨q0, q1⟩ := box2 HQ1.out HB14.out
    obtain ⟨s0, s1⟩ := box2 HQ2.out HB14.out
    clear h14
    rw [hself]
    rcases cmpV_three x1 x2 with hy | hy | hy
    · go_wp2_with fail
      refine (cmp_any x1 x2 _ _ _ (HA1.out.on (HB2.out.trans ((HB14.out).mono HB2.out.size))) (HA2.out.on (HB2.out.trans ((HB14.out).mono HB2.out.size)))).mono ?_
      rintro e w15 ⟨rfl, h15⟩
      have HB15 := hid (HB14.out.trans (h15.below.mono HB14.out.size))
      obtain ⟨p0, p1⟩ := box2 HQ0.out HB15.out
      obtain ⟨q0, q1⟩ := box2 HQ1.out HB15.out
      obtain ⟨s0, s1⟩ := box2 HQ2.out HB15.out
      clear h15
      rw [hy]
      have hz := HX.out.trans x0 x1 x2 (by omega) (by omega)
      have hz2 : cmpV x0 x2 = -1 ∨ cmpV x0 x2 = 0 := by rcases cmpV_three x0 x2 with h | h | h <;> omega
      clear hz
      rcases hz2 with hz | hz
      · go_wp2_with fail
        refine (cmp_any x0 x2 _ _ _ (HA0.out.on (HB2.out.trans ((HB15.out).mono HB2.out.size))) (HA2.out.on (HB2.out.trans ((HB15.out).mono HB2.out.size)))).mono ?_
        rintro e w16 ⟨rfl, h16⟩
        have HB16 := hid (HB15.out.trans (h16.below.mono HB15.out.size))
        obtain ⟨p0, p1⟩ := box2 HQ0.out HB16.out
        obtain ⟨q0, q1⟩ := box2 HQ1.out HB16.out
        obtain ⟨s0, s1⟩ := box2 HQ2.out HB16.out
        clear h16
        rw [hz]
        go_wp2
        go_ret
        exact ⟨rfl, HB2.out.trans (HB16.out.mono HB2.out.size)⟩
      · go_wp2_with fail
        refine (cmp_any x0 x2 _ _ _ (HA0.out.on (HB2.out.trans ((HB15.out).mono HB2.out.size))) (HA2.out.on (HB2.out.trans ((HB15.out).mono HB2.out.size)))).mono ?_
        rintro e w16 ⟨rfl, h16⟩
        have HB16 := hid (HB15.out.trans (h16.below.mono HB15.out.size))
        obtain ⟨p0, p1⟩ := box2 HQ0.out HB16.out
        obtain ⟨q0, q1⟩ := box2 HQ1.out HB16.out
        obtain ⟨s0, s1⟩ := box2 HQ2.out HB16.out
        clear h16
        rw [hz]
        go_wp2
        go_ret
        exact ⟨rfl, HB2.out.trans (HB16.out.mono HB2.out.size)⟩
    · go_wp2_with fail
      refine (cmp_any x1 x2 _ _ _ (HA1.out.on (HB2.out.trans ((HB14.out).mono HB2.out.size))) (HA2.out.on (HB2.out.trans ((HB14.out).mono HB2.out.size)))).mono ?_
      rintro e w15 ⟨rfl, h15⟩
      have HB15 := hid (HB14.out.trans (h15.below.mono HB14.out.size))
      obtain ⟨p0, p1⟩ := box2 HQ0.out HB15.out
      obtain ⟨q0, q1⟩ := box2 HQ1.out HB15.out
      obtain ⟨s0, s1⟩ := box2 HQ2.out HB15.out
      clear h15
      rw [hy]
      have hz := HX.out.trans x0 x1 x2 (by omega) (by omega)
      have hz2 : cmpV x0 x2 = -1 ∨ cmpV x0 x2 = 0 := by rcases cmpV_three x0 x2 with h | h | h <;> omega
      clear hz
      rcases hz2 with hz | hz
      · go_wp2_with fail
        refine (cmp_any x0 x2 _ _ _ (HA0.out.on (HB2.out.trans ((HB15.out).mono HB2.out.size))) (HA2.out.on (HB2.out.trans ((HB15.out).mono HB2.out.size)))).mono ?_
        rintro e w16 ⟨rfl, h16⟩
        have HB16 := hid (HB15.out.trans (h16.below.mono HB15.out.size))
        obtain ⟨p0, p1⟩ := box2 HQ0.out HB16.out
        obtain ⟨q0, q1⟩ := box2 HQ1.out HB16.out
        obtain ⟨s0, s1⟩ := box2 HQ2.out HB16.out
        clear h16
        rw [hz]
        go_wp2
        go_ret
        exact ⟨rfl, HB2.out.trans (HB16.out.mono HB2.out.size)⟩
      · go_wp2_with fail
        refine (cmp_any x0 x2 _ _ _ (HA0.out.on (HB2.out.trans ((HB15.out).mono HB2.out.size))) (HA2.out.on (HB2.out.trans ((HB15.out).mono HB2.out.size)))).mono ?_
        rintro e w16 ⟨rfl, h16⟩
        have HB16 := hid (HB15.out.trans (h16.below.mono HB15.out.size))
        obtain ⟨p0, p1⟩ := box2 HQ0.out HB16.out
        obtain ⟨q0, q1⟩ := box2 HQ1.out HB16.out
        obtain ⟨s0, s1⟩ := box2 HQ2.out HB16.out
        clear h16
        rw [hz]
        go_wp2
        go_ret
        exact ⟨rfl, HB2.out.trans (HB16.out.mono HB2.out.size)⟩
    · go_wp2_with fail
      refine (cmp_any x1 x2 _ _ _ (HA1.out.on (HB2.out.trans ((HB14.out).mono HB2.out.size))) (HA2.out.on (HB2.out.trans ((HB14.out).mono HB2.out.size)))).mono ?_
      rintro e w15 ⟨rfl, h15⟩
      have HB15 := hid (HB14.out.trans (h15.below.mono HB14.out.size))
      obtain ⟨p0, p1⟩ := box2 HQ0.out HB15.out
      obtain ⟨q0, q1⟩ := box2 HQ1.out HB15.out
      obtain ⟨s0, s1⟩ := box2 HQ2.out HB15.out
      clear h15
      rw [hy]
      go_wp2
      go_ret
      exact ⟨rfl, HB2.out.trans (HB15.out.mono HB2.out.size)⟩
  · have h10 : cmpV x1 x0 = 0 := by omega
    go_wp2_with fail
    refine (cmp_any x0 x1 _ _ _ (HA0.out.on (HB2.out.trans ((Below.refl _ _).mono HB2.out.size))) (HA1.out.on (HB2.out.trans ((Below.refl _ _).mono HB2.out.size)))).mono ?_
    rintro e w11 ⟨rfl, h11⟩
    have HB11 := hid (h11.below)
    obtain ⟨p0, p1⟩ := box2 HQ0.out HB11.out
    obtain ⟨q0, q1⟩ := box2 HQ1.out HB11.out
    obtain ⟨s0, s1⟩ := box2 HQ2.out HB11.out
    clear h11
    rw [hx]
    go_wp2_with fail
    refine (rcmp_any x0 x1 _ _ _ (HA0.out.on (HB2.out.trans ((HB11.out).mono HB2.out.size))) (HA1.out.on (HB2.out.trans ((HB11.out).mono HB2.out.size)))).mono ?_
    rintro e w12 ⟨rfl, h12⟩
    have HB12 := hid (HB11.out.trans (h12.mono HB11.out.size))
    obtain ⟨p0, p1⟩ := box2 HQ0.out HB12.out
    obtain ⟨q0, q1⟩ := box2 HQ1.out HB12.out
    obtain ⟨s0, s1⟩ := box2 HQ2.out HB12.out
    clear h12
    rw [hx]
    go_wp2_with fail
    refine (cmp_any x1 x0 _ _ _ (HA1.out.on (HB2.out.trans ((HB12.out).mono HB2.out.size))) (HA0.out.on (HB2.out.trans ((HB12.out).mono HB2.out.size)))).mono ?_
    rintro e w13 ⟨rfl, h13⟩
    have HB13 := hid (HB12.out.trans (h13.below.mono HB12.out.size))
    obtain ⟨p0, p1⟩ := box2 HQ0.out HB13.out
    obtain ⟨q0, q1⟩ := box2 HQ1.out HB13.out
    obtain ⟨s0, s1⟩ := box2 HQ2.out HB13.out
    clear h13
    rw [h10]
    go_wp2_with fail
    refine (cmp_any x0 x0 _ _ _ (HA0.out.on (HB2.out.trans ((HB13.out).mono HB2.out.size))) (HA0.out.on (HB2.out.trans ((HB13.out).mono HB2.out.size)))).mono ?_
    rintro e w14 ⟨rfl, h14⟩
    have HB14 := hid (HB13.out.trans (h14.below.mono HB13.out.size))
    obtain ⟨p0, p1⟩ := box2 HQ0.out HB14.out
    obtain ⟨q0, q1⟩ := box2 HQ1.out HB14.out
    obtain ⟨s0, s1⟩ := box2 HQ2.out HB14.out
    clear h14
    rw [hself]
    rcases cmpV_three x1 x2 with hy | hy | hy
    · go_wp2_with fail
      refine (cmp_any x1 x2 _ _ _ (HA1.out.on (HB2.out.trans ((HB14.out).mono HB2.out.size))) (HA2.out.on (HB2.out.trans ((HB14.out).mono HB2.out.size)))).mono ?_
      rintro e w15 ⟨rfl, h15⟩
      have HB15 := hid (HB14.out.trans (h15.below.mono HB14.out.size))
      obtain ⟨p0, p1⟩ := box2 HQ0.out HB15.out
      obtain ⟨q0, q1⟩ := box2 HQ1.out HB15.out
      obtain ⟨s0, s1⟩ := box2 HQ2.out HB15.out
      clear h15
      rw [hy]
      have hz := HX.out.trans x0 x1 x2 (by omega) (by omega)
      have hz2 : cmpV x0 x2 = -1 ∨ cmpV x0 x2 = 0 := by rcases cmpV_three x0 x2 with h | h | h <;> omega
      clear hz
      rcases hz2 with hz | hz
      · go_wp2_with fail
        refine (cmp_any x0 x2 _ _ _ (HA0.out.on (HB2.out.trans ((HB15.out).mono HB2.out.size))) (HA2.out.on (HB2.out.trans ((HB15.out).mono HB2.out.size)))).mono ?_
        rintro e w16 ⟨rfl, h16⟩
        have HB16 := hid (HB15.out.trans (h16.below.mono HB15.out.size))
        obtain ⟨p0, p1⟩ := box2 HQ0.out HB16.out
        obtain ⟨q0, q1⟩ := box2 HQ1.out HB16.out
        obtain ⟨s0, s1⟩ := box2 HQ2.out HB16.out
        clear h16
        rw [hz]
        go_wp2
        go_ret
        exact ⟨rfl, HB2.out.trans (HB16.out.mono HB2.out.size)⟩
      · go_wp2_with fail
        refine (cmp_any x0 x2 _ _ _ (HA0.out.on (HB2.out.trans ((HB15.out).mono HB2.out.size))) (HA2.out.on (HB2.out.trans ((HB15.out).mono HB2.out.size)))).mono ?_
        rintro e w16 ⟨rfl, h16⟩
        have HB16 := hid (HB15.out.trans (h16.below.mono HB15.out.size))
        obtain ⟨p0, p1⟩ := box2 HQ0.out HB16.out
        obtain ⟨q0, q1⟩ := box2 HQ1.out HB16.out
        obtain ⟨s0, s1⟩ := box2 HQ2.out HB16.out
        clear h16
        rw [hz]
        go_wp2
        go_ret
        exact ⟨rfl, HB2.out.trans (HB16.out.mono HB2.out.size)⟩
    · go_wp2_with fail
      refine (cmp_any x1 x2 _ _ _ (HA1.out.on (HB2.out.trans ((HB14.out).mono HB2.out.size))) (HA2.out.on (HB2.out.trans ((HB14.out).mono HB2.out.size)))).mono ?_
      rintro e w15 ⟨rfl, h15⟩
      have HB15 := hid (HB14.out.trans (h15.below.mono HB14.out.size))
      obtain ⟨p0, p1⟩ := box2 HQ0.out HB15.out
      obtain ⟨q0, q1⟩ := box2 HQ1.out HB15.out
      obtain ⟨s0, s1⟩ := box2 HQ2.out HB15.out
      clear h15
      rw [hy]
      have hz := HX.out.trans x0 x1 x2 (by omega) (by omega)
      have hz2 : cmpV x0 x2 = -1 ∨ cmpV x0 x2 = 0 := by rcases cmpV_three x0 x2 with h | h | h <;> omega
      clear hz
      rcases hz2 with hz | hz
      · go_wp2_with fail
        refine (cmp_any x0 x2 _ _ _ (HA0.out.on (HB2.out.trans ((HB15.out).mono HB2.out.size))) (HA2.out.on (HB2.out.trans ((HB15.out).mono HB2.out.size)))).mono ?_
        rintro e w16 ⟨rfl, h16⟩
        have HB16 := hid (HB15.out.trans (h16.below.mono HB15.out.size))
        obtain ⟨p0, p1⟩ := box2 HQ0.out HB16.out
        obtain ⟨q0, q1⟩ := box2 HQ1.out HB16.out
        obtain ⟨s0, s1⟩ := box2 HQ2.out HB16.out
        clear h16
        rw [hz]
        go_wp2
        go_ret
        exact ⟨rfl, HB2.out.trans (HB16.out.mono HB2.out.size)⟩
      · go_wp2_with fail
        refine (cmp_any x0 x2 _ _ _ (HA0.out.on (HB2.out.trans ((HB15.out).mono HB2.out.size))) (HA2.out.on (HB2.out.trans ((HB15.out).mono HB2.out.size)))).mono ?_
        rintro e w16 ⟨rfl, h16⟩
        have HB16 := hid (HB15.out.trans (h16.below.mono HB15.out.size))
        obtain ⟨p0, p1⟩ := box2 HQ0.out HB16.out
        obtain ⟨q0, q1⟩ := box2 HQ1.out HB16.out
        obtain ⟨s0, s1⟩ := box2 HQ2.out HB16.out
        clear h16
        rw [hz]
        go_wp2
        go_ret
        exact ⟨rfl, HB2.out.trans (HB16.out.mono HB2.out.size)⟩
    · go_wp2_with fail
      refine (cmp_any x1 x2 _ _ _ (HA1.out.on (HB2.out.trans ((HB14.out).mono HB2.out.size))) (HA2.out.on (HB2.out.trans ((HB14.out).mono HB2.out.size)))).mono ?_
      rintro e w15 ⟨rfl, h15⟩
      have HB15 := hid (HB14.out.trans (h15.below.mono HB14.out.size))
      obtain ⟨p0, p1⟩ := box2 HQ0.out HB15.out
      obtain ⟨q0, q1⟩ := box2 HQ1.out HB15.out
      obtain ⟨s0, s1⟩ := box2 HQ2.out HB15.out
      clear h15
      rw [hy]
      go_wp2
      go_ret
      exact ⟨rfl, HB2.out.trans (HB15.out.mono HB2.out.size)⟩
  · have h10 : cmpV x1 x0 = -1 := by omega
    go_wp2_with fail
    refine (cmp_any x0 x1 _ _ _ (HA0.out.on (HB2.out.trans ((Below.refl _ _).mono HB2.out.size))) (HA1.out.on (HB2.out.trans ((Below.refl _ _).mono HB2.out.size)))).mono ?_
    rintro e w11 ⟨rfl, h11⟩
    have HB11 := hid (h11.below)
    obtain ⟨p0, p1⟩ := box2 HQ0.out HB11.out
    obtain ⟨q0, q1⟩ := box2 HQ1.out HB11.out
    obtain ⟨s0, s1⟩ := box2 HQ2.out HB11.out
    clear h11
    rw [hx]
    go_wp2_with fail
    refine (rcmp_any x0 x1 _ _ _ (HA0.out.on (HB2.out.trans ((HB11.out).mono HB2.out.size))) (HA1.out.on (HB2.out.trans ((HB11.out).mono HB2.out.size)))).mono ?_
    rintro e w12 ⟨rfl, h12⟩
    have HB12 := hid (HB11.out.trans (h12.mono HB11.out.size))
    obtain ⟨p0, p1⟩ := box2 HQ0.out HB12.out
    obtain ⟨q0, q1⟩ := box2 HQ1.out HB12.out
    obtain ⟨s0, s1⟩ := box2 HQ2.out HB12.out
    clear h12
    rw [hx]
    go_wp2_with fail
    refine (cmp_any x1 x0 _ _ _ (HA1.out.on (HB2.out.trans ((HB12.out).mono HB2.out.size))) (HA0.out.on (HB2.out.trans ((HB12.out).mono HB2.out.size)))).mono ?_
    rintro e w13 ⟨rfl, h13⟩
    have HB13 := hid (HB12.out.trans (h13.below.mono HB12.out.size))
    obtain ⟨p0, p1⟩ := box2 HQ0.out HB13.out
    obtain ⟨q0, q1⟩ := box2 HQ1.out HB13.out
    obtain ⟨s0, s1⟩ := box2 HQ2.out HB13.out
    clear h13
    rw [h10]
    go_wp2_with fail
    refine (cmp_any x0 x0 _ _ _ (HA0.out.on (HB2.out.trans ((HB13.out).mono HB2.out.size))) (HA0.out.on (HB2.out.trans ((HB13.out).mono HB2.out.size)))).mono ?_
    rintro e w14 ⟨rfl, h14⟩
    have HB14 := hid (HB13.out.trans (h14.below.mono HB13.out.size))
    obtain ⟨p0, p1⟩ := box2 HQ0.out HB14.out
    obtain ⟨q0, q1⟩ := box2 HQ1.out HB14.out
    obtain ⟨s0, s1⟩ := box2 HQ2.out HB14.out
    clear h14
    rw [hself]
    go_wp2
    go_ret
    exact ⟨rfl, HB2.out.trans (HB14.out.mono HB2.out.size)⟩

theorem own : ownKnob Tryd.prog.godebug = none := by kernel_rfl

theorem table {W : World} (h : laidMetH Tryd.prog Rows.rankComparesRow.laid W) : Tab W := by
  rw [MakeChecks.laidMetH_plain _ _ _ (by kernel_rfl)] at h
  exact tab_of_laid h

set_option maxRecDepth 100000 in
theorem lifted (os : Os) (started : os.Started) (H : Type) (enc : TypeId × Value → H) :
    ReturnsInHanded {} Tryd.checked os 3 .any (fun w args => (Rows.rankComparesSpec.pre enc Tryd.prog Tryd.f3 Rows.rankComparesRow.domain false w args ∧ laidMetH Tryd.prog Rows.rankComparesRow.laid w) ∧ sizedMet enc Tryd.prog Tryd.f3 (OpenSpec.ofChange Rows.rankComparesSpec) false w args)
      (Rows.rankComparesSpec.post enc Tryd.prog Tryd.f3 false true false false) := by
  refine returnsInHanded_of_change_and (C := Tryd.checked) (X := fun w _ => laidMetH Tryd.prog Rows.rankComparesRow.laid w) (fun _ _ _ hh h => h.of_heap hh) own started (by kernel_rfl) Tryd.func3
    (ChangeSpec.witness_shaped (enc := enc) (C := Tryd.checked) (os := os) (X := fun w _ => laidMetH Tryd.prog Rows.rankComparesRow.laid w) false (World.laidAll Tryd.prog os Rows.rankComparesRow.laid) #[.agg #[.int .i64 0, .slice none 0 0], .agg #[.int .i64 0, .slice none 0 0], .agg #[.int .i64 0, .slice none 0 0]] 8 (World.laidAll_os _ _ _)
      (World.shaped_of_ZipB (by kernel_rfl) (by kernel_rfl)) (by kernel_rfl) (by kernel_rfl) (by kernel_rfl)
      (by rw [MakeChecks.laidMetH_plain _ _ _ (by kernel_rfl)]; exact laidMet_laidAll _ (by kernel_rfl) (by kernel_rfl))) ?_
  intro W base args ds gs before hval0 hW _ _ hL _
  have hval : ∀ (j : Nat) t v, Tryd.f3.params[j]? = some t → args[j]? = some v → Value.okWide Tryd.prog W .any base t v := hval0
  have hW' := hW
  obtain ⟨p, q, hA0, hV, rfl, hfz, hnd⟩ := hW
  have hA : DataW.TrodAll enc Tryd.prog W 0 (fun _ => true) true Tryd.f3.params.toList args.toList ds p := hA0
  rw [Tryd.params3] at hA hval
  obtain ⟨v0, vs0, d0, ds0, p0, q0, hargs, rfl, rfl, h0, r0⟩ := trodAll_cons hA
  obtain ⟨v1, vs1, d1, ds1, p1, q1, rfl, rfl, rfl, h1, r1⟩ := trodAll_cons r0
  obtain ⟨v2, vs2, d2, ds2, p2, q2, rfl, rfl, rfl, h2, r2⟩ := trodAll_cons r1
  obtain ⟨rfl, rfl, rfl⟩ := trodAll_nil r2
  obtain rfl : args = #[v0, v1, v2] := by cases args; simp_all
  obtain ⟨rfl, rfl⟩ := trodVars_none hV
  obtain ⟨x0, w0⟩ := value_of (hval 0 24 v0 rfl rfl) h0
  have l0 : ∀ x ∈ p0, x.block < W.heap.size := fun x hx => hW'.lt x (by simp [hx])
  obtain ⟨x1, w1⟩ := value_of (hval 1 24 v1 rfl rfl) h1
  have l1 : ∀ x ∈ p1, x.block < W.heap.size := fun x hx => hW'.lt x (by simp [hx])
  obtain ⟨x2, w2⟩ := value_of (hval 2 24 v2 rfl rfl) h2
  have l2 : ∀ x ∈ p2, x.block < W.heap.size := fun x hx => hW'.lt x (by simp [hx])
  clear hA0 hval0
  refine (walk v0 x0 v1 x1 v2 x2 W w0 w1 w2 (table hL)).mono fun e W' ⟨he, bel⟩ => ?_
  subst he
  exact ⟨_, rfl, _, _, _, _, _, [], hW', trodAll_mk1 (shut_bool Tryd.underlying4 _), (trodAll_cons_mk (Below.trod (by kernel_rfl) (by kernel_rfl) (of_decide_eq_true (by kernel_rfl)) h0 bel l0) (trodAll_cons_mk (Below.trod (by kernel_rfl) (by kernel_rfl) (of_decide_eq_true (by kernel_rfl)) h1 bel l1) (trodAll_cons_mk (Below.trod (by kernel_rfl) (by kernel_rfl) (of_decide_eq_true (by kernel_rfl)) h2 bel l2) trodAll_mk0))), rfl, bel.frame _, fun h => by cases h⟩

theorem row_holds : Rows.RankComparesSaid :=
  OpenClaim.holds_of_wide 3 Tryd.f3 rfl rfl rfl rfl rfl rfl rfl ⟨rfl, rfl, rfl, rfl, rfl⟩ rfl rfl rfl rfl rfl (by kernel_rfl) Tryd.func3 (by kernel_rfl)
    (of_decide_eq_true (by kernel_rfl)) (by unfold Func.isWrapper; first | (rw [if_pos (by decide +kernel)]; kernel_rfl) | (rw [if_neg (by decide +kernel)]; exact ⟨rfl, rfl⟩))
    (fun os started H enc _ => lifted os started H enc)

theorem rankCompares_holds : Rows.RankComparesCardSaid :=
  Claim7.holds_tied_plain_at .later [] _ _ _ _ row_holds (fun _ h => by cases h) (by kernel_rfl) (fun _ h => by cases h) rankCompares_row_tie rfl ⟨rfl, rfl⟩ (by kernel_rfl) rfl
    (fun f fn hf hfn => by
      obtain rfl : f = 3 := Option.some.inj ((show Tryd.prog.funcNamed "interlocutor/interlocutorlaw10.RankCompares" = some 3 by kernel_rfl).symm.trans hf) |>.symm
      obtain rfl : fn = Tryd.f3 := (Option.some.inj (Tryd.func3.symm.trans hfn)).symm
      exact ⟨by kernel_rfl, fun j t ht => by
        rw [Tryd.params3] at ht
        have hm : t ∈ [24, 24, 24] := by simpa using Array.mem_of_getElem? ht
        have hall : ([24, 24, 24].all fun u => !Tryd.prog.wantsStandIn u) = true := by kernel_rfl
        exact (show Tryd.prog.wantsStandIn t = false by simpa using List.all_eq_true.1 hall t hm)⟩)
    (by kernel_rfl)

end Go.Proofs.YtjocpbcmehicmaaDoor
