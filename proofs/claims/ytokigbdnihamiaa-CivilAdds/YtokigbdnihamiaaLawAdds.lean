/- CivilAdds answers true of every five ints: of a day of the years 1 to 9999, so many months and days on in six ways, any months and any days among them, civil.Add tells the day that the reference tells, or none where it tells none. No condition. -/
import Derived.Test.YtokigbdnihamiaaRows
import Derived.Test.YtokigbdnihamiaaBase
import Derived.Test.YtokigbdnihamiaaRefMore
import Derived.Test.YtokigbdnihamiaaExt
import Derived.ProofKit
import Derived.OpenShut
import Derived.Below
namespace Go.Proofs.Ytokigbdnihamiaa
open Go.ChangeShapes Go.WideShapes Go.ChangeAt Go.RowKit

theorem addV_form (y m d mo da : Int) : ∃ a b c x, addV y m d mo da = .tuple #[.int .i64 a, .int .i64 b, .int .i64 c, .bool x] := by
  unfold addV
  split
  · exact ⟨_, _, _, _, rfl⟩
  · exact ⟨_, _, _, _, rfl⟩

/-- the six pairs of months and days -/
def moAt (mo raw : Int) : Nat → Int
  | 0 => mo % 4000 - 2000
  | 1 => mo % 2000003 - 1000001
  | 2 => raw
  | 3 => raw
  | 4 => 0
  | _ => mo % 30 - 15
def daAt (da other : Int) : Nat → Int
  | 0 => da % 40000 - 20000
  | 1 => da % 20000003 - 10000001
  | 2 => other
  | 3 => 0
  | 4 => other
  | _ => 0

set_option maxRecDepth 100000 in
set_option maxHeartbeats 4000000 in
theorem walk (n mo da raw other : Int) (w : World) (w0 : (Lit.int .i64 n).wf = true) (_w1 : (Lit.int .i64 mo).wf = true) (_w2 : (Lit.int .i64 da).wf = true) (_w3 : (Lit.int .i64 raw).wf = true) (_w4 : (Lit.int .i64 other).wf = true) :
    Calls Try.prog 7 #[.int .i64 n, .int .i64 mo, .int .i64 da, .int .i64 raw, .int .i64 other] w fun e w' => e = .returned (.bool true) ∧ Below w.heap.size w w' := by
  obtain ⟨n0, n1⟩ := bounds_i64 w0
  clear w0 _w1 _w2 _w3 _w4
  have HK : Hid (∀ w, Calls Try.prog 9 #[] w fun e w' => e = .returned (.bool true) ∧ Below w.heap.size w w') := known_any
  have HY : Hid (∀ w, Calls Try.prog 10 #[.int .i64 n, .bool false] w fun e w' => e = .returned (.tuple #[.int .i64 (dayY n false), .int .i64 (dayM n), .int .i64 (dayD n false)]) ∧ w' = w) := fun w => day_any n false w n0 n1
  have hv := day_vld n false
  have hy := dayY_narrow n
  clear n0 n1
  generalize dayY n false = y at *
  generalize dayM n = m at *
  generalize dayD n false = d at *
  have HA : Hid (∀ a b w, Calls Try.prog 22 #[.int .i64 y, .int .i64 m, .int .i64 d, .int .i64 a, .int .i64 b] w fun e w' => e = .returned (addV y m d a b) ∧ Below w.heap.size w w') := fun a b w => add_any y m d a b w hv hy.1 hy.2
  have HR : Hid (∀ a b w, Calls Try.prog 23 #[.int .i64 y, .int .i64 m, .int .i64 d, .int .i64 a, .int .i64 b] w fun e w' => e = .returned (addV y m d a b) ∧ w' = w) := fun a b w => radd_any y m d a b w hv hy.1 hy.2
  clear hv hy
  go_enter Try.func7, Try.ntmps7
  go_wp2_with fail
  refine (HK.out _).mono ?_
  rintro e w1 ⟨rfl, b1⟩
  go_wp2_with fail
  refine (HY.out _).mono ?_
  rintro e w2 ⟨rfl, rfl⟩
  go_wp2_with (go_at_call 17; refine (lwithin_any _ _ _ (by omega) (by omega)).mono ?_; rintro e w' ⟨rfl, rfl⟩)
  generalize hW : ((((((w'.alloc (Obj.cells #[Value.int IntKind.i64 (mo % 4000 - 2000), Value.int IntKind.i64 (da % 40000 - 20000)] 3)).alloc (Obj.cells #[Value.int IntKind.i64 (mo % 2000003 - 1000001), Value.int IntKind.i64 (da % 20000003 - 10000001)] 3)).alloc (Obj.cells #[Value.int IntKind.i64 raw, Value.int IntKind.i64 other] 3)).alloc (Obj.cells #[Value.int IntKind.i64 raw, Value.int IntKind.i64 0] 3)).alloc (Obj.cells #[Value.int IntKind.i64 0, Value.int IntKind.i64 other] 3)).alloc (Obj.cells #[Value.int IntKind.i64 (mo % 30 - 15), Value.int IntKind.i64 0] 3)).alloc (Obj.cells #[Value.slice (some { block := w'.heap.size, off := 0 }) 2 2, Value.slice (some { block := w'.heap.size + 1, off := 0 }) 2 2, Value.slice (some { block := w'.heap.size + 1 + 1, off := 0 }) 2 2, Value.slice (some { block := w'.heap.size + 1 + 1 + 1, off := 0 }) 2 2, Value.slice (some { block := w'.heap.size + 1 + 1 + 1 + 1, off := 0 }) 2 2, Value.slice (some { block := w'.heap.size + 1 + 1 + 1 + 1 + 1, off := 0 }) 2 2] 32) = W
  have F : ∀ k : Nat, k < 6 → W.cell? ⟨w'.heap.size + 1 + 1 + 1 + 1 + 1 + 1, k, none⟩ = some (.slice (some ⟨w'.heap.size + k, 0, none⟩) 2 2) ∧ W.cell? ⟨w'.heap.size + k, 0, none⟩ = some (.int .i64 (moAt mo raw k)) ∧ W.cell? ⟨w'.heap.size + k, 1, none⟩ = some (.int .i64 (daAt da other k)) := by
    subst hW
    intro k hk
    have h6 : k = 0 ∨ k = 1 ∨ k = 2 ∨ k = 3 ∨ k = 4 ∨ k = 5 := by omega
    rcases h6 with rfl | rfl | rfl | rfl | rfl | rfl
    all_goals simp [go_sem, moAt, daAt]
  have bW : Below w.heap.size w W := by
    subst hW
    exact up_trans (up_trans (up_trans (up_trans (up_trans (up_trans (up_trans b1 (up_alloc _ _)) (up_alloc _ _)) (up_alloc _ _)) (up_alloc _ _)) (up_alloc _ _)) (up_alloc _ _)) (up_alloc _ _)
  have hS : w'.heap.size + 6 < W.heap.size := by subst hW; simp
  clear hW b1
  generalize w'.heap.size = B at *
  go_loopw [15] (fun i wr => ∃ k : Nat, k ≤ 6 ∧ i = .int .i64 k ∧ Below W.heap.size W wr) (fun i _ => (6 - intOf i).toNat)
  case atStart => exact ⟨0, by omega, rfl, Below.refl _ _⟩
  case round =>
    obtain ⟨k, hk, rfl, hb⟩ := hrel
    by_cases hlt : k < 6
    · obtain ⟨f1, f2, f3⟩ := F k hlt
      obtain ⟨a1, a2, a3, x, eV⟩ := addV_form y m d (moAt mo raw k) (daAt da other k)
      have hA := HA.out (moAt mo raw k) (daAt da other k)
      have hR := HR.out (moAt mo raw k) (daAt da other k)
      rw [eV] at hA hR
      have HA' := hid hA
      have HR' := hid hR
      clear hA hR eV F bW HA HR HK HY
      generalize moAt mo raw k = p at *
      generalize daAt da other k = q at *
      have g1 := (hb.cell (p := ⟨B + 1 + 1 + 1 + 1 + 1 + 1, k, none⟩) (by show B + 1 + 1 + 1 + 1 + 1 + 1 < W.heap.size; omega)).trans f1
      have g2 := (hb.cell (p := ⟨B + k, 0, none⟩) (by show B + k < W.heap.size; omega)).trans f2
      have g3 := (hb.cell (p := ⟨B + k, 1, none⟩) (by show B + k < W.heap.size; omega)).trans f3
      have sz := hb.size
      clear f1 f2 f3
      go_wp2_with fail
      refine wp_region_ext2 (by kernel_rfl) (by kernel_rfl) (fun hne hcell => ?_)
      have G1 := fun s => (hcell s (B + 1 + 1 + 1 + 1 + 1 + 1) k (by omega)).trans g1
      have G2 := fun s => (hcell s (B + k) 0 (by omega)).trans g2
      have G3 := fun s => (hcell s (B + k) 1 (by omega)).trans g3
      clear hcell g1 g2 g3
      repeat (go_big_quiet_step ((go_at_call 22; exact (HA'.out _).mono (fun e w' h => ⟨h.1, Ext.to _ h.2⟩))))
      refine wpQuiet_nil ?_
      rintro _ ⟨s, rfl⟩
      have g1 := G1 s
      have g2 := G2 s
      have g3 := G3 s
      have sz' := s.below.size
      clear G1 G2 G3 hne
      go_wp2_with fail
      refine wp_region_ext2 (by kernel_rfl) (by kernel_rfl) (fun hne hcell => ?_)
      have G1 := fun s' => (hcell s' (B + 1 + 1 + 1 + 1 + 1 + 1) k (by omega)).trans g1
      have G2 := fun s' => (hcell s' (B + k) 0 (by omega)).trans g2
      have G3 := fun s' => (hcell s' (B + k) 1 (by omega)).trans g3
      clear hcell g1 g2 g3
      repeat (go_big_quiet_step ((go_at_call 23; exact (HR'.out _).mono (fun e w' h => ⟨h.1, _, h.2⟩))))
      refine wpQuiet_nil ?_
      rintro _ ⟨s', rfl⟩
      clear G1 G2 G3 hne
      go_wp2
      go_roundw
      case rel => exact ⟨k + 1, by omega, by go_num, hb.trans ((s.below.mono sz).trans (s'.below.mono (Nat.le_trans sz sz')))⟩
      case measure => simp [intOf]; omega
    · go_wp2
      go_ret
      exact ⟨rfl, up_trans bW hb⟩

theorem own : ownKnob Try.prog.godebug = none := by kernel_rfl

set_option maxRecDepth 100000 in
theorem lifted (os : Os) (started : os.Started) (H : Type) (enc : TypeId × Value → H) :
    ReturnsInHanded {} Try.checked os 7 .any (Rows.civilAddsSpec.pre6 enc Try.prog Try.f7 Rows.civilAddsRow.domain false) (Rows.civilAddsSpec.post enc Try.prog Try.f7 false true false false) := by
  refine returnsInHanded_of_change (C := Try.checked) own started (by kernel_rfl) Try.func7
    (ChangeSpec.witness6 (enc := enc) (C := Try.checked) false ⟨#[], #[.int .i64 0, .int .i64 0, .int .i64 0, .int .i64 0, .int .i64 0], []⟩ 8 (by kernel_rfl) (by kernel_rfl) (by kernel_rfl) (by kernel_rfl)) ?_
  intro W base args ds gs before hval0 hW hcnd _
  have hval : ∀ (j : Nat) t v, Try.f7.params[j]? = some t → args[j]? = some v → Value.okWide Try.prog W .any base t v := hval0
  have hW' := hW
  obtain ⟨p, q, hA0, hV, rfl, hfz, hnd⟩ := hW
  have hA : DataW.TrodAll enc Try.prog W 0 (fun _ => true) true Try.f7.params.toList args.toList ds p := hA0
  rw [Try.params7] at hA hval
  obtain ⟨v0, vs0, d0, ds0, p0, q0, hargs, rfl, rfl, h0, r0⟩ := trodAll_cons hA
  obtain ⟨v1, vs1, d1, ds1, p1, q1, rfl, rfl, rfl, h1, r1⟩ := trodAll_cons r0
  obtain ⟨v2, vs2, d2, ds2, p2, q2, rfl, rfl, rfl, h2, r2⟩ := trodAll_cons r1
  obtain ⟨v3, vs3, d3, ds3, p3, q3, rfl, rfl, rfl, h3, r3⟩ := trodAll_cons r2
  obtain ⟨v4, vs4, d4, ds4, p4, q4, rfl, rfl, rfl, h4, r4⟩ := trodAll_cons r3
  obtain ⟨rfl, rfl, rfl⟩ := trodAll_nil r4
  obtain rfl : args = #[v0, v1, v2, v3, v4] := by cases args; simp_all
  obtain ⟨rfl, rfl⟩ := trodVars_none hV
  obtain ⟨a0, rfl, rfl, rfl, w0⟩ := open_int Try.underlying3 (hval 0 3 v0 rfl rfl) h0
  obtain ⟨a1, rfl, rfl, rfl, w1⟩ := open_int Try.underlying3 (hval 1 3 v1 rfl rfl) h1
  obtain ⟨a2, rfl, rfl, rfl, w2⟩ := open_int Try.underlying3 (hval 2 3 v2 rfl rfl) h2
  obtain ⟨a3, rfl, rfl, rfl, w3⟩ := open_int Try.underlying3 (hval 3 3 v3 rfl rfl) h3
  obtain ⟨a4, rfl, rfl, rfl, w4⟩ := open_int Try.underlying3 (hval 4 3 v4 rfl rfl) h4
  clear hA0 hval0
  refine (walk a0 a1 a2 a3 a4 W w0 w1 w2 w3 w4).mono fun e W' ⟨he, bel⟩ => ?_
  subst he
  exact ⟨_, rfl, _, _, _, [], _, [], hW', trodAll_mk1 (shut_bool Try.underlying4 _), (trodAll_cons_mk (shut_int Try.underlying3 w0) (trodAll_cons_mk (shut_int Try.underlying3 w1) (trodAll_cons_mk (shut_int Try.underlying3 w2) (trodAll_cons_mk (shut_int Try.underlying3 w3) (trodAll_cons_mk (shut_int Try.underlying3 w4) trodAll_mk0))))), rfl, bel.frame _, fun h => by cases h⟩

theorem civilAdds_holds : Rows.CivilAddsSaid :=
  OpenClaim.holds_of_wide 7 Try.f7 rfl rfl rfl rfl rfl rfl rfl ⟨rfl, rfl, rfl, rfl, rfl⟩ rfl rfl rfl rfl rfl (by kernel_rfl) Try.func7 (by kernel_rfl)
    (of_decide_eq_true (by kernel_rfl)) (by unfold Func.isWrapper; first | (rw [if_pos (by decide +kernel)]; kernel_rfl) | (rw [if_neg (by decide +kernel)]; exact ⟨rfl, rfl⟩))
    (fun os started H enc _ => lifted os started H enc)

end Go.Proofs.Ytokigbdnihamiaa
