/- The reference's Same: of two rows that are alike it answers true. -/
import Derived.Test.YtjocpbcmehicmaaDoorEach
import Derived.Test.YtjocpbcmehicmaaDoorCiExt
namespace Go.Proofs.YtjocpbcmehicmaaDoor
open Go.RowKit

set_option maxRecDepth 8000 in
set_option maxHeartbeats 8000000 in
theorem same_any (xs : List Rd) (v u : Value) (w : World) (hv : RA w v xs) (hu : RA w u xs) :
    Calls Tryd.prog 20 #[v, u] w fun e w' => e = .returned (.bool true) ∧ Below w.heap.size w w' := by
  obtain ⟨ad, cap, rfl, a1, a2, a3⟩ := hv.shape
  obtain ⟨ad2, cap2, rfl, b1, b2, _⟩ := hu.shape
  have HV := hid hv
  have HU := hid hu
  obtain ⟨n, hn⟩ : ∃ n, n = xs.length := ⟨_, rfl⟩
  have HN := hid hn
  rw [← hn] at a1 a3 b1 ⊢
  clear hv hu hn
  go_enter Tryd.func20, Tryd.ntmps20
  go_wp2
  go_loopw [5] (fun x wr => ∃ j : Nat, j ≤ n ∧ x = .int .i64 j ∧ Hid (Below w.heap.size w wr)) (fun x _ => n - (intOf x).toNat)
  case atStart => exact ⟨0, by omega, rfl, hid (Below.refl _ _)⟩
  case round =>
    obtain ⟨j, hj, rfl, HB⟩ := hrel
    by_cases hlt : j < n
    case neg =>
      obtain rfl : j = n := by omega
      go_wp2
      go_ret
      exact ⟨rfl, HB.out⟩
    case pos =>
      have hlt2 : (j : Int) < (n : Int) := by omega
      obtain ⟨b, o, c, e1, hb, hcs⟩ := HV.out.has (by rw [← HN.out]; omega)
      obtain ⟨b', o', c', e2, hb', hcs'⟩ := HU.out.has (by rw [← HN.out]; omega)
      injection e1 with e1a _ e1c
      injection e2 with e2a _ e2c
      subst e1a e1c e2a e2c
      obtain ⟨fv, p0, p1, p2, hia⟩ := hcs j (by rw [← HN.out]; exact hlt)
      obtain ⟨fu, q0, q1, q2, hia'⟩ := hcs' j (by rw [← HN.out]; exact hlt)
      clear hcs hcs'
      generalize xs.getD j nilRd = r at *
      obtain ⟨⟨k, f⟩, cost⟩ := r
      dsimp only at p0 p2 q0 q2 hia hia'
      have hs : ∀ s : Ci.Ext wr, Below w.heap.size w s.out := fun s => HB.out.trans (s.below.mono HB.out.size)
      have P0 := fun s : Ci.Ext wr => ((hs s).cell hb).trans p0
      have P1 := fun s : Ci.Ext wr => ((hs s).cell hb).trans p1
      have P2 := fun s : Ci.Ext wr => ((hs s).cell hb).trans p2
      have Q0 := fun s : Ci.Ext wr => ((hs s).cell hb').trans q0
      have Q1 := fun s : Ci.Ext wr => ((hs s).cell hb').trans q1
      have Q2 := fun s : Ci.Ext wr => ((hs s).cell hb').trans q2
      have HC := hid fun s : Ci.Ext wr => (rcmp_any ⟨k, f⟩ ⟨k, f⟩ (.agg #[.int .i64 k, fv]) (.agg #[.int .i64 k, fu]) s.out ⟨fv, rfl, (hia.on (hs s)).ib⟩ ⟨fu, rfl, (hia'.on (hs s)).ib⟩).mono (fun e w' h => (⟨by rw [h.1, cmpV_self], Ci.Ext.to s h.2⟩ : e = .returned (.int .i64 0) ∧ ∃ s' : Ci.Ext wr, w' = s'.out))
      have HSX := hid hs
      clear p0 p1 p2 q0 q1 q2 hs hia hia'
      go_wp2_with fail
      refine Ci.wp_region_ext2 (by kernel_rfl) (by kernel_rfl) (fun hne hcell => ?_)
      clear hcell
      repeat (go_big_quiet_step ((go_at_call 15; with_reducible exact HC.out _)))
      refine wpQuiet_nil ?_
      intro w7 hw7
      obtain ⟨s, rfl⟩ := hw7
      have HF := hid (HSX.out s)
      clear P0 P1 P2 Q0 Q1 Q2
      go_wp2
      go_round
      case rel => exact ⟨j + 1, by omega, by simp, HF⟩
      case measure => simp [intOf]; omega
end Go.Proofs.YtjocpbcmehicmaaDoor
