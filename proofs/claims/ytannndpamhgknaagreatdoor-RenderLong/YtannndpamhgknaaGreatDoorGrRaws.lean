/- Raw rules that come in, read as numbers; whether they are few. -/
import Derived.Test.YtannndpamhgknaaGreatDoorGrKnown
import Derived.Deep.Slices
import Derived.ChangeSlices
import Derived.WideShapes
namespace Go.Proofs.YtannndpamhgknaaGreatDoor.Gr
open Go.RowKit Go.ChangeShapes Go.WideShapes

/-- A raw rule, of numbers. -/
structure Raw where
  lhs : Int
  op : Int
  cost : Int
  rhs : List Int
  p : List Int
def nilRaw : Raw := ⟨0, 0, 0, [], []⟩
def wf64 (x : Int) : Prop := -9223372036854775808 ≤ x ∧ x ≤ 9223372036854775807
/-- The numbers of a raw rule fit an int. -/
def RawOk (r : Raw) : Prop := wf64 r.lhs ∧ wf64 r.op ∧ wf64 r.cost ∧ (∀ x ∈ r.rhs, wf64 x) ∧ ∀ x ∈ r.p, wf64 x
/-- A raw rule's five cells, from an address on. -/
def RawIn (w : World) (a : Addr) (k : Nat) (r : Raw) : Prop := ∃ sv pv, w.cell? (a.add k) = some (.int .i64 r.lhs) ∧ w.cell? ⟨(a.add k).block, (a.add k).off + 1, none⟩ = some (.int .i64 r.op) ∧ w.cell? ⟨(a.add k).block, (a.add k).off + 2, none⟩ = some (.int .i64 r.cost) ∧ w.cell? ⟨(a.add k).block, (a.add k).off + 3, none⟩ = some sv ∧ w.cell? ⟨(a.add k).block, (a.add k).off + 4, none⟩ = some pv ∧ Row w sv r.rhs ∧ Row w pv r.p ∧ RawOk r
theorem RawIn.on {w w' : World} {a : Addr} {k : Nat} {r : Raw} (h : RawIn w a k r) (hb : Below w.heap.size w w') : RawIn w' a k r := by
  obtain ⟨sv, pv, h0, h1, h2, h3, h4, h5, h6, h7⟩ := h
  exact ⟨sv, pv, (hb.cell (lt_of_cell h0)).trans h0, (hb.cell (lt_of_cell h1)).trans h1, (hb.cell (lt_of_cell h2)).trans h2, (hb.cell (lt_of_cell h3)).trans h3, (hb.cell (lt_of_cell h4)).trans h4, h5.on hb, h6.on hb, h7⟩
/-- A slice of raw rules. -/
def RawsAt (w : World) (v : Value) (l : List Raw) : Prop :=
  ∃ (ad : Option Addr) (cap : Nat), v = .slice ad l.length cap ∧ l.length ≤ maxLen ∧ ∀ j, j < l.length → ∃ a, ad = some a ∧ RawIn w a (j * 5) (l.getD j nilRaw)
theorem RawsAt.on {w w' : World} {v : Value} {l : List Raw} (h : RawsAt w v l) (hb : Below w.heap.size w w') : RawsAt w' v l := by
  obtain ⟨ad, cap, h1, h0, h2⟩ := h
  refine ⟨ad, cap, h1, h0, fun j hj => ?_⟩
  obtain ⟨a, h3, h4⟩ := h2 j hj
  exact ⟨a, h3, h4.on hb⟩
theorem raw_at {l : List Raw} {j : Nat} (h : j < l.length) : l[j]? = some (l.getD j nilRaw) := by
  rw [List.getD_eq_getElem?_getD, List.getElem?_eq_getElem h]; rfl
def fewRaw (r : Raw) : Bool := decide (r.rhs.length ≤ 20) && decide (r.p.length ≤ 20)
def few (l : List Raw) : Bool := l.all fewRaw && decide (l.length ≤ 80)

theorem few_any (l : List Raw) (v : Value) (w : World) (h : RawsAt w v l) : Calls Tryz.prog 27 #[v] w fun e w' => e = .returned (.bool (few l)) ∧ w' = w := by
  obtain ⟨ad, cap, rfl, hmx, hc⟩ := h
  have HC := hid hc
  unfold maxLen at hmx
  clear hc
  generalize hlen : l.length = n at *
  have HL := hid hlen
  clear hlen
  go_enter Tryz.func27, Tryz.ntmps27
  go_wp2
  go_loopw [3] (fun v wr => ∃ j : Nat, j ≤ n ∧ v = .int .i64 j ∧ Hid ((l.take j).all fewRaw = true) ∧ wr = w) (fun v _ => n - (intOf v).toNat)
  case atStart => exact ⟨0, by omega, rfl, hid (by simp), rfl⟩
  case round =>
    obtain ⟨j, hj, rfl, ht, rfl⟩ := hrel
    by_cases hlt : j < n
    · obtain ⟨a, rfl, sv, pv, c0, c1, c2, c3, c4, h5, h6, _⟩ := HC.out j hlt
      have HX : Hid (l[j]? = some (l.getD j nilRaw)) := hid (raw_at (by rw [HL.out]; exact hlt))
      generalize l.getD j nilRaw = r at *
      obtain ⟨ad1, cap1, rfl, m1, _⟩ := h5
      obtain ⟨ad2, cap2, rfl, m2, _⟩ := h6
      unfold maxLen at m1 m2
      have hlt2 : (j : Int) < (n : Int) := by omega
      by_cases k1 : 20 < (r.rhs.length : Int)
      · have HF : Hid (few l = false) := hid (by
          have e : fewRaw r = false := by simp [fewRaw]; omega
          have : l.all fewRaw = false := Bool.eq_false_iff.2 fun hh => by have := List.all_eq_true.1 hh r (List.mem_of_getElem? HX.out); rw [e] at this; cases this
          simp [few, this])
        go_wp2
        go_ret
        exact ⟨ret_bool HF.out.symm, rfl⟩
      · by_cases k2 : 20 < (r.p.length : Int)
        · have HF : Hid (few l = false) := hid (by
            have e : fewRaw r = false := by simp [fewRaw]; omega
            have : l.all fewRaw = false := Bool.eq_false_iff.2 fun hh => by have := List.all_eq_true.1 hh r (List.mem_of_getElem? HX.out); rw [e] at this; cases this
            simp [few, this])
          go_wp2
          go_ret
          exact ⟨ret_bool HF.out.symm, rfl⟩
        · have HF : Hid (fewRaw r = true) := hid (by simp [fewRaw]; omega)
          go_wp2
          go_roundw
          case rel => exact ⟨j + 1, by omega, by simp, hid (by rw [List.take_add_one, HX.out, List.all_append, ht.out]; simp [HF.out]), trivial⟩
          case measure => simp [intOf]; omega
    · obtain rfl : j = n := by omega
      have HALL : Hid (l.all fewRaw = true) := hid (by rw [← ht.out, ← HL.out, List.take_length])
      by_cases k1 : j ≤ 80
      · have HF : Hid (few l = true) := hid (by simp [few, HALL.out, HL.out, k1])
        go_wp2
        go_ret
        exact ⟨ret_bool (by rw [HF.out]; simp; omega), rfl⟩
      · have HF : Hid (few l = false) := hid (by simp [few, HL.out, k1])
        go_wp2
        go_ret
        exact ⟨ret_bool (by rw [HF.out]; simp; omega), rfl⟩

end Go.Proofs.YtannndpamhgknaaGreatDoor.Gr
