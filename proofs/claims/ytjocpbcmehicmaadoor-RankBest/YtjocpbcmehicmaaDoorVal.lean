/- law8.Value: values of any kind, by numbers. -/
import Derived.Test.YtjocpbcmehicmaaDoorVMk
import Derived.Test.YtjocpbcmehicmaaDoorCiBase
import Derived.Test.YtjocpbcmehicmaaDoorOwn
import Derived.Test.YtjocpbcmehicmaaDoorArgs2
namespace Go.Proofs.YtjocpbcmehicmaaDoor
open Go.RowKit

set_option maxHeartbeats 1000000 in
theorem lwithin_any (a n : Int) (w : World) (h : 0 < n) (h1 : n ≤ 9223372036854775807) (_ha : -9223372036854775808 ≤ a) (_hb : a ≤ 9223372036854775807) :
    Calls Tryd.prog 40 #[.int .i64 a, .int .i64 n] w fun e w' => e = .returned (.int .i64 (a % n)) ∧ w' = w := by
  have HE := hid (emod_of_tmod a n h)
  have h2 := Int.tmod_lt_of_pos a h
  have h3 := Int.tmod_lt_of_pos (-a) h
  rw [Int.neg_tmod] at h3
  have hn0 : n ≠ 0 := by omega
  by_cases hk : a.tmod n < 0
  case pos =>
    have HE := hid (HE.out.trans (if_pos hk))
    generalize a % n = z at *
    go_enter Tryd.func40, Tryd.ntmps40
    go_wp2
    go_ret
    exact ⟨ret_int HE.out.symm, rfl⟩
  case neg =>
    have HE := hid (HE.out.trans (if_neg hk))
    generalize a % n = z at *
    go_enter Tryd.func40, Tryd.ntmps40
    go_wp2
    go_ret
    exact ⟨ret_int HE.out.symm, rfl⟩


def NV (B : Nat) (w : World) (v : Value) (x : Val) : Prop := ∃ fv, v = .agg #[.int .i64 x.kind, fv] ∧ NA B w fv x.f
theorem NV.va {B : Nat} {w : World} {v : Value} {x : Val} (h : NV B w v x) : VA w v x := by
  obtain ⟨fv, h1, h2⟩ := h
  exact ⟨fv, h1, h2.ia.ib⟩
theorem NV.on {B : Nat} {w w' : World} {v : Value} {x : Val} (h : NV B w v x) (hb : Below w.heap.size w w') : NV B w' v x := by
  obtain ⟨fv, h1, h2⟩ := h
  exact ⟨fv, h1, h2.on hb⟩
theorem vi_mk {k : Int} {l : List Int} (hk : I64 k) (h : ∀ z ∈ l, I64 z) : VI ⟨k, l⟩ := ⟨hk, h⟩
theorem day_bd (n : Int) : (1 ≤ Ci.dayY n false ∧ Ci.dayY n false ≤ 9999) ∧ (1 ≤ Ci.dayM n ∧ Ci.dayM n ≤ 12) ∧ (1 ≤ Ci.dayD n false ∧ Ci.dayD n false ≤ 31) := by
  have v := (Ci.Civ.vld_iff _ _ _).1 (Ci.day_vld n false)
  have := Ci.len_le (Ci.dayY n false) (Ci.dayM n)
  exact ⟨Ci.dayY_narrow n, ⟨v.1, v.2.1⟩, v.2.2.1, by omega⟩
theorem NA.at {B : Nat} {w : World} {g : Nat} {t : TypeId} (xs : List Int) (h : w.heap[g]? = some (.cells (xs.map (fun x => Value.int .i64 x)).toArray t (0, 0))) (hB : B ≤ g) (hm : xs.length ≤ 1000) : NA B w (.slice (some ⟨g, 0, none⟩) xs.length xs.length) xs :=
  .inr ⟨g, xs.length, _, t, rfl, ⟨by omega, Nat.le_refl _, by unfold maxLen; omega⟩, hB, h, fun j hj => by simp [List.getElem?_eq_getElem hj]⟩
/-- What Value tells: one that may be, of its kind, the same in whatever world. -/
def ValueOk (kind a b : Int) : Prop := ∃ x : Val, x.kind = 4 + kind % 7 ∧ (VI x ∧ x.f.length ≤ 6) ∧ ∀ w, Calls Tryd.prog 21 #[.int .i64 kind, .int .i64 a, .int .i64 b] w fun e w' => ∃ u, e = .returned u ∧ NV w.heap.size w' u x ∧ Below w.heap.size w w'
def i64 (n : Int) : Prop := -9223372036854775808 ≤ n ∧ n ≤ 9223372036854775807
theorem td24 (n : Int) (h : i64 n) : i64 (n.tdiv 24) := by
  unfold i64 at *
  by_cases h' : 0 ≤ n
  · rw [Int.tdiv_eq_ediv_of_nonneg h']; omega
  · have e : n.tdiv 24 = -((-n).tdiv 24) := by rw [Int.neg_tdiv]; omega
    rw [e, Int.tdiv_eq_ediv_of_nonneg (by omega)]; omega
theorem td1440 (n : Int) (h : i64 n) : i64 (n.tdiv 1440) := by
  unfold i64 at *
  by_cases h' : 0 ≤ n
  · rw [Int.tdiv_eq_ediv_of_nonneg h']; omega
  · have e : n.tdiv 1440 = -((-n).tdiv 1440) := by rw [Int.neg_tdiv]; omega
    rw [e, Int.tdiv_eq_ediv_of_nonneg (by omega)]; omega

set_option maxRecDepth 8000 in
set_option maxHeartbeats 4000000 in
theorem value_4 (kind a b : Int) (hkb : i64 kind) (ha : i64 a) (hb : i64 b) (hk : kind % 7 = 0) : ValueOk kind a b := by
  have HA := hid fun w => Ci.day_any a false w ha.1 ha.2
  have HBd := hid fun w => Ci.day_any b false w hb.1 hb.2
  have H7 := hid fun w => lwithin_any kind 7 w (by decide) (by decide) hkb.1 hkb.2
  rw [hk] at H7
  have hd := day_bd a
  generalize Ci.dayY a false = y at *
  generalize Ci.dayM a = m at *
  generalize Ci.dayD a false = d at *
  refine ⟨⟨4, [y, m, d]⟩, by rw [hk]; rfl, ⟨vi_mk ⟨by decide, by decide⟩ (fun z hz => by simp only [List.mem_cons, List.mem_nil_iff, or_false] at hz; unfold I64; omega), by simp⟩, fun w => ?_⟩
  obtain ⟨w2, hw2⟩ : ∃ w2, w2 = ((w.alloc (.cells #[.int .i64 4, .slice (some ⟨w.heap.size + 1 + 1, 0, none⟩) 3 3] 24)).alloc (.cells #[.int .i64 4, .slice (some ⟨w.heap.size + 1 + 1, 0, none⟩) 3 3] 24)).alloc (.cells #[.int .i64 (y), .int .i64 (m), .int .i64 (d)] 3) := ⟨_, rfl⟩
  obtain ⟨hc, hb, hsw2⟩ := chain_heap w [.cells #[.int .i64 4, .slice (some ⟨w.heap.size + 1 + 1, 0, none⟩) 3 3] 24, .cells #[.int .i64 4, .slice (some ⟨w.heap.size + 1 + 1, 0, none⟩) 3 3] 24, .cells #[.int .i64 (y), .int .i64 (m), .int .i64 (d)] 3]
  simp only [List.foldl_cons, List.foldl_nil] at hc hb hsw2
  rw [← hw2] at hc hb hsw2
  have hw2_0 := hid (show w2.heap[w.heap.size]? = some _ from hc 0 _ rfl)
  have hw2_1 := hid (hc 1 _ rfl)
  have hw2_2 := hid (hc 2 _ rfl)
  have HBw2 := hid hb
  have Hsw2 := hid (show w2.heap.size = w.heap.size + 3 from hsw2)
  clear hc hb hsw2
  have HN : Hid (NV w.heap.size w2 (.agg #[.int .i64 4, .slice (some ⟨w.heap.size + 1 + 1, 0, none⟩) 3 3]) ⟨4, [y, m, d]⟩) := hid ⟨_, rfl, NA.at [y, m, d] hw2_2.out (by omega) (by simp)⟩
  go_enter Tryd.func21, Tryd.ntmps21
  go_wp2_with fail
  refine (HA.out _).mono ?_
  rintro e wn ⟨rfl, hw⟩
  obtain rfl := hw.symm
  clear hw
  go_wp2_with fail
  refine (HBd.out _).mono ?_
  rintro e wn ⟨rfl, hw⟩
  obtain rfl := hw.symm
  clear hw
  go_wp2_with fail
  refine (H7.out _).mono ?_
  rintro e wn ⟨rfl, hw⟩
  obtain rfl := hw.symm
  clear hw
  go_wp2
  rw [← hw2]
  exact bodyPost_ret (v := .agg #[.int .i64 4, .slice (some ⟨w.heap.size + 1 + 1, 0, none⟩) 3 3]) (results_cell_row rfl _ _ w.heap.size 24 _ (0, 0) _ rfl hw2_0.out Tryd.underlying24 rfl (by kernel_rfl)) rfl ⟨_, rfl, HN.out, HBw2.out⟩

set_option maxRecDepth 8000 in
set_option maxHeartbeats 4000000 in
theorem value_5 (kind a b : Int) (hkb : i64 kind) (ha : i64 a) (hb : i64 b) (hk : kind % 7 = 1) : ValueOk kind a b := by
  have HA := hid fun w => Ci.day_any a false w ha.1 ha.2
  have HBd := hid fun w => Ci.day_any b false w hb.1 hb.2
  have H7 := hid fun w => lwithin_any kind 7 w (by decide) (by decide) hkb.1 hkb.2
  rw [hk] at H7
  have W1 := hid fun w => lwithin_any a 24 w (by decide) (by decide) ha.1 ha.2
  have W2 := hid fun w => lwithin_any b 60 w (by decide) (by decide) hb.1 hb.2
  have W3 := hid fun w => lwithin_any (a.tdiv 24) 60 w (by decide) (by decide) (td24 a ha).1 (td24 a ha).2
  have hcl : (0 ≤ a % 24 ∧ a % 24 ≤ 23) ∧ (0 ≤ b % 60 ∧ b % 60 ≤ 59) ∧ (0 ≤ a.tdiv 24 % 60 ∧ a.tdiv 24 % 60 ≤ 59) := by omega
  generalize a % 24 = h at *
  generalize b % 60 = i at *
  generalize a.tdiv 24 % 60 = s at *
  have u1 : -9223372036854775808 ≤ a.tdiv 24 ∧ a.tdiv 24 ≤ 9223372036854775807 := td24 a ha
  obtain ⟨u3, u4⟩ := u1
  unfold i64 at ha hb
  obtain ⟨ha1, ha2⟩ := ha
  obtain ⟨hb1, hb2⟩ := hb
  refine ⟨⟨5, [h, i, s]⟩, by rw [hk]; rfl, ⟨vi_mk ⟨by decide, by decide⟩ (fun z hz => by simp only [List.mem_cons, List.mem_nil_iff, or_false] at hz; unfold I64; omega), by simp⟩, fun w => ?_⟩
  obtain ⟨w2, hw2⟩ : ∃ w2, w2 = ((w.alloc (.cells #[.int .i64 5, .slice (some ⟨w.heap.size + 1 + 1, 0, none⟩) 3 3] 24)).alloc (.cells #[.int .i64 5, .slice (some ⟨w.heap.size + 1 + 1, 0, none⟩) 3 3] 24)).alloc (.cells #[.int .i64 (h), .int .i64 (i), .int .i64 (s)] 3) := ⟨_, rfl⟩
  obtain ⟨hc, hb, hsw2⟩ := chain_heap w [.cells #[.int .i64 5, .slice (some ⟨w.heap.size + 1 + 1, 0, none⟩) 3 3] 24, .cells #[.int .i64 5, .slice (some ⟨w.heap.size + 1 + 1, 0, none⟩) 3 3] 24, .cells #[.int .i64 (h), .int .i64 (i), .int .i64 (s)] 3]
  simp only [List.foldl_cons, List.foldl_nil] at hc hb hsw2
  rw [← hw2] at hc hb hsw2
  have hw2_0 := hid (show w2.heap[w.heap.size]? = some _ from hc 0 _ rfl)
  have hw2_1 := hid (hc 1 _ rfl)
  have hw2_2 := hid (hc 2 _ rfl)
  have HBw2 := hid hb
  have Hsw2 := hid (show w2.heap.size = w.heap.size + 3 from hsw2)
  clear hc hb hsw2
  have HN : Hid (NV w.heap.size w2 (.agg #[.int .i64 5, .slice (some ⟨w.heap.size + 1 + 1, 0, none⟩) 3 3]) ⟨5, [h, i, s]⟩) := hid ⟨_, rfl, NA.at [h, i, s] hw2_2.out (by omega) (by simp)⟩
  go_enter Tryd.func21, Tryd.ntmps21
  go_wp2_with fail
  refine (HA.out _).mono ?_
  rintro e wn ⟨rfl, hw⟩
  obtain rfl := hw.symm
  clear hw
  go_wp2_with fail
  refine (HBd.out _).mono ?_
  rintro e wn ⟨rfl, hw⟩
  obtain rfl := hw.symm
  clear hw
  go_wp2_with fail
  refine (H7.out _).mono ?_
  rintro e wn ⟨rfl, hw⟩
  obtain rfl := hw.symm
  clear hw
  go_wp2_with fail
  refine (W1.out _).mono ?_
  rintro e wn ⟨rfl, hw⟩
  obtain rfl := hw.symm
  clear hw
  go_wp2_with fail
  refine (W2.out _).mono ?_
  rintro e wn ⟨rfl, hw⟩
  obtain rfl := hw.symm
  clear hw
  go_wp2_with fail
  refine (W3.out _).mono ?_
  rintro e wn ⟨rfl, hw⟩
  obtain rfl := hw.symm
  clear hw
  go_wp2
  rw [← hw2]
  exact bodyPost_ret (v := .agg #[.int .i64 5, .slice (some ⟨w.heap.size + 1 + 1, 0, none⟩) 3 3]) (results_cell_row rfl _ _ w.heap.size 24 _ (0, 0) _ rfl hw2_0.out Tryd.underlying24 rfl (by kernel_rfl)) rfl ⟨_, rfl, HN.out, HBw2.out⟩

set_option maxRecDepth 8000 in
set_option maxHeartbeats 4000000 in
theorem value_6 (kind a b : Int) (hkb : i64 kind) (ha : i64 a) (hb : i64 b) (hk : kind % 7 = 2) : ValueOk kind a b := by
  have HA := hid fun w => Ci.day_any a false w ha.1 ha.2
  have HBd := hid fun w => Ci.day_any b false w hb.1 hb.2
  have H7 := hid fun w => lwithin_any kind 7 w (by decide) (by decide) hkb.1 hkb.2
  rw [hk] at H7
  have W1 := hid fun w => lwithin_any b 24 w (by decide) (by decide) hb.1 hb.2
  have W2 := hid fun w => lwithin_any (b.tdiv 24) 60 w (by decide) (by decide) (td24 b hb).1 (td24 b hb).2
  have W3 := hid fun w => lwithin_any (b.tdiv 1440) 60 w (by decide) (by decide) (td1440 b hb).1 (td1440 b hb).2
  have hcl : (0 ≤ b % 24 ∧ b % 24 ≤ 23) ∧ (0 ≤ b.tdiv 24 % 60 ∧ b.tdiv 24 % 60 ≤ 59) ∧ (0 ≤ b.tdiv 1440 % 60 ∧ b.tdiv 1440 % 60 ≤ 59) := by omega
  generalize b % 24 = h at *
  generalize b.tdiv 24 % 60 = i at *
  generalize b.tdiv 1440 % 60 = s at *
  have hd := day_bd a
  generalize Ci.dayY a false = y at *
  generalize Ci.dayM a = m at *
  generalize Ci.dayD a false = d at *
  have u1 : -9223372036854775808 ≤ b.tdiv 24 ∧ b.tdiv 24 ≤ 9223372036854775807 := td24 b hb
  have u2 : -9223372036854775808 ≤ b.tdiv 1440 ∧ b.tdiv 1440 ≤ 9223372036854775807 := td1440 b hb
  obtain ⟨u3, u4⟩ := u1
  obtain ⟨u5, u6⟩ := u2
  unfold i64 at ha hb
  obtain ⟨ha1, ha2⟩ := ha
  obtain ⟨hb1, hb2⟩ := hb
  refine ⟨⟨6, [y, m, d, h, i, s]⟩, by rw [hk]; rfl, ⟨vi_mk ⟨by decide, by decide⟩ (fun z hz => by simp only [List.mem_cons, List.mem_nil_iff, or_false] at hz; unfold I64; omega), by simp⟩, fun w => ?_⟩
  obtain ⟨w2, hw2⟩ : ∃ w2, w2 = ((w.alloc (.cells #[.int .i64 6, .slice (some ⟨w.heap.size + 1 + 1, 0, none⟩) 6 6] 24)).alloc (.cells #[.int .i64 6, .slice (some ⟨w.heap.size + 1 + 1, 0, none⟩) 6 6] 24)).alloc (.cells #[.int .i64 (y), .int .i64 (m), .int .i64 (d), .int .i64 (h), .int .i64 (i), .int .i64 (s)] 3) := ⟨_, rfl⟩
  obtain ⟨hc, hb, hsw2⟩ := chain_heap w [.cells #[.int .i64 6, .slice (some ⟨w.heap.size + 1 + 1, 0, none⟩) 6 6] 24, .cells #[.int .i64 6, .slice (some ⟨w.heap.size + 1 + 1, 0, none⟩) 6 6] 24, .cells #[.int .i64 (y), .int .i64 (m), .int .i64 (d), .int .i64 (h), .int .i64 (i), .int .i64 (s)] 3]
  simp only [List.foldl_cons, List.foldl_nil] at hc hb hsw2
  rw [← hw2] at hc hb hsw2
  have hw2_0 := hid (show w2.heap[w.heap.size]? = some _ from hc 0 _ rfl)
  have hw2_1 := hid (hc 1 _ rfl)
  have hw2_2 := hid (hc 2 _ rfl)
  have HBw2 := hid hb
  have Hsw2 := hid (show w2.heap.size = w.heap.size + 3 from hsw2)
  clear hc hb hsw2
  have HN : Hid (NV w.heap.size w2 (.agg #[.int .i64 6, .slice (some ⟨w.heap.size + 1 + 1, 0, none⟩) 6 6]) ⟨6, [y, m, d, h, i, s]⟩) := hid ⟨_, rfl, NA.at [y, m, d, h, i, s] hw2_2.out (by omega) (by simp)⟩
  go_enter Tryd.func21, Tryd.ntmps21
  go_wp2_with fail
  refine (HA.out _).mono ?_
  rintro e wn ⟨rfl, hw⟩
  obtain rfl := hw.symm
  clear hw
  go_wp2_with fail
  refine (HBd.out _).mono ?_
  rintro e wn ⟨rfl, hw⟩
  obtain rfl := hw.symm
  clear hw
  go_wp2_with fail
  refine (H7.out _).mono ?_
  rintro e wn ⟨rfl, hw⟩
  obtain rfl := hw.symm
  clear hw
  go_wp2_with fail
  refine (W1.out _).mono ?_
  rintro e wn ⟨rfl, hw⟩
  obtain rfl := hw.symm
  clear hw
  go_wp2_with fail
  refine (W2.out _).mono ?_
  rintro e wn ⟨rfl, hw⟩
  obtain rfl := hw.symm
  clear hw
  go_wp2_with fail
  refine (W3.out _).mono ?_
  rintro e wn ⟨rfl, hw⟩
  obtain rfl := hw.symm
  clear hw
  go_wp2
  rw [← hw2]
  exact bodyPost_ret (v := .agg #[.int .i64 6, .slice (some ⟨w.heap.size + 1 + 1, 0, none⟩) 6 6]) (results_cell_row rfl _ _ w.heap.size 24 _ (0, 0) _ rfl hw2_0.out Tryd.underlying24 rfl (by kernel_rfl)) rfl ⟨_, rfl, HN.out, HBw2.out⟩

set_option maxRecDepth 8000 in
set_option maxHeartbeats 4000000 in
theorem value_8 (kind a b : Int) (hkb : i64 kind) (ha : i64 a) (hb : i64 b) (hk : kind % 7 = 4) : ValueOk kind a b := by
  have HA := hid fun w => Ci.day_any a false w ha.1 ha.2
  have HBd := hid fun w => Ci.day_any b false w hb.1 hb.2
  have H7 := hid fun w => lwithin_any kind 7 w (by decide) (by decide) hkb.1 hkb.2
  rw [hk] at H7
  have W1 := hid fun w => lwithin_any b 1000 w (by decide) (by decide) hb.1 hb.2
  have W2 := hid fun w => lwithin_any b 3 w (by decide) (by decide) hb.1 hb.2
  have hp : 0 ≤ b % 1000 ∧ b % 1000 ≤ 999 := by omega
  have hq : 0 ≤ b % 3 ∧ b % 3 ≤ 2 := by omega
  have hr : -999999999999 ≤ a.tmod 1000000000000 ∧ a.tmod 1000000000000 ≤ 999999999999 := by have h2 := Int.tmod_lt_of_pos a (show (0 : Int) < 1000000000000 by decide); have h3 := Int.tmod_lt_of_pos (-a) (show (0 : Int) < 1000000000000 by decide); rw [Int.neg_tmod] at h3; omega
  generalize b % 1000 = p at *
  generalize b % 3 = q at *
  generalize hrr : a.tmod 1000000000000 = r at *
  obtain ⟨hp0, hp1⟩ := hp
  obtain ⟨hq0, hq1⟩ := hq
  refine ⟨⟨8, [10 * p + q, r]⟩, by rw [hk]; rfl, ⟨vi_mk ⟨by decide, by decide⟩ (fun z hz => by simp only [List.mem_cons, List.mem_nil_iff, or_false] at hz; unfold I64; omega), by simp⟩, fun w => ?_⟩
  obtain ⟨w2, hw2⟩ : ∃ w2, w2 = ((w.alloc (.cells #[.int .i64 8, .slice (some ⟨w.heap.size + 1 + 1, 0, none⟩) 2 2] 24)).alloc (.cells #[.int .i64 8, .slice (some ⟨w.heap.size + 1 + 1, 0, none⟩) 2 2] 24)).alloc (.cells #[.int .i64 (10 * p + q), .int .i64 (r)] 3) := ⟨_, rfl⟩
  obtain ⟨hc, hb, hsw2⟩ := chain_heap w [.cells #[.int .i64 8, .slice (some ⟨w.heap.size + 1 + 1, 0, none⟩) 2 2] 24, .cells #[.int .i64 8, .slice (some ⟨w.heap.size + 1 + 1, 0, none⟩) 2 2] 24, .cells #[.int .i64 (10 * p + q), .int .i64 (r)] 3]
  simp only [List.foldl_cons, List.foldl_nil] at hc hb hsw2
  rw [← hw2] at hc hb hsw2
  have hw2_0 := hid (show w2.heap[w.heap.size]? = some _ from hc 0 _ rfl)
  have hw2_1 := hid (hc 1 _ rfl)
  have hw2_2 := hid (hc 2 _ rfl)
  have HBw2 := hid hb
  have Hsw2 := hid (show w2.heap.size = w.heap.size + 3 from hsw2)
  clear hc hb hsw2
  have HN : Hid (NV w.heap.size w2 (.agg #[.int .i64 8, .slice (some ⟨w.heap.size + 1 + 1, 0, none⟩) 2 2]) ⟨8, [10 * p + q, r]⟩) := hid ⟨_, rfl, NA.at [10 * p + q, r] hw2_2.out (by omega) (by simp)⟩
  go_enter Tryd.func21, Tryd.ntmps21
  go_wp2_with fail
  refine (HA.out _).mono ?_
  rintro e wn ⟨rfl, hw⟩
  obtain rfl := hw.symm
  clear hw
  go_wp2_with fail
  refine (HBd.out _).mono ?_
  rintro e wn ⟨rfl, hw⟩
  obtain rfl := hw.symm
  clear hw
  go_wp2_with fail
  refine (H7.out _).mono ?_
  rintro e wn ⟨rfl, hw⟩
  obtain rfl := hw.symm
  clear hw
  go_wp2_with fail
  refine (W1.out _).mono ?_
  rintro e wn ⟨rfl, hw⟩
  obtain rfl := hw.symm
  clear hw
  go_wp2_with fail
  refine (W2.out _).mono ?_
  rintro e wn ⟨rfl, hw⟩
  obtain rfl := hw.symm
  clear hw
  go_wp2
  rw [← hw2]
  exact bodyPost_ret (v := .agg #[.int .i64 8, .slice (some ⟨w.heap.size + 1 + 1, 0, none⟩) 2 2]) (results_cell_row rfl _ _ w.heap.size 24 _ (0, 0) _ rfl hw2_0.out Tryd.underlying24 rfl (by kernel_rfl)) rfl ⟨_, rfl, HN.out, HBw2.out⟩

set_option maxRecDepth 8000 in
set_option maxHeartbeats 4000000 in
theorem value_9 (kind a b : Int) (hkb : i64 kind) (ha : i64 a) (hb : i64 b) (hk : kind % 7 = 5) : ValueOk kind a b := by
  have HA := hid fun w => Ci.day_any a false w ha.1 ha.2
  have HBd := hid fun w => Ci.day_any b false w hb.1 hb.2
  have H7 := hid fun w => lwithin_any kind 7 w (by decide) (by decide) hkb.1 hkb.2
  rw [hk] at H7
  have W1 := hid fun w => lwithin_any a 9007199254740992 w (by decide) (by decide) ha.1 ha.2
  have hn : 0 ≤ a % 9007199254740992 ∧ a % 9007199254740992 ≤ 9007199254740991 := by omega
  generalize a % 9007199254740992 = n at *
  refine ⟨⟨9, [n]⟩, by rw [hk]; rfl, ⟨vi_mk ⟨by decide, by decide⟩ (fun z hz => by simp only [List.mem_cons, List.mem_nil_iff, or_false] at hz; unfold I64; omega), by simp⟩, fun w => ?_⟩
  obtain ⟨w2, hw2⟩ : ∃ w2, w2 = ((w.alloc (.cells #[.int .i64 9, .slice (some ⟨w.heap.size + 1 + 1, 0, none⟩) 1 1] 24)).alloc (.cells #[.int .i64 9, .slice (some ⟨w.heap.size + 1 + 1, 0, none⟩) 1 1] 24)).alloc (.cells #[.int .i64 (n)] 3) := ⟨_, rfl⟩
  obtain ⟨hc, hb, hsw2⟩ := chain_heap w [.cells #[.int .i64 9, .slice (some ⟨w.heap.size + 1 + 1, 0, none⟩) 1 1] 24, .cells #[.int .i64 9, .slice (some ⟨w.heap.size + 1 + 1, 0, none⟩) 1 1] 24, .cells #[.int .i64 (n)] 3]
  simp only [List.foldl_cons, List.foldl_nil] at hc hb hsw2
  rw [← hw2] at hc hb hsw2
  have hw2_0 := hid (show w2.heap[w.heap.size]? = some _ from hc 0 _ rfl)
  have hw2_1 := hid (hc 1 _ rfl)
  have hw2_2 := hid (hc 2 _ rfl)
  have HBw2 := hid hb
  have Hsw2 := hid (show w2.heap.size = w.heap.size + 3 from hsw2)
  clear hc hb hsw2
  have HN : Hid (NV w.heap.size w2 (.agg #[.int .i64 9, .slice (some ⟨w.heap.size + 1 + 1, 0, none⟩) 1 1]) ⟨9, [n]⟩) := hid ⟨_, rfl, NA.at [n] hw2_2.out (by omega) (by simp)⟩
  go_enter Tryd.func21, Tryd.ntmps21
  go_wp2_with fail
  refine (HA.out _).mono ?_
  rintro e wn ⟨rfl, hw⟩
  obtain rfl := hw.symm
  clear hw
  go_wp2_with fail
  refine (HBd.out _).mono ?_
  rintro e wn ⟨rfl, hw⟩
  obtain rfl := hw.symm
  clear hw
  go_wp2_with fail
  refine (H7.out _).mono ?_
  rintro e wn ⟨rfl, hw⟩
  obtain rfl := hw.symm
  clear hw
  go_wp2_with fail
  refine (W1.out _).mono ?_
  rintro e wn ⟨rfl, hw⟩
  obtain rfl := hw.symm
  clear hw
  go_wp2
  rw [← hw2]
  exact bodyPost_ret (v := .agg #[.int .i64 9, .slice (some ⟨w.heap.size + 1 + 1, 0, none⟩) 1 1]) (results_cell_row rfl _ _ w.heap.size 24 _ (0, 0) _ rfl hw2_0.out Tryd.underlying24 rfl (by kernel_rfl)) rfl ⟨_, rfl, HN.out, HBw2.out⟩

set_option maxRecDepth 8000 in
set_option maxHeartbeats 4000000 in
theorem value_10 (kind a b : Int) (hkb : i64 kind) (ha : i64 a) (hb : i64 b) (hk : kind % 7 = 6) : ValueOk kind a b := by
  have HA := hid fun w => Ci.day_any a false w ha.1 ha.2
  have HBd := hid fun w => Ci.day_any b false w hb.1 hb.2
  have H7 := hid fun w => lwithin_any kind 7 w (by decide) (by decide) hkb.1 hkb.2
  rw [hk] at H7
  have hd1 := day_bd a
  have hd2 := day_bd b
  have v1 := Ci.day_vld a false
  have v2 := Ci.day_vld b false
  have y1 := Ci.dayY_narrow a
  have y2 := Ci.dayY_narrow b
  generalize Ci.dayY a false = y at *
  generalize Ci.dayM a = m at *
  generalize Ci.dayD a false = d at *
  generalize Ci.dayY b false = yb at *
  generalize Ci.dayM b = mb at *
  generalize Ci.dayD b false = db at *
  have HD := hid fun (x y t : Int) (w : World) (hm : Ci.Civ.vld x y t = true) (hy : 1 ≤ x ∧ x ≤ 9999) => (show Calls Tryd.prog 42 #[.int .i64 x, .int .i64 y, .int .i64 t] w _ from Ci.rdays_any x y t w (by omega) (by omega) ((Ci.Civ.vld_iff _ _ _).1 hm).1 ((Ci.Civ.vld_iff _ _ _).1 hm).2.1 ((Ci.Civ.vld_iff _ _ _).1 hm).2.2.1 (by have := ((Ci.Civ.vld_iff _ _ _).1 hm).2.2.2; have := Ci.len_le x y; omega))
  have D1 := hid fun w => HD.out y m d w v1 y1
  have D2 := hid fun w => HD.out yb mb db w v2 y2
  clear HD
  generalize hN1 : Ci.Civ.num y m d = N1 at *
  generalize hN2 : Ci.Civ.num yb mb db = N2 at *
  by_cases hq : N2 < N1
  case pos =>
    clear hN1 hN2
    refine ⟨⟨10, [yb, mb, db, y, m, d]⟩, by rw [hk]; rfl, ⟨vi_mk ⟨by decide, by decide⟩ (fun z hz => by simp only [List.mem_cons, List.mem_nil_iff, or_false] at hz; unfold I64; omega), by simp⟩, fun w => ?_⟩
    obtain ⟨w2, hw2⟩ : ∃ w2, w2 = (((w.alloc (.cells #[.int .i64 10, .slice (some ⟨w.heap.size + 1 + 1 + 1, 0, none⟩) 6 6] 24)).alloc (.cells #[.int .i64 10, .slice (some ⟨w.heap.size + 1 + 1 + 1, 0, none⟩) 6 6] 24)).alloc (.cells #[.int .i64 (y), .int .i64 (m), .int .i64 (d), .int .i64 (yb), .int .i64 (mb), .int .i64 (db)] 3)).alloc (.cells #[.int .i64 (yb), .int .i64 (mb), .int .i64 (db), .int .i64 (y), .int .i64 (m), .int .i64 (d)] 3) := ⟨_, rfl⟩
    obtain ⟨hc, hb, hsw2⟩ := chain_heap w [.cells #[.int .i64 10, .slice (some ⟨w.heap.size + 1 + 1 + 1, 0, none⟩) 6 6] 24, .cells #[.int .i64 10, .slice (some ⟨w.heap.size + 1 + 1 + 1, 0, none⟩) 6 6] 24, .cells #[.int .i64 (y), .int .i64 (m), .int .i64 (d), .int .i64 (yb), .int .i64 (mb), .int .i64 (db)] 3, .cells #[.int .i64 (yb), .int .i64 (mb), .int .i64 (db), .int .i64 (y), .int .i64 (m), .int .i64 (d)] 3]
    simp only [List.foldl_cons, List.foldl_nil] at hc hb hsw2
    rw [← hw2] at hc hb hsw2
    have hw2_0 := hid (show w2.heap[w.heap.size]? = some _ from hc 0 _ rfl)
    have hw2_1 := hid (hc 1 _ rfl)
    have hw2_2 := hid (hc 2 _ rfl)
    have hw2_3 := hid (hc 3 _ rfl)
    have HBw2 := hid hb
    have Hsw2 := hid (show w2.heap.size = w.heap.size + 4 from hsw2)
    clear hc hb hsw2
    have HN : Hid (NV w.heap.size w2 (.agg #[.int .i64 10, .slice (some ⟨w.heap.size + 1 + 1 + 1, 0, none⟩) 6 6]) ⟨10, [yb, mb, db, y, m, d]⟩) := hid ⟨_, rfl, NA.at [yb, mb, db, y, m, d] hw2_3.out (by omega) (by simp)⟩
    clear hd1 hd2 v1 v2
    go_enter Tryd.func21, Tryd.ntmps21
    go_wp2_with fail
    refine (HA.out _).mono ?_
    rintro e wn ⟨rfl, hw⟩
    obtain rfl := hw.symm
    clear hw
    go_wp2_with fail
    refine (HBd.out _).mono ?_
    rintro e wn ⟨rfl, hw⟩
    obtain rfl := hw.symm
    clear hw
    go_wp2_with fail
    refine (H7.out _).mono ?_
    rintro e wn ⟨rfl, hw⟩
    obtain rfl := hw.symm
    clear hw
    go_wp2_with fail
    refine (D1.out _).mono ?_
    rintro e wn ⟨rfl, hw⟩
    obtain rfl := hw.symm
    clear hw
    go_wp2_with fail
    refine (D2.out _).mono ?_
    rintro e wn ⟨rfl, hw⟩
    obtain rfl := hw.symm
    clear hw
    go_wp2
    rw [← hw2]
    exact bodyPost_ret (v := .agg #[.int .i64 10, .slice (some ⟨w.heap.size + 1 + 1 + 1, 0, none⟩) 6 6]) (results_cell_row rfl _ _ w.heap.size 24 _ (0, 0) _ rfl hw2_0.out Tryd.underlying24 rfl (by kernel_rfl)) rfl ⟨_, rfl, HN.out, HBw2.out⟩
  case neg =>
    clear hN1 hN2
    refine ⟨⟨10, [y, m, d, yb, mb, db]⟩, by rw [hk]; rfl, ⟨vi_mk ⟨by decide, by decide⟩ (fun z hz => by simp only [List.mem_cons, List.mem_nil_iff, or_false] at hz; unfold I64; omega), by simp⟩, fun w => ?_⟩
    obtain ⟨w2, hw2⟩ : ∃ w2, w2 = ((w.alloc (.cells #[.int .i64 10, .slice (some ⟨w.heap.size + 1 + 1, 0, none⟩) 6 6] 24)).alloc (.cells #[.int .i64 10, .slice (some ⟨w.heap.size + 1 + 1, 0, none⟩) 6 6] 24)).alloc (.cells #[.int .i64 (y), .int .i64 (m), .int .i64 (d), .int .i64 (yb), .int .i64 (mb), .int .i64 (db)] 3) := ⟨_, rfl⟩
    obtain ⟨hc, hb, hsw2⟩ := chain_heap w [.cells #[.int .i64 10, .slice (some ⟨w.heap.size + 1 + 1, 0, none⟩) 6 6] 24, .cells #[.int .i64 10, .slice (some ⟨w.heap.size + 1 + 1, 0, none⟩) 6 6] 24, .cells #[.int .i64 (y), .int .i64 (m), .int .i64 (d), .int .i64 (yb), .int .i64 (mb), .int .i64 (db)] 3]
    simp only [List.foldl_cons, List.foldl_nil] at hc hb hsw2
    rw [← hw2] at hc hb hsw2
    have hw2_0 := hid (show w2.heap[w.heap.size]? = some _ from hc 0 _ rfl)
    have hw2_1 := hid (hc 1 _ rfl)
    have hw2_2 := hid (hc 2 _ rfl)
    have HBw2 := hid hb
    have Hsw2 := hid (show w2.heap.size = w.heap.size + 3 from hsw2)
    clear hc hb hsw2
    have HN : Hid (NV w.heap.size w2 (.agg #[.int .i64 10, .slice (some ⟨w.heap.size + 1 + 1, 0, none⟩) 6 6]) ⟨10, [y, m, d, yb, mb, db]⟩) := hid ⟨_, rfl, NA.at [y, m, d, yb, mb, db] hw2_2.out (by omega) (by simp)⟩
    clear hd1 hd2 v1 v2
    go_enter Tryd.func21, Tryd.ntmps21
    go_wp2_with fail
    refine (HA.out _).mono ?_
    rintro e wn ⟨rfl, hw⟩
    obtain rfl := hw.symm
    clear hw
    go_wp2_with fail
    refine (HBd.out _).mono ?_
    rintro e wn ⟨rfl, hw⟩
    obtain rfl := hw.symm
    clear hw
    go_wp2_with fail
    refine (H7.out _).mono ?_
    rintro e wn ⟨rfl, hw⟩
    obtain rfl := hw.symm
    clear hw
    go_wp2_with fail
    refine (D1.out _).mono ?_
    rintro e wn ⟨rfl, hw⟩
    obtain rfl := hw.symm
    clear hw
    go_wp2_with fail
    refine (D2.out _).mono ?_
    rintro e wn ⟨rfl, hw⟩
    obtain rfl := hw.symm
    clear hw
    go_wp2
    rw [← hw2]
    exact bodyPost_ret (v := .agg #[.int .i64 10, .slice (some ⟨w.heap.size + 1 + 1, 0, none⟩) 6 6]) (results_cell_row rfl _ _ w.heap.size 24 _ (0, 0) _ rfl hw2_0.out Tryd.underlying24 rfl (by kernel_rfl)) rfl ⟨_, rfl, HN.out, HBw2.out⟩

theorem norm_right (m : Int) (s : Nat) (hs : s ≤ 18) (h0 : -1000000000000000000 < m) (h1 : m < 1000000000000000000) : VI ⟨7, [(De.Dc.norm m s).1, ((De.Dc.norm m s).2 : Int)]⟩ ∧ [(De.Dc.norm m s).1, ((De.Dc.norm m s).2 : Int)].length ≤ 6 := by
  obtain ⟨b1, b2⟩ := De.norm_bd' m s h0 h1
  have hl := De.Dc.norm_le s m
  exact ⟨vi_mk ⟨by decide, by decide⟩ (fun z hz => by simp only [List.mem_cons, List.mem_nil_iff, or_false] at hz; unfold I64; omega), by simp⟩

set_option maxRecDepth 8000 in
set_option maxHeartbeats 4000000 in
theorem value_7 (kind a b : Int) (hkb : i64 kind) (ha : i64 a) (hb : i64 b) (hk : kind % 7 = 3) : ValueOk kind a b := by
  have HA := hid fun w => Ci.day_any a false w ha.1 ha.2
  have HBd := hid fun w => Ci.day_any b false w hb.1 hb.2
  have H7 := hid fun w => lwithin_any kind 7 w (by decide) (by decide) hkb.1 hkb.2
  rw [hk] at H7
  obtain ⟨p, s, p0, p1, hs, HM'⟩ := De.make_any a b hb.1 hb.2
  have HM := hid HM'
  have hR := norm_right p s hs p0 p1
  clear HM'
  obtain ⟨P, hP⟩ : ∃ P, P = (De.Dc.norm p s).1 := ⟨_, rfl⟩
  obtain ⟨S, hS⟩ : ∃ S : Nat, S = (De.Dc.norm p s).2 := ⟨_, rfl⟩
  rw [← hP, ← hS] at hR
  have HP := hid hP
  have HS := hid hS
  clear hP hS
  refine ⟨⟨7, [P, (S : Int)]⟩, by rw [hk]; rfl, hR, fun w => ?_⟩
  obtain ⟨w2, hw2⟩ : ∃ w2, w2 = ((((w.alloc (.cells #[.int .i64 7, .slice (some ⟨w.heap.size + 1 + 1 + 1 + 1, 0, none⟩) 2 2] 24)).alloc (.cells #[.int .i64 7, .slice none 0 0] 24)).alloc (.cells #[.int .i64 (p), .int .i64 (s)] 3)).alloc (.cells #[.int .i64 7, .slice (some ⟨w.heap.size + 1 + 1 + 1 + 1, 0, none⟩) 2 2] 24)).alloc (.cells #[.int .i64 (P), .int .i64 (S)] 3) := ⟨_, rfl⟩
  obtain ⟨hc, hb, hsw2⟩ := chain_heap w [.cells #[.int .i64 7, .slice (some ⟨w.heap.size + 1 + 1 + 1 + 1, 0, none⟩) 2 2] 24, .cells #[.int .i64 7, .slice none 0 0] 24, .cells #[.int .i64 (p), .int .i64 (s)] 3, .cells #[.int .i64 7, .slice (some ⟨w.heap.size + 1 + 1 + 1 + 1, 0, none⟩) 2 2] 24, .cells #[.int .i64 (P), .int .i64 (S)] 3]
  simp only [List.foldl_cons, List.foldl_nil] at hc hb hsw2
  rw [← hw2] at hc hb hsw2
  have hw2_0 := hid (show w2.heap[w.heap.size]? = some _ from hc 0 _ rfl)
  have hw2_1 := hid (hc 1 _ rfl)
  have hw2_2 := hid (hc 2 _ rfl)
  have hw2_3 := hid (hc 3 _ rfl)
  have hw2_4 := hid (hc 4 _ rfl)
  have HBw2 := hid hb
  have Hsw2 := hid (show w2.heap.size = w.heap.size + 5 from hsw2)
  clear hc hb hsw2
  have HN : Hid (NV w.heap.size w2 (.agg #[.int .i64 7, .slice (some ⟨w.heap.size + 1 + 1 + 1 + 1, 0, none⟩) 2 2]) ⟨7, [P, (S : Int)]⟩) := hid ⟨_, rfl, NA.at [P, (S : Int)] hw2_4.out (by omega) (by simp)⟩
  clear hR
  go_enter Tryd.func21, Tryd.ntmps21
  go_wp2_with fail
  refine (HA.out _).mono ?_
  rintro e wn ⟨rfl, hw⟩
  obtain rfl := hw.symm
  clear hw
  go_wp2_with fail
  refine (HBd.out _).mono ?_
  rintro e wn ⟨rfl, hw⟩
  obtain rfl := hw.symm
  clear hw
  go_wp2_with fail
  refine (H7.out _).mono ?_
  rintro e wn ⟨rfl, hw⟩
  obtain rfl := hw.symm
  clear hw
  go_wp2_with fail
  refine (HM.out _).mono ?_
  rintro e wn ⟨rfl, hw⟩
  obtain rfl := hw.symm
  clear hw
  go_wp2
  go_loop [14, 15] (fun v14 v15 => ∃ (m : Int) (t : Nat), v14 = .int .i64 m ∧ v15 = .int .i64 t ∧ t ≤ 18 ∧ -1000000000000000000 < m ∧ m < 1000000000000000000 ∧ Hid (De.Dc.norm m t = De.Dc.norm p s)) (fun _ v15 => (intOf v15).toNat)
  case atStart => exact ⟨p, s, rfl, rfl, hs, p0, p1, hid rfl⟩
  case round =>
    obtain ⟨m, t, rfl, rfl, ht, q0, q1, HQ⟩ := hrel
    by_cases h1 : 0 < t ∧ m % 10 = 0
    case pos =>
      obtain ⟨h1, h2⟩ := h1
      have g0 : (0 : Int) < t := by omega
      have g1 : m.tmod 10 = 0 := (De.tm0 m 10 (by decide)).2 h2
      have g2 : (m.tmod 10 == 0) = true := by simp [g1]
      have g3 : m.tdiv 10 = m / 10 := De.td0 m 10 h2
      have HQ2 := hid ((De.norm_step m t h1 h2).symm.trans HQ.out)
      go_wp2
      go_round
      case rel => exact ⟨m / 10, t - 1, by first | rfl | rw [g3], by congr 1; omega, by omega, by omega, by omega, HQ2⟩
      case measure => simp [intOf]; omega
    case neg =>
      have hst := De.norm_stop m t (by omega)
      obtain rfl : m = P := by rw [HP.out, ← HQ.out, hst]
      obtain rfl : t = S := by rw [HS.out, ← HQ.out, hst]
      clear hst
      by_cases h0 : 0 < t
      case pos =>
        have g0 : (0 : Int) < t := by omega
        have g2 : (m.tmod 10 == 0) = false := by simp; intro h; exact h1 ⟨h0, (De.tm0 m 10 (by decide)).1 h⟩
        go_wp2
        rw [← hw2]
        exact bodyPost_ret (v := .agg #[.int .i64 7, .slice (some ⟨w.heap.size + 1 + 1 + 1 + 1, 0, none⟩) 2 2]) (results_cell_row rfl _ _ w.heap.size 24 _ (0, 0) _ rfl hw2_0.out Tryd.underlying24 rfl (by kernel_rfl)) rfl ⟨_, rfl, HN.out, HBw2.out⟩
      case neg =>
        have g0 : ¬ (0 : Int) < t := by omega
        go_wp2
        rw [← hw2]
        exact bodyPost_ret (v := .agg #[.int .i64 7, .slice (some ⟨w.heap.size + 1 + 1 + 1 + 1, 0, none⟩) 2 2]) (results_cell_row rfl _ _ w.heap.size 24 _ (0, 0) _ rfl hw2_0.out Tryd.underlying24 rfl (by kernel_rfl)) rfl ⟨_, rfl, HN.out, HBw2.out⟩

theorem lvalue_any (kind a b : Int) (hkb : i64 kind) (ha : i64 a) (hb : i64 b) : ValueOk kind a b := by
  have h : kind % 7 = 0 ∨ kind % 7 = 1 ∨ kind % 7 = 2 ∨ kind % 7 = 3 ∨ kind % 7 = 4 ∨ kind % 7 = 5 ∨ kind % 7 = 6 := by omega
  rcases h with h | h | h | h | h | h | h
  · exact value_4 kind a b hkb ha hb h
  · exact value_5 kind a b hkb ha hb h
  · exact value_6 kind a b hkb ha hb h
  · exact value_7 kind a b hkb ha hb h
  · exact value_8 kind a b hkb ha hb h
  · exact value_9 kind a b hkb ha hb h
  · exact value_10 kind a b hkb ha hb h
end Go.Proofs.YtjocpbcmehicmaaDoor
