/- known: the chapter's example. -/
import Derived.Test.YtjocpbcmehicmaaDoorBest
import Derived.Test.YtjocpbcmehicmaaDoorCode
import Derived.Test.YtjocpbcmehicmaaDoorMath2
namespace Go.Proofs.YtjocpbcmehicmaaDoor
open Go.RowKit Go.Sort

def kA : Val := ⟨9, [5]⟩
def kB : Val := ⟨9, [-7]⟩
theorem kBest : bestR [⟨kA, 3⟩, ⟨kB, 2⟩, ⟨kA, 1⟩] = [⟨kA, 1⟩, ⟨kB, 2⟩] := by rfl
theorem kCmp : cmpV kA kB = 1 := by decide
theorem kCode : codeL kB = [57, 44, 45, 55] := by
  unfold codeL codeF codeF kB
  simp [Lib.itoa, Lib.decDigits]
theorem kB_ok : VI kB := by
  refine ⟨⟨by decide, by decide⟩, fun y hy => ?_⟩
  have : y = -7 := by simpa [kB] using hy
  subst this
  exact ⟨by decide, by decide⟩
theorem chain_heap (w : World) : ∀ os : List Obj, (∀ i o, os[i]? = some o → (os.foldl World.alloc w).heap[w.heap.size + i]? = some o) ∧ Below w.heap.size w (os.foldl World.alloc w) ∧ (os.foldl World.alloc w).heap.size = w.heap.size + os.length
  | [] => ⟨fun i o h => by simp at h, Below.refl _ _, rfl⟩
  | o :: os => by
    obtain ⟨h1, h2, h3⟩ := chain_heap (w.alloc o) os
    have hs : (w.alloc o).heap.size = w.heap.size + 1 := by simp
    refine ⟨fun i p hi => ?_, (up_alloc w o).trans (h2.mono (by omega)), by simp only [List.foldl_cons, List.length_cons]; omega⟩
    cases i with
    | zero =>
      simp at hi
      subst hi
      exact (h2.block w.heap.size (by omega)).trans (new_row w _)
    | succ i =>
      have := h1 i p (by simpa using hi)
      rw [hs] at this
      rw [show w.heap.size + (i + 1) = w.heap.size + 1 + i by omega]
      exact this

set_option maxRecDepth 8000 in
set_option maxHeartbeats 4000000 in
theorem known_any (w : World) (hT : Tab w) :
    Calls Tryd.prog 13 #[] w fun e w' => e = .returned (.bool true) ∧ Below w.heap.size w w' := by
  obtain ⟨w2, hw2⟩ : ∃ w2, w2 = (((((w.alloc (.cells #[.int .i64 5] 3)).alloc (.cells #[.int .i64 (-7)] 3)).alloc (.cells #[.int .i64 9, .slice (some ⟨w.heap.size, 0, none⟩) 1 1] 24)).alloc (.cells #[.int .i64 9, .slice (some ⟨w.heap.size + 1, 0, none⟩) 1 1] 24)).alloc (.cells #[.int .i64 9, .slice (some ⟨w.heap.size, 0, none⟩) 1 1, .int .i64 3, .int .i64 9, .slice (some ⟨w.heap.size + 1, 0, none⟩) 1 1, .int .i64 2, .int .i64 9, .slice (some ⟨w.heap.size, 0, none⟩) 1 1, .int .i64 1] 36)) := ⟨_, rfl⟩
  obtain ⟨hc, hb, hsw⟩ := chain_heap w [.cells #[.int .i64 5] 3, .cells #[.int .i64 (-7)] 3, .cells #[.int .i64 9, .slice (some ⟨w.heap.size, 0, none⟩) 1 1] 24, .cells #[.int .i64 9, .slice (some ⟨w.heap.size + 1, 0, none⟩) 1 1] 24, .cells #[.int .i64 9, .slice (some ⟨w.heap.size, 0, none⟩) 1 1, .int .i64 3, .int .i64 9, .slice (some ⟨w.heap.size + 1, 0, none⟩) 1 1, .int .i64 2, .int .i64 9, .slice (some ⟨w.heap.size, 0, none⟩) 1 1, .int .i64 1] 36]
  simp only [List.foldl_cons, List.foldl_nil] at hc hb hsw
  rw [← hw2] at hc hb hsw
  have R0 : w2.heap[w.heap.size]? = some _ := hc 0 _ rfl
  have R1 : w2.heap[w.heap.size + 1]? = some _ := hc 1 _ rfl
  have R2 := hid (hc 2 _ rfl)
  have R3 := hid (hc 3 _ rfl)
  have R4 : w2.heap[w.heap.size + 4]? = some _ := hc 4 _ rfl
  have hsz : w2.heap.size = w.heap.size + 5 := hsw
  have HB := hid hb
  have hA : IA w2 (.slice (some ⟨w.heap.size, 0, none⟩) 1 1) [5] := ⟨_, _, rfl, ⟨by decide, by decide, by decide⟩, .inr ⟨w.heap.size, 0, rfl, by omega, fun j hj => by
    obtain rfl : j = 0 := by simpa using hj
    exact cell_of_row R0⟩⟩
  have hB : IA w2 (.slice (some ⟨w.heap.size + 1, 0, none⟩) 1 1) [-7] := ⟨_, _, rfl, ⟨by decide, by decide, by decide⟩, .inr ⟨w.heap.size + 1, 0, rfl, by omega, fun j hj => by
    obtain rfl : j = 0 := by simpa using hj
    exact cell_of_row R1⟩⟩
  have hR : RA w2 (.slice (some ⟨w.heap.size + 1 + 1 + 1 + 1, 0, none⟩) 3 3) [⟨kA, 3⟩, ⟨kB, 2⟩, ⟨kA, 1⟩] := ⟨_, _, rfl, ⟨by decide, by decide, by decide⟩, .inr ⟨w.heap.size + 4, 0, rfl, by omega, fun j hj => by
    have : j = 0 ∨ j = 1 ∨ j = 2 := by simp at hj; omega
    rcases this with rfl | rfl | rfl
    · exact ⟨_, cell_of_row R4, cell_of_row R4, cell_of_row R4, hA⟩
    · exact ⟨_, cell_of_row R4, cell_of_row R4, cell_of_row R4, hB⟩
    · exact ⟨_, cell_of_row R4, cell_of_row R4, cell_of_row R4, hA⟩⟩⟩
  have H1 := hid (best_any _ _ 1 w2 hR (by decide))
  have HA := hid hA
  have HB2 := hid hB
  have HT := hid (hT.on HB.out)
  have HS := hid hsz
  clear hT hc hb hsw R0 R1 R4 hA hB hR hsz
  go_enter Tryd.func13, Tryd.ntmps13
  go_wp2_with fail
  rw [← hw2]
  clear hw2
  refine H1.out.mono ?_
  rintro e w3 ⟨out, u, ho, rfl, hu, hb3⟩
  rw [ho.eq, kBest] at hu ⊢
  obtain ⟨g, cs, t, cap, rfl, hl1, _, hg, hcs⟩ := hu
  obtain ⟨fv, _, _, k2, _⟩ := hcs 0 (by decide)
  have c2 : w3.cell? ⟨g, 2, none⟩ = some (.int .i64 1) := (cell_of_row hg).trans k2
  have HC2 := hid c2
  have HG := hid (Array.getElem?_eq_some_iff.1 hg).1
  have HB3 := hid hb3
  have H2 := hid (best_any [] (.slice none 0 0) 0 w3 ⟨_, _, rfl, ⟨by decide, by decide, by decide⟩, .inl ⟨rfl, rfl, rfl⟩⟩ (by decide))
  clear hl1 hg hcs k2 c2 ho hb3 H1
  go_wp2_with fail
  refine H2.out.mono ?_
  rintro e w4 ⟨out2, u2, ho2, rfl, hu2, hb4⟩
  rw [ho2.eq, show bestR [] = [] from rfl] at hu2 ⊢
  obtain ⟨g2, cs2, t2, cap2, rfl, _⟩ := hu2
  have hlt : g < w3.heap.size := HG.out
  have c2 := (hb4.cell hlt).trans HC2.out
  have HB4 := hid (HB3.out.trans (hb4.mono HB3.out.size))
  have hsz := HS.out
  have r2 := (HB4.out.block (w.heap.size + 2) (by omega)).trans R2.out
  have r3 := (HB4.out.block (w.heap.size + 3) (by omega)).trans R3.out
  have d0 := cell_of_row (o := 0) r2
  have d1 := cell_of_row (o := 1) r2
  have e0 := cell_of_row (o := 0) r3
  have e1 := cell_of_row (o := 1) r3
  simp only [List.getElem?_toArray, List.getElem?_cons_zero, List.getElem?_cons_succ] at d0 d1 e0 e1
  have HCmp := hid (cmp_any kA kB _ _ w4 ⟨_, rfl, (HA.out.on HB4.out).ib⟩ ⟨_, rfl, (HB2.out.on HB4.out).ib⟩)
  rw [kCmp] at HCmp
  clear hb4 ho2 H2 r2 r3 hlt hsz
  go_wp2_with fail
  refine HCmp.out.mono ?_
  rintro e w5 ⟨rfl, hg5⟩
  have HB5 := hid (HB4.out.trans (hg5.below.mono HB4.out.size))
  have hsz := HS.out
  have r3 := (HB5.out.block (w.heap.size + 3) (by omega)).trans R3.out
  have e0 := cell_of_row (o := 0) r3
  have e1 := cell_of_row (o := 1) r3
  simp only [List.getElem?_toArray, List.getElem?_cons_zero, List.getElem?_cons_succ] at e0 e1
  have HCode := hid (code_any kB _ w5 ⟨_, rfl, (HB2.out.on HB5.out).ib⟩ kB_ok (HT.out.on HB5.out))
  rw [kCode] at HCode
  clear hg5 r3 hsz HCmp
  go_wp2_with fail
  refine HCode.out.mono ?_
  rintro e w6 ⟨rfl, hb6⟩
  have HB6 := hid (HB5.out.trans (hb6.mono HB5.out.size))
  clear hb6 HCode
  go_wp2
  go_ret
  exact ⟨rfl, HB.out.trans (HB6.out.mono HB.out.size)⟩
end Go.Proofs.YtjocpbcmehicmaaDoor
