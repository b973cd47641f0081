/- The sample's styles, and the sample. -/
import Derived.Test.YtannndpamhgknaaGreatDoorMBlSmp2
namespace Go.Proofs.YtannndpamhgknaaGreatDoor.Bl
open Go.RowKit Gr

def partCells (x : Part) : List Value := [.int .i64 x.kind, .string x.text, .int .i64 x.field, .int .i64 x.width, .int .i64 x.cls]
theorem PartC.flat (W : World) : ∀ xs : List Part, PartC W (xs.flatMap partCells) xs
  | [] => PartC.nil W
  | x :: xs => by
    rw [List.flatMap_cons]
    exact (PartC.one W x).append (PartC.flat W xs)
theorem parts_of {w : World} {B : Nat} {v : Value} {n : Nat} (xs : List Part) (h : w.ownsRow B 51 5 v n (xs.flatMap partCells)) (hn : xs.length = n) (hl : n ≤ 1000) : PartsAt w v xs := by
  subst hn
  exact Parts_own h (PartC.flat _ _) (by omega)
def dayL : List Part := [⟨1, ⟨#[]⟩, 0, 4, 0⟩, ⟨0, ⟨#[45]⟩, 0, 0, 0⟩, ⟨1, ⟨#[]⟩, 1, 2, 0⟩, ⟨0, ⟨#[45]⟩, 0, 0, 0⟩, ⟨1, ⟨#[]⟩, 2, 2, 0⟩]
theorem dayL_cells : #[.int .i64 1, .string ⟨#[]⟩, .int .i64 0, .int .i64 4, .int .i64 0, .int .i64 0, .string ⟨#[45]⟩, .int .i64 0, .int .i64 0, .int .i64 0, .int .i64 1, .string ⟨#[]⟩, .int .i64 1, .int .i64 2, .int .i64 0, .int .i64 0, .string ⟨#[45]⟩, .int .i64 0, .int .i64 0, .int .i64 0, .int .i64 1, .string ⟨#[]⟩, .int .i64 2, .int .i64 2, .int .i64 0] = (dayL.flatMap partCells).toArray := by kernel_rfl
def clockL : List Part := [⟨1, ⟨#[]⟩, 0, 2, 0⟩, ⟨0, ⟨#[58]⟩, 0, 0, 0⟩, ⟨1, ⟨#[]⟩, 1, 2, 0⟩, ⟨0, ⟨#[58]⟩, 0, 0, 0⟩, ⟨1, ⟨#[]⟩, 2, 2, 0⟩]
theorem clockL_cells : #[.int .i64 1, .string ⟨#[]⟩, .int .i64 0, .int .i64 2, .int .i64 0, .int .i64 0, .string ⟨#[58]⟩, .int .i64 0, .int .i64 0, .int .i64 0, .int .i64 1, .string ⟨#[]⟩, .int .i64 1, .int .i64 2, .int .i64 0, .int .i64 0, .string ⟨#[58]⟩, .int .i64 0, .int .i64 0, .int .i64 0, .int .i64 1, .string ⟨#[]⟩, .int .i64 2, .int .i64 2, .int .i64 0] = (clockL.flatMap partCells).toArray := by kernel_rfl
def sixA : List Part := [⟨0, ⟨#[32]⟩, 0, 0, 0⟩, ⟨1, ⟨#[]⟩, 3, 2, 0⟩, ⟨0, ⟨#[58]⟩, 0, 0, 0⟩, ⟨1, ⟨#[]⟩, 4, 2, 0⟩, ⟨0, ⟨#[58]⟩, 0, 0, 0⟩, ⟨1, ⟨#[]⟩, 5, 2, 0⟩]
theorem sixA_cells : #[.int .i64 0, .string ⟨#[32]⟩, .int .i64 0, .int .i64 0, .int .i64 0, .int .i64 1, .string ⟨#[]⟩, .int .i64 3, .int .i64 2, .int .i64 0, .int .i64 0, .string ⟨#[58]⟩, .int .i64 0, .int .i64 0, .int .i64 0, .int .i64 1, .string ⟨#[]⟩, .int .i64 4, .int .i64 2, .int .i64 0, .int .i64 0, .string ⟨#[58]⟩, .int .i64 0, .int .i64 0, .int .i64 0, .int .i64 1, .string ⟨#[]⟩, .int .i64 5, .int .i64 2, .int .i64 0] = (sixA.flatMap partCells).toArray := by kernel_rfl
def sixB : List Part := [⟨0, ⟨#[32, 116, 111, 32]⟩, 0, 0, 0⟩, ⟨1, ⟨#[]⟩, 3, 4, 0⟩, ⟨0, ⟨#[45]⟩, 0, 0, 0⟩, ⟨1, ⟨#[]⟩, 4, 2, 0⟩, ⟨0, ⟨#[45]⟩, 0, 0, 0⟩, ⟨1, ⟨#[]⟩, 5, 2, 0⟩]
theorem sixB_cells : #[.int .i64 0, .string ⟨#[32, 116, 111, 32]⟩, .int .i64 0, .int .i64 0, .int .i64 0, .int .i64 1, .string ⟨#[]⟩, .int .i64 3, .int .i64 4, .int .i64 0, .int .i64 0, .string ⟨#[45]⟩, .int .i64 0, .int .i64 0, .int .i64 0, .int .i64 1, .string ⟨#[]⟩, .int .i64 4, .int .i64 2, .int .i64 0, .int .i64 0, .string ⟨#[45]⟩, .int .i64 0, .int .i64 0, .int .i64 0, .int .i64 1, .string ⟨#[]⟩, .int .i64 5, .int .i64 2, .int .i64 0] = (sixB.flatMap partCells).toArray := by kernel_rfl
def moneyL : List Part := [⟨1, ⟨#[]⟩, 1, 0, 0⟩, ⟨0, ⟨#[46]⟩, 0, 0, 0⟩, ⟨1, ⟨#[]⟩, 2, 0, 0⟩, ⟨0, ⟨#[32]⟩, 0, 0, 0⟩, ⟨2, ⟨#[]⟩, 0, 0, 6⟩]
theorem moneyL_cells : #[.int .i64 1, .string ⟨#[]⟩, .int .i64 1, .int .i64 0, .int .i64 0, .int .i64 0, .string ⟨#[46]⟩, .int .i64 0, .int .i64 0, .int .i64 0, .int .i64 1, .string ⟨#[]⟩, .int .i64 2, .int .i64 0, .int .i64 0, .int .i64 0, .string ⟨#[32]⟩, .int .i64 0, .int .i64 0, .int .i64 0, .int .i64 2, .string ⟨#[]⟩, .int .i64 0, .int .i64 0, .int .i64 6] = (moneyL.flatMap partCells).toArray := by kernel_rfl
def decP : List Part := [⟨1, ⟨#[]⟩, 0, 0, 0⟩, ⟨0, ⟨#[46]⟩, 0, 0, 0⟩, ⟨1, ⟨#[]⟩, 1, 1, 0⟩]
theorem decP_cells : #[.int .i64 1, .string ⟨#[]⟩, .int .i64 0, .int .i64 0, .int .i64 0, .int .i64 0, .string ⟨#[46]⟩, .int .i64 0, .int .i64 0, .int .i64 0, .int .i64 1, .string ⟨#[]⟩, .int .i64 1, .int .i64 1, .int .i64 0] = (decP.flatMap partCells).toArray := by kernel_rfl
def durL : List Part := [⟨1, ⟨#[]⟩, 0, 0, 0⟩, ⟨0, ⟨#[32, 115]⟩, 0, 0, 0⟩]
theorem durL_cells : #[.int .i64 1, .string ⟨#[]⟩, .int .i64 0, .int .i64 0, .int .i64 0, .int .i64 0, .string ⟨#[32, 115]⟩, .int .i64 0, .int .i64 0, .int .i64 0] = (durL.flatMap partCells).toArray := by kernel_rfl
def lastL : List Part := [⟨1, ⟨#[]⟩, 2, 0, 0⟩, ⟨0, ⟨#[32]⟩, 0, 0, 0⟩, ⟨2, ⟨#[]⟩, 1, 0, 1⟩, ⟨0, ⟨#[32]⟩, 0, 0, 0⟩, ⟨1, ⟨#[]⟩, 0, 4, 0⟩]
theorem lastL_cells : #[.int .i64 1, .string ⟨#[]⟩, .int .i64 2, .int .i64 0, .int .i64 0, .int .i64 0, .string ⟨#[32]⟩, .int .i64 0, .int .i64 0, .int .i64 0, .int .i64 2, .string ⟨#[]⟩, .int .i64 1, .int .i64 0, .int .i64 1, .int .i64 0, .string ⟨#[32]⟩, .int .i64 0, .int .i64 0, .int .i64 0, .int .i64 1, .string ⟨#[]⟩, .int .i64 0, .int .i64 4, .int .i64 0] = (lastL.flatMap partCells).toArray := by kernel_rfl
def stylesL : List Style := [⟨4, dayL⟩, ⟨5, clockL⟩, ⟨6, dayL ++ sixA⟩, ⟨7, decP⟩, ⟨8, moneyL⟩, ⟨9, durL⟩, ⟨10, dayL ++ sixB⟩, ⟨4, lastL⟩]
theorem own_lt {w w' : World} {B B' n cap size g : Nat} {e : TypeId} {cs : List Value} (h : w.ownsRow B e size (.slice (some ⟨g, 0, none⟩) n cap) n cs) (hb : Below B' w w') (hg : g < B') : w'.ownsRow B e size (.slice (some ⟨g, 0, none⟩) n cap) n cs := by
  obtain ⟨h1, ⟨h2, _⟩ | ⟨g', cap', cur, h2, h3, h4, h5⟩⟩ := h
  · cases h2
  · have : g = g' := by injection h2 with e1; injection e1 with e1; injection e1
    subst this
    exact ⟨h1, .inr ⟨g, cap', cur, h2, h3, (hb.block _ hg).trans h4, h5⟩⟩
theorem own_lit_at {w : World} {B n size : Nat} {e : TypeId} {v : Value} {cs : List Value} (h : w.ownsRow B e size v n cs) (hn : 0 < n) : ∃ g cap, v = .slice (some ⟨g, 0, none⟩) n cap ∧ B ≤ g ∧ g < w.heap.size := by
  obtain ⟨g, cap, rfl, hg, _⟩ := own_at h hn
  exact ⟨g, cap, rfl, hg, (World.ownsRow.lt h g rfl).2⟩
set_option maxRecDepth 8000 in
set_option maxHeartbeats 20000000 in
theorem styles_any (u0 : World) : Calls Tryz.prog 73 #[] u0 fun e w' => ∃ v, e = .returned v ∧ Stl w' (fun W => StylesAt W v stylesL) ∧ Below u0.heap.size u0 w' := by
  go_enter Tryz.func73, Tryz.ntmps73
  have HB0 := hid (Below.refl u0.heap.size u0)
  go_wp2_with fail
  refine (lnumber_any 0 4 _).mono ?_
  rintro e u1 ⟨rfl, b⟩
  have HD := hid b
  replace HB0 := hid (up_trans HB0.out HD.out)
  have hs0 := HD.out.size
  clear b HD
  go_wp2_with fail
  refine (ltext_any ⟨#[45]⟩ _).mono ?_
  rintro e u2 ⟨rfl, b⟩
  have HD := hid b
  replace HB0 := hid (up_trans HB0.out HD.out)
  have hs1 := HD.out.size
  clear b HD
  go_wp2_with fail
  refine (lnumber_any 1 2 _).mono ?_
  rintro e u3 ⟨rfl, b⟩
  have HD := hid b
  replace HB0 := hid (up_trans HB0.out HD.out)
  have hs2 := HD.out.size
  clear b HD
  go_wp2_with fail
  refine (ltext_any ⟨#[45]⟩ _).mono ?_
  rintro e u4 ⟨rfl, b⟩
  have HD := hid b
  replace HB0 := hid (up_trans HB0.out HD.out)
  have hs3 := HD.out.size
  clear b HD
  go_wp2_with fail
  refine (lnumber_any 2 2 _).mono ?_
  rintro e u5 ⟨rfl, b⟩
  have HD := hid b
  replace HB0 := hid (up_trans HB0.out HD.out)
  have hs4 := HD.out.size
  clear b HD
  have HO_dayL := hid (own_lit u5 51 5 5 u5.heap.size #[.int .i64 1, .string ⟨#[]⟩, .int .i64 0, .int .i64 4, .int .i64 0, .int .i64 0, .string ⟨#[45]⟩, .int .i64 0, .int .i64 0, .int .i64 0, .int .i64 1, .string ⟨#[]⟩, .int .i64 1, .int .i64 2, .int .i64 0, .int .i64 0, .string ⟨#[45]⟩, .int .i64 0, .int .i64 0, .int .i64 0, .int .i64 1, .string ⟨#[]⟩, .int .i64 2, .int .i64 2, .int .i64 0] (dayL.flatMap partCells) dayL_cells rfl (by kernel_rfl) (by decide))
  go_wp2_with fail
  refine (lnumber_any 0 2 _).mono ?_
  rintro e u6 ⟨rfl, b⟩
  have HD := hid (up_trans (up_alloc u5 (.cells #[.int .i64 1, .string ⟨#[]⟩, .int .i64 0, .int .i64 4, .int .i64 0, .int .i64 0, .string ⟨#[45]⟩, .int .i64 0, .int .i64 0, .int .i64 0, .int .i64 1, .string ⟨#[]⟩, .int .i64 1, .int .i64 2, .int .i64 0, .int .i64 0, .string ⟨#[45]⟩, .int .i64 0, .int .i64 0, .int .i64 0, .int .i64 1, .string ⟨#[]⟩, .int .i64 2, .int .i64 2, .int .i64 0] 51)) b)
  have HF_dayL := hid (owns_below HO_dayL.out b)
  clear HO_dayL
  replace HB0 := hid (up_trans HB0.out HD.out)
  have hs5 := HD.out.size
  clear b HD
  go_wp2_with fail
  refine (ltext_any ⟨#[58]⟩ _).mono ?_
  rintro e u7 ⟨rfl, b⟩
  have HD := hid b
  replace HF_dayL := hid (owns_below HF_dayL.out HD.out)
  replace HB0 := hid (up_trans HB0.out HD.out)
  have hs6 := HD.out.size
  clear b HD
  go_wp2_with fail
  refine (lnumber_any 1 2 _).mono ?_
  rintro e u8 ⟨rfl, b⟩
  have HD := hid b
  replace HF_dayL := hid (owns_below HF_dayL.out HD.out)
  replace HB0 := hid (up_trans HB0.out HD.out)
  have hs7 := HD.out.size
  clear b HD
  go_wp2_with fail
  refine (ltext_any ⟨#[58]⟩ _).mono ?_
  rintro e u9 ⟨rfl, b⟩
  have HD := hid b
  replace HF_dayL := hid (owns_below HF_dayL.out HD.out)
  replace HB0 := hid (up_trans HB0.out HD.out)
  have hs8 := HD.out.size
  clear b HD
  go_wp2_with fail
  refine (lnumber_any 2 2 _).mono ?_
  rintro e u10 ⟨rfl, b⟩
  have HD := hid b
  replace HF_dayL := hid (owns_below HF_dayL.out HD.out)
  replace HB0 := hid (up_trans HB0.out HD.out)
  have hs9 := HD.out.size
  clear b HD
  have HO_clockL := hid (own_lit u10 51 5 5 u10.heap.size #[.int .i64 1, .string ⟨#[]⟩, .int .i64 0, .int .i64 2, .int .i64 0, .int .i64 0, .string ⟨#[58]⟩, .int .i64 0, .int .i64 0, .int .i64 0, .int .i64 1, .string ⟨#[]⟩, .int .i64 1, .int .i64 2, .int .i64 0, .int .i64 0, .string ⟨#[58]⟩, .int .i64 0, .int .i64 0, .int .i64 0, .int .i64 1, .string ⟨#[]⟩, .int .i64 2, .int .i64 2, .int .i64 0] (clockL.flatMap partCells) clockL_cells rfl (by kernel_rfl) (by decide))
  have HUA : Hid (Below u10.heap.size u10 (u10.alloc (.cells #[.int .i64 1, .string ⟨#[]⟩, .int .i64 0, .int .i64 2, .int .i64 0, .int .i64 0, .string ⟨#[58]⟩, .int .i64 0, .int .i64 0, .int .i64 0, .int .i64 1, .string ⟨#[]⟩, .int .i64 1, .int .i64 2, .int .i64 0, .int .i64 0, .string ⟨#[58]⟩, .int .i64 0, .int .i64 0, .int .i64 0, .int .i64 1, .string ⟨#[]⟩, .int .i64 2, .int .i64 2, .int .i64 0] 51))) := hid (up_alloc _ _)
  have HOM := hid (own_made (u10.alloc (.cells #[.int .i64 1, .string ⟨#[]⟩, .int .i64 0, .int .i64 2, .int .i64 0, .int .i64 0, .string ⟨#[58]⟩, .int .i64 0, .int .i64 0, .int .i64 0, .int .i64 1, .string ⟨#[]⟩, .int .i64 1, .int .i64 2, .int .i64 0, .int .i64 0, .string ⟨#[58]⟩, .int .i64 0, .int .i64 0, .int .i64 0, .int .i64 1, .string ⟨#[]⟩, .int .i64 2, .int .i64 2, .int .i64 0] 51)) 51 5 (u10.heap.size + 1) (u10.heap.size + 1) (by simp) (by simp))
  have HCE := hid ((own_cells (owns_below HF_dayL.out HUA.out) (PartC.flat u10 dayL).ones).on (up_alloc (u10.alloc (.cells #[.int .i64 1, .string ⟨#[]⟩, .int .i64 0, .int .i64 2, .int .i64 0, .int .i64 0, .string ⟨#[58]⟩, .int .i64 0, .int .i64 0, .int .i64 0, .int .i64 1, .string ⟨#[]⟩, .int .i64 1, .int .i64 2, .int .i64 0, .int .i64 0, .string ⟨#[58]⟩, .int .i64 0, .int .i64 0, .int .i64 0, .int .i64 1, .string ⟨#[]⟩, .int .i64 2, .int .i64 2, .int .i64 0] 51)) (.cells #[] 51)))
  go_wp2_with (at_builtin; refine wpList_append_cells _ rfl (.tmp 18) (.tmp 19) 35 51 rfl (.agg #[.int .i64 0, .string ⟨#[]⟩, .int .i64 0, .int .i64 0, .int .i64 0]) 5 48 Tryz.underlying35 info_Part rfl (by decide) (by decide) (u10.heap.size + 1) _ 0 _ rfl HOM.out _ 5 _ rfl HCE.out (by decide) (by simp) ?_; intro v' u11 h1 h2 h3; have HN_a : Hid (u11.ownsRow (u10.heap.size + 1) 51 5 v' 5 (dayL.flatMap partCells)) := hid h1; have HG : Hid (Below (u10.alloc (.cells #[.int .i64 1, .string ⟨#[]⟩, .int .i64 0, .int .i64 2, .int .i64 0, .int .i64 0, .string ⟨#[58]⟩, .int .i64 0, .int .i64 0, .int .i64 0, .int .i64 1, .string ⟨#[]⟩, .int .i64 1, .int .i64 2, .int .i64 0, .int .i64 0, .string ⟨#[58]⟩, .int .i64 0, .int .i64 0, .int .i64 0, .int .i64 1, .string ⟨#[]⟩, .int .i64 2, .int .i64 2, .int .i64 0] 51)).heap.size (u10.alloc (.cells #[.int .i64 1, .string ⟨#[]⟩, .int .i64 0, .int .i64 2, .int .i64 0, .int .i64 0, .string ⟨#[58]⟩, .int .i64 0, .int .i64 0, .int .i64 0, .int .i64 1, .string ⟨#[]⟩, .int .i64 1, .int .i64 2, .int .i64 0, .int .i64 0, .string ⟨#[58]⟩, .int .i64 0, .int .i64 0, .int .i64 0, .int .i64 1, .string ⟨#[]⟩, .int .i64 2, .int .i64 2, .int .i64 0] 51)) u11) := hid ((up_alloc (u10.alloc (.cells #[.int .i64 1, .string ⟨#[]⟩, .int .i64 0, .int .i64 2, .int .i64 0, .int .i64 0, .string ⟨#[58]⟩, .int .i64 0, .int .i64 0, .int .i64 0, .int .i64 1, .string ⟨#[]⟩, .int .i64 1, .int .i64 2, .int .i64 0, .int .i64 0, .string ⟨#[58]⟩, .int .i64 0, .int .i64 0, .int .i64 0, .int .i64 1, .string ⟨#[]⟩, .int .i64 2, .int .i64 2, .int .i64 0] 51)) (.cells #[] 51)).grown h2 (by simp) (fun q e => (by have := Option.some.inj e; simp at this ⊢; omega))); obtain ⟨g_a, cap_a, ev_a, _⟩ := own_lit_at HN_a.out (by decide); subst ev_a; clear h1 h2 h3)
  have HD := hid (up_trans HUA.out HG.out)
  replace HF_dayL := hid (owns_below HF_dayL.out HD.out)
  have HF_clockL := hid (owns_below HO_clockL.out HG.out)
  replace HB0 := hid (up_trans HB0.out HD.out)
  have hs10 : u10.heap.size + 1 ≤ u11.heap.size := by have := HG.out.size; simpa using this
  clear HO_clockL HUA HOM HCE HG HD
  refine (ltext_any ⟨#[32]⟩ _).mono ?_
  rintro e u12 ⟨rfl, b⟩
  have HD := hid b
  replace HF_dayL := hid (owns_below HF_dayL.out HD.out)
  replace HF_clockL := hid (owns_below HF_clockL.out HD.out)
  replace HN_a := hid (owns_below HN_a.out HD.out)
  replace HB0 := hid (up_trans HB0.out HD.out)
  have hs11 := HD.out.size
  clear b HD
  go_wp2_with fail
  refine (lnumber_any 3 2 _).mono ?_
  rintro e u13 ⟨rfl, b⟩
  have HD := hid b
  replace HF_dayL := hid (owns_below HF_dayL.out HD.out)
  replace HF_clockL := hid (owns_below HF_clockL.out HD.out)
  replace HN_a := hid (owns_below HN_a.out HD.out)
  replace HB0 := hid (up_trans HB0.out HD.out)
  have hs12 := HD.out.size
  clear b HD
  go_wp2_with fail
  refine (ltext_any ⟨#[58]⟩ _).mono ?_
  rintro e u14 ⟨rfl, b⟩
  have HD := hid b
  replace HF_dayL := hid (owns_below HF_dayL.out HD.out)
  replace HF_clockL := hid (owns_below HF_clockL.out HD.out)
  replace HN_a := hid (owns_below HN_a.out HD.out)
  replace HB0 := hid (up_trans HB0.out HD.out)
  have hs13 := HD.out.size
  clear b HD
  go_wp2_with fail
  refine (lnumber_any 4 2 _).mono ?_
  rintro e u15 ⟨rfl, b⟩
  have HD := hid b
  replace HF_dayL := hid (owns_below HF_dayL.out HD.out)
  replace HF_clockL := hid (owns_below HF_clockL.out HD.out)
  replace HN_a := hid (owns_below HN_a.out HD.out)
  replace HB0 := hid (up_trans HB0.out HD.out)
  have hs14 := HD.out.size
  clear b HD
  go_wp2_with fail
  refine (ltext_any ⟨#[58]⟩ _).mono ?_
  rintro e u16 ⟨rfl, b⟩
  have HD := hid b
  replace HF_dayL := hid (owns_below HF_dayL.out HD.out)
  replace HF_clockL := hid (owns_below HF_clockL.out HD.out)
  replace HN_a := hid (owns_below HN_a.out HD.out)
  replace HB0 := hid (up_trans HB0.out HD.out)
  have hs15 := HD.out.size
  clear b HD
  go_wp2_with fail
  refine (lnumber_any 5 2 _).mono ?_
  rintro e u17 ⟨rfl, b⟩
  have HD := hid b
  replace HF_dayL := hid (owns_below HF_dayL.out HD.out)
  replace HF_clockL := hid (owns_below HF_clockL.out HD.out)
  replace HN_a := hid (owns_below HN_a.out HD.out)
  replace HB0 := hid (up_trans HB0.out HD.out)
  have hs16 := HD.out.size
  clear b HD
  have HUA : Hid (Below u17.heap.size u17 (u17.alloc (.cells #[.int .i64 0, .string ⟨#[32]⟩, .int .i64 0, .int .i64 0, .int .i64 0, .int .i64 1, .string ⟨#[]⟩, .int .i64 3, .int .i64 2, .int .i64 0, .int .i64 0, .string ⟨#[58]⟩, .int .i64 0, .int .i64 0, .int .i64 0, .int .i64 1, .string ⟨#[]⟩, .int .i64 4, .int .i64 2, .int .i64 0, .int .i64 0, .string ⟨#[58]⟩, .int .i64 0, .int .i64 0, .int .i64 0, .int .i64 1, .string ⟨#[]⟩, .int .i64 5, .int .i64 2, .int .i64 0] 51))) := hid (up_alloc _ _)
  have HLA := hid (cells_lit u17 51 (sixA.flatMap partCells) #[.int .i64 0, .string ⟨#[32]⟩, .int .i64 0, .int .i64 0, .int .i64 0, .int .i64 1, .string ⟨#[]⟩, .int .i64 3, .int .i64 2, .int .i64 0, .int .i64 0, .string ⟨#[58]⟩, .int .i64 0, .int .i64 0, .int .i64 0, .int .i64 1, .string ⟨#[]⟩, .int .i64 4, .int .i64 2, .int .i64 0, .int .i64 0, .string ⟨#[58]⟩, .int .i64 0, .int .i64 0, .int .i64 0, .int .i64 1, .string ⟨#[]⟩, .int .i64 5, .int .i64 2, .int .i64 0] sixA_cells _ 6 5 rfl (by kernel_rfl) (PartC.flat u17 sixA).ones)
  have HOA := hid (owns_below HN_a.out HUA.out)
  have hba : u10.heap.size + 1 ≤ (u17.alloc (.cells #[.int .i64 0, .string ⟨#[32]⟩, .int .i64 0, .int .i64 0, .int .i64 0, .int .i64 1, .string ⟨#[]⟩, .int .i64 3, .int .i64 2, .int .i64 0, .int .i64 0, .string ⟨#[58]⟩, .int .i64 0, .int .i64 0, .int .i64 0, .int .i64 1, .string ⟨#[]⟩, .int .i64 4, .int .i64 2, .int .i64 0, .int .i64 0, .string ⟨#[58]⟩, .int .i64 0, .int .i64 0, .int .i64 0, .int .i64 1, .string ⟨#[]⟩, .int .i64 5, .int .i64 2, .int .i64 0] 51)).heap.size := by have := HUA.out.size; omega
  go_wp2_with (at_builtin; first | (refine wpList_append_cells _ rfl (.tmp 20) (.tmp 27) 35 51 rfl (.agg #[.int .i64 0, .string ⟨#[]⟩, .int .i64 0, .int .i64 0, .int .i64 0]) 5 48 Tryz.underlying35 info_Part rfl (by decide) (by decide) (u10.heap.size + 1) _ 5 _ rfl HOA.out _ 6 _ rfl HLA.out (by decide) (hba) ?_; intro v' u18 h1 h2 h3; have HF_bothL : Hid (u18.ownsRow (u10.heap.size + 1) 51 5 v' 11 ((dayL ++ sixA).flatMap partCells)) := hid (by rw [List.flatMap_append]; exact h1); have HP : Hid (Below (u10.heap.size + 1) u17 u18) := hid ((HUA.out.mono (by omega)).grown h2 hba (fun q e => (World.ownsRow.lt HOA.out q e).1)); obtain ⟨g_sixA, cap_sixA, ev, _, hg_sixA⟩ := own_lit_at HF_bothL.out (by decide); subst ev; clear h1 h2 h3; replace HF_dayL := hid (own_lt HF_dayL.out HP.out (by omega)); replace HF_clockL := hid (own_lt HF_clockL.out HP.out (by omega)); have HOM := hid (own_made u18 51 5 u18.heap.size u18.heap.size (Nat.le_refl _) rfl); have HCE := hid ((own_cells HF_dayL.out (PartC.flat u18 dayL).ones).on (up_alloc u18 (.cells #[] 51)))) | (refine wpList_append_cells _ rfl (.tmp 29) (.tmp 30) 35 51 rfl (.agg #[.int .i64 0, .string ⟨#[]⟩, .int .i64 0, .int .i64 0, .int .i64 0]) 5 48 Tryz.underlying35 info_Part rfl (by decide) (by decide) (u18.heap.size) _ 0 _ rfl HOM.out _ 5 _ rfl HCE.out (by decide) (by simp) ?_; intro v' u19 h1 h2 h3; have HN_c : Hid (u19.ownsRow u18.heap.size 51 5 v' 5 (dayL.flatMap partCells)) := hid h1; have HG : Hid (Below u18.heap.size u18 u19) := hid ((up_alloc u18 (.cells #[] 51)).grown h2 (by simp) (fun q e => Nat.le_of_eq (Option.some.inj e))); obtain ⟨g_c, cap_c, ev_c, _⟩ := own_lit_at HN_c.out (by decide); subst ev_c; clear h1 h2 h3))
  have hs17 := HP.out.size
  have hs18 := HG.out.size
  replace HB0 := hid ((HB0.out.trans (HP.out.mono (by omega))).trans (HG.out.mono (by omega)))
  replace HF_dayL := hid (owns_below HF_dayL.out HG.out)
  replace HF_clockL := hid (owns_below HF_clockL.out HG.out)
  replace HF_bothL := hid (owns_below HF_bothL.out HG.out)
  clear HUA HLA HOA hba HN_a HP HG HOM HCE
  refine (ltext_any ⟨#[32, 116, 111, 32]⟩ _).mono ?_
  rintro e u20 ⟨rfl, b⟩
  have HD := hid b
  replace HF_dayL := hid (owns_below HF_dayL.out HD.out)
  replace HF_clockL := hid (owns_below HF_clockL.out HD.out)
  replace HF_bothL := hid (owns_below HF_bothL.out HD.out)
  replace HN_c := hid (owns_below HN_c.out HD.out)
  replace HB0 := hid (up_trans HB0.out HD.out)
  have hs19 := HD.out.size
  clear b HD
  go_wp2_with fail
  refine (lnumber_any 3 4 _).mono ?_
  rintro e u21 ⟨rfl, b⟩
  have HD := hid b
  replace HF_dayL := hid (owns_below HF_dayL.out HD.out)
  replace HF_clockL := hid (owns_below HF_clockL.out HD.out)
  replace HF_bothL := hid (owns_below HF_bothL.out HD.out)
  replace HN_c := hid (owns_below HN_c.out HD.out)
  replace HB0 := hid (up_trans HB0.out HD.out)
  have hs20 := HD.out.size
  clear b HD
  go_wp2_with fail
  refine (ltext_any ⟨#[45]⟩ _).mono ?_
  rintro e u22 ⟨rfl, b⟩
  have HD := hid b
  replace HF_dayL := hid (owns_below HF_dayL.out HD.out)
  replace HF_clockL := hid (owns_below HF_clockL.out HD.out)
  replace HF_bothL := hid (owns_below HF_bothL.out HD.out)
  replace HN_c := hid (owns_below HN_c.out HD.out)
  replace HB0 := hid (up_trans HB0.out HD.out)
  have hs21 := HD.out.size
  clear b HD
  go_wp2_with fail
  refine (lnumber_any 4 2 _).mono ?_
  rintro e u23 ⟨rfl, b⟩
  have HD := hid b
  replace HF_dayL := hid (owns_below HF_dayL.out HD.out)
  replace HF_clockL := hid (owns_below HF_clockL.out HD.out)
  replace HF_bothL := hid (owns_below HF_bothL.out HD.out)
  replace HN_c := hid (owns_below HN_c.out HD.out)
  replace HB0 := hid (up_trans HB0.out HD.out)
  have hs22 := HD.out.size
  clear b HD
  go_wp2_with fail
  refine (ltext_any ⟨#[45]⟩ _).mono ?_
  rintro e u24 ⟨rfl, b⟩
  have HD := hid b
  replace HF_dayL := hid (owns_below HF_dayL.out HD.out)
  replace HF_clockL := hid (owns_below HF_clockL.out HD.out)
  replace HF_bothL := hid (owns_below HF_bothL.out HD.out)
  replace HN_c := hid (owns_below HN_c.out HD.out)
  replace HB0 := hid (up_trans HB0.out HD.out)
  have hs23 := HD.out.size
  clear b HD
  go_wp2_with fail
  refine (lnumber_any 5 2 _).mono ?_
  rintro e u25 ⟨rfl, b⟩
  have HD := hid b
  replace HF_dayL := hid (owns_below HF_dayL.out HD.out)
  replace HF_clockL := hid (owns_below HF_clockL.out HD.out)
  replace HF_bothL := hid (owns_below HF_bothL.out HD.out)
  replace HN_c := hid (owns_below HN_c.out HD.out)
  replace HB0 := hid (up_trans HB0.out HD.out)
  have hs24 := HD.out.size
  clear b HD
  have HUA : Hid (Below u25.heap.size u25 (u25.alloc (.cells #[.int .i64 0, .string ⟨#[32, 116, 111, 32]⟩, .int .i64 0, .int .i64 0, .int .i64 0, .int .i64 1, .string ⟨#[]⟩, .int .i64 3, .int .i64 4, .int .i64 0, .int .i64 0, .string ⟨#[45]⟩, .int .i64 0, .int .i64 0, .int .i64 0, .int .i64 1, .string ⟨#[]⟩, .int .i64 4, .int .i64 2, .int .i64 0, .int .i64 0, .string ⟨#[45]⟩, .int .i64 0, .int .i64 0, .int .i64 0, .int .i64 1, .string ⟨#[]⟩, .int .i64 5, .int .i64 2, .int .i64 0] 51))) := hid (up_alloc _ _)
  have HLA := hid (cells_lit u25 51 (sixB.flatMap partCells) #[.int .i64 0, .string ⟨#[32, 116, 111, 32]⟩, .int .i64 0, .int .i64 0, .int .i64 0, .int .i64 1, .string ⟨#[]⟩, .int .i64 3, .int .i64 4, .int .i64 0, .int .i64 0, .string ⟨#[45]⟩, .int .i64 0, .int .i64 0, .int .i64 0, .int .i64 1, .string ⟨#[]⟩, .int .i64 4, .int .i64 2, .int .i64 0, .int .i64 0, .string ⟨#[45]⟩, .int .i64 0, .int .i64 0, .int .i64 0, .int .i64 1, .string ⟨#[]⟩, .int .i64 5, .int .i64 2, .int .i64 0] sixB_cells _ 6 5 rfl (by kernel_rfl) (PartC.flat u25 sixB).ones)
  have HOA := hid (owns_below HN_c.out HUA.out)
  have hba : u18.heap.size ≤ (u25.alloc (.cells #[.int .i64 0, .string ⟨#[32, 116, 111, 32]⟩, .int .i64 0, .int .i64 0, .int .i64 0, .int .i64 1, .string ⟨#[]⟩, .int .i64 3, .int .i64 4, .int .i64 0, .int .i64 0, .string ⟨#[45]⟩, .int .i64 0, .int .i64 0, .int .i64 0, .int .i64 1, .string ⟨#[]⟩, .int .i64 4, .int .i64 2, .int .i64 0, .int .i64 0, .string ⟨#[45]⟩, .int .i64 0, .int .i64 0, .int .i64 0, .int .i64 1, .string ⟨#[]⟩, .int .i64 5, .int .i64 2, .int .i64 0] 51)).heap.size := by have := HUA.out.size; omega
  go_wp2_with (at_builtin; refine wpList_append_cells _ rfl (.tmp 31) (.tmp 38) 35 51 rfl (.agg #[.int .i64 0, .string ⟨#[]⟩, .int .i64 0, .int .i64 0, .int .i64 0]) 5 48 Tryz.underlying35 info_Part rfl (by decide) (by decide) (u18.heap.size) _ 5 _ rfl HOA.out _ 6 _ rfl HLA.out (by decide) (hba) ?_; intro v' u26 h1 h2 h3; have HF_spanL : Hid (u26.ownsRow (u18.heap.size) 51 5 v' 11 ((dayL ++ sixB).flatMap partCells)) := hid (by rw [List.flatMap_append]; exact h1); have HP : Hid (Below (u18.heap.size) u25 u26) := hid ((HUA.out.mono (by omega)).grown h2 hba (fun q e => (World.ownsRow.lt HOA.out q e).1)); obtain ⟨g_sixB, cap_sixB, ev, _, hg_sixB⟩ := own_lit_at HF_spanL.out (by decide); subst ev; clear h1 h2 h3; replace HF_dayL := hid (own_lt HF_dayL.out HP.out (by omega)); replace HF_clockL := hid (own_lt HF_clockL.out HP.out (by omega)); replace HF_bothL := hid (own_lt HF_bothL.out HP.out (by omega)))
  have hs25 := HP.out.size
  replace HB0 := hid (HB0.out.trans (HP.out.mono (by omega)))
  clear HUA HLA HOA hba HN_c HP
  refine (lnumber_any 1 0 _).mono ?_
  rintro e u27 ⟨rfl, b⟩
  have HD := hid b
  replace HF_dayL := hid (owns_below HF_dayL.out HD.out)
  replace HF_clockL := hid (owns_below HF_clockL.out HD.out)
  replace HF_bothL := hid (owns_below HF_bothL.out HD.out)
  replace HF_spanL := hid (owns_below HF_spanL.out HD.out)
  replace HB0 := hid (up_trans HB0.out HD.out)
  have hs26 := HD.out.size
  clear b HD
  go_wp2_with fail
  refine (ltext_any ⟨#[46]⟩ _).mono ?_
  rintro e u28 ⟨rfl, b⟩
  have HD := hid b
  replace HF_dayL := hid (owns_below HF_dayL.out HD.out)
  replace HF_clockL := hid (owns_below HF_clockL.out HD.out)
  replace HF_bothL := hid (owns_below HF_bothL.out HD.out)
  replace HF_spanL := hid (owns_below HF_spanL.out HD.out)
  replace HB0 := hid (up_trans HB0.out HD.out)
  have hs27 := HD.out.size
  clear b HD
  go_wp2_with fail
  refine (lnumber_any 2 0 _).mono ?_
  rintro e u29 ⟨rfl, b⟩
  have HD := hid b
  replace HF_dayL := hid (owns_below HF_dayL.out HD.out)
  replace HF_clockL := hid (owns_below HF_clockL.out HD.out)
  replace HF_bothL := hid (owns_below HF_bothL.out HD.out)
  replace HF_spanL := hid (owns_below HF_spanL.out HD.out)
  replace HB0 := hid (up_trans HB0.out HD.out)
  have hs28 := HD.out.size
  clear b HD
  go_wp2_with fail
  refine (ltext_any ⟨#[32]⟩ _).mono ?_
  rintro e u30 ⟨rfl, b⟩
  have HD := hid b
  replace HF_dayL := hid (owns_below HF_dayL.out HD.out)
  replace HF_clockL := hid (owns_below HF_clockL.out HD.out)
  replace HF_bothL := hid (owns_below HF_bothL.out HD.out)
  replace HF_spanL := hid (owns_below HF_spanL.out HD.out)
  replace HB0 := hid (up_trans HB0.out HD.out)
  have hs29 := HD.out.size
  clear b HD
  have HO_moneyL := hid (own_lit u30 51 5 5 u30.heap.size #[.int .i64 1, .string ⟨#[]⟩, .int .i64 1, .int .i64 0, .int .i64 0, .int .i64 0, .string ⟨#[46]⟩, .int .i64 0, .int .i64 0, .int .i64 0, .int .i64 1, .string ⟨#[]⟩, .int .i64 2, .int .i64 0, .int .i64 0, .int .i64 0, .string ⟨#[32]⟩, .int .i64 0, .int .i64 0, .int .i64 0, .int .i64 2, .string ⟨#[]⟩, .int .i64 0, .int .i64 0, .int .i64 6] (moneyL.flatMap partCells) moneyL_cells rfl (by kernel_rfl) (by decide))
  go_wp2_with fail
  refine (lnumber_any 0 0 _).mono ?_
  rintro e u31 ⟨rfl, b⟩
  have HD := hid (up_trans (up_alloc u30 (.cells #[.int .i64 1, .string ⟨#[]⟩, .int .i64 1, .int .i64 0, .int .i64 0, .int .i64 0, .string ⟨#[46]⟩, .int .i64 0, .int .i64 0, .int .i64 0, .int .i64 1, .string ⟨#[]⟩, .int .i64 2, .int .i64 0, .int .i64 0, .int .i64 0, .string ⟨#[32]⟩, .int .i64 0, .int .i64 0, .int .i64 0, .int .i64 2, .string ⟨#[]⟩, .int .i64 0, .int .i64 0, .int .i64 6] 51)) b)
  replace HF_dayL := hid (owns_below HF_dayL.out HD.out)
  replace HF_clockL := hid (owns_below HF_clockL.out HD.out)
  replace HF_bothL := hid (owns_below HF_bothL.out HD.out)
  replace HF_spanL := hid (owns_below HF_spanL.out HD.out)
  have HF_moneyL := hid (owns_below HO_moneyL.out b)
  clear HO_moneyL
  replace HB0 := hid (up_trans HB0.out HD.out)
  have hs30 := HD.out.size
  clear b HD
  go_wp2_with fail
  refine (ltext_any ⟨#[46]⟩ _).mono ?_
  rintro e u32 ⟨rfl, b⟩
  have HD := hid b
  replace HF_dayL := hid (owns_below HF_dayL.out HD.out)
  replace HF_clockL := hid (owns_below HF_clockL.out HD.out)
  replace HF_bothL := hid (owns_below HF_bothL.out HD.out)
  replace HF_spanL := hid (owns_below HF_spanL.out HD.out)
  replace HF_moneyL := hid (owns_below HF_moneyL.out HD.out)
  replace HB0 := hid (up_trans HB0.out HD.out)
  have hs31 := HD.out.size
  clear b HD
  go_wp2_with fail
  refine (lnumber_any 1 1 _).mono ?_
  rintro e u33 ⟨rfl, b⟩
  have HD := hid b
  replace HF_dayL := hid (owns_below HF_dayL.out HD.out)
  replace HF_clockL := hid (owns_below HF_clockL.out HD.out)
  replace HF_bothL := hid (owns_below HF_bothL.out HD.out)
  replace HF_spanL := hid (owns_below HF_spanL.out HD.out)
  replace HF_moneyL := hid (owns_below HF_moneyL.out HD.out)
  replace HB0 := hid (up_trans HB0.out HD.out)
  have hs32 := HD.out.size
  clear b HD
  have HO_decP := hid (own_lit u33 51 5 3 u33.heap.size #[.int .i64 1, .string ⟨#[]⟩, .int .i64 0, .int .i64 0, .int .i64 0, .int .i64 0, .string ⟨#[46]⟩, .int .i64 0, .int .i64 0, .int .i64 0, .int .i64 1, .string ⟨#[]⟩, .int .i64 1, .int .i64 1, .int .i64 0] (decP.flatMap partCells) decP_cells rfl (by kernel_rfl) (by decide))
  go_wp2_with fail
  refine (lnumber_any 0 0 _).mono ?_
  rintro e u34 ⟨rfl, b⟩
  have HD := hid (up_trans (up_alloc u33 (.cells #[.int .i64 1, .string ⟨#[]⟩, .int .i64 0, .int .i64 0, .int .i64 0, .int .i64 0, .string ⟨#[46]⟩, .int .i64 0, .int .i64 0, .int .i64 0, .int .i64 1, .string ⟨#[]⟩, .int .i64 1, .int .i64 1, .int .i64 0] 51)) b)
  replace HF_dayL := hid (owns_below HF_dayL.out HD.out)
  replace HF_clockL := hid (owns_below HF_clockL.out HD.out)
  replace HF_bothL := hid (owns_below HF_bothL.out HD.out)
  replace HF_spanL := hid (owns_below HF_spanL.out HD.out)
  replace HF_moneyL := hid (owns_below HF_moneyL.out HD.out)
  have HF_decP := hid (owns_below HO_decP.out b)
  clear HO_decP
  replace HB0 := hid (up_trans HB0.out HD.out)
  have hs33 := HD.out.size
  clear b HD
  go_wp2_with fail
  refine (ltext_any ⟨#[32, 115]⟩ _).mono ?_
  rintro e u35 ⟨rfl, b⟩
  have HD := hid b
  replace HF_dayL := hid (owns_below HF_dayL.out HD.out)
  replace HF_clockL := hid (owns_below HF_clockL.out HD.out)
  replace HF_bothL := hid (owns_below HF_bothL.out HD.out)
  replace HF_spanL := hid (owns_below HF_spanL.out HD.out)
  replace HF_moneyL := hid (owns_below HF_moneyL.out HD.out)
  replace HF_decP := hid (owns_below HF_decP.out HD.out)
  replace HB0 := hid (up_trans HB0.out HD.out)
  have hs34 := HD.out.size
  clear b HD
  have HO_durL := hid (own_lit u35 51 5 2 u35.heap.size #[.int .i64 1, .string ⟨#[]⟩, .int .i64 0, .int .i64 0, .int .i64 0, .int .i64 0, .string ⟨#[32, 115]⟩, .int .i64 0, .int .i64 0, .int .i64 0] (durL.flatMap partCells) durL_cells rfl (by kernel_rfl) (by decide))
  go_wp2_with fail
  refine (lnumber_any 2 0 _).mono ?_
  rintro e u36 ⟨rfl, b⟩
  have HD := hid (up_trans (up_alloc u35 (.cells #[.int .i64 1, .string ⟨#[]⟩, .int .i64 0, .int .i64 0, .int .i64 0, .int .i64 0, .string ⟨#[32, 115]⟩, .int .i64 0, .int .i64 0, .int .i64 0] 51)) b)
  replace HF_dayL := hid (owns_below HF_dayL.out HD.out)
  replace HF_clockL := hid (owns_below HF_clockL.out HD.out)
  replace HF_bothL := hid (owns_below HF_bothL.out HD.out)
  replace HF_spanL := hid (owns_below HF_spanL.out HD.out)
  replace HF_moneyL := hid (owns_below HF_moneyL.out HD.out)
  replace HF_decP := hid (owns_below HF_decP.out HD.out)
  have HF_durL := hid (owns_below HO_durL.out b)
  clear HO_durL
  replace HB0 := hid (up_trans HB0.out HD.out)
  have hs35 := HD.out.size
  clear b HD
  go_wp2_with fail
  refine (ltext_any ⟨#[32]⟩ _).mono ?_
  rintro e u37 ⟨rfl, b⟩
  have HD := hid b
  replace HF_dayL := hid (owns_below HF_dayL.out HD.out)
  replace HF_clockL := hid (owns_below HF_clockL.out HD.out)
  replace HF_bothL := hid (owns_below HF_bothL.out HD.out)
  replace HF_spanL := hid (owns_below HF_spanL.out HD.out)
  replace HF_moneyL := hid (owns_below HF_moneyL.out HD.out)
  replace HF_decP := hid (owns_below HF_decP.out HD.out)
  replace HF_durL := hid (owns_below HF_durL.out HD.out)
  replace HB0 := hid (up_trans HB0.out HD.out)
  have hs36 := HD.out.size
  clear b HD
  go_wp2_with fail
  refine (ltext_any ⟨#[32]⟩ _).mono ?_
  rintro e u38 ⟨rfl, b⟩
  have HD := hid b
  replace HF_dayL := hid (owns_below HF_dayL.out HD.out)
  replace HF_clockL := hid (owns_below HF_clockL.out HD.out)
  replace HF_bothL := hid (owns_below HF_bothL.out HD.out)
  replace HF_spanL := hid (owns_below HF_spanL.out HD.out)
  replace HF_moneyL := hid (owns_below HF_moneyL.out HD.out)
  replace HF_decP := hid (owns_below HF_decP.out HD.out)
  replace HF_durL := hid (owns_below HF_durL.out HD.out)
  replace HB0 := hid (up_trans HB0.out HD.out)
  have hs37 := HD.out.size
  clear b HD
  go_wp2_with fail
  refine (lnumber_any 0 4 _).mono ?_
  rintro e u39 ⟨rfl, b⟩
  have HD := hid b
  replace HF_dayL := hid (owns_below HF_dayL.out HD.out)
  replace HF_clockL := hid (owns_below HF_clockL.out HD.out)
  replace HF_bothL := hid (owns_below HF_bothL.out HD.out)
  replace HF_spanL := hid (owns_below HF_spanL.out HD.out)
  replace HF_moneyL := hid (owns_below HF_moneyL.out HD.out)
  replace HF_decP := hid (owns_below HF_decP.out HD.out)
  replace HF_durL := hid (owns_below HF_durL.out HD.out)
  replace HB0 := hid (up_trans HB0.out HD.out)
  have hs38 := HD.out.size
  clear b HD
  have HO_lastL := hid (own_lit u39 51 5 5 u39.heap.size #[.int .i64 1, .string ⟨#[]⟩, .int .i64 2, .int .i64 0, .int .i64 0, .int .i64 0, .string ⟨#[32]⟩, .int .i64 0, .int .i64 0, .int .i64 0, .int .i64 2, .string ⟨#[]⟩, .int .i64 1, .int .i64 0, .int .i64 1, .int .i64 0, .string ⟨#[32]⟩, .int .i64 0, .int .i64 0, .int .i64 0, .int .i64 1, .string ⟨#[]⟩, .int .i64 0, .int .i64 4, .int .i64 0] (lastL.flatMap partCells) lastL_cells rfl (by kernel_rfl) (by decide))
  have HL1 := hid (up_alloc u39 (.cells #[.int .i64 1, .string ⟨#[]⟩, .int .i64 2, .int .i64 0, .int .i64 0, .int .i64 0, .string ⟨#[32]⟩, .int .i64 0, .int .i64 0, .int .i64 0, .int .i64 2, .string ⟨#[]⟩, .int .i64 1, .int .i64 0, .int .i64 1, .int .i64 0, .string ⟨#[32]⟩, .int .i64 0, .int .i64 0, .int .i64 0, .int .i64 1, .string ⟨#[]⟩, .int .i64 0, .int .i64 4, .int .i64 0] 51))
  have HL2 := hid (up_alloc (u39.alloc (.cells #[.int .i64 1, .string ⟨#[]⟩, .int .i64 2, .int .i64 0, .int .i64 0, .int .i64 0, .string ⟨#[32]⟩, .int .i64 0, .int .i64 0, .int .i64 0, .int .i64 2, .string ⟨#[]⟩, .int .i64 1, .int .i64 0, .int .i64 1, .int .i64 0, .string ⟨#[32]⟩, .int .i64 0, .int .i64 0, .int .i64 0, .int .i64 1, .string ⟨#[]⟩, .int .i64 0, .int .i64 4, .int .i64 0] 51)) (.cells #[.int .i64 4, .slice (some ⟨u5.heap.size, 0, none⟩) 5 5, .int .i64 5, .slice (some ⟨u10.heap.size, 0, none⟩) 5 5, .int .i64 6, .slice (some ⟨g_sixA, 0, none⟩) 11 cap_sixA, .int .i64 7, .slice (some ⟨u33.heap.size, 0, none⟩) 3 3, .int .i64 8, .slice (some ⟨u30.heap.size, 0, none⟩) 5 5, .int .i64 9, .slice (some ⟨u35.heap.size, 0, none⟩) 2 2, .int .i64 10, .slice (some ⟨g_sixB, 0, none⟩) 11 cap_sixB, .int .i64 4, .slice (some ⟨u39.heap.size, 0, none⟩) 5 5] 37))
  have HOS := hid (own_lit (u39.alloc (.cells #[.int .i64 1, .string ⟨#[]⟩, .int .i64 2, .int .i64 0, .int .i64 0, .int .i64 0, .string ⟨#[32]⟩, .int .i64 0, .int .i64 0, .int .i64 0, .int .i64 2, .string ⟨#[]⟩, .int .i64 1, .int .i64 0, .int .i64 1, .int .i64 0, .string ⟨#[32]⟩, .int .i64 0, .int .i64 0, .int .i64 0, .int .i64 1, .string ⟨#[]⟩, .int .i64 0, .int .i64 4, .int .i64 0] 51)) 37 2 8 (u39.heap.size + 1) #[.int .i64 4, .slice (some ⟨u5.heap.size, 0, none⟩) 5 5, .int .i64 5, .slice (some ⟨u10.heap.size, 0, none⟩) 5 5, .int .i64 6, .slice (some ⟨g_sixA, 0, none⟩) 11 cap_sixA, .int .i64 7, .slice (some ⟨u33.heap.size, 0, none⟩) 3 3, .int .i64 8, .slice (some ⟨u30.heap.size, 0, none⟩) 5 5, .int .i64 9, .slice (some ⟨u35.heap.size, 0, none⟩) 2 2, .int .i64 10, .slice (some ⟨g_sixB, 0, none⟩) 11 cap_sixB, .int .i64 4, .slice (some ⟨u39.heap.size, 0, none⟩) 5 5] [.int .i64 4, .slice (some ⟨u5.heap.size, 0, none⟩) 5 5, .int .i64 5, .slice (some ⟨u10.heap.size, 0, none⟩) 5 5, .int .i64 6, .slice (some ⟨g_sixA, 0, none⟩) 11 cap_sixA, .int .i64 7, .slice (some ⟨u33.heap.size, 0, none⟩) 3 3, .int .i64 8, .slice (some ⟨u30.heap.size, 0, none⟩) 5 5, .int .i64 9, .slice (some ⟨u35.heap.size, 0, none⟩) 2 2, .int .i64 10, .slice (some ⟨g_sixB, 0, none⟩) 11 cap_sixB, .int .i64 4, .slice (some ⟨u39.heap.size, 0, none⟩) 5 5] rfl (by simp) rfl (by decide))
  have HP_dayL := hid (owns_below (owns_below HF_dayL.out HL1.out) HL2.out)
  have HP_clockL := hid (owns_below (owns_below HF_clockL.out HL1.out) HL2.out)
  have HP_bothL := hid (owns_below (owns_below HF_bothL.out HL1.out) HL2.out)
  have HP_decP := hid (owns_below (owns_below HF_decP.out HL1.out) HL2.out)
  have HP_moneyL := hid (owns_below (owns_below HF_moneyL.out HL1.out) HL2.out)
  have HP_durL := hid (owns_below (owns_below HF_durL.out HL1.out) HL2.out)
  have HP_spanL := hid (owns_below (owns_below HF_spanL.out HL1.out) HL2.out)
  have HP_lastL := hid (owns_below HO_lastL.out HL2.out)
  go_wp2
  go_ret
  exact ⟨_, rfl, fun W kk => Styles_own (xs := stylesL) (own_keepL HOS.out (by decide) kk) ((StyleC.one W ⟨4, dayL⟩ _ (parts_of dayL (own_keepL HP_dayL.out (by decide) kk) rfl (by decide)) rfl).append ((StyleC.one W ⟨5, clockL⟩ _ (parts_of clockL (own_keepL HP_clockL.out (by decide) kk) rfl (by decide)) rfl).append ((StyleC.one W ⟨6, dayL ++ sixA⟩ _ (parts_of (dayL ++ sixA) (own_keepL HP_bothL.out (by decide) kk) rfl (by decide)) rfl).append ((StyleC.one W ⟨7, decP⟩ _ (parts_of decP (own_keepL HP_decP.out (by decide) kk) rfl (by decide)) rfl).append ((StyleC.one W ⟨8, moneyL⟩ _ (parts_of moneyL (own_keepL HP_moneyL.out (by decide) kk) rfl (by decide)) rfl).append ((StyleC.one W ⟨9, durL⟩ _ (parts_of durL (own_keepL HP_durL.out (by decide) kk) rfl (by decide)) rfl).append ((StyleC.one W ⟨10, dayL ++ sixB⟩ _ (parts_of (dayL ++ sixB) (own_keepL HP_spanL.out (by decide) kk) rfl (by decide)) rfl).append ((StyleC.one W ⟨4, lastL⟩ _ (parts_of lastL (own_keepL HP_lastL.out (by decide) kk) rfl (by decide)) rfl).append (StyleC.nil _))))))))) (by decide), (up_trans (up_trans HB0.out HL1.out) HL2.out)⟩
/-- It holds of a world that ends ahead of block g, and stands since. -/
def Low (wb w : World) (g : Nat) (P : World → Prop) : Prop := ∃ w0 : World, P w0 ∧ Below wb.heap.size wb w0 ∧ w0.heap.size ≤ g ∧ Below w0.heap.size w0 w
def sampleL (order digits : Int) : List Locale := [⟨⟨#[98, 97, 115, 101]⟩, -1, 0, wordsL, othersM 7, stylesL⟩, ⟨⟨#[101, 110]⟩, 0, 0, [], datesL (order % 3), []⟩, ⟨⟨#[97, 114, 45, 49]⟩, 1, digits % 4, [⟨⟨#[109, 97, 105]⟩, 1, 5⟩], [], []⟩]
set_option maxRecDepth 8000 in
set_option maxHeartbeats 4000000 in
theorem sample_any (order digits : Int) (w : World) : Calls Tryz.prog 47 #[.int .i64 order, .int .i64 digits] w fun e w' => ∃ g cs, e = .returned (.slice (some ⟨g, 0, none⟩) 3 3) ∧ w'.ownsRow w.heap.size 33 6 (.slice (some ⟨g, 0, none⟩) 3 3) 3 cs ∧ Low w w' g (fun W => LocaleC W cs (sampleL order digits)) ∧ Below w.heap.size w w' := by
  have HW := hid (fun w => swithin_any digits 4 w (by decide) (by decide))
  go_enter Tryz.func47, Tryz.ntmps47
  go_wp2_with fail
  refine (words_any w).mono ?_
  rintro e w1 ⟨v1, rfl, s1, b1⟩
  obtain ⟨ad1, cap1, e1, _⟩ := s1.now.shape
  rw [show wordsL.length = 22 from rfl] at e1
  subst e1
  have HS1 := hid s1
  have HB1 := hid b1
  clear s1 b1
  go_wp2_with fail
  refine (others_any w1).mono ?_
  rintro e w2 ⟨v2, rfl, s2, b2⟩
  obtain ⟨ad2, cap2, e2, _⟩ := s2.now.shape
  rw [othersM_length] at e2
  subst e2
  have HS2 := hid s2
  have HB2 := hid b2
  clear s2 b2
  go_wp2_with fail
  refine (styles_any w2).mono ?_
  rintro e w3 ⟨v3, rfl, s3, b3⟩
  obtain ⟨ad3, cap3, e3, _⟩ := s3.now.shape
  rw [show stylesL.length = 8 from rfl] at e3
  subst e3
  have HS3 := hid s3
  have HB3 := hid b3
  clear s3 b3
  go_wp2_with fail
  refine (dates_any order w3).mono ?_
  rintro e w4 ⟨v4, rfl, s4, b4⟩
  obtain ⟨ad4, cap4, e4, _⟩ := s4.now.shape
  rw [show ∀ k, (datesL k).length = 8 from fun _ => rfl] at e4
  subst e4
  have HS4 := hid s4
  have HB4 := hid b4
  clear s4 b4
  go_wp2_with fail
  refine (HW.out _).mono ?_
  rintro e wx ⟨rfl, rfl⟩
  have HO1 := hid (own_lit wx 49 3 1 wx.heap.size #[.string ⟨#[109, 97, 105]⟩, .int .i64 1, .int .i64 5] [.string ⟨#[109, 97, 105]⟩, .int .i64 1, .int .i64 5] rfl rfl rfl (by decide))
  have HL1 := hid (up_alloc wx (.cells #[.string ⟨#[109, 97, 105]⟩, .int .i64 1, .int .i64 5] 49))
  have HL2 := hid (up_alloc (wx.alloc (.cells #[.string ⟨#[109, 97, 105]⟩, .int .i64 1, .int .i64 5] 49)) (.cells #[.string ⟨#[98, 97, 115, 101]⟩, .int .i64 (-1), .int .i64 0, .slice ad1 22 cap1, .slice ad2 22 cap2, .slice ad3 8 cap3, .string ⟨#[101, 110]⟩, .int .i64 0, .int .i64 0, .slice none 0 0, .slice ad4 8 cap4, .slice none 0 0, .string ⟨#[97, 114, 45, 49]⟩, .int .i64 1, .int .i64 (digits % 4), .slice (some ⟨wx.heap.size, 0, none⟩) 1 1, .slice none 0 0, .slice none 0 0] 33))
  have HO2 := hid (own_lit (wx.alloc (.cells #[.string ⟨#[109, 97, 105]⟩, .int .i64 1, .int .i64 5] 49)) 33 6 3 (wx.heap.size + 1) #[.string ⟨#[98, 97, 115, 101]⟩, .int .i64 (-1), .int .i64 0, .slice ad1 22 cap1, .slice ad2 22 cap2, .slice ad3 8 cap3, .string ⟨#[101, 110]⟩, .int .i64 0, .int .i64 0, .slice none 0 0, .slice ad4 8 cap4, .slice none 0 0, .string ⟨#[97, 114, 45, 49]⟩, .int .i64 1, .int .i64 (digits % 4), .slice (some ⟨wx.heap.size, 0, none⟩) 1 1, .slice none 0 0, .slice none 0 0] [.string ⟨#[98, 97, 115, 101]⟩, .int .i64 (-1), .int .i64 0, .slice ad1 22 cap1, .slice ad2 22 cap2, .slice ad3 8 cap3, .string ⟨#[101, 110]⟩, .int .i64 0, .int .i64 0, .slice none 0 0, .slice ad4 8 cap4, .slice none 0 0, .string ⟨#[97, 114, 45, 49]⟩, .int .i64 1, .int .i64 (digits % 4), .slice (some ⟨wx.heap.size, 0, none⟩) 1 1, .slice none 0 0, .slice none 0 0] rfl (by simp) rfl (by decide))
  have HB := hid (up_trans (up_trans (up_trans (up_trans (up_trans HB1.out HB2.out) HB3.out) HB4.out) HL1.out) HL2.out)
  have hsz : w.heap.size ≤ wx.heap.size + 1 := by have h1 := HB1.out.size; have h2 := HB2.out.size; have h3 := HB3.out.size; have h4 := HB4.out.size; omega
  go_wp2
  go_ret
  refine ⟨_, _, rfl, own_base HO2.out hsz, ⟨wx.alloc (.cells #[.string ⟨#[109, 97, 105]⟩, .int .i64 1, .int .i64 5] 49), ?_, up_trans (up_trans (up_trans (up_trans HB1.out HB2.out) HB3.out) HB4.out) HL1.out, by simp, HL2.out⟩, HB.out⟩
  obtain ⟨W, hWW⟩ : ∃ W, W = wx.alloc (.cells #[.string ⟨#[109, 97, 105]⟩, .int .i64 1, .int .i64 5] 49) := ⟨_, rfl⟩
  rw [← hWW] at HL1 HO1 ⊢
  have k4 := KeepL.up HL1.out
  have k3 := (KeepL.up HB4.out).trans k4
  have k2 := (KeepL.up HB3.out).trans k3
  have k1 := (KeepL.up HB2.out).trans k2
  exact (LocaleC.one W ⟨⟨#[98, 97, 115, 101]⟩, -1, 0, wordsL, othersM 7, stylesL⟩ _ _ _ (HS1.out W k1) (HS2.out W k2) (HS3.out W k3) rfl rfl rfl).append ((LocaleC.one W ⟨⟨#[101, 110]⟩, 0, 0, [], datesL (order % 3), []⟩ _ _ _ (EntriesAt.nil _) (HS4.out W k4) (StylesAt.nil _) rfl rfl rfl).append (LocaleC.one W ⟨⟨#[97, 114, 45, 49]⟩, 1, digits % 4, [⟨⟨#[109, 97, 105]⟩, 1, 5⟩], [], []⟩ _ _ _ (Entries_own HO1.out (EntryC.one W ⟨⟨#[109, 97, 105]⟩, 1, 5⟩) (by simp)) (RulesOk.nil _) (StylesAt.nil _) rfl rfl rfl))

end Go.Proofs.YtannndpamhgknaaGreatDoor.Bl
