/- What the sample is made of: a rule, a part, its words, its rules of days. -/
import Derived.Test.YtannndpamhgknaaGreatDoorXBl2
import Derived.Test.YtannndpamhgknaaGreatDoorGrLeaf
import Derived.Test.YtannndpamhgknaaGreatDoorProg
import Derived.Lib.LaidTab
import Derived.ChangeArms
namespace Go.Proofs.YtannndpamhgknaaGreatDoor.Bl
open Go.RowKit Gr

theorem tmod_neg (n d : Int) (hd : 0 < d) (h : n.tmod d < 0) : n.tmod d + d = n % d := by
  rw [Int.tmod_eq_emod] at *
  have h4 := Int.emod_nonneg n (show d ≠ 0 by omega)
  split at h
  · omega
  · rename_i hc; rw [if_neg hc]; omega
theorem tmod_pos (n d : Int) (hd : 0 < d) (h : 0 ≤ n.tmod d) : n.tmod d = n % d := by
  rw [Int.tmod_eq_emod] at *
  have h5 := Int.emod_lt_of_pos n hd
  split at h
  · rename_i hc; rw [if_pos hc]; omega
  · omega
theorem swithin_any (a n : Int) (w : World) (hn : 0 < n) (hn1 : n ≤ 100000000) : Calls Tryz.prog 48 #[.int .i64 a, .int .i64 n] w fun e w' => e = .returned (.int .i64 (a % n)) ∧ w' = w := by
  have hz : (n == 0) = false := by simp; omega
  have hm1 : n ≠ -1 := by omega
  have hz' : n ≠ 0 := by omega
  have t1 : -n < a.tmod n ∧ a.tmod n < n := by
    rw [Int.tmod_eq_emod]
    have h4 := Int.emod_nonneg a (show n ≠ 0 by omega)
    have h5 := Int.emod_lt_of_pos a hn
    have h6 : ((n.natAbs : Nat) : Int) = n := by omega
    split
    · omega
    · rename_i hc
      have : a % n ≠ 0 := fun h => hc (Or.inr (Int.dvd_of_emod_eq_zero h))
      omega
  by_cases h : a.tmod n < 0
  · have E := hid (tmod_neg a n hn h)
    generalize a % n = q at *
    go_enter Tryz.func48, Tryz.ntmps48
    go_wp2
    go_ret
    exact ⟨ret_int E.out, rfl⟩
  · have E := hid (tmod_pos a n hn (by omega))
    generalize a % n = q at *
    go_enter Tryz.func48, Tryz.ntmps48
    go_wp2
    go_ret
    exact ⟨ret_int E.out, rfl⟩
set_option maxRecDepth 8000 in
theorem lrule_any (lhs op cost : Int) (ad0 ad1 : Option Addr) (n0 c0 n1 c1 : Nat) (w : World) : Calls Tryz.prog 104 #[.int .i64 lhs, .slice ad0 n0 c0, .int .i64 op, .slice ad1 n1 c1, .int .i64 cost] w fun e w' => e = .returned (.agg #[.int .i64 lhs, .slice ad0 n0 c0, .int .i64 op, .slice ad1 n1 c1, .int .i64 cost]) ∧ Below w.heap.size w w' := by
  have HX := hid (row_new w (.cells #[.int .i64 lhs, .slice ad0 n0 c0, .int .i64 op, .slice ad1 n1 c1, .int .i64 cost] 120))
  have HU := hid (up_alloc w (.cells #[.int .i64 lhs, .slice ad0 n0 c0, .int .i64 op, .slice ad1 n1 c1, .int .i64 cost] 120))
  go_enter Tryz.func104, Tryz.ntmps104
  go_wp2
  exact bodyPost_ret (v := .agg #[.int .i64 lhs, .slice ad0 n0 c0, .int .i64 op, .slice ad1 n1 c1, .int .i64 cost]) (results_cell_row rfl _ _ w.heap.size 120 _ (0, 0) _ rfl HX.out Tryz.underlying120 rfl (by kernel_rfl)) rfl ⟨rfl, HU.out⟩
set_option maxRecDepth 8000 in
theorem lnumber_any (f wd : Int) (w : World) : Calls Tryz.prog 105 #[.int .i64 f, .int .i64 wd] w fun e w' => e = .returned (.agg #[.int .i64 1, .string ⟨#[]⟩, .int .i64 f, .int .i64 wd, .int .i64 0]) ∧ Below w.heap.size w w' := by
  have HX := hid (row_new w (.cells #[.int .i64 1, .string ⟨#[]⟩, .int .i64 f, .int .i64 wd, .int .i64 0] 51))
  have HU := hid (up_alloc w (.cells #[.int .i64 1, .string ⟨#[]⟩, .int .i64 f, .int .i64 wd, .int .i64 0] 51))
  go_enter Tryz.func105, Tryz.ntmps105
  go_wp2
  exact bodyPost_ret (v := .agg #[.int .i64 1, .string ⟨#[]⟩, .int .i64 f, .int .i64 wd, .int .i64 0]) (results_cell_row rfl _ _ w.heap.size 51 _ (0, 0) _ rfl HX.out Tryz.underlying51 rfl (by kernel_rfl)) rfl ⟨rfl, HU.out⟩
set_option maxRecDepth 8000 in
theorem ltext_any (s : ByteArray) (w : World) : Calls Tryz.prog 106 #[.string s] w fun e w' => e = .returned (.agg #[.int .i64 0, .string s, .int .i64 0, .int .i64 0, .int .i64 0]) ∧ Below w.heap.size w w' := by
  have HX := hid (row_new w (.cells #[.int .i64 0, .string s, .int .i64 0, .int .i64 0, .int .i64 0] 51))
  have HU := hid (up_alloc w (.cells #[.int .i64 0, .string s, .int .i64 0, .int .i64 0, .int .i64 0] 51))
  go_enter Tryz.func106, Tryz.ntmps106
  go_wp2
  exact bodyPost_ret (v := .agg #[.int .i64 0, .string s, .int .i64 0, .int .i64 0, .int .i64 0]) (results_cell_row rfl _ _ w.heap.size 51 _ (0, 0) _ rfl HX.out Tryz.underlying51 rfl (by kernel_rfl)) rfl ⟨rfl, HU.out⟩
theorem row_stay (w : World) (l : List Int) (a : Array Value) (ha : a = (l.map (Value.int .i64)).toArray) (n g : Nat) (hn : l.length = n) (hg : g = w.heap.size) (hl : n ≤ 100) : Stay (w.alloc (.cells a 3)) (fun W => Row W (.slice (some ⟨g, 0, none⟩) n n) l) := by
  subst hn
  exact fun W k => own_int_row (own_keep (own_lit w 3 1 l.length g a (l.map (Value.int .i64)) ha hg (by simp) (by omega)) (.inr rfl) k) (by omega)
/-- A rule of two rows that the text itself wrote down. -/
theorem lrule_lit (lhs op cost : Int) (rhs p : List Int) (a1 a2 : Array Value) (h1 : a1 = (rhs.map (Value.int .i64)).toArray) (h2 : a2 = (p.map (Value.int .i64)).toArray) (n1 n2 : Nat) (hn1 : rhs.length = n1) (hn2 : p.length = n2) (hl : n1 ≤ 100 ∧ n2 ≤ 100) (w : World) (g0 g1 : Nat) (hg0 : g0 = w.heap.size) (hg1 : g1 = w.heap.size + 1) :
    Calls Tryz.prog 104 #[.int .i64 lhs, .slice (some ⟨g0, 0, none⟩) n1 n1, .int .i64 op, .slice (some ⟨g1, 0, none⟩) n2 n2, .int .i64 cost] ((w.alloc (.cells a1 3)).alloc (.cells a2 3)) fun e w' => e = .returned (.agg #[.int .i64 lhs, .slice (some ⟨g0, 0, none⟩) n1 n1, .int .i64 op, .slice (some ⟨g1, 0, none⟩) n2 n2, .int .i64 cost]) ∧ (Stay w' (fun W => Row W (.slice (some ⟨g0, 0, none⟩) n1 n1) rhs) ∧ Stay w' (fun W => Row W (.slice (some ⟨g1, 0, none⟩) n2 n2) p)) ∧ Below w.heap.size w w' := by
  refine (lrule_any lhs op cost _ _ n1 n1 n2 n2 _).mono ?_
  rintro e w' ⟨rfl, hb⟩
  exact ⟨rfl, ⟨((row_stay w rhs a1 h1 n1 g0 hn1 hg0 hl.1).step (Keep.up (up_alloc _ _))).step (Keep.up hb), (row_stay (w.alloc (.cells a1 3)) p a2 h2 n2 g1 hn2 (by rw [hg1]; simp) hl.2).step (Keep.up hb)⟩, (((Below.refl w.heap.size w).alloc (Nat.le_refl _) (.cells a1 3)).alloc (by simp) (.cells a2 3)).trans (hb.mono (by simp; omega))⟩
def wordsL : List Entry := [⟨⟨#[106, 97, 110]⟩, 1, 1⟩, ⟨⟨#[102, 101, 98, 114, 117, 97, 114, 121]⟩, 1, 2⟩, ⟨⟨#[109, 97, 121]⟩, 1, 5⟩, ⟨⟨#[100, 101, 99]⟩, 1, 12⟩, ⟨⟨#[109, 111, 110, 100, 97, 121]⟩, 2, 0⟩, ⟨⟨#[102, 114, 105, 100, 97, 121]⟩, 2, 4⟩, ⟨⟨#[100, 97, 121]⟩, 3, 1⟩, ⟨⟨#[100, 97, 121, 115]⟩, 3, 1⟩, ⟨⟨#[119, 101, 101, 107]⟩, 3, 2⟩, ⟨⟨#[109, 111, 110, 116, 104, 115]⟩, 3, 3⟩, ⟨⟨#[97, 103, 111]⟩, 4, (-1)⟩, ⟨⟨#[104, 101, 110, 99, 101]⟩, 4, 1⟩, ⟨⟨#[97, 109]⟩, 5, 0⟩, ⟨⟨#[112, 109]⟩, 5, 1⟩, ⟨⟨#[101, 117, 114]⟩, 6, 9782⟩, ⟨⟨#[226, 130, 172]⟩, 6, 9782⟩, ⟨⟨#[121, 101, 110]⟩, 6, 3920⟩, ⟨⟨#[115]⟩, 7, 1⟩, ⟨⟨#[109, 105, 110]⟩, 7, 60⟩, ⟨⟨#[104]⟩, 7, 3600⟩, ⟨⟨#[116, 111]⟩, 8, 0⟩, ⟨⟨#[97]⟩, 9, 1⟩]
def entryCells (x : Entry) : List Value := [.string x.text, .int .i64 x.cls, .int .i64 x.val]
theorem EntryC.flat (W : World) : ∀ xs : List Entry, EntryC W (xs.flatMap entryCells) xs
  | [] => EntryC.nil W
  | x :: xs => by
    rw [List.flatMap_cons]
    exact (EntryC.one W x).append (EntryC.flat W xs)
theorem words_cells : #[.string ⟨#[106, 97, 110]⟩, .int .i64 1, .int .i64 1, .string ⟨#[102, 101, 98, 114, 117, 97, 114, 121]⟩, .int .i64 1, .int .i64 2, .string ⟨#[109, 97, 121]⟩, .int .i64 1, .int .i64 5, .string ⟨#[100, 101, 99]⟩, .int .i64 1, .int .i64 12, .string ⟨#[109, 111, 110, 100, 97, 121]⟩, .int .i64 2, .int .i64 0, .string ⟨#[102, 114, 105, 100, 97, 121]⟩, .int .i64 2, .int .i64 4, .string ⟨#[100, 97, 121]⟩, .int .i64 3, .int .i64 1, .string ⟨#[100, 97, 121, 115]⟩, .int .i64 3, .int .i64 1, .string ⟨#[119, 101, 101, 107]⟩, .int .i64 3, .int .i64 2, .string ⟨#[109, 111, 110, 116, 104, 115]⟩, .int .i64 3, .int .i64 3, .string ⟨#[97, 103, 111]⟩, .int .i64 4, .int .i64 (-1), .string ⟨#[104, 101, 110, 99, 101]⟩, .int .i64 4, .int .i64 1, .string ⟨#[97, 109]⟩, .int .i64 5, .int .i64 0, .string ⟨#[112, 109]⟩, .int .i64 5, .int .i64 1, .string ⟨#[101, 117, 114]⟩, .int .i64 6, .int .i64 9782, .string ⟨#[226, 130, 172]⟩, .int .i64 6, .int .i64 9782, .string ⟨#[121, 101, 110]⟩, .int .i64 6, .int .i64 3920, .string ⟨#[115]⟩, .int .i64 7, .int .i64 1, .string ⟨#[109, 105, 110]⟩, .int .i64 7, .int .i64 60, .string ⟨#[104]⟩, .int .i64 7, .int .i64 3600, .string ⟨#[116, 111]⟩, .int .i64 8, .int .i64 0, .string ⟨#[97]⟩, .int .i64 9, .int .i64 1] = (wordsL.flatMap entryCells).toArray := by kernel_rfl
set_option maxRecDepth 8000 in
set_option maxHeartbeats 8000000 in
theorem words_any (w : World) : Calls Tryz.prog 71 #[] w fun e w' => ∃ v, e = .returned v ∧ Stl w' (fun W => EntriesAt W v wordsL) ∧ Below w.heap.size w w' := by
  have HO := hid (own_lit w 49 3 22 w.heap.size #[.string ⟨#[106, 97, 110]⟩, .int .i64 1, .int .i64 1, .string ⟨#[102, 101, 98, 114, 117, 97, 114, 121]⟩, .int .i64 1, .int .i64 2, .string ⟨#[109, 97, 121]⟩, .int .i64 1, .int .i64 5, .string ⟨#[100, 101, 99]⟩, .int .i64 1, .int .i64 12, .string ⟨#[109, 111, 110, 100, 97, 121]⟩, .int .i64 2, .int .i64 0, .string ⟨#[102, 114, 105, 100, 97, 121]⟩, .int .i64 2, .int .i64 4, .string ⟨#[100, 97, 121]⟩, .int .i64 3, .int .i64 1, .string ⟨#[100, 97, 121, 115]⟩, .int .i64 3, .int .i64 1, .string ⟨#[119, 101, 101, 107]⟩, .int .i64 3, .int .i64 2, .string ⟨#[109, 111, 110, 116, 104, 115]⟩, .int .i64 3, .int .i64 3, .string ⟨#[97, 103, 111]⟩, .int .i64 4, .int .i64 (-1), .string ⟨#[104, 101, 110, 99, 101]⟩, .int .i64 4, .int .i64 1, .string ⟨#[97, 109]⟩, .int .i64 5, .int .i64 0, .string ⟨#[112, 109]⟩, .int .i64 5, .int .i64 1, .string ⟨#[101, 117, 114]⟩, .int .i64 6, .int .i64 9782, .string ⟨#[226, 130, 172]⟩, .int .i64 6, .int .i64 9782, .string ⟨#[121, 101, 110]⟩, .int .i64 6, .int .i64 3920, .string ⟨#[115]⟩, .int .i64 7, .int .i64 1, .string ⟨#[109, 105, 110]⟩, .int .i64 7, .int .i64 60, .string ⟨#[104]⟩, .int .i64 7, .int .i64 3600, .string ⟨#[116, 111]⟩, .int .i64 8, .int .i64 0, .string ⟨#[97]⟩, .int .i64 9, .int .i64 1] (wordsL.flatMap entryCells) words_cells rfl (by kernel_rfl) (by decide))
  have HU := hid (up_alloc w (.cells #[.string ⟨#[106, 97, 110]⟩, .int .i64 1, .int .i64 1, .string ⟨#[102, 101, 98, 114, 117, 97, 114, 121]⟩, .int .i64 1, .int .i64 2, .string ⟨#[109, 97, 121]⟩, .int .i64 1, .int .i64 5, .string ⟨#[100, 101, 99]⟩, .int .i64 1, .int .i64 12, .string ⟨#[109, 111, 110, 100, 97, 121]⟩, .int .i64 2, .int .i64 0, .string ⟨#[102, 114, 105, 100, 97, 121]⟩, .int .i64 2, .int .i64 4, .string ⟨#[100, 97, 121]⟩, .int .i64 3, .int .i64 1, .string ⟨#[100, 97, 121, 115]⟩, .int .i64 3, .int .i64 1, .string ⟨#[119, 101, 101, 107]⟩, .int .i64 3, .int .i64 2, .string ⟨#[109, 111, 110, 116, 104, 115]⟩, .int .i64 3, .int .i64 3, .string ⟨#[97, 103, 111]⟩, .int .i64 4, .int .i64 (-1), .string ⟨#[104, 101, 110, 99, 101]⟩, .int .i64 4, .int .i64 1, .string ⟨#[97, 109]⟩, .int .i64 5, .int .i64 0, .string ⟨#[112, 109]⟩, .int .i64 5, .int .i64 1, .string ⟨#[101, 117, 114]⟩, .int .i64 6, .int .i64 9782, .string ⟨#[226, 130, 172]⟩, .int .i64 6, .int .i64 9782, .string ⟨#[121, 101, 110]⟩, .int .i64 6, .int .i64 3920, .string ⟨#[115]⟩, .int .i64 7, .int .i64 1, .string ⟨#[109, 105, 110]⟩, .int .i64 7, .int .i64 60, .string ⟨#[104]⟩, .int .i64 7, .int .i64 3600, .string ⟨#[116, 111]⟩, .int .i64 8, .int .i64 0, .string ⟨#[97]⟩, .int .i64 9, .int .i64 1] 49))
  go_enter Tryz.func71, Tryz.ntmps71
  go_wp2
  go_ret
  exact ⟨_, rfl, fun W k => Entries_own (xs := wordsL) (own_keepL HO.out (by decide) k) (EntryC.flat _ _) (by decide), HU.out⟩
def datesP (k : Int) : List Int := if k = 0 then [4, 2, 0] else if k = 1 then [4, 0, 2] else [0, 2, 4]
def datesL (k : Int) : List Rule := [⟨1, [-1, -51, -1, -51, -1], 1, datesP k, 1⟩, ⟨1, [(-1), (-52), (-1), (-52), (-1)], 1, [0, 2, 4], 0⟩, ⟨1, [(-1), (-2), (-1)], 1, [2, 1, 0], 0⟩, ⟨1, [(-2), (-1)], 2, [0, 1], 2⟩, ⟨1, [8, (-4), (-5)], 6, [0, 1, 2], 1⟩, ⟨1, [(-3)], 7, [0], 1⟩, ⟨8, [(-1)], 0, [0], 0⟩, ⟨8, [(-10)], 0, [0], 0⟩]
set_option maxRecDepth 8000 in
set_option maxHeartbeats 4000000 in
theorem dates_any (order : Int) (w : World) : Calls Tryz.prog 74 #[.int .i64 order] w fun e w' => ∃ v, e = .returned v ∧ Stl w' (fun W => RulesOk W v (datesL (order % 3))) ∧ Below w.heap.size w w' := by
  have HW := hid (fun w => swithin_any order 3 w (by decide) (by decide))
  have hk : order % 3 = 0 ∨ order % 3 = 1 ∨ order % 3 = 2 := by omega
  generalize order % 3 = k at *
  have HR0 := hid ((((row_stay w [4, 2, 0] #[.int .i64 4, .int .i64 2, .int .i64 0] rfl 3 _ rfl rfl (by decide)).step (Keep.up (up_alloc _ (.cells #[.int .i64 4, .int .i64 0, .int .i64 2] 3)))).step (Keep.up (up_alloc _ (.cells #[.int .i64 0, .int .i64 2, .int .i64 4] 3)))).step (Keep.up (up_alloc _ (.cells #[.slice (some ⟨w.heap.size, 0, none⟩) 3 3, .slice (some ⟨w.heap.size + 1, 0, none⟩) 3 3, .slice (some ⟨w.heap.size + 1 + 1, 0, none⟩) 3 3] 25))))
  have HR1 := hid (((row_stay (w.alloc (.cells #[.int .i64 4, .int .i64 2, .int .i64 0] 3)) [4, 0, 2] #[.int .i64 4, .int .i64 0, .int .i64 2] rfl 3 (w.heap.size + 1) rfl (by simp) (by decide)).step (Keep.up (up_alloc _ (.cells #[.int .i64 0, .int .i64 2, .int .i64 4] 3)))).step (Keep.up (up_alloc _ (.cells #[.slice (some ⟨w.heap.size, 0, none⟩) 3 3, .slice (some ⟨w.heap.size + 1, 0, none⟩) 3 3, .slice (some ⟨w.heap.size + 1 + 1, 0, none⟩) 3 3] 25))))
  have HR2 := hid ((row_stay ((w.alloc (.cells #[.int .i64 4, .int .i64 2, .int .i64 0] 3)).alloc (.cells #[.int .i64 4, .int .i64 0, .int .i64 2] 3)) [0, 2, 4] #[.int .i64 0, .int .i64 2, .int .i64 4] rfl 3 (w.heap.size + 1 + 1) rfl (by simp) (by decide)).step (Keep.up (up_alloc _ (.cells #[.slice (some ⟨w.heap.size, 0, none⟩) 3 3, .slice (some ⟨w.heap.size + 1, 0, none⟩) 3 3, .slice (some ⟨w.heap.size + 1 + 1, 0, none⟩) 3 3] 25))))
  have HU : Hid (Below w.heap.size w ((((w.alloc (.cells #[.int .i64 4, .int .i64 2, .int .i64 0] 3)).alloc (.cells #[.int .i64 4, .int .i64 0, .int .i64 2] 3)).alloc (.cells #[.int .i64 0, .int .i64 2, .int .i64 4] 3)).alloc (.cells #[.slice (some ⟨w.heap.size, 0, none⟩) 3 3, .slice (some ⟨w.heap.size + 1, 0, none⟩) 3 3, .slice (some ⟨w.heap.size + 1 + 1, 0, none⟩) 3 3] 25))) := hid (((((Below.refl _ _).alloc (Nat.le_refl _) _).alloc (by simp) _).alloc (by simp; omega) _).alloc (by simp; omega) _)
  have c0 : ((((w.alloc (.cells #[.int .i64 4, .int .i64 2, .int .i64 0] 3)).alloc (.cells #[.int .i64 4, .int .i64 0, .int .i64 2] 3)).alloc (.cells #[.int .i64 0, .int .i64 2, .int .i64 4] 3)).alloc (.cells #[.slice (some ⟨w.heap.size, 0, none⟩) 3 3, .slice (some ⟨w.heap.size + 1, 0, none⟩) 3 3, .slice (some ⟨w.heap.size + 1 + 1, 0, none⟩) 3 3] 25)).cell? ⟨w.heap.size + 1 + 1 + 1, 0, none⟩ = some (.slice (some ⟨w.heap.size, 0, none⟩) 3 3) := by rw [cell_of_row _ _ _ _ _ _ (row_new' _ _ _ (by simp))]; rfl
  have c1 : ((((w.alloc (.cells #[.int .i64 4, .int .i64 2, .int .i64 0] 3)).alloc (.cells #[.int .i64 4, .int .i64 0, .int .i64 2] 3)).alloc (.cells #[.int .i64 0, .int .i64 2, .int .i64 4] 3)).alloc (.cells #[.slice (some ⟨w.heap.size, 0, none⟩) 3 3, .slice (some ⟨w.heap.size + 1, 0, none⟩) 3 3, .slice (some ⟨w.heap.size + 1 + 1, 0, none⟩) 3 3] 25)).cell? ⟨w.heap.size + 1 + 1 + 1, 1, none⟩ = some (.slice (some ⟨w.heap.size + 1, 0, none⟩) 3 3) := by rw [cell_of_row _ _ _ _ _ _ (row_new' _ _ _ (by simp))]; rfl
  have c2 : ((((w.alloc (.cells #[.int .i64 4, .int .i64 2, .int .i64 0] 3)).alloc (.cells #[.int .i64 4, .int .i64 0, .int .i64 2] 3)).alloc (.cells #[.int .i64 0, .int .i64 2, .int .i64 4] 3)).alloc (.cells #[.slice (some ⟨w.heap.size, 0, none⟩) 3 3, .slice (some ⟨w.heap.size + 1, 0, none⟩) 3 3, .slice (some ⟨w.heap.size + 1 + 1, 0, none⟩) 3 3] 25)).cell? ⟨w.heap.size + 1 + 1 + 1, 2, none⟩ = some (.slice (some ⟨w.heap.size + 1 + 1, 0, none⟩) 3 3) := by rw [cell_of_row _ _ _ _ _ _ (row_new' _ _ _ (by simp))]; rfl
  go_enter Tryz.func74, Tryz.ntmps74
  go_wp2_with fail
  obtain ⟨w0, hw0⟩ : ∃ w0, w0 = (((w.alloc (.cells #[.int .i64 4, .int .i64 2, .int .i64 0] 3)).alloc (.cells #[.int .i64 4, .int .i64 0, .int .i64 2] 3)).alloc (.cells #[.int .i64 0, .int .i64 2, .int .i64 4] 3)).alloc (.cells #[.slice (some ⟨w.heap.size, 0, none⟩) 3 3, .slice (some ⟨w.heap.size + 1, 0, none⟩) 3 3, .slice (some ⟨w.heap.size + 1 + 1, 0, none⟩) 3 3] 25) := ⟨_, rfl⟩
  rw [← hw0] at HR0 HR1 HR2 HU c0 c1 c2 ⊢
  clear hw0
  refine (HW.out _).mono ?_
  rintro e wx ⟨rfl, rfl⟩
  have HP : Hid (∃ g, (k = 0 ∧ g = w.heap.size ∨ k = 1 ∧ g = w.heap.size + 1 ∨ k = 2 ∧ g = w.heap.size + 1 + 1) ∧ Stay wx (fun W => Row W (.slice (some ⟨g, 0, none⟩) 3 3) (datesP k))) := hid (by
    rcases hk with rfl | rfl | rfl
    · exact ⟨_, .inl ⟨rfl, rfl⟩, HR0.out⟩
    · exact ⟨_, .inr (.inl ⟨rfl, rfl⟩), HR1.out⟩
    · exact ⟨_, .inr (.inr ⟨rfl, rfl⟩), HR2.out⟩)
  obtain ⟨gp, hgp, hrp⟩ := HP.out
  have HRP := hid hrp
  have hk0 : 0 ≤ k ∧ k < 3 := by omega
  have cp : wx.cell? ⟨w.heap.size + 1 + 1 + 1, k.toNat, none⟩ = some (.slice (some ⟨gp, 0, none⟩) 3 3) := by
    rcases hgp with ⟨rfl, rfl⟩ | ⟨rfl, rfl⟩ | ⟨rfl, rfl⟩
    · exact c0
    · exact c1
    · exact c2
  obtain ⟨kn, rfl⟩ : ∃ kn : Nat, k = (kn : Int) := ⟨k.toNat, by omega⟩
  rw [Int.toNat_natCast] at cp
  have hk3 : (kn : Int) < 3 := hk0.2
  have HU0 := hid HU.out
  clear hgp hrp HP c0 c1 c2 HR0 HR1 HR2 HU hk hk0
  obtain ⟨w0, hw0⟩ : ∃ w0, w0 = wx := ⟨_, rfl⟩
  subst hw0
  go_wp2_with fail
  refine (lrule_any 1 1 1 _ _ _ _ _ _ _).mono ?_
  rintro e w1 ⟨rfl, b0⟩
  have HQ0 := hid (And.intro ((row_stay w0 [(-1), (-51), (-1), (-51), (-1)] #[.int .i64 (-1), .int .i64 (-51), .int .i64 (-1), .int .i64 (-51), .int .i64 (-1)] rfl 5 _ rfl rfl (by decide)).step (Keep.up b0)) ((HRP.out.step (Keep.up (up_alloc _ _))).step (Keep.up b0)))
  have HD0 := hid (((up_alloc w0 (.cells #[.int .i64 (-1), .int .i64 (-51), .int .i64 (-1), .int .i64 (-51), .int .i64 (-1)] 3)).trans (b0.mono (by simp))))
  clear b0
  go_wp2_with fail
  refine (lrule_lit 1 1 0 [(-1), (-52), (-1), (-52), (-1)] [0, 2, 4] #[.int .i64 (-1), .int .i64 (-52), .int .i64 (-1), .int .i64 (-52), .int .i64 (-1)] #[.int .i64 0, .int .i64 2, .int .i64 4] rfl rfl 5 3 rfl rfl (by decide) w1 _ _ rfl rfl).mono ?_
  rintro e w2 ⟨rfl, q1, b1⟩
  have HQ1 := hid q1
  have HD1 := hid b1
  clear q1
  clear b1
  go_wp2_with fail
  refine (lrule_lit 1 1 0 [(-1), (-2), (-1)] [2, 1, 0] #[.int .i64 (-1), .int .i64 (-2), .int .i64 (-1)] #[.int .i64 2, .int .i64 1, .int .i64 0] rfl rfl 3 3 rfl rfl (by decide) w2 _ _ rfl rfl).mono ?_
  rintro e w3 ⟨rfl, q2, b2⟩
  have HQ2 := hid q2
  have HD2 := hid b2
  clear q2
  clear b2
  go_wp2_with fail
  refine (lrule_lit 1 2 2 [(-2), (-1)] [0, 1] #[.int .i64 (-2), .int .i64 (-1)] #[.int .i64 0, .int .i64 1] rfl rfl 2 2 rfl rfl (by decide) w3 _ _ rfl rfl).mono ?_
  rintro e w4 ⟨rfl, q3, b3⟩
  have HQ3 := hid q3
  have HD3 := hid b3
  clear q3
  clear b3
  go_wp2_with fail
  refine (lrule_lit 1 6 1 [8, (-4), (-5)] [0, 1, 2] #[.int .i64 8, .int .i64 (-4), .int .i64 (-5)] #[.int .i64 0, .int .i64 1, .int .i64 2] rfl rfl 3 3 rfl rfl (by decide) w4 _ _ rfl rfl).mono ?_
  rintro e w5 ⟨rfl, q4, b4⟩
  have HQ4 := hid q4
  have HD4 := hid b4
  clear q4
  clear b4
  go_wp2_with fail
  refine (lrule_lit 1 7 1 [(-3)] [0] #[.int .i64 (-3)] #[.int .i64 0] rfl rfl 1 1 rfl rfl (by decide) w5 _ _ rfl rfl).mono ?_
  rintro e w6 ⟨rfl, q5, b5⟩
  have HQ5 := hid q5
  have HD5 := hid b5
  clear q5
  clear b5
  go_wp2_with fail
  refine (lrule_lit 8 0 0 [(-1)] [0] #[.int .i64 (-1)] #[.int .i64 0] rfl rfl 1 1 rfl rfl (by decide) w6 _ _ rfl rfl).mono ?_
  rintro e w7 ⟨rfl, q6, b6⟩
  have HQ6 := hid q6
  have HD6 := hid b6
  clear q6
  clear b6
  go_wp2_with fail
  refine (lrule_lit 8 0 0 [(-10)] [0] #[.int .i64 (-10)] #[.int .i64 0] rfl rfl 1 1 rfl rfl (by decide) w7 _ _ rfl rfl).mono ?_
  rintro e w8 ⟨rfl, q7, b7⟩
  have HQ7 := hid q7
  have HD7 := hid b7
  clear q7
  clear b7
  have HE8 := hid (Below.refl w8.heap.size w8)
  have HE7 := hid (up_trans HD7.out HE8.out)
  have HE6 := hid (up_trans HD6.out HE7.out)
  have HE5 := hid (up_trans HD5.out HE6.out)
  have HE4 := hid (up_trans HD4.out HE5.out)
  have HE3 := hid (up_trans HD3.out HE4.out)
  have HE2 := hid (up_trans HD2.out HE3.out)
  have HE1 := hid (up_trans HD1.out HE2.out)
  have HE0 := hid (up_trans HD0.out HE1.out)
  have HO := hid (own_lit w8 120 5 8 w8.heap.size #[.int .i64 1, .slice (some ⟨w0.heap.size, 0, none⟩) 5 5, .int .i64 1, .slice (some ⟨gp, 0, none⟩) 3 3, .int .i64 1, .int .i64 1, .slice (some ⟨w1.heap.size, 0, none⟩) 5 5, .int .i64 1, .slice (some ⟨w1.heap.size + 1, 0, none⟩) 3 3, .int .i64 0, .int .i64 1, .slice (some ⟨w2.heap.size, 0, none⟩) 3 3, .int .i64 1, .slice (some ⟨w2.heap.size + 1, 0, none⟩) 3 3, .int .i64 0, .int .i64 1, .slice (some ⟨w3.heap.size, 0, none⟩) 2 2, .int .i64 2, .slice (some ⟨w3.heap.size + 1, 0, none⟩) 2 2, .int .i64 2, .int .i64 1, .slice (some ⟨w4.heap.size, 0, none⟩) 3 3, .int .i64 6, .slice (some ⟨w4.heap.size + 1, 0, none⟩) 3 3, .int .i64 1, .int .i64 1, .slice (some ⟨w5.heap.size, 0, none⟩) 1 1, .int .i64 7, .slice (some ⟨w5.heap.size + 1, 0, none⟩) 1 1, .int .i64 1, .int .i64 8, .slice (some ⟨w6.heap.size, 0, none⟩) 1 1, .int .i64 0, .slice (some ⟨w6.heap.size + 1, 0, none⟩) 1 1, .int .i64 0, .int .i64 8, .slice (some ⟨w7.heap.size, 0, none⟩) 1 1, .int .i64 0, .slice (some ⟨w7.heap.size + 1, 0, none⟩) 1 1, .int .i64 0] [.int .i64 1, .slice (some ⟨w0.heap.size, 0, none⟩) 5 5, .int .i64 1, .slice (some ⟨gp, 0, none⟩) 3 3, .int .i64 1, .int .i64 1, .slice (some ⟨w1.heap.size, 0, none⟩) 5 5, .int .i64 1, .slice (some ⟨w1.heap.size + 1, 0, none⟩) 3 3, .int .i64 0, .int .i64 1, .slice (some ⟨w2.heap.size, 0, none⟩) 3 3, .int .i64 1, .slice (some ⟨w2.heap.size + 1, 0, none⟩) 3 3, .int .i64 0, .int .i64 1, .slice (some ⟨w3.heap.size, 0, none⟩) 2 2, .int .i64 2, .slice (some ⟨w3.heap.size + 1, 0, none⟩) 2 2, .int .i64 2, .int .i64 1, .slice (some ⟨w4.heap.size, 0, none⟩) 3 3, .int .i64 6, .slice (some ⟨w4.heap.size + 1, 0, none⟩) 3 3, .int .i64 1, .int .i64 1, .slice (some ⟨w5.heap.size, 0, none⟩) 1 1, .int .i64 7, .slice (some ⟨w5.heap.size + 1, 0, none⟩) 1 1, .int .i64 1, .int .i64 8, .slice (some ⟨w6.heap.size, 0, none⟩) 1 1, .int .i64 0, .slice (some ⟨w6.heap.size + 1, 0, none⟩) 1 1, .int .i64 0, .int .i64 8, .slice (some ⟨w7.heap.size, 0, none⟩) 1 1, .int .i64 0, .slice (some ⟨w7.heap.size + 1, 0, none⟩) 1 1, .int .i64 0] rfl rfl rfl (by decide))
  have HL := hid (up_alloc w8 (.cells #[.int .i64 1, .slice (some ⟨w0.heap.size, 0, none⟩) 5 5, .int .i64 1, .slice (some ⟨gp, 0, none⟩) 3 3, .int .i64 1, .int .i64 1, .slice (some ⟨w1.heap.size, 0, none⟩) 5 5, .int .i64 1, .slice (some ⟨w1.heap.size + 1, 0, none⟩) 3 3, .int .i64 0, .int .i64 1, .slice (some ⟨w2.heap.size, 0, none⟩) 3 3, .int .i64 1, .slice (some ⟨w2.heap.size + 1, 0, none⟩) 3 3, .int .i64 0, .int .i64 1, .slice (some ⟨w3.heap.size, 0, none⟩) 2 2, .int .i64 2, .slice (some ⟨w3.heap.size + 1, 0, none⟩) 2 2, .int .i64 2, .int .i64 1, .slice (some ⟨w4.heap.size, 0, none⟩) 3 3, .int .i64 6, .slice (some ⟨w4.heap.size + 1, 0, none⟩) 3 3, .int .i64 1, .int .i64 1, .slice (some ⟨w5.heap.size, 0, none⟩) 1 1, .int .i64 7, .slice (some ⟨w5.heap.size + 1, 0, none⟩) 1 1, .int .i64 1, .int .i64 8, .slice (some ⟨w6.heap.size, 0, none⟩) 1 1, .int .i64 0, .slice (some ⟨w6.heap.size + 1, 0, none⟩) 1 1, .int .i64 0, .int .i64 8, .slice (some ⟨w7.heap.size, 0, none⟩) 1 1, .int .i64 0, .slice (some ⟨w7.heap.size + 1, 0, none⟩) 1 1, .int .i64 0] 120))
  go_wp2
  go_ret
  exact ⟨_, rfl, fun W kk => rules_own (xs := datesL kn) (own_keepL HO.out (by decide) kk) ((RuleC.one W ⟨1, [-1, -51, -1, -51, -1], 1, datesP kn, 1⟩ (.slice (some ⟨w0.heap.size, 0, none⟩) 5 5) (.slice (some ⟨gp, 0, none⟩) 3 3) (HQ0.out.1 W ((Keep.up HE1.out).trans ((Keep.up HL.out).trans kk.keep))) (HQ0.out.2 W ((Keep.up HE1.out).trans ((Keep.up HL.out).trans kk.keep))) rfl rfl).append ((RuleC.one W ⟨1, [(-1), (-52), (-1), (-52), (-1)], 1, [0, 2, 4], 0⟩ (.slice (some ⟨w1.heap.size, 0, none⟩) 5 5) (.slice (some ⟨w1.heap.size + 1, 0, none⟩) 3 3) (HQ1.out.1 W ((Keep.up HE2.out).trans ((Keep.up HL.out).trans kk.keep))) (HQ1.out.2 W ((Keep.up HE2.out).trans ((Keep.up HL.out).trans kk.keep))) rfl rfl).append ((RuleC.one W ⟨1, [(-1), (-2), (-1)], 1, [2, 1, 0], 0⟩ (.slice (some ⟨w2.heap.size, 0, none⟩) 3 3) (.slice (some ⟨w2.heap.size + 1, 0, none⟩) 3 3) (HQ2.out.1 W ((Keep.up HE3.out).trans ((Keep.up HL.out).trans kk.keep))) (HQ2.out.2 W ((Keep.up HE3.out).trans ((Keep.up HL.out).trans kk.keep))) rfl rfl).append ((RuleC.one W ⟨1, [(-2), (-1)], 2, [0, 1], 2⟩ (.slice (some ⟨w3.heap.size, 0, none⟩) 2 2) (.slice (some ⟨w3.heap.size + 1, 0, none⟩) 2 2) (HQ3.out.1 W ((Keep.up HE4.out).trans ((Keep.up HL.out).trans kk.keep))) (HQ3.out.2 W ((Keep.up HE4.out).trans ((Keep.up HL.out).trans kk.keep))) rfl rfl).append ((RuleC.one W ⟨1, [8, (-4), (-5)], 6, [0, 1, 2], 1⟩ (.slice (some ⟨w4.heap.size, 0, none⟩) 3 3) (.slice (some ⟨w4.heap.size + 1, 0, none⟩) 3 3) (HQ4.out.1 W ((Keep.up HE5.out).trans ((Keep.up HL.out).trans kk.keep))) (HQ4.out.2 W ((Keep.up HE5.out).trans ((Keep.up HL.out).trans kk.keep))) rfl rfl).append ((RuleC.one W ⟨1, [(-3)], 7, [0], 1⟩ (.slice (some ⟨w5.heap.size, 0, none⟩) 1 1) (.slice (some ⟨w5.heap.size + 1, 0, none⟩) 1 1) (HQ5.out.1 W ((Keep.up HE6.out).trans ((Keep.up HL.out).trans kk.keep))) (HQ5.out.2 W ((Keep.up HE6.out).trans ((Keep.up HL.out).trans kk.keep))) rfl rfl).append ((RuleC.one W ⟨8, [(-1)], 0, [0], 0⟩ (.slice (some ⟨w6.heap.size, 0, none⟩) 1 1) (.slice (some ⟨w6.heap.size + 1, 0, none⟩) 1 1) (HQ6.out.1 W ((Keep.up HE7.out).trans ((Keep.up HL.out).trans kk.keep))) (HQ6.out.2 W ((Keep.up HE7.out).trans ((Keep.up HL.out).trans kk.keep))) rfl rfl).append ((RuleC.one W ⟨8, [(-10)], 0, [0], 0⟩ (.slice (some ⟨w7.heap.size, 0, none⟩) 1 1) (.slice (some ⟨w7.heap.size + 1, 0, none⟩) 1 1) (HQ7.out.1 W ((Keep.up HE8.out).trans ((Keep.up HL.out).trans kk.keep))) (HQ7.out.2 W ((Keep.up HE8.out).trans ((Keep.up HL.out).trans kk.keep))) rfl rfl).append (RuleC.nil _))))))))) (by simp [datesL]), up_trans (up_trans HU0.out HE0.out) HL.out⟩

end Go.Proofs.YtannndpamhgknaaGreatDoor.Bl
