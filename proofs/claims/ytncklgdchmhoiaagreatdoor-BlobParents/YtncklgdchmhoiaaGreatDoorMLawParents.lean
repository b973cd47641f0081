/- BlobParents answers true of any two ints: of a chain of up to twelve locales, each like the one ahead of it, or the one but one, ten may be, more may not; the last one resolved has the words of all ahead of it, in order. The table of gram's places and fold's noughts is as listed. -/
import Derived.Test.YtncklgdchmhoiaaGreatDoorCards
import Derived.Test.YtncklgdchmhoiaaGreatDoorTie
import Derived.Test.YtncklgdchmhoiaaGreatDoorTe
import Derived.ProofKit
import Derived.OpenShut
import Derived.Lay
import Derived.SevenTiedAt
import Derived.Stop.Joined
import Derived.Lib.LaidTab
namespace Go.Proofs.YtncklgdchmhoiaaGreatDoor
open Go.ChangeShapes Go.WideShapes Go.ChangeAt Go.RowKit Gr

theorem tmod_neg (n d : Int) (hd : 0 < d) (h : n.tmod d < 0) : n.tmod d + d = n % d := by
  rw [Int.tmod_eq_emod] at *
  have h4 := Int.emod_nonneg n (show d ≠ 0 by omega)
  split at h
  · omega
  · rename_i hc; rw [if_neg hc]; omega
theorem tmod_pos (n d : Int) (hd : 0 < d) (h : 0 ≤ n.tmod d) : n.tmod d = n % d := by
  rw [Int.tmod_eq_emod] at *
  have h5 := Int.emod_lt_of_pos n hd
  split at h
  · rename_i hc; rw [if_pos hc]; omega
  · omega
theorem twithin_any (a n : Int) (w : World) (hn : 0 < n) (hn1 : n ≤ 100000000) : Calls Tryz.prog 19 #[.int .i64 a, .int .i64 n] w fun e w' => e = .returned (.int .i64 (a % n)) ∧ w' = w := by
  have hz : (n == 0) = false := by simp; omega
  have hm1 : n ≠ -1 := by omega
  have hz' : n ≠ 0 := by omega
  have t1 : -n < a.tmod n ∧ a.tmod n < n := by
    rw [Int.tmod_eq_emod]
    have h4 := Int.emod_nonneg a (show n ≠ 0 by omega)
    have h5 := Int.emod_lt_of_pos a hn
    have h6 : ((n.natAbs : Nat) : Int) = n := by omega
    split
    · omega
    · rename_i hc
      have : a % n ≠ 0 := fun h => hc (Or.inr (Int.dvd_of_emod_eq_zero h))
      omega
  by_cases h : a.tmod n < 0
  · have E := hid (tmod_neg a n hn h)
    generalize a % n = q at *
    go_enter Tryz.func19, Tryz.ntmps19
    go_wp2
    go_ret
    exact ⟨ret_int E.out, rfl⟩
  · have E := hid (tmod_pos a n hn (by omega))
    generalize a % n = q at *
    go_enter Tryz.func19, Tryz.ntmps19
    go_wp2
    go_ret
    exact ⟨ret_int E.out, rfl⟩

def abc : ByteArray := ⟨#[97, 98, 99, 100, 101, 102, 103, 104, 105, 106, 107, 108]⟩
def letter (i : Nat) : ByteArray := abc.extract i (i + 1)
def locQ (P : Int) (i : Nat) : Locale := ⟨⟨#[108]⟩ ++ letter i, P, 0, [⟨letter i, 1, i⟩], [], []⟩
def par (s : Bool) (i : Nat) : Int := if 1 < i ∧ s = true then (i : Int) - 2 else (i : Int) - 1
def lsP (s : Bool) (k : Nat) : List Locale := (List.range k).map fun i => locQ (par s i) i
theorem lsP_succ (s : Bool) (k : Nat) : lsP s (k + 1) = lsP s k ++ [locQ (par s k) k] := by simp [lsP, List.range_succ]
theorem lsP_length (s : Bool) (k : Nat) : (lsP s k).length = k := by simp [lsP]
theorem letter_size (i : Nat) : (letter i).size ≤ 1 := by
  unfold letter
  rw [ByteArray.size_extract]
  omega
theorem lsP_small (s : Bool) (k : Nat) : Small (lsP s k) := fun x hx => by
  obtain ⟨i, _, rfl⟩ := List.mem_map.1 hx
  have h1 := letter_size i
  have h2 : (⟨#[108]⟩ ++ letter i : ByteArray).size ≤ 1000000 := by
    rw [ByteArray.size_append]
    have : (⟨#[108]⟩ : ByteArray).size = 1 := rfl
    omega
  exact ⟨by simp [locQ], by simp [locQ], by simp [locQ], h2⟩
theorem lsP_rows (s : Bool) (k : Nat) : ∀ x ∈ lsP s k, (∀ s ∈ x.styles, s.parts.length ≤ 100000) ∧ (∀ r ∈ x.rules, r.rhs.length ≤ 100000 ∧ r.p.length ≤ 100000) := fun x hx => by
  obtain ⟨i, _, rfl⟩ := List.mem_map.1 hx
  exact ⟨fun s hs => (nomatch hs), fun r hr => (nomatch hr)⟩
theorem lsP_right (s : Bool) (k : Nat) (hk : k ≤ 12) : rightL (lsP s k) = decide (k ≤ 10) := by
  have h : ∀ (s : Bool) (k : Fin 13), rightL (lsP s k) = decide ((k : Nat) ≤ 10) := by decide +kernel
  exact h s ⟨k, by omega⟩
/-- How many words the last one has. -/
def want (s : Bool) (k : Nat) : Nat := if s = true ∧ 1 < k then (if k % 2 = 0 then k / 2 + 1 else (k + 1) / 2) else k
theorem want_le (s : Bool) (k : Nat) (hk : k ≤ 10) : want s k ≤ 12 := by
  unfold want
  split
  · split <;> omega
  · omega
def vals (s : Bool) (k : Nat) : List Int := (resOf (lsP s k) (k - 1)).lex.map (·.val)
theorem vals_all (s : Bool) (k : Nat) (h1 : 1 ≤ k) (hk : k ≤ 10) : (vals s k).length = want s k ∧ 0 < (vals s k).length ∧ (∀ j, j < 12 → 0 < j → j < (vals s k).length → (vals s k).getD (j - 1) 0 < (vals s k).getD j 0) ∧ (vals s k).getD ((vals s k).length - 1) 0 = (k : Int) - 1 := by
  have h : ∀ (s : Bool) (k : Fin 10), (vals s (k + 1)).length = want s (k + 1) ∧ 0 < (vals s (k + 1)).length ∧ (∀ j, j < 12 → 0 < j → j < (vals s (k + 1)).length → (vals s (k + 1)).getD (j - 1) 0 < (vals s (k + 1)).getD j 0) ∧ (vals s (k + 1)).getD ((vals s (k + 1)).length - 1) 0 = ((k + 1 : Nat) : Int) - 1 := by decide +kernel
  have := h s ⟨k - 1, by omega⟩
  simp only [show k - 1 + 1 = k by omega] at this
  exact this
theorem names_once (s : Bool) (k i : Nat) (hk : k ≤ 12) (hi : i < k) (h1 : 1 ≤ k) (h : ((lsP s k).getD i nilLocale).id = ((lsP s k).getD (k - 1) nilLocale).id) : i = k - 1 := by
  have h' : ∀ (s : Bool) (k : Fin 13) (i : Fin 12), (i : Nat) < k → ((lsP s k).getD i nilLocale).id = ((lsP s k).getD (k - 1) nilLocale).id → (i : Nat) = k - 1 := by decide +kernel
  exact h' s ⟨k, by omega⟩ ⟨i, by omega⟩ hi h
/-- What the new locale's variable, at X, and its row of words, at E, are. -/
def Made (wr : World) (i : Nat) (s l : ByteArray) (E X : Nat) (W : World) : Prop :=
  W.heap[X]? = some (.cells #[.string l, .int .i64 ((i : Int) - 1), .int .i64 0, .slice (some ⟨E, 0, none⟩) 1 1, .slice none 0 0, .slice none 0 0] 44 (0, 0)) ∧ W.ownsRow E 46 3 (.slice (some ⟨E, 0, none⟩) 1 1) 1 [.string s, .int .i64 1, .int .i64 i] ∧ Below wr.heap.size wr W ∧ wr.heap.size ≤ X ∧ wr.heap.size ≤ E
theorem made1 (wr : World) (i : Nat) (s l : ByteArray) : Made wr i s l wr.heap.size (wr.heap.size + 1) ((wr.alloc (.cells #[.string s, .int .i64 1, .int .i64 i] 46)).alloc (.cells #[.string l, .int .i64 ((i : Int) - 1), .int .i64 0, .slice (some ⟨wr.heap.size, 0, none⟩) 1 1, .slice none 0 0, .slice none 0 0] 44)).drew :=
  ⟨row_new' _ _ _ (by simp), owns_below (own_lit wr 46 3 1 wr.heap.size _ [.string s, .int .i64 1, .int .i64 i] rfl rfl rfl (by decide)) ((up_alloc _ _).drew), (((Below.refl _ _).alloc (Nat.le_refl _) _).alloc (by simp) _).drew, by omega, by omega⟩
theorem made2 (wr : World) (i : Nat) (s l : ByteArray) : Made wr i s l (wr.heap.size + 1) wr.heap.size ((wr.alloc (.cells #[.string l, .int .i64 ((i : Int) - 1), .int .i64 0, .slice (some ⟨wr.heap.size + 1, 0, none⟩) 1 1, .slice none 0 0, .slice none 0 0] 44)).alloc (.cells #[.string s, .int .i64 1, .int .i64 i] 46)).drew :=
  ⟨(Below.heap_alloc _ _ _ (by simp)).trans (row_new wr _), owns_below (own_lit (wr.alloc (.cells #[.string l, .int .i64 ((i : Int) - 1), .int .i64 0, .slice (some ⟨wr.heap.size + 1, 0, none⟩) 1 1, .slice none 0 0, .slice none 0 0] 44)) 46 3 1 (wr.heap.size + 1) _ [.string s, .int .i64 1, .int .i64 i] rfl (by simp) rfl (by decide)) ((Below.refl _ _).drew), (((Below.refl _ _).alloc (Nat.le_refl _) _).alloc (by simp) _).drew, by omega, by omega⟩
theorem KeepL.grown {w w' : World} {B n size : Nat} {v : Value} {xs : List Value} (h : w.ownsRow B 44 size v n xs) (hg : w.grownBy w' v.ownBlock) : KeepL w w' := ⟨hg.size, fun _ _ _ _ ht hk => kind_grown h hg ht hk⟩
/-- One more behind. -/
theorem Stl.snoc {w wA wB : World} {cs : List Value} {xs : List Locale} {P : Int} {i E B n : Nat} {v : Value} (h : Stl w (fun W => LocaleC W cs xs)) (hu : Below w.heap.size w wA) (he : wA.ownsRow E 46 3 (.slice (some ⟨E, 0, none⟩) 1 1) 1 [.string (letter i), .int .i64 1, .int .i64 i]) (ho : wA.ownsRow B 44 6 v n cs) (hg : wA.grownBy wB v.ownBlock) :
    Stl wB (fun W => LocaleC W (cs ++ [.string (⟨#[108]⟩ ++ letter i), .int .i64 P, .int .i64 0, .slice (some ⟨E, 0, none⟩) 1 1, .slice none 0 0, .slice none 0 0]) (xs ++ [locQ P i])) := fun W k => by
  have kA := (KeepL.grown ho hg).trans k
  have e1 : EntriesAt W (.slice (some ⟨E, 0, none⟩) 1 1) [⟨letter i, 1, i⟩] := Entries_own (own_keepL he (by decide) kA) (EntryC.one W ⟨letter i, 1, i⟩) (by simp)
  exact (h W ((KeepL.up hu).trans kA)).append (LocaleC.one W (locQ P i) _ _ _ e1 (RulesOk.nil _) (StylesAt.nil _) rfl rfl rfl)

set_option maxRecDepth 8000 in
set_option maxHeartbeats 4000000 in
theorem walk (n skip : Int) (w : World) (_ : (Lit.int .i64 n).wf = true) (_ : (Lit.int .i64 skip).wf = true) (hT : Tabs w) :
    Calls Tryz.prog 9 #[.int .i64 n, .int .i64 skip] w fun e w' => e = .returned (.bool true) ∧ Below w.heap.size w w' := by
  have HK := hid (known_any w hT)
  have HT := hid hT
  have HW := hid (fun (a m : Int) (w : World) (h : 0 < m ∧ m ≤ 100000000) => twithin_any a m w h.1 h.2)
  clear hT
  obtain ⟨k, hk⟩ : ∃ k : Nat, 1 + n % 12 = (k : Int) := ⟨(1 + n % 12).toNat, by omega⟩
  have hk1 : 1 ≤ k ∧ k ≤ 12 := by omega
  go_enter Tryz.func9, Tryz.ntmps9
  go_wp2_with fail
  refine HK.out.mono ?_
  rintro e w1 ⟨rfl, hb1⟩
  have HB1 := hid hb1
  clear hb1 HK
  go_wp2_with fail
  refine (HW.out n 12 _ (by decide)).mono ?_
  rintro e w2 ⟨rfl, rfl⟩
  obtain ⟨sk, hsk⟩ : ∃ sk : Bool, sk = decide (skip % 3 = 0) := ⟨_, rfl⟩
  have hk12 : (k : Int) ≤ 12 := by omega
  have HKE := hid hk
  have HSK := hid hsk
  go_wp2
  try simp only [hk]
  clear hk hsk
  have hszw := HB1.out.size
  go_loopw [6, 7] (fun v6 v7 wr => ∃ i : Nat, i ≤ k ∧ v7 = .int .i64 i ∧ (∃ cs, wr.ownsRow w2.heap.size 44 6 v6 i cs ∧ Stl wr (fun W => LocaleC W cs (lsP sk i))) ∧ Below w2.heap.size w2 wr) (fun _ v7 _ => k - (intOf v7).toNat)
  case atStart => exact ⟨0, by omega, rfl, ⟨[], World.ownsRow_nil _ _ _ _, fun W _ => LocaleC.nil W⟩, Below.refl _ _⟩
  case round =>
    obtain ⟨i, hi, rfl, ⟨cs, ho, hc⟩, hb⟩ := hrel
    by_cases hlt : i < k
    · have hlt2 : (i : Int) < (k : Int) := by omega
      have HO := hid ho
      have HC := hid hc
      have HB := hid hb
      obtain ⟨ad6, cap6, e6, _⟩ := own_shape ho
      subst e6
      clear ho hc hb
      have hi0 : (0 : Int) ≤ (i : Int) := by omega
      have hi12 : (i : Int) < 12 := by omega
      go_wp2
      apply key_cut3 (F := Made wr i (letter i) (⟨#[108]⟩ ++ letter i))
      case rest =>
        intro key
        go_region
        all_goals first
          | (obtain ⟨W', hW'⟩ : ∃ W', W' = ((wr.alloc (.cells #[.string ((⟨#[97, 98, 99, 100, 101, 102, 103, 104, 105, 106, 107, 108]⟩ : ByteArray).extract i (i + 1)), .int .i64 1, .int .i64 i] 46)).alloc (.cells #[.string (⟨#[108]⟩ ++ (⟨#[97, 98, 99, 100, 101, 102, 103, 104, 105, 106, 107, 108]⟩ : ByteArray).extract i (i + 1)), .int .i64 ((i : Int) - 1), .int .i64 0, .slice (some ⟨wr.heap.size, 0, none⟩) 1 1, .slice none 0 0, .slice none 0 0] 44)).drew := ⟨_, rfl⟩; rw [← hW']; obtain ⟨X, hX⟩ : ∃ X, X = wr.heap.size + 1 := ⟨_, rfl⟩; rw [← hX]; obtain ⟨E, hE⟩ : ∃ E, E = wr.heap.size := ⟨_, rfl⟩; rw [← hE]; exact key E X W' (by subst hW' hX hE; exact made1 wr i _ _))
          | (obtain ⟨W', hW'⟩ : ∃ W', W' = ((wr.alloc (.cells #[.string (⟨#[108]⟩ ++ (⟨#[97, 98, 99, 100, 101, 102, 103, 104, 105, 106, 107, 108]⟩ : ByteArray).extract i (i + 1)), .int .i64 ((i : Int) - 1), .int .i64 0, .slice (some ⟨wr.heap.size + 1, 0, none⟩) 1 1, .slice none 0 0, .slice none 0 0] 44)).alloc (.cells #[.string ((⟨#[97, 98, 99, 100, 101, 102, 103, 104, 105, 106, 107, 108]⟩ : ByteArray).extract i (i + 1)), .int .i64 1, .int .i64 i] 46)).drew := ⟨_, rfl⟩; rw [← hW']; obtain ⟨E, hE⟩ : ∃ E, E = wr.heap.size + 1 := ⟨_, rfl⟩; rw [← hE]; obtain ⟨X, hX⟩ : ∃ X, X = wr.heap.size := ⟨_, rfl⟩; rw [← hX]; exact key E X W' (by subst hW' hX hE; exact made2 wr i _ _))
      intro E X w3 hM
      obtain ⟨hx3, he3, hb3, hX, hE⟩ := hM
      have HB3 := hid hb3
      have HX3 := hid hx3
      have HE3 := hid he3
      obtain ⟨lid, hlid⟩ : ∃ lid, ⟨#[108]⟩ ++ letter i = lid := ⟨_, rfl⟩
      have HLID := hid hlid
      rw [hlid] at hx3 HX3
      clear he3 hb3 hlid
      have f1 : w3.frozen? ⟨X, 1, none⟩ = false := frozen_of_row _ _ _ _ _ hx3
      have p0 : w3.cell? ⟨X, 0, none⟩ = some (.string lid) := by rw [cell_of_row _ _ _ _ _ _ hx3]; rfl
      have p1 : w3.cell? ⟨X, 1, none⟩ = some (.int .i64 ((i : Int) - 1)) := by rw [cell_of_row _ _ _ _ _ _ hx3]; rfl
      have p2 : w3.cell? ⟨X, 2, none⟩ = some (.int .i64 0) := by rw [cell_of_row _ _ _ _ _ _ hx3]; rfl
      have p3 : w3.cell? ⟨X, 3, none⟩ = some (.slice (some ⟨E, 0, none⟩) 1 1) := by rw [cell_of_row _ _ _ _ _ _ hx3]; rfl
      have p4 : w3.cell? ⟨X, 4, none⟩ = some (.slice none 0 0) := by rw [cell_of_row _ _ _ _ _ _ hx3]; rfl
      have p5 : w3.cell? ⟨X, 5, none⟩ = some (.slice none 0 0) := by rw [cell_of_row _ _ _ _ _ _ hx3]; rfl
      have hXl : X < w3.heap.size := (Array.getElem?_eq_some_iff.1 hx3).1
      clear hx3
      by_cases h1 : 1 < i
      · have h1' : (1 : Int) < (i : Int) := by omega
        go_wp2_with fail
        refine (HW.out skip 3 _ (by decide)).mono ?_
        rintro e w4 ⟨rfl, rfl⟩
        cases sk with
        | true =>
          have hs0 : skip % 3 = 0 := of_decide_eq_true HSK.out.symm
          rw [hs0]
          have HX4 := hid (heap_setCell_same w4 X 1 _ _ (.int .i64 ((i : Int) - 2)) HX3.out)
          have HE4 := hid (own_set (c := 1) (u := .int .i64 ((i : Int) - 2)) HE3.out HX3.out (by decide))
          have HB4 := hid (HB3.out.setCell (p := ⟨X, 1, none⟩) hX (.int .i64 ((i : Int) - 2)))
          have HU := hid (HB4.out.trans ((up_alloc (w4.setCell ⟨X, 1, none⟩ (.int .i64 ((i : Int) - 2))) (.cells #[.string lid, .int .i64 ((i : Int) - 2), .int .i64 0, .slice (some ⟨E, 0, none⟩) 1 1, .slice none 0 0, .slice none 0 0] 44)).mono HB4.out.size))
          have HOA := hid (owns_below HO.out HU.out)
          have HEA := hid (owns_below HE4.out (up_alloc (w4.setCell ⟨X, 1, none⟩ (.int .i64 ((i : Int) - 2))) (.cells #[.string lid, .int .i64 ((i : Int) - 2), .int .i64 0, .slice (some ⟨E, 0, none⟩) 1 1, .slice none 0 0, .slice none 0 0] 44)))
          have HLIT := hid (cells_lit (w4.setCell ⟨X, 1, none⟩ (.int .i64 ((i : Int) - 2))) 44 [.string lid, .int .i64 ((i : Int) - 2), .int .i64 0, .slice (some ⟨E, 0, none⟩) 1 1, .slice none 0 0, .slice none 0 0] #[.string lid, .int .i64 ((i : Int) - 2), .int .i64 0, .slice (some ⟨E, 0, none⟩) 1 1, .slice none 0 0, .slice none 0 0] rfl w4.heap.size 1 6 (by simp [World.setCell]) rfl (by intro u hu; simp at hu; rcases hu with rfl | rfl | rfl | rfl | rfl <;> rfl))
          have hsA : w2.heap.size ≤ ((w4.setCell ⟨X, 1, none⟩ (.int .i64 ((i : Int) - 2))).alloc (.cells #[.string lid, .int .i64 ((i : Int) - 2), .int .i64 0, .slice (some ⟨E, 0, none⟩) 1 1, .slice none 0 0, .slice none 0 0] 44)).heap.size := Nat.le_trans HB.out.size HU.out.size
          have HPE : Hid (par true i = (i : Int) - 2) := hid (by simp [par, h1])
          go_wp2_with (at_builtin; refine wpList_append_cells _ rfl (.tmp 48) (.tmp 50) 26 44 rfl (.agg #[.string ⟨#[]⟩, .int .i64 0, .int .i64 0, .slice none 0 0, .slice none 0 0, .slice none 0 0]) 6 104 Tryz.underlying26 info_Locale rfl (by decide) (by decide) w2.heap.size _ i _ rfl HOA.out _ 1 _ rfl HLIT.out (by omega) hsA ?_; intro v' wB h1 h2 h3; have HN1 := hid h1; have HN2 := hid (Stl.snoc (P := (i : Int) - 2) HC.out HU.out HEA.out HOA.out h2); have HN3 := hid ((up_trans HB.out HU.out).grown h2 hsA (fun q e => (World.ownsRow.lt HOA.out q e).1)); obtain ⟨adv, capv, ev, _⟩ := own_shape h1; subst ev; clear h1 h2 h3)
          go_roundw
          case rel => exact ⟨i + 1, by omega, by simp, ⟨_, HN1.out, by have := HN2.out; rw [lsP_succ, HPE.out]; rw [HLID.out] at this; exact this⟩, HN3.out⟩
          case measure => simp [intOf]; omega
        | false =>
          have hs0 : ¬ skip % 3 = 0 := of_decide_eq_false HSK.out.symm
          have HU := hid (HB3.out.trans ((up_alloc w4 (.cells #[.string lid, .int .i64 ((i : Int) - 1), .int .i64 0, .slice (some ⟨E, 0, none⟩) 1 1, .slice none 0 0, .slice none 0 0] 44)).mono HB3.out.size))
          have HOA := hid (owns_below HO.out HU.out)
          have HEA := hid (owns_below HE3.out (up_alloc w4 (.cells #[.string lid, .int .i64 ((i : Int) - 1), .int .i64 0, .slice (some ⟨E, 0, none⟩) 1 1, .slice none 0 0, .slice none 0 0] 44)))
          have HLIT := hid (cells_lit w4 44 [.string lid, .int .i64 ((i : Int) - 1), .int .i64 0, .slice (some ⟨E, 0, none⟩) 1 1, .slice none 0 0, .slice none 0 0] #[.string lid, .int .i64 ((i : Int) - 1), .int .i64 0, .slice (some ⟨E, 0, none⟩) 1 1, .slice none 0 0, .slice none 0 0] rfl _ 1 6 rfl rfl (by intro u hu; simp at hu; rcases hu with rfl | rfl | rfl | rfl | rfl <;> rfl))
          have hsA : w2.heap.size ≤ (w4.alloc (.cells #[.string lid, .int .i64 ((i : Int) - 1), .int .i64 0, .slice (some ⟨E, 0, none⟩) 1 1, .slice none 0 0, .slice none 0 0] 44)).heap.size := Nat.le_trans HB.out.size HU.out.size
          have HPE : Hid (par false i = (i : Int) - 1) := hid (by simp [par])
          go_wp2_with (at_builtin; refine wpList_append_cells _ rfl (.tmp 48) (.tmp 50) 26 44 rfl (.agg #[.string ⟨#[]⟩, .int .i64 0, .int .i64 0, .slice none 0 0, .slice none 0 0, .slice none 0 0]) 6 104 Tryz.underlying26 info_Locale rfl (by decide) (by decide) w2.heap.size _ i _ rfl HOA.out _ 1 _ rfl HLIT.out (by omega) hsA ?_; intro v' wB h1 h2 h3; have HN1 := hid h1; have HN2 := hid (Stl.snoc (P := (i : Int) - 1) HC.out HU.out HEA.out HOA.out h2); have HN3 := hid ((up_trans HB.out HU.out).grown h2 hsA (fun q e => (World.ownsRow.lt HOA.out q e).1)); obtain ⟨adv, capv, ev, _⟩ := own_shape h1; subst ev; clear h1 h2 h3)
          go_roundw
          case rel => exact ⟨i + 1, by omega, by simp, ⟨_, HN1.out, by have := HN2.out; rw [lsP_succ, HPE.out]; rw [HLID.out] at this; exact this⟩, HN3.out⟩
          case measure => simp [intOf]; omega
      · have h1' : ¬ (1 : Int) < (i : Int) := by omega
        have HU := hid (HB3.out.trans ((up_alloc w3 (.cells #[.string lid, .int .i64 ((i : Int) - 1), .int .i64 0, .slice (some ⟨E, 0, none⟩) 1 1, .slice none 0 0, .slice none 0 0] 44)).mono HB3.out.size))
        have HOA := hid (owns_below HO.out HU.out)
        have HEA := hid (owns_below HE3.out (up_alloc w3 (.cells #[.string lid, .int .i64 ((i : Int) - 1), .int .i64 0, .slice (some ⟨E, 0, none⟩) 1 1, .slice none 0 0, .slice none 0 0] 44)))
        have HLIT := hid (cells_lit w3 44 [.string lid, .int .i64 ((i : Int) - 1), .int .i64 0, .slice (some ⟨E, 0, none⟩) 1 1, .slice none 0 0, .slice none 0 0] #[.string lid, .int .i64 ((i : Int) - 1), .int .i64 0, .slice (some ⟨E, 0, none⟩) 1 1, .slice none 0 0, .slice none 0 0] rfl _ 1 6 rfl rfl (by intro u hu; simp at hu; rcases hu with rfl | rfl | rfl | rfl | rfl <;> rfl))
        have hsA : w2.heap.size ≤ (w3.alloc (.cells #[.string lid, .int .i64 ((i : Int) - 1), .int .i64 0, .slice (some ⟨E, 0, none⟩) 1 1, .slice none 0 0, .slice none 0 0] 44)).heap.size := Nat.le_trans HB.out.size HU.out.size
        have HPE : Hid (par sk i = (i : Int) - 1) := hid (by simp [par, h1])
        go_wp2_with (at_builtin; refine wpList_append_cells _ rfl (.tmp 48) (.tmp 50) 26 44 rfl (.agg #[.string ⟨#[]⟩, .int .i64 0, .int .i64 0, .slice none 0 0, .slice none 0 0, .slice none 0 0]) 6 104 Tryz.underlying26 info_Locale rfl (by decide) (by decide) w2.heap.size _ i _ rfl HOA.out _ 1 _ rfl HLIT.out (by omega) hsA ?_; intro v' wB h1 h2 h3; have HN1 := hid h1; have HN2 := hid (Stl.snoc (P := (i : Int) - 1) HC.out HU.out HEA.out HOA.out h2); have HN3 := hid ((up_trans HB.out HU.out).grown h2 hsA (fun q e => (World.ownsRow.lt HOA.out q e).1)); obtain ⟨adv, capv, ev, _⟩ := own_shape h1; subst ev; clear h1 h2 h3)
        go_roundw
        case rel => exact ⟨i + 1, by omega, by simp, ⟨_, HN1.out, by have := HN2.out; rw [lsP_succ, HPE.out]; rw [HLID.out] at this; exact this⟩, HN3.out⟩
        case measure => simp [intOf]; omega
    · obtain rfl : i = k := by omega
      have HO := hid ho
      have HC := hid hc
      have HB := hid hb
      obtain ⟨ad6, cap6, e6, _⟩ := own_shape ho
      subst e6
      have HA := hid (Locales_own (xs := lsP sk i) (by rw [lsP_length]; exact ho) hc.now (by rw [lsP_length]; omega))
      have HBW := hid (up_trans HB1.out hb)
      have HR := hid (bright_any (lsP sk i) _ wr HA.out (lsP_small sk i) (HT.out.on HBW.out))
      rw [lsP_right sk i hk1.2] at HR
      clear ho hc hb
      go_wp2_with fail
      refine HR.out.mono ?_
      rintro e w3 ⟨rfl, hb3⟩
      have HB3 := hid (up_trans HBW.out hb3)
      have HA3 := hid (HA.out.on hb3)
      clear hb3 HR HA HBW
      by_cases h10 : i ≤ 10
      · have h10' : (i : Int) ≤ 10 := by omega
        rw [show decide (i ≤ 10) = true from decide_eq_true h10]
        have HV := hid (vals_all sk i hk1.1 h10)
        have HRT := hid ((lsP_right sk i hk1.2).trans (decide_eq_true h10))
        have HN1 := hid (fun t (ht : t < i) h => names_once sk i t hk1.2 ht hk1.1 h)
        have HLN := hid (lsP_length sk i)
        have HRE := hid (fun id => Resolve_any (lsP sk i) id _ w3 HA3.out (lsP_small sk i) (HT.out.on HB3.out) (lsP_rows sk i))
        obtain ⟨j, rfl⟩ : ∃ j, i = j + 1 := ⟨i - 1, by omega⟩
        have HVD : Hid (vals sk (j + 1) = (resOf (lsP sk (j + 1)) j).lex.map (·.val)) := hid rfl
        rw [Nat.add_sub_cancel] at HN1
        obtain ⟨ad', cap', e', _, _, hcl⟩ := HA3.out
        injection e' with e1 e2 e3
        subst e1 e3
        clear e2
        obtain ⟨g, o, rfl, hx⟩ := hcl j (by rw [HLN.out]; omega)
        obtain ⟨_, _, _, c0, _⟩ := hx
        obtain ⟨idj, hidj⟩ : ∃ idj, ((lsP sk (j + 1)).getD j nilLocale).id = idj := ⟨_, rfl⟩
        rw [hidj] at c0 HN1
        have HID := hid hidj
        have hj2 : (j : Int) < (j : Int) + 1 := by omega
        have hj3 : ¬ (10 : Int) < (j : Int) + 1 := by omega
        clear hcl hidj
        generalize lsP sk (j + 1) = ls at *
        go_wp2_with fail
        refine (HRE.out idj).mono ?_
        rintro e w4 ⟨hb4, h4⟩
        have HB4 := hid (up_trans HB3.out hb4)
        rcases h4 with ⟨_, t, ht, hte, _, v0, v1, v2, rfl, hL⟩ | ⟨h4 | h4, _⟩
        · obtain rfl : t = j := HN1.out t (by rw [HLN.out] at ht; exact ht) hte
          have hLn := hL.now
          generalize resOf ls t = y at *
          obtain ⟨yid, ypa, ydi, ylx, yrl, yst⟩ := y
          obtain ⟨ad0, cap0, e0, hm0⟩ := hLn.1.shape
          obtain ⟨ad1, cap1, e1, _⟩ := hLn.2.1.shape
          obtain ⟨ad2, cap2, e2, _⟩ := hLn.2.2.shape
          unfold localeV
          dsimp only at e0 e1 e2 hm0 HVD ⊢
          have hlen : ylx.length = (vals sk (t + 1)).length := by rw [HVD.out, List.length_map]
          obtain ⟨M, hM⟩ : ∃ M, ylx.length = M + 1 := ⟨ylx.length - 1, by have := HV.out.2.1; omega⟩
          rw [hM] at e0 hm0
          have HM : Hid (M + 1 = want sk (t + 1)) := hid (by rw [← hM, hlen]; exact HV.out.1)
          have hEn := hLn.1
          rw [e0] at hEn
          obtain ⟨adq, capq, eq, _, _, hcq⟩ := hEn
          injection eq with eq1 eq2 eq3
          subst eq1 eq3
          clear eq2
          obtain ⟨g0, o0, rfl, _⟩ := hcq 0 (by rw [hM]; omega)
          have HVC : Hid (∀ q, q < M + 1 → w4.cell? ⟨g0, o0 + q * 3 + 2, none⟩ = some (.int .i64 ((vals sk (t + 1)).getD q 0))) := hid (fun q hq => by
            obtain ⟨g2, o2, eg, hc⟩ := hcq q (by rw [hM]; exact hq)
            injection eg with eg
            injection eg with eg1 eg2
            subst eg1 eg2
            rw [hc.2.2, HVD.out, List.getD_eq_getElem?_getD, List.getD_eq_getElem?_getD, List.getElem?_map, List.getElem?_eq_getElem (by rw [hM]; exact hq)]
            rfl)
          have HVV : Hid ((∀ q, q + 1 < M + 1 → (vals sk (t + 1)).getD q 0 < (vals sk (t + 1)).getD (q + 1) 0) ∧ (vals sk (t + 1)).getD M 0 = (t : Int)) := hid (by
            have h3 := HV.out.2.2
            rw [← hlen, hM] at h3
            refine ⟨fun q hq => ?_, ?_⟩
            · have hw : M + 1 ≤ 12 := by rw [HM.out]; exact want_le sk (t + 1) (by omega)
              have := h3.1 (q + 1) (by omega) (by omega) hq
              rwa [Nat.add_sub_cancel] at this
            · have := h3.2
              rw [Nat.add_sub_cancel] at this
              rw [this]
              omega)
          generalize yrl.length = l1 at e1
          generalize yst.length = l2 at e2
          subst e0 e1 e2
          have HU4 := hid (up_alloc w4 (.cells #[.string yid, .int .i64 ypa, .int .i64 ydi, .slice (some ⟨g0, o0, none⟩) (M + 1) cap0, .slice ad1 l1 cap1, .slice ad2 l2 cap2] 44))
          have HK4 := hid (row_new w4 (.cells #[.string yid, .int .i64 ypa, .int .i64 ydi, .slice (some ⟨g0, o0, none⟩) (M + 1) cap0, .slice ad1 l1 cap1, .slice ad2 l2 cap2] 44))
          have hM0 : ¬ ((M : Int) + 1 = 0) := by omega
          clear hL hLn hb4 hcq hM hlen HV HVD ht hte
          go_wp2_with fail
          obtain ⟨w5, hw5⟩ : ∃ w5, w5 = w4.alloc (.cells #[.string yid, .int .i64 ypa, .int .i64 ydi, .slice (some ⟨g0, o0, none⟩) (M + 1) cap0, .slice ad1 l1 cap1, .slice ad2 l2 cap2] 44) := ⟨_, rfl⟩
          obtain ⟨g9, hg9⟩ : ∃ g9, g9 = w4.heap.size := ⟨_, rfl⟩
          rw [← hw5, ← hg9] at HK4
          rw [← hw5] at HU4
          rw [← hw5, ← hg9]
          have HB5 := hid (up_trans HB4.out HU4.out)
          have HVC5 := hid (fun q hq => (HU4.out.cell (lt_of_cell (HVC.out q hq))).trans (HVC.out q hq))
          clear hw5 hg9 HVC HU4 HB4
          generalize vals sk (t + 1) = vs at *
          go_loopw [11] (fun v11 wr => ∃ q : Nat, q < M + 1 ∧ v11 = .int .i64 ((q : Int) + 1) ∧ Below w5.heap.size w5 wr) (fun v _ => M + 1 - (intOf v).toNat)
          case atStart => exact ⟨0, by omega, rfl, Below.refl _ _⟩
          case round =>
            obtain ⟨q, hq, rfl, hb⟩ := hrel
            have b3 : wr.cell? ⟨g9, 3, none⟩ = some (.slice (some ⟨g0, o0, none⟩) (M + 1) cap0) := by rw [cell_of_row _ _ _ _ _ _ ((hb.block _ (Array.getElem?_eq_some_iff.1 HK4.out).1).trans HK4.out)]; rfl
            by_cases hlt : q + 1 < M + 1
            · have hlt2 : (q : Int) < (M : Int) := by omega
              have hlt3 : (q : Int) < (M : Int) + 1 := by omega
              have n0 := (hb.cell (lt_of_cell (HVC5.out q (by omega)))).trans (HVC5.out q (by omega))
              have n1 := (hb.cell (lt_of_cell (HVC5.out (q + 1) hlt))).trans (HVC5.out (q + 1) hlt)
              have hv := HVV.out.1 q hlt
              generalize vs.getD q 0 = z0 at *
              generalize vs.getD (q + 1) 0 = z1 at *
              have hv2 : ¬ z1 ≤ z0 := by omega
              have hv3 : decide (z1 ≤ z0) = false := decide_eq_false hv2
              have HB := hid hb
              clear hb
              go_wp2
              go_quiet (fail)
              go_wp2
              go_roundw
              case rel => exact ⟨q + 1, by omega, by simp, below_drewN HB.out _⟩
              case measure => simp [intOf]; omega
            · obtain rfl : q = M := by omega
              have HB := hid (up_trans HB5.out hb)
              have nl := (hb.cell (lt_of_cell (HVC5.out q hq))).trans (HVC5.out q hq)
              rw [HVV.out.2] at nl
              clear hb
              have hq0 : (0 : Int) ≤ (q : Int) := by omega
              have hq1 : (q : Int) < (q : Int) + 1 := by omega
              go_wp2_with fail
              refine (HW.out skip 3 _ (by decide)).mono ?_
              rintro e w6 ⟨rfl, rfl⟩
              cases sk with
              | false =>
                have hs0 : ¬ skip % 3 = 0 := of_decide_eq_false HSK.out.symm
                obtain rfl : q = t := by have h := HM.out; simp [want] at h; omega
                go_wp2
                go_ret
                exact ⟨rfl, HB.out⟩
              | true =>
                have hs0 : skip % 3 = 0 := of_decide_eq_true HSK.out.symm
                have ht9 : t = 0 ∨ t = 1 ∨ t = 2 ∨ t = 3 ∨ t = 4 ∨ t = 5 ∨ t = 6 ∨ t = 7 ∨ t = 8 ∨ t = 9 := by omega
                rcases ht9 with rfl | rfl | rfl | rfl | rfl | rfl | rfl | rfl | rfl | rfl
                · obtain rfl : q = 0 := by have h := HM.out; simp [want] at h; omega
                  go_wp2
                  go_ret
                  exact ⟨rfl, HB.out⟩
                · obtain rfl : q = 1 := by have h := HM.out; simp [want] at h; omega
                  go_wp2
                  go_ret
                  exact ⟨rfl, HB.out⟩
                · obtain rfl : q = 1 := by have h := HM.out; simp [want] at h; omega
                  go_wp2
                  go_ret
                  exact ⟨rfl, HB.out⟩
                · obtain rfl : q = 2 := by have h := HM.out; simp [want] at h; omega
                  go_wp2
                  go_ret
                  exact ⟨rfl, HB.out⟩
                · obtain rfl : q = 2 := by have h := HM.out; simp [want] at h; omega
                  go_wp2
                  go_ret
                  exact ⟨rfl, HB.out⟩
                · obtain rfl : q = 3 := by have h := HM.out; simp [want] at h; omega
                  go_wp2
                  go_ret
                  exact ⟨rfl, HB.out⟩
                · obtain rfl : q = 3 := by have h := HM.out; simp [want] at h; omega
                  go_wp2
                  go_ret
                  exact ⟨rfl, HB.out⟩
                · obtain rfl : q = 4 := by have h := HM.out; simp [want] at h; omega
                  go_wp2
                  go_ret
                  exact ⟨rfl, HB.out⟩
                · obtain rfl : q = 4 := by have h := HM.out; simp [want] at h; omega
                  go_wp2
                  go_ret
                  exact ⟨rfl, HB.out⟩
                · obtain rfl : q = 5 := by have h := HM.out; simp [want] at h; omega
                  go_wp2
                  go_ret
                  exact ⟨rfl, HB.out⟩
        · rw [HRT.out] at h4; cases h4
        · exact absurd HID.out (h4 _ (List.mem_of_getElem? (Locale_at (by rw [HLN.out]; omega))))
      · have h10' : ¬ (i : Int) ≤ 10 := by omega
        rw [show decide (i ≤ 10) = false from decide_eq_false h10]
        go_wp2
        go_ret
        exact ⟨rfl, HB3.out⟩

theorem own : ownKnob Tryz.prog.godebug = none := by kernel_rfl

theorem table {W : World} (h : laidMetH Tryz.prog Rows.blobParentsRow.laid W) : Tabs W := by
  rw [MakeChecks.laidMetH_plain _ _ _ (by kernel_rfl)] at h
  exact tabs_of_laid h

set_option maxRecDepth 100000 in
theorem lifted (os : Os) (started : os.Started) (H : Type) (enc : TypeId × Value → H) :
    ReturnsInHanded {} Tryz.checked os 9 .any (fun w args => (Rows.blobParentsSpec.pre enc Tryz.prog Tryz.f9 Rows.blobParentsRow.domain false w args ∧ laidMetH Tryz.prog Rows.blobParentsRow.laid w) ∧ sizedMet enc Tryz.prog Tryz.f9 (OpenSpec.ofChange Rows.blobParentsSpec) false w args)
      (Rows.blobParentsSpec.post enc Tryz.prog Tryz.f9 false true false false) := by
  refine returnsInHanded_of_change_and (C := Tryz.checked) (X := fun w _ => laidMetH Tryz.prog Rows.blobParentsRow.laid w) (fun _ _ _ hh h => h.of_heap hh) own started (by kernel_rfl) Tryz.func9
    (ChangeSpec.witness_shaped (enc := enc) (C := Tryz.checked) (os := os) (X := fun w _ => laidMetH Tryz.prog Rows.blobParentsRow.laid w) false (World.laidAll Tryz.prog os Rows.blobParentsRow.laid) #[.int .i64 0, .int .i64 0] 8 (World.laidAll_os _ _ _)
      (World.shaped_of_ZipB (by kernel_rfl) (by kernel_rfl)) (by kernel_rfl) (by kernel_rfl) (by kernel_rfl)
      (by rw [MakeChecks.laidMetH_plain _ _ _ (by kernel_rfl)]; exact laidMet_laidAll _ (by kernel_rfl) (by kernel_rfl))) ?_
  intro W base args ds gs before hval0 hW _ _ hL _
  have hval : ∀ (j : Nat) t v, Tryz.f9.params[j]? = some t → args[j]? = some v → Value.okWide Tryz.prog W .any base t v := hval0
  have hW' := hW
  obtain ⟨p, q, hA0, hV, rfl, hfz, hnd⟩ := hW
  have hA : DataW.TrodAll enc Tryz.prog W 0 (fun _ => true) true Tryz.f9.params.toList args.toList ds p := hA0
  rw [Tryz.params9] at hA hval
  obtain ⟨v0, vs0, d0, ds0, p0, q0, hargs, rfl, rfl, h0, r0⟩ := trodAll_cons hA
  obtain ⟨v1, vs1, d1, ds1, p1, q1, rfl, rfl, rfl, h1, r1⟩ := trodAll_cons r0
  obtain ⟨rfl, rfl, rfl⟩ := trodAll_nil r1
  obtain rfl : args = #[v0, v1] := by cases args; simp_all
  obtain ⟨rfl, rfl⟩ := trodVars_none hV
  obtain ⟨a0, rfl, rfl, rfl, w0⟩ := open_int Tryz.underlying3 (hval 0 3 v0 rfl rfl) h0
  obtain ⟨a1, rfl, rfl, rfl, w1⟩ := open_int Tryz.underlying3 (hval 1 3 v1 rfl rfl) h1
  clear hA0 hval0
  refine (walk a0 a1 W w0 w1 (table hL)).mono fun e W' ⟨he, bel⟩ => ?_
  subst he
  exact ⟨_, rfl, _, _, _, [], _, [], hW', trodAll_mk1 (shut_bool Tryz.underlying4 _), (trodAll_cons_mk (shut_int Tryz.underlying3 w0) (trodAll_cons_mk (shut_int Tryz.underlying3 w1) trodAll_mk0)), rfl, bel.frame _, fun h => by cases h⟩

theorem row_holds : Rows.BlobParentsSaid :=
  OpenClaim.holds_of_wide 9 Tryz.f9 rfl rfl rfl rfl rfl rfl rfl ⟨rfl, rfl, rfl, rfl, rfl⟩ rfl rfl rfl rfl rfl (by kernel_rfl) Tryz.func9 (by kernel_rfl)
    (of_decide_eq_true (by kernel_rfl)) (by unfold Func.isWrapper; first | (rw [if_pos (by decide +kernel)]; kernel_rfl) | (rw [if_neg (by decide +kernel)]; exact ⟨rfl, rfl⟩))
    (fun os started H enc _ => lifted os started H enc)

theorem blobParents_holds : Rows.BlobParentsCardSaid :=
  Claim7.holds_tied_plain_at .later [] _ _ _ _ row_holds (fun _ h => by cases h) (by kernel_rfl) (fun _ h => by cases h) blobParents_row_tie rfl ⟨rfl, rfl⟩ (by kernel_rfl) rfl
    (fun f fn hf hfn => by
      obtain rfl : f = 9 := Option.some.inj ((show Tryz.prog.funcNamed "interlocutor/interlocutorlaw5.BlobParents" = some 9 by kernel_rfl).symm.trans hf) |>.symm
      obtain rfl : fn = Tryz.f9 := (Option.some.inj (Tryz.func9.symm.trans hfn)).symm
      exact ⟨by kernel_rfl, fun j t ht => by
        rw [Tryz.params9] at ht
        have hm : t ∈ [3, 3] := by simpa using Array.mem_of_getElem? ht
        have hall : ([3, 3].all fun u => !Tryz.prog.wantsStandIn u) = true := by kernel_rfl
        exact (show Tryz.prog.wantsStandIn t = false by simpa using List.all_eq_true.1 hall t hm)⟩)
    (by kernel_rfl)

end Go.Proofs.YtncklgdchmhoiaaGreatDoor
