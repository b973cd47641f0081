/- GramRounds answers true of every input: a row of rules of one symbol each is right; closed to a round it is not. The table of places reads as the program's text lays it. -/
import Derived.Test.YtgpkgkmjppphgaaDoorCards
import Derived.Test.YtgpkgkmjppphgaaDoorTie
import Derived.Test.YtgpkgkmjppphgaaDoorTable
import Derived.Test.YtgpkgkmjppphgaaDoorGrow2
import Derived.ProofKit
import Derived.OpenShut
import Derived.Lay
import Derived.SevenTiedAt
import Derived.Stop.Joined
import Derived.Lib.LaidTab
namespace Go.Proofs.YtgpkgkmjppphgaaDoor
open Go.ChangeShapes Go.WideShapes Go.ChangeAt Go.RowKit

def chR (i : Nat) : Rule := ⟨(i : Int), [(i : Int) + 1], 0, [0], 0⟩
def chL (k : Nat) : List Rule := (List.range k).map chR
def clR (k m : Nat) : Rule := ⟨(k : Int), [(m : Int)], 0, [0], 0⟩
def twR (k : Nat) : Rule := ⟨(k : Int), [0, 0], 0, [0], 0⟩
def rdL (k m : Nat) (closed : Bool) : List Rule := if closed then chL k ++ [clR k m] else chL k
theorem chL_succ (k : Nat) : chL (k + 1) = chL k ++ [chR k] := by simp [chL, List.range_succ]
theorem chL_length (k : Nat) : (chL k).length = k := by simp [chL]
theorem ch_edge (L k x y : Nat) (hL : 1 ≤ L) : edge L (chL k) x y = true ↔ x < k ∧ y = x + 1 := by
  simp only [edge, List.any_eq_true, Bool.and_eq_true, decide_eq_true_eq, List.contains_iff_mem]
  constructor
  · rintro ⟨r, hr, ⟨h1, h2⟩, h3⟩
    obtain ⟨i, hi, rfl⟩ := List.mem_map.1 hr
    simp [chR] at h1 h3 hi
    omega
  · rintro ⟨h1, h2⟩
    exact ⟨chR x, List.mem_map.2 ⟨x, by simpa using h1, rfl⟩, ⟨rfl, by simp [chR]; omega⟩, by simp [chR]; omega⟩
theorem cl_edge (L k m x y : Nat) (hL : 1 ≤ L) : edge L (chL k ++ [clR k m]) x y = true ↔ (x < k ∧ y = x + 1) ∨ (x = k ∧ y = m) := by
  rw [edge_append, Bool.or_eq_true, ch_edge L k x y hL]
  simp [edge, clR]
  omega
theorem ch_reach (L k x : Nat) (hL : 1 ≤ L) (E : Nat → Nat → Bool) (hE : ∀ x y, x < k → y = x + 1 → E x y = true) : ∀ d, x + d + 1 ≤ k → Reach E x (x + d + 1)
  | 0, h => .step (hE x _ (by omega) rfl)
  | d + 1, h => (ch_reach L k x hL E hE d (by omega)).snoc (hE _ _ (by omega) rfl)
theorem ch_noRound (k : Nat) : noRound (chL k) := by
  intro i h
  have : i < i := h (fun z => i < z) (fun y e => by have := (ch_edge 1 k i y (by decide)).1 e; omega) (fun x y hx e => by have := (ch_edge 1 k x y (by decide)).1 e; omega)
  omega
theorem cl_round (k m : Nat) (hm : m ≤ k) : ¬ noRound (chL k ++ [clR k m]) := by
  intro h
  have e : edge 1 (chL k ++ [clR k m]) k m = true := (cl_edge 1 k m k m (by decide)).2 (.inr ⟨rfl, rfl⟩)
  by_cases hk : m = k
  · subst hk; exact h m (.step e)
  · have := ch_reach 1 k m (by decide) (edge 1 (chL k ++ [clR k m])) (fun x y h1 h2 => (cl_edge 1 k m x y (by decide)).2 (.inl ⟨h1, h2⟩)) (k - m - 1) (by omega)
    rw [show m + (k - m - 1) + 1 = k by omega] at this
    exact h m (this.snoc e)
theorem tw_edge (rs : List Rule) (k x y : Nat) : edge 1 (rs ++ [twR k]) x y = edge 1 rs x y := by
  rw [edge_append]
  simp [edge, twR]
theorem noRound_congr {rs qs : List Rule} (h : ∀ x y, edge 1 rs x y = edge 1 qs x y) : noRound rs ↔ noRound qs := by
  unfold noRound
  constructor
  · intro h1 i hr; exact h1 i ((Reach.congr h).2 hr)
  · intro h1 i hr; exact h1 i ((Reach.congr h).1 hr)
theorem one_right (a b : Int) (ha : 0 ≤ a ∧ a ≤ 19) (hb : 0 ≤ b ∧ b ≤ 19) : right ⟨a, [b], 0, [0], 0⟩ = true := by
  have h1 : inB a 0 19 = true := inB_true ha
  have h2 : isPart b = true := inB_true (by omega)
  simp only [right, isSym, rhsOk, actOk, h1, List.all_cons, List.all_nil, h2, Bool.and_true, Bool.true_and, List.length_cons, List.length_nil]
  decide
theorem two_right (a : Int) (ha : 0 ≤ a ∧ a ≤ 19) : right ⟨a, [0, 0], 0, [0], 0⟩ = true := by
  have h1 : inB a 0 19 = true := inB_true ha
  simp only [right, isSym, rhsOk, actOk, h1, Bool.true_and]
  decide
theorem rd_right (k m : Nat) (c : Bool) (hk : k ≤ 19) (hm : m ≤ k) : (rdL k m c).all right = true := by
  have h1 : (chL k).all right = true := by
    rw [List.all_eq_true]
    intro r hr
    obtain ⟨i, hi, rfl⟩ := List.mem_map.1 hr
    have : i < k := by simpa using hi
    exact one_right _ _ (by omega) (by omega)
  cases c with
  | false => exact h1
  | true =>
    simp only [rdL, if_true, List.all_append, h1, Bool.true_and, List.all_cons, List.all_nil, Bool.and_true]
    exact one_right _ _ (by omega) (by omega)
theorem rd_length (k m : Nat) (c : Bool) : (rdL k m c).length ≤ k + 1 := by
  cases c <;> simp [rdL, chL_length]
theorem rd_check (k m : Nat) (c : Bool) (hk : k ≤ 19) (hm : m ≤ k) : check (rdL k m c) = !c := by
  have h1 := rd_right k m c hk hm
  have h2 := rd_length k m c
  cases c with
  | false =>
    have h3 : noRound (rdL k m false) := ch_noRound k
    simp [check_eq, h1, h3]; omega
  | true =>
    have h3 : ¬ noRound (rdL k m true) := cl_round k m hm
    simp [check_eq, h3]
theorem tw_check (k m : Nat) (c : Bool) (hk : k ≤ 19) (hm : m ≤ k) : check (rdL k m c ++ [twR k]) = !c := by
  have h1 := rd_right k m c hk hm
  have h2 := rd_length k m c
  have h4 : right (twR k) = true := two_right _ (by omega)
  have h5 := noRound_congr (tw_edge (rdL k m c) k)
  cases c with
  | false =>
    have h3 : noRound (rdL k m false ++ [twR k]) := h5.2 (ch_noRound k)
    simp [check_eq, h1, h3, h4]; omega
  | true =>
    have h3 : ¬ noRound (rdL k m true ++ [twR k]) := fun h => cl_round k m hm (h5.1 h)
    simp [check_eq, h3]
theorem rd_edge6 (k m : Nat) (c : Bool) (x y : Nat) : edge 6 (rdL k m c) x y = true ↔ (x < k ∧ y = x + 1) ∨ (c = true ∧ x = k ∧ y = m) := by
  cases c with
  | false => simp [rdL, ch_edge 6 k x y (by decide)]
  | true => simp [rdL, cl_edge 6 k m x y (by decide)]
theorem count_le (k : Nat) (hk : k ≤ 19) : (symL (fun j => decide (j ≤ k))).length = k + 1 := by
  have : ∀ k : Fin 20, (symL (fun j => decide (j ≤ k.1))).length = k.1 + 1 := by decide
  exact this ⟨k, by omega⟩
theorem rd_reached (k m : Nat) (c : Bool) (hk : k ≤ 19) (hk1 : 1 ≤ k) (hm : m ≤ k) : (reachedL (rdL k m c)).length = k + 1 := by
  have : reachedL (rdL k m c) = symL (fun j => decide (j ≤ k)) := symL_congr (fun j _ => by
    rw [Bool.eq_iff_iff, reachedS_iff (rd_right k m c hk hm), decide_eq_true_eq]
    constructor
    · rintro (h | h)
      · omega
      · exact h (fun z => z ≤ k) (fun y e => by have := (rd_edge6 k m c 0 y).1 e; omega) (fun x y hx e => by have := (rd_edge6 k m c x y).1 e; omega)
    · intro h
      by_cases h0 : j = 0
      · exact .inl h0
      · right
        have := ch_reach 6 k 0 (by decide) (edge 6 (rdL k m c)) (fun x y h1 h2 => (rd_edge6 k m c x y).2 (.inl ⟨h1, h2⟩)) (j - 1) (by omega)
        rwa [show 0 + (j - 1) + 1 = j by omega] at this)
  rw [this, count_le k hk]

set_option maxRecDepth 4000 in
set_option maxHeartbeats 4000000 in
theorem walk (a0 a1 : Int) (a2 : Bool) (W : World) (_ : (Lit.int .i64 a0).wf = true) (_ : (Lit.int .i64 a1).wf = true) (hT : Tab W) : Calls Tryd.prog 5 #[.int .i64 a0, .int .i64 a1, .bool a2] W fun e W' => e = .returned (.bool true) ∧ Below W.heap.size W W' := by
  have HK := hid (known_any W hT)
  have HT := hid hT
  have HW := hid (fun w => lwithin_any a0 19 w (by decide) (by decide))
  obtain ⟨m, hm⟩ : ∃ m : Nat, a0 % 19 = (m : Int) := ⟨(a0 % 19).toNat, by omega⟩
  have hm19 : m < 19 := by omega
  rw [hm] at HW
  clear hm hT
  go_enter Tryd.func5, Tryd.ntmps5
  go_wp2_with fail
  refine HK.out.mono ?_
  rintro e w1 ⟨rfl, bel⟩
  have HL1 := hid bel
  clear bel HK
  go_wp2_with fail
  refine (HW.out w1).mono ?_
  rintro e w2 ⟨rfl, rfl⟩
  go_wp2
  obtain ⟨K, hK⟩ : ∃ K : Nat, K = m + 1 := ⟨_, rfl⟩
  have hKi : (1 : Int) + (m : Int) = (K : Int) := by omega
  have hK19 : 1 ≤ K ∧ K ≤ 19 := by omega
  simp only [hKi]
  clear hKi hK HW hm19
  go_loopw [8, 9] (fun v4 v5 wr => ∃ j : Nat, j ≤ K ∧ v5 = .int .i64 j ∧ RulesNew wr W.heap.size v4 (chL j) ∧ Below W.heap.size W wr) (fun _ v5 _ => K - (intOf v5).toNat)
  case atStart => exact ⟨0, by omega, rfl, RulesNew.nil _ _, HL1.out⟩
  case round =>
    obtain ⟨j, hj, rfl, hR, hb⟩ := hrel
    by_cases hlt : j < K
    · have HR := hid hR
      have HB := hid hb
      have hlt2 : (j : Int) < (K : Int) := by omega
      have hsz := hb.size
      have hl : (chL j).length ≤ 1000000 := by rw [chL_length]; omega
      clear hR hb
      have hgi : W.heap.size ≤ (((wr.alloc (.cells #[.int .i64 ((j : Int) + 1)] 3)).alloc (.cells #[.int .i64 0] 3)).alloc (.cells #[.int .i64 (j : Int), .slice (some ⟨wr.heap.size, 0, none⟩) 1 1, .int .i64 0, .slice (some ⟨wr.heap.size + 1, 0, none⟩) 1 1, .int .i64 0] 26)).heap.size := by simp; omega
      have r1 := ((row_one wr ((j : Int) + 1) _ rfl).on (up_alloc (wr.alloc (.cells #[.int .i64 ((j : Int) + 1)] 3)) (.cells #[.int .i64 0] 3))).on (up_alloc _ (.cells #[.int .i64 (j : Int), .slice (some ⟨wr.heap.size, 0, none⟩) 1 1, .int .i64 0, .slice (some ⟨wr.heap.size + 1, 0, none⟩) 1 1, .int .i64 0] 26))
      have r2 := (row_one (wr.alloc (.cells #[.int .i64 ((j : Int) + 1)] 3)) 0 (wr.heap.size + 1) (by simp)).on (up_alloc _ (.cells #[.int .i64 (j : Int), .slice (some ⟨wr.heap.size, 0, none⟩) 1 1, .int .i64 0, .slice (some ⟨wr.heap.size + 1, 0, none⟩) 1 1, .int .i64 0] 26))
      have r3 := box_new ((wr.alloc (.cells #[.int .i64 ((j : Int) + 1)] 3)).alloc (.cells #[.int .i64 0] 3)) (.int .i64 (j : Int)) (.slice (some ⟨wr.heap.size, 0, none⟩) 1 1) (.int .i64 0) (.slice (some ⟨wr.heap.size + 1, 0, none⟩) 1 1) (.int .i64 0) 26 (wr.heap.size + 1 + 1) (by simp)
      have r4 := (((HR.out.on (up_alloc wr (.cells #[.int .i64 ((j : Int) + 1)] 3))).on (up_alloc _ (.cells #[.int .i64 0] 3))).on (up_alloc _ (.cells #[.int .i64 (j : Int), .slice (some ⟨wr.heap.size, 0, none⟩) 1 1, .int .i64 0, .slice (some ⟨wr.heap.size + 1, 0, none⟩) 1 1, .int .i64 0] 26)))
      have o1 := off_new HR.out (g := wr.heap.size) (Nat.le_refl _) 0 1 1 (chR j).rhs
      have o2 := off_new HR.out (g := wr.heap.size + 1) (by omega) 0 1 1 (chR j).p
      have HA := hid (And.intro r1 (And.intro r2 (And.intro r3 (And.intro r4 (And.intro o1 o2)))))
      clear r1 r2 r3 r4 o1 o2
      go_wp2_with (at_builtin; refine wpList_append_rule _ rfl (.tmp 21) (.tmp 29) rfl W.heap.size _ (chL j) rfl HA.out.2.2.2.1 (chR j) _ _ HA.out.1 HA.out.2.1 HA.out.2.2.2.2.1 HA.out.2.2.2.2.2 (wr.heap.size + 1 + 1) rfl HA.out.2.2.1 hl hgi ?_; intro g cap w3 hR hg hloc; have HR3 := hid hR; have HB3 := hid ((((HB.out.alloc HB.out.size _).alloc (by simp; omega) _).alloc (by simp; omega) _).grown hg hgi (fun k e => (HR.out.own k e).1)); clear hR hg hloc)
      go_roundw
      case rel => exact ⟨j + 1, by omega, by simp, by rw [chL_succ]; simpa [chL_length] using HR3.out, HB3.out⟩
      case measure => simp [intOf]; omega
    · obtain rfl : K = j := by omega
      obtain ⟨W1, rfl⟩ : ∃ W1, W1 = wr := ⟨wr, rfl⟩
      have HR := hid hR
      have HB := hid hb
      have hsz := hb.size
      clear hR hb
      have HK19 := hid hK19
      cases a2 with
      | false =>
        obtain ⟨WW, rfl⟩ : ∃ WW, WW = W1 := ⟨W1, rfl⟩
        have HMK : Hid (0 ≤ K) := hid (by omega)
        have HLEN : Hid ((rdL K 0 false).length ≤ 1000) := hid (by have := rd_length K 0 false; omega)
        have HQ : Hid (RulesAt WW u8 (rdL K 0 false)) := hid (RulesNew.rules (rs := rdL K 0 false) HR.out (by have := HLEN.out; omega))
        have HNC := hid HR.out.none_cap
        have HBW := hid HB.out
        obtain ⟨ad8, cap8, hv8⟩ := HR.out.shape
        rw [chL_length] at hv8
        subst hv8
        go_wp2_with (first | (at_builtin; refine wpList_append_rules WW _ (up_alloc _ _) rfl (.tmp 44) (.tmp 45) rfl WW.heap.size _ [] rfl (rulesNew_made WW WW.heap.size (Nat.le_refl _) _ rfl) (fun g e => Nat.le_of_eq (Option.some.inj (show some WW.heap.size = some g from e))) _ (rdL K 0 false) rfl HQ.out HNC.out (by have := HLEN.out; simp; omega) (by simp) ?_; intro v5 w5 hR5 hg5 hloc5; have HB5 := hid (((Below.refl WW.heap.size WW).alloc (Nat.le_refl _) _).grown hg5 (by simp) (fun k e => Nat.le_of_eq (Option.some.inj (show some WW.heap.size = some k from e)))); rw [List.nil_append] at hR5; have HR5 := hid hR5; obtain ⟨ad5, cap5, hv5⟩ := hR5.shape; subst hv5; have hsz5 := HB5.out.size; clear hR5 hg5 hloc5) | (at_builtin; have hf := app_two HR5.out (K : Int) 0 0 0 0; refine wpList_append_rule _ rfl (.tmp 46) (.tmp 52) rfl WW.heap.size _ (rdL K 0 false) rfl hf.2.2.2.1 (twR K) _ _ hf.1 hf.2.1 hf.2.2.2.2.1 hf.2.2.2.2.2 (w5.heap.size + 1 + 1) rfl hf.2.2.1 (by have := HLEN.out; omega) (by simp; omega) ?_; intro g7 cap7 w7 hR7 hg7 hloc7; have HB7 := hid ((((HB5.out.alloc HB5.out.size _).alloc (by simp; omega) _).alloc (by simp; omega) _).grown hg7 (by simp; omega) (fun k e => (HR5.out.own k e).1)); have HR7 := hid (hR7.rules (by have := HLEN.out; simp; omega)); clear hR7 hg7 hloc7 hf))
        have HL7 := hid (HBW.out.trans (HB7.out.mono HBW.out.size))
        have HQ7 := hid (HQ.out.on HB7.out)
        refine (check_any (rdL K 0 false) _ w7 HQ7.out (HT.out.on HL7.out)).mono ?_
        rintro e w8 ⟨rfl, bel⟩
        rw [rd_check K 0 false HK19.out.2 HMK.out]
        have HL8 := hid (up_trans HL7.out bel)
        have HQ8 := hid (HQ7.out.on bel)
        have HR8 := hid (HR7.out.on bel)
        clear bel
        go_wp2_with fail
        refine (check_any (rdL K 0 false ++ [twR K]) _ w8 (by simpa using HR8.out) (HT.out.on HL8.out)).mono ?_
        rintro e w9 ⟨rfl, bel⟩
        rw [tw_check K 0 false HK19.out.2 HMK.out]
        have HL9 := hid (up_trans HL8.out bel)
        have HQ9 := hid (HQ8.out.on bel)
        clear bel
        go_wp2_with fail
        refine (reached_any (rdL K 0 false) _ w9 HQ9.out (HT.out.on HL9.out) (rd_right K 0 false HK19.out.2 HMK.out)).mono ?_
        rintro e w10 ⟨u, rfl, hu, bel⟩
        have HL10 := hid (up_trans HL9.out bel)
        obtain ⟨adu, capu, hus⟩ := hu.shape
        rw [rd_reached K 0 false HK19.out.2 HK19.out.1 HMK.out] at hus
        subst hus
        clear bel hu
        go_wp2
        go_ret
        exact ⟨rfl, HL10.out⟩
      | true =>
        obtain ⟨m2, hm2⟩ : ∃ m2 : Nat, a1 % ((K : Int) + 1) = (m2 : Int) := ⟨(a1 % ((K : Int) + 1)).toNat, by have := Int.emod_nonneg a1 (show (K : Int) + 1 ≠ 0 by omega); omega⟩
        have hm2K : m2 ≤ K := by have := Int.emod_lt_of_pos a1 (show 0 < (K : Int) + 1 by omega); omega
        have HMK := hid hm2K
        have HW2 := hid (fun w => lwithin_any a1 ((K : Int) + 1) w (by omega) (by omega))
        rw [hm2] at HW2
        have HLEN : Hid ((rdL K m2 true).length ≤ 1000) := hid (by have := rd_length K m2 true; omega)
        clear hm2
        go_wp2_with fail
        refine (HW2.out W1).mono ?_
        rintro e w4 ⟨rfl, hw4⟩
        obtain rfl := hw4.symm
        clear hw4
        go_wp2_with (first | (at_builtin; have hf := app_one HR.out (K : Int) 0 (m2 : Int) 0; refine wpList_append_rule _ rfl (.tmp 32) (.tmp 42) rfl W.heap.size _ (chL K) rfl hf.2.2.2.1 (clR K m2) _ _ hf.1 hf.2.1 hf.2.2.2.2.1 hf.2.2.2.2.2 (W1.heap.size + 1 + 1) rfl hf.2.2.1 (by rw [chL_length]; omega) (by simp; omega) ?_; intro g cap WW hR3 hg3 hloc3; rw [chL_length] at hR3; have HQ : Hid (RulesAt WW (.slice (some ⟨g, 0, none⟩) (K + 1) cap) (rdL K m2 true)) := hid (RulesNew.rules (rs := rdL K m2 true) hR3 (by have := HLEN.out; omega)); have HNC := hid hR3.none_cap; have HBW := hid ((((HB.out.alloc HB.out.size _).alloc (by simp; omega) _).alloc (by simp; omega) _).grown hg3 (by simp; omega) (fun k e => (HR.out.own k e).1)); rw [chL_length]; clear hR3 hg3 hloc3 hf) | (at_builtin; refine wpList_append_rules WW _ (up_alloc _ _) rfl (.tmp 44) (.tmp 45) rfl WW.heap.size _ [] rfl (rulesNew_made WW WW.heap.size (Nat.le_refl _) _ rfl) (fun g e => Nat.le_of_eq (Option.some.inj (show some WW.heap.size = some g from e))) _ (rdL K m2 true) rfl HQ.out HNC.out (by have := HLEN.out; simp; omega) (by simp) ?_; intro v5 w5 hR5 hg5 hloc5; have HB5 := hid (((Below.refl WW.heap.size WW).alloc (Nat.le_refl _) _).grown hg5 (by simp) (fun k e => Nat.le_of_eq (Option.some.inj (show some WW.heap.size = some k from e)))); rw [List.nil_append] at hR5; have HR5 := hid hR5; obtain ⟨ad5, cap5, hv5⟩ := hR5.shape; subst hv5; have hsz5 := HB5.out.size; clear hR5 hg5 hloc5) | (at_builtin; have hf := app_two HR5.out (K : Int) 0 0 0 0; refine wpList_append_rule _ rfl (.tmp 46) (.tmp 52) rfl WW.heap.size _ (rdL K m2 true) rfl hf.2.2.2.1 (twR K) _ _ hf.1 hf.2.1 hf.2.2.2.2.1 hf.2.2.2.2.2 (w5.heap.size + 1 + 1) rfl hf.2.2.1 (by have := HLEN.out; omega) (by simp; omega) ?_; intro g7 cap7 w7 hR7 hg7 hloc7; have HB7 := hid ((((HB5.out.alloc HB5.out.size _).alloc (by simp; omega) _).alloc (by simp; omega) _).grown hg7 (by simp; omega) (fun k e => (HR5.out.own k e).1)); have HR7 := hid (hR7.rules (by have := HLEN.out; simp; omega)); clear hR7 hg7 hloc7 hf))
        have HL7 := hid (HBW.out.trans (HB7.out.mono HBW.out.size))
        have HQ7 := hid (HQ.out.on HB7.out)
        refine (check_any (rdL K m2 true) _ w7 HQ7.out (HT.out.on HL7.out)).mono ?_
        rintro e w8 ⟨rfl, bel⟩
        rw [rd_check K m2 true HK19.out.2 HMK.out]
        have HL8 := hid (up_trans HL7.out bel)
        have HQ8 := hid (HQ7.out.on bel)
        have HR8 := hid (HR7.out.on bel)
        clear bel
        go_wp2_with fail
        refine (check_any (rdL K m2 true ++ [twR K]) _ w8 (by simpa using HR8.out) (HT.out.on HL8.out)).mono ?_
        rintro e w9 ⟨rfl, bel⟩
        rw [tw_check K m2 true HK19.out.2 HMK.out]
        have HL9 := hid (up_trans HL8.out bel)
        have HQ9 := hid (HQ8.out.on bel)
        clear bel
        go_wp2_with fail
        refine (reached_any (rdL K m2 true) _ w9 HQ9.out (HT.out.on HL9.out) (rd_right K m2 true HK19.out.2 HMK.out)).mono ?_
        rintro e w10 ⟨u, rfl, hu, bel⟩
        have HL10 := hid (up_trans HL9.out bel)
        obtain ⟨adu, capu, hus⟩ := hu.shape
        rw [rd_reached K m2 true HK19.out.2 HK19.out.1 HMK.out] at hus
        subst hus
        clear bel hu
        go_wp2
        go_ret
        exact ⟨rfl, HL10.out⟩

theorem own : ownKnob Tryd.prog.godebug = none := by kernel_rfl

theorem table {W : World} (h : laidMetH Tryd.prog Rows.gramRoundsRow.laid W) : Tab W := by
  rw [MakeChecks.laidMetH_plain _ _ _ (by kernel_rfl)] at h
  exact tab_of_laid h

set_option maxRecDepth 100000 in
theorem lifted (os : Os) (started : os.Started) (H : Type) (enc : TypeId × Value → H) :
    ReturnsInHanded {} Tryd.checked os 5 .any (fun w args => (Rows.gramRoundsSpec.pre enc Tryd.prog Tryd.f5 Rows.gramRoundsRow.domain false w args ∧ laidMetH Tryd.prog Rows.gramRoundsRow.laid w) ∧ sizedMet enc Tryd.prog Tryd.f5 (OpenSpec.ofChange Rows.gramRoundsSpec) false w args)
      (Rows.gramRoundsSpec.post enc Tryd.prog Tryd.f5 false true false false) := by
  refine returnsInHanded_of_change_and (C := Tryd.checked) (X := fun w _ => laidMetH Tryd.prog Rows.gramRoundsRow.laid w) (fun _ _ _ hh h => h.of_heap hh) own started (by kernel_rfl) Tryd.func5
    (ChangeSpec.witness_shaped (enc := enc) (C := Tryd.checked) (os := os) (X := fun w _ => laidMetH Tryd.prog Rows.gramRoundsRow.laid w) false (World.laidAll Tryd.prog os Rows.gramRoundsRow.laid) #[.int .i64 0, .int .i64 0, .bool false] 8 (World.laidAll_os _ _ _)
      (World.shaped_of_ZipB (by kernel_rfl) (by kernel_rfl)) (by kernel_rfl) (by kernel_rfl) (by kernel_rfl)
      (by rw [MakeChecks.laidMetH_plain _ _ _ (by kernel_rfl)]; exact laidMet_laidAll _ (by kernel_rfl) (by kernel_rfl))) ?_
  intro W base args ds gs before hval0 hW _ _ hL _
  have hval : ∀ (j : Nat) t v, Tryd.f5.params[j]? = some t → args[j]? = some v → Value.okWide Tryd.prog W .any base t v := hval0
  have hW' := hW
  obtain ⟨p, q, hA0, hV, rfl, hfz, hnd⟩ := hW
  have hA : DataW.TrodAll enc Tryd.prog W 0 (fun _ => true) true Tryd.f5.params.toList args.toList ds p := hA0
  rw [Tryd.params5] at hA hval
  obtain ⟨v0, vs0, d0, ds0, p0, q0, hargs, rfl, rfl, h0, r0⟩ := trodAll_cons hA
  obtain ⟨v1, vs1, d1, ds1, p1, q1, rfl, rfl, rfl, h1, r1⟩ := trodAll_cons r0
  obtain ⟨v2, vs2, d2, ds2, p2, q2, rfl, rfl, rfl, h2, r2⟩ := trodAll_cons r1
  obtain ⟨rfl, rfl, rfl⟩ := trodAll_nil r2
  obtain rfl : args = #[v0, v1, v2] := by cases args; simp_all
  obtain ⟨rfl, rfl⟩ := trodVars_none hV
  obtain ⟨a0, rfl, rfl, rfl, w0⟩ := open_int Tryd.underlying3 (hval 0 3 v0 rfl rfl) h0
  obtain ⟨a1, rfl, rfl, rfl, w1⟩ := open_int Tryd.underlying3 (hval 1 3 v1 rfl rfl) h1
  obtain ⟨a2, rfl, rfl, rfl⟩ := open_bool Tryd.underlying4 (hval 2 4 v2 rfl rfl) h2
  clear hA0 hval0
  refine (walk a0 a1 a2 W w0 w1 (table hL)).mono fun e W' ⟨he, bel⟩ => ?_
  subst he
  exact ⟨_, rfl, _, _, _, [], _, [], hW', trodAll_mk1 (shut_bool Tryd.underlying4 _), (trodAll_cons_mk (shut_int Tryd.underlying3 w0) (trodAll_cons_mk (shut_int Tryd.underlying3 w1) (trodAll_cons_mk (shut_bool Tryd.underlying4 _) trodAll_mk0))), rfl, bel.frame _, fun h => by cases h⟩

theorem row_holds : Rows.GramRoundsSaid :=
  OpenClaim.holds_of_wide 5 Tryd.f5 rfl rfl rfl rfl rfl rfl rfl ⟨rfl, rfl, rfl, rfl, rfl⟩ rfl rfl rfl rfl rfl (by kernel_rfl) Tryd.func5 (by kernel_rfl)
    (of_decide_eq_true (by kernel_rfl)) (by unfold Func.isWrapper; first | (rw [if_pos (by decide +kernel)]; kernel_rfl) | (rw [if_neg (by decide +kernel)]; exact ⟨rfl, rfl⟩))
    (fun os started H enc _ => lifted os started H enc)

theorem gramRounds_holds : Rows.GramRoundsCardSaid :=
  Claim7.holds_tied_plain_at .later [] _ _ _ _ row_holds (fun _ h => by cases h) (by kernel_rfl) (fun _ h => by cases h) gramRounds_row_tie rfl ⟨rfl, rfl⟩ (by kernel_rfl) rfl
    (fun f fn hf hfn => by
      obtain rfl : f = 5 := Option.some.inj ((show Tryd.prog.funcNamed "interlocutor/interlocutorlaw4.GramRounds" = some 5 by kernel_rfl).symm.trans hf) |>.symm
      obtain rfl : fn = Tryd.f5 := (Option.some.inj (Tryd.func5.symm.trans hfn)).symm
      exact ⟨by kernel_rfl, fun j t ht => by
        rw [Tryd.params5] at ht
        have hm : t ∈ [3, 3, 4] := by simpa using Array.mem_of_getElem? ht
        have hall : ([3, 3, 4].all fun u => !Tryd.prog.wantsStandIn u) = true := by kernel_rfl
        exact (show Tryd.prog.wantsStandIn t = false by simpa using List.all_eq_true.1 hall t hm)⟩)
    (by kernel_rfl)

end Go.Proofs.YtgpkgkmjppphgaaDoor
