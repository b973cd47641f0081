/- What fold.Fold answers for every string of at most a million bytes: its signs made alike, and where they begin and where the text ends, in two new rows of ints; nothing else is touched. -/
import Derived.Test.YtigolkgojckciaaDoorText
import Derived.RegionTactic
import Derived.ChangeAlike
namespace Go.Proofs.YtigolkgojckciaaDoor
open Go.RowKit

theorem Tryd.info3 : (Tryd.prog.info? 3).map (fun i => (i.zero, i.size, i.bytes)) = some (some (.int .i64 0), 1, 8) := by kernel_rfl

theorem count_from (s : ByteArray) : ∀ (f pos : Nat), Lib.runeCountFrom s f pos = (signs f (s.data.toList.drop pos)).length
  | 0, _ => rfl
  | f + 1, pos => by
    unfold Lib.runeCountFrom
    by_cases h : pos < s.size
    · rw [if_pos h, count_from s f, signs_at s f pos h, List.length_cons]; omega
    · rw [if_neg h, signs_end s _ pos h]; rfl
theorem count_eq (s : ByteArray) : Lib.runeCount s = (signsOf s.data.toList).length := by
  unfold Lib.runeCount signsOf
  rw [count_from, List.drop_zero, ← Lib.size_eq]

/-- A row of ints from a place of a block on. -/
def Holds (w : World) (g o : Nat) (xs : List Int) : Prop := ∀ j, j < xs.length → w.cell? ⟨g, o + j, none⟩ = some (.int .i64 (xs.getD j 0))

theorem Holds.on {w w' : World} {g o : Nat} {xs : List Int} (h : Holds w g o xs) (hb : Below w.heap.size w w') : Holds w' g o xs := by
  intro j hj
  have := h j hj
  exact (hb.cell (lt_of_cell this)).trans this

theorem owns_iterAt {w : World} {base : Nat} {e : TypeId} {size : Nat} {v : Value} {n : Nat} {xs : List Value} (h : w.ownsRow base e size v n xs) {k : Nat} {s : ByteArray} {pos : Nat} (hk : w.heap[k]? = some (.stringIter s pos)) (pos' : Nat) : (w.iterAt k s pos').ownsRow base e size v n xs := by
  refine ⟨h.1, ?_⟩
  rcases h.2 with hn | ⟨g, cap, cur, hv, hbg, hg, rest⟩
  · exact .inl hn
  · have hkg : g ≠ k := by
      intro e1
      rw [e1, hk] at hg
      cases hg
    exact .inr ⟨g, cap, cur, hv, hbg, (Lib.iterAt_other w k g s pos' hkg).trans hg, rest⟩
theorem owns_on {w w' : World} {base : Nat} {e : TypeId} {size : Nat} {v : Value} {n : Nat} {xs : List Value} (h : w.ownsRow base e size v n xs) (hb : Below w.heap.size w w') : w'.ownsRow base e size v n xs := by
  refine ⟨h.1, ?_⟩
  rcases h.2 with hn | ⟨g, cap, cur, hv, hbg, hg, rest⟩
  · exact .inl hn
  · exact .inr ⟨g, cap, cur, hv, hbg, iter_on hg hb, rest⟩
theorem one_cell (w : World) (x : Int) (t : TypeId) : ∀ j u, [Value.int .i64 x][j]? = some u → (w.alloc (.cells #[.int .i64 x] t)).cell? ((⟨w.heap.size, 0, none⟩ : Addr).add j) = some u := by
  intro j u hj
  match j, hj with
  | 0, hj => simp at hj; subst hj; simp [Addr.add]
theorem one_oneCell (x : Int) : ∀ u ∈ [Value.int .i64 x], u.oneCell' = true := by
  intro u hu
  simp at hu
  subst hu
  rfl

theorem holds_owns {w : World} {base g n cap : Nat} {xs : List Int} (h : w.ownsRow base 3 1 (.slice (some ⟨g, 0, none⟩) n cap) n (xs.map (Value.int .i64))) : Holds w g 0 xs := by
  intro j hj
  have hl : xs.length = n := by have := h.1; simpa using this
  rw [Nat.zero_add, h.cellAt j (by omega)]
  simp [hj]

theorem step_keep {w W W' : World} {B K g : Nat} {o x : Obj} (gr : (W.alloc o).grownBy W' (some g)) (hit : W.heap[K]? = some x) (hK : K ≠ g) (hL : Below B w W) (hB : B ≤ W.heap.size) (hg : B ≤ g) :
    W'.heap[K]? = some x ∧ Below B w W' ∧ W.heap.size + 1 ≤ W'.heap.size := by
  have hlt : K < W.heap.size := (Array.getElem?_eq_some_iff.1 hit).1
  have hs : (W.alloc o).heap.size = W.heap.size + 1 := by simp
  refine ⟨?_, (hL.alloc hB o).grown gr (by omega) (by intro k hk; cases hk; exact hg), by have := gr.size; omega⟩
  rw [gr.block K (by omega) (by intro h; cases h; exact hK rfl), Lib.alloc_old W o K hlt]
  exact hit

theorem fold_walk (s : ByteArray) (w : World) (hs : s.size ≤ 1000000) (hT : Tab w) :
    Calls Tryd.prog 11 #[.string s] w fun e w' => ∃ g1 g2 c1 c2, e = .returned (.tuple #[.slice (some ⟨g1, 0, none⟩) (runesOf s.data.toList).length c1, .slice (some ⟨g2, 0, none⟩) ((runesOf s.data.toList).length + 1) c2])
      ∧ (runesOf s.data.toList).length ≤ c1 ∧ (runesOf s.data.toList).length + 1 ≤ c2 ∧ Holds w' g1 0 (runesOf s.data.toList) ∧ Holds w' g2 0 (placesOf s.data.toList) ∧ w.heap.size ≤ g1 ∧ w.heap.size ≤ g2 ∧ Below w.heap.size w w' := by
  have HT := hid hT
  clear hT
  obtain ⟨i0, hi, hz0, hz1, hz2⟩ := info_parts Tryd.info3
  have hn0 := Lib.runeCount_le s
  have hc := count_eq s
  have hrl : (runesOf s.data.toList).length = Lib.runeCount s := by rw [hc]; simp [runesOf]
  have hmk : ∀ (W : World) (c : Int), 0 ≤ c → c ≤ 2000000 → (Instr.makeSlice 22 (.int .i64 0) (.int .i64 c)).run Tryd.prog W = .ok (.slice (some ⟨W.heap.size, 0, none⟩) 0 c.toNat) (W.alloc (.cells (madeCells #[.int .i64 0] c.toNat) 3)) := by
    intro W c h0 h1
    have := run_make (P := Tryd.prog) W 22 3 i0 (.int .i64 0) Tryd.underlying22 hi hz0 .i64 .i64 0 c (by omega) h0 (by rw [hz2]; omega) (by omega)
    rw [this, hz1, Nat.mul_one]; rfl
  have HRC := hid (runeCount_any s w (by omega))
  clear hc
  rw [hrl]
  generalize Lib.runeCount s = n at *
  go_enter Tryd.func11, Tryd.ntmps11
  go_wp2_with fail
  refine HRC.out.mono ?_
  rintro e w1 ⟨rfl, p0, rfl⟩
  have hbi : Below w.heap.size w (w.iter s p0) := up_alloc _ _
  have m1 : ∀ W : World, (Instr.makeSlice 22 (.int .i64 0) (.int .i64 (n : Int))).run Tryd.prog W = .ok (.slice (some ⟨W.heap.size, 0, none⟩) 0 n) (W.alloc (.cells (madeCells #[.int .i64 0] n) 3)) := fun W => hmk W n (by omega) (by omega)
  have m2 : ∀ W : World, (Instr.makeSlice 22 (.int .i64 0) (.int .i64 ((n : Int) + 1))).run Tryd.prog W = .ok (.slice (some ⟨W.heap.size, 0, none⟩) 0 (n + 1)) (W.alloc (.cells (madeCells #[.int .i64 0] (n + 1)) 3)) := fun W => hmk W ((n : Int) + 1) (by omega) (by omega)
  go_wp2
  go_region
  · have hBG : w.heap.size ≤ (w.iter s p0).heap.size := hbi.size
    have hGs : ((w.iter s p0).alloc (.cells (madeCells #[.int .i64 0] n) 3)).heap.size = (w.iter s p0).heap.size + 1 := by simp
    have oA := ((World.ownsRow_made (base := w.heap.size) (e := 3) (size := 1) (w.iter s p0) (madeCells #[.int .i64 0] n) n hBG (by unfold maxLen; omega) (by rw [size_madeCells, Nat.mul_one])).alloc (.cells (madeCells #[.int .i64 0] (n + 1)) 3)).drew
    have oB := (World.ownsRow_made (base := w.heap.size) (e := 3) (size := 1) ((w.iter s p0).alloc (.cells (madeCells #[.int .i64 0] n) 3)) (madeCells #[.int .i64 0] (n + 1)) (n + 1) (by rw [hGs]; omega) (by unfold maxLen; omega) (by rw [size_madeCells, Nat.mul_one])).drew
    rw [hGs] at oB
    have hWs : ((((w.iter s p0).alloc (.cells (madeCells #[.int .i64 0] n) 3)).alloc (.cells (madeCells #[.int .i64 0] (n + 1)) 3)).drew).heap.size = (w.iter s p0).heap.size + 2 := by simp
    have hWb : Below w.heap.size w ((((w.iter s p0).alloc (.cells (madeCells #[.int .i64 0] n) 3)).alloc (.cells (madeCells #[.int .i64 0] (n + 1)) 3)).drew) := ((hbi.alloc hBG _).alloc (by rw [hGs]; omega) _).drew
    generalize ((((w.iter s p0).alloc (.cells (madeCells #[.int .i64 0] n) 3)).alloc (.cells (madeCells #[.int .i64 0] (n + 1)) 3)).drew) = W at *
    have hBG2 := hBG
    clear hGs hbi hBG
    generalize (w.iter s p0).heap.size = G at *
    have o1 := oA
    have o2 := oB
    clear oA oB
    have hKW : G + 2 ≤ W.heap.size := Nat.le_of_eq hWs.symm
    clear hWs
    go_wp2
    go_loopw [2, 3] (fun v2 v3 wr => ∃ (pos fuel : Nat) (rs ps : List Int), v2 = .slice (some ⟨G, 0, none⟩) rs.length n ∧ v3 = .slice (some ⟨G + 1, 0, none⟩) rs.length (n + 1) ∧ wr.ownsRow w.heap.size 3 1 (.slice (some ⟨G, 0, none⟩) rs.length n) rs.length (rs.map (Value.int .i64)) ∧ wr.ownsRow w.heap.size 3 1 (.slice (some ⟨G + 1, 0, none⟩) rs.length (n + 1)) rs.length (ps.map (Value.int .i64)) ∧ wr.heap[W.heap.size]? = some (.stringIter s pos) ∧ Below w.heap.size w wr ∧ rs ++ ((signs fuel (s.data.toList.drop pos)).map fun x => runeZ (x.1 : Int)) = runesOf s.data.toList ∧ ps ++ places pos (signs fuel (s.data.toList.drop pos)) = places 0 (signsOf s.data.toList) ∧ s.size ≤ pos + fuel) (fun _ _ wr => s.size - wr.iterPos W.heap.size)
    case atStart =>
      refine ⟨0, s.size, [], [], rfl, rfl, o1.alloc _, o2.alloc _, ?_, hWb.alloc (by omega) _, ?_, ?_, by omega⟩
      · exact World.iter_heap W s 0
      · simp only [runesOf, signsOf, ← Lib.size_eq, List.drop_zero, List.nil_append]
      · simp only [signsOf, ← Lib.size_eq, List.drop_zero, List.nil_append]
    case round =>
      obtain ⟨pos, fuel, rs, ps, rfl, rfl, h1, h2, hit, hbw, hrs, hps, hfu⟩ := hrel
      have hsz : W.heap.size < wr.heap.size := (Array.getElem?_eq_some_iff.1 hit).1
      clear o1 o2 hWb
      have hle : rs.length + (signs fuel (s.data.toList.drop pos)).length = n := by have := congrArg List.length hrs; rw [hrl] at this; simpa using this
      by_cases hp : pos < s.size
      · have hnx : ∀ ty, (Instr.next (.pointer (some ⟨W.heap.size, 0, none⟩)) true ty).run Tryd.prog wr = _ := fun ty => Lib.run_next_any_at wr W.heap.size s pos ty hit hp
        have hd := decode_facts s pos hp
        have hit2 := Lib.iterAt_heap wr W.heap.size s pos (pos + (Utf8.decode s pos).2) hit
        have hbw2 := Lib.below_iterAt hbw (k := W.heap.size) (by omega) s (pos + (Utf8.decode s pos).2)
        have h12 := owns_iterAt h1 hit (pos + (Utf8.decode s pos).2)
        have h22 := owns_iterAt h2 hit (pos + (Utf8.decode s pos).2)
        have hsz2 : W.heap.size < (wr.iterAt W.heap.size s (pos + (Utf8.decode s pos).2)).heap.size := by rw [Lib.iterAt_size]; omega
        obtain ⟨f, rfl⟩ : ∃ f, fuel = f + 1 := ⟨fuel - 1, by omega⟩
        rw [signs_at s f pos hp] at hrs hps hle
        have HT2 := hid (HT.out.on hbw2)
        have b1 : (0 : Int) ≤ (Utf8.decode s pos).1 ∧ ((Utf8.decode s pos).1 : Int) ≤ 1114111 := by have := hd.2.2.2; unfold okRune at this; omega
        have HR := hid (rune_any ((Utf8.decode s pos).1 : Int) (by omega) (by omega) _ HT2.out)
        have HL := hid hbw2
        have HA := hid h12
        have HB := hid h22
        have HE := hid hrs
        have HP := hid hps
        have hcap : rs.length + 1 ≤ n := by rw [List.length_cons] at hle; omega
        clear hbw hbw2 h1 h2 h12 h22 hrs hps hle
        go_wp2_with fail
        refine HR.out.mono ?_
        rintro e W1 ⟨rfl, c1⟩
        have hit3 := iter_on hit2 c1
        have hs3 : W.heap.size < W1.heap.size := by have := c1.size; omega
        have HL3 := hid (HL.out.trans (c1.mono (by omega)))
        have HA3 := hid (owns_on HA.out c1)
        have HB3 := hid (owns_on HB.out c1)
        clear c1 HA HB HL HR
        go_wp2_with (first | (at_builtin; refine wpList_append_fits _ rfl (.tmp 20) (.tmp 24) 22 rfl w.heap.size 3 i0 1 Tryd.underlying22 hi hz1 (G) rs.length n _ rfl (HA3.out.alloc _) ⟨W1.heap.size, 0, none⟩ 1 1 [.int .i64 (runeZ (Utf8.decode s pos).1)] rfl rfl (one_cell _ _ _) (one_oneCell _) (by omega) ?_; intro W2 ho gr; have HF := hid (step_keep gr hit3 (by omega) HL3.out (by omega) (by omega)); have HB4 := hid ((HB3.out.alloc _).kept gr (Or.inr (by simp [Value.ownBlock]))); have HA4 := hid ho; clear ho gr) | (at_builtin; refine wpList_append_fits _ rfl (.tmp 26) (.tmp 28) 22 rfl w.heap.size 3 i0 1 Tryd.underlying22 hi hz1 (G + 1) rs.length (n + 1) _ rfl (HB4.out.alloc _) ⟨W2.heap.size, 0, none⟩ 1 1 [.int .i64 (pos : Int)] rfl rfl (one_cell _ _ _) (one_oneCell _) (by omega) ?_; intro W3 ho gr; have HG := hid (step_keep gr HF.out.1 (by omega) HF.out.2.1 (by have := HF.out.2.2; omega) (by omega)); have HA5 := hid ((HA4.out.alloc _).kept gr (Or.inr (by simp [Value.ownBlock]))); have HB5 := hid ho; clear ho gr))
        have hit5 := HG.out.1
        go_roundw
        case rel =>
          refine ⟨pos + (Utf8.decode s pos).2, f, rs ++ [runeZ (Utf8.decode s pos).1], ps ++ [(pos : Int)], by simp, by simp, by simpa using HA5.out, by simpa using HB5.out, hit5, HG.out.2.1, ?_, ?_, by omega⟩
          · rw [← HE.out]; simp
          · rw [← HP.out]; simp [places]
        case measure =>
          simp only [World.iterPos, hit5, hit]
          omega
      · have hnx : ∀ ty, (Instr.next (.pointer (some ⟨W.heap.size, 0, none⟩)) true ty).run Tryd.prog wr = _ := fun ty => Lib.run_next_end_at wr W.heap.size s pos ty hit hp
        rw [signs_end s fuel pos hp] at hrs hps hle
        have hlen : rs.length = n := by simpa using hle
        rw [List.map_nil, List.append_nil] at hrs
        rw [show places pos [] = [] from rfl, List.append_nil] at hps
        have HA := hid h1
        have HB := hid h2
        have HL := hid hbw
        have HE := hid hrs
        have HP := hid hps
        have hcap : rs.length ≤ n := by omega
        have HN := hid hlen
        clear hbw h1 h2 hrs hps hle hlen
        go_wp2_with (at_builtin; refine wpList_append_fits _ rfl (.tmp 31) (.tmp 34) 22 rfl w.heap.size 3 i0 1 Tryd.underlying22 hi hz1 (G + 1) rs.length (n + 1) _ rfl (HB.out.alloc _) ⟨wr.heap.size, 0, none⟩ 1 1 [.int .i64 (s.size : Int)] rfl rfl (one_cell _ _ _) (one_oneCell _) (by omega) ?_; intro W3 ho gr)
        have HL5 := hid ((HL.out.alloc (by omega) (.cells #[.int .i64 (s.size : Int)] 3)).grown gr (by simp; omega) (by intro k hk; simp at hk; omega))
        have HB5 := hid ho
        have HA5 := hid ((HA.out.alloc (.cells #[.int .i64 (s.size : Int)] 3)).kept gr (Or.inr (by simp [Value.ownBlock])))
        clear ho gr HL HA HB
        go_wp2
        go_ret2
        have e1 := HE.out
        have e2 : ps ++ [(s.size : Int)] = placesOf s.data.toList := by rw [HP.out, Lib.size_eq]; rfl
        have e3 := HN.out
        subst e3
        refine ⟨G, G + 1, rs.length, rs.length + 1, rfl, Nat.le_refl _, Nat.le_refl _, ?_, ?_, by omega, by omega, HL5.out⟩
        · rw [← e1]; exact holds_owns HA5.out
        · rw [← e2]
          have h5 := HB5.out
          rw [show [Value.int .i64 (s.size : Int)] = [(s.size : Int)].map (Value.int .i64) from rfl, ← List.map_append] at h5
          exact holds_owns h5
  · have hBG : w.heap.size ≤ (w.iter s p0).heap.size := hbi.size
    have hGs : ((w.iter s p0).alloc (.cells (madeCells #[.int .i64 0] (n + 1)) 3)).heap.size = (w.iter s p0).heap.size + 1 := by simp
    have oA := ((World.ownsRow_made (base := w.heap.size) (e := 3) (size := 1) (w.iter s p0) (madeCells #[.int .i64 0] (n + 1)) (n + 1) hBG (by unfold maxLen; omega) (by rw [size_madeCells, Nat.mul_one])).alloc (.cells (madeCells #[.int .i64 0] n) 3)).drew
    have oB := (World.ownsRow_made (base := w.heap.size) (e := 3) (size := 1) ((w.iter s p0).alloc (.cells (madeCells #[.int .i64 0] (n + 1)) 3)) (madeCells #[.int .i64 0] n) n (by rw [hGs]; omega) (by unfold maxLen; omega) (by rw [size_madeCells, Nat.mul_one])).drew
    rw [hGs] at oB
    have hWs : ((((w.iter s p0).alloc (.cells (madeCells #[.int .i64 0] (n + 1)) 3)).alloc (.cells (madeCells #[.int .i64 0] n) 3)).drew).heap.size = (w.iter s p0).heap.size + 2 := by simp
    have hWb : Below w.heap.size w ((((w.iter s p0).alloc (.cells (madeCells #[.int .i64 0] (n + 1)) 3)).alloc (.cells (madeCells #[.int .i64 0] n) 3)).drew) := ((hbi.alloc hBG _).alloc (by rw [hGs]; omega) _).drew
    generalize ((((w.iter s p0).alloc (.cells (madeCells #[.int .i64 0] (n + 1)) 3)).alloc (.cells (madeCells #[.int .i64 0] n) 3)).drew) = W at *
    have hBG2 := hBG
    clear hGs hbi hBG
    generalize (w.iter s p0).heap.size = G at *
    have o1 := oB
    have o2 := oA
    clear oA oB
    have hKW : G + 2 ≤ W.heap.size := Nat.le_of_eq hWs.symm
    clear hWs
    go_wp2
    go_loopw [2, 3] (fun v2 v3 wr => ∃ (pos fuel : Nat) (rs ps : List Int), v2 = .slice (some ⟨G + 1, 0, none⟩) rs.length n ∧ v3 = .slice (some ⟨G, 0, none⟩) rs.length (n + 1) ∧ wr.ownsRow w.heap.size 3 1 (.slice (some ⟨G + 1, 0, none⟩) rs.length n) rs.length (rs.map (Value.int .i64)) ∧ wr.ownsRow w.heap.size 3 1 (.slice (some ⟨G, 0, none⟩) rs.length (n + 1)) rs.length (ps.map (Value.int .i64)) ∧ wr.heap[W.heap.size]? = some (.stringIter s pos) ∧ Below w.heap.size w wr ∧ rs ++ ((signs fuel (s.data.toList.drop pos)).map fun x => runeZ (x.1 : Int)) = runesOf s.data.toList ∧ ps ++ places pos (signs fuel (s.data.toList.drop pos)) = places 0 (signsOf s.data.toList) ∧ s.size ≤ pos + fuel) (fun _ _ wr => s.size - wr.iterPos W.heap.size)
    case atStart =>
      refine ⟨0, s.size, [], [], rfl, rfl, o1.alloc _, o2.alloc _, ?_, hWb.alloc (by omega) _, ?_, ?_, by omega⟩
      · exact World.iter_heap W s 0
      · simp only [runesOf, signsOf, ← Lib.size_eq, List.drop_zero, List.nil_append]
      · simp only [signsOf, ← Lib.size_eq, List.drop_zero, List.nil_append]
    case round =>
      obtain ⟨pos, fuel, rs, ps, rfl, rfl, h1, h2, hit, hbw, hrs, hps, hfu⟩ := hrel
      have hsz : W.heap.size < wr.heap.size := (Array.getElem?_eq_some_iff.1 hit).1
      clear o1 o2 hWb
      have hle : rs.length + (signs fuel (s.data.toList.drop pos)).length = n := by have := congrArg List.length hrs; rw [hrl] at this; simpa using this
      by_cases hp : pos < s.size
      · have hnx : ∀ ty, (Instr.next (.pointer (some ⟨W.heap.size, 0, none⟩)) true ty).run Tryd.prog wr = _ := fun ty => Lib.run_next_any_at wr W.heap.size s pos ty hit hp
        have hd := decode_facts s pos hp
        have hit2 := Lib.iterAt_heap wr W.heap.size s pos (pos + (Utf8.decode s pos).2) hit
        have hbw2 := Lib.below_iterAt hbw (k := W.heap.size) (by omega) s (pos + (Utf8.decode s pos).2)
        have h12 := owns_iterAt h1 hit (pos + (Utf8.decode s pos).2)
        have h22 := owns_iterAt h2 hit (pos + (Utf8.decode s pos).2)
        have hsz2 : W.heap.size < (wr.iterAt W.heap.size s (pos + (Utf8.decode s pos).2)).heap.size := by rw [Lib.iterAt_size]; omega
        obtain ⟨f, rfl⟩ : ∃ f, fuel = f + 1 := ⟨fuel - 1, by omega⟩
        rw [signs_at s f pos hp] at hrs hps hle
        have HT2 := hid (HT.out.on hbw2)
        have b1 : (0 : Int) ≤ (Utf8.decode s pos).1 ∧ ((Utf8.decode s pos).1 : Int) ≤ 1114111 := by have := hd.2.2.2; unfold okRune at this; omega
        have HR := hid (rune_any ((Utf8.decode s pos).1 : Int) (by omega) (by omega) _ HT2.out)
        have HL := hid hbw2
        have HA := hid h12
        have HB := hid h22
        have HE := hid hrs
        have HP := hid hps
        have hcap : rs.length + 1 ≤ n := by rw [List.length_cons] at hle; omega
        clear hbw hbw2 h1 h2 h12 h22 hrs hps hle
        go_wp2_with fail
        refine HR.out.mono ?_
        rintro e W1 ⟨rfl, c1⟩
        have hit3 := iter_on hit2 c1
        have hs3 : W.heap.size < W1.heap.size := by have := c1.size; omega
        have HL3 := hid (HL.out.trans (c1.mono (by omega)))
        have HA3 := hid (owns_on HA.out c1)
        have HB3 := hid (owns_on HB.out c1)
        clear c1 HA HB HL HR
        go_wp2_with (first | (at_builtin; refine wpList_append_fits _ rfl (.tmp 20) (.tmp 24) 22 rfl w.heap.size 3 i0 1 Tryd.underlying22 hi hz1 (G + 1) rs.length n _ rfl (HA3.out.alloc _) ⟨W1.heap.size, 0, none⟩ 1 1 [.int .i64 (runeZ (Utf8.decode s pos).1)] rfl rfl (one_cell _ _ _) (one_oneCell _) (by omega) ?_; intro W2 ho gr; have HF := hid (step_keep gr hit3 (by omega) HL3.out (by omega) (by omega)); have HB4 := hid ((HB3.out.alloc _).kept gr (Or.inr (by simp [Value.ownBlock]))); have HA4 := hid ho; clear ho gr) | (at_builtin; refine wpList_append_fits _ rfl (.tmp 26) (.tmp 28) 22 rfl w.heap.size 3 i0 1 Tryd.underlying22 hi hz1 (G) rs.length (n + 1) _ rfl (HB4.out.alloc _) ⟨W2.heap.size, 0, none⟩ 1 1 [.int .i64 (pos : Int)] rfl rfl (one_cell _ _ _) (one_oneCell _) (by omega) ?_; intro W3 ho gr; have HG := hid (step_keep gr HF.out.1 (by omega) HF.out.2.1 (by have := HF.out.2.2; omega) (by omega)); have HA5 := hid ((HA4.out.alloc _).kept gr (Or.inr (by simp [Value.ownBlock]))); have HB5 := hid ho; clear ho gr))
        have hit5 := HG.out.1
        go_roundw
        case rel =>
          refine ⟨pos + (Utf8.decode s pos).2, f, rs ++ [runeZ (Utf8.decode s pos).1], ps ++ [(pos : Int)], by simp, by simp, by simpa using HA5.out, by simpa using HB5.out, hit5, HG.out.2.1, ?_, ?_, by omega⟩
          · rw [← HE.out]; simp
          · rw [← HP.out]; simp [places]
        case measure =>
          simp only [World.iterPos, hit5, hit]
          omega
      · have hnx : ∀ ty, (Instr.next (.pointer (some ⟨W.heap.size, 0, none⟩)) true ty).run Tryd.prog wr = _ := fun ty => Lib.run_next_end_at wr W.heap.size s pos ty hit hp
        rw [signs_end s fuel pos hp] at hrs hps hle
        have hlen : rs.length = n := by simpa using hle
        rw [List.map_nil, List.append_nil] at hrs
        rw [show places pos [] = [] from rfl, List.append_nil] at hps
        have HA := hid h1
        have HB := hid h2
        have HL := hid hbw
        have HE := hid hrs
        have HP := hid hps
        have hcap : rs.length ≤ n := by omega
        have HN := hid hlen
        clear hbw h1 h2 hrs hps hle hlen
        go_wp2_with (at_builtin; refine wpList_append_fits _ rfl (.tmp 31) (.tmp 34) 22 rfl w.heap.size 3 i0 1 Tryd.underlying22 hi hz1 (G) rs.length (n + 1) _ rfl (HB.out.alloc _) ⟨wr.heap.size, 0, none⟩ 1 1 [.int .i64 (s.size : Int)] rfl rfl (one_cell _ _ _) (one_oneCell _) (by omega) ?_; intro W3 ho gr)
        have HL5 := hid ((HL.out.alloc (by omega) (.cells #[.int .i64 (s.size : Int)] 3)).grown gr (by simp; omega) (by intro k hk; simp at hk; omega))
        have HB5 := hid ho
        have HA5 := hid ((HA.out.alloc (.cells #[.int .i64 (s.size : Int)] 3)).kept gr (Or.inr (by simp [Value.ownBlock])))
        clear ho gr HL HA HB
        go_wp2
        go_ret2
        have e1 := HE.out
        have e2 : ps ++ [(s.size : Int)] = placesOf s.data.toList := by rw [HP.out, Lib.size_eq]; rfl
        have e3 := HN.out
        subst e3
        refine ⟨G + 1, G, rs.length, rs.length + 1, rfl, Nat.le_refl _, Nat.le_refl _, ?_, ?_, by omega, by omega, HL5.out⟩
        · rw [← e1]; exact holds_owns HA5.out
        · rw [← e2]
          have h5 := HB5.out
          rw [show [Value.int .i64 (s.size : Int)] = [(s.size : Int)].map (Value.int .i64) from rfl, ← List.map_append] at h5
          exact holds_owns h5

end Go.Proofs.YtigolkgojckciaaDoor
