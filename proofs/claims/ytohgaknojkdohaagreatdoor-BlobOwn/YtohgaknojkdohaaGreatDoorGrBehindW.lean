/- 'behind' of package gram, walked: what it answers is the set of the symbols that are reached. -/
import Derived.Test.YtohgaknojkdohaaGreatDoorGrBehind
namespace Go.Proofs.YtohgaknojkdohaaGreatDoor.Gr
open Go.RowKit Go.Maps

theorem own_old {w : World} {B : Nat} {v : Value} {xs : List Int} (h : RowNew w B v xs) : v.ownBlock ≠ some w.heap.size := by
  intro e
  have := (World.ownsRow.lt h _ e).2
  omega
theorem queue_old {w : World} {B : Nat} {v : Value} {xs : List Int} (h : QueueAt w B v xs) : v.ownBlock ≠ some w.heap.size := by
  intro e
  have := (h.lt e).2
  omega
theorem queue_some {w : World} {B : Nat} {v : Value} {xs : List Int} (h : QueueAt w B v xs) : ∃ g, v.ownBlock = some g ∧ B ≤ g ∧ g < w.heap.size := by
  obtain ⟨g, o, cap, cur, rfl, h1, h2, _⟩ := h
  exact ⟨g, rfl, h1, (Array.getElem?_eq_some_iff.1 h2).1⟩

def ints (T : List Nat) : List Int := T.map fun n : Nat => (n : Int)
theorem ints_cons (a : Nat) (T : List Nat) : ints (a :: T) = (a : Int) :: ints T := rfl
theorem ints_snoc (T : List Nat) (y : Nat) : ints (T ++ [y]) = ints T ++ [(y : Int)] := by simp [ints]
theorem ints_length (T : List Nat) : (ints T).length = T.length := by simp [ints]

/-- Between two rounds: what is found, what is to do. -/
def Mid (E : Nat → Nat → Bool) (f c : Nat) (wr : World) (v : Value) (F : Nat → Bool) (T : List Nat) (busy : Nat → Prop) : Prop :=
  QueueAt wr c v (ints T) ∧ v.ownBlock ≠ some c ∧ SetAt wr c F ∧ Inv E f F T busy ∧ T.length ≤ 1 + (symL F).length

theorem Mid.alloc {E : Nat → Nat → Bool} {f c : Nat} {wr : World} {v : Value} {F : Nat → Bool} {T : List Nat} {busy : Nat → Prop} (h : Mid E f c wr v F T busy) (o : Obj) : Mid E f c (wr.alloc o) v F T busy :=
  ⟨h.1.on (up_alloc _ _), h.2.1, h.2.2.1.on (up_alloc _ _), h.2.2.2⟩

set_option maxRecDepth 8000 in
set_option maxRecDepth 8000 in
set_option maxRecDepth 8000 in
set_option maxRecDepth 8000 in
set_option maxHeartbeats 1000000 in
theorem behind_any (B g : Nat) (G : Nat → Option Nat) (E : Nat → Nat → Bool) (w : World) (h : GraphAt w B g G E) (hE : ∀ x y, E x y = true → x < 20 ∧ y < 20) (f : Nat) (hf : f < 20) :
    Calls Tryz.prog 147 #[.map (some g), .int .i64 (f : Int)] w fun e w' => ∃ c, e = .returned (.map (some c)) ∧ w.heap.size ≤ c ∧ SetAt w' c (reachS E f) ∧ Below w.heap.size w w' := by
  have H := hid h
  have HE := hid hE
  have hmm := @run_makeMap Tryz.prog
  have HR := hid (fun w1 hb k hk => rising_at B g G E w w1 h hb k hk)
  clear h hE
  go_enter Tryz.func147, Tryz.ntmps147
  go_wp2
  go_loopw [6] (fun v wr => ∃ F T, Mid E f w.heap.size wr v F T (fun _ => False) ∧ Below w.heap.size w wr) (fun v wr => lenOf v + (20 - entriesAt wr w.heap.size))
  case atStart =>
    have hq := queue_new (w.alloc (.map #[] 0)) w.heap.size (by simp) (f : Int)
    have hs := (setAt_made w).on (up_alloc (w.alloc (.map #[] 0)) (.cells #[.int .i64 (f : Int)] 3))
    refine ⟨fun _ => false, [f], ⟨?_, ?_, hs, inv_start E f hf, by simp⟩, (up_trans (up_alloc _ _) (up_alloc _ _))⟩
    · simpa [ints] using hq
    · simp [Value.ownBlock]
  case round =>
    obtain ⟨F, T, hM, hb⟩ := hrel
    obtain ⟨hq, hne, hs, hI, hT⟩ := hM
    cases T with
    | nil =>
      obtain ⟨gq, o, cap, cur, rfl, h1, h2, h3, h4, h5⟩ := hq
      have HS := hid (hs.congr (fun j hj => hI.ends HE.out hf j hj))
      have HB := hid hb
      clear hs hI hb hT h5 h4 h3 h2 h1 hne
      simp only [ints, List.map_nil, List.length_nil]
      go_wp2
      go_ret
      exact ⟨_, rfl, Nat.le_refl _, HS.out, HB.out⟩
    | cons a T =>
      obtain ⟨W1, rfl⟩ : ∃ W1, W1 = wr := ⟨wr, rfl⟩
      have ha := (hI.todo a (by simp)).1
      have hRa : a = f ∨ F a = true := (hI.todo a (by simp)).2
      have hlen := hq.len
      obtain ⟨gq, o, cap, cur, rfl, h1, h2, h3, h4, h5⟩ := hq
      rw [ints_length, List.length_cons] at h3
      rw [ints_length, List.length_cons]
      have x0 : W1.cell? ⟨gq, o, none⟩ = some (.int .i64 (a : Int)) := by
        rw [cell_of_row _ _ _ _ _ _ h2]
        have := h5 0 (a : Int) (by simp [ints])
        simpa using this
      have hlk := (H.out.on hb).look ha
      have HRR := hid (HR.out _ hb a ha)
      have HQ := hid (fun (ad : Addr) ha => queue_rest (w := W1) (B := w.heap.size) (x := (a : Int)) (xs := ints T) (ints_length T) h1 h2 h3 h4 (by rw [ints_cons] at h5; exact h5) (ad := ad) ha)
      have HNE : Hid (gq ≠ w.heap.size) := hid (by simpa [Value.ownBlock] using hne)
      have HS := hid hs
      have HI := hid hI.take
      have HRa : Hid (a = f ∨ F a = true) := hid hRa
      have HT := hid hT
      have HB := hid hb
      have HEN := hid hs.entries
      have HSND := hid hI.sound
      generalize hG : G a = ga at *
      clear h1 h2 h4 h5 hne hs hI hT hb hRa hlen hG
      by_cases hc1 : cap = 1
      · subst hc1
        obtain rfl : T = [] := List.eq_nil_of_length_eq_zero (by omega)
        go_wp2_with fail
        refine HRR.out.mono ?_
        rintro e w2 ⟨rv, rfl, hrow, bel⟩
        have hM : Mid E f w.heap.size w2 (.slice (some (⟨gq, o, none⟩ : Addr)) 0 (0)) F ([] : List Nat) (fun x => x = a) :=
          ⟨(HQ.out (⟨gq, o, none⟩ : Addr) (by simp)).on bel, by simpa [Value.ownBlock] using HNE.out, HS.out.on bel, HI.out, by have := HT.out; simp at this; omega⟩
        have hne2 : (Value.slice (some (⟨gq, o, none⟩ : Addr)) 0 (0)).ownBlock ≠ rv.ownBlock := by
          intro e
          have h6 := (World.ownsRow.lt hrow gq (by rw [← e]; rfl)).1
          have h7 := ((HQ.out (⟨gq, o, none⟩ : Addr) (by simp)).lt (g := gq) rfl).2
          omega
        obtain ⟨n, hn⟩ : ∃ n, (symL (E a)).length = n := ⟨_, rfl⟩
        have hn20 : n ≤ 20 := by rw [← hn]; exact symL_length _
        obtain ⟨ad2, cap2, hrv⟩ := hrow.shape
        rw [hn] at hrv
        have HM := hid hM
        have HNE2 := hid hne2
        have HROW := hid hrow
        have HB2 := hid (HB.out.trans (bel.mono HB.out.size))
        have HN := hid hn
        have HSZ := hid (bel.size)
        subst hrv
        clear hM hne2 hrow bel hn HRR hlk x0
        go_wp2
        go_loopw [6, 26] (fun v6 v26 wr => ∃ (j : Nat) (F' : Nat → Bool) (T' : List Nat), j ≤ n ∧ v26 = .int .i64 j ∧ Mid E f w.heap.size wr v6 F' T' (fun x => x = a) ∧ RowNew wr W1.heap.size (.slice ad2 n cap2) (symL (E a)) ∧ v6.ownBlock ≠ (Value.slice ad2 n cap2).ownBlock ∧ Hid (∀ i y, i < j → (symL (E a))[i]? = some y → F' y.toNat = true) ∧ Hid (T'.length + (20 - (symL F').length) ≤ 0 + (20 - (symL F).length)) ∧ Below w.heap.size w wr) (fun _ v26 _ => n - (intOf v26).toNat)
        case atStart => exact ⟨0, F, ([] : List Nat), by omega, rfl, HM.out, HROW.out, HNE2.out, hid (fun i y hi => absurd hi (Nat.not_lt_zero _)), hid (Nat.le_refl _), HB2.out⟩
        case round =>
          obtain ⟨j, F', T', hj, rfl, hM, hR, hne, hall, hmes, hb⟩ := hrel
          by_cases hlt : j < n
          · have hjl : j < (symL (E a)).length := by rw [HN.out]; exact hlt
            have hrow := hR.row (by rw [HN.out]; unfold maxLen; omega)
            obtain ⟨ad3, cap3, e3, _, hc3⟩ := hrow
            obtain ⟨a3, e4, hcj⟩ := hc3 j hjl
            rw [HN.out] at e3
            simp only [Value.slice.injEq] at e3
            obtain ⟨e5, -, -⟩ := e3
            rw [e4] at e5
            subst e5
            have HX : Hid ((symL (E a))[j]? = some ((symL (E a)).getD j 0)) := hid (getD_at hjl)
            have hmem := mem_symL.1 (List.mem_of_getElem? HX.out)
            obtain ⟨m, hm, hEm, hmy⟩ := hmem
            rw [hmy] at HX hcj
            have HA := hid (fun o (h : SetAt (wr.alloc o) w.heap.size F') => add_any w.heap.size F' m hm (wr.alloc o) h)
            have HH := hid (has_any w.heap.size F' m hm wr hM.2.2.1)
            have HMM := hid hM
            have HRW := hid hR
            have HNN := hid hne
            have HBB := hid hb
            have HEM : Hid (E a m = true) := hid hEm
            have hlt2 : (j : Int) < (n : Int) := by omega
            clear e4 hc3 hmy hEm hb hne hR hM
            cases hF : F' m with
            | true =>
              rw [hF] at HH
              have HF : Hid (F' m = true) := hid hF
              clear hF
              go_wp2_with fail
              refine HH.out.mono ?_
              rintro e w4 ⟨rfl, o4, rfl⟩
              go_wp2
              go_roundw
              case rel =>
                refine ⟨j + 1, F', T', by omega, by simp, HMM.out.alloc _, HRW.out.on (up_alloc _ _), HNN.out, hid (fun i y hi hy => ?_), hmes, HBB.out.alloc HBB.out.size _⟩
                by_cases e : i = j
                · subst e
                  obtain rfl := Option.some.inj (HX.out.symm.trans hy)
                  simpa using HF.out
                · exact hall.out i y (by omega) hy
              case measure => simp [intOf]; omega
            | false =>
              rw [hF] at HH
              have HF : Hid (F' m = false) := hid hF
              clear hF
              go_wp2_with fail
              refine HH.out.mono ?_
              rintro e w4 ⟨rfl, o4, rfl⟩
              go_wp2_with fail
              refine (HA.out o4 (HMM.out.2.2.1.on (up_alloc _ _))).mono ?_
              rintro e w5 ⟨rfl, hs5, hg5⟩
              have HS5 := hid hs5
              have hq5 := (HMM.out.1.on (up_alloc wr o4)).kept hg5 HMM.out.2.1
              have hr5 := (HRW.out.on (up_alloc wr o4)).kept hg5 (.inr (fun e => by
                have h6 := (World.ownsRow.lt HRW.out _ e).1
                have h7 := HS.out.lt
                omega))
              have hsz5 := hg5.size
              have HB5 := hid ((HBB.out.alloc HBB.out.size o4).grown hg5 (by simp; have := HBB.out.size; omega) (fun x e => by cases e; exact Nat.le_refl _))
              have HQ5 := hid hq5
              have HR5 := hid hr5
              have hl5 : (ints T').length ≤ 1000000 := by
                have h6 := HMM.out.2.2.2.2
                have h7 := symL_length F'
                rw [ints_length]; omega
              have hb5 : w.heap.size ≤ (w5.alloc (.cells #[.int .i64 (m : Int)] 3)).heap.size := by
                have := HB5.out.size
                simp; omega
              clear hs5 hg5 hq5 hr5 hsz5
              go_wp2_with (at_builtin; refine wpList_append_queue _ rfl (.tmp 37) (.tmp 39) rfl w.heap.size _ (ints T') rfl (HQ5.out.on (up_alloc _ _)) (m : Int) ⟨w5.heap.size, 0, none⟩ rfl (by rw [Addr.add_lit, new_cell]; rfl) hl5 hb5 ?_; intro v6 w6 hq6 hg6 hown6; have HQ6 := hid hq6; have HG6 := hid hg6; have HO6 := hid hown6; clear hq6 hg6 hown6)
              go_roundw
              case rel =>
                have hne5 := HMM.out.2.1
                have hrow5 := HR5.out.on (up_alloc w5 (.cells #[.int .i64 (m : Int)] 3))
                refine ⟨j + 1, fun x => F' x || decide (x = m), T' ++ [m], by omega, by simp, ⟨?_, ?_, ?_, ?_, ?_⟩, ?_, ?_, hid (fun i y hi hy => ?_), hid ?_, ?_⟩
                · rw [ints_snoc]; exact HQ6.out
                · rcases HO6.out with e | e
                  · rw [e]; exact hne5
                  · rw [e]
                    have := HS5.out.lt
                    simp; omega
                · exact (HS5.out.on (up_alloc _ _)).kept HG6.out (fun e => hne5 e.symm)
                · refine HMM.out.2.2.2.1.add ?_ hm
                  rcases HRa.out with e | e
                  · rw [← e]; exact Reach.step HEM.out
                  · exact (HSND.out a ha e).snoc HEM.out
                · rw [symL_add F' m hm HF.out, List.length_append]
                  have := HMM.out.2.2.2.2
                  simp; omega
                · exact hrow5.kept HG6.out (.inr (fun e => HNN.out e.symm))
                · rcases HO6.out with e | e
                  · rw [e]; exact HNN.out
                  · rw [e]
                    exact fun e2 => own_old hrow5 (by rw [← e2])
                · by_cases e : i = j
                  · subst e
                    obtain rfl := Option.some.inj (HX.out.symm.trans hy)
                    simp
                  · simp [hall.out i y (by omega) hy]
                · rw [symL_add F' m hm HF.out, List.length_append]
                  have h6 := hmes.out
                  have h7 := symL_length (fun x => F' x || decide (x = m))
                  rw [symL_add F' m hm HF.out] at h7
                  simp; omega
                · refine (HB5.out.alloc HB5.out.size _).grown HG6.out (by have := HB5.out.size; simp; omega) (fun x e => (HQ5.out.lt (g := x) e).1)
              case measure => simp [intOf]; omega
          · obtain rfl : j = n := by omega
            have HMM := hid hM
            have HBB := hid hb
            clear hM hb hne hR
            go_wp2
            go_roundw
            case rel =>
              refine ⟨F', T', ⟨HMM.out.1, HMM.out.2.1, HMM.out.2.2.1, HMM.out.2.2.2.1.done (fun y hy => ?_), HMM.out.2.2.2.2⟩, HBB.out⟩
              have hmem : (y : Int) ∈ symL (E a) := mem_symL.2 ⟨y, (HE.out a y hy).2, hy, rfl⟩
              obtain ⟨i, hi⟩ := List.getElem?_of_mem hmem
              have := hall.out i (y : Int) (by rw [← HN.out]; exact (List.getElem?_eq_some_iff.1 hi).1) hi
              simpa using this
            case measure =>
              have h6 := HMM.out.1.len
              rw [ints_length] at h6
              have h7 := HMM.out.2.2.1.entries
              have h8 := HEN.out
              have h9 := hmes.out
              simp only [lenOf] at *
              simp
              omega
      · go_wp2_with fail
        refine HRR.out.mono ?_
        rintro e w2 ⟨rv, rfl, hrow, bel⟩
        have hM : Mid E f w.heap.size w2 (.slice (some (⟨gq, o + 1, none⟩ : Addr)) T.length (cap - 1)) F T (fun x => x = a) :=
          ⟨(HQ.out (⟨gq, o + 1, none⟩ : Addr) (.inr rfl)).on bel, by simpa [Value.ownBlock] using HNE.out, HS.out.on bel, HI.out, by have := HT.out; simp at this; omega⟩
        have hne2 : (Value.slice (some (⟨gq, o + 1, none⟩ : Addr)) T.length (cap - 1)).ownBlock ≠ rv.ownBlock := by
          intro e
          have h6 := (World.ownsRow.lt hrow gq (by rw [← e]; rfl)).1
          have h7 := ((HQ.out (⟨gq, o + 1, none⟩ : Addr) (.inr rfl)).lt (g := gq) rfl).2
          omega
        obtain ⟨n, hn⟩ : ∃ n, (symL (E a)).length = n := ⟨_, rfl⟩
        have hn20 : n ≤ 20 := by rw [← hn]; exact symL_length _
        obtain ⟨ad2, cap2, hrv⟩ := hrow.shape
        rw [hn] at hrv
        have HM := hid hM
        have HNE2 := hid hne2
        have HROW := hid hrow
        have HB2 := hid (HB.out.trans (bel.mono HB.out.size))
        have HN := hid hn
        have HSZ := hid (bel.size)
        subst hrv
        clear hM hne2 hrow bel hn HRR hlk x0
        go_wp2
        go_loopw [6, 26] (fun v6 v26 wr => ∃ (j : Nat) (F' : Nat → Bool) (T' : List Nat), j ≤ n ∧ v26 = .int .i64 j ∧ Mid E f w.heap.size wr v6 F' T' (fun x => x = a) ∧ RowNew wr W1.heap.size (.slice ad2 n cap2) (symL (E a)) ∧ v6.ownBlock ≠ (Value.slice ad2 n cap2).ownBlock ∧ Hid (∀ i y, i < j → (symL (E a))[i]? = some y → F' y.toNat = true) ∧ Hid (T'.length + (20 - (symL F').length) ≤ T.length + (20 - (symL F).length)) ∧ Below w.heap.size w wr) (fun _ v26 _ => n - (intOf v26).toNat)
        case atStart => exact ⟨0, F, T, by omega, rfl, HM.out, HROW.out, HNE2.out, hid (fun i y hi => absurd hi (Nat.not_lt_zero _)), hid (Nat.le_refl _), HB2.out⟩
        case round =>
          obtain ⟨j, F', T', hj, rfl, hM, hR, hne, hall, hmes, hb⟩ := hrel
          by_cases hlt : j < n
          · have hjl : j < (symL (E a)).length := by rw [HN.out]; exact hlt
            have hrow := hR.row (by rw [HN.out]; unfold maxLen; omega)
            obtain ⟨ad3, cap3, e3, _, hc3⟩ := hrow
            obtain ⟨a3, e4, hcj⟩ := hc3 j hjl
            rw [HN.out] at e3
            simp only [Value.slice.injEq] at e3
            obtain ⟨e5, -, -⟩ := e3
            rw [e4] at e5
            subst e5
            have HX : Hid ((symL (E a))[j]? = some ((symL (E a)).getD j 0)) := hid (getD_at hjl)
            have hmem := mem_symL.1 (List.mem_of_getElem? HX.out)
            obtain ⟨m, hm, hEm, hmy⟩ := hmem
            rw [hmy] at HX hcj
            have HA := hid (fun o (h : SetAt (wr.alloc o) w.heap.size F') => add_any w.heap.size F' m hm (wr.alloc o) h)
            have HH := hid (has_any w.heap.size F' m hm wr hM.2.2.1)
            have HMM := hid hM
            have HRW := hid hR
            have HNN := hid hne
            have HBB := hid hb
            have HEM : Hid (E a m = true) := hid hEm
            have hlt2 : (j : Int) < (n : Int) := by omega
            clear e4 hc3 hmy hEm hb hne hR hM
            cases hF : F' m with
            | true =>
              rw [hF] at HH
              have HF : Hid (F' m = true) := hid hF
              clear hF
              go_wp2_with fail
              refine HH.out.mono ?_
              rintro e w4 ⟨rfl, o4, rfl⟩
              go_wp2
              go_roundw
              case rel =>
                refine ⟨j + 1, F', T', by omega, by simp, HMM.out.alloc _, HRW.out.on (up_alloc _ _), HNN.out, hid (fun i y hi hy => ?_), hmes, HBB.out.alloc HBB.out.size _⟩
                by_cases e : i = j
                · subst e
                  obtain rfl := Option.some.inj (HX.out.symm.trans hy)
                  simpa using HF.out
                · exact hall.out i y (by omega) hy
              case measure => simp [intOf]; omega
            | false =>
              rw [hF] at HH
              have HF : Hid (F' m = false) := hid hF
              clear hF
              go_wp2_with fail
              refine HH.out.mono ?_
              rintro e w4 ⟨rfl, o4, rfl⟩
              go_wp2_with fail
              refine (HA.out o4 (HMM.out.2.2.1.on (up_alloc _ _))).mono ?_
              rintro e w5 ⟨rfl, hs5, hg5⟩
              have HS5 := hid hs5
              have hq5 := (HMM.out.1.on (up_alloc wr o4)).kept hg5 HMM.out.2.1
              have hr5 := (HRW.out.on (up_alloc wr o4)).kept hg5 (.inr (fun e => by
                have h6 := (World.ownsRow.lt HRW.out _ e).1
                have h7 := HS.out.lt
                omega))
              have hsz5 := hg5.size
              have HB5 := hid ((HBB.out.alloc HBB.out.size o4).grown hg5 (by simp; have := HBB.out.size; omega) (fun x e => by cases e; exact Nat.le_refl _))
              have HQ5 := hid hq5
              have HR5 := hid hr5
              have hl5 : (ints T').length ≤ 1000000 := by
                have h6 := HMM.out.2.2.2.2
                have h7 := symL_length F'
                rw [ints_length]; omega
              have hb5 : w.heap.size ≤ (w5.alloc (.cells #[.int .i64 (m : Int)] 3)).heap.size := by
                have := HB5.out.size
                simp; omega
              clear hs5 hg5 hq5 hr5 hsz5
              go_wp2_with (at_builtin; refine wpList_append_queue _ rfl (.tmp 37) (.tmp 39) rfl w.heap.size _ (ints T') rfl (HQ5.out.on (up_alloc _ _)) (m : Int) ⟨w5.heap.size, 0, none⟩ rfl (by rw [Addr.add_lit, new_cell]; rfl) hl5 hb5 ?_; intro v6 w6 hq6 hg6 hown6; have HQ6 := hid hq6; have HG6 := hid hg6; have HO6 := hid hown6; clear hq6 hg6 hown6)
              go_roundw
              case rel =>
                have hne5 := HMM.out.2.1
                have hrow5 := HR5.out.on (up_alloc w5 (.cells #[.int .i64 (m : Int)] 3))
                refine ⟨j + 1, fun x => F' x || decide (x = m), T' ++ [m], by omega, by simp, ⟨?_, ?_, ?_, ?_, ?_⟩, ?_, ?_, hid (fun i y hi hy => ?_), hid ?_, ?_⟩
                · rw [ints_snoc]; exact HQ6.out
                · rcases HO6.out with e | e
                  · rw [e]; exact hne5
                  · rw [e]
                    have := HS5.out.lt
                    simp; omega
                · exact (HS5.out.on (up_alloc _ _)).kept HG6.out (fun e => hne5 e.symm)
                · refine HMM.out.2.2.2.1.add ?_ hm
                  rcases HRa.out with e | e
                  · rw [← e]; exact Reach.step HEM.out
                  · exact (HSND.out a ha e).snoc HEM.out
                · rw [symL_add F' m hm HF.out, List.length_append]
                  have := HMM.out.2.2.2.2
                  simp; omega
                · exact hrow5.kept HG6.out (.inr (fun e => HNN.out e.symm))
                · rcases HO6.out with e | e
                  · rw [e]; exact HNN.out
                  · rw [e]
                    exact fun e2 => own_old hrow5 (by rw [← e2])
                · by_cases e : i = j
                  · subst e
                    obtain rfl := Option.some.inj (HX.out.symm.trans hy)
                    simp
                  · simp [hall.out i y (by omega) hy]
                · rw [symL_add F' m hm HF.out, List.length_append]
                  have h6 := hmes.out
                  have h7 := symL_length (fun x => F' x || decide (x = m))
                  rw [symL_add F' m hm HF.out] at h7
                  simp; omega
                · refine (HB5.out.alloc HB5.out.size _).grown HG6.out (by have := HB5.out.size; simp; omega) (fun x e => (HQ5.out.lt (g := x) e).1)
              case measure => simp [intOf]; omega
          · obtain rfl : j = n := by omega
            have HMM := hid hM
            have HBB := hid hb
            clear hM hb hne hR
            go_wp2
            go_roundw
            case rel =>
              refine ⟨F', T', ⟨HMM.out.1, HMM.out.2.1, HMM.out.2.2.1, HMM.out.2.2.2.1.done (fun y hy => ?_), HMM.out.2.2.2.2⟩, HBB.out⟩
              have hmem : (y : Int) ∈ symL (E a) := mem_symL.2 ⟨y, (HE.out a y hy).2, hy, rfl⟩
              obtain ⟨i, hi⟩ := List.getElem?_of_mem hmem
              have := hall.out i (y : Int) (by rw [← HN.out]; exact (List.getElem?_eq_some_iff.1 hi).1) hi
              simpa using this
            case measure =>
              have h6 := HMM.out.1.len
              rw [ints_length] at h6
              have h7 := HMM.out.2.2.1.entries
              have h8 := HEN.out
              have h9 := hmes.out
              simp only [lenOf] at *
              simp
              omega

end Go.Proofs.YtohgaknojkdohaaGreatDoor.Gr
