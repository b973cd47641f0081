/- What each action makes: days, times, decimals, sums. -/
import Derived.Test.YtengcdodoblabaaGreatDoorWays
namespace Go.Proofs.YtengcdodoblabaaGreatDoor
open Go.RowKit
section
variable {p : Value} {W0 : World} {g : Nat} {op : Int} {r : Mom}

def dateO (r : Mom) (a b c : Val) : Option Val := (yearB a r.y).bind fun y => (cntC b).bind fun m => (numC c).bind fun d => some ⟨4, [y, m, d]⟩
def thisO (r : Mom) (a b : Val) : Option Val := (cntC a).bind fun m => (numC b).bind fun d => some ⟨4, [r.y, m, d]⟩
def time2O (a b : Val) : Option Val := (numC a).bind fun h => (numC b).bind fun m => some ⟨5, [h, m, 0]⟩
def time3O (a b c : Val) : Option Val := (numC a).bind fun h => (numC b).bind fun m => (numC c).bind fun s => some ⟨5, [h, m, s]⟩
def wholeO (a : Val) : Option Val := (numC a).bind fun n => some ⟨7, [n, 0]⟩

set_option maxRecDepth 8000 in
set_option maxHeartbeats 2000000 in
theorem date_any (a b c : Val) (w : World) (h : DD p W0 g op r [a, b, c] w) (hy0 : -1000000 ≤ r.y) (hy1 : r.y ≤ 1000000) :
    Calls Tryz.prog 37 #[.pointer (some ⟨g, 0, none⟩)] w (Ret p W0 g op r w (NV w.heap.size) ((dateO r a b c).map (fun z => (z, [])))) := by
  have A0 := hid (At.start h)
  have H1 := hid (yr_any a [b, c] _ A0.out.dd hy0 hy1)
  generalize hoo : (dateO r a b c).map (fun z => (z, ([] : List Val))) = oo
  have HE : Hid (oo = _) := hid hoo.symm
  unfold dateO at HE
  clear h hoo
  go_enter Tryz.func37, Tryz.ntmps37
  go_wp2_with fail
  refine H1.out.mono ?_
  intro e w1 hr
  cases h1 : yearB a r.y with
  | none =>
    obtain rfl := hr.of_none (by rw [h1]; rfl)
    have A1 := hid (A0.out.no (V := NV w.heap.size) hr.grown (HE.out.trans (by rw [h1]; rfl)))
    clear hr H1 h1 HE A0
    go_wp2
    exact ⟨rfl, A1.out⟩
  | some x1 =>
    obtain ⟨v1, rfl, hv, hd⟩ := hr.of_some (by rw [h1]; rfl)
    unfold IntV at hv; subst hv
    have A1 := hid (A0.out.step hr.grown hd)
    have K1 := hid h1
    clear hr hd H1 h1 A0
    have H2 := hid (cnt_any b [c] _ A1.out.dd)
    go_wp2_with fail
    refine H2.out.mono ?_
    intro e w2 hr
    cases h2 : cntC b with
    | none =>
      obtain rfl := hr.of_none (by rw [h2]; rfl)
      have A2 := hid (A1.out.no (V := NV w.heap.size) hr.grown (HE.out.trans (by rw [K1.out, h2]; rfl)))
      clear hr H2 h2 HE A1
      go_wp2
      exact ⟨rfl, A2.out⟩
    | some x2 =>
      obtain ⟨v2, rfl, hv, hd⟩ := hr.of_some (by rw [h2]; rfl)
      unfold IntV at hv; subst hv
      have A2 := hid (A1.out.step hr.grown hd)
      have K2 := hid h2
      clear hr hd H2 h2 A1
      have H3 := hid (num_any c [] _ A2.out.dd)
      go_wp2_with fail
      refine H3.out.mono ?_
      intro e w3 hr
      cases h3 : numC c with
      | none =>
        obtain rfl := hr.of_none (by rw [h3]; rfl)
        have A3 := hid (A2.out.no (V := NV w.heap.size) hr.grown (HE.out.trans (by rw [K1.out, K2.out, h3]; rfl)))
        clear hr H3 h3 HE A2
        go_wp2
        exact ⟨rfl, A3.out⟩
      | some x3 =>
        obtain ⟨v3, rfl, hv, hd⟩ := hr.of_some (by rw [h3]; rfl)
        unfold IntV at hv; subst hv
        have A3 := hid (A2.out.step hr.grown hd)
        have K3 := hid h3
        clear hr hd H3 h3 A2
        have HO : Hid (oo = some (⟨4, [x1, x2, x3]⟩, [])) := hid (HE.out.trans (by rw [K1.out, K2.out, K3.out]; rfl))
        have hs := A3.out.size
        have HN : Hid (∀ w', Below (w3.alloc (.cells #[.int .i64 (x1), .int .i64 (x2), .int .i64 (x3)] 3)).heap.size (w3.alloc (.cells #[.int .i64 (x1), .int .i64 (x2), .int .i64 (x3)] 3)) w' → NV (w.heap.size + 1) w' (.agg #[.int .i64 4, .slice (some ⟨w3.heap.size, 0, none⟩) 3 3]) ⟨4, [x1, x2, x3]⟩) := hid fun w' hb => ⟨_, rfl, NA.lit (t := 3) [x1, x2, x3] (by omega) (by simp) hb⟩
        clear HE K1 K2 K3 hs
        go_wp2_with fail
        refine (value_any _ _ _ _ _).mono ?_
        rintro e wv ⟨rfl, hb⟩
        have AV := hid ((A3.out.up (up_alloc _ _)).up hb)
        have Y := hid (AV.out.yes (HN.out wv hb) HO.out)
        have c0 := AV.out.c0
        have c1 := AV.out.c1
        have f0 := AV.out.fz 0
        have f1 := AV.out.fz 1
        clear hb HN AV A3
        go_wp2
        refine bodyPost_ret (v := .agg #[.int .i64 4, .slice (some ⟨w3.heap.size, 0, none⟩) 3 3]) (results_cell_row rfl _ _ w.heap.size 27 _ (0, 0) _ rfl Y.out.1 Tryz.underlying27 rfl (by kernel_rfl)) rfl Y.out.2

set_option maxRecDepth 8000 in
set_option maxHeartbeats 2000000 in
theorem this_any (a b : Val) (w : World) (h : DD p W0 g op r [a, b] w) :
    Calls Tryz.prog 38 #[.pointer (some ⟨g, 0, none⟩)] w (Ret p W0 g op r w (NV w.heap.size) ((thisO r a b).map (fun z => (z, [])))) := by
  have A0 := hid (At.start h)
  have H1 := hid (cnt_any a [b] _ A0.out.dd)
  generalize hoo : (thisO r a b).map (fun z => (z, ([] : List Val))) = oo
  have HE : Hid (oo = _) := hid hoo.symm
  unfold thisO at HE
  clear h hoo
  go_enter Tryz.func38, Tryz.ntmps38
  go_wp2_with fail
  refine H1.out.mono ?_
  intro e w1 hr
  cases h1 : cntC a with
  | none =>
    obtain rfl := hr.of_none (by rw [h1]; rfl)
    have A1 := hid (A0.out.no (V := NV w.heap.size) hr.grown (HE.out.trans (by rw [h1]; rfl)))
    clear hr H1 h1 HE A0
    go_wp2
    exact ⟨rfl, A1.out⟩
  | some x1 =>
    obtain ⟨v1, rfl, hv, hd⟩ := hr.of_some (by rw [h1]; rfl)
    unfold IntV at hv; subst hv
    have A1 := hid (A0.out.step hr.grown hd)
    have K1 := hid h1
    clear hr hd H1 h1 A0
    have H2 := hid (num_any b [] _ A1.out.dd)
    go_wp2_with fail
    refine H2.out.mono ?_
    intro e w2 hr
    cases h2 : numC b with
    | none =>
      obtain rfl := hr.of_none (by rw [h2]; rfl)
      have A2 := hid (A1.out.no (V := NV w.heap.size) hr.grown (HE.out.trans (by rw [K1.out, h2]; rfl)))
      clear hr H2 h2 HE A1
      go_wp2
      exact ⟨rfl, A2.out⟩
    | some x2 =>
      obtain ⟨v2, rfl, hv, hd⟩ := hr.of_some (by rw [h2]; rfl)
      unfold IntV at hv; subst hv
      have A2 := hid (A1.out.step hr.grown hd)
      have K2 := hid h2
      clear hr hd H2 h2 A1
      obtain ⟨_, d3, _⟩ := A2.out.dd.cells
      have HO : Hid (oo = some (⟨4, [r.y, x1, x2]⟩, [])) := hid (HE.out.trans (by rw [K1.out, K2.out]; rfl))
      have hs := A2.out.size
      have HN : Hid (∀ w', Below (w2.alloc (.cells #[.int .i64 (r.y), .int .i64 (x1), .int .i64 (x2)] 3)).heap.size (w2.alloc (.cells #[.int .i64 (r.y), .int .i64 (x1), .int .i64 (x2)] 3)) w' → NV (w.heap.size + 1) w' (.agg #[.int .i64 4, .slice (some ⟨w2.heap.size, 0, none⟩) 3 3]) ⟨4, [r.y, x1, x2]⟩) := hid fun w' hb => ⟨_, rfl, NA.lit (t := 3) [r.y, x1, x2] (by omega) (by simp) hb⟩
      clear HE K1 K2 hs
      go_wp2_with fail
      refine (value_any _ _ _ _ _).mono ?_
      rintro e wv ⟨rfl, hb⟩
      have AV := hid ((A2.out.up (up_alloc _ _)).up hb)
      have Y := hid (AV.out.yes (HN.out wv hb) HO.out)
      have c0 := AV.out.c0
      have c1 := AV.out.c1
      have f0 := AV.out.fz 0
      have f1 := AV.out.fz 1
      clear hb HN AV A2
      go_wp2
      refine bodyPost_ret (v := .agg #[.int .i64 4, .slice (some ⟨w2.heap.size, 0, none⟩) 3 3]) (results_cell_row rfl _ _ w.heap.size 27 _ (0, 0) _ rfl Y.out.1 Tryz.underlying27 rfl (by kernel_rfl)) rfl Y.out.2

set_option maxRecDepth 8000 in
set_option maxHeartbeats 2000000 in
theorem time2_any (a b : Val) (w : World) (h : DD p W0 g op r [a, b] w) :
    Calls Tryz.prog 39 #[.pointer (some ⟨g, 0, none⟩)] w (Ret p W0 g op r w (NV w.heap.size) ((time2O a b).map (fun z => (z, [])))) := by
  have A0 := hid (At.start h)
  have H1 := hid (num_any a [b] _ A0.out.dd)
  generalize hoo : (time2O a b).map (fun z => (z, ([] : List Val))) = oo
  have HE : Hid (oo = _) := hid hoo.symm
  unfold time2O at HE
  clear h hoo
  go_enter Tryz.func39, Tryz.ntmps39
  go_wp2_with fail
  refine H1.out.mono ?_
  intro e w1 hr
  cases h1 : numC a with
  | none =>
    obtain rfl := hr.of_none (by rw [h1]; rfl)
    have A1 := hid (A0.out.no (V := NV w.heap.size) hr.grown (HE.out.trans (by rw [h1]; rfl)))
    clear hr H1 h1 HE A0
    go_wp2
    exact ⟨rfl, A1.out⟩
  | some x1 =>
    obtain ⟨v1, rfl, hv, hd⟩ := hr.of_some (by rw [h1]; rfl)
    unfold IntV at hv; subst hv
    have A1 := hid (A0.out.step hr.grown hd)
    have K1 := hid h1
    clear hr hd H1 h1 A0
    have H2 := hid (num_any b [] _ A1.out.dd)
    go_wp2_with fail
    refine H2.out.mono ?_
    intro e w2 hr
    cases h2 : numC b with
    | none =>
      obtain rfl := hr.of_none (by rw [h2]; rfl)
      have A2 := hid (A1.out.no (V := NV w.heap.size) hr.grown (HE.out.trans (by rw [K1.out, h2]; rfl)))
      clear hr H2 h2 HE A1
      go_wp2
      exact ⟨rfl, A2.out⟩
    | some x2 =>
      obtain ⟨v2, rfl, hv, hd⟩ := hr.of_some (by rw [h2]; rfl)
      unfold IntV at hv; subst hv
      have A2 := hid (A1.out.step hr.grown hd)
      have K2 := hid h2
      clear hr hd H2 h2 A1
      obtain ⟨adp, capp, dp⟩ := A2.out.dd.places
      rw [show ([] : List Val).length = 0 from rfl] at dp
      have HO : Hid (oo = some (⟨5, [x1, x2, 0]⟩, [])) := hid (HE.out.trans (by rw [K1.out, K2.out]; rfl))
      have hs := A2.out.size
      have HN : Hid (∀ w', Below (w2.alloc (.cells #[.int .i64 (x1), .int .i64 (x2), .int .i64 (0)] 3)).heap.size (w2.alloc (.cells #[.int .i64 (x1), .int .i64 (x2), .int .i64 (0)] 3)) w' → NV (w.heap.size + 1) w' (.agg #[.int .i64 5, .slice (some ⟨w2.heap.size, 0, none⟩) 3 3]) ⟨5, [x1, x2, 0]⟩) := hid fun w' hb => ⟨_, rfl, NA.lit (t := 3) [x1, x2, 0] (by omega) (by simp) hb⟩
      clear HE K1 K2 hs
      go_wp2_with fail
      refine (value_any _ _ _ _ _).mono ?_
      rintro e wv ⟨rfl, hb⟩
      have AV := hid ((A2.out.up (up_alloc _ _)).up hb)
      have Y := hid (AV.out.yes (HN.out wv hb) HO.out)
      have c0 := AV.out.c0
      have c1 := AV.out.c1
      have f0 := AV.out.fz 0
      have f1 := AV.out.fz 1
      clear hb HN AV A2
      go_wp2
      refine bodyPost_ret (v := .agg #[.int .i64 5, .slice (some ⟨w2.heap.size, 0, none⟩) 3 3]) (results_cell_row rfl _ _ w.heap.size 27 _ (0, 0) _ rfl Y.out.1 Tryz.underlying27 rfl (by kernel_rfl)) rfl Y.out.2

set_option maxRecDepth 8000 in
set_option maxHeartbeats 2000000 in
theorem time3_any (a b c : Val) (w : World) (h : DD p W0 g op r [a, b, c] w) :
    Calls Tryz.prog 39 #[.pointer (some ⟨g, 0, none⟩)] w (Ret p W0 g op r w (NV w.heap.size) ((time3O a b c).map (fun z => (z, [])))) := by
  have A0 := hid (At.start h)
  have H1 := hid (num_any a [b, c] _ A0.out.dd)
  generalize hoo : (time3O a b c).map (fun z => (z, ([] : List Val))) = oo
  have HE : Hid (oo = _) := hid hoo.symm
  unfold time3O at HE
  clear h hoo
  go_enter Tryz.func39, Tryz.ntmps39
  go_wp2_with fail
  refine H1.out.mono ?_
  intro e w1 hr
  cases h1 : numC a with
  | none =>
    obtain rfl := hr.of_none (by rw [h1]; rfl)
    have A1 := hid (A0.out.no (V := NV w.heap.size) hr.grown (HE.out.trans (by rw [h1]; rfl)))
    clear hr H1 h1 HE A0
    go_wp2
    exact ⟨rfl, A1.out⟩
  | some x1 =>
    obtain ⟨v1, rfl, hv, hd⟩ := hr.of_some (by rw [h1]; rfl)
    unfold IntV at hv; subst hv
    have A1 := hid (A0.out.step hr.grown hd)
    have K1 := hid h1
    clear hr hd H1 h1 A0
    have H2 := hid (num_any b [c] _ A1.out.dd)
    go_wp2_with fail
    refine H2.out.mono ?_
    intro e w2 hr
    cases h2 : numC b with
    | none =>
      obtain rfl := hr.of_none (by rw [h2]; rfl)
      have A2 := hid (A1.out.no (V := NV w.heap.size) hr.grown (HE.out.trans (by rw [K1.out, h2]; rfl)))
      clear hr H2 h2 HE A1
      go_wp2
      exact ⟨rfl, A2.out⟩
    | some x2 =>
      obtain ⟨v2, rfl, hv, hd⟩ := hr.of_some (by rw [h2]; rfl)
      unfold IntV at hv; subst hv
      have A2 := hid (A1.out.step hr.grown hd)
      have K2 := hid h2
      clear hr hd H2 h2 A1
      obtain ⟨adp, capp, dp⟩ := A2.out.dd.places
      rw [show ([c] : List Val).length = 1 from rfl] at dp
      have H3 := hid (num_any c [] _ A2.out.dd)
      go_wp2_with fail
      refine H3.out.mono ?_
      intro e w3 hr
      cases h3 : numC c with
      | none =>
        obtain rfl := hr.of_none (by rw [h3]; rfl)
        have A3 := hid (A2.out.no (V := NV w.heap.size) hr.grown (HE.out.trans (by rw [K1.out, K2.out, h3]; rfl)))
        clear hr H3 h3 HE A2
        go_wp2
        exact ⟨rfl, A3.out⟩
      | some x3 =>
        obtain ⟨v3, rfl, hv, hd⟩ := hr.of_some (by rw [h3]; rfl)
        unfold IntV at hv; subst hv
        have A3 := hid (A2.out.step hr.grown hd)
        have K3 := hid h3
        clear hr hd H3 h3 A2
        have HO : Hid (oo = some (⟨5, [x1, x2, x3]⟩, [])) := hid (HE.out.trans (by rw [K1.out, K2.out, K3.out]; rfl))
        have hs := A3.out.size
        have HN : Hid (∀ w', Below (w3.alloc (.cells #[.int .i64 (x1), .int .i64 (x2), .int .i64 (x3)] 3)).heap.size (w3.alloc (.cells #[.int .i64 (x1), .int .i64 (x2), .int .i64 (x3)] 3)) w' → NV (w.heap.size + 1) w' (.agg #[.int .i64 5, .slice (some ⟨w3.heap.size, 0, none⟩) 3 3]) ⟨5, [x1, x2, x3]⟩) := hid fun w' hb => ⟨_, rfl, NA.lit (t := 3) [x1, x2, x3] (by omega) (by simp) hb⟩
        clear HE K1 K2 K3 hs
        clear dp
        go_wp2_with fail
        refine (value_any _ _ _ _ _).mono ?_
        rintro e wv ⟨rfl, hb⟩
        have AV := hid ((A3.out.up (up_alloc _ _)).up hb)
        have Y := hid (AV.out.yes (HN.out wv hb) HO.out)
        have c0 := AV.out.c0
        have c1 := AV.out.c1
        have f0 := AV.out.fz 0
        have f1 := AV.out.fz 1
        clear hb HN AV A3
        go_wp2
        refine bodyPost_ret (v := .agg #[.int .i64 5, .slice (some ⟨w3.heap.size, 0, none⟩) 3 3]) (results_cell_row rfl _ _ w.heap.size 27 _ (0, 0) _ rfl Y.out.1 Tryz.underlying27 rfl (by kernel_rfl)) rfl Y.out.2

set_option maxRecDepth 8000 in
set_option maxHeartbeats 2000000 in
theorem whole1_any (a : Val) (w : World) (h : DD p W0 g op r [a] w) :
    Calls Tryz.prog 44 #[.pointer (some ⟨g, 0, none⟩)] w (Ret p W0 g op r w (NV w.heap.size) ((wholeO a).map (fun z => (z, [])))) := by
  have A0 := hid (At.start h)
  have H1 := hid (num_any a [] _ A0.out.dd)
  generalize hoo : (wholeO a).map (fun z => (z, ([] : List Val))) = oo
  have HE : Hid (oo = _) := hid hoo.symm
  unfold wholeO at HE
  clear h hoo
  go_enter Tryz.func44, Tryz.ntmps44
  go_wp2_with fail
  refine H1.out.mono ?_
  intro e w1 hr
  cases h1 : numC a with
  | none =>
    obtain rfl := hr.of_none (by rw [h1]; rfl)
    have A1 := hid (A0.out.no (V := NV w.heap.size) hr.grown (HE.out.trans (by rw [h1]; rfl)))
    clear hr H1 h1 HE A0
    go_wp2
    exact ⟨rfl, A1.out⟩
  | some x1 =>
    obtain ⟨v1, rfl, hv, hd⟩ := hr.of_some (by rw [h1]; rfl)
    unfold IntV at hv; subst hv
    have A1 := hid (A0.out.step hr.grown hd)
    have K1 := hid h1
    clear hr hd H1 h1 A0
    have HO : Hid (oo = some (⟨7, [x1, 0]⟩, [])) := hid (HE.out.trans (by rw [K1.out]; rfl))
    have hs := A1.out.size
    have HN : Hid (∀ w', Below (w1.alloc (.cells #[.int .i64 (x1), .int .i64 (0)] 3)).heap.size (w1.alloc (.cells #[.int .i64 (x1), .int .i64 (0)] 3)) w' → NV (w.heap.size + 1) w' (.agg #[.int .i64 7, .slice (some ⟨w1.heap.size, 0, none⟩) 2 2]) ⟨7, [x1, 0]⟩) := hid fun w' hb => ⟨_, rfl, NA.lit (t := 3) [x1, 0] (by omega) (by simp) hb⟩
    clear HE K1 hs
    go_wp2_with fail
    refine (value_any _ _ _ _ _).mono ?_
    rintro e wv ⟨rfl, hb⟩
    have AV := hid ((A1.out.up (up_alloc _ _)).up hb)
    have Y := hid (AV.out.yes (HN.out wv hb) HO.out)
    have c0 := AV.out.c0
    have c1 := AV.out.c1
    have f0 := AV.out.fz 0
    have f1 := AV.out.fz 1
    clear hb HN AV A1
    go_wp2
    refine bodyPost_ret (v := .agg #[.int .i64 7, .slice (some ⟨w1.heap.size, 0, none⟩) 2 2]) (results_cell_row rfl _ _ w.heap.size 27 _ (0, 0) _ rfl Y.out.1 Tryz.underlying27 rfl (by kernel_rfl)) rfl Y.out.2

end
end Go.Proofs.YtengcdodoblabaaGreatDoor
