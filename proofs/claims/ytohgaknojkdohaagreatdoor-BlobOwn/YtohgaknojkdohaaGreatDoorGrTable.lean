/- The table of how many places each Op asks for: the row's list says what it holds. -/
import Derived.Test.YtohgaknojkdohaaGreatDoorGrLeaf
import Derived.Test.YtohgaknojkdohaaGreatDoorRows
import Derived.Lib.LaidTab
import Derived.ChangeArms
namespace Go.Proofs.YtohgaknojkdohaaGreatDoor.Gr
open Go.RowKit

theorem tab_of_laid {W : World} (h : laidMet Tryz.prog [("interlocutor/gram.places", Rows.laid_interlocutor_gram_places)] W) : Tab W := by
  obtain ⟨ps, ⟨g, t, cs, fuel, p, q, hg, ht, hvar, hd, _, _⟩, _⟩ := h
  have hn : Tryz.prog.globalNamed "interlocutor/gram.places" = some 0 := by kernel_rfl
  obtain rfl := Option.some.inj (hn.symm.trans hg)
  have hty : (Tryz.prog.globals[0]?).map (·.type) = some 189 := by kernel_rfl
  obtain rfl := Option.some.inj (hty.symm.trans ht)
  have hdat : (Rows.laid_interlocutor_gram_places : DataW Unit) = .agg ((List.range 16).map fun i => .agg [.lit (.int .i64 (lows.getD i 0)), .lit (.int .i64 (highs.getD i 0))]) := rfl
  rw [hdat] at hd
  have ce : Tryz.prog.cellsOf 188 = 2 := by kernel_rfl
  have ca : Tryz.prog.cellsOf 189 = 32 := by kernel_rfl
  cases fuel with
  | zero => simp [DataW.trod] at hd
  | succ fuel =>
    simp only [DataW.trod, Tryz.underlying189, ce, ca] at hd
    split at hd
    · rename_i hl
      obtain ⟨xs, hm, hx⟩ := Option.map_eq_some_iff.1 hd
      intro k hk
      obtain ⟨b, hb, hf⟩ := Lib.mapM_at hm k k (by simp [hk])
      have h2 : (xs.map (·.1))[k]? = some (DataW.agg [.lit (.int .i64 (lows.getD k 0)), .lit (.int .i64 (highs.getD k 0))] : DataW Unit) := by
        have := congrArg Prod.fst hx
        simp only [DataW.agg.injEq] at this
        rw [this]
        simp [hk]
      rw [List.getElem?_map, hb] at h2
      simp only [Option.map_some, Option.some.injEq] at h2
      obtain ⟨ys, n, _, hy, hlen, hyl, hfld⟩ := DataW.trod_struct Tryz.underlying188 hf
      match ys, hyl with
      | [y0, y1], _ =>
        have g0 := hfld 0 _ rfl
        have g1 := hfld 1 _ rfl
        obtain ⟨z0, e0, f0, _⟩ := DataW.trod_int Tryz.underlying3 g0
        obtain ⟨z1, e1, f1, _⟩ := DataW.trod_int Tryz.underlying3 g1
        rw [hy] at h2
        subst f0 f1
        simp only [List.map_cons, List.map_nil, DataW.agg.injEq, List.cons.injEq, DataW.lit.injEq, Lit.int.injEq, true_and, and_true] at h2
        have c1 : Tryz.prog.cellsOf 3 = 1 := by kernel_rfl
        change List.take (Tryz.prog.cellsOf 3) (List.drop 0 (List.take 2 (List.drop (k * 2) cs.toList))) = _ at e0
        change List.take (Tryz.prog.cellsOf 3) (List.drop 1 (List.take 2 (List.drop (k * 2) cs.toList))) = _ at e1
        rw [c1] at e0 e1
        have i0 := congrArg (·[0]?) e0
        have i1 := congrArg (·[0]?) e1
        rw [World.var?_cell hn hvar, World.var?_cell hn hvar, ← h2.1, ← h2.2]
        simp only [List.getElem?_take, List.getElem?_drop, List.getElem?_cons_zero] at i0 i1
        simp at i0 i1
        exact ⟨by simpa using i0, by simpa using i1⟩
    · cases hd

end Go.Proofs.YtohgaknojkdohaaGreatDoor.Gr
