/- BlShA, BlMkA: these texts, one behind the other. -/
import Derived.Test.YtannndpamhgknaaGreatDoorXGq0
import Derived.Test.YtannndpamhgknaaGreatDoorXBl2
import Derived.Test.YtannndpamhgknaaGreatDoorGrLeaf
import Derived.Test.YtannndpamhgknaaGreatDoorProg
import Derived.Lib.LaidTab
import Derived.ChangeArms
import Derived.Test.YtannndpamhgknaaGreatDoorMBlMkM
/- A Shape that comes in as an argument; its Few. -/
namespace Go.Proofs.YtannndpamhgknaaGreatDoor.Bl
open Go.RowKit Go.ChangeShapes Go.WideShapes Gr

def shapeV (o d wd vl : Int) (rv : Value) (m : Bool) : Value := .agg #[.int .i64 o, .int .i64 d, .int .i64 wd, .int .i64 vl, rv, .bool m]
/-- A Shape as plain data. -/
structure Shp where
  order : Int
  digits : Int
  word : Int
  value : Int
  more : Bool
  raws : List Raw
def ShapeAt (w : World) (v : Value) (x : Shp) : Prop := ∃ rv, v = shapeV x.order x.digits x.word x.value rv x.more ∧ RawsAt w rv x.raws
theorem array6 {cs : Array Value} (h : cs.size = 6) : ∃ c0 c1 c2 c3 c4 c5, cs = #[c0, c1, c2, c3, c4, c5] := by
  obtain ⟨l⟩ := cs
  match l, h with
  | [c0, c1, c2, c3, c4, c5], _ => exact ⟨c0, c1, c2, c3, c4, c5, rfl⟩
set_option maxRecDepth 8000 in
theorem few5_any (o d wd vl : Int) (rv : Value) (raws : List Raw) (m : Bool) (w : World) (h : RawsAt w rv raws) : Calls Tryz.prog 14 #[shapeV o d wd vl rv m] w fun e w' => e = .returned (.bool (few raws && decide (raws.length ≤ 12))) ∧ Below w.heap.size w w' := by
  unfold shapeV
  have HU := hid (up_alloc w (.cells #[.int .i64 o, .int .i64 d, .int .i64 wd, .int .i64 vl, rv, .bool m] 24))
  have HX := hid (row_new w (.cells #[.int .i64 o, .int .i64 d, .int .i64 wd, .int .i64 vl, rv, .bool m] 24))
  have HF := hid (few_any raws rv _ (h.on HU.out))
  obtain ⟨adr, capr, er, _⟩ := id h
  generalize hrn : raws.length = nr at *
  clear hrn h
  subst er
  go_enter Tryz.func14, Tryz.ntmps14
  go_wp2_with fail
  refine HF.out.mono ?_
  rintro e w2 ⟨rfl, rfl⟩
  cases hf : few raws with
  | false =>
    go_wp2
    go_ret
    exact ⟨ret_bool (by simp [hf]), HU.out⟩
  | true =>
    by_cases hn : nr ≤ 12
    · have hn2 : (nr : Int) ≤ 12 := by omega
      go_wp2
      go_ret
      exact ⟨ret_bool (by simp [hf, hn]), HU.out⟩
    · have hn2 : ¬ (nr : Int) ≤ 12 := by omega
      go_wp2
      go_ret
      exact ⟨ret_bool (by simp [hf, hn, hn2]), HU.out⟩
section
variable {H : Type} {enc : TypeId × Value → H} {W : World}
set_option maxRecDepth 8000 in
theorem raws_of_trod {fuel : Nat} {cs : List Value} {x : DataW H × List MemPlace} (hf : DataW.trod enc Tryz.prog W 0 (fun _ => true) true fuel 22 cs = some x) : ∃ sv l, cs = [sv] ∧ RawsAt W sv l := by
  rcases Deep.open_slice Tryz.underlying22 hf with ⟨hcs, _⟩ | ⟨a, len, cap, m, n, D, Pl, hcs, _, hl, hm, hmm, _, hx⟩
  · exact ⟨_, [], hcs, none, 0, rfl, by simp, fun j hj => by simp at hj⟩
  · simp only [if_true] at hmm
    have ce : Tryz.prog.cellsOf 91 = 5 := by kernel_rfl
    have each : ∀ j, j < len → ∃ r : Raw, RawIn W a (j * 5) r := by
      intro j hj
      obtain ⟨cs, h1, h2⟩ := hx j (by omega)
      rw [ce] at h1
      obtain ⟨r, sv, pv, k⟩ := raw_of_cells h1 h2
      exact ⟨r, sv, pv, k⟩
    obtain ⟨l, hll, hlp⟩ := list_choose each
    exact ⟨_, l, hcs, some a, cap, by rw [hll], by rw [hll]; omega, fun j hj => ⟨a, rfl, hlp j _ (raw_at hj)⟩⟩
set_option maxRecDepth 8000 in
theorem shape_of {base : Nat} {v : Value} {d : DataW H} {ps : List MemPlace} (hval : Value.okWide Tryz.prog W .any base 24 v) (h : DataW.Trod enc Tryz.prog W 0 (fun _ => true) true 24 v d ps) : ∃ (o dg wd vl : Int) (rv : Value) (m : Bool) (raws : List Raw), v = shapeV o dg wd vl rv m ∧ RawsAt W rv raws := by
  have c6 : Tryz.prog.cellsOf 24 = 6 := by kernel_rfl
  have c1 : Tryz.prog.cellsOf 3 = 1 := by kernel_rfl
  have c2 : Tryz.prog.cellsOf 22 = 1 := by kernel_rfl
  have c3 : Tryz.prog.cellsOf 4 = 1 := by kernel_rfl
  obtain ⟨cs, rfl, hsz⟩ := okWide_struct Tryz.underlying24 hval
  obtain ⟨v0, v1, v2, v3, v4, v5, rfl⟩ := array6 (hsz.trans c6)
  obtain ⟨fuel, hf⟩ := h
  obtain ⟨xs, k, _, _, _, hxl, hfld⟩ := DataW.trod_struct Tryz.underlying24 hf
  match xs, hxl with
  | [y0, y1, y2, y3, y4, y5], _ =>
    have g0 := hfld 0 _ rfl
    have g1 := hfld 1 _ rfl
    have g2 := hfld 2 _ rfl
    have g3 := hfld 3 _ rfl
    have g4 := hfld 4 _ rfl
    have g5 := hfld 5 _ rfl
    change DataW.trod _ _ _ _ _ _ _ 3 (List.take (Tryz.prog.cellsOf 3) (List.drop 0 [v0, v1, v2, v3, v4, v5])) = _ at g0
    change DataW.trod _ _ _ _ _ _ _ 3 (List.take (Tryz.prog.cellsOf 3) (List.drop 1 [v0, v1, v2, v3, v4, v5])) = _ at g1
    change DataW.trod _ _ _ _ _ _ _ 3 (List.take (Tryz.prog.cellsOf 3) (List.drop 2 [v0, v1, v2, v3, v4, v5])) = _ at g2
    change DataW.trod _ _ _ _ _ _ _ 3 (List.take (Tryz.prog.cellsOf 3) (List.drop 3 [v0, v1, v2, v3, v4, v5])) = _ at g3
    change DataW.trod _ _ _ _ _ _ _ 22 (List.take (Tryz.prog.cellsOf 22) (List.drop 4 [v0, v1, v2, v3, v4, v5])) = _ at g4
    change DataW.trod _ _ _ _ _ _ _ 4 (List.take (Tryz.prog.cellsOf 4) (List.drop 5 [v0, v1, v2, v3, v4, v5])) = _ at g5
    rw [c1] at g0 g1 g2 g3
    rw [c2] at g4
    rw [c3] at g5
    simp only [List.drop_zero, List.drop_succ_cons, List.take_succ_cons, List.take_zero, List.getElem?_cons_zero, List.getElem?_cons_succ] at g0 g1 g2 g3 g4 g5
    obtain ⟨z0, e0, _, _⟩ := DataW.trod_int Tryz.underlying3 g0
    obtain ⟨z1, e1, _, _⟩ := DataW.trod_int Tryz.underlying3 g1
    obtain ⟨z2, e2, _, _⟩ := DataW.trod_int Tryz.underlying3 g2
    obtain ⟨z3, e3, _, _⟩ := DataW.trod_int Tryz.underlying3 g3
    obtain ⟨rv, raws, e4, hr⟩ := raws_of_trod g4
    obtain ⟨m, e5, _⟩ := DataW.trod_bool Tryz.underlying4 g5
    simp only [List.cons.injEq, and_true] at e0 e1 e2 e3 e4 e5
    subst e0 e1 e2 e3 e4 e5
    exact ⟨z0, z1, z2, z3, _, m, raws, rfl, hr⟩
set_option maxRecDepth 8000 in
theorem shape_at {base : Nat} {v : Value} {d : DataW H} {ps : List MemPlace} (hval : Value.okWide Tryz.prog W .any base 24 v) (h : DataW.Trod enc Tryz.prog W 0 (fun _ => true) true 24 v d ps) : ∃ x : Shp, ShapeAt W v x := by
  obtain ⟨o, dg, wd, vl, rv, m, raws, e, hr⟩ := shape_of hval h
  exact ⟨⟨o, dg, wd, vl, m, raws⟩, rv, e, hr⟩
end

end Go.Proofs.YtannndpamhgknaaGreatDoor.Bl

/- Of what may be: its sizes; of a Shape: what it makes, told at once. -/
namespace Go.Proofs.YtannndpamhgknaaGreatDoor.Bl
open Go.RowKit Gr

theorem right_small {ls : List Locale} (h : rightL ls = true) : Small ls := fun x hx => by
  obtain ⟨h1, _, _, ⟨h2, _⟩, ⟨h3, _⟩, h4, _⟩ := locales_ok h x hx
  exact ⟨by omega, by omega, by omega, by omega⟩
theorem enc_pos (ls : List Locale) : 0 < (encLocales ls).length := by unfold encLocales; rw [List.length_append, numB_length]; omega
theorem bin_take {w : World} {B : Nat} {ad : Option Addr} {n cap : Nat} {bs : List Int} (h : RB w B (.slice ad n cap) bs) (hB : Byt bs) (h0 : 0 < bs.length) (hl : bs.length ≤ 1000000) (k : Nat) (hk : k ≤ bs.length) : BIn w (.slice ad k cap) (bs.take k) := by
  obtain ⟨ad', cap', e, ⟨h2, h3, h4, h5⟩, h6⟩ := bin_of_rb h hB h0 hl
  injection e with e1 e2 e3
  subst e1 e3
  have hlen : (bs.take k).length = k := by rw [List.length_take]; omega
  refine ⟨_, _, by rw [hlen], ⟨fun z hz => h2 z (List.mem_of_mem_take hz), by omega, by omega, h5⟩, ?_⟩
  rcases h6 with ⟨_, _, h6⟩ | ⟨b, o, e, hlt, hc⟩
  · rw [h6] at h0; simp at h0
  · refine .inr ⟨b, o, e, hlt, fun j hj => ?_⟩
    rw [hc j (by omega), List.getD_eq_getElem?_getD, List.getD_eq_getElem?_getD, List.getElem?_take_of_lt (by omega)]
/-- Rules, shape's row aside: the shape's numbers. -/
def mkL (x : Shp) : List Locale := makeL x.order x.digits x.word x.value x.raws x.more
theorem mkL_right (x : Shp) : rightL (mkL x) = true := makeL_right _ _ _ _ _ _
end Go.Proofs.YtannndpamhgknaaGreatDoor.Bl
