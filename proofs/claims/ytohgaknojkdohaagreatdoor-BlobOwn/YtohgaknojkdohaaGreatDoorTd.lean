/- Rd, RdT, RdG, Rd2, Cp, ResR, Res, Rsv, Dec: these texts, one behind the other. -/
import Derived.Test.YtohgaknojkdohaaGreatDoorTa
import Derived.Laws.BitsLemmas
import Derived.Test.YtohgaknojkdohaaGreatDoorTb
import Derived.Deep.RegionHeld
import Derived.Defers
import Derived.Recover
/- What is read: package blob's reader: bytes, numbers, counts, texts. -/
namespace Go.Proofs.YtohgaknojkdohaaGreatDoor
open Go.RowKit Gr

theorem set_by (w : World) (g j : Nat) (u : Value) : w.grownBy (w.setCell ⟨g, j, none⟩ u) (some g) := ⟨rfl, rfl, rfl, by simp [World.setCell], fun k _ hk => Below.heap_setCell _ _ _ _ (fun e => hk (by rw [e]))⟩
/-- A reader at block g: what is left. -/
def Rd (w : World) (g : Nat) (bs : List Int) : Prop :=
  ∃ (ad : Option Addr) (cap : Nat), w.heap[g]? = some (.cells #[.slice ad bs.length cap] 117 (0, 0)) ∧ (Byt bs ∧ bs.length ≤ 1000000 ∧ bs.length ≤ cap ∧ cap ≤ maxLen) ∧
    ((ad = none ∧ cap = 0 ∧ bs = []) ∨ ∃ b o, ad = some ⟨b, o, none⟩ ∧ b < g ∧ ∀ j, j < bs.length → w.cell? ⟨b, o + j, none⟩ = some (.int .u8 (bs.getD j 0)))
theorem Rd.lt {w : World} {g : Nat} {bs : List Int} (h : Rd w g bs) : g < w.heap.size := by
  obtain ⟨_, _, h1, _⟩ := h
  exact (Array.getElem?_eq_some_iff.1 h1).1
/-- Whatever is made behind it. -/
theorem Rd.on {w w' : World} {g : Nat} {bs : List Int} (h : Rd w g bs) (hb : Below (g + 1) w w') : Rd w' g bs := by
  obtain ⟨ad, cap, h1, h2, h3⟩ := h
  refine ⟨ad, cap, (hb.block g (by omega)).trans h1, h2, ?_⟩
  rcases h3 with h3 | ⟨b, o, e, hlt, hc⟩
  · exact .inl h3
  · exact .inr ⟨b, o, e, hlt, fun j hj => (hb.cell (show b < g + 1 by omega)).trans (hc j hj)⟩
/-- What a reader refuses with. -/
def boom : List PanicEntry := [{ v := .iface 164 (.agg #[]), recovered := false }]
/-- What a call that reads leaves. -/
def Ret {α : Type} (g : Nat) (w : World) (V : World → Value → α → Prop) (r : Option (α × List Int)) (e : Ending) (w' : World) : Prop :=
  w.grownBy w' (some g) ∧ match r with
    | none => e = .panicked boom
    | some x => ∃ v, e = .returned v ∧ Rd w' g x.2 ∧ Own w.heap.size w' (fun W => V W v x.1)
theorem Ret.no {α : Type} {g : Nat} {w w' : World} {V : World → Value → α → Prop} {r : Option (α × List Int)} (h : r = none) (hg : w.grownBy w' (some g)) : Ret g w V r (.panicked boom) w' := by
  subst h
  exact ⟨hg, rfl⟩
theorem Ret.yes {α : Type} {g : Nat} {w w' : World} {V : World → Value → α → Prop} {r : Option (α × List Int)} {x : α} {rest : List Int} {v : Value} (h : r = some (x, rest)) (hg : w.grownBy w' (some g)) (hR : Rd w' g rest) (hO : Own w.heap.size w' (fun W => V W v x)) : Ret g w V r (.returned v) w' := by
  subst h
  exact ⟨hg, v, rfl, hR, hO⟩
theorem Ret.grown {α : Type} {g : Nat} {w w' : World} {V : World → Value → α → Prop} {r : Option (α × List Int)} {e : Ending} (h : Ret g w V r e w') : w.grownBy w' (some g) := h.1
theorem Ret.of_none {α : Type} {g : Nat} {w w' : World} {V : World → Value → α → Prop} {r : Option (α × List Int)} {e : Ending} (h : Ret g w V r e w') (hr : r = none) : e = .panicked boom := by
  subst hr
  exact h.2
theorem Ret.of_some {α : Type} {g : Nat} {w w' : World} {V : World → Value → α → Prop} {r : Option (α × List Int)} {e : Ending} {x : α} {rest : List Int} (h : Ret g w V r e w') (hr : r = some (x, rest)) : ∃ v, e = .returned v ∧ Rd w' g rest ∧ Own w.heap.size w' (fun W => V W v x) := by
  subst hr
  exact h.2
/-- Bytes of a row that lies ahead of block g. -/
def Front (g : Nat) (w : World) (v : Value) (xs : List Int) : Prop :=
  ∃ (ad : Option Addr) (cap : Nat), v = .slice ad xs.length cap ∧ (Byt xs ∧ xs.length ≤ 1000000) ∧ ((ad = none ∧ cap = 0 ∧ xs = []) ∨ ∃ b o, ad = some ⟨b, o, none⟩ ∧ b < g ∧ ∀ j, j < xs.length → w.cell? ⟨b, o + j, none⟩ = some (.int .u8 (xs.getD j 0)))
/-- What take leaves. -/
def Took (g : Nat) (w : World) (bs : List Int) (n : Nat) (e : Ending) (w' : World) : Prop :=
  w.grownBy w' (some g) ∧ if n ≤ bs.length then ∃ v, e = .returned v ∧ Rd w' g (bs.drop n) ∧ Front g w' v (bs.take n) else e = .panicked boom
theorem byt_sub {a b : List Int} (h : Byt b) (hs : ∀ z ∈ a, z ∈ b) : Byt a := fun z hz => h z (hs z hz)
theorem getD_drop (bs : List Int) (n j : Nat) : (bs.drop n).getD j 0 = bs.getD (n + j) 0 := by simp [List.getD_eq_getElem?_getD]
theorem getD_take {bs : List Int} {n j : Nat} (h : j < n) : (bs.take n).getD j 0 = bs.getD j 0 := by simp [List.getD_eq_getElem?_getD, h]

theorem Rd.moved {w : World} {g b o cap L : Nat} {x : Value} {rest : List Int} (h1 : w.heap[g]? = some (.cells #[x] 117 (0, 0))) (hL : rest.length = L) (hB : Byt rest) (hl : L ≤ 1000000) (hc : L ≤ cap) (hM : cap ≤ maxLen) (hb : b < g) (hcs : ∀ j, j < L → w.cell? ⟨b, o + j, none⟩ = some (.int .u8 (rest.getD j 0))) :
    Rd (w.setCell ⟨g, 0, none⟩ (.slice (some ⟨b, o, none⟩) L cap)) g rest := by
  subst hL
  refine ⟨some ⟨b, o, none⟩, cap, heap_setCell_same w g 0 _ _ _ h1, ⟨hB, hl, hc, hM⟩, .inr ⟨b, o, rfl, hb, fun j hj => ?_⟩⟩
  exact ((set_by w g 0 _).cell_far _ (lt_of_cell (hcs j hj)) (fun e => by injection e with e; have : b = g := e; omega)).trans (hcs j hj)
theorem Front.moved {w : World} {g b o cap L n : Nat} {u : Value} {xs : List Int} (hL : xs.length = n) (hB : Byt xs) (hl : n ≤ 1000000) (hb : b < g) (hcs : ∀ j, j < L → w.cell? ⟨b, o + j, none⟩ = some (.int .u8 (xs.getD j 0))) (hn : n ≤ L) :
    Front g (w.setCell ⟨g, 0, none⟩ u) (.slice (some ⟨b, o, none⟩) n cap) xs := by
  subst hL
  refine ⟨some ⟨b, o, none⟩, cap, rfl, ⟨hB, hl⟩, .inr ⟨b, o, rfl, hb, fun j hj => ?_⟩⟩
  have := hcs j (by omega)
  exact ((set_by w g 0 _).cell_far _ (lt_of_cell this) (fun e => by injection e with e; have : b = g := e; omega)).trans this

set_option maxRecDepth 8000 in
theorem take_any (n : Nat) (g : Nat) (bs : List Int) (w : World) (h : Rd w g bs) (hn : n ≤ 1000000) :
    Calls Tryz.prog 131 #[.pointer (some ⟨g, 0, none⟩), .int .i64 n] w (Took g w bs n) := by
  obtain ⟨ad, cap, h1, ⟨hb, hl, hc, hM⟩, h3⟩ := h
  have c0 : w.cell? ⟨g, 0, none⟩ = some (.slice ad bs.length cap) := by rw [cell_of_row _ _ _ _ _ _ h1]; rfl
  have f0 : w.frozen? ⟨g, 0, none⟩ = false := frozen_of_row _ _ _ _ _ h1
  have hgl : g < w.heap.size := (Array.getElem?_eq_some_iff.1 h1).1
  have H1 := hid h1
  have HB := hid hb
  have HM := hid hM
  unfold maxLen at hM
  by_cases hle : n ≤ bs.length
  · have HT : Hid (∀ e w', Took g w bs n e w' ↔ (w.grownBy w' (some g) ∧ ∃ v, e = .returned v ∧ Rd w' g (bs.drop n) ∧ Front g w' v (bs.take n))) := hid (fun e w' => by unfold Took; rw [if_pos hle])
    have HLT : Hid ((bs.take n).length = n) := hid (by rw [List.length_take]; omega)
    have HLD : Hid ((bs.drop n).length = bs.length - n) := hid (by rw [List.length_drop])
    have HBT : Hid (Byt (bs.take n)) := hid (byt_sub hb fun z hz => List.mem_of_mem_take hz)
    have HBD : Hid (Byt (bs.drop n)) := hid (byt_sub hb fun z hz => List.mem_of_mem_drop hz)
    rcases h3 with ⟨rfl, rfl, rfl⟩ | ⟨b, o, rfl, hbg, hcs⟩
    · obtain rfl : n = 0 := by simpa using hle
      clear h1 hb
      go_enter Tryz.func131, Tryz.ntmps131
      go_wp2
      go_ret
      refine (HT.out _ _).2 ⟨set_by w g 0 _, _, rfl, ⟨none, 0, heap_setCell_same w g 0 _ _ _ H1.out, ⟨HBD.out, by simp, by simp, by simp⟩, .inl ⟨rfl, rfl, by simp⟩⟩, ⟨none, 0, rfl, ⟨HBT.out, by simp⟩, .inl ⟨rfl, rfl, by simp⟩⟩⟩
    · have HCS := hid hcs
      clear h1 hb hcs
      generalize hL : bs.length = L at *
      have HL := hid hL
      clear hL
      by_cases hcap : cap = n
      · subst hcap
        obtain rfl : L = cap := by omega
        go_enter Tryz.func131, Tryz.ntmps131
        go_wp2
        go_ret
        refine (HT.out _ _).2 ⟨set_by w g 0 _, _, rfl, Rd.moved H1.out (by rw [HLD.out]; omega) HBD.out (by omega) (by omega) (by unfold maxLen; omega) hbg (fun j hj => by omega), Front.moved HLT.out HBT.out hn hbg (L := L) (fun j hj => by rw [getD_take hj]; exact HCS.out j hj) (Nat.le_refl _)⟩
      · have hlt : n < cap := by omega
        go_enter Tryz.func131, Tryz.ntmps131
        go_wp2
        go_ret
        refine (HT.out _ _).2 ⟨set_by w g 0 _, _, rfl, Rd.moved H1.out HLD.out HBD.out (by omega) (by omega) (by unfold maxLen; omega) hbg (fun j hj => by rw [getD_drop, Nat.add_assoc]; exact HCS.out (n + j) (by omega)), Front.moved HLT.out HBT.out hn hbg (L := n) (fun j hj => by rw [getD_take hj]; exact HCS.out j (by omega)) (Nat.le_refl _)⟩
  · have HT : Hid (∀ e w', Took g w bs n e w' ↔ (w.grownBy w' (some g) ∧ e = .panicked boom)) := hid (fun e w' => by unfold Took; rw [if_neg hle])
    have hlt : (bs.length : Int) < (n : Int) := by omega
    clear h1 hb h3
    generalize bs.length = L at *
    go_enter Tryz.func131, Tryz.ntmps131
    go_wp2
    exact ⟨rfl, (HT.out _ _).2 ⟨World.grownBy.refl _ _, rfl⟩⟩

theorem accB_nil : accB [] = 0 := rfl
theorem or_u64 (a y : Int) (h0 : 0 ≤ y) (h1 : y < 256) (ha : 0 ≤ a) (hX : a < 72057594037927936) : bits .or .u64 (a * 256) y = a * 256 + y := by
  obtain ⟨n, rfl⟩ := Int.eq_ofNat_of_zero_le h0
  obtain ⟨m, rfl⟩ := Int.eq_ofNat_of_zero_le ha
  have hn : n < 2 ^ 8 := by omega
  have e : ((m : Int) * 256) = ((2 ^ 8 * m : Nat) : Int) := by omega
  rw [e, (bits_nat .u64 64 (by decide) (fun n h0 h1 => by rw [IntKind.wrap_u64]; omega) (2 ^ 8 * m) n (by omega) (by omega)).2, ← Nat.two_pow_add_eq_or_of_lt hn]
  simp

set_option maxRecDepth 8000 in
theorem rnumber_any (g : Nat) (bs : List Int) (w : World) (h : Rd w g bs) :
    Calls Tryz.prog 99 #[.pointer (some ⟨g, 0, none⟩)] w (Ret g w (fun _ v x => v = .int .i64 x) (pNum bs)) := by
  have HC := hid (take_any 8 g bs w h (by decide))
  clear h
  go_enter Tryz.func99, Tryz.ntmps99
  go_wp2_with fail
  refine HC.out.mono ?_
  rintro e w1 ⟨hg, ht⟩
  have HG := hid hg
  clear hg HC
  by_cases hle : 8 ≤ bs.length
  · rw [if_pos hle] at ht
    obtain ⟨v, rfl, hR, hF⟩ := ht
    have HR := hid hR
    have HP : Hid (pNum bs = some (wrap64 (accB (bs.take 8)), bs.drop 8)) := hid (by unfold pNum; rw [if_pos hle])
    clear hR
    obtain ⟨ad, cap, ev, ⟨hB, hl⟩, hc⟩ := hF
    have hlen : (bs.take 8).length = 8 := by rw [List.length_take]; omega
    rw [hlen] at ev hc
    rcases hc with ⟨_, _, hnil⟩ | ⟨b, o, rfl, hbg, hcs⟩
    · rw [hnil] at hlen; cases hlen
    subst ev
    generalize bs.take 8 = xs at *
    have HCS := hid hcs
    have HBY := hid hB
    have HLN := hid hlen
    clear hcs hB hl hlen hle
    go_wp2
    go_loopw [3, 9] (fun v3 v9 wr => ∃ j : Nat, j ≤ 8 ∧ v9 = .int .i64 j ∧ v3 = .int .u64 (accB (xs.take j)) ∧ wr = w1) (fun _ v9 _ => 8 - (intOf v9).toNat)
    case atStart => exact ⟨0, by omega, rfl, by simp [accB], rfl⟩
    case round =>
      obtain ⟨j, hj, rfl, rfl, rfl⟩ := hrel
      by_cases hlt : j < 8
      · have hlt2 : (j : Int) < 8 := by omega
        have c0 := HCS.out j hlt
        have HX : Hid (xs[j]? = some (xs.getD j 0)) := hid (getD_at (by rw [HLN.out]; exact hlt))
        have hb2 := HBY.out (xs.getD j 0) (List.mem_of_getElem? HX.out)
        have hbt := accB_bound (xs.take j) (byt_sub HBY.out fun z hz => List.mem_of_mem_take hz)
        have hpow : (256 : Int) ^ (xs.take j).length ≤ 256 ^ 7 := by
          rw [List.length_take, HLN.out]
          exact_mod_cast Nat.pow_le_pow_right (by decide) (by omega)
        have HS : Hid (accB (xs.take (j + 1)) = accB (xs.take j) * 256 + xs.getD j 0) := hid (by rw [List.take_add_one, HX.out]; exact accB_snoc _ _)
        generalize xs.getD j 0 = y at *
        obtain ⟨hb0, hb1⟩ := hb2
        have ha1 : accB (xs.take j) < 72057594037927936 := by have := hbt.2; omega
        have ha0 := hbt.1
        clear hbt hpow
        generalize accB (xs.take j) = a at *
        have hor := or_u64 a y hb0 hb1 ha0 ha1
        have hw1 : IntKind.u64.wrap (a * 2 ^ 8) = a * 256 := by rw [IntKind.wrap_u64]; omega
        have hw2 : IntKind.u64.wrap y = y := by rw [IntKind.wrap_u64]; omega
        go_wp2
        go_roundw
        case rel => exact ⟨j + 1, by omega, by simp, by rw [HS.out], by first | trivial | rfl⟩
        case measure => simp [intOf]; omega
      · obtain rfl : j = 8 := by omega
        have HTK : Hid (xs.take 8 = xs) := hid (List.take_of_length_le (by rw [HLN.out]; omega))
        go_wp2
        go_ret
        exact Ret.yes HP.out HG.out HR.out (Own.all fun W => by rw [HTK.out]; rfl)
  · rw [if_neg hle] at ht
    subst ht
    have HP : Hid (pNum bs = none) := hid (by unfold pNum; rw [if_neg hle])
    go_wp2
    exact ⟨rfl, Ret.no HP.out HG.out⟩

end Go.Proofs.YtohgaknojkdohaaGreatDoor

/- What is read: counts, texts. -/
namespace Go.Proofs.YtohgaknojkdohaaGreatDoor
open Go.RowKit Gr

theorem conv_front {g : Nat} {w : World} {v : Value} {xs : List Int} (h : Front g w v xs) : (convert 28 9 v).run Tryz.prog w = .ok (.string (textB xs)) w := by
  obtain ⟨ad, cap, rfl, ⟨hB, hl⟩, h3⟩ := h
  rcases h3 with ⟨rfl, rfl, rfl⟩ | ⟨b, o, rfl, hbg, hcs⟩
  · have : ∀ w : World, (convert 28 9 (.slice none 0 0)).run Tryz.prog w = .ok (.string (textB [])) w := fun w => by kernel_rfl
    exact this w
  · have hlen : (bytesL xs).length = xs.length := by simp [bytesL]
    have := run_convert_bytes_back (P := Tryz.prog) w 28 9 5 ⟨b, o, none⟩ cap (bytesL xs) Tryz.underlying28 Tryz.underlying5 Tryz.underlying9 (fun j hj => by
      have hj' : j < xs.length := by omega
      have hz := hB xs[j] (List.getElem_mem hj')
      have h2 : xs[j].toNat.toUInt8.toNat = xs[j].toNat % 2 ^ 8 := UInt8.toNat_ofNat
      rw [Addr.add_lit, hcs j hj']
      simp only [bytesL, List.getElem_map]
      rw [h2, List.getD_eq_getElem?_getD, List.getElem?_eq_getElem hj']
      simp only [Option.getD_some]
      congr 2
      omega)
    rwa [hlen] at this

set_option maxRecDepth 8000 in
theorem count_any (most : Int) (g : Nat) (bs : List Int) (w : World) (h : Rd w g bs) :
    Calls Tryz.prog 97 #[.pointer (some ⟨g, 0, none⟩), .int .i64 most] w (Ret g w (fun _ v x => v = .int .i64 (x : Nat)) (pCount most bs)) := by
  have HC := hid (rnumber_any g bs w h)
  have HW := hid (fun n w => bwithin_any n 0 most w)
  clear h
  go_enter Tryz.func97, Tryz.ntmps97
  go_wp2_with fail
  refine HC.out.mono ?_
  rintro e w1 hr
  have HG := hid hr.grown
  cases hp : pNum bs with
  | none =>
    obtain rfl := hr.of_none hp
    have HP : Hid (pCount most bs = none) := hid (by unfold pCount; rw [hp]; rfl)
    clear hr hp HC
    go_wp2
    exact ⟨rfl, Ret.no HP.out HG.out⟩
  | some x =>
    obtain ⟨n, r⟩ := x
    obtain ⟨v, rfl, hR, hO⟩ := hr.of_some hp
    obtain rfl := hO.now
    have HR := hid hR
    have HP : Hid (pCount most bs = if inB n 0 most = true then some (n.toNat, r) else none) := hid (by unfold pCount; rw [hp]; rfl)
    clear hr hp HC hR hO
    go_wp2_with fail
    refine (HW.out _ _).mono ?_
    rintro e w2 ⟨rfl, rfl⟩
    cases hi : inB n 0 most with
    | true =>
      have HN : Hid ((n.toNat : Int) = n) := hid (by have := inB_iff.1 hi; omega)
      have HP2 := hid (HP.out.trans (if_pos hi))
      clear hi
      go_wp2
      go_ret
      exact Ret.yes HP2.out HG.out HR.out (Own.all fun W => by rw [HN.out]; rfl)
    | false =>
      have HP2 := hid (HP.out.trans (if_neg (by rw [hi]; decide)))
      clear hi
      go_wp2
      exact ⟨rfl, Ret.no HP2.out HG.out⟩

set_option maxRecDepth 8000 in
theorem rtexts_any (most : Int) (hm : most ≤ 1000) (g : Nat) (bs : List Int) (w : World) (h : Rd w g bs) :
    Calls Tryz.prog 98 #[.pointer (some ⟨g, 0, none⟩), .int .i64 most] w (Ret g w (fun _ v x => v = .string x) (pText most bs)) := by
  have HC := hid (count_any most g bs w h)
  clear h
  go_enter Tryz.func98, Tryz.ntmps98
  go_wp2_with fail
  refine HC.out.mono ?_
  rintro e w1 hr
  have HG := hid hr.grown
  cases hp : pCount most bs with
  | none =>
    obtain rfl := hr.of_none hp
    have HP : Hid (pText most bs = none) := hid (by unfold pText; rw [hp]; rfl)
    clear hr hp HC
    go_wp2
    exact ⟨rfl, Ret.no HP.out HG.out⟩
  | some x =>
    obtain ⟨n, r⟩ := x
    obtain ⟨v, rfl, hR, hO⟩ := hr.of_some hp
    have hn := pCount_le hp
    obtain rfl := hO.now
    have HP : Hid (pText most bs = if n ≤ r.length then some (textB (r.take n), r.drop n) else none) := hid (by unfold pText; rw [hp]; rfl)
    have HT := hid (take_any n g r w1 hR (by omega))
    clear hr hp HC hR hO
    go_wp2_with fail
    refine HT.out.mono ?_
    rintro e w2 ⟨hg, ht⟩
    have HG2 := hid (grown_on HG.out hg)
    clear hg HT
    by_cases hle : n ≤ r.length
    · rw [if_pos hle] at ht
      obtain ⟨v, rfl, hR, hF⟩ := ht
      have HR := hid hR
      have hcv := conv_front hF
      have HP2 := hid (HP.out.trans (if_pos hle))
      obtain ⟨ad, cap, ev, _⟩ := hF
      generalize (r.take n).length = L at *
      generalize textB (r.take n) = s at *
      subst ev
      clear hR hle
      go_wp2
      go_ret
      exact Ret.yes HP2.out HG2.out HR.out (Own.all fun W => rfl)
    · rw [if_neg hle] at ht
      subst ht
      have HP2 := hid (HP.out.trans (if_neg hle))
      clear hle
      go_wp2
      exact ⟨rfl, Ret.no HP2.out HG2.out⟩

end Go.Proofs.YtohgaknojkdohaaGreatDoor

/- What is read: rows, element by element; rows of numbers. -/
namespace Go.Proofs.YtohgaknojkdohaaGreatDoor
open Go.RowKit Gr

def setL : List Value → Nat → List Value → List Value
  | L, _, [] => L
  | L, o, u :: us => setL (L.set o u) (o + 1) us
theorem setL_take : ∀ (us L : List Value) (o : Nat), o + us.length ≤ L.length → (setL L o us).take (o + us.length) = L.take o ++ us
  | [], L, o, _ => by simp [setL]
  | u :: us, L, o, h => by
    rw [List.length_cons] at h ⊢
    have := setL_take us (L.set o u) (o + 1) (by rw [List.length_set]; omega)
    rw [show o + (us.length + 1) = o + 1 + us.length by omega]
    unfold setL
    rw [this, List.take_add_one, List.take_set_of_le (Nat.le_refl _), List.getElem?_set_self (by omega)]
    simp
def putL (w : World) (k : Nat) : Nat → List Value → World
  | _, [] => w
  | o, u :: us => putL (w.setCell ⟨k, o, none⟩ u) k (o + 1) us
theorem putL_own {B e size k n cap : Nat} : ∀ (us : List Value) (w : World) (L : List Value) (o : Nat), w.ownsRow B e size (.slice (some ⟨k, 0, none⟩) n cap) n L → (putL w k o us).ownsRow B e size (.slice (some ⟨k, 0, none⟩) n cap) n (setL L o us) ∧ w.grownBy (putL w k o us) (some k)
  | [], w, L, o, h => ⟨h, World.grownBy.refl _ _⟩
  | u :: us, w, L, o, h => by
    obtain ⟨h1, g1⟩ := h.stored o u
    obtain ⟨h2, g2⟩ := putL_own us _ _ (o + 1) h1
    exact ⟨h2, grown_on g1 g2⟩
theorem grown_all : ∀ (us : List Value) (w : World) (k o : Nat), w.grownBy (putL w k o us) (some k)
  | [], _, _, _ => World.grownBy.refl _ _
  | u :: us, w, k, o => grown_on (set_by w k o u) (grown_all us _ _ _)
theorem own_upto {w W : World} {B B' e size k n cap : Nat} {L : List Value} (h : w.ownsRow B e size (.slice (some ⟨k, 0, none⟩) n cap) n L) (u : Up B' w W) (hk : B' ≤ k) : W.ownsRow B e size (.slice (some ⟨k, 0, none⟩) n cap) n L := by
  obtain ⟨h1, h2⟩ := h
  refine ⟨h1, ?_⟩
  rcases h2 with h2 | ⟨g', cap', cur, e', hb, hg, h5⟩
  · exact .inl h2
  · refine .inr ⟨g', cap', cur, e', hb, ?_, h5⟩
    have : k = g' := by injection e' with e1; injection e1 with e1; injection e1
    subst this
    exact (u.block _ hk (Array.getElem?_eq_some_iff.1 hg).1).trans hg
theorem pMany_step {α : Type} {p : Rdr α} {n i : Nat} {r r' r'' : List Int} {xs : List α} {x : α} (h : pMany p n r = (pMany p (n - i) r').bind fun y => some (xs ++ y.1, y.2)) (hi : i < n) (hp : p r' = some (x, r'')) : pMany p n r = (pMany p (n - (i + 1)) r'').bind fun y => some (xs ++ [x] ++ y.1, y.2) := by
  rw [h, show n - i = n - (i + 1) + 1 by omega]
  simp only [pMany, hp, Option.bind_some]
  cases pMany p (n - (i + 1)) r'' with
  | none => rfl
  | some y => simp
theorem pMany_stop {α : Type} {p : Rdr α} {n i : Nat} {r r' : List Int} {xs : List α} (h : pMany p n r = (pMany p (n - i) r').bind fun y => some (xs ++ y.1, y.2)) (hi : i < n) (hp : p r' = none) : pMany p n r = none := by
  rw [h, show n - i = n - (i + 1) + 1 by omega]
  simp only [pMany, hp, Option.bind_none]
theorem pMany_done {α : Type} {p : Rdr α} {n : Nat} {r r' : List Int} {xs : List α} (h : pMany p n r = (pMany p (n - n) r').bind fun y => some (xs ++ y.1, y.2)) : pMany p n r = some (xs, r') := by
  rw [h, Nat.sub_self]
  simp [pMany]
/-- A row that is being read: what has come of it. -/
def Fill {α : Type} (e size k n g : Nat) (C : World → List Value → List α → Prop) (p : Rdr α) (r : List Int) (w : World) (i : Nat) : Prop :=
  ∃ (xs : List α) (L : List Value) (r' : List Int), xs.length = i ∧ Rd w g r' ∧ pMany p n r = ((pMany p (n - i) r').bind fun y => some (xs ++ y.1, y.2)) ∧ w.ownsRow k e size (.slice (some ⟨k, 0, none⟩) n n) n L ∧ Own (k + 1) w (fun W => C W (L.take (i * size)) xs)
theorem frozen_own {w : World} {B e size k n cap : Nat} {L : List Value} (h : w.ownsRow B e size (.slice (some ⟨k, 0, none⟩) n cap) n L) (j : Nat) : w.frozen? ⟨k, j, none⟩ = false := by
  obtain ⟨_, h2 | ⟨g', cap', cur, e', hb, hg, h5⟩⟩ := h
  · simp at h2
  · have : k = g' := by injection e' with e1; injection e1 with e1; injection e1
    subst this
    exact frozen_of_row _ _ _ _ _ hg
theorem own_has {w : World} {B e size k n cap : Nat} {L : List Value} (h : w.ownsRow B e size (.slice (some ⟨k, 0, none⟩) n cap) n L) (j : Nat) (hj : j < n * size) : ∃ u, w.cell? ⟨k, j, none⟩ = some u := by
  have hl := h.1
  have hn : 0 < n := by
    cases n with
    | zero => rw [Nat.zero_mul] at hj; omega
    | succ n => omega
  obtain ⟨g, cap', e', _, _, h2⟩ := own_at h hn
  have : k = g := by injection e' with e1; injection e1 with e1; injection e1
  subst this
  exact ⟨L[j], h2 j _ (List.getElem?_eq_getElem (by omega))⟩
/-- One more. -/
theorem Fill.put {α : Type} {e size k n g i : Nat} {C : World → List Value → List α → Prop} {p : Rdr α} {r r3 : List Int} {w : World} {xs : List α} {x : α} {L us : List Value} (hus : us.length = size) (hi : i < n) (hxl : xs.length = i) (hgk : g < k) (hR : Rd w g r3) (hpm : pMany p n r = ((pMany p (n - (i + 1)) r3).bind fun y => some (xs ++ [x] ++ y.1, y.2))) (hown : w.ownsRow k e size (.slice (some ⟨k, 0, none⟩) n n) n L)
    (hOC : Own (k + 1) w (fun W => C W (L.take (i * size)) xs)) (hO : Own (k + 1) w (fun W => C W us [x])) (happ : ∀ {W : World} {cs ds : List Value} {ys zs : List α}, C W cs ys → C W ds zs → C W (cs ++ ds) (ys ++ zs)) : Fill e size k n g C p r (putL w k (i * size) us) (i + 1) := by
  obtain ⟨h1, g1⟩ := putL_own us w L (i * size) hown
  have hup : Up (k + 1) w (putL w k (i * size) us) := Up.of_grown g1 (fun q e => by injection e with e; omega)
  have hlen : (i + 1) * size ≤ L.length := by rw [hown.1]; exact Nat.mul_le_mul_right size hi
  rw [Nat.add_mul, Nat.one_mul] at hlen
  refine ⟨xs ++ [x], _, r3, by simp [hxl], hR.on ⟨g1.os, g1.tape, g1.output, g1.size, fun q hq => ?_⟩, hpm, h1, fun W u => ?_⟩
  · by_cases hl : q < w.heap.size
    · exact g1.block q hl (fun e => by injection e with e; omega)
    · have := hR.lt; omega
  · rw [Nat.add_mul, Nat.one_mul]
    have := setL_take us L (i * size) (by omega)
    rw [hus] at this
    rw [this]
    exact happ (hOC W (hup.trans u)) (hO W (hup.trans u))
def IntC (_ : World) (cs : List Value) (xs : List Int) : Prop := cs = xs.map (Value.int .i64)
theorem ints_own {w : World} {B k n : Nat} {cs : List Value} {xs : List Int} (h : w.ownsRow B 3 1 (.slice (some ⟨k, 0, none⟩) n n) n cs) (hc : IntC w cs xs) (hn : xs.length = n) (hl : n ≤ 1000000) : Row w (.slice (some ⟨k, 0, none⟩) n n) xs := by
  subst hn
  refine ⟨_, _, rfl, by unfold maxLen; omega, fun j hj => ⟨_, rfl, ?_⟩⟩
  obtain ⟨g, cap, e, _, _, h2⟩ := own_at h (by omega)
  have : k = g := by injection e with e1; injection e1 with e1; injection e1
  subst this
  rw [Addr.add_lit, Nat.zero_add]
  refine h2 j _ ?_
  rw [hc, List.getElem?_map, getD_at hj]
  rfl

set_option maxRecDepth 8000 in
theorem get_int (most : Int) (hm : most ≤ 1000) (g : Nat) (bs : List Int) (w : World) (h : Rd w g bs) :
    Calls Tryz.prog 132 #[.pointer (some ⟨g, 0, none⟩), .int .i64 most, .func (.func 99) #[.pointer (some ⟨g, 0, none⟩)] #[]] w (Ret g w Row (pList most pNum bs)) := by
  have HC := hid (count_any most g bs w h)
  have HI := hid (fun bs w h => rnumber_any g bs w h)
  clear h
  obtain ⟨i0, hi, hz0, hz1, hz2⟩ := info_parts info_int
  go_enter Tryz.func132, Tryz.ntmps132
  go_wp2_with fail
  refine HC.out.mono ?_
  rintro e w1 hr
  have HG := hid hr.grown
  have hsz := hr.grown.size
  cases hp : pCount most bs with
  | none =>
    obtain rfl := hr.of_none hp
    have HP : Hid (pList most pNum bs = none) := hid (by unfold pList; rw [hp]; rfl)
    clear hr hp HC
    go_wp2
    exact ⟨rfl, Ret.no HP.out HG.out⟩
  | some x =>
    obtain ⟨n, r⟩ := x
    obtain ⟨v, rfl, hR, hO⟩ := hr.of_some hp
    have hn := pCount_le hp
    have hn2 : n ≤ 1000 := by omega
    obtain rfl := hO.now
    have HP : Hid (pList most pNum bs = pMany pNum n r) := hid (by unfold pList; rw [hp]; rfl)
    have hgl := hR.lt
    have HR := hid hR
    clear hr hp HC hR hO hn hm
    go_wp2_with (at_make; refine wpList_make_full _ rfl _ _ 35 rfl w1.heap.size 3 i0 (.int .i64 0) 1 Tryz.underlying35 hi hz0 hz1 .i64 .i64 n n n rfl rfl rfl rfl (by rw [hz2]; omega) (by unfold maxLen; omega) (Nat.le_refl _) ?_; intro w2 hown hgr; have HO := hid hown; have HB2 := hid (show Below w1.heap.size w1 w2 from ⟨hgr.os, hgr.tape, hgr.output, hgr.size, fun k hk => hgr.block k hk (by simp)⟩); clear hown hgr)
    have HG2 := hid (grown_up HG.out HB2.out)
    have HR2 := hid (HR.out.on (HB2.out.mono (by omega)))
    obtain ⟨k, hk⟩ : ∃ k, w1.heap.size = k := ⟨_, rfl⟩
    rw [hk] at HO HB2 hgl hsz
    simp only [hk]
    go_loopw [15] (fun v wr => ∃ i : Nat, i ≤ n ∧ v = .int .i64 i ∧ Fill 3 1 k n g IntC pNum r wr i ∧ w.grownBy wr (some g)) (fun v _ => n - (intOf v).toNat)
    case atStart => exact ⟨0, by omega, rfl, ⟨[], _, r, rfl, HR2.out, by cases pMany pNum n r <;> simp, HO.out, Own.all fun W => by simp [IntC]⟩, HG2.out⟩
    case round =>
      obtain ⟨i, hin, rfl, hF, hgw⟩ := hrel
      obtain ⟨xs, L, r', hxl, hRr, hpm, hown, hOC⟩ := hF
      by_cases hlt : i < n
      · have hlt2 : (i : Int) < (n : Int) := by omega
        have HIt := hid (HI.out r' wr hRr)
        have HF := hid (And.intro hpm (And.intro hown hOC))
        have HXL := hid hxl
        have HGW := hid hgw
        have hkl : k < wr.heap.size := by
          have := World.ownsRow.lt hown k rfl
          omega
        clear hpm hown hOC hxl hgw hRr
        go_wp2_with fail
        refine HIt.out.mono ?_
        rintro e w3 hr3
        have HG3 := hid (grown_on HGW.out hr3.grown)
        cases hp3 : pNum r' with
        | none =>
          obtain rfl := hr3.of_none hp3
          have HP3 := hid (HP.out.trans (pMany_stop HF.out.1 hlt hp3))
          clear hr3 hp3 HIt
          go_wp2
          exact ⟨rfl, Ret.no HP3.out HG3.out⟩
        | some x3 =>
          obtain ⟨x, r3⟩ := x3
          obtain ⟨v3, rfl, hR3, hO3⟩ := hr3.of_some hp3
          have HPM := hid (pMany_step HF.out.1 hlt hp3)
          have hup := Up.of_grown (B := k + 1) hr3.grown (fun q e => by injection e with e; omega)
          have hown3 := own_upto HF.out.2.1 (Up.of_grown (B := k) hr3.grown (fun q e => by injection e with e; omega)) (Nat.le_refl _)
          have HOC3 := hid (HF.out.2.2.step hup)
          have fz0 := frozen_own hown3 i
          obtain ⟨z0, cz0⟩ := own_has hown3 i (by omega)
          have HO3 := hid (hO3.base (B' := k + 1) (by omega))
          have HR3 := hid hR3
          have HOW := hid hown3
          obtain rfl := hO3.now
          clear hr3 hp3 HIt hup hown3 hR3 hO3 HF
          go_wp2
          go_roundw
          case rel =>
            refine ⟨i + 1, by omega, by simp, ?_, grown_new HG3.out hsz (set_by _ _ _ _)⟩
            have := Fill.put (size := 1) (us := [.int .i64 x]) rfl hlt HXL.out hgl HR3.out HPM.out HOW.out HOC3.out (HO3.out.imp fun W h => by simp [IntC]) (fun h1 h2 => by unfold IntC at *; rw [h1, h2, List.map_append])
            rw [Nat.mul_one] at this
            exact this
          case measure => simp [intOf]; omega
      · obtain rfl : i = n := by omega
        have HRr := hid hRr
        have HGW := hid hgw
        have HPD := hid (HP.out.trans (pMany_done hpm))
        have HF := hid (And.intro hown (And.intro hOC hxl))
        clear hRr hpm hown hOC hgw hxl
        go_wp2
        go_ret
        refine Ret.yes HPD.out HGW.out HRr.out (fun W hu => ?_)
        have h1 := own_upto HF.out.1 hu hsz
        have h2 := HF.out.2.1 W (hu.mono (by omega))
        rw [List.take_of_length_le (by rw [h1.1]; exact Nat.le_refl _)] at h2
        exact ints_own h1 h2 HF.out.2.2 (by omega)

end Go.Proofs.YtohgaknojkdohaaGreatDoor

/- What is read: parts, styles, rules, words, locales, and rows of each. -/
namespace Go.Proofs.YtohgaknojkdohaaGreatDoor
open Go.RowKit Gr

def PartV (_ : World) (v : Value) (x : Part) : Prop := v = partV x
def EntryV (_ : World) (v : Value) (x : Entry) : Prop := v = entryV x
def StyleV (W : World) (v : Value) (x : Style) : Prop := ∃ v0, v = styleV x v0 ∧ PartsAt W v0 x.parts
def RuleV (W : World) (v : Value) (x : Rule) : Prop := ∃ v0 v1, v = ruleV x v0 v1 ∧ Row W v0 x.rhs ∧ Row W v1 x.p
def LocaleV (W : World) (v : Value) (x : Locale) : Prop := ∃ v0 v1 v2, v = localeV x v0 v1 v2 ∧ EntriesAt W v0 x.lex ∧ RulesOk W v1 x.rules ∧ StylesAt W v2 x.styles

set_option maxRecDepth 8000 in
theorem rdpart_any (g : Nat) (bs : List Int) (w : World) (h : Rd w g bs) :
    Calls Tryz.prog 134 #[.pointer (some ⟨g, 0, none⟩)] w (Ret g w PartV (pPart bs)) := by
  have hgl := h.lt
  have HR0 := hid (h.on ((up_alloc w (.cells #[.int .i64 0, .string ⟨#[]⟩, .int .i64 0, .int .i64 0, .int .i64 0] 48)).mono (by omega)))
  have HG0 : Hid (w.grownBy (w.alloc (.cells #[.int .i64 0, .string ⟨#[]⟩, .int .i64 0, .int .i64 0, .int .i64 0] 48)) (some g)) := hid (grown_up (World.grownBy.refl _ _) (up_alloc _ _))
  have HX0 := hid (row_new w (.cells #[.int .i64 0, .string ⟨#[]⟩, .int .i64 0, .int .i64 0, .int .i64 0] 48))
  have hs0 : w.heap.size < (w.alloc (.cells #[.int .i64 0, .string ⟨#[]⟩, .int .i64 0, .int .i64 0, .int .i64 0] 48)).heap.size := by simp
  obtain ⟨w0, hw0⟩ : ∃ w0, w0 = (w.alloc (.cells #[.int .i64 0, .string ⟨#[]⟩, .int .i64 0, .int .i64 0, .int .i64 0] 48)) := ⟨_, rfl⟩
  rw [← hw0] at HR0 HG0 HX0 hs0
  clear h
  have hmf : ∀ (fn : Fn) (first cap : Array Value) (w : World), (Instr.makeFunc fn first cap).run Tryz.prog w = .ok (.func fn first cap) w := fun _ _ _ _ => rfl
  go_enter Tryz.func134, Tryz.ntmps134
  go_wp2_with fail
  rw [← hw0]
  clear hw0
  refine (rnumber_any g bs w0 HR0.out).mono ?_
  rintro e w1 hr
  have HG1 := hid (grown_on HG0.out hr.grown)
  have hs1 : w.heap.size < w1.heap.size := Nat.lt_of_lt_of_le hs0 hr.grown.size
  have HU1 := hid (Up.of_grown (B := w.heap.size) hr.grown (fun q e => by injection e with e; omega))
  cases hp0 : pNum bs with
  | none =>
    obtain rfl := hr.of_none hp0
    have HP : Hid (pPart bs = none) := hid (by unfold pPart; simp only [hp0, Option.bind_none])
    clear hr
    go_wp2
    exact ⟨rfl, Ret.no HP.out HG1.out⟩
  | some y =>
    obtain ⟨x0, r0⟩ := y
    obtain ⟨z0, rfl, hR, hO⟩ := hr.of_some hp0
    have HR1 := hid hR
    obtain rfl := hO.now
    clear hr hR hO
    go_wp2_with fail
    refine (rtexts_any 20 (by decide) g r0 w1 HR1.out).mono ?_
    rintro e w2 hr
    have HG2 := hid (grown_on HG1.out hr.grown)
    have hs2 : w.heap.size < w2.heap.size := Nat.lt_of_lt_of_le hs1 hr.grown.size
    have HU2 := hid (Up.of_grown (B := w.heap.size) hr.grown (fun q e => by injection e with e; omega))
    cases hp1 : pText 20 r0 with
    | none =>
      obtain rfl := hr.of_none hp1
      have HP : Hid (pPart bs = none) := hid (by unfold pPart; simp only [hp0, hp1, Option.bind_some, Option.bind_none])
      clear hr
      go_wp2
      exact ⟨rfl, Ret.no HP.out HG2.out⟩
    | some y =>
      obtain ⟨x1, r1⟩ := y
      obtain ⟨z1, rfl, hR, hO⟩ := hr.of_some hp1
      have HR2 := hid hR
      obtain rfl := hO.now
      clear hr hR hO
      go_wp2_with fail
      refine (rnumber_any g r1 w2 HR2.out).mono ?_
      rintro e w3 hr
      have HG3 := hid (grown_on HG2.out hr.grown)
      have hs3 : w.heap.size < w3.heap.size := Nat.lt_of_lt_of_le hs2 hr.grown.size
      have HU3 := hid (Up.of_grown (B := w.heap.size) hr.grown (fun q e => by injection e with e; omega))
      cases hp2 : pNum r1 with
      | none =>
        obtain rfl := hr.of_none hp2
        have HP : Hid (pPart bs = none) := hid (by unfold pPart; simp only [hp0, hp1, hp2, Option.bind_some, Option.bind_none])
        clear hr
        go_wp2
        exact ⟨rfl, Ret.no HP.out HG3.out⟩
      | some y =>
        obtain ⟨x2, r2⟩ := y
        obtain ⟨z2, rfl, hR, hO⟩ := hr.of_some hp2
        have HR3 := hid hR
        obtain rfl := hO.now
        clear hr hR hO
        go_wp2_with fail
        refine (rnumber_any g r2 w3 HR3.out).mono ?_
        rintro e w4 hr
        have HG4 := hid (grown_on HG3.out hr.grown)
        have hs4 : w.heap.size < w4.heap.size := Nat.lt_of_lt_of_le hs3 hr.grown.size
        have HU4 := hid (Up.of_grown (B := w.heap.size) hr.grown (fun q e => by injection e with e; omega))
        cases hp3 : pNum r2 with
        | none =>
          obtain rfl := hr.of_none hp3
          have HP : Hid (pPart bs = none) := hid (by unfold pPart; simp only [hp0, hp1, hp2, hp3, Option.bind_some, Option.bind_none])
          clear hr
          go_wp2
          exact ⟨rfl, Ret.no HP.out HG4.out⟩
        | some y =>
          obtain ⟨x3, r3⟩ := y
          obtain ⟨z3, rfl, hR, hO⟩ := hr.of_some hp3
          have HR4 := hid hR
          obtain rfl := hO.now
          clear hr hR hO
          go_wp2_with fail
          refine (rnumber_any g r3 w4 HR4.out).mono ?_
          rintro e w5 hr
          have HG5 := hid (grown_on HG4.out hr.grown)
          have hs5 : w.heap.size < w5.heap.size := Nat.lt_of_lt_of_le hs4 hr.grown.size
          have HU5 := hid (Up.of_grown (B := w.heap.size) hr.grown (fun q e => by injection e with e; omega))
          cases hp4 : pNum r3 with
          | none =>
            obtain rfl := hr.of_none hp4
            have HP : Hid (pPart bs = none) := hid (by unfold pPart; simp only [hp0, hp1, hp2, hp3, hp4, Option.bind_some, Option.bind_none])
            clear hr
            go_wp2
            exact ⟨rfl, Ret.no HP.out HG5.out⟩
          | some y =>
            obtain ⟨x4, r4⟩ := y
            obtain ⟨z4, rfl, hR, hO⟩ := hr.of_some hp4
            have HR5 := hid hR
            obtain rfl := hO.now
            clear hr hR hO
            have hX := ((HU5.out.block _ (Nat.le_refl _) hs4).trans ((HU4.out.block _ (Nat.le_refl _) hs3).trans ((HU3.out.block _ (Nat.le_refl _) hs2).trans ((HU2.out.block _ (Nat.le_refl _) hs1).trans ((HU1.out.block _ (Nat.le_refl _) hs0).trans HX0.out)))))
            have HX := hid hX
            have c0 : w5.cell? ⟨w.heap.size, 0, none⟩ = some (.int .i64 0) := by rw [cell_of_row _ _ _ _ _ _ hX]; rfl
            have f0 : w5.frozen? ⟨w.heap.size, 0, none⟩ = false := frozen_of_row _ _ _ _ _ hX
            have c1 : w5.cell? ⟨w.heap.size, 1, none⟩ = some (.string ⟨#[]⟩) := by rw [cell_of_row _ _ _ _ _ _ hX]; rfl
            have f1 : w5.frozen? ⟨w.heap.size, 1, none⟩ = false := frozen_of_row _ _ _ _ _ hX
            have c2 : w5.cell? ⟨w.heap.size, 2, none⟩ = some (.int .i64 0) := by rw [cell_of_row _ _ _ _ _ _ hX]; rfl
            have f2 : w5.frozen? ⟨w.heap.size, 2, none⟩ = false := frozen_of_row _ _ _ _ _ hX
            have c3 : w5.cell? ⟨w.heap.size, 3, none⟩ = some (.int .i64 0) := by rw [cell_of_row _ _ _ _ _ _ hX]; rfl
            have f3 : w5.frozen? ⟨w.heap.size, 3, none⟩ = false := frozen_of_row _ _ _ _ _ hX
            have c4 : w5.cell? ⟨w.heap.size, 4, none⟩ = some (.int .i64 0) := by rw [cell_of_row _ _ _ _ _ _ hX]; rfl
            have f4 : w5.frozen? ⟨w.heap.size, 4, none⟩ = false := frozen_of_row _ _ _ _ _ hX
            have HP : Hid (pPart bs = some (⟨x0, x1, x2, x3, x4⟩, r4)) := hid (by unfold pPart; simp only [hp0, hp1, hp2, hp3, hp4, Option.bind_some])
            clear hX hp0 hp1 hp2 hp3 hp4
            go_wp2
            refine bodyPost_ret (v := partV ⟨x0, x1, x2, x3, x4⟩) (results_cell_row rfl _ _ w.heap.size 48 _ (0, 0) _ rfl (heap_setCell_same _ _ 4 _ _ _ (heap_setCell_same _ _ 3 _ _ _ (heap_setCell_same _ _ 2 _ _ _ (heap_setCell_same _ _ 1 _ _ _ (heap_setCell_same _ _ 0 _ _ _ HX.out))))) Tryz.underlying48 rfl (by kernel_rfl)) rfl ?_
            have hpg : w5.grownBy (putL w5 w.heap.size 0 [.int .i64 x0, .string x1, .int .i64 x2, .int .i64 x3, .int .i64 x4]) (some w.heap.size) := grown_all _ _ _ _
            refine Ret.yes HP.out (grown_new HG5.out (Nat.le_refl _) hpg) (HR5.out.on ⟨hpg.os, hpg.tape, hpg.output, hpg.size, fun q hq => hpg.block q (by omega) (fun e => by injection e with e; omega)⟩) ?_
            exact Own.all fun W => rfl

set_option maxRecDepth 8000 in
theorem get_Part (most : Int) (hm : most ≤ 1000) (g : Nat) (bs : List Int) (w : World) (h : Rd w g bs) :
    Calls Tryz.prog 133 #[.pointer (some ⟨g, 0, none⟩), .int .i64 most, .func (.func 134) #[.pointer (some ⟨g, 0, none⟩)] #[]] w (Ret g w PartsAt (pList most pPart bs)) := by
  have HC := hid (count_any most g bs w h)
  have HI := hid (fun bs w h => rdpart_any g bs w h)
  clear h
  obtain ⟨i0, hi, hz0, hz1, hz2⟩ := info_parts info_Part
  go_enter Tryz.func133, Tryz.ntmps133
  go_wp2_with fail
  refine HC.out.mono ?_
  rintro e w1 hr
  have HG := hid hr.grown
  have hsz := hr.grown.size
  cases hp : pCount most bs with
  | none =>
    obtain rfl := hr.of_none hp
    have HP : Hid (pList most pPart bs = none) := hid (by unfold pList; rw [hp]; rfl)
    clear hr hp HC
    go_wp2
    exact ⟨rfl, Ret.no HP.out HG.out⟩
  | some x =>
    obtain ⟨n, r⟩ := x
    obtain ⟨v, rfl, hR, hO⟩ := hr.of_some hp
    have hn := pCount_le hp
    have hn2 : n ≤ 1000 := by omega
    obtain rfl := hO.now
    have HP : Hid (pList most pPart bs = pMany pPart n r) := hid (by unfold pList; rw [hp]; rfl)
    have hgl := hR.lt
    have HR := hid hR
    clear hr hp HC hR hO hn hm
    go_wp2_with (at_make; refine wpList_make_full _ rfl _ _ 50 rfl w1.heap.size 48 i0 (.agg #[.int .i64 0, .string ⟨#[]⟩, .int .i64 0, .int .i64 0, .int .i64 0]) 5 Tryz.underlying50 hi hz0 hz1 .i64 .i64 n n n rfl rfl rfl rfl (by rw [hz2]; omega) (by unfold maxLen; omega) (Nat.le_refl _) ?_; intro w2 hown hgr; have HO := hid hown; have HB2 := hid (show Below w1.heap.size w1 w2 from ⟨hgr.os, hgr.tape, hgr.output, hgr.size, fun k hk => hgr.block k hk (by simp)⟩); clear hown hgr)
    have HG2 := hid (grown_up HG.out HB2.out)
    have HR2 := hid (HR.out.on (HB2.out.mono (by omega)))
    obtain ⟨k, hk⟩ : ∃ k, w1.heap.size = k := ⟨_, rfl⟩
    rw [hk] at HO HB2 hgl hsz
    simp only [hk]
    go_loopw [15] (fun v wr => ∃ i : Nat, i ≤ n ∧ v = .int .i64 i ∧ Fill 48 5 k n g PartC pPart r wr i ∧ w.grownBy wr (some g)) (fun v _ => n - (intOf v).toNat)
    case atStart => exact ⟨0, by omega, rfl, ⟨[], _, r, rfl, HR2.out, by cases pMany pPart n r <;> simp, HO.out, Own.all fun W => by rw [Nat.zero_mul]; exact PartC.nil W⟩, HG2.out⟩
    case round =>
      obtain ⟨i, hin, rfl, hF, hgw⟩ := hrel
      obtain ⟨xs, L, r', hxl, hRr, hpm, hown, hOC⟩ := hF
      by_cases hlt : i < n
      · have hlt2 : (i : Int) < (n : Int) := by omega
        have HIt := hid (HI.out r' wr hRr)
        have HF := hid (And.intro hpm (And.intro hown hOC))
        have HXL := hid hxl
        have HGW := hid hgw
        have hkl : k < wr.heap.size := by
          have := World.ownsRow.lt hown k rfl
          omega
        clear hpm hown hOC hxl hgw hRr
        go_wp2_with fail
        refine HIt.out.mono ?_
        rintro e w3 hr3
        have HG3 := hid (grown_on HGW.out hr3.grown)
        cases hp3 : pPart r' with
        | none =>
          obtain rfl := hr3.of_none hp3
          have HP3 := hid (HP.out.trans (pMany_stop HF.out.1 hlt hp3))
          clear hr3 hp3 HIt
          go_wp2
          exact ⟨rfl, Ret.no HP3.out HG3.out⟩
        | some x3 =>
          obtain ⟨x, r3⟩ := x3
          obtain ⟨v3, rfl, hR3, hO3⟩ := hr3.of_some hp3
          have HPM := hid (pMany_step HF.out.1 hlt hp3)
          have hup := Up.of_grown (B := k + 1) hr3.grown (fun q e => by injection e with e; omega)
          have hown3 := own_upto HF.out.2.1 (Up.of_grown (B := k) hr3.grown (fun q e => by injection e with e; omega)) (Nat.le_refl _)
          have HOC3 := hid (HF.out.2.2.step hup)
          have fz0 := frozen_own hown3 (i * 5)
          obtain ⟨z0, cz0⟩ := own_has hown3 (i * 5) (by omega)
          have fz1 := frozen_own hown3 (i * 5 + 1)
          obtain ⟨z1, cz1⟩ := own_has hown3 (i * 5 + 1) (by omega)
          have fz2 := frozen_own hown3 (i * 5 + 2)
          obtain ⟨z2, cz2⟩ := own_has hown3 (i * 5 + 2) (by omega)
          have fz3 := frozen_own hown3 (i * 5 + 3)
          obtain ⟨z3, cz3⟩ := own_has hown3 (i * 5 + 3) (by omega)
          have fz4 := frozen_own hown3 (i * 5 + 4)
          obtain ⟨z4, cz4⟩ := own_has hown3 (i * 5 + 4) (by omega)
          have HO3 := hid (hO3.base (B' := k + 1) (by omega))
          have HR3 := hid hR3
          have HOW := hid hown3
          obtain rfl := hO3.now
          unfold partV
          clear hr3 hp3 HIt hup hown3 hR3 hO3 HF
          go_wp2
          go_roundw
          case rel =>
            refine ⟨i + 1, by omega, by simp, ?_, grown_new HG3.out hsz (putL_own [.int .i64 x.kind, .string x.text, .int .i64 x.field, .int .i64 x.width, .int .i64 x.cls] _ _ (i * 5) HOW.out).2⟩
            have := Fill.put (size := 5) (us := [.int .i64 x.kind, .string x.text, .int .i64 x.field, .int .i64 x.width, .int .i64 x.cls]) rfl hlt HXL.out hgl HR3.out HPM.out HOW.out HOC3.out (Own.all fun W => PartC.one W x) (fun h1 h2 => PartC.append h1 h2)
            exact this
          case measure => simp [intOf]; omega
      · obtain rfl : i = n := by omega
        have HRr := hid hRr
        have HGW := hid hgw
        have HPD := hid (HP.out.trans (pMany_done hpm))
        have HF := hid (And.intro hown (And.intro hOC hxl))
        clear hRr hpm hown hOC hgw hxl
        go_wp2
        go_ret
        refine Ret.yes HPD.out HGW.out HRr.out (fun W hu => ?_)
        have h1 := own_upto HF.out.1 hu hsz
        have h2 := HF.out.2.1 W (hu.mono (by omega))
        rw [List.take_of_length_le (by rw [h1.1]; exact Nat.le_refl _)] at h2
        have hx := HF.out.2.2
        have h3 := Parts_own (xs := xs) (by rw [hx]; exact h1) h2 (by omega)
        exact h3

set_option maxRecDepth 8000 in
theorem rdstyle_any (g : Nat) (bs : List Int) (w : World) (h : Rd w g bs) :
    Calls Tryz.prog 105 #[.pointer (some ⟨g, 0, none⟩)] w (Ret g w StyleV (pStyle bs)) := by
  have hgl := h.lt
  have HR0 := hid (h.on ((up_alloc w (.cells #[.int .i64 0, .slice none 0 0] 52)).mono (by omega)))
  have HG0 : Hid (w.grownBy (w.alloc (.cells #[.int .i64 0, .slice none 0 0] 52)) (some g)) := hid (grown_up (World.grownBy.refl _ _) (up_alloc _ _))
  have HX0 := hid (row_new w (.cells #[.int .i64 0, .slice none 0 0] 52))
  have hs0 : w.heap.size < (w.alloc (.cells #[.int .i64 0, .slice none 0 0] 52)).heap.size := by simp
  obtain ⟨w0, hw0⟩ : ∃ w0, w0 = (w.alloc (.cells #[.int .i64 0, .slice none 0 0] 52)) := ⟨_, rfl⟩
  rw [← hw0] at HR0 HG0 HX0 hs0
  clear h
  have hmf : ∀ (fn : Fn) (first cap : Array Value) (w : World), (Instr.makeFunc fn first cap).run Tryz.prog w = .ok (.func fn first cap) w := fun _ _ _ _ => rfl
  go_enter Tryz.func105, Tryz.ntmps105
  go_wp2_with fail
  rw [← hw0]
  clear hw0
  refine (rnumber_any g bs w0 HR0.out).mono ?_
  rintro e w1 hr
  have HG1 := hid (grown_on HG0.out hr.grown)
  have hs1 : w.heap.size < w1.heap.size := Nat.lt_of_lt_of_le hs0 hr.grown.size
  have HU1 := hid (Up.of_grown (B := w.heap.size) hr.grown (fun q e => by injection e with e; omega))
  cases hp0 : pNum bs with
  | none =>
    obtain rfl := hr.of_none hp0
    have HP : Hid (pStyle bs = none) := hid (by unfold pStyle; simp only [hp0, Option.bind_none])
    clear hr
    go_wp2
    exact ⟨rfl, Ret.no HP.out HG1.out⟩
  | some y =>
    obtain ⟨x0, r0⟩ := y
    obtain ⟨z0, rfl, hR, hO⟩ := hr.of_some hp0
    have HR1 := hid hR
    obtain rfl := hO.now
    clear hr hR hO
    go_wp2_with fail
    refine (get_Part 12 (by decide) g r0 w1 HR1.out).mono ?_
    rintro e w2 hr
    have HG2 := hid (grown_on HG1.out hr.grown)
    have hs2 : w.heap.size < w2.heap.size := Nat.lt_of_lt_of_le hs1 hr.grown.size
    have HU2 := hid (Up.of_grown (B := w.heap.size) hr.grown (fun q e => by injection e with e; omega))
    cases hp1 : pList 12 pPart r0 with
    | none =>
      obtain rfl := hr.of_none hp1
      have HP : Hid (pStyle bs = none) := hid (by unfold pStyle; simp only [hp0, hp1, Option.bind_some, Option.bind_none])
      clear hr
      go_wp2
      exact ⟨rfl, Ret.no HP.out HG2.out⟩
    | some y =>
      obtain ⟨x1, r1⟩ := y
      obtain ⟨z1, rfl, hR, hO⟩ := hr.of_some hp1
      have HR2 := hid hR
      have HO1 := hid (hO.base (B' := w.heap.size + 1) (by omega))
      obtain ⟨ad1, cap1, es1, _⟩ := hO.now.shape
      generalize hm1 : x1.length = m1 at es1
      clear hm1
      subst es1
      clear hr hR hO
      have hX := ((HU2.out.block _ (Nat.le_refl _) hs1).trans ((HU1.out.block _ (Nat.le_refl _) hs0).trans HX0.out))
      have HX := hid hX
      have c0 : w2.cell? ⟨w.heap.size, 0, none⟩ = some (.int .i64 0) := by rw [cell_of_row _ _ _ _ _ _ hX]; rfl
      have f0 : w2.frozen? ⟨w.heap.size, 0, none⟩ = false := frozen_of_row _ _ _ _ _ hX
      have c1 : w2.cell? ⟨w.heap.size, 1, none⟩ = some (.slice none 0 0) := by rw [cell_of_row _ _ _ _ _ _ hX]; rfl
      have f1 : w2.frozen? ⟨w.heap.size, 1, none⟩ = false := frozen_of_row _ _ _ _ _ hX
      have HP : Hid (pStyle bs = some (⟨x0, x1⟩, r1)) := hid (by unfold pStyle; simp only [hp0, hp1, Option.bind_some])
      have HQ1 := hid HO1.out
      clear hX hp0 hp1
      go_wp2
      refine bodyPost_ret (v := styleV ⟨x0, x1⟩ (.slice ad1 m1 cap1)) (results_cell_row rfl _ _ w.heap.size 52 _ (0, 0) _ rfl (heap_setCell_same _ _ 1 _ _ _ (heap_setCell_same _ _ 0 _ _ _ HX.out)) Tryz.underlying52 rfl (by kernel_rfl)) rfl ?_
      have hpg : w2.grownBy (putL w2 w.heap.size 0 [.int .i64 x0, .slice ad1 m1 cap1]) (some w.heap.size) := grown_all _ _ _ _
      refine Ret.yes HP.out (grown_new HG2.out (Nat.le_refl _) hpg) (HR2.out.on ⟨hpg.os, hpg.tape, hpg.output, hpg.size, fun q hq => hpg.block q (by omega) (fun e => by injection e with e; omega)⟩) ?_
      have hup : Up (w.heap.size + 1) w2 (putL w2 w.heap.size 0 [.int .i64 x0, .slice ad1 m1 cap1]) := Up.of_grown hpg (fun q e => by injection e with e; omega)
      exact fun W hu => ⟨_, rfl, HQ1.out W (hup.trans (hu.mono (Nat.le_succ _)))⟩

set_option maxRecDepth 8000 in
theorem get_Style (most : Int) (hm : most ≤ 1000) (g : Nat) (bs : List Int) (w : World) (h : Rd w g bs) :
    Calls Tryz.prog 104 #[.pointer (some ⟨g, 0, none⟩), .int .i64 most, .func (.func 105) #[.pointer (some ⟨g, 0, none⟩)] #[]] w (Ret g w StylesAt (pList most pStyle bs)) := by
  have HC := hid (count_any most g bs w h)
  have HI := hid (fun bs w h => rdstyle_any g bs w h)
  clear h
  obtain ⟨i0, hi, hz0, hz1, hz2⟩ := info_parts info_Style
  go_enter Tryz.func104, Tryz.ntmps104
  go_wp2_with fail
  refine HC.out.mono ?_
  rintro e w1 hr
  have HG := hid hr.grown
  have hsz := hr.grown.size
  cases hp : pCount most bs with
  | none =>
    obtain rfl := hr.of_none hp
    have HP : Hid (pList most pStyle bs = none) := hid (by unfold pList; rw [hp]; rfl)
    clear hr hp HC
    go_wp2
    exact ⟨rfl, Ret.no HP.out HG.out⟩
  | some x =>
    obtain ⟨n, r⟩ := x
    obtain ⟨v, rfl, hR, hO⟩ := hr.of_some hp
    have hn := pCount_le hp
    have hn2 : n ≤ 1000 := by omega
    obtain rfl := hO.now
    have HP : Hid (pList most pStyle bs = pMany pStyle n r) := hid (by unfold pList; rw [hp]; rfl)
    have hgl := hR.lt
    have HR := hid hR
    clear hr hp HC hR hO hn hm
    go_wp2_with (at_make; refine wpList_make_full _ rfl _ _ 42 rfl w1.heap.size 52 i0 (.agg #[.int .i64 0, .slice none 0 0]) 2 Tryz.underlying42 hi hz0 hz1 .i64 .i64 n n n rfl rfl rfl rfl (by rw [hz2]; omega) (by unfold maxLen; omega) (Nat.le_refl _) ?_; intro w2 hown hgr; have HO := hid hown; have HB2 := hid (show Below w1.heap.size w1 w2 from ⟨hgr.os, hgr.tape, hgr.output, hgr.size, fun k hk => hgr.block k hk (by simp)⟩); clear hown hgr)
    have HG2 := hid (grown_up HG.out HB2.out)
    have HR2 := hid (HR.out.on (HB2.out.mono (by omega)))
    obtain ⟨k, hk⟩ : ∃ k, w1.heap.size = k := ⟨_, rfl⟩
    rw [hk] at HO HB2 hgl hsz
    simp only [hk]
    go_loopw [15] (fun v wr => ∃ i : Nat, i ≤ n ∧ v = .int .i64 i ∧ Fill 52 2 k n g StyleC pStyle r wr i ∧ w.grownBy wr (some g)) (fun v _ => n - (intOf v).toNat)
    case atStart => exact ⟨0, by omega, rfl, ⟨[], _, r, rfl, HR2.out, by cases pMany pStyle n r <;> simp, HO.out, Own.all fun W => by rw [Nat.zero_mul]; exact StyleC.nil W⟩, HG2.out⟩
    case round =>
      obtain ⟨i, hin, rfl, hF, hgw⟩ := hrel
      obtain ⟨xs, L, r', hxl, hRr, hpm, hown, hOC⟩ := hF
      by_cases hlt : i < n
      · have hlt2 : (i : Int) < (n : Int) := by omega
        have HIt := hid (HI.out r' wr hRr)
        have HF := hid (And.intro hpm (And.intro hown hOC))
        have HXL := hid hxl
        have HGW := hid hgw
        have hkl : k < wr.heap.size := by
          have := World.ownsRow.lt hown k rfl
          omega
        clear hpm hown hOC hxl hgw hRr
        go_wp2_with fail
        refine HIt.out.mono ?_
        rintro e w3 hr3
        have HG3 := hid (grown_on HGW.out hr3.grown)
        cases hp3 : pStyle r' with
        | none =>
          obtain rfl := hr3.of_none hp3
          have HP3 := hid (HP.out.trans (pMany_stop HF.out.1 hlt hp3))
          clear hr3 hp3 HIt
          go_wp2
          exact ⟨rfl, Ret.no HP3.out HG3.out⟩
        | some x3 =>
          obtain ⟨x, r3⟩ := x3
          obtain ⟨v3, rfl, hR3, hO3⟩ := hr3.of_some hp3
          have HPM := hid (pMany_step HF.out.1 hlt hp3)
          have hup := Up.of_grown (B := k + 1) hr3.grown (fun q e => by injection e with e; omega)
          have hown3 := own_upto HF.out.2.1 (Up.of_grown (B := k) hr3.grown (fun q e => by injection e with e; omega)) (Nat.le_refl _)
          have HOC3 := hid (HF.out.2.2.step hup)
          have fz0 := frozen_own hown3 (i * 2)
          obtain ⟨z0, cz0⟩ := own_has hown3 (i * 2) (by omega)
          have fz1 := frozen_own hown3 (i * 2 + 1)
          obtain ⟨z1, cz1⟩ := own_has hown3 (i * 2 + 1) (by omega)
          have HO3 := hid (hO3.base (B' := k + 1) (by omega))
          have HR3 := hid hR3
          have HOW := hid hown3
          obtain ⟨v0, rfl, q0⟩ := hO3.now
          obtain ⟨ad0, cap0, es0, _⟩ := q0.shape
          have HVW : Hid (Own (k + 1) w3 (fun W => StyleC W [.int .i64 x.kind, v0] [x])) := hid (HO3.out.imp fun W h => by
            obtain ⟨u0, e, a0⟩ := h
            unfold styleV at e
            simp only [Value.agg.injEq, Array.mk.injEq, List.cons.injEq, and_true, true_and] at e
            subst e
            exact StyleC.one W x _ a0 (at_oneCellPartsAt a0))
          clear HO3
          generalize x.parts.length = m0 at es0
          subst es0
          clear q0
          unfold styleV
          clear hr3 hp3 HIt hup hown3 hR3 hO3 HF
          go_wp2
          go_roundw
          case rel =>
            refine ⟨i + 1, by omega, by simp, ?_, grown_new HG3.out hsz (putL_own [.int .i64 x.kind, .slice ad0 m0 cap0] _ _ (i * 2) HOW.out).2⟩
            have := Fill.put (size := 2) (us := [.int .i64 x.kind, .slice ad0 m0 cap0]) rfl hlt HXL.out hgl HR3.out HPM.out HOW.out HOC3.out HVW.out (fun h1 h2 => StyleC.append h1 h2)
            exact this
          case measure => simp [intOf]; omega
      · obtain rfl : i = n := by omega
        have HRr := hid hRr
        have HGW := hid hgw
        have HPD := hid (HP.out.trans (pMany_done hpm))
        have HF := hid (And.intro hown (And.intro hOC hxl))
        clear hRr hpm hown hOC hgw hxl
        go_wp2
        go_ret
        refine Ret.yes HPD.out HGW.out HRr.out (fun W hu => ?_)
        have h1 := own_upto HF.out.1 hu hsz
        have h2 := HF.out.2.1 W (hu.mono (by omega))
        rw [List.take_of_length_le (by rw [h1.1]; exact Nat.le_refl _)] at h2
        have hx := HF.out.2.2
        have h3 := Styles_own (xs := xs) (by rw [hx]; exact h1) h2 (by omega)
        exact h3

set_option maxRecDepth 8000 in
theorem rdrule_any (g : Nat) (bs : List Int) (w : World) (h : Rd w g bs) :
    Calls Tryz.prog 103 #[.pointer (some ⟨g, 0, none⟩)] w (Ret g w RuleV (pRule bs)) := by
  have hgl := h.lt
  have HR0 := hid (h.on ((up_alloc w (.cells #[.int .i64 0, .slice none 0 0, .int .i64 0, .slice none 0 0, .int .i64 0] 56)).mono (by omega)))
  have HG0 : Hid (w.grownBy (w.alloc (.cells #[.int .i64 0, .slice none 0 0, .int .i64 0, .slice none 0 0, .int .i64 0] 56)) (some g)) := hid (grown_up (World.grownBy.refl _ _) (up_alloc _ _))
  have HX0 := hid (row_new w (.cells #[.int .i64 0, .slice none 0 0, .int .i64 0, .slice none 0 0, .int .i64 0] 56))
  have hs0 : w.heap.size < (w.alloc (.cells #[.int .i64 0, .slice none 0 0, .int .i64 0, .slice none 0 0, .int .i64 0] 56)).heap.size := by simp
  obtain ⟨w0, hw0⟩ : ∃ w0, w0 = (w.alloc (.cells #[.int .i64 0, .slice none 0 0, .int .i64 0, .slice none 0 0, .int .i64 0] 56)) := ⟨_, rfl⟩
  rw [← hw0] at HR0 HG0 HX0 hs0
  clear h
  have hmf : ∀ (fn : Fn) (first cap : Array Value) (w : World), (Instr.makeFunc fn first cap).run Tryz.prog w = .ok (.func fn first cap) w := fun _ _ _ _ => rfl
  go_enter Tryz.func103, Tryz.ntmps103
  go_wp2_with fail
  rw [← hw0]
  clear hw0
  refine (rnumber_any g bs w0 HR0.out).mono ?_
  rintro e w1 hr
  have HG1 := hid (grown_on HG0.out hr.grown)
  have hs1 : w.heap.size < w1.heap.size := Nat.lt_of_lt_of_le hs0 hr.grown.size
  have HU1 := hid (Up.of_grown (B := w.heap.size) hr.grown (fun q e => by injection e with e; omega))
  cases hp0 : pNum bs with
  | none =>
    obtain rfl := hr.of_none hp0
    have HP : Hid (pRule bs = none) := hid (by unfold pRule; simp only [hp0, Option.bind_none])
    clear hr
    go_wp2
    exact ⟨rfl, Ret.no HP.out HG1.out⟩
  | some y =>
    obtain ⟨x0, r0⟩ := y
    obtain ⟨z0, rfl, hR, hO⟩ := hr.of_some hp0
    have HR1 := hid hR
    obtain rfl := hO.now
    clear hr hR hO
    go_wp2_with fail
    refine (get_int 6 (by decide) g r0 w1 HR1.out).mono ?_
    rintro e w2 hr
    have HG2 := hid (grown_on HG1.out hr.grown)
    have hs2 : w.heap.size < w2.heap.size := Nat.lt_of_lt_of_le hs1 hr.grown.size
    have HU2 := hid (Up.of_grown (B := w.heap.size) hr.grown (fun q e => by injection e with e; omega))
    cases hp1 : pList 6 pNum r0 with
    | none =>
      obtain rfl := hr.of_none hp1
      have HP : Hid (pRule bs = none) := hid (by unfold pRule; simp only [hp0, hp1, Option.bind_some, Option.bind_none])
      clear hr
      go_wp2
      exact ⟨rfl, Ret.no HP.out HG2.out⟩
    | some y =>
      obtain ⟨x1, r1⟩ := y
      obtain ⟨z1, rfl, hR, hO⟩ := hr.of_some hp1
      have HR2 := hid hR
      have HO1 := hid (hO.base (B' := w.heap.size + 1) (by omega))
      obtain ⟨ad1, cap1, es1, _⟩ := hO.now
      generalize hm1 : x1.length = m1 at es1
      clear hm1
      subst es1
      clear hr hR hO
      go_wp2_with fail
      refine (rnumber_any g r1 w2 HR2.out).mono ?_
      rintro e w3 hr
      have HG3 := hid (grown_on HG2.out hr.grown)
      have hs3 : w.heap.size < w3.heap.size := Nat.lt_of_lt_of_le hs2 hr.grown.size
      have HU3 := hid (Up.of_grown (B := w.heap.size) hr.grown (fun q e => by injection e with e; omega))
      cases hp2 : pNum r1 with
      | none =>
        obtain rfl := hr.of_none hp2
        have HP : Hid (pRule bs = none) := hid (by unfold pRule; simp only [hp0, hp1, hp2, Option.bind_some, Option.bind_none])
        clear hr
        go_wp2
        exact ⟨rfl, Ret.no HP.out HG3.out⟩
      | some y =>
        obtain ⟨x2, r2⟩ := y
        obtain ⟨z2, rfl, hR, hO⟩ := hr.of_some hp2
        have HR3 := hid hR
        obtain rfl := hO.now
        clear hr hR hO
        go_wp2_with fail
        refine (get_int 6 (by decide) g r2 w3 HR3.out).mono ?_
        rintro e w4 hr
        have HG4 := hid (grown_on HG3.out hr.grown)
        have hs4 : w.heap.size < w4.heap.size := Nat.lt_of_lt_of_le hs3 hr.grown.size
        have HU4 := hid (Up.of_grown (B := w.heap.size) hr.grown (fun q e => by injection e with e; omega))
        cases hp3 : pList 6 pNum r2 with
        | none =>
          obtain rfl := hr.of_none hp3
          have HP : Hid (pRule bs = none) := hid (by unfold pRule; simp only [hp0, hp1, hp2, hp3, Option.bind_some, Option.bind_none])
          clear hr
          go_wp2
          exact ⟨rfl, Ret.no HP.out HG4.out⟩
        | some y =>
          obtain ⟨x3, r3⟩ := y
          obtain ⟨z3, rfl, hR, hO⟩ := hr.of_some hp3
          have HR4 := hid hR
          have HO3 := hid (hO.base (B' := w.heap.size + 1) (by omega))
          obtain ⟨ad3, cap3, es3, _⟩ := hO.now
          generalize hm3 : x3.length = m3 at es3
          clear hm3
          subst es3
          clear hr hR hO
          go_wp2_with fail
          refine (rnumber_any g r3 w4 HR4.out).mono ?_
          rintro e w5 hr
          have HG5 := hid (grown_on HG4.out hr.grown)
          have hs5 : w.heap.size < w5.heap.size := Nat.lt_of_lt_of_le hs4 hr.grown.size
          have HU5 := hid (Up.of_grown (B := w.heap.size) hr.grown (fun q e => by injection e with e; omega))
          cases hp4 : pNum r3 with
          | none =>
            obtain rfl := hr.of_none hp4
            have HP : Hid (pRule bs = none) := hid (by unfold pRule; simp only [hp0, hp1, hp2, hp3, hp4, Option.bind_some, Option.bind_none])
            clear hr
            go_wp2
            exact ⟨rfl, Ret.no HP.out HG5.out⟩
          | some y =>
            obtain ⟨x4, r4⟩ := y
            obtain ⟨z4, rfl, hR, hO⟩ := hr.of_some hp4
            have HR5 := hid hR
            obtain rfl := hO.now
            clear hr hR hO
            have hX := ((HU5.out.block _ (Nat.le_refl _) hs4).trans ((HU4.out.block _ (Nat.le_refl _) hs3).trans ((HU3.out.block _ (Nat.le_refl _) hs2).trans ((HU2.out.block _ (Nat.le_refl _) hs1).trans ((HU1.out.block _ (Nat.le_refl _) hs0).trans HX0.out)))))
            have HX := hid hX
            have c0 : w5.cell? ⟨w.heap.size, 0, none⟩ = some (.int .i64 0) := by rw [cell_of_row _ _ _ _ _ _ hX]; rfl
            have f0 : w5.frozen? ⟨w.heap.size, 0, none⟩ = false := frozen_of_row _ _ _ _ _ hX
            have c1 : w5.cell? ⟨w.heap.size, 1, none⟩ = some (.slice none 0 0) := by rw [cell_of_row _ _ _ _ _ _ hX]; rfl
            have f1 : w5.frozen? ⟨w.heap.size, 1, none⟩ = false := frozen_of_row _ _ _ _ _ hX
            have c2 : w5.cell? ⟨w.heap.size, 2, none⟩ = some (.int .i64 0) := by rw [cell_of_row _ _ _ _ _ _ hX]; rfl
            have f2 : w5.frozen? ⟨w.heap.size, 2, none⟩ = false := frozen_of_row _ _ _ _ _ hX
            have c3 : w5.cell? ⟨w.heap.size, 3, none⟩ = some (.slice none 0 0) := by rw [cell_of_row _ _ _ _ _ _ hX]; rfl
            have f3 : w5.frozen? ⟨w.heap.size, 3, none⟩ = false := frozen_of_row _ _ _ _ _ hX
            have c4 : w5.cell? ⟨w.heap.size, 4, none⟩ = some (.int .i64 0) := by rw [cell_of_row _ _ _ _ _ _ hX]; rfl
            have f4 : w5.frozen? ⟨w.heap.size, 4, none⟩ = false := frozen_of_row _ _ _ _ _ hX
            have HP : Hid (pRule bs = some (⟨x0, x1, x2, x3, x4⟩, r4)) := hid (by unfold pRule; simp only [hp0, hp1, hp2, hp3, hp4, Option.bind_some])
            have HQ1 := hid (((HO1.out.step (HU3.out.mono (Nat.le_succ _))).step (HU4.out.mono (Nat.le_succ _))).step (HU5.out.mono (Nat.le_succ _)))
            have HQ3 := hid (HO3.out.step (HU5.out.mono (Nat.le_succ _)))
            clear hX hp0 hp1 hp2 hp3 hp4
            go_wp2
            refine bodyPost_ret (v := ruleV ⟨x0, x1, x2, x3, x4⟩ (.slice ad1 m1 cap1) (.slice ad3 m3 cap3)) (results_cell_row rfl _ _ w.heap.size 56 _ (0, 0) _ rfl (heap_setCell_same _ _ 4 _ _ _ (heap_setCell_same _ _ 3 _ _ _ (heap_setCell_same _ _ 2 _ _ _ (heap_setCell_same _ _ 1 _ _ _ (heap_setCell_same _ _ 0 _ _ _ HX.out))))) Tryz.underlying56 rfl (by kernel_rfl)) rfl ?_
            have hpg : w5.grownBy (putL w5 w.heap.size 0 [.int .i64 x0, .slice ad1 m1 cap1, .int .i64 x2, .slice ad3 m3 cap3, .int .i64 x4]) (some w.heap.size) := grown_all _ _ _ _
            refine Ret.yes HP.out (grown_new HG5.out (Nat.le_refl _) hpg) (HR5.out.on ⟨hpg.os, hpg.tape, hpg.output, hpg.size, fun q hq => hpg.block q (by omega) (fun e => by injection e with e; omega)⟩) ?_
            have hup : Up (w.heap.size + 1) w5 (putL w5 w.heap.size 0 [.int .i64 x0, .slice ad1 m1 cap1, .int .i64 x2, .slice ad3 m3 cap3, .int .i64 x4]) := Up.of_grown hpg (fun q e => by injection e with e; omega)
            exact fun W hu => ⟨_, _, rfl, HQ1.out W (hup.trans (hu.mono (Nat.le_succ _))), HQ3.out W (hup.trans (hu.mono (Nat.le_succ _)))⟩

set_option maxRecDepth 8000 in
theorem get_Rule (most : Int) (hm : most ≤ 1000) (g : Nat) (bs : List Int) (w : World) (h : Rd w g bs) :
    Calls Tryz.prog 102 #[.pointer (some ⟨g, 0, none⟩), .int .i64 most, .func (.func 103) #[.pointer (some ⟨g, 0, none⟩)] #[]] w (Ret g w RulesOk (pList most pRule bs)) := by
  have HC := hid (count_any most g bs w h)
  have HI := hid (fun bs w h => rdrule_any g bs w h)
  clear h
  obtain ⟨i0, hi, hz0, hz1, hz2⟩ := info_parts info_Rule
  go_enter Tryz.func102, Tryz.ntmps102
  go_wp2_with fail
  refine HC.out.mono ?_
  rintro e w1 hr
  have HG := hid hr.grown
  have hsz := hr.grown.size
  cases hp : pCount most bs with
  | none =>
    obtain rfl := hr.of_none hp
    have HP : Hid (pList most pRule bs = none) := hid (by unfold pList; rw [hp]; rfl)
    clear hr hp HC
    go_wp2
    exact ⟨rfl, Ret.no HP.out HG.out⟩
  | some x =>
    obtain ⟨n, r⟩ := x
    obtain ⟨v, rfl, hR, hO⟩ := hr.of_some hp
    have hn := pCount_le hp
    have hn2 : n ≤ 1000 := by omega
    obtain rfl := hO.now
    have HP : Hid (pList most pRule bs = pMany pRule n r) := hid (by unfold pList; rw [hp]; rfl)
    have hgl := hR.lt
    have HR := hid hR
    clear hr hp HC hR hO hn hm
    go_wp2_with (at_make; refine wpList_make_full _ rfl _ _ 41 rfl w1.heap.size 56 i0 (.agg #[.int .i64 0, .slice none 0 0, .int .i64 0, .slice none 0 0, .int .i64 0]) 5 Tryz.underlying41 hi hz0 hz1 .i64 .i64 n n n rfl rfl rfl rfl (by rw [hz2]; omega) (by unfold maxLen; omega) (Nat.le_refl _) ?_; intro w2 hown hgr; have HO := hid hown; have HB2 := hid (show Below w1.heap.size w1 w2 from ⟨hgr.os, hgr.tape, hgr.output, hgr.size, fun k hk => hgr.block k hk (by simp)⟩); clear hown hgr)
    have HG2 := hid (grown_up HG.out HB2.out)
    have HR2 := hid (HR.out.on (HB2.out.mono (by omega)))
    obtain ⟨k, hk⟩ : ∃ k, w1.heap.size = k := ⟨_, rfl⟩
    rw [hk] at HO HB2 hgl hsz
    simp only [hk]
    go_loopw [15] (fun v wr => ∃ i : Nat, i ≤ n ∧ v = .int .i64 i ∧ Fill 56 5 k n g RuleC pRule r wr i ∧ w.grownBy wr (some g)) (fun v _ => n - (intOf v).toNat)
    case atStart => exact ⟨0, by omega, rfl, ⟨[], _, r, rfl, HR2.out, by cases pMany pRule n r <;> simp, HO.out, Own.all fun W => by rw [Nat.zero_mul]; exact RuleC.nil W⟩, HG2.out⟩
    case round =>
      obtain ⟨i, hin, rfl, hF, hgw⟩ := hrel
      obtain ⟨xs, L, r', hxl, hRr, hpm, hown, hOC⟩ := hF
      by_cases hlt : i < n
      · have hlt2 : (i : Int) < (n : Int) := by omega
        have HIt := hid (HI.out r' wr hRr)
        have HF := hid (And.intro hpm (And.intro hown hOC))
        have HXL := hid hxl
        have HGW := hid hgw
        have hkl : k < wr.heap.size := by
          have := World.ownsRow.lt hown k rfl
          omega
        clear hpm hown hOC hxl hgw hRr
        go_wp2_with fail
        refine HIt.out.mono ?_
        rintro e w3 hr3
        have HG3 := hid (grown_on HGW.out hr3.grown)
        cases hp3 : pRule r' with
        | none =>
          obtain rfl := hr3.of_none hp3
          have HP3 := hid (HP.out.trans (pMany_stop HF.out.1 hlt hp3))
          clear hr3 hp3 HIt
          go_wp2
          exact ⟨rfl, Ret.no HP3.out HG3.out⟩
        | some x3 =>
          obtain ⟨x, r3⟩ := x3
          obtain ⟨v3, rfl, hR3, hO3⟩ := hr3.of_some hp3
          have HPM := hid (pMany_step HF.out.1 hlt hp3)
          have hup := Up.of_grown (B := k + 1) hr3.grown (fun q e => by injection e with e; omega)
          have hown3 := own_upto HF.out.2.1 (Up.of_grown (B := k) hr3.grown (fun q e => by injection e with e; omega)) (Nat.le_refl _)
          have HOC3 := hid (HF.out.2.2.step hup)
          have fz0 := frozen_own hown3 (i * 5)
          obtain ⟨z0, cz0⟩ := own_has hown3 (i * 5) (by omega)
          have fz1 := frozen_own hown3 (i * 5 + 1)
          obtain ⟨z1, cz1⟩ := own_has hown3 (i * 5 + 1) (by omega)
          have fz2 := frozen_own hown3 (i * 5 + 2)
          obtain ⟨z2, cz2⟩ := own_has hown3 (i * 5 + 2) (by omega)
          have fz3 := frozen_own hown3 (i * 5 + 3)
          obtain ⟨z3, cz3⟩ := own_has hown3 (i * 5 + 3) (by omega)
          have fz4 := frozen_own hown3 (i * 5 + 4)
          obtain ⟨z4, cz4⟩ := own_has hown3 (i * 5 + 4) (by omega)
          have HO3 := hid (hO3.base (B' := k + 1) (by omega))
          have HR3 := hid hR3
          have HOW := hid hown3
          obtain ⟨v0, v1, rfl, q0, q1⟩ := hO3.now
          obtain ⟨ad0, cap0, es0, _⟩ := q0
          obtain ⟨ad1, cap1, es1, _⟩ := q1
          have HVW : Hid (Own (k + 1) w3 (fun W => RuleC W [.int .i64 x.lhs, v0, .int .i64 x.op, v1, .int .i64 x.cost] [x])) := hid (HO3.out.imp fun W h => by
            obtain ⟨u0, u1, e, a0, a1⟩ := h
            unfold ruleV at e
            simp only [Value.agg.injEq, Array.mk.injEq, List.cons.injEq, and_true, true_and] at e
            obtain ⟨rfl, rfl⟩ := e
            exact RuleC.one W x _ _ a0 a1 (row_oneCell a0) (row_oneCell a1))
          clear HO3
          generalize x.rhs.length = m0 at es0
          generalize x.p.length = m1 at es1
          subst es0
          subst es1
          unfold ruleV
          clear hr3 hp3 HIt hup hown3 hR3 hO3 HF
          go_wp2
          go_roundw
          case rel =>
            refine ⟨i + 1, by omega, by simp, ?_, grown_new HG3.out hsz (putL_own [.int .i64 x.lhs, .slice ad0 m0 cap0, .int .i64 x.op, .slice ad1 m1 cap1, .int .i64 x.cost] _ _ (i * 5) HOW.out).2⟩
            have := Fill.put (size := 5) (us := [.int .i64 x.lhs, .slice ad0 m0 cap0, .int .i64 x.op, .slice ad1 m1 cap1, .int .i64 x.cost]) rfl hlt HXL.out hgl HR3.out HPM.out HOW.out HOC3.out HVW.out (fun h1 h2 => RuleC.append h1 h2)
            exact this
          case measure => simp [intOf]; omega
      · obtain rfl : i = n := by omega
        have HRr := hid hRr
        have HGW := hid hgw
        have HPD := hid (HP.out.trans (pMany_done hpm))
        have HF := hid (And.intro hown (And.intro hOC hxl))
        clear hRr hpm hown hOC hgw hxl
        go_wp2
        go_ret
        refine Ret.yes HPD.out HGW.out HRr.out (fun W hu => ?_)
        have h1 := own_upto HF.out.1 hu hsz
        have h2 := HF.out.2.1 W (hu.mono (by omega))
        rw [List.take_of_length_le (by rw [h1.1]; exact Nat.le_refl _)] at h2
        have hx := HF.out.2.2
        have h3 := rules_own (xs := xs) (by rw [hx]; exact h1) h2 (by omega)
        exact h3

set_option maxRecDepth 8000 in
theorem rdentry_any (g : Nat) (bs : List Int) (w : World) (h : Rd w g bs) :
    Calls Tryz.prog 101 #[.pointer (some ⟨g, 0, none⟩)] w (Ret g w EntryV (pEntry bs)) := by
  have hgl := h.lt
  have HR0 := hid (h.on ((up_alloc w (.cells #[.string ⟨#[]⟩, .int .i64 0, .int .i64 0] 46)).mono (by omega)))
  have HG0 : Hid (w.grownBy (w.alloc (.cells #[.string ⟨#[]⟩, .int .i64 0, .int .i64 0] 46)) (some g)) := hid (grown_up (World.grownBy.refl _ _) (up_alloc _ _))
  have HX0 := hid (row_new w (.cells #[.string ⟨#[]⟩, .int .i64 0, .int .i64 0] 46))
  have hs0 : w.heap.size < (w.alloc (.cells #[.string ⟨#[]⟩, .int .i64 0, .int .i64 0] 46)).heap.size := by simp
  obtain ⟨w0, hw0⟩ : ∃ w0, w0 = (w.alloc (.cells #[.string ⟨#[]⟩, .int .i64 0, .int .i64 0] 46)) := ⟨_, rfl⟩
  rw [← hw0] at HR0 HG0 HX0 hs0
  clear h
  have hmf : ∀ (fn : Fn) (first cap : Array Value) (w : World), (Instr.makeFunc fn first cap).run Tryz.prog w = .ok (.func fn first cap) w := fun _ _ _ _ => rfl
  go_enter Tryz.func101, Tryz.ntmps101
  go_wp2_with fail
  rw [← hw0]
  clear hw0
  refine (rtexts_any 20 (by decide) g bs w0 HR0.out).mono ?_
  rintro e w1 hr
  have HG1 := hid (grown_on HG0.out hr.grown)
  have hs1 : w.heap.size < w1.heap.size := Nat.lt_of_lt_of_le hs0 hr.grown.size
  have HU1 := hid (Up.of_grown (B := w.heap.size) hr.grown (fun q e => by injection e with e; omega))
  cases hp0 : pText 20 bs with
  | none =>
    obtain rfl := hr.of_none hp0
    have HP : Hid (pEntry bs = none) := hid (by unfold pEntry; simp only [hp0, Option.bind_none])
    clear hr
    go_wp2
    exact ⟨rfl, Ret.no HP.out HG1.out⟩
  | some y =>
    obtain ⟨x0, r0⟩ := y
    obtain ⟨z0, rfl, hR, hO⟩ := hr.of_some hp0
    have HR1 := hid hR
    obtain rfl := hO.now
    clear hr hR hO
    go_wp2_with fail
    refine (rnumber_any g r0 w1 HR1.out).mono ?_
    rintro e w2 hr
    have HG2 := hid (grown_on HG1.out hr.grown)
    have hs2 : w.heap.size < w2.heap.size := Nat.lt_of_lt_of_le hs1 hr.grown.size
    have HU2 := hid (Up.of_grown (B := w.heap.size) hr.grown (fun q e => by injection e with e; omega))
    cases hp1 : pNum r0 with
    | none =>
      obtain rfl := hr.of_none hp1
      have HP : Hid (pEntry bs = none) := hid (by unfold pEntry; simp only [hp0, hp1, Option.bind_some, Option.bind_none])
      clear hr
      go_wp2
      exact ⟨rfl, Ret.no HP.out HG2.out⟩
    | some y =>
      obtain ⟨x1, r1⟩ := y
      obtain ⟨z1, rfl, hR, hO⟩ := hr.of_some hp1
      have HR2 := hid hR
      obtain rfl := hO.now
      clear hr hR hO
      go_wp2_with fail
      refine (rnumber_any g r1 w2 HR2.out).mono ?_
      rintro e w3 hr
      have HG3 := hid (grown_on HG2.out hr.grown)
      have hs3 : w.heap.size < w3.heap.size := Nat.lt_of_lt_of_le hs2 hr.grown.size
      have HU3 := hid (Up.of_grown (B := w.heap.size) hr.grown (fun q e => by injection e with e; omega))
      cases hp2 : pNum r1 with
      | none =>
        obtain rfl := hr.of_none hp2
        have HP : Hid (pEntry bs = none) := hid (by unfold pEntry; simp only [hp0, hp1, hp2, Option.bind_some, Option.bind_none])
        clear hr
        go_wp2
        exact ⟨rfl, Ret.no HP.out HG3.out⟩
      | some y =>
        obtain ⟨x2, r2⟩ := y
        obtain ⟨z2, rfl, hR, hO⟩ := hr.of_some hp2
        have HR3 := hid hR
        obtain rfl := hO.now
        clear hr hR hO
        have hX := ((HU3.out.block _ (Nat.le_refl _) hs2).trans ((HU2.out.block _ (Nat.le_refl _) hs1).trans ((HU1.out.block _ (Nat.le_refl _) hs0).trans HX0.out)))
        have HX := hid hX
        have c0 : w3.cell? ⟨w.heap.size, 0, none⟩ = some (.string ⟨#[]⟩) := by rw [cell_of_row _ _ _ _ _ _ hX]; rfl
        have f0 : w3.frozen? ⟨w.heap.size, 0, none⟩ = false := frozen_of_row _ _ _ _ _ hX
        have c1 : w3.cell? ⟨w.heap.size, 1, none⟩ = some (.int .i64 0) := by rw [cell_of_row _ _ _ _ _ _ hX]; rfl
        have f1 : w3.frozen? ⟨w.heap.size, 1, none⟩ = false := frozen_of_row _ _ _ _ _ hX
        have c2 : w3.cell? ⟨w.heap.size, 2, none⟩ = some (.int .i64 0) := by rw [cell_of_row _ _ _ _ _ _ hX]; rfl
        have f2 : w3.frozen? ⟨w.heap.size, 2, none⟩ = false := frozen_of_row _ _ _ _ _ hX
        have HP : Hid (pEntry bs = some (⟨x0, x1, x2⟩, r2)) := hid (by unfold pEntry; simp only [hp0, hp1, hp2, Option.bind_some])
        clear hX hp0 hp1 hp2
        go_wp2
        refine bodyPost_ret (v := entryV ⟨x0, x1, x2⟩) (results_cell_row rfl _ _ w.heap.size 46 _ (0, 0) _ rfl (heap_setCell_same _ _ 2 _ _ _ (heap_setCell_same _ _ 1 _ _ _ (heap_setCell_same _ _ 0 _ _ _ HX.out))) Tryz.underlying46 rfl (by kernel_rfl)) rfl ?_
        have hpg : w3.grownBy (putL w3 w.heap.size 0 [.string x0, .int .i64 x1, .int .i64 x2]) (some w.heap.size) := grown_all _ _ _ _
        refine Ret.yes HP.out (grown_new HG3.out (Nat.le_refl _) hpg) (HR3.out.on ⟨hpg.os, hpg.tape, hpg.output, hpg.size, fun q hq => hpg.block q (by omega) (fun e => by injection e with e; omega)⟩) ?_
        exact Own.all fun W => rfl

set_option maxRecDepth 8000 in
theorem get_Entry (most : Int) (hm : most ≤ 1000) (g : Nat) (bs : List Int) (w : World) (h : Rd w g bs) :
    Calls Tryz.prog 100 #[.pointer (some ⟨g, 0, none⟩), .int .i64 most, .func (.func 101) #[.pointer (some ⟨g, 0, none⟩)] #[]] w (Ret g w EntriesAt (pList most pEntry bs)) := by
  have HC := hid (count_any most g bs w h)
  have HI := hid (fun bs w h => rdentry_any g bs w h)
  clear h
  obtain ⟨i0, hi, hz0, hz1, hz2⟩ := info_parts info_Entry
  go_enter Tryz.func100, Tryz.ntmps100
  go_wp2_with fail
  refine HC.out.mono ?_
  rintro e w1 hr
  have HG := hid hr.grown
  have hsz := hr.grown.size
  cases hp : pCount most bs with
  | none =>
    obtain rfl := hr.of_none hp
    have HP : Hid (pList most pEntry bs = none) := hid (by unfold pList; rw [hp]; rfl)
    clear hr hp HC
    go_wp2
    exact ⟨rfl, Ret.no HP.out HG.out⟩
  | some x =>
    obtain ⟨n, r⟩ := x
    obtain ⟨v, rfl, hR, hO⟩ := hr.of_some hp
    have hn := pCount_le hp
    have hn2 : n ≤ 1000 := by omega
    obtain rfl := hO.now
    have HP : Hid (pList most pEntry bs = pMany pEntry n r) := hid (by unfold pList; rw [hp]; rfl)
    have hgl := hR.lt
    have HR := hid hR
    clear hr hp HC hR hO hn hm
    go_wp2_with (at_make; refine wpList_make_full _ rfl _ _ 40 rfl w1.heap.size 46 i0 (.agg #[.string ⟨#[]⟩, .int .i64 0, .int .i64 0]) 3 Tryz.underlying40 hi hz0 hz1 .i64 .i64 n n n rfl rfl rfl rfl (by rw [hz2]; omega) (by unfold maxLen; omega) (Nat.le_refl _) ?_; intro w2 hown hgr; have HO := hid hown; have HB2 := hid (show Below w1.heap.size w1 w2 from ⟨hgr.os, hgr.tape, hgr.output, hgr.size, fun k hk => hgr.block k hk (by simp)⟩); clear hown hgr)
    have HG2 := hid (grown_up HG.out HB2.out)
    have HR2 := hid (HR.out.on (HB2.out.mono (by omega)))
    obtain ⟨k, hk⟩ : ∃ k, w1.heap.size = k := ⟨_, rfl⟩
    rw [hk] at HO HB2 hgl hsz
    simp only [hk]
    go_loopw [15] (fun v wr => ∃ i : Nat, i ≤ n ∧ v = .int .i64 i ∧ Fill 46 3 k n g EntryC pEntry r wr i ∧ w.grownBy wr (some g)) (fun v _ => n - (intOf v).toNat)
    case atStart => exact ⟨0, by omega, rfl, ⟨[], _, r, rfl, HR2.out, by cases pMany pEntry n r <;> simp, HO.out, Own.all fun W => by rw [Nat.zero_mul]; exact EntryC.nil W⟩, HG2.out⟩
    case round =>
      obtain ⟨i, hin, rfl, hF, hgw⟩ := hrel
      obtain ⟨xs, L, r', hxl, hRr, hpm, hown, hOC⟩ := hF
      by_cases hlt : i < n
      · have hlt2 : (i : Int) < (n : Int) := by omega
        have HIt := hid (HI.out r' wr hRr)
        have HF := hid (And.intro hpm (And.intro hown hOC))
        have HXL := hid hxl
        have HGW := hid hgw
        have hkl : k < wr.heap.size := by
          have := World.ownsRow.lt hown k rfl
          omega
        clear hpm hown hOC hxl hgw hRr
        go_wp2_with fail
        refine HIt.out.mono ?_
        rintro e w3 hr3
        have HG3 := hid (grown_on HGW.out hr3.grown)
        cases hp3 : pEntry r' with
        | none =>
          obtain rfl := hr3.of_none hp3
          have HP3 := hid (HP.out.trans (pMany_stop HF.out.1 hlt hp3))
          clear hr3 hp3 HIt
          go_wp2
          exact ⟨rfl, Ret.no HP3.out HG3.out⟩
        | some x3 =>
          obtain ⟨x, r3⟩ := x3
          obtain ⟨v3, rfl, hR3, hO3⟩ := hr3.of_some hp3
          have HPM := hid (pMany_step HF.out.1 hlt hp3)
          have hup := Up.of_grown (B := k + 1) hr3.grown (fun q e => by injection e with e; omega)
          have hown3 := own_upto HF.out.2.1 (Up.of_grown (B := k) hr3.grown (fun q e => by injection e with e; omega)) (Nat.le_refl _)
          have HOC3 := hid (HF.out.2.2.step hup)
          have fz0 := frozen_own hown3 (i * 3)
          obtain ⟨z0, cz0⟩ := own_has hown3 (i * 3) (by omega)
          have fz1 := frozen_own hown3 (i * 3 + 1)
          obtain ⟨z1, cz1⟩ := own_has hown3 (i * 3 + 1) (by omega)
          have fz2 := frozen_own hown3 (i * 3 + 2)
          obtain ⟨z2, cz2⟩ := own_has hown3 (i * 3 + 2) (by omega)
          have HO3 := hid (hO3.base (B' := k + 1) (by omega))
          have HR3 := hid hR3
          have HOW := hid hown3
          obtain rfl := hO3.now
          unfold entryV
          clear hr3 hp3 HIt hup hown3 hR3 hO3 HF
          go_wp2
          go_roundw
          case rel =>
            refine ⟨i + 1, by omega, by simp, ?_, grown_new HG3.out hsz (putL_own [.string x.text, .int .i64 x.cls, .int .i64 x.val] _ _ (i * 3) HOW.out).2⟩
            have := Fill.put (size := 3) (us := [.string x.text, .int .i64 x.cls, .int .i64 x.val]) rfl hlt HXL.out hgl HR3.out HPM.out HOW.out HOC3.out (Own.all fun W => EntryC.one W x) (fun h1 h2 => EntryC.append h1 h2)
            exact this
          case measure => simp [intOf]; omega
      · obtain rfl : i = n := by omega
        have HRr := hid hRr
        have HGW := hid hgw
        have HPD := hid (HP.out.trans (pMany_done hpm))
        have HF := hid (And.intro hown (And.intro hOC hxl))
        clear hRr hpm hown hOC hgw hxl
        go_wp2
        go_ret
        refine Ret.yes HPD.out HGW.out HRr.out (fun W hu => ?_)
        have h1 := own_upto HF.out.1 hu hsz
        have h2 := HF.out.2.1 W (hu.mono (by omega))
        rw [List.take_of_length_le (by rw [h1.1]; exact Nat.le_refl _)] at h2
        have hx := HF.out.2.2
        have h3 := Entries_own (xs := xs) (by rw [hx]; exact h1) h2 (by omega)
        exact h3

set_option maxRecDepth 8000 in
theorem rdlocale_any (g : Nat) (bs : List Int) (w : World) (h : Rd w g bs) :
    Calls Tryz.prog 65 #[.pointer (some ⟨g, 0, none⟩)] w (Ret g w LocaleV (pLocale bs)) := by
  have hgl := h.lt
  have HR0 := hid (h.on ((up_alloc w (.cells #[.string ⟨#[]⟩, .int .i64 0, .int .i64 0, .slice none 0 0, .slice none 0 0, .slice none 0 0] 44)).mono (by omega)))
  have HG0 : Hid (w.grownBy (w.alloc (.cells #[.string ⟨#[]⟩, .int .i64 0, .int .i64 0, .slice none 0 0, .slice none 0 0, .slice none 0 0] 44)) (some g)) := hid (grown_up (World.grownBy.refl _ _) (up_alloc _ _))
  have HX0 := hid (row_new w (.cells #[.string ⟨#[]⟩, .int .i64 0, .int .i64 0, .slice none 0 0, .slice none 0 0, .slice none 0 0] 44))
  have hs0 : w.heap.size < (w.alloc (.cells #[.string ⟨#[]⟩, .int .i64 0, .int .i64 0, .slice none 0 0, .slice none 0 0, .slice none 0 0] 44)).heap.size := by simp
  obtain ⟨w0, hw0⟩ : ∃ w0, w0 = (w.alloc (.cells #[.string ⟨#[]⟩, .int .i64 0, .int .i64 0, .slice none 0 0, .slice none 0 0, .slice none 0 0] 44)) := ⟨_, rfl⟩
  rw [← hw0] at HR0 HG0 HX0 hs0
  clear h
  have hmf : ∀ (fn : Fn) (first cap : Array Value) (w : World), (Instr.makeFunc fn first cap).run Tryz.prog w = .ok (.func fn first cap) w := fun _ _ _ _ => rfl
  go_enter Tryz.func65, Tryz.ntmps65
  go_wp2_with fail
  rw [← hw0]
  clear hw0
  refine (rtexts_any 12 (by decide) g bs w0 HR0.out).mono ?_
  rintro e w1 hr
  have HG1 := hid (grown_on HG0.out hr.grown)
  have hs1 : w.heap.size < w1.heap.size := Nat.lt_of_lt_of_le hs0 hr.grown.size
  have HU1 := hid (Up.of_grown (B := w.heap.size) hr.grown (fun q e => by injection e with e; omega))
  cases hp0 : pText 12 bs with
  | none =>
    obtain rfl := hr.of_none hp0
    have HP : Hid (pLocale bs = none) := hid (by unfold pLocale; simp only [hp0, Option.bind_none])
    clear hr
    go_wp2
    exact ⟨rfl, Ret.no HP.out HG1.out⟩
  | some y =>
    obtain ⟨x0, r0⟩ := y
    obtain ⟨z0, rfl, hR, hO⟩ := hr.of_some hp0
    have HR1 := hid hR
    obtain rfl := hO.now
    clear hr hR hO
    go_wp2_with fail
    refine (rnumber_any g r0 w1 HR1.out).mono ?_
    rintro e w2 hr
    have HG2 := hid (grown_on HG1.out hr.grown)
    have hs2 : w.heap.size < w2.heap.size := Nat.lt_of_lt_of_le hs1 hr.grown.size
    have HU2 := hid (Up.of_grown (B := w.heap.size) hr.grown (fun q e => by injection e with e; omega))
    cases hp1 : pNum r0 with
    | none =>
      obtain rfl := hr.of_none hp1
      have HP : Hid (pLocale bs = none) := hid (by unfold pLocale; simp only [hp0, hp1, Option.bind_some, Option.bind_none])
      clear hr
      go_wp2
      exact ⟨rfl, Ret.no HP.out HG2.out⟩
    | some y =>
      obtain ⟨x1, r1⟩ := y
      obtain ⟨z1, rfl, hR, hO⟩ := hr.of_some hp1
      have HR2 := hid hR
      obtain rfl := hO.now
      clear hr hR hO
      go_wp2_with fail
      refine (rnumber_any g r1 w2 HR2.out).mono ?_
      rintro e w3 hr
      have HG3 := hid (grown_on HG2.out hr.grown)
      have hs3 : w.heap.size < w3.heap.size := Nat.lt_of_lt_of_le hs2 hr.grown.size
      have HU3 := hid (Up.of_grown (B := w.heap.size) hr.grown (fun q e => by injection e with e; omega))
      cases hp2 : pNum r1 with
      | none =>
        obtain rfl := hr.of_none hp2
        have HP : Hid (pLocale bs = none) := hid (by unfold pLocale; simp only [hp0, hp1, hp2, Option.bind_some, Option.bind_none])
        clear hr
        go_wp2
        exact ⟨rfl, Ret.no HP.out HG3.out⟩
      | some y =>
        obtain ⟨x2, r2⟩ := y
        obtain ⟨z2, rfl, hR, hO⟩ := hr.of_some hp2
        have HR3 := hid hR
        obtain rfl := hO.now
        clear hr hR hO
        go_wp2_with fail
        refine (get_Entry 30 (by decide) g r2 w3 HR3.out).mono ?_
        rintro e w4 hr
        have HG4 := hid (grown_on HG3.out hr.grown)
        have hs4 : w.heap.size < w4.heap.size := Nat.lt_of_lt_of_le hs3 hr.grown.size
        have HU4 := hid (Up.of_grown (B := w.heap.size) hr.grown (fun q e => by injection e with e; omega))
        cases hp3 : pList 30 pEntry r2 with
        | none =>
          obtain rfl := hr.of_none hp3
          have HP : Hid (pLocale bs = none) := hid (by unfold pLocale; simp only [hp0, hp1, hp2, hp3, Option.bind_some, Option.bind_none])
          clear hr
          go_wp2
          exact ⟨rfl, Ret.no HP.out HG4.out⟩
        | some y =>
          obtain ⟨x3, r3⟩ := y
          obtain ⟨z3, rfl, hR, hO⟩ := hr.of_some hp3
          have HR4 := hid hR
          have HO3 := hid (hO.base (B' := w.heap.size + 1) (by omega))
          obtain ⟨ad3, cap3, es3, _⟩ := hO.now.shape
          generalize hm3 : x3.length = m3 at es3
          clear hm3
          subst es3
          clear hr hR hO
          go_wp2_with fail
          refine (get_Rule 60 (by decide) g r3 w4 HR4.out).mono ?_
          rintro e w5 hr
          have HG5 := hid (grown_on HG4.out hr.grown)
          have hs5 : w.heap.size < w5.heap.size := Nat.lt_of_lt_of_le hs4 hr.grown.size
          have HU5 := hid (Up.of_grown (B := w.heap.size) hr.grown (fun q e => by injection e with e; omega))
          cases hp4 : pList 60 pRule r3 with
          | none =>
            obtain rfl := hr.of_none hp4
            have HP : Hid (pLocale bs = none) := hid (by unfold pLocale; simp only [hp0, hp1, hp2, hp3, hp4, Option.bind_some, Option.bind_none])
            clear hr
            go_wp2
            exact ⟨rfl, Ret.no HP.out HG5.out⟩
          | some y =>
            obtain ⟨x4, r4⟩ := y
            obtain ⟨z4, rfl, hR, hO⟩ := hr.of_some hp4
            have HR5 := hid hR
            have HO4 := hid (hO.base (B' := w.heap.size + 1) (by omega))
            obtain ⟨ad4, cap4, es4, _⟩ := hO.now.shape
            generalize hm4 : x4.length = m4 at es4
            clear hm4
            subst es4
            clear hr hR hO
            go_wp2_with fail
            refine (get_Style 20 (by decide) g r4 w5 HR5.out).mono ?_
            rintro e w6 hr
            have HG6 := hid (grown_on HG5.out hr.grown)
            have hs6 : w.heap.size < w6.heap.size := Nat.lt_of_lt_of_le hs5 hr.grown.size
            have HU6 := hid (Up.of_grown (B := w.heap.size) hr.grown (fun q e => by injection e with e; omega))
            cases hp5 : pList 20 pStyle r4 with
            | none =>
              obtain rfl := hr.of_none hp5
              have HP : Hid (pLocale bs = none) := hid (by unfold pLocale; simp only [hp0, hp1, hp2, hp3, hp4, hp5, Option.bind_some, Option.bind_none])
              clear hr
              go_wp2
              exact ⟨rfl, Ret.no HP.out HG6.out⟩
            | some y =>
              obtain ⟨x5, r5⟩ := y
              obtain ⟨z5, rfl, hR, hO⟩ := hr.of_some hp5
              have HR6 := hid hR
              have HO5 := hid (hO.base (B' := w.heap.size + 1) (by omega))
              obtain ⟨ad5, cap5, es5, _⟩ := hO.now.shape
              generalize hm5 : x5.length = m5 at es5
              clear hm5
              subst es5
              clear hr hR hO
              have hX := ((HU6.out.block _ (Nat.le_refl _) hs5).trans ((HU5.out.block _ (Nat.le_refl _) hs4).trans ((HU4.out.block _ (Nat.le_refl _) hs3).trans ((HU3.out.block _ (Nat.le_refl _) hs2).trans ((HU2.out.block _ (Nat.le_refl _) hs1).trans ((HU1.out.block _ (Nat.le_refl _) hs0).trans HX0.out))))))
              have HX := hid hX
              have c0 : w6.cell? ⟨w.heap.size, 0, none⟩ = some (.string ⟨#[]⟩) := by rw [cell_of_row _ _ _ _ _ _ hX]; rfl
              have f0 : w6.frozen? ⟨w.heap.size, 0, none⟩ = false := frozen_of_row _ _ _ _ _ hX
              have c1 : w6.cell? ⟨w.heap.size, 1, none⟩ = some (.int .i64 0) := by rw [cell_of_row _ _ _ _ _ _ hX]; rfl
              have f1 : w6.frozen? ⟨w.heap.size, 1, none⟩ = false := frozen_of_row _ _ _ _ _ hX
              have c2 : w6.cell? ⟨w.heap.size, 2, none⟩ = some (.int .i64 0) := by rw [cell_of_row _ _ _ _ _ _ hX]; rfl
              have f2 : w6.frozen? ⟨w.heap.size, 2, none⟩ = false := frozen_of_row _ _ _ _ _ hX
              have c3 : w6.cell? ⟨w.heap.size, 3, none⟩ = some (.slice none 0 0) := by rw [cell_of_row _ _ _ _ _ _ hX]; rfl
              have f3 : w6.frozen? ⟨w.heap.size, 3, none⟩ = false := frozen_of_row _ _ _ _ _ hX
              have c4 : w6.cell? ⟨w.heap.size, 4, none⟩ = some (.slice none 0 0) := by rw [cell_of_row _ _ _ _ _ _ hX]; rfl
              have f4 : w6.frozen? ⟨w.heap.size, 4, none⟩ = false := frozen_of_row _ _ _ _ _ hX
              have c5 : w6.cell? ⟨w.heap.size, 5, none⟩ = some (.slice none 0 0) := by rw [cell_of_row _ _ _ _ _ _ hX]; rfl
              have f5 : w6.frozen? ⟨w.heap.size, 5, none⟩ = false := frozen_of_row _ _ _ _ _ hX
              have HP : Hid (pLocale bs = some (⟨x0, x1, x2, x3, x4, x5⟩, r5)) := hid (by unfold pLocale; simp only [hp0, hp1, hp2, hp3, hp4, hp5, Option.bind_some])
              have HQ3 := hid ((HO3.out.step (HU5.out.mono (Nat.le_succ _))).step (HU6.out.mono (Nat.le_succ _)))
              have HQ4 := hid (HO4.out.step (HU6.out.mono (Nat.le_succ _)))
              have HQ5 := hid HO5.out
              clear hX hp0 hp1 hp2 hp3 hp4 hp5
              go_wp2
              refine bodyPost_ret (v := localeV ⟨x0, x1, x2, x3, x4, x5⟩ (.slice ad3 m3 cap3) (.slice ad4 m4 cap4) (.slice ad5 m5 cap5)) (results_cell_row rfl _ _ w.heap.size 44 _ (0, 0) _ rfl (heap_setCell_same _ _ 5 _ _ _ (heap_setCell_same _ _ 4 _ _ _ (heap_setCell_same _ _ 3 _ _ _ (heap_setCell_same _ _ 2 _ _ _ (heap_setCell_same _ _ 1 _ _ _ (heap_setCell_same _ _ 0 _ _ _ HX.out)))))) Tryz.underlying44 rfl (by kernel_rfl)) rfl ?_
              have hpg : w6.grownBy (putL w6 w.heap.size 0 [.string x0, .int .i64 x1, .int .i64 x2, .slice ad3 m3 cap3, .slice ad4 m4 cap4, .slice ad5 m5 cap5]) (some w.heap.size) := grown_all _ _ _ _
              refine Ret.yes HP.out (grown_new HG6.out (Nat.le_refl _) hpg) (HR6.out.on ⟨hpg.os, hpg.tape, hpg.output, hpg.size, fun q hq => hpg.block q (by omega) (fun e => by injection e with e; omega)⟩) ?_
              have hup : Up (w.heap.size + 1) w6 (putL w6 w.heap.size 0 [.string x0, .int .i64 x1, .int .i64 x2, .slice ad3 m3 cap3, .slice ad4 m4 cap4, .slice ad5 m5 cap5]) := Up.of_grown hpg (fun q e => by injection e with e; omega)
              exact fun W hu => ⟨_, _, _, rfl, HQ3.out W (hup.trans (hu.mono (Nat.le_succ _))), HQ4.out W (hup.trans (hu.mono (Nat.le_succ _))), HQ5.out W (hup.trans (hu.mono (Nat.le_succ _)))⟩

set_option maxRecDepth 8000 in
theorem get_Locale (most : Int) (hm : most ≤ 1000) (g : Nat) (bs : List Int) (w : World) (h : Rd w g bs) :
    Calls Tryz.prog 64 #[.pointer (some ⟨g, 0, none⟩), .int .i64 most, .func (.func 65) #[.pointer (some ⟨g, 0, none⟩)] #[]] w (Ret g w LocalesAt (pList most pLocale bs)) := by
  have HC := hid (count_any most g bs w h)
  have HI := hid (fun bs w h => rdlocale_any g bs w h)
  clear h
  obtain ⟨i0, hi, hz0, hz1, hz2⟩ := info_parts info_Locale
  go_enter Tryz.func64, Tryz.ntmps64
  go_wp2_with fail
  refine HC.out.mono ?_
  rintro e w1 hr
  have HG := hid hr.grown
  have hsz := hr.grown.size
  cases hp : pCount most bs with
  | none =>
    obtain rfl := hr.of_none hp
    have HP : Hid (pList most pLocale bs = none) := hid (by unfold pList; rw [hp]; rfl)
    clear hr hp HC
    go_wp2
    exact ⟨rfl, Ret.no HP.out HG.out⟩
  | some x =>
    obtain ⟨n, r⟩ := x
    obtain ⟨v, rfl, hR, hO⟩ := hr.of_some hp
    have hn := pCount_le hp
    have hn2 : n ≤ 1000 := by omega
    obtain rfl := hO.now
    have HP : Hid (pList most pLocale bs = pMany pLocale n r) := hid (by unfold pList; rw [hp]; rfl)
    have hgl := hR.lt
    have HR := hid hR
    clear hr hp HC hR hO hn hm
    go_wp2_with (at_make; refine wpList_make_full _ rfl _ _ 26 rfl w1.heap.size 44 i0 (.agg #[.string ⟨#[]⟩, .int .i64 0, .int .i64 0, .slice none 0 0, .slice none 0 0, .slice none 0 0]) 6 Tryz.underlying26 hi hz0 hz1 .i64 .i64 n n n rfl rfl rfl rfl (by rw [hz2]; omega) (by unfold maxLen; omega) (Nat.le_refl _) ?_; intro w2 hown hgr; have HO := hid hown; have HB2 := hid (show Below w1.heap.size w1 w2 from ⟨hgr.os, hgr.tape, hgr.output, hgr.size, fun k hk => hgr.block k hk (by simp)⟩); clear hown hgr)
    have HG2 := hid (grown_up HG.out HB2.out)
    have HR2 := hid (HR.out.on (HB2.out.mono (by omega)))
    obtain ⟨k, hk⟩ : ∃ k, w1.heap.size = k := ⟨_, rfl⟩
    rw [hk] at HO HB2 hgl hsz
    simp only [hk]
    go_loopw [15] (fun v wr => ∃ i : Nat, i ≤ n ∧ v = .int .i64 i ∧ Fill 44 6 k n g LocaleC pLocale r wr i ∧ w.grownBy wr (some g)) (fun v _ => n - (intOf v).toNat)
    case atStart => exact ⟨0, by omega, rfl, ⟨[], _, r, rfl, HR2.out, by cases pMany pLocale n r <;> simp, HO.out, Own.all fun W => by rw [Nat.zero_mul]; exact LocaleC.nil W⟩, HG2.out⟩
    case round =>
      obtain ⟨i, hin, rfl, hF, hgw⟩ := hrel
      obtain ⟨xs, L, r', hxl, hRr, hpm, hown, hOC⟩ := hF
      by_cases hlt : i < n
      · have hlt2 : (i : Int) < (n : Int) := by omega
        have HIt := hid (HI.out r' wr hRr)
        have HF := hid (And.intro hpm (And.intro hown hOC))
        have HXL := hid hxl
        have HGW := hid hgw
        have hkl : k < wr.heap.size := by
          have := World.ownsRow.lt hown k rfl
          omega
        clear hpm hown hOC hxl hgw hRr
        go_wp2_with fail
        refine HIt.out.mono ?_
        rintro e w3 hr3
        have HG3 := hid (grown_on HGW.out hr3.grown)
        cases hp3 : pLocale r' with
        | none =>
          obtain rfl := hr3.of_none hp3
          have HP3 := hid (HP.out.trans (pMany_stop HF.out.1 hlt hp3))
          clear hr3 hp3 HIt
          go_wp2
          exact ⟨rfl, Ret.no HP3.out HG3.out⟩
        | some x3 =>
          obtain ⟨x, r3⟩ := x3
          obtain ⟨v3, rfl, hR3, hO3⟩ := hr3.of_some hp3
          have HPM := hid (pMany_step HF.out.1 hlt hp3)
          have hup := Up.of_grown (B := k + 1) hr3.grown (fun q e => by injection e with e; omega)
          have hown3 := own_upto HF.out.2.1 (Up.of_grown (B := k) hr3.grown (fun q e => by injection e with e; omega)) (Nat.le_refl _)
          have HOC3 := hid (HF.out.2.2.step hup)
          have fz0 := frozen_own hown3 (i * 6)
          obtain ⟨z0, cz0⟩ := own_has hown3 (i * 6) (by omega)
          have fz1 := frozen_own hown3 (i * 6 + 1)
          obtain ⟨z1, cz1⟩ := own_has hown3 (i * 6 + 1) (by omega)
          have fz2 := frozen_own hown3 (i * 6 + 2)
          obtain ⟨z2, cz2⟩ := own_has hown3 (i * 6 + 2) (by omega)
          have fz3 := frozen_own hown3 (i * 6 + 3)
          obtain ⟨z3, cz3⟩ := own_has hown3 (i * 6 + 3) (by omega)
          have fz4 := frozen_own hown3 (i * 6 + 4)
          obtain ⟨z4, cz4⟩ := own_has hown3 (i * 6 + 4) (by omega)
          have fz5 := frozen_own hown3 (i * 6 + 5)
          obtain ⟨z5, cz5⟩ := own_has hown3 (i * 6 + 5) (by omega)
          have HO3 := hid (hO3.base (B' := k + 1) (by omega))
          have HR3 := hid hR3
          have HOW := hid hown3
          obtain ⟨v0, v1, v2, rfl, q0, q1, q2⟩ := hO3.now
          obtain ⟨ad0, cap0, es0, _⟩ := q0.shape
          obtain ⟨ad1, cap1, es1, _⟩ := q1.shape
          obtain ⟨ad2, cap2, es2, _⟩ := q2.shape
          have HVW : Hid (Own (k + 1) w3 (fun W => LocaleC W [.string x.id, .int .i64 x.parent, .int .i64 x.digits, v0, v1, v2] [x])) := hid (HO3.out.imp fun W h => by
            obtain ⟨u0, u1, u2, e, a0, a1, a2⟩ := h
            unfold localeV at e
            simp only [Value.agg.injEq, Array.mk.injEq, List.cons.injEq, and_true, true_and] at e
            obtain ⟨rfl, rfl, rfl⟩ := e
            exact LocaleC.one W x _ _ _ a0 a1 a2 (at_oneCellEntriesAt a0) (at_oneCellRulesOk a1) (at_oneCellStylesAt a2))
          clear HO3
          generalize x.lex.length = m0 at es0
          generalize x.rules.length = m1 at es1
          generalize x.styles.length = m2 at es2
          subst es0
          clear q0
          subst es1
          clear q1
          subst es2
          clear q2
          unfold localeV
          clear hr3 hp3 HIt hup hown3 hR3 hO3 HF
          go_wp2
          go_roundw
          case rel =>
            refine ⟨i + 1, by omega, by simp, ?_, grown_new HG3.out hsz (putL_own [.string x.id, .int .i64 x.parent, .int .i64 x.digits, .slice ad0 m0 cap0, .slice ad1 m1 cap1, .slice ad2 m2 cap2] _ _ (i * 6) HOW.out).2⟩
            have := Fill.put (size := 6) (us := [.string x.id, .int .i64 x.parent, .int .i64 x.digits, .slice ad0 m0 cap0, .slice ad1 m1 cap1, .slice ad2 m2 cap2]) rfl hlt HXL.out hgl HR3.out HPM.out HOW.out HOC3.out HVW.out (fun h1 h2 => LocaleC.append h1 h2)
            exact this
          case measure => simp [intOf]; omega
      · obtain rfl : i = n := by omega
        have HRr := hid hRr
        have HGW := hid hgw
        have HPD := hid (HP.out.trans (pMany_done hpm))
        have HF := hid (And.intro hown (And.intro hOC hxl))
        clear hRr hpm hown hOC hgw hxl
        go_wp2
        go_ret
        refine Ret.yes HPD.out HGW.out HRr.out (fun W hu => ?_)
        have h1 := own_upto HF.out.1 hu hsz
        have h2 := HF.out.2.1 W (hu.mono (by omega))
        rw [List.take_of_length_le (by rw [h1.1]; exact Nat.le_refl _)] at h2
        have hx := HF.out.2.2
        have h3 := Locales_own (xs := xs) (by rw [hx]; exact h1) h2 (by omega)
        exact h3

end Go.Proofs.YtohgaknojkdohaaGreatDoor

/- Rows copied: slices.Clone, copyStyle, copyRule. -/
namespace Go.Proofs.YtohgaknojkdohaaGreatDoor
open Go.RowKit Gr

/-- All rows of parts, and of numbers, are as they were. -/
structure Keep (w W : World) : Prop where
  size : w.heap.size ≤ W.heap.size
  row : ∀ (k : Nat) (cs : Array Value) (t : TypeId) (fr : Nat × Nat), (t = 48 ∨ t = 3) → w.heap[k]? = some (Obj.cells cs t fr) → W.heap[k]? = some (Obj.cells cs t fr)
theorem Keep.refl (w : World) : Keep w w := ⟨Nat.le_refl _, fun _ _ _ _ _ h => h⟩
theorem Keep.trans {a b c : World} (h : Keep a b) (k : Keep b c) : Keep a c := ⟨Nat.le_trans h.size k.size, fun i cs t fr ht hi => k.row i cs t fr ht (h.row i cs t fr ht hi)⟩
theorem Keep.up {w w' : World} (hb : Below w.heap.size w w') : Keep w w' := ⟨hb.size, fun k _ _ _ _ h => (hb.block k (Array.getElem?_eq_some_iff.1 h).1).trans h⟩
/-- It holds as long as these rows are as they are. -/
def Stay (w : World) (P : World → Prop) : Prop := ∀ W, Keep w W → P W
theorem Stay.now {w : World} {P : World → Prop} (h : Stay w P) : P w := h w (Keep.refl _)
theorem Stay.step {w w' : World} {P : World → Prop} (h : Stay w P) (k : Keep w w') : Stay w' P := fun W q => h W (k.trans q)
theorem Stay.all {w : World} {P : World → Prop} (h : ∀ W, P W) : Stay w P := fun W _ => h W
theorem own_keep {w W : World} {B n size : Nat} {e : TypeId} {v : Value} {cs : List Value} (h : w.ownsRow B e size v n cs) (he : e = 48 ∨ e = 3) (k : Keep w W) : W.ownsRow B e size v n cs := by
  obtain ⟨h1, h2 | ⟨g, cap, cur, h2, h3, h4, h5⟩⟩ := h
  · exact ⟨h1, .inl h2⟩
  · exact ⟨h1, .inr ⟨g, cap, cur, h2, h3, k.row _ _ _ _ he h4, h5⟩⟩
/-- Behind a row that grew only rows of that kind are others. -/
theorem kind_grown {w w' : World} {B n size : Nat} {e : TypeId} {v : Value} {xs : List Value} (h : w.ownsRow B e size v n xs) (hg : w.grownBy w' v.ownBlock) {k : Nat} {cs : Array Value} {t : TypeId} {fr : Nat × Nat} (ht : t ≠ e) (hk : w.heap[k]? = some (Obj.cells cs t fr)) : w'.heap[k]? = some (Obj.cells cs t fr) := by
  refine (hg.block k (Array.getElem?_eq_some_iff.1 hk).1 (fun e' => ?_)).trans hk
  obtain ⟨_, ⟨rfl, _⟩ | ⟨g', cap, cur, rfl, _, h5, _⟩⟩ := h
  · cases e'
  · have e2 : some k = some g' := e'
    injection e2 with e2
    subst e2
    rw [h5] at hk
    injection hk with hk
    injection hk with _ hk _
    exact ht hk.symm
theorem own_kind {w w' : World} {B B' n n' size size' : Nat} {e e' : TypeId} {v v' : Value} {xs ys : List Value} (h : w.ownsRow B e size v n xs) (hg : w.grownBy w' v.ownBlock) (ht : e' ≠ e) (h' : w.ownsRow B' e' size' v' n' ys) : w'.ownsRow B' e' size' v' n' ys := by
  obtain ⟨h1, h2 | ⟨g, cap, cur, h2, h3, h4, h5⟩⟩ := h'
  · exact ⟨h1, .inl h2⟩
  · exact ⟨h1, .inr ⟨g, cap, cur, h2, h3, kind_grown h hg ht h4, h5⟩⟩
theorem Keep.grown {w w' : World} {B n size : Nat} {e : TypeId} {v : Value} {xs : List Value} (h : w.ownsRow B e size v n xs) (hg : w.grownBy w' v.ownBlock) (h1 : 48 ≠ e) (h3 : 3 ≠ e) : Keep w w' := ⟨hg.size, fun k cs t fr ht hk => kind_grown h hg (by rcases ht with rfl | rfl <;> assumption) hk⟩
theorem Keep.set {w : World} {g c : Nat} {u : Value} {cs : Array Value} {t : TypeId} {fr : Nat × Nat} (hg : w.heap[g]? = some (Obj.cells cs t fr)) (h1 : t ≠ 48) (h3 : t ≠ 3) : Keep w (w.setCell ⟨g, c, none⟩ u) := ⟨by simp [World.setCell], fun k cs' t' fr' ht hk => by
  by_cases e : k = g
  · subst e
    rw [hg] at hk
    injection hk with hk
    injection hk with _ hk _
    subst hk
    rcases ht with rfl | rfl
    · exact absurd rfl h1
    · exact absurd rfl h3
  · exact (Below.heap_setCell _ _ _ _ e).trans hk⟩
theorem keep_by {w W : World} {g : Nat} {cs : Array Value} {t : TypeId} {fr : Nat × Nat} (hg : w.heap[g]? = some (Obj.cells cs t fr)) (hW : w.grownBy W (some g)) (h1 : t ≠ 48) (h3 : t ≠ 3) : Keep w W := ⟨hW.size, fun k cs' t' fr' ht hk => by
  by_cases e : k = g
  · subst e
    rw [hg] at hk
    injection hk with hk
    injection hk with _ hk _
    subst hk
    rcases ht with rfl | rfl
    · exact absurd rfl h1
    · exact absurd rfl h3
  · exact (hW.block k (Array.getElem?_eq_some_iff.1 hk).1 (fun e' => e (by injection e'))).trans hk⟩
theorem own_int_row {w : World} {B : Nat} {v : Value} {xs : List Int} (h : w.ownsRow B 3 1 v xs.length (xs.map (Value.int .i64))) (hl : xs.length ≤ 1000000) : Row w v xs := by
  by_cases h0 : 0 < xs.length
  · obtain ⟨g, cap, rfl, _, _, hc⟩ := own_at h h0
    refine ⟨_, _, rfl, by unfold maxLen; omega, fun j hj => ⟨_, rfl, ?_⟩⟩
    rw [Addr.add_lit, Nat.zero_add]
    exact hc j _ (by rw [List.getElem?_map, getD_at hj]; rfl)
  · obtain ⟨ad, cap, rfl, _⟩ := own_shape h
    exact ⟨_, _, rfl, by unfold maxLen; omega, fun j hj => by omega⟩
theorem row_cells {w : World} {ad : Option Addr} {n cap : Nat} {xs : List Int} (h : Row w (.slice ad n cap) xs) (hn : ad ≠ none) : CellsAt w (.slice ad n cap) n 1 (xs.map (Value.int .i64)) := by
  obtain ⟨ad', cap', e, _, hc⟩ := h
  injection e with e1 e2 e3
  subst e1 e3
  refine ⟨ad, cap, rfl, by rw [List.length_map, e2, Nat.mul_one], fun h => absurd h hn, fun u hu => by obtain ⟨y, _, rfl⟩ := List.mem_map.1 hu; rfl, fun j u hj => ?_⟩
  rw [List.getElem?_map] at hj
  obtain ⟨y, hy, rfl⟩ := Option.map_eq_some_iff.1 hj
  have hlt := (List.getElem?_eq_some_iff.1 hy).1
  obtain ⟨a, e, h4⟩ := hc j hlt
  exact ⟨a, e, by rw [h4, List.getD_eq_getElem?_getD, hy]; rfl⟩

theorem eqnil_int (cap : Nat) (w : World) : (binOp .eql 35 (.slice none 0 cap) (.slice none 0 0)).run Tryz.prog w = .ok (.bool true) w := by kernel_rfl
theorem eqsome_int (a : Addr) (n cap : Nat) (w : World) : (binOp .eql 35 (.slice (some a) n cap) (.slice none 0 0)).run Tryz.prog w = .ok (.bool false) w := by kernel_rfl
theorem eqnil_part (cap : Nat) (w : World) : (binOp .eql 50 (.slice none 0 cap) (.slice none 0 0)).run Tryz.prog w = .ok (.bool true) w := by kernel_rfl
theorem eqsome_part (a : Addr) (n cap : Nat) (w : World) : (binOp .eql 50 (.slice (some a) n cap) (.slice none 0 0)).run Tryz.prog w = .ok (.bool false) w := by kernel_rfl
set_option maxRecDepth 8000 in
theorem clone_int (xs : List Int) (v : Value) (w : World) (h : Row w v xs) (hl : xs.length ≤ 100000) :
    Calls Tryz.prog 124 #[v] w fun e w' => ∃ v', e = .returned v' ∧ Stay w' (fun W => Row W v' xs) ∧ Below w.heap.size w w' := by
  obtain ⟨ad, cap, rfl, _, hc⟩ := id h
  cases ad with
  | none =>
    have hx : xs = [] := by
      cases xs with
      | nil => rfl
      | cons y ys => obtain ⟨a, e, _⟩ := hc 0 (by simp); cases e
    subst hx
    clear h hc
    have q1 := eqnil_int
    have q2 := eqsome_int
    go_enter Tryz.func124, Tryz.ntmps124
    go_wp2
    go_ret
    exact ⟨_, rfl, Stay.all fun W => ⟨none, 0, rfl, by simp, fun j hj => by simp at hj⟩, Below.refl _ _⟩
  | some a =>
    have HC := hid ((row_cells h (by simp)).on (up_alloc w (.cells #[] 3)))
    have HOM := hid (own_made w 3 1 w.heap.size w.heap.size (Nat.le_refl _) rfl)
    have HU := hid (up_alloc w (.cells #[] 3))
    clear h hc
    generalize hn : xs.length = n at *
    have HN := hid hn
    clear hn
    have q1 := eqnil_int
    have q2 := eqsome_int
    go_enter Tryz.func124, Tryz.ntmps124
    go_wp2_with (at_builtin; refine wpList_append_cells _ rfl (.tmp 5) (.tmp 6) 35 3 rfl (.int .i64 0) 1 8 Tryz.underlying35 info_int rfl (by decide) (by decide) w.heap.size _ 0 _ rfl HOM.out _ n _ rfl HC.out (by omega) (by simp) ?_; intro v' w' h1 h2 h3; have HO := hid (show w'.ownsRow w.heap.size 3 1 v' xs.length (xs.map (Value.int .i64)) from by rw [HN.out]; rw [Nat.zero_add] at h1; exact h1); have HB := hid (HU.out.grown h2 (by simp) (fun k e => Nat.le_of_eq (Option.some.inj e))); obtain ⟨adv, capv, ev, _⟩ := own_shape h1; rw [Nat.zero_add] at ev; subst ev; clear h1 h2 h3)
    go_ret
    exact ⟨_, rfl, fun W k => own_int_row (own_keep HO.out (.inr rfl) k) (by rw [HN.out]; omega), HB.out⟩

set_option maxRecDepth 8000 in
theorem clone_Part (xs : List Part) (v : Value) (w : World) (h : PartsAt w v xs) (hl : xs.length ≤ 100000) :
    Calls Tryz.prog 123 #[v] w fun e w' => ∃ v', e = .returned v' ∧ Stay w' (fun W => PartsAt W v' xs) ∧ Below w.heap.size w w' := by
  obtain ⟨cs, hcs, hcc⟩ := Parts_cells h
  obtain ⟨ad, cap, rfl, _, hc⟩ := id h
  cases ad with
  | none =>
    have hx : xs = [] := by
      cases xs with
      | nil => rfl
      | cons y ys => obtain ⟨a, o, e, _⟩ := hc.2 0 (by simp); cases e
    obtain rfl := hc.1.1 rfl
    subst hx
    clear h hc hcs hcc
    have q1 := eqnil_part
    have q2 := eqsome_part
    go_enter Tryz.func123, Tryz.ntmps123
    go_wp2
    go_ret
    exact ⟨_, rfl, Stay.all fun W => PartsAt.nil W, Below.refl _ _⟩
  | some a =>
    have HC := hid (hcs.on (up_alloc w (.cells #[] 48)))
    have HOM := hid (own_made w 48 5 w.heap.size w.heap.size (Nat.le_refl _) rfl)
    have HU := hid (up_alloc w (.cells #[] 48))
    have HCC := hid hcc
    clear h hc hcs hcc
    generalize hn : xs.length = n at *
    have HN := hid hn
    clear hn
    have q1 := eqnil_part
    have q2 := eqsome_part
    go_enter Tryz.func123, Tryz.ntmps123
    go_wp2_with (at_builtin; refine wpList_append_cells _ rfl (.tmp 5) (.tmp 6) 50 48 rfl (.agg #[.int .i64 0, .string ⟨#[]⟩, .int .i64 0, .int .i64 0, .int .i64 0]) 5 48 Tryz.underlying50 info_Part rfl (by decide) (by decide) w.heap.size _ 0 _ rfl HOM.out _ n _ rfl HC.out (by omega) (by simp) ?_; intro v' w' h1 h2 h3; have HO := hid (show w'.ownsRow w.heap.size 48 5 v' xs.length cs from by rw [HN.out]; rw [Nat.zero_add] at h1; exact h1); have HB := hid (HU.out.grown h2 (by simp) (fun k e => Nat.le_of_eq (Option.some.inj e))); obtain ⟨adv, capv, ev, _⟩ := own_shape h1; rw [Nat.zero_add] at ev; subst ev; clear h1 h2 h3)
    go_ret
    exact ⟨_, rfl, fun W k => Parts_own (own_keep HO.out (.inl rfl) k) ⟨HCC.out.1, HCC.out.2⟩ (by rw [HN.out]; omega), HB.out⟩

set_option maxRecDepth 8000 in
theorem copyStyle_any (x : Style) (v0 : Value) (w : World) (h : PartsAt w v0 x.parts) (hl : x.parts.length ≤ 100000) :
    Calls Tryz.prog 85 #[styleV x v0] w fun e w' => ∃ v0', e = .returned (styleV x v0') ∧ Stay w' (fun W => PartsAt W v0' x.parts) ∧ Below w.heap.size w w' := by
  obtain ⟨kind, parts⟩ := x
  dsimp only at h hl
  have HU := hid (((Below.refl w.heap.size w).alloc (Nat.le_refl _) (.cells #[.int .i64 kind, v0] 52)).alloc (by simp) (.cells #[.int .i64 0, .slice none 0 0] 52))
  have HC := hid (clone_Part parts v0 _ (h.on HU.out) hl)
  have HX0 := hid (row_new w (.cells #[.int .i64 kind, v0] 52))
  have HX1 := hid (row_new' (w.alloc (.cells #[.int .i64 kind, v0] 52)) (.cells #[.int .i64 0, .slice none 0 0] 52) (w.heap.size + 1) (by simp))
  obtain ⟨ad, cap, ev, _⟩ := h.shape
  generalize parts.length = n at *
  subst ev
  unfold styleV
  clear h
  go_enter Tryz.func85, Tryz.ntmps85
  go_wp2_with fail
  refine HC.out.mono ?_
  rintro e w1 ⟨v', rfl, hS, hb⟩
  obtain ⟨adv, capv, ev, _⟩ := hS.now.shape
  generalize parts.length = m at ev
  subst ev
  have HS := hid hS
  have HB := hid (up_trans HU.out hb)
  have k0 := ((hb.block w.heap.size (by simp; omega)).trans (Below.heap_alloc _ _ _ (by simp))).trans HX0.out
  have k1 := (hb.block (w.heap.size + 1) (by simp)).trans HX1.out
  have HK0 := hid k0
  have HK1 := hid k1
  have c0 : w1.cell? ⟨w.heap.size, 0, none⟩ = some (.int .i64 kind) := by rw [cell_of_row _ _ _ _ _ _ k0]; rfl
  have c1 : w1.cell? ⟨w.heap.size, 1, none⟩ = some (.slice ad n cap) := by rw [cell_of_row _ _ _ _ _ _ k0]; rfl
  have f1 : w1.frozen? ⟨w.heap.size, 1, none⟩ = false := frozen_of_row _ _ _ _ _ k0
  have d0 : w1.cell? ⟨w.heap.size + 1, 0, none⟩ = some (.int .i64 0) := by rw [cell_of_row _ _ _ _ _ _ k1]; rfl
  have d1 : w1.cell? ⟨w.heap.size + 1, 1, none⟩ = some (.slice none 0 0) := by rw [cell_of_row _ _ _ _ _ _ k1]; rfl
  have g0 : w1.frozen? ⟨w.heap.size + 1, 0, none⟩ = false := frozen_of_row _ _ _ _ _ k1
  have g1 : w1.frozen? ⟨w.heap.size + 1, 1, none⟩ = false := frozen_of_row _ _ _ _ _ k1
  clear hS hb k0 k1 HC HX0 HX1
  go_wp2
  refine bodyPost_ret (v := styleV ⟨kind, parts⟩ (.slice adv m capv)) (results_cell_row rfl _ _ (w.heap.size + 1) 52 _ (0, 0) _ rfl (heap_setCell_same _ _ 1 _ _ _ (heap_setCell_same _ _ 0 _ _ _ ((Below.heap_setCell _ _ _ _ (by simp)).trans HK1.out))) Tryz.underlying52 rfl (by kernel_rfl)) rfl ?_
  refine ⟨_, rfl, HS.out.step ?_, ((HB.out.setCell (p := ⟨w.heap.size, 1, none⟩) (Nat.le_refl _) _).setCell (p := ⟨w.heap.size + 1, 0, none⟩) (Nat.le_succ _) _).setCell (p := ⟨w.heap.size + 1, 1, none⟩) (Nat.le_succ _) _⟩
  have h1 := (Below.heap_setCell w1 ⟨w.heap.size, 1, none⟩ (.slice adv m capv) (w.heap.size + 1) (by simp)).trans HK1.out
  exact ((Keep.set HK0.out (by decide) (by decide)).trans (Keep.set h1 (by decide) (by decide))).trans (Keep.set (heap_setCell_same _ _ 0 _ _ _ h1) (by decide) (by decide))

set_option maxRecDepth 8000 in
theorem copyRule_any (x : Rule) (v0 v1 : Value) (w : World) (h0 : Row w v0 x.rhs) (h1 : Row w v1 x.p) (hl0 : x.rhs.length ≤ 100000) (hl1 : x.p.length ≤ 100000) :
    Calls Tryz.prog 86 #[ruleV x v0 v1] w fun e w' => ∃ v0' v1', e = .returned (ruleV x v0' v1') ∧ Stay w' (fun W => Row W v0' x.rhs) ∧ Stay w' (fun W => Row W v1' x.p) ∧ Below w.heap.size w w' := by
  obtain ⟨lhs, rhs, op, p, cost⟩ := x
  dsimp only at h0 h1 hl0 hl1
  have HU := hid (((Below.refl w.heap.size w).alloc (Nat.le_refl _) (.cells #[.int .i64 lhs, v0, .int .i64 op, v1, .int .i64 cost] 56)).alloc (by simp) (.cells #[.int .i64 0, .slice none 0 0, .int .i64 0, .slice none 0 0, .int .i64 0] 56))
  have HX0 := hid (row_new w (.cells #[.int .i64 lhs, v0, .int .i64 op, v1, .int .i64 cost] 56))
  have HX1 := hid (row_new' (w.alloc (.cells #[.int .i64 lhs, v0, .int .i64 op, v1, .int .i64 cost] 56)) (.cells #[.int .i64 0, .slice none 0 0, .int .i64 0, .slice none 0 0, .int .i64 0] 56) (w.heap.size + 1) (by simp))
  have HC0 := hid (fun W (b : Below w.heap.size w W) => clone_int rhs v0 W (h0.on b) hl0)
  have HC1 := hid (fun W (b : Below w.heap.size w W) => clone_int p v1 W (h1.on b) hl1)
  obtain ⟨ad0, cap0, e0, _⟩ := h0
  obtain ⟨ad1, cap1, e1, _⟩ := h1
  generalize rhs.length = n0 at *
  generalize p.length = n1 at *
  subst e0 e1
  unfold ruleV
  go_enter Tryz.func86, Tryz.ntmps86
  go_wp2
  obtain ⟨w0, hw0⟩ : ∃ w0, w0 = (w.alloc (.cells #[.int .i64 lhs, .slice ad0 n0 cap0, .int .i64 op, .slice ad1 n1 cap1, .int .i64 cost] 56)).alloc (.cells #[.int .i64 0, .slice none 0 0, .int .i64 0, .slice none 0 0, .int .i64 0] 56) := ⟨_, rfl⟩
  have hs0 : w0.heap.size = w.heap.size + 2 := by rw [hw0]; simp
  have k0 : w0.heap[w.heap.size]? = some (.cells #[.int .i64 lhs, .slice ad0 n0 cap0, .int .i64 op, .slice ad1 n1 cap1, .int .i64 cost] 56 (0, 0)) := by rw [hw0, Below.heap_alloc _ _ _ (by simp)]; exact HX0.out
  rw [← hw0] at HU HX1 ⊢
  have c1 : w0.cell? ⟨w.heap.size, 1, none⟩ = some (.slice ad0 n0 cap0) := by rw [cell_of_row _ _ _ _ _ _ k0]; rfl
  have c3 : w0.cell? ⟨w.heap.size, 3, none⟩ = some (.slice ad1 n1 cap1) := by rw [cell_of_row _ _ _ _ _ _ k0]; rfl
  have f1 : w0.frozen? ⟨w.heap.size, 1, none⟩ = false := frozen_of_row _ _ _ _ _ k0
  have f3 : w0.frozen? ⟨w.heap.size, 3, none⟩ = false := frozen_of_row _ _ _ _ _ k0
  have HK0 := hid k0
  have HD0 := hid (HU.out.drew)
  have HUD := hid ((Below.refl w0.heap.size w0).drew)
  clear hw0 k0 HX0
  go_region_law (first
    | (go_simp; go_at_call 124; refine (HC0.out _ HD0.out).mono ?_; rintro e wA ⟨va, rfl, sa, ba⟩; obtain ⟨adA, capA, eA, _⟩ := sa.now; generalize rhs.length = nA at eA; subst eA; have HSA := hid sa; have HBA := hid (HUD.out.trans ba); have cA1 := (HBA.out.cell (p := ⟨w.heap.size, 1, none⟩) (by simp; omega)).trans c1; have cA3 := (HBA.out.cell (p := ⟨w.heap.size, 3, none⟩) (by simp; omega)).trans c3; have fA1 := frozen_on HBA.out (by omega) f1; have fA3 := frozen_on HBA.out (by omega) f3; have hsA := HBA.out.size; clear sa ba HC0)
    | (go_simp; go_at_call 124; refine (HC1.out _ (up_trans HU.out HBA.out)).mono ?_; rintro e wB ⟨vb, rfl, sb, bb⟩; obtain ⟨adB, capB, eB, _⟩ := sb.now; generalize p.length = nB at eB; subst eB; have HSB := hid sb; have HBB := hid (HBA.out.trans (bb.mono hsA)); have HKB := hid (Keep.up bb); have cB1 := (HBB.out.cell (p := ⟨w.heap.size, 1, none⟩) (by simp; omega)).trans c1; have cB3 := (HBB.out.cell (p := ⟨w.heap.size, 3, none⟩) (by simp; omega)).trans c3; have fB1 := frozen_on HBB.out (by omega) f1; have fB3 := frozen_on HBB.out (by omega) f3; clear sb bb HC1))
  all_goals
    have hk0 := heap_setCell_same _ _ 3 _ _ (.slice adB nB capB) (heap_setCell_same _ _ 1 _ _ (.slice adA nA capA) ((HBB.out.block w.heap.size (by omega)).trans HK0.out))
    have hk1 := ((Below.heap_setCell (wB.setCell ⟨w.heap.size, 1, none⟩ (.slice adA nA capA)) ⟨w.heap.size, 3, none⟩ (.slice adB nB capB) (w.heap.size + 1) (by simp)).trans (Below.heap_setCell wB ⟨w.heap.size, 1, none⟩ (.slice adA nA capA) (w.heap.size + 1) (by simp))).trans ((HBB.out.block (w.heap.size + 1) (by omega)).trans HX1.out)
    have hkp := (Keep.set (c := 1) (u := .slice adA nA capA) ((HBB.out.block w.heap.size (by omega)).trans HK0.out) (by decide) (by decide)).trans (Keep.set (c := 3) (u := .slice adB nB capB) (heap_setCell_same _ _ 1 _ _ (.slice adA nA capA) ((HBB.out.block w.heap.size (by omega)).trans HK0.out)) (by decide) (by decide))
    have hbl := ((up_trans HU.out HBB.out).setCell (p := ⟨w.heap.size, 1, none⟩) (Nat.le_refl _) (.slice adA nA capA)).setCell (p := ⟨w.heap.size, 3, none⟩) (Nat.le_refl _) (.slice adB nB capB)
    obtain ⟨w2, hw2⟩ : ∃ w2, w2 = (wB.setCell ⟨w.heap.size, 1, none⟩ (.slice adA nA capA)).setCell ⟨w.heap.size, 3, none⟩ (.slice adB nB capB) := ⟨_, rfl⟩
    rw [← hw2] at hk0 hk1 hkp hbl ⊢
    have HSA2 := hid ((HSA.out.step HKB.out).step hkp)
    have HSB2 := hid (HSB.out.step hkp)
    have HBL := hid hbl
    have HK1 := hid hk1
    have b0 : w2.cell? ⟨w.heap.size, 0, none⟩ = some (.int .i64 lhs) := by rw [cell_of_row _ _ _ _ _ _ hk0]; rfl
    have b1 : w2.cell? ⟨w.heap.size, 1, none⟩ = some (.slice adA nA capA) := by rw [cell_of_row _ _ _ _ _ _ hk0]; rfl
    have b2 : w2.cell? ⟨w.heap.size, 2, none⟩ = some (.int .i64 op) := by rw [cell_of_row _ _ _ _ _ _ hk0]; rfl
    have b3 : w2.cell? ⟨w.heap.size, 3, none⟩ = some (.slice adB nB capB) := by rw [cell_of_row _ _ _ _ _ _ hk0]; rfl
    have b4 : w2.cell? ⟨w.heap.size, 4, none⟩ = some (.int .i64 cost) := by rw [cell_of_row _ _ _ _ _ _ hk0]; rfl
    have d0 : w2.cell? ⟨w.heap.size + 1, 0, none⟩ = some (.int .i64 0) := by rw [cell_of_row _ _ _ _ _ _ hk1]; rfl
    have d1 : w2.cell? ⟨w.heap.size + 1, 1, none⟩ = some (.slice none 0 0) := by rw [cell_of_row _ _ _ _ _ _ hk1]; rfl
    have d2 : w2.cell? ⟨w.heap.size + 1, 2, none⟩ = some (.int .i64 0) := by rw [cell_of_row _ _ _ _ _ _ hk1]; rfl
    have d3 : w2.cell? ⟨w.heap.size + 1, 3, none⟩ = some (.slice none 0 0) := by rw [cell_of_row _ _ _ _ _ _ hk1]; rfl
    have d4 : w2.cell? ⟨w.heap.size + 1, 4, none⟩ = some (.int .i64 0) := by rw [cell_of_row _ _ _ _ _ _ hk1]; rfl
    have g0 : w2.frozen? ⟨w.heap.size + 1, 0, none⟩ = false := frozen_of_row _ _ _ _ _ hk1
    have g1 : w2.frozen? ⟨w.heap.size + 1, 1, none⟩ = false := frozen_of_row _ _ _ _ _ hk1
    have g2 : w2.frozen? ⟨w.heap.size + 1, 2, none⟩ = false := frozen_of_row _ _ _ _ _ hk1
    have g3 : w2.frozen? ⟨w.heap.size + 1, 3, none⟩ = false := frozen_of_row _ _ _ _ _ hk1
    have g4 : w2.frozen? ⟨w.heap.size + 1, 4, none⟩ = false := frozen_of_row _ _ _ _ _ hk1
    clear hw2 hk0 hk1 hkp hbl c1 c3 f1 f3 cA1 cA3 fA1 fA3 cB1 cB3 fB1 fB3 HSA HSB HKB HBA HBB
    go_wp2
    refine bodyPost_ret (v := ruleV ⟨lhs, rhs, op, p, cost⟩ (.slice adA nA capA) (.slice adB nB capB)) (results_cell_row rfl _ _ (w.heap.size + 1) 56 _ (0, 0) _ rfl (heap_setCell_same _ _ 4 _ _ _ (heap_setCell_same _ _ 3 _ _ _ (heap_setCell_same _ _ 2 _ _ _ (heap_setCell_same _ _ 1 _ _ _ (heap_setCell_same _ _ 0 _ _ _ HK1.out))))) Tryz.underlying56 rfl (by kernel_rfl)) rfl ?_
    have hg := grown_all [.int .i64 lhs, .slice adA nA capA, .int .i64 op, .slice adB nB capB, .int .i64 cost] w2 (w.heap.size + 1) 0
    have hk := keep_by HK1.out hg (by decide) (by decide)
    exact ⟨_, _, rfl, HSA2.out.step hk, HSB2.out.step hk, HBL.out.trans ⟨hg.os, hg.tape, hg.output, hg.size, fun q hq => by
      by_cases hl : q < w2.heap.size
      · exact hg.block q hl (fun e => by injection e with e; omega)
      · have := HBL.out.size; omega⟩⟩

end Go.Proofs.YtohgaknojkdohaaGreatDoor

/- A locale with what it has of its Parents: package blob's Resolve. -/
namespace Go.Proofs.YtohgaknojkdohaaGreatDoor
open Go.RowKit Gr

theorem own_base {w : World} {B B' n size : Nat} {e : TypeId} {v : Value} {cs : List Value} (h : w.ownsRow B e size v n cs) (hb : B' ≤ B) : w.ownsRow B' e size v n cs := by
  obtain ⟨h1, h2 | ⟨g, cap, cur, h2, h3, h4⟩⟩ := h
  · exact ⟨h1, .inl h2⟩
  · exact ⟨h1, .inr ⟨g, cap, cur, h2, Nat.le_trans hb h3, h4⟩⟩

set_option maxRecDepth 8000 in
theorem rulesC_any (ls : List Locale) (v : Value) (i : Nat) (w0 w : World) (hl : LocalesAt w0 v ls) (hbw : Below w0.heap.size w0 w) (hi : i < ls.length) (hi10 : i < 10) (hp : Par ls i) (hS : Small ls) :
    Calls Tryz.prog 74 #[v, .int .i64 i] w fun e w' => ∃ rv cs, e = .returned rv ∧ w'.ownsRow w.heap.size 56 5 rv (rulesOf ls i).length cs ∧ RuleC w0 cs (rulesOf ls i) ∧ (rulesOf ls i).length ≤ 100000 ∧ Below w.heap.size w w' := by
  have HCH := hid (chain_any ls v i w (hl.on hbw) hi hp)
  have HBW := hid hbw
  have hs0 := hbw.size
  obtain ⟨ad, cap, rfl, hm, _, hc⟩ := hl
  have HC := hid hc
  have HP := hid hp
  have HS := hid hS
  have hcl := chainOf_length ls i
  have HM : Hid (∀ k ∈ chainOf ls i, 0 ≤ k ∧ k ≤ i) := hid (fun k h => chainOf_mem ls i hp h)
  have HRL : Hid (∀ l : List Int, (rulesUp ls l).length ≤ 10000 * l.length) := hid (rulesUp_length ls hS)
  have hE : rulesOf ls i = rulesUp ls (chainOf ls i) := rfl
  rw [hE]
  clear hc hp hS hE hbw
  generalize hn : ls.length = n at *
  have HN := hid hn
  generalize hch : chainOf ls i = ch at *
  generalize hq : ch.length = q at *
  have HQ := hid hq
  clear hn hch hq
  go_enter Tryz.func74, Tryz.ntmps74
  go_wp2_with fail
  refine HCH.out.mono ?_
  rintro e w1 ⟨pv, rfl, hr, bel⟩
  have HR1 := hid (hr.row (by rw [HQ.out]; unfold maxLen; omega))
  have HB1 := hid bel
  obtain ⟨adp, capp, ep⟩ := hr.shape
  rw [HQ.out] at ep
  subst ep
  have hszw := bel.size
  have HBK : Hid (∀ g, (Value.slice adp q capp).ownBlock = some g → g < w1.heap.size) := hid (fun g e => (World.ownsRow.lt hr g e).2)
  clear hr bel HCH
  go_wp2
  go_loopw [5, 12] (fun v5 v12 wr => ∃ j : Nat, j ≤ q ∧ v12 = .int .i64 j ∧ w1.heap.size ≤ wr.heap.size ∧ (∃ cs, wr.ownsRow w1.heap.size 56 5 v5 (rulesUp ls (ch.take j)).length cs ∧ RuleC w0 cs (rulesUp ls (ch.take j))) ∧ Row wr (.slice adp q capp) ch ∧ Below w.heap.size w wr) (fun _ v12 _ => q - (intOf v12).toNat)
  case atStart => exact ⟨0, by omega, rfl, Nat.le_refl _, ⟨[], World.ownsRow_nil _ _ _ _, RuleC.nil _⟩, HR1.out, HB1.out⟩
  case round =>
    obtain ⟨j, hj, rfl, hsz1, ⟨cs, hR, hRC⟩, hrow, hb⟩ := hrel
    have ho := fun g e => (World.ownsRow.lt hR g e).1
    by_cases hlt : j < q
    · have hlt2 : (j : Int) < (q : Int) := by omega
      have HX : Hid (ch[j]? = some (ch.getD j 0)) := hid (getD_at (by rw [HQ.out]; exact hlt))
      have HROW := hid hrow
      obtain ⟨ad', cap', e', _, hcc⟩ := hrow
      injection e' with e1 e2 e3
      subst e1
      clear e2 e3
      obtain ⟨a, rfl, hcj⟩ := hcc j (by rw [HQ.out]; exact hlt)
      have hkk := HM.out _ (List.mem_of_getElem? HX.out)
      generalize ch.getD j 0 = kz at *
      obtain ⟨k, rfl⟩ : ∃ k : Nat, kz = (k : Int) := ⟨kz.toNat, by omega⟩
      obtain ⟨g, o, rfl, hx⟩ := HC.out k (by omega)
      have hrk := (HS.out.at k).1
      obtain ⟨_, _, _, _, _, _, _, cr, _, _, hro, _⟩ := hx
      have HT : Hid (rulesUp ls (ch.take (j + 1)) = rulesUp ls (ch.take j) ++ (ls.getD k nilLocale).rules) := hid (by rw [List.take_add_one, HX.out]; exact rulesUp_snoc ls _ _)
      have hlen : (rulesUp ls (ch.take j)).length ≤ 90000 := by
        have := HRL.out (ch.take j)
        rw [List.length_take, HQ.out] at this
        omega
      generalize (ls.getD k nilLocale).rules = rs at *
      generalize hacc : rulesUp ls (ch.take j) = acc at *
      have HBX := hid (HBW.out.trans (hb.mono hs0))
      have cr2 := (HBX.out.cell (lt_of_cell cr)).trans cr
      obtain ⟨ds, hds, hdc⟩ := rules_cells hro
      have HDS := hid (hds.on HBX.out)
      have HDC := hid hdc
      have HRC := hid hRC
      obtain ⟨adr, capr, er, _⟩ := hro.shape
      subst er
      have HR := hid hR
      have HB := hid hb
      have HO := hid ho
      have hsz := hb.size
      have hkn : (k : Int) < (n : Int) := by omega
      obtain ⟨ad5, cap5, e5, _⟩ := own_shape hR
      subst e5
      generalize hal : acc.length = al at *
      have HAL := hid hal
      generalize hrl : rs.length = rl at *
      have HRLEN := hid hrl
      clear hR hb ho cr hro hal hrl hacc hds hdc hRC
      go_wp2_with (at_builtin; refine wpList_append_cells _ rfl (.tmp 16) (.tmp 21) 41 56 rfl (.agg #[.int .i64 0, .slice none 0 0, .int .i64 0, .slice none 0 0, .int .i64 0]) 5 72 Tryz.underlying41 info_Rule rfl (by decide) (by decide) w1.heap.size _ al _ rfl HR.out _ rl _ rfl HDS.out (by omega) hsz1 ?_; intro v' w' h1 h2 h3; have HR2 := hid h1; have HB2 := hid (HB.out.grown h2 hsz (fun j e => Nat.le_trans hszw (HO.out j e))); have hsz2 : w1.heap.size ≤ w'.heap.size := Nat.le_trans hsz1 h2.size; have HRW2 := hid (row_kept HROW.out h2 (by rcases row_block HROW.out with e | ⟨gg, e, hgg⟩; exact .inl e; exact .inr (fun e2 => by have := HO.out gg (e2.symm.trans e); have := HBK.out gg e; omega))); obtain ⟨adx, capx, ex, _⟩ := own_shape h1; subst ex; clear h1 h2 h3)
      go_roundw
      case rel => exact ⟨j + 1, by omega, by simp, hsz2, ⟨_, by rw [HT.out, List.length_append, HAL.out, HRLEN.out]; exact HR2.out, by rw [HT.out]; exact HRC.out.append HDC.out⟩, HRW2.out, HB2.out⟩
      case measure => simp [intOf]; omega
    · rw [List.take_of_length_le (by rw [HQ.out]; omega)] at hR hRC
      have HR := hid hR
      have HRC := hid hRC
      have HB := hid hb
      obtain ⟨ad5, cap5, e5, _⟩ := own_shape hR
      obtain ⟨n5, hn5⟩ : ∃ n5, n5 = (rulesUp ls ch).length := ⟨_, rfl⟩
      rw [← hn5] at e5
      clear hR hb ho hrow hRC hn5
      obtain rfl : j = q := by omega
      subst e5
      have HZ := hid (HRL.out ch)
      have HQ2 := hid HQ.out
      go_wp2
      go_ret
      exact ⟨_, _, rfl, own_base HR.out hszw, HRC.out, by have := HZ.out; rw [HQ2.out] at this; omega, HB.out⟩

end Go.Proofs.YtohgaknojkdohaaGreatDoor

/- A locale with what it has of its Parents: package blob's resolve. -/
namespace Go.Proofs.YtohgaknojkdohaaGreatDoor
open Go.RowKit Gr

theorem key_cut3 {T : Prop} {α β γ : Type} (F : α → β → γ → Prop) {P : α → β → γ → Prop} (rest : (∀ a b c, F a b c → P a b c) → T) (key : ∀ a b c, F a b c → P a b c) : T := rest key
theorem own_set {w : World} {g c : Nat} {u : Value} {B n size : Nat} {e t : TypeId} {v : Value} {cs : List Value} {arr : Array Value} {fr : Nat × Nat} (h : w.ownsRow B e size v n cs) (hg : w.heap[g]? = some (Obj.cells arr t fr)) (ht : e ≠ t) : (w.setCell ⟨g, c, none⟩ u).ownsRow B e size v n cs := by
  obtain ⟨h1, h2 | ⟨g', cap, cur, h2, h3, h4, h5⟩⟩ := h
  · exact ⟨h1, .inl h2⟩
  · refine ⟨h1, .inr ⟨g', cap, cur, h2, h3, (Below.heap_setCell _ _ _ _ (fun e' => ?_)).trans h4, h5⟩⟩
    have e2 : g' = g := e'
    subst e2
    rw [h4] at hg
    injection hg with hg
    injection hg with _ hg _
    exact ht hg
theorem own_put {w : World} {g : Nat} {B n size : Nat} {e t : TypeId} {v : Value} {cs : List Value} {arr : Array Value} (h : w.ownsRow B e size v n cs) (hg : w.heap[g]? = some (Obj.cells arr t (0, 0))) (ht : e ≠ t) : ∀ (o : Nat) (us : List Value), (putL w g o us).ownsRow B e size v n cs := by
  intro o us
  induction us generalizing w o arr with
  | nil => exact h
  | cons u us ih => exact ih (own_set h hg ht) (heap_setCell_same _ _ o _ _ u hg) _
/-- All blocks but locales' own are as they were. -/
structure KeepL (w W : World) : Prop where
  size : w.heap.size ≤ W.heap.size
  row : ∀ (k : Nat) (cs : Array Value) (t : TypeId) (fr : Nat × Nat), t ≠ 44 → w.heap[k]? = some (Obj.cells cs t fr) → W.heap[k]? = some (Obj.cells cs t fr)
theorem KeepL.refl (w : World) : KeepL w w := ⟨Nat.le_refl _, fun _ _ _ _ _ h => h⟩
theorem KeepL.trans {a b c : World} (h : KeepL a b) (k : KeepL b c) : KeepL a c := ⟨Nat.le_trans h.size k.size, fun i cs t fr ht hi => k.row i cs t fr ht (h.row i cs t fr ht hi)⟩
theorem KeepL.up {w w' : World} (hb : Below w.heap.size w w') : KeepL w w' := ⟨hb.size, fun k _ _ _ _ h => (hb.block k (Array.getElem?_eq_some_iff.1 h).1).trans h⟩
theorem KeepL.keep {w W : World} (h : KeepL w W) : Keep w W := ⟨h.size, fun k cs t fr ht hk => h.row k cs t fr (by rcases ht with rfl | rfl <;> decide) hk⟩
theorem KeepL.put {w W : World} {g : Nat} {cs : Array Value} {fr : Nat × Nat} (hg : w.heap[g]? = some (Obj.cells cs 44 fr)) (hW : w.grownBy W (some g)) : KeepL w W := ⟨hW.size, fun k cs' t' fr' ht hk => by
  by_cases e : k = g
  · subst e
    rw [hg] at hk
    injection hk with hk
    injection hk with _ hk _
    exact absurd hk.symm ht
  · exact (hW.block k (Array.getElem?_eq_some_iff.1 hk).1 (fun e' => e (by injection e'))).trans hk⟩
def Stl (w : World) (P : World → Prop) : Prop := ∀ W, KeepL w W → P W
theorem Stl.now {w : World} {P : World → Prop} (h : Stl w P) : P w := h w (KeepL.refl _)
theorem Stl.step {w w' : World} {P : World → Prop} (h : Stl w P) (k : KeepL w w') : Stl w' P := fun W q => h W (k.trans q)
theorem own_keepL {w W : World} {B n size : Nat} {e : TypeId} {v : Value} {cs : List Value} (h : w.ownsRow B e size v n cs) (he : e ≠ 44) (k : KeepL w W) : W.ownsRow B e size v n cs := by
  obtain ⟨h1, h2 | ⟨g, cap, cur, h2, h3, h4, h5⟩⟩ := h
  · exact ⟨h1, .inl h2⟩
  · exact ⟨h1, .inr ⟨g, cap, cur, h2, h3, k.row _ _ _ _ he h4, h5⟩⟩
/-- What resolve has made so far: its answer's place gR, the whole at gW. -/
def ResAt (w : World) (B B3 gR gW : Nat) (id : ByteArray) (pa di : Int) (lx : List Entry) (rl : List Rule) (st : List Style) (vl vr vs : Value) : Prop :=
  gR ≠ gW ∧ w.heap[gR]? = some (.cells #[.string ⟨#[]⟩, .int .i64 0, .int .i64 0, .slice none 0 0, .slice none 0 0, .slice none 0 0] 44 (0, 0)) ∧
  w.heap[gW]? = some (.cells #[.string id, .int .i64 pa, .int .i64 di, vl, vr, vs] 44 (0, 0)) ∧
  (∃ cl, w.ownsRow B 46 3 vl lx.length cl ∧ EntryC w cl lx) ∧
  (∃ cr, w.ownsRow B3 56 5 vr rl.length cr ∧ Stay w (fun W => RuleC W cr rl)) ∧
  (∃ cs, w.ownsRow B 52 2 vs st.length cs ∧ Stay w (fun W => StyleC W cs st))
theorem ResAt.on {w w' : World} {B B3 gR gW : Nat} {id : ByteArray} {pa di : Int} {lx : List Entry} {rl : List Rule} {st : List Style} {vl vr vs : Value} (h : ResAt w B B3 gR gW id pa di lx rl st vl vr vs) (hb : Below w.heap.size w w') : ResAt w' B B3 gR gW id pa di lx rl st vl vr vs := by
  obtain ⟨h0, h1, h2, ⟨cl, a1, a2⟩, ⟨cr, b1, b2⟩, ⟨cs, c1, c2⟩⟩ := h
  exact ⟨h0, (hb.block _ (Array.getElem?_eq_some_iff.1 h1).1).trans h1, (hb.block _ (Array.getElem?_eq_some_iff.1 h2).1).trans h2, ⟨cl, owns_below a1 hb, a2.on hb⟩, ⟨cr, owns_below b1 hb, b2.step (Keep.up hb)⟩, ⟨cs, owns_below c1 hb, c2.step (Keep.up hb)⟩⟩
theorem ResAt.lex {w : World} {B B3 gR gW : Nat} {id : ByteArray} {pa di : Int} {lx : List Entry} {rl : List Rule} {st : List Style} {vl vr vs : Value} (h : ResAt w B B3 gR gW id pa di lx rl st vl vr vs) :
    ∃ cl, w.ownsRow B 46 3 vl lx.length cl ∧ ∀ (w1 w2 : World) (v' : Value) (ds : List Value) (xs : List Entry), Below w.heap.size w w1 → w2.ownsRow B 46 3 v' (lx.length + xs.length) (cl ++ ds) → w1.grownBy w2 vl.ownBlock → EntryC w2 ds xs →
      ResAt (w2.setCell ⟨gW, 3, none⟩ v') B B3 gR gW id pa di (lx ++ xs) rl st v' vr vs ∧ Keep w (w2.setCell ⟨gW, 3, none⟩ v') := by
  obtain ⟨h0, h1, h2, ⟨cl, a1, a2⟩, ⟨cr, b1, b2⟩, ⟨cs, c1, c2⟩⟩ := h
  refine ⟨cl, a1, fun w1 w2 v' ds xs hb ho hg hds => ?_⟩
  have o1 := owns_below a1 hb
  have k1 := kind_grown o1 hg (by decide) ((hb.block _ (Array.getElem?_eq_some_iff.1 h1).1).trans h1)
  have k2 := kind_grown o1 hg (by decide) ((hb.block _ (Array.getElem?_eq_some_iff.1 h2).1).trans h2)
  have kp := ((Keep.up hb).trans (Keep.grown o1 hg (by decide) (by decide))).trans (Keep.set (c := 3) (u := v') k2 (by decide) (by decide))
  exact ⟨⟨h0, (Below.heap_setCell _ _ _ _ h0).trans k1, heap_setCell_same _ _ 3 _ _ _ k2, ⟨_, own_set (by rw [List.length_append]; exact ho) k2 (by decide), ⟨(a2.append ⟨hds.1, hds.2⟩).1, (a2.append ⟨hds.1, hds.2⟩).2⟩⟩, ⟨cr, own_set (own_kind o1 hg (by decide) (owns_below b1 hb)) k2 (by decide), b2.step kp⟩, ⟨cs, own_set (own_kind o1 hg (by decide) (owns_below c1 hb)) k2 (by decide), c2.step kp⟩⟩, kp⟩
theorem ResAt.sty {w : World} {B B3 gR gW : Nat} {id : ByteArray} {pa di : Int} {lx : List Entry} {rl : List Rule} {st : List Style} {vl vr vs : Value} (h : ResAt w B B3 gR gW id pa di lx rl st vl vr vs) :
    ∃ cs, w.ownsRow B 52 2 vs st.length cs ∧ ∀ (w1 w2 : World) (v' : Value) (ds : List Value) (xs : List Style), Below w.heap.size w w1 → w2.ownsRow B 52 2 v' (st.length + xs.length) (cs ++ ds) → w1.grownBy w2 vs.ownBlock → Stay w1 (fun W => StyleC W ds xs) →
      ResAt (w2.setCell ⟨gW, 5, none⟩ v') B B3 gR gW id pa di lx rl (st ++ xs) vl vr v' ∧ Keep w (w2.setCell ⟨gW, 5, none⟩ v') := by
  obtain ⟨h0, h1, h2, ⟨cl, a1, a2⟩, ⟨cr, b1, b2⟩, ⟨cs, c1, c2⟩⟩ := h
  refine ⟨cs, c1, fun w1 w2 v' ds xs hb ho hg hds => ?_⟩
  have o1 := owns_below c1 hb
  have k1 := kind_grown o1 hg (by decide) ((hb.block _ (Array.getElem?_eq_some_iff.1 h1).1).trans h1)
  have k2 := kind_grown o1 hg (by decide) ((hb.block _ (Array.getElem?_eq_some_iff.1 h2).1).trans h2)
  have kq := (Keep.grown o1 hg (by decide) (by decide)).trans (Keep.set (c := 5) (u := v') k2 (by decide) (by decide))
  have kp := (Keep.up hb).trans kq
  exact ⟨⟨h0, (Below.heap_setCell _ _ _ _ h0).trans k1, heap_setCell_same _ _ 5 _ _ _ k2, ⟨cl, own_set (own_kind o1 hg (by decide) (owns_below a1 hb)) k2 (by decide), ⟨a2.1, a2.2⟩⟩, ⟨cr, own_set (own_kind o1 hg (by decide) (owns_below b1 hb)) k2 (by decide), b2.step kp⟩, ⟨_, own_set (by rw [List.length_append]; exact ho) k2 (by decide), fun W k => (c2 W (kp.trans k)).append (hds W (kq.trans k))⟩⟩, kp⟩
theorem ResAt.rul {w : World} {B B3 gR gW : Nat} {id : ByteArray} {pa di : Int} {lx : List Entry} {rl : List Rule} {st : List Style} {vl vr vs : Value} (h : ResAt w B B3 gR gW id pa di lx rl st vl vr vs) :
    ∃ cr, w.ownsRow B3 56 5 vr rl.length cr ∧ ∀ (w1 w2 : World) (v' : Value) (ds : List Value) (xs : List Rule), Below w.heap.size w w1 → w2.ownsRow B3 56 5 v' (rl.length + xs.length) (cr ++ ds) → w1.grownBy w2 vr.ownBlock → Stay w1 (fun W => RuleC W ds xs) →
      ResAt (w2.setCell ⟨gW, 4, none⟩ v') B B3 gR gW id pa di lx (rl ++ xs) st vl v' vs ∧ Keep w (w2.setCell ⟨gW, 4, none⟩ v') := by
  obtain ⟨h0, h1, h2, ⟨cl, a1, a2⟩, ⟨cr, b1, b2⟩, ⟨cs, c1, c2⟩⟩ := h
  refine ⟨cr, b1, fun w1 w2 v' ds xs hb ho hg hds => ?_⟩
  have o1 := owns_below b1 hb
  have k1 := kind_grown o1 hg (by decide) ((hb.block _ (Array.getElem?_eq_some_iff.1 h1).1).trans h1)
  have k2 := kind_grown o1 hg (by decide) ((hb.block _ (Array.getElem?_eq_some_iff.1 h2).1).trans h2)
  have kq := (Keep.grown o1 hg (by decide) (by decide)).trans (Keep.set (c := 4) (u := v') k2 (by decide) (by decide))
  have kp := (Keep.up hb).trans kq
  exact ⟨⟨h0, (Below.heap_setCell _ _ _ _ h0).trans k1, heap_setCell_same _ _ 4 _ _ _ k2, ⟨cl, own_set (own_kind o1 hg (by decide) (owns_below a1 hb)) k2 (by decide), ⟨a2.1, a2.2⟩⟩, ⟨_, own_set (by rw [List.length_append]; exact ho) k2 (by decide), fun W k => (b2 W (kp.trans k)).append (hds W (kq.trans k))⟩, ⟨cs, own_set (own_kind o1 hg (by decide) (owns_below c1 hb)) k2 (by decide), c2.step kp⟩⟩, kp⟩
theorem ResAt.box {w : World} {B B3 gR gW : Nat} {id : ByteArray} {pa di : Int} {lx : List Entry} {rl : List Rule} {st : List Style} {vl vr vs : Value} (h : ResAt w B B3 gR gW id pa di lx rl st vl vr vs) (c : Nat) : w.cell? ⟨gW, c, none⟩ = #[.string id, .int .i64 pa, .int .i64 di, vl, vr, vs][c]? ∧ w.frozen? ⟨gW, c, none⟩ = false ∧ gW < w.heap.size := by
  obtain ⟨h0, h1, h2, _⟩ := h
  exact ⟨cell_of_row _ _ _ _ _ _ h2, frozen_of_row _ _ _ _ _ h2, (Array.getElem?_eq_some_iff.1 h2).1⟩

set_option maxRecDepth 8000 in
set_option maxHeartbeats 8000000 in
theorem resolve_any (ls : List Locale) (v : Value) (i : Nat) (w : World) (hl : LocalesAt w v ls) (hi : i < ls.length) (hi10 : i < 10) (hp : Par ls i) (hS : Small ls) (hX : ∀ x ∈ ls, (∀ s ∈ x.styles, s.parts.length ≤ 100000) ∧ (∀ r ∈ x.rules, r.rhs.length ≤ 100000 ∧ r.p.length ≤ 100000)) :
    Calls Tryz.prog 46 #[v, .int .i64 i] w fun e w' => ∃ v0 v1 v2, e = .returned (localeV (resOf ls i) v0 v1 v2) ∧ Stl w' (fun W => LocaleAt W (resOf ls i) v0 v1 v2) ∧ Below w.heap.size w w' := by
  have HL := hid hl
  have HCH := hid (fun W (b : Below w.heap.size w W) => chain_any ls v i W (hl.on b) hi hp)
  have HRU := hid (fun W (b : Below w.heap.size w W) => rulesC_any ls v i w W hl b hi hi10 hp hS)
  obtain ⟨ad, cap, rfl, hm, hnc, hc⟩ := hl
  obtain ⟨g, o, rfl, hx⟩ := hc i hi
  obtain ⟨_, _, _, c0, c1, c2, _⟩ := hx
  have HC := hid hc
  have HP := hid hp
  have HS := hid hS
  have HXX := hid hX
  have k0 := lt_of_cell c0
  dsimp only at k0
  have e0 := ((up_alloc w (.cells #[.string ⟨#[]⟩, .int .i64 0, .int .i64 0, .slice none 0 0, .slice none 0 0, .slice none 0 0] 44)).cell (p := ⟨g, o + i * 6, none⟩) k0).trans c0
  have e1 := ((up_alloc w (.cells #[.string ⟨#[]⟩, .int .i64 0, .int .i64 0, .slice none 0 0, .slice none 0 0, .slice none 0 0] 44)).cell (p := ⟨g, o + i * 6 + 1, none⟩) k0).trans c1
  have e2 := ((up_alloc w (.cells #[.string ⟨#[]⟩, .int .i64 0, .int .i64 0, .slice none 0 0, .slice none 0 0, .slice none 0 0] 44)).cell (p := ⟨g, o + i * 6 + 2, none⟩) k0).trans c2
  have hi2 : (i : Int) < (ls.length : Int) := by omega
  have HR0 := hid (row_new w (.cells #[.string ⟨#[]⟩, .int .i64 0, .int .i64 0, .slice none 0 0, .slice none 0 0, .slice none 0 0] 44))
  have HU0 := hid (up_alloc w (.cells #[.string ⟨#[]⟩, .int .i64 0, .int .i64 0, .slice none 0 0, .slice none 0 0, .slice none 0 0] 44))
  have HRES : Hid (resOf ls i = ⟨(ls.getD i nilLocale).id, (ls.getD i nilLocale).parent, (ls.getD i nilLocale).digits, lexUp ls (chainOf ls i), rulesOf ls i, stylesUp ls (chainOf ls i)⟩) := hid rfl
  generalize (ls.getD i nilLocale).id = id at *
  generalize (ls.getD i nilLocale).parent = pa at *
  generalize (ls.getD i nilLocale).digits = di at *
  generalize hn : ls.length = n at *
  have HN := hid hn
  have HPP := hid hp
  clear hn hc hp hS hX c0 c1 c2 HP
  go_enter Tryz.func46, Tryz.ntmps46
  go_wp2
  obtain ⟨wa, hwa⟩ : ∃ wa, wa = w.alloc (.cells #[.string ⟨#[]⟩, .int .i64 0, .int .i64 0, .slice none 0 0, .slice none 0 0, .slice none 0 0] 44) := ⟨_, rfl⟩
  have hsa : wa.heap.size = w.heap.size + 1 := by rw [hwa]; simp
  rw [← hwa] at e0 e1 e2 HR0 HU0 ⊢
  clear hwa
  apply key_cut
  case rest =>
    intro key
    go_region
    all_goals exact key
  have HA1 : Hid (ResAt (wa.alloc (.cells #[.string id, .int .i64 pa, .int .i64 di, .slice none 0 0, .slice none 0 0, .slice none 0 0] 44)).drew w.heap.size 0 w.heap.size (w.heap.size + 1) id pa di [] [] [] (.slice none 0 0) (.slice none 0 0) (.slice none 0 0)) := hid
    ⟨by omega, (Below.heap_alloc wa _ _ (by omega)).trans HR0.out, row_new' wa _ _ hsa.symm, ⟨[], World.ownsRow_nil _ _ _ _, EntryC.nil _⟩, ⟨[], World.ownsRow_nil _ _ _ _, Stay.all fun W => RuleC.nil W⟩, ⟨[], World.ownsRow_nil _ _ _ _, Stay.all fun W => StyleC.nil W⟩⟩
  have HB1 : Hid (Below w.heap.size w (wa.alloc (.cells #[.string id, .int .i64 pa, .int .i64 di, .slice none 0 0, .slice none 0 0, .slice none 0 0] 44)).drew) := hid ((HU0.out.alloc (by omega) _).drew)
  obtain ⟨w1, hw1⟩ : ∃ w1, w1 = (wa.alloc (.cells #[.string id, .int .i64 pa, .int .i64 di, .slice none 0 0, .slice none 0 0, .slice none 0 0] 44)).drew := ⟨_, rfl⟩
  rw [← hw1] at HA1 HB1 ⊢
  clear hw1 e0 e1 e2 HR0 HU0 hsa
  have HQM : Hid (∀ k ∈ chainOf ls i, 0 ≤ k ∧ k ≤ i) := hid (fun k h => chainOf_mem ls i HPP.out h)
  have hcl := chainOf_length ls i
  go_wp2_with fail
  refine (HCH.out w1 HB1.out).mono ?_
  rintro e w2 ⟨cv, rfl, hr, hb⟩
  have HA2 := hid (HA1.out.on hb)
  have HB2 := hid (HB1.out.trans (hb.mono HB1.out.size))
  have HRW : Hid (Stay w2 (fun W => Row W cv (chainOf ls i))) := hid (fun W k => RowNew.row (own_keep hr (.inr rfl) k) (by unfold maxLen; omega))
  generalize hch : chainOf ls i = ch at *
  generalize hq : ch.length = q at *
  have HQ := hid hq
  obtain ⟨adc, capc, ec⟩ := hr.shape
  rw [hq] at ec
  subst ec
  clear hr hb hch hq HCH HA1 HB1
  go_wp2
  go_loopw [32] (fun v32 wr => ∃ j : Nat, j ≤ q ∧ v32 = .int .i64 j ∧ (∃ vl vs, ResAt wr w.heap.size 0 w.heap.size (w.heap.size + 1) id pa di (lexUp ls (ch.take j)) [] (stylesUp ls (ch.take j)) vl (.slice none 0 0) vs) ∧ Stay wr (fun W => Row W (.slice adc q capc) ch) ∧ Below w.heap.size w wr) (fun v _ => q - (intOf v).toNat)
  case atStart => exact ⟨0, by omega, rfl, ⟨_, _, HA2.out⟩, HRW.out, HB2.out⟩
  case round =>
    obtain ⟨j, hj, rfl, ⟨vl, vs, hA⟩, hrw, hb⟩ := hrel
    by_cases hlt : j < q
    · have hlt2 : (j : Int) < (q : Int) := by omega
      have HX : Hid (ch[j]? = some (ch.getD j 0)) := hid (getD_at (by rw [HQ.out]; exact hlt))
      obtain ⟨ad', cap', e', _, hcc⟩ := hrw.now
      injection e' with e1 e2 e3
      subst e1
      clear e2 e3
      obtain ⟨a, rfl, hcj⟩ := hcc j (by rw [HQ.out]; exact hlt)
      have hkk := HQM.out _ (List.mem_of_getElem? HX.out)
      have HTL : Hid (∀ k : Nat, ch.getD j 0 = (k : Int) → lexUp ls (ch.take (j + 1)) = lexUp ls (ch.take j) ++ (ls.getD k nilLocale).lex ∧ stylesUp ls (ch.take (j + 1)) = stylesUp ls (ch.take j) ++ (ls.getD k nilLocale).styles) := hid (fun k e => by rw [List.take_add_one, HX.out, e]; constructor <;> simp [lexUp, stylesUp])
      generalize ch.getD j 0 = kz at *
      obtain ⟨k, rfl⟩ : ∃ k : Nat, kz = (k : Int) := ⟨kz.toNat, by omega⟩
      have HTK := hid (HTL.out k rfl)
      clear HTL
      have hkn : k < n := by omega
      have hkn2 : (k : Int) < (n : Int) := by omega
      obtain ⟨g2, o2, eg, hx⟩ := HC.out k hkn
      injection eg with eg
      injection eg with eg1 eg2
      subst eg1 eg2
      obtain ⟨x0, x1, x2, c0, c1, c2, c3, c4, c5, q0, q1, q2⟩ := hx
      have d3 := (hb.cell (lt_of_cell c3)).trans c3
      have d5 := (hb.cell (lt_of_cell c5)).trans c5
      have hlb := resOf_length ls HS.out (ch.take j)
      rw [List.length_take, HQ.out] at hlb
      have hsk := HS.out.at k
      obtain ⟨ds, hds, hdc⟩ := Entries_cells q0
      have HDS := hid ((hds.on hb).on (Below.refl _ _).drew)
      have HDC := hid hdc
      have HQ2 := hid q2
      have HC5 := hid c5
      obtain ⟨adx, capx, ex, _⟩ := q0.shape
      obtain ⟨ads, caps, es, _⟩ := q2.shape
      obtain ⟨cl, hol, hnext⟩ := hA.lex
      obtain ⟨b3, f3, hgw⟩ := hA.box 3
      have HBX : Hid (wr.drew.heap[w.heap.size + 1]? = _) := hid hA.2.2.1
      obtain ⟨adl, capl, el, _⟩ := own_shape hol
      have HNX := hid hnext
      have HOL := hid (owns_below hol (Below.refl _ _).drew)
      have HB := hid hb
      have HRJ := hid hrw
      have hszb := hb.size
      generalize hlx : (lexUp ls (ch.take j)).length = nl at *
      generalize hlk : (ls.getD k nilLocale).lex.length = nx at *
      generalize hls : (ls.getD k nilLocale).styles.length = ns at *
      have HLN := hid (And.intro hlx (And.intro hlk hls))
      subst ex es el
      have b3' : wr.cell? ⟨w.heap.size + 1, 3, none⟩ = some (.slice adl nl capl) := b3
      clear b3 c0 c1 c2 c3 c4 c5 q0 q1 q2 hds hdc hnext hol hA hb hrw hlx hlk hls hcc
      go_wp2
      apply key_cut3 (F := fun (adB : Option Addr) (capB : Nat) (wB : World) => wB.ownsRow w.heap.size 46 3 (.slice adB (nl + nx) capB) (nl + nx) (cl ++ ds) ∧ wr.drew.grownBy wB (Value.slice adl nl capl).ownBlock)
      case rest =>
        intro key
        go_region_law (refine step_append_cells _ rfl (.tmp 37) (.tmp 42) 40 46 rfl (.agg #[.string ⟨#[]⟩, .int .i64 0, .int .i64 0]) 3 32 Tryz.underlying40 info_Entry rfl (by decide) (by decide) w.heap.size (.slice adl nl capl) nl cl (by simp [Act.eval]) HOL.out (.slice adx nx capx) nx ds (by simp [Act.eval]) HDS.out (by omega) hszb ?_; intro v' wB h1 h2 h3; have hk := kind_grown HOL.out h2 (by decide) HBX.out; have cB : wB.cell? ⟨w.heap.size + 1, 3, none⟩ = some (.slice adl nl capl) := (by rw [cell_of_row _ _ _ _ _ _ hk]; rfl); have fB : wB.frozen? ⟨w.heap.size + 1, 3, none⟩ = false := frozen_of_row _ _ _ _ _ hk; obtain ⟨adB, capB, eB, _⟩ := own_shape h1; subst eB; have HF := hid (And.intro h1 h2); clear h1 h2 h3 hk)
        all_goals exact key adB capB wB HF.out
      intro adB capB wB hF
      have hn3 := HNX.out wr.drew wB (.slice adB (nl + nx) capB) ds (ls.getD k nilLocale).lex (Below.refl _ _).drew (by rw [HLN.out.2.1]; exact hF.1) hF.2 ⟨HDC.out.1, HDC.out.2⟩
      have HA3 := hid hn3.1
      have HRJ3 := hid (HRJ.out.step hn3.2)
      have HB3 : Hid (Below w.heap.size w (wB.setCell ⟨w.heap.size + 1, 3, none⟩ (.slice adB (nl + nx) capB))) := hid ((HB.out.drew.grown hF.2 hszb (fun q e => (World.ownsRow.lt HOL.out q e).1)).setCell (p := ⟨w.heap.size + 1, 3, none⟩) (Nat.le_succ _) _)
      obtain ⟨w3, hw3⟩ : ∃ w3, w3 = wB.setCell ⟨w.heap.size + 1, 3, none⟩ (.slice adB (nl + nx) capB) := ⟨_, rfl⟩
      rw [← hw3] at HA3 HRJ3 HB3 ⊢
      have d5' := (HB3.out.cell (lt_of_cell HC5.out)).trans HC5.out
      clear hF hn3 hw3 HNX HOL HDS HDC HBX HRJ b3' f3 hgw d3 d5 hcj
      go_wp2
      go_loopw [51] (fun v51 ws => ∃ t : Nat, t ≤ ns ∧ v51 = .int .i64 t ∧ (∃ vs, ResAt ws w.heap.size 0 w.heap.size (w.heap.size + 1) id pa di (lexUp ls (ch.take j) ++ (ls.getD k nilLocale).lex) [] (stylesUp ls (ch.take j) ++ (ls.getD k nilLocale).styles.take t) (.slice adB (nl + nx) capB) (.slice none 0 0) vs) ∧ Stay ws (fun W => Row W (.slice (some a) q capc) ch) ∧ Below w.heap.size w ws) (fun v _ => ns - (intOf v).toNat)
      case atStart => exact ⟨0, by omega, rfl, ⟨_, by rw [List.take_zero, List.append_nil]; exact HA3.out⟩, HRJ3.out, HB3.out⟩
      case round =>
        obtain ⟨t, ht, rfl, ⟨vs2, hA⟩, hrw, hb⟩ := hrel
        by_cases hts : t < ns
        · have hts2 : (t : Int) < (ns : Int) := by omega
          have HXS : Hid ((ls.getD k nilLocale).styles[t]? = some ((ls.getD k nilLocale).styles.getD t nilStyle)) := hid (Style_at (by rw [HLN.out.2.2]; exact hts))
          have hpl := (HXX.out (ls.getD k nilLocale) (List.mem_of_getElem? (Locale_at (by rw [HN.out]; exact hkn)))).1 _ (List.mem_of_getElem? HXS.out)
          obtain ⟨ads', caps', es', _, _, hcs⟩ := HQ2.out
          injection es' with es1 es2 es3
          subst es1
          clear es2 es3
          obtain ⟨gs, os, rfl, hx⟩ := hcs t (by rw [HLN.out.2.2]; exact hts)
          have HTS : Hid ((ls.getD k nilLocale).styles.take (t + 1) = (ls.getD k nilLocale).styles.take t ++ [(ls.getD k nilLocale).styles.getD t nilStyle]) := hid (by rw [List.take_add_one, HXS.out]; rfl)
          have hx2 := hx.on hb
          generalize (ls.getD k nilLocale).styles.getD t nilStyle = x at *
          obtain ⟨kind, parts⟩ := x
          obtain ⟨y0, m0, m1, hpa⟩ := hx2
          dsimp only at m0 m1 hpa hpl
          have HUB := hid ((up_alloc wr (.cells #[.int .i64 kind, y0] 52)).drew)
          have HCP := hid (copyStyle_any ⟨kind, parts⟩ y0 _ (hpa.on HUB.out) hpl)
          obtain ⟨ady, capy, ey, _⟩ := hpa.shape
          generalize parts.length = ny at *
          subst ey
          unfold styleV at HCP
          obtain ⟨cs, hos, hnext⟩ := hA.sty
          obtain ⟨b5, f5, hgw⟩ := hA.box 5
          obtain ⟨adz, capz, ez, _⟩ := own_shape hos
          have hst : (stylesUp ls (ch.take j) ++ (ls.getD k nilLocale).styles.take t).length ≤ 200000 := by
            rw [List.length_append, List.length_take, HLN.out.2.2]
            omega
          have HNX := hid hnext
          have HOS := hid hos
          have HBX := hid hA.2.2.1
          have HRJ := hid hrw
          have HB := hid hb
          have hszb := hb.size
          generalize hnz : (stylesUp ls (ch.take j) ++ (ls.getD k nilLocale).styles.take t).length = nz at *
          have HNZ := hid hnz
          subst ez
          have b5' : wr.cell? ⟨w.heap.size + 1, 5, none⟩ = some (.slice adz nz capz) := b5
          have b5a := (HUB.out.cell (p := ⟨w.heap.size + 1, 5, none⟩) hgw).trans b5'
          clear b5 hx hcs hnext hos hA hb hrw hnz hpa
          go_wp2
          go_region_law (first
              | (refine step_append_cells _ rfl (.tmp 56) (.tmp 59) 42 52 rfl (.agg #[.int .i64 0, .slice none 0 0]) 2 32 Tryz.underlying42 info_Style rfl (by decide) (by decide) w.heap.size (.slice adz nz capz) nz cs (by simp [Act.eval]) HOA.out (.slice (some ⟨wA.heap.size, 0, none⟩) 1 1) 1 [.int .i64 kind, .slice adq nq capq] (by simp [Act.eval]) HLIT.out (by omega) hszA ?_; intro v' wB h1 h2 h3; have hk := kind_grown HOA.out h2 (by decide) HBXA.out; have cB : wB.cell? ⟨w.heap.size + 1, 5, none⟩ = some (.slice adz nz capz) := (by rw [cell_of_row _ _ _ _ _ _ hk]; rfl); have fB : wB.frozen? ⟨w.heap.size + 1, 5, none⟩ = false := frozen_of_row _ _ _ _ _ hk; obtain ⟨adB, capB, eB, _⟩ := own_shape h1; subst eB; have HF := hid (And.intro h1 h2); clear h1 h2 h3 hk)
              | (go_simp; go_at_call 85; refine HCP.out.mono ?_; rintro e wA ⟨v', rfl, hSA, hbA⟩; obtain ⟨adq, capq, eq, _⟩ := hSA.now.shape; generalize parts.length = nq at eq; subst eq; have HBA := hid (up_trans HUB.out hbA); have b5b := (HBA.out.cell (p := ⟨w.heap.size + 1, 5, none⟩) hgw).trans b5'; have HUA := hid (up_trans HBA.out (up_alloc wA (.cells #[.int .i64 kind, .slice adq nq capq] 52))); have b5c := (HUA.out.cell (p := ⟨w.heap.size + 1, 5, none⟩) hgw).trans b5'; have HSA := hid (hSA.step (Keep.up (up_alloc wA (.cells #[.int .i64 kind, .slice adq nq capq] 52)))); have HOA := hid (owns_below HOS.out HUA.out); have HBXA := hid ((HUA.out.block _ hgw).trans HBX.out); have HLIT := hid (cells_lit wA 52 [.int .i64 kind, .slice adq nq capq] #[.int .i64 kind, .slice adq nq capq] rfl _ 1 2 rfl rfl (by intro u hu; simp at hu; rcases hu with rfl | rfl <;> rfl)); have hszA : w.heap.size ≤ (wA.alloc (.cells #[.int .i64 kind, .slice adq nq capq] 52)).heap.size := (by have := HUA.out.size; omega); clear hSA hbA))
          all_goals
            have hn3 := HNX.out _ wB (.slice adB (nz + 1) capB) [.int .i64 kind, .slice adq nq capq] [⟨kind, parts⟩] HUA.out HF.out.1 HF.out.2 (fun W kk => StyleC.one W ⟨kind, parts⟩ (.slice adq nq capq) (HSA.out W kk) (at_oneCellPartsAt (HSA.out W kk)))
            have HA4 := hid hn3.1
            have HRJ4 := hid (HRJ.out.step hn3.2)
            have HB4 : Hid (Below w.heap.size w (wB.setCell ⟨w.heap.size + 1, 5, none⟩ (.slice adB (nz + 1) capB))) := hid (((up_trans HB.out HUA.out).grown HF.out.2 hszA (fun q e => (World.ownsRow.lt HOS.out q e).1)).setCell (p := ⟨w.heap.size + 1, 5, none⟩) (Nat.le_succ _) _)
            obtain ⟨w4, hw4⟩ : ∃ w4, w4 = wB.setCell ⟨w.heap.size + 1, 5, none⟩ (.slice adB (nz + 1) capB) := ⟨_, rfl⟩
            rw [← hw4] at HA4 HRJ4 HB4 ⊢
            clear hn3 hw4 HNX HOS HBX HRJ HB HCP HUB b5' b5a f5 hgw b5b b5c HSA HOA HBXA HLIT HF cB fB
            go_wp2
            go_roundw
            case rel => exact ⟨t + 1, by omega, by simp, ⟨_, by rw [HTS.out, ← List.append_assoc]; exact HA4.out⟩, HRJ4.out, HB4.out⟩
            case measure => simp [intOf]; omega
        · obtain rfl : t = ns := by omega
          have hT : (ls.getD k nilLocale).styles.take t = (ls.getD k nilLocale).styles := List.take_of_length_le (by rw [HLN.out.2.2]; exact Nat.le_refl _)
          rw [hT] at hA
          have HA5 := hid hA
          have HRJ5 := hid hrw
          have HB5 := hid hb
          clear hA hrw hb
          go_wp2
          go_roundw
          case rel => exact ⟨j + 1, by omega, by simp, ⟨_, _, by rw [HTK.out.1, HTK.out.2]; exact HA5.out⟩, HRJ5.out, HB5.out⟩
          case measure => simp [intOf]; omega
    · obtain rfl : j = q := by omega
      rw [List.take_of_length_le (by rw [HQ.out]; exact Nat.le_refl _)] at hA
      have HA := hid hA
      have HB := hid hb
      clear hA hb hrw
      go_wp2_with fail
      refine (HRU.out wr HB.out).mono ?_
      rintro e w5 ⟨rv, cR, rfl, hRV, hRC, hnr, hb5⟩
      obtain ⟨B5, hB5⟩ : ∃ B5, B5 = wr.heap.size := ⟨_, rfl⟩
      rw [← hB5] at hRV
      clear hB5
      have HRC := hid hRC
      have hsz5 := hb5.size
      have HB5 := hid (up_trans HB.out hb5)
      have hw5 := HB5.out.size
      have HA5 : Hid (ResAt w5 w.heap.size w5.heap.size w.heap.size (w.heap.size + 1) id pa di (lexUp ls ch) [] (stylesUp ls ch) vl (.slice none 0 0) vs) := hid (by
        obtain ⟨p0, p1, p2, p3, _, p5⟩ := HA.out.on hb5
        exact ⟨p0, p1, p2, p3, ⟨[], World.ownsRow_nil _ _ _ _, Stay.all fun W => RuleC.nil W⟩, p5⟩)
      have HRV := hid hRV
      have HRX := hid (fun r (hr : r ∈ rulesOf ls i) => (show r.rhs.length ≤ 100000 ∧ r.p.length ≤ 100000 from by
        obtain ⟨kz, hk1, hk2⟩ := List.mem_flatMap.1 hr
        by_cases hlt' : kz.toNat < ls.length
        · exact (HXX.out _ (List.mem_of_getElem? (Locale_at hlt'))).2 r hk2
        · rw [List.getD_eq_getElem?_getD, List.getElem?_eq_none (by omega)] at hk2
          cases hk2))
      generalize rulesOf ls i = rs at *
      obtain ⟨adr, capr, er, _⟩ := own_shape hRV
      generalize hrn : rs.length = nr at *
      have HNR := hid hrn
      subst er
      clear hRV hRC hb5 hrn HA HB HRU
      go_wp2
      go_loopw [68] (fun v68 ws => ∃ t : Nat, t ≤ nr ∧ v68 = .int .i64 t ∧ (∃ vr, ResAt ws w.heap.size w5.heap.size w.heap.size (w.heap.size + 1) id pa di (lexUp ls ch) (rs.take t) (stylesUp ls ch) vl vr vs) ∧ ws.ownsRow B5 56 5 (.slice adr nr capr) nr cR ∧ Below w.heap.size w ws ∧ w5.heap.size ≤ ws.heap.size) (fun v _ => nr - (intOf v).toNat)
      case atStart => exact ⟨0, by omega, rfl, ⟨_, by rw [List.take_zero]; exact HA5.out⟩, HRV.out, HB5.out, Nat.le_refl _⟩
      case round =>
        obtain ⟨t, ht, rfl, ⟨vr, hA⟩, hrv, hb, hsz⟩ := hrel
        by_cases hts : t < nr
        · have hts2 : (t : Int) < (nr : Int) := by omega
          have HXS : Hid (rs[t]? = some (rs.getD t nilRule)) := hid (rule_at (by rw [HNR.out]; exact hts))
          have hpl := HRX.out _ (List.mem_of_getElem? HXS.out)
          have hx := HRC.out.2 t _ HXS.out
          have HTS : Hid (rs.take (t + 1) = rs.take t ++ [rs.getD t nilRule]) := hid (by rw [List.take_add_one, HXS.out]; rfl)
          generalize rs.getD t nilRule = x at *
          obtain ⟨lhs, rhs, op, pp, cost⟩ := x
          obtain ⟨y0, y1, m0, m1, m2, m3, m4, hr0, hr1, _, _⟩ := hx
          dsimp only at m0 m1 m2 m3 m4 hr0 hr1 hpl
          have hr0' := hr0.on hb
          have hr1' := hr1.on hb
          have HRV3 := hid hrv
          obtain ⟨gq, capq0, eq, hwq, _, hcq⟩ := own_at hrv (by omega)
          injection eq with eq1 eq2 eq3
          subst eq1 eq3
          clear eq2
          have n0 := hcq _ _ m0
          have n1 := hcq _ _ m1
          have n2 := hcq _ _ m2
          have n3 := hcq _ _ m3
          have n4 := hcq _ _ m4
          rw [Nat.add_zero] at n0
          have HUB := hid ((up_alloc wr (.cells #[.int .i64 lhs, y0, .int .i64 op, y1, .int .i64 cost] 56)).drew)
          have HCP := hid (copyRule_any ⟨lhs, rhs, op, pp, cost⟩ y0 y1 _ (hr0'.on HUB.out) (hr1'.on HUB.out) hpl.1 hpl.2)
          obtain ⟨ady0, capy0, ey0, _⟩ := hr0'
          obtain ⟨ady1, capy1, ey1, _⟩ := hr1'
          generalize rhs.length = ny0 at *
          generalize pp.length = ny1 at *
          subst ey0 ey1
          unfold ruleV at HCP
          obtain ⟨cr, hos, hnext⟩ := hA.rul
          obtain ⟨b4, f4, hgw⟩ := hA.box 4
          obtain ⟨adz, capz, ez, _⟩ := own_shape hos
          have hst : (rs.take t).length ≤ 100000 := by
            rw [List.length_take, HNR.out]
            omega
          have HNX := hid hnext
          have HOS := hid hos
          have HBX := hid hA.2.2.1
          have HB := hid hb
          have hszb := hb.size
          have hqlt := (World.ownsRow.lt HRV.out gq rfl).2
          have HNE : Hid (∀ kk, (Value.slice adz (rs.take t).length capz).ownBlock = some kk → w5.heap.size ≤ kk) := hid (fun kk e => by subst ez; exact (World.ownsRow.lt hos kk e).1)
          generalize hnz : (rs.take t).length = nz at *
          have HNZ := hid hnz
          subst ez
          have b4' : wr.cell? ⟨w.heap.size + 1, 4, none⟩ = some (.slice adz nz capz) := b4
          have b4a := (HUB.out.cell (p := ⟨w.heap.size + 1, 4, none⟩) hgw).trans b4'
          clear b4 hcq hnext hos hA hb hnz hr0 hr1 m0 m1 m2 m3 m4 hrv
          go_wp2
          go_region_law (first
              | (refine step_append_cells _ rfl (.tmp 73) (.tmp 76) 41 56 rfl (.agg #[.int .i64 0, .slice none 0 0, .int .i64 0, .slice none 0 0, .int .i64 0]) 5 72 Tryz.underlying41 info_Rule rfl (by decide) (by decide) w5.heap.size (.slice adz nz capz) nz cr (by simp [Act.eval]) HOA.out (.slice (some ⟨wA.heap.size, 0, none⟩) 1 1) 1 [.int .i64 lhs, .slice adq0 nq0 capq0, .int .i64 op, .slice adq1 nq1 capq1, .int .i64 cost] (by simp [Act.eval]) HLIT.out (by omega) hszA ?_; intro v' wB h1 h2 h3; have hk := kind_grown HOA.out h2 (by decide) HBXA.out; have cB : wB.cell? ⟨w.heap.size + 1, 4, none⟩ = some (.slice adz nz capz) := (by rw [cell_of_row _ _ _ _ _ _ hk]; rfl); have fB : wB.frozen? ⟨w.heap.size + 1, 4, none⟩ = false := frozen_of_row _ _ _ _ _ hk; obtain ⟨adB, capB, eB, _⟩ := own_shape h1; subst eB; have HF := hid (And.intro h1 (And.intro h2 hk)); clear h1 h2 h3 hk)
              | (go_simp; go_at_call 86; refine HCP.out.mono ?_; rintro e wA ⟨v', v'', rfl, hSA, hSB, hbA⟩; obtain ⟨adq0, capq0, eq0, _⟩ := hSA.now; obtain ⟨adq1, capq1, eq1, _⟩ := hSB.now; generalize rhs.length = nq0 at eq0; generalize pp.length = nq1 at eq1; subst eq0 eq1; have HBA := hid (up_trans HUB.out hbA); have b4b := (HBA.out.cell (p := ⟨w.heap.size + 1, 4, none⟩) hgw).trans b4'; have HUA := hid (up_trans HBA.out (up_alloc wA (.cells #[.int .i64 lhs, .slice adq0 nq0 capq0, .int .i64 op, .slice adq1 nq1 capq1, .int .i64 cost] 56))); have b4c := (HUA.out.cell (p := ⟨w.heap.size + 1, 4, none⟩) hgw).trans b4'; have HSA := hid (hSA.step (Keep.up (up_alloc wA (.cells #[.int .i64 lhs, .slice adq0 nq0 capq0, .int .i64 op, .slice adq1 nq1 capq1, .int .i64 cost] 56)))); have HSB := hid (hSB.step (Keep.up (up_alloc wA (.cells #[.int .i64 lhs, .slice adq0 nq0 capq0, .int .i64 op, .slice adq1 nq1 capq1, .int .i64 cost] 56)))); have HOA := hid (owns_below HOS.out HUA.out); have HBXA := hid ((HUA.out.block _ hgw).trans HBX.out); have HLIT := hid (cells_lit wA 56 [.int .i64 lhs, .slice adq0 nq0 capq0, .int .i64 op, .slice adq1 nq1 capq1, .int .i64 cost] #[.int .i64 lhs, .slice adq0 nq0 capq0, .int .i64 op, .slice adq1 nq1 capq1, .int .i64 cost] rfl _ 1 5 rfl rfl (by intro u hu; simp at hu; rcases hu with rfl | rfl | rfl | rfl | rfl <;> rfl)); have hszA : w5.heap.size ≤ (wA.alloc (.cells #[.int .i64 lhs, .slice adq0 nq0 capq0, .int .i64 op, .slice adq1 nq1 capq1, .int .i64 cost] 56)).heap.size := Nat.le_trans hsz HUA.out.size; clear hSA hSB hbA))
          all_goals
            have hn3 := HNX.out _ wB (.slice adB (nz + 1) capB) [.int .i64 lhs, .slice adq0 nq0 capq0, .int .i64 op, .slice adq1 nq1 capq1, .int .i64 cost] [⟨lhs, rhs, op, pp, cost⟩] HUA.out HF.out.1 HF.out.2.1 (fun W kk => RuleC.one W ⟨lhs, rhs, op, pp, cost⟩ (.slice adq0 nq0 capq0) (.slice adq1 nq1 capq1) (HSA.out W kk) (HSB.out W kk) rfl rfl)
            have HA4 := hid hn3.1
            have HRV4 : Hid ((wB.setCell ⟨w.heap.size + 1, 4, none⟩ (.slice adB (nz + 1) capB)).ownsRow B5 56 5 (.slice (some ⟨gq, 0, none⟩) nr capr) nr cR) := hid (own_set ((owns_below HRV3.out HUA.out).kept HF.out.2.1 (.inr (fun e => by have := HNE.out gq e.symm; omega))) HF.out.2.2 (by decide))
            have HB4 : Hid (Below w.heap.size w (wB.setCell ⟨w.heap.size + 1, 4, none⟩ (.slice adB (nz + 1) capB))) := hid (((up_trans HB.out HUA.out).grown HF.out.2.1 (Nat.le_trans hw5 hszA) (fun q e => Nat.le_trans hw5 (HNE.out q e))).setCell (p := ⟨w.heap.size + 1, 4, none⟩) (Nat.le_succ _) _)
            have hsz4 : w5.heap.size ≤ (wB.setCell ⟨w.heap.size + 1, 4, none⟩ (.slice adB (nz + 1) capB)).heap.size := by have := HF.out.2.1.size; simp [World.setCell] at this ⊢; simp at hszA; omega
            obtain ⟨w4, hw4⟩ : ∃ w4, w4 = wB.setCell ⟨w.heap.size + 1, 4, none⟩ (.slice adB (nz + 1) capB) := ⟨_, rfl⟩
            rw [← hw4] at HA4 HRV4 HB4 hsz4 ⊢
            clear hn3 hw4 HNX HOS HBX HB HCP HUB b4' b4a f4 hgw b4b b4c HSA HSB HOA HBXA HLIT HF cB fB n0 n1 n2 n3 n4
            go_wp2
            go_roundw
            case rel => exact ⟨t + 1, by omega, by simp, ⟨_, by rw [HTS.out]; exact HA4.out⟩, HRV4.out, HB4.out, hsz4⟩
            case measure => simp [intOf]; omega
        · obtain rfl : t = nr := by omega
          have hT : rs.take t = rs := List.take_of_length_le (by rw [HNR.out]; exact Nat.le_refl _)
          rw [hT] at hA
          have hlb := resOf_length ls HS.out ch
          rw [HQ.out] at hlb
          have HLB : Hid ((lexUp ls ch).length ≤ 1000000 ∧ (stylesUp ls ch).length ≤ 1000000) := hid ⟨by omega, by omega⟩
          obtain ⟨p0, p1, p2, ⟨cl, p3, p3'⟩, ⟨cr, p4, p4'⟩, ⟨cs, p5, p5'⟩⟩ := hA
          have HV0 := hid (Entries_own p3 p3' (by omega))
          have HV1 : Hid (RulesOk wr vr rs) := hid (rules_own p4 p4'.now (by rw [HNR.out]; omega))
          have HV2 := hid (Styles_own p5 p5'.now (by omega))
          have hz0 := (own_shape p3)
          have hz1 := (own_shape p4)
          have hz2 := (own_shape p5)
          obtain ⟨ada, capa, ea, _⟩ := hz0
          obtain ⟨adb, capb, eb, _⟩ := hz1
          obtain ⟨adc2, capc2, ec2, _⟩ := hz2
          have HK1 := hid p1
          have HK := hid (And.intro p3 (And.intro p4 (And.intro p5 (And.intro p3' (And.intro p4' p5')))))
          have HB := hid hb
          have hgne : w.heap.size ≠ w.heap.size + 1 := by omega
          generalize hn0 : (lexUp ls ch).length = l0 at ea
          generalize hn1 : rs.length = l1 at eb
          generalize hn2 : (stylesUp ls ch).length = l2 at ec2
          subst ea eb ec2
          have b0 : wr.cell? ⟨w.heap.size + 1, 0, none⟩ = some (.string id) := by rw [cell_of_row _ _ _ _ _ _ p2]; rfl
          have b1 : wr.cell? ⟨w.heap.size + 1, 1, none⟩ = some (.int .i64 pa) := by rw [cell_of_row _ _ _ _ _ _ p2]; rfl
          have b2 : wr.cell? ⟨w.heap.size + 1, 2, none⟩ = some (.int .i64 di) := by rw [cell_of_row _ _ _ _ _ _ p2]; rfl
          have b3 : wr.cell? ⟨w.heap.size + 1, 3, none⟩ = some (.slice ada l0 capa) := by rw [cell_of_row _ _ _ _ _ _ p2]; rfl
          have b4 : wr.cell? ⟨w.heap.size + 1, 4, none⟩ = some (.slice adb l1 capb) := by rw [cell_of_row _ _ _ _ _ _ p2]; rfl
          have b5 : wr.cell? ⟨w.heap.size + 1, 5, none⟩ = some (.slice adc2 l2 capc2) := by rw [cell_of_row _ _ _ _ _ _ p2]; rfl
          have z0 : wr.cell? ⟨w.heap.size, 0, none⟩ = some (.string ⟨#[]⟩) := by rw [cell_of_row _ _ _ _ _ _ p1]; rfl
          have z1 : wr.cell? ⟨w.heap.size, 1, none⟩ = some (.int .i64 0) := by rw [cell_of_row _ _ _ _ _ _ p1]; rfl
          have z2 : wr.cell? ⟨w.heap.size, 2, none⟩ = some (.int .i64 0) := by rw [cell_of_row _ _ _ _ _ _ p1]; rfl
          have z3 : wr.cell? ⟨w.heap.size, 3, none⟩ = some (.slice none 0 0) := by rw [cell_of_row _ _ _ _ _ _ p1]; rfl
          have z4 : wr.cell? ⟨w.heap.size, 4, none⟩ = some (.slice none 0 0) := by rw [cell_of_row _ _ _ _ _ _ p1]; rfl
          have z5 : wr.cell? ⟨w.heap.size, 5, none⟩ = some (.slice none 0 0) := by rw [cell_of_row _ _ _ _ _ _ p1]; rfl
          have y0 : wr.frozen? ⟨w.heap.size, 0, none⟩ = false := frozen_of_row _ _ _ _ _ p1
          have y1 : wr.frozen? ⟨w.heap.size, 1, none⟩ = false := frozen_of_row _ _ _ _ _ p1
          have y2 : wr.frozen? ⟨w.heap.size, 2, none⟩ = false := frozen_of_row _ _ _ _ _ p1
          have y3 : wr.frozen? ⟨w.heap.size, 3, none⟩ = false := frozen_of_row _ _ _ _ _ p1
          have y4 : wr.frozen? ⟨w.heap.size, 4, none⟩ = false := frozen_of_row _ _ _ _ _ p1
          have y5 : wr.frozen? ⟨w.heap.size, 5, none⟩ = false := frozen_of_row _ _ _ _ _ p1
          clear p0 p1 p2 p3 p3' p4 p4' p5 p5' hb hrv hT hn0 hn1 hn2 HV0 HV1 HV2
          go_wp2
          refine bodyPost_ret (v := localeV ⟨id, pa, di, lexUp ls ch, rs, stylesUp ls ch⟩ (.slice ada l0 capa) (.slice adb l1 capb) (.slice adc2 l2 capc2)) (results_cell_row rfl _ _ w.heap.size 44 _ (0, 0) _ rfl (set6_heap HK1.out _ _ _ _ _ _) Tryz.underlying44 rfl (by kernel_rfl)) rfl ?_
          have hg := grown_all [.string id, .int .i64 pa, .int .i64 di, .slice ada l0 capa, .slice adb l1 capb, .slice adc2 l2 capc2] wr w.heap.size 0
          have hk := KeepL.put HK1.out hg
          refine ⟨_, _, _, by rw [HRES.out], fun W kW => ?_, below_set6 HB.out (Nat.le_refl _) _ _ _ _ _ _⟩
          have hW := hk.trans kW
          rw [HRES.out]
          exact ⟨Entries_own (own_keepL HK.out.1 (by decide) hW) ⟨HK.out.2.2.2.1.1, HK.out.2.2.2.1.2⟩ HLB.out.1, rules_own (own_keepL HK.out.2.1 (by decide) hW) (HK.out.2.2.2.2.1 _ hW.keep) (by rw [HNR.out]; omega), Styles_own (own_keepL HK.out.2.2.1 (by decide) hW) (HK.out.2.2.2.2.2 _ hW.keep) HLB.out.2⟩

end Go.Proofs.YtohgaknojkdohaaGreatDoor

/- A name resolved: package blob's Resolve. -/
namespace Go.Proofs.YtohgaknojkdohaaGreatDoor
open Go.RowKit Gr

theorem res1_any (x : Locale) (id : ByteArray) (v0 v1 v2 : Value) (gi : Nat) (w : World) (hgi : w.cell? ⟨gi, 0, none⟩ = some (.string id)) :
    Calls Tryz.prog 45 #[localeV x v0 v1 v2, .pointer (some ⟨gi, 0, none⟩)] w fun e w' => e = .returned (.bool (decide (x.id = id))) ∧ Below w.heap.size w w' := by
  unfold localeV
  have k1 := lt_of_cell hgi
  dsimp only at k1
  have e1 : (w.alloc (.cells #[.string x.id, .int .i64 x.parent, .int .i64 x.digits, v0, v1, v2] 44)).cell? ⟨w.heap.size, 0, none⟩ = some (.string x.id) := by rw [new_cell]; rfl
  have e2 := ((up_alloc w (.cells #[.string x.id, .int .i64 x.parent, .int .i64 x.digits, v0, v1, v2] 44)).cell (p := ⟨gi, 0, none⟩) k1).trans hgi
  have HB := hid (up_alloc w (.cells #[.string x.id, .int .i64 x.parent, .int .i64 x.digits, v0, v1, v2] 44))
  go_enter Tryz.func45, Tryz.ntmps45
  go_wp2
  go_ret
  refine ⟨ret_bool ?_, HB.out⟩
  by_cases q : x.id = id
  · simp [q]
  · simp [q, toList_inj q]

/-- Where the first of that name is; -1, if none is. -/
def Found (ls : List Locale) (id : ByteArray) (k : Int) : Prop := (k = -1 ∧ ∀ x ∈ ls, x.id ≠ id) ∨ ∃ i : Nat, k = (i : Int) ∧ i < ls.length ∧ (ls.getD i nilLocale).id = id ∧ ∀ j, j < i → (ls.getD j nilLocale).id ≠ id

theorem index_id (gi : Nat) (id : ByteArray) (ls : List Locale) (v : Value) (w : World) (hgi : w.cell? ⟨gi, 0, none⟩ = some (.string id)) (hv : LocalesAt w v ls) :
    Calls Tryz.prog 44 #[v, .func (.func 45) #[] #[.pointer (some ⟨gi, 0, none⟩)]] w fun e w' => ∃ k : Int, e = .returned (.int .i64 k) ∧ Found ls id k ∧ Below w.heap.size w w' := by
  obtain ⟨ad, cap, rfl, hmx, _, hc⟩ := hv
  have HC := hid hc
  clear hc
  generalize hlen : ls.length = n at *
  have HL := hid hlen
  clear hlen
  go_enter Tryz.func44, Tryz.ntmps44
  go_wp2
  go_loopw [8] (fun v wr => ∃ j : Nat, j ≤ n ∧ v = .int .i64 j ∧ Hid (∀ q, q < j → (ls.getD q nilLocale).id ≠ id) ∧ Below w.heap.size w wr) (fun v _ => n - (intOf v).toNat)
  case atStart => exact ⟨0, by omega, rfl, hid (fun q h => by omega), Below.refl _ _⟩
  case round =>
    obtain ⟨j, hj, rfl, ht, hb⟩ := hrel
    by_cases hlt : j < n
    · obtain ⟨g, o, rfl, hcj⟩ := HC.out j hlt
      have HJ : Hid (∀ y, y = ls.getD j nilLocale → y = ls.getD j nilLocale) := hid (fun _ h => h)
      obtain ⟨x, hx⟩ : ∃ x, x = ls.getD j nilLocale := ⟨_, rfl⟩
      rw [← hx] at hcj
      have HX := hid hx
      clear hx HJ
      obtain ⟨v0, v1, v2, c0, c1, c2, c3, c4, c5, q0, q1, q2⟩ := hcj.on hb
      obtain ⟨ad0, cap0, rfl, hm0⟩ := q0.shape
      obtain ⟨ad1, cap1, rfl, hm1⟩ := q1.shape
      obtain ⟨ad2, cap2, rfl, hm2⟩ := q2.shape
      have HB := hid hb
      clear hb hcj q0 q1 q2
      have hlt2 : (j : Int) < (n : Int) := by omega
      have hgi2 := (HB.out.cell (lt_of_cell hgi)).trans hgi
      have HP := hid (res1_any x id (.slice ad0 x.lex.length cap0) (.slice ad1 x.rules.length cap1) (.slice ad2 x.styles.length cap2) gi wr hgi2)
      unfold localeV at HP
      clear hgi2
      cases hp : decide (x.id = id) with
      | false =>
        rw [hp] at HP
        go_wp2_with fail
        refine HP.out.mono ?_
        rintro e w1 ⟨rfl, bel⟩
        have HB2 := hid (up_trans HB.out bel)
        clear bel
        go_wp2
        go_roundw
        case rel => exact ⟨j + 1, by omega, by simp, hid (fun q hq => by
          by_cases e : q = j
          · subst e; rw [← HX.out]; exact of_decide_eq_false hp
          · exact ht.out q (by omega)), HB2.out⟩
        case measure => simp [intOf]; omega
      | true =>
        rw [hp] at HP
        go_wp2_with fail
        refine HP.out.mono ?_
        rintro e w1 ⟨rfl, bel⟩
        have HB2 := hid (up_trans HB.out bel)
        clear bel
        go_wp2
        go_ret
        exact ⟨_, rfl, .inr ⟨j, rfl, by rw [HL.out]; exact hlt, by rw [← HX.out]; exact of_decide_eq_true hp, ht.out⟩, HB2.out⟩
    · obtain rfl : j = n := by omega
      have HB := hid hb
      clear hb
      go_wp2
      go_ret
      refine ⟨_, rfl, .inl ⟨rfl, fun x hx => ?_⟩, HB.out⟩
      obtain ⟨q, hq, e⟩ := List.getElem_of_mem hx
      have := ht.out q (by rw [← HL.out]; exact hq)
      rw [List.getD_eq_getElem?_getD, List.getElem?_eq_getElem hq] at this
      rw [← e]
      exact this

theorem results_cell_tmp {fn : Func} {p q : Tmp} {ty : TypeId} (h : fn.results = #[.cell p ty, .tmp q]) (tmps : Array Value) (w : World) (g : Nat) (cs : Array Value)
    (hp : tmps.getD p undef = .pointer (some ⟨g, 0, none⟩)) (hl : (loadVar ty ⟨g, 0, none⟩).run Tryz.prog w = .ok (.agg cs) w) :
    (results fn tmps).run Tryz.prog w = .ok (.tuple #[.agg cs, tmps.getD q undef]) w := by
  have hp' : tmps[p]?.getD undef = .pointer (some ⟨g, 0, none⟩) := by simpa using hp
  simp [results, h, hp', asAddr, hl]

/-- What Resolve leaves. -/
def Resolved (w : World) (ls : List Locale) (id : ByteArray) (e : Ending) (w' : World) : Prop :=
  Below w.heap.size w w' ∧ ((rightL ls = true ∧ ∃ i, i < ls.length ∧ (ls.getD i nilLocale).id = id ∧ (∀ j, j < i → (ls.getD j nilLocale).id ≠ id) ∧ ∃ v0 v1 v2, e = .returned (.tuple #[localeV (resOf ls i) v0 v1 v2, .bool true]) ∧ Stl w' (fun W => LocaleAt W (resOf ls i) v0 v1 v2)) ∨
    ((rightL ls = false ∨ ∀ x ∈ ls, x.id ≠ id) ∧ e = .returned (.tuple #[localeV nilLocale (.slice none 0 0) (.slice none 0 0) (.slice none 0 0), .bool false])))

set_option maxRecDepth 8000 in
theorem Resolve_any (ls : List Locale) (id : ByteArray) (v : Value) (w : World) (hl : LocalesAt w v ls) (hS : Small ls) (hT : Tabs w) (hX : ∀ x ∈ ls, (∀ s ∈ x.styles, s.parts.length ≤ 100000) ∧ (∀ r ∈ x.rules, r.rhs.length ≤ 100000 ∧ r.p.length ≤ 100000)) :
    Calls Tryz.prog 23 #[v, .string id] w (Resolved w ls id) := by
  have HL := hid hl
  have HU := hid (((Below.refl w.heap.size w).alloc (Nat.le_refl _) (.cells #[.string id] 9)).alloc (by simp) (.cells #[.string ⟨#[]⟩, .int .i64 0, .int .i64 0, .slice none 0 0, .slice none 0 0, .slice none 0 0] 44))
  have HR := hid (bright_any ls v _ (hl.on HU.out) hS (hT.on HU.out))
  have HX0 := hid (row_new w (.cells #[.string id] 9))
  have HX1 := hid (row_new' (w.alloc (.cells #[.string id] 9)) (.cells #[.string ⟨#[]⟩, .int .i64 0, .int .i64 0, .slice none 0 0, .slice none 0 0, .slice none 0 0] 44) (w.heap.size + 1) (by simp))
  have HS := hid hS
  have HXX := hid hX
  have hmf : ∀ (fn : Fn) (first cap : Array Value) (w : World), (Instr.makeFunc fn first cap).run Tryz.prog w = .ok (.func fn first cap) w := fun _ _ _ _ => rfl
  obtain ⟨ad, cap, ev, hm⟩ := hl.shape
  generalize hn : ls.length = n at *
  have HN := hid hn
  subst ev
  clear hl hS hT hX hn
  go_enter Tryz.func23, Tryz.ntmps23
  go_wp2_with fail
  refine HR.out.mono ?_
  rintro e w1 ⟨rfl, hb⟩
  have HB1 := hid (up_trans HU.out hb)
  have k0 := ((hb.block w.heap.size (by simp; omega)).trans (Below.heap_alloc _ _ _ (by simp))).trans HX0.out
  have k1 := (hb.block (w.heap.size + 1) (by simp)).trans HX1.out
  have HK0 := hid k0
  have HK1 := hid k1
  have hs1 : w.heap.size + 1 < w1.heap.size := (Array.getElem?_eq_some_iff.1 k1).1
  have a0 : w1.cell? ⟨w.heap.size, 0, none⟩ = some (.string id) := by rw [cell_of_row _ _ _ _ _ _ k0]; rfl
  clear hb k0 k1 HR HX0 HX1
  cases hi : rightL ls with
  | false =>
    have d0 : w1.cell? ⟨w.heap.size + 1, 0, none⟩ = some (.string ⟨#[]⟩) := by rw [cell_of_row _ _ _ _ _ _ HK1.out]; rfl
    have d1 : w1.cell? ⟨w.heap.size + 1, 1, none⟩ = some (.int .i64 0) := by rw [cell_of_row _ _ _ _ _ _ HK1.out]; rfl
    have d2 : w1.cell? ⟨w.heap.size + 1, 2, none⟩ = some (.int .i64 0) := by rw [cell_of_row _ _ _ _ _ _ HK1.out]; rfl
    have d3 : w1.cell? ⟨w.heap.size + 1, 3, none⟩ = some (.slice none 0 0) := by rw [cell_of_row _ _ _ _ _ _ HK1.out]; rfl
    have d4 : w1.cell? ⟨w.heap.size + 1, 4, none⟩ = some (.slice none 0 0) := by rw [cell_of_row _ _ _ _ _ _ HK1.out]; rfl
    have d5 : w1.cell? ⟨w.heap.size + 1, 5, none⟩ = some (.slice none 0 0) := by rw [cell_of_row _ _ _ _ _ _ HK1.out]; rfl
    have g0 : ∀ c, w1.frozen? ⟨w.heap.size + 1, c, none⟩ = false := fun c => frozen_of_row _ _ _ _ _ HK1.out
    go_wp2
    refine bodyPost_ret (results_cell_tmp rfl _ _ (w.heap.size + 1) _ rfl (run_loadVar_row _ _ 44 44 _ (0, 0) _ (set6_heap HK1.out _ _ _ _ _ _) Tryz.underlying44 rfl (by kernel_rfl))) rfl ?_
    exact ⟨below_set6 HB1.out (Nat.le_succ _) _ _ _ _ _ _, .inr ⟨.inl hi, rfl⟩⟩
  | true =>
    have hl10 := rightL_length hi
    have hpar := rightL_par hi
    have HI := hid (index_id w.heap.size id ls _ w1 a0 (HL.out.on HB1.out))
    go_wp2_with fail
    refine HI.out.mono ?_
    rintro e w2 ⟨k, rfl, hF, hb⟩
    have HB2 := hid (up_trans HB1.out hb)
    have HK2 := hid ((hb.block _ hs1).trans HK1.out)
    clear hb HI
    rcases hF with ⟨rfl, hno⟩ | ⟨i, rfl, hin, hid', hfirst⟩
    · have d0 : w2.cell? ⟨w.heap.size + 1, 0, none⟩ = some (.string ⟨#[]⟩) := by rw [cell_of_row _ _ _ _ _ _ HK2.out]; rfl
      have d1 : w2.cell? ⟨w.heap.size + 1, 1, none⟩ = some (.int .i64 0) := by rw [cell_of_row _ _ _ _ _ _ HK2.out]; rfl
      have d2 : w2.cell? ⟨w.heap.size + 1, 2, none⟩ = some (.int .i64 0) := by rw [cell_of_row _ _ _ _ _ _ HK2.out]; rfl
      have d3 : w2.cell? ⟨w.heap.size + 1, 3, none⟩ = some (.slice none 0 0) := by rw [cell_of_row _ _ _ _ _ _ HK2.out]; rfl
      have d4 : w2.cell? ⟨w.heap.size + 1, 4, none⟩ = some (.slice none 0 0) := by rw [cell_of_row _ _ _ _ _ _ HK2.out]; rfl
      have d5 : w2.cell? ⟨w.heap.size + 1, 5, none⟩ = some (.slice none 0 0) := by rw [cell_of_row _ _ _ _ _ _ HK2.out]; rfl
      have g0 : ∀ c, w2.frozen? ⟨w.heap.size + 1, c, none⟩ = false := fun c => frozen_of_row _ _ _ _ _ HK2.out
      have HNO := hid hno
      clear hno
      go_wp2
      refine bodyPost_ret (results_cell_tmp rfl _ _ (w.heap.size + 1) _ rfl (run_loadVar_row _ _ 44 44 _ (0, 0) _ (set6_heap HK2.out _ _ _ _ _ _) Tryz.underlying44 rfl (by kernel_rfl))) rfl ?_
      exact ⟨below_set6 HB2.out (Nat.le_succ _) _ _ _ _ _ _, .inr ⟨.inr HNO.out, rfl⟩⟩
    · have hpi : Par ls i := fun j hj => hpar j (by omega)
      have HF := hid (And.intro hin (And.intro hid' hfirst))
      have HRE := hid (resolve_any ls _ i w2 (HL.out.on HB2.out) hin (by omega) hpi HS.out HXX.out)
      have HRI := hid hi
      clear hin hid' hfirst hpi hpar hi
      go_wp2_with fail
      refine HRE.out.mono ?_
      rintro e w3 ⟨v0, v1, v2, rfl, hA, hb⟩
      have HB3 := hid (up_trans HB2.out hb)
      have hs2 : w.heap.size + 1 < w2.heap.size := (Array.getElem?_eq_some_iff.1 HK2.out).1
      have HK3 := hid ((hb.block _ hs2).trans HK2.out)
      have HA := hid hA
      obtain ⟨ad0, cap0, e0, _⟩ := hA.now.1.shape
      obtain ⟨ad1, cap1, e1, _⟩ := hA.now.2.1.shape
      obtain ⟨ad2, cap2, e2, _⟩ := hA.now.2.2.shape
      have d0 : w3.cell? ⟨w.heap.size + 1, 0, none⟩ = some (.string ⟨#[]⟩) := by rw [cell_of_row _ _ _ _ _ _ HK3.out]; rfl
      have d1 : w3.cell? ⟨w.heap.size + 1, 1, none⟩ = some (.int .i64 0) := by rw [cell_of_row _ _ _ _ _ _ HK3.out]; rfl
      have d2 : w3.cell? ⟨w.heap.size + 1, 2, none⟩ = some (.int .i64 0) := by rw [cell_of_row _ _ _ _ _ _ HK3.out]; rfl
      have d3 : w3.cell? ⟨w.heap.size + 1, 3, none⟩ = some (.slice none 0 0) := by rw [cell_of_row _ _ _ _ _ _ HK3.out]; rfl
      have d4 : w3.cell? ⟨w.heap.size + 1, 4, none⟩ = some (.slice none 0 0) := by rw [cell_of_row _ _ _ _ _ _ HK3.out]; rfl
      have d5 : w3.cell? ⟨w.heap.size + 1, 5, none⟩ = some (.slice none 0 0) := by rw [cell_of_row _ _ _ _ _ _ HK3.out]; rfl
      have g0 : ∀ c, w3.frozen? ⟨w.heap.size + 1, c, none⟩ = false := fun c => frozen_of_row _ _ _ _ _ HK3.out
      obtain ⟨y, hy⟩ : ∃ y, y = resOf ls i := ⟨_, rfl⟩
      have HY := hid hy
      rw [← hy] at HA e0 e1 e2 ⊢
      obtain ⟨yid, ypa, ydi, ylx, yrl, yst⟩ := y
      dsimp only at e0 e1 e2
      unfold localeV
      dsimp only
      generalize ylx.length = l0 at e0
      generalize yrl.length = l1 at e1
      generalize yst.length = l2 at e2
      subst e0 e1 e2
      clear hy hA hb
      go_wp2
      refine bodyPost_ret (results_cell_tmp rfl _ _ (w.heap.size + 1) _ rfl (run_loadVar_row _ _ 44 44 _ (0, 0) _ (set6_heap HK3.out _ _ _ _ _ _) Tryz.underlying44 rfl (by kernel_rfl))) rfl ?_
      have hg := grown_all [.string yid, .int .i64 ypa, .int .i64 ydi, .slice ad0 l0 cap0, .slice ad1 l1 cap1, .slice ad2 l2 cap2] w3 (w.heap.size + 1) 0
      exact ⟨below_set6 HB3.out (Nat.le_succ _) _ _ _ _ _ _, .inl ⟨HRI.out, i, HF.out.1, HF.out.2.1, HF.out.2.2, .slice ad0 l0 cap0, .slice ad1 l1 cap1, .slice ad2 l2 cap2, by rw [← HY.out]; rfl, by rw [← HY.out]; exact HA.out.step (KeepL.put HK3.out hg)⟩⟩

end Go.Proofs.YtohgaknojkdohaaGreatDoor

/- What is read: parse, and Decode. -/
namespace Go.Proofs.YtohgaknojkdohaaGreatDoor
open Go.RowKit Gr

theorem pLocale_small {bs : List Int} {x : Locale} {r : List Int} (h : pLocale bs = some (x, r)) : x.rules.length ≤ 10000 ∧ x.lex.length ≤ 10000 ∧ x.styles.length ≤ 10000 ∧ x.id.size ≤ 1000000 := by
  simp only [pLocale, Option.bind_eq_some_iff, Prod.exists] at h
  obtain ⟨a, _, h1, b, _, _, c, _, _, d, _, h4, e, _, h5, f, _, h6, h7⟩ := h
  simp only [Option.some.injEq, Prod.mk.injEq] at h7
  rw [← h7.1]
  have k1 := pText_size h1
  have k4 := pList_length h4
  have k5 := pList_length h5
  have k6 := pList_length h6
  refine ⟨?_, ?_, ?_, ?_⟩ <;> simp only <;> omega
theorem parsed_small {bs : List Int} {ls : List Locale} (h : parsed bs = some ls) : Small ls := by
  simp only [parsed, Option.bind_eq_some_iff, Prod.exists] at h
  obtain ⟨a, b, h1, h2⟩ := h
  split at h2
  · simp only [Option.some.injEq] at h2
    subst h2
    exact fun x hx => pList_all (Q := fun x => x.rules.length ≤ 10000 ∧ x.lex.length ≤ 10000 ∧ x.styles.length ≤ 10000 ∧ x.id.size ≤ 1000000) (fun _ _ _ h => pLocale_small h) h1 x hx
  · cases h2

/-- Bytes that are handed in. -/
def BIn (w : World) (v : Value) (bs : List Int) : Prop :=
  ∃ (ad : Option Addr) (cap : Nat), v = .slice ad bs.length cap ∧ (Byt bs ∧ bs.length ≤ 1000000 ∧ bs.length ≤ cap ∧ cap ≤ maxLen) ∧
    ((ad = none ∧ cap = 0 ∧ bs = []) ∨ ∃ b o, ad = some ⟨b, o, none⟩ ∧ b < w.heap.size ∧ ∀ j, j < bs.length → w.cell? ⟨b, o + j, none⟩ = some (.int .u8 (bs.getD j 0)))
theorem BIn.on {w w' : World} {v : Value} {bs : List Int} (h : BIn w v bs) (hb : Below w.heap.size w w') : BIn w' v bs := by
  obtain ⟨ad, cap, h1, h2, h3⟩ := h
  refine ⟨ad, cap, h1, h2, ?_⟩
  rcases h3 with h3 | ⟨b, o, e, hlt, hc⟩
  · exact .inl h3
  · exact .inr ⟨b, o, e, Nat.lt_of_lt_of_le hlt hb.size, fun j hj => (hb.cell (lt_of_cell (hc j hj))).trans (hc j hj)⟩
theorem BIn.shape {w : World} {v : Value} {bs : List Int} (h : BIn w v bs) : ∃ ad cap, v = .slice ad bs.length cap := by
  obtain ⟨ad, cap, h1, _⟩ := h
  exact ⟨ad, cap, h1⟩
theorem BIn.nil (w : World) : BIn w (.slice none 0 0) [] := ⟨none, 0, rfl, ⟨fun z h => (nomatch h), by decide, by decide, by decide⟩, .inl ⟨rfl, rfl, rfl⟩⟩

theorem catch_panicking (a b : Nat) (x y : Value) (u : TypeId) (pv : Value) (older : List PanicEntry) (w : World) (hab : b ≠ a) (hx : w.heap[a]? = some (.cells #[x] 26 (0, 0))) (hy : w.heap[b]? = some (.cells #[y] 4 (0, 0))) :
    CallsD Tryz.prog 63 #[.pointer (some ⟨a, 0, none⟩), .pointer (some ⟨b, 0, none⟩)] (.panicking ({ v := .iface u pv, recovered := false } :: older)) w fun e u' w' =>
      e = .returned (.tuple #[]) ∧ u' = .panicking ({ v := .iface u pv, recovered := true } :: older) ∧ w' = (w.setCell ⟨a, 0, none⟩ (.slice none 0 0)).setCell ⟨b, 0, none⟩ (.bool false) := by
  have c0 : w.cell? ⟨a, 0, none⟩ = some x := by rw [cell_of_row _ _ _ _ _ _ hx]; rfl
  have c1 : w.cell? ⟨b, 0, none⟩ = some y := by rw [cell_of_row _ _ _ _ _ _ hy]; rfl
  have f0 : w.frozen? ⟨a, 0, none⟩ = false := frozen_of_row _ _ _ _ _ hx
  have f1 : w.frozen? ⟨b, 0, none⟩ = false := frozen_of_row _ _ _ _ _ hy
  have c2 : (w.setCell ⟨a, 0, none⟩ (.slice none 0 0)).cell? ⟨b, 0, none⟩ = some y := ((set_by w a 0 _).cell_far _ (lt_of_cell c1) (fun e => hab (by injection e))).trans c1
  refine callsD_of_wpS Tryz.func63 rfl fun c₀ cs hu => ?_
  apply wpS_seq
  apply wpS_region
  simp [wpOpsS, go_sem, recoverD, hu, Tryz.ntmps63, Exit.thenS]
  refine wpS_cond (t := true) (by simp [Act.eval, Array.replicate]) ?_
  simp only [if_true]
  apply wpS_region
  simp [wpOpsS, go_sem, c0, c2, f0, f1, bodyPostS, results, Tryz.results63]

theorem catch_idle (a b : Nat) (w : World) :
    CallsD Tryz.prog 63 #[.pointer (some ⟨a, 0, none⟩), .pointer (some ⟨b, 0, none⟩)] .returning w fun e u' w' => e = .returned (.tuple #[]) ∧ u' = .returning ∧ w' = w := by
  refine callsD_of_wpS Tryz.func63 rfl fun c₀ cs hu => ?_
  apply wpS_seq
  apply wpS_region
  simp [wpOpsS, go_sem, recoverD, hu, Tryz.ntmps63, Exit.thenS]
  refine wpS_cond (t := false) (by simp [Act.eval, Array.replicate]) ?_
  simp only [Bool.false_eq_true, if_false]
  refine wpS_of_wp (wp_skip ?_)
  cases c₀
  simp_all [bodyPostS, results, Tryz.results63]

/-- What parse leaves. -/
def Parsed (w : World) (bs : List Int) (e : Ending) (w' : World) : Prop :=
  Below w.heap.size w w' ∧ match parsed bs with
    | some ls => ∃ lv, e = .returned (.tuple #[lv, .bool true]) ∧ LocalesAt w' lv ls
    | none => ∃ lv, e = .returned (.tuple #[lv, .bool false]) ∧ ∃ ad n cap, lv = .slice ad n cap

set_option maxRecDepth 8000 in
theorem parse_any (bs : List Int) (v : Value) (w : World) (h : BIn w v bs) : Calls Tryz.prog 35 #[v] w (Parsed w bs) := by
  obtain ⟨ad, cap, rfl, hb, h3⟩ := h
  have hmf : ∀ (fn : Fn) (first cap : Array Value) (w : World), (Instr.makeFunc fn first cap).run Tryz.prog w = .ok (.func fn first cap) w := fun _ _ _ _ => rfl
  obtain ⟨w0, hw0⟩ : ∃ w0, w0 = ((w.alloc (.cells #[.slice none 0 0] 26)).alloc (.cells #[.bool false] 4)).alloc (.cells #[.slice ad bs.length cap] 117) := ⟨_, rfl⟩
  have hs0 : w0.heap.size = w.heap.size + 3 := by rw [hw0]; simp
  have HB0 : Hid (Below w.heap.size w w0) := hid (by rw [hw0]; exact (((Below.refl _ _).alloc (Nat.le_refl _) _).alloc (by simp) _).alloc (by simp; omega) _)
  have HL0 : Hid (w0.heap[w.heap.size]? = some (.cells #[.slice none 0 0] 26 (0, 0))) := hid (by rw [hw0, Below.heap_alloc _ _ _ (by simp; omega), Below.heap_alloc _ _ _ (by simp)]; exact row_new w _)
  have HI0 : Hid (w0.heap[w.heap.size + 1]? = some (.cells #[.bool false] 4 (0, 0))) := hid (by rw [hw0, Below.heap_alloc _ _ _ (by simp)]; have := row_new (w.alloc (.cells #[.slice none 0 0] 26)) (.cells #[.bool false] 4); simpa using this)
  have HR0 : Hid (Rd w0 (w.heap.size + 2) bs) := hid (by
    refine ⟨ad, cap, ?_, hb, ?_⟩
    · rw [hw0]
      have := row_new ((w.alloc (.cells #[.slice none 0 0] 26)).alloc (.cells #[.bool false] 4)) (.cells #[.slice ad bs.length cap] 117)
      simpa using this
    · rcases h3 with h3 | ⟨b, o, e, hlt, hc⟩
      · exact .inl h3
      · exact .inr ⟨b, o, e, by omega, fun j hj => (HB0.out.cell hlt).trans (hc j hj)⟩)
  clear hb h3
  generalize bs.length = L at *
  go_enter_defers Tryz.func35, Tryz.ntmps35
  go_wp2_with fail
  rw [← hw0]
  refine (get_Locale 10 (by decide) (w.heap.size + 1 + 1) bs w0 HR0.out).mono ?_
  rintro e w1 hr
  have hg := hr.grown
  have hs1 : w.heap.size + 2 < w1.heap.size := by have := hg.size; omega
  have hL1 := (hg.block w.heap.size (by omega) (fun e => by injection e with e; omega)).trans HL0.out
  have hI1 := (hg.block (w.heap.size + 1) (by omega) (fun e => by injection e with e; omega)).trans HI0.out
  have HB1 : Hid (Below w.heap.size w w1) := hid (HB0.out.grown hg (by omega) (fun k e => by injection e with e; omega))
  clear hw0
  cases hp : pList 10 pLocale bs with
  | none =>
    obtain rfl := hr.of_none hp
    have HP : Hid (parsed bs = none) := hid (by unfold parsed pLocales; rw [hp]; rfl)
    have HC := hid (catch_panicking w.heap.size (w.heap.size + 1) _ _ 164 (.agg #[]) [] w1 (by omega) hL1 hI1)
    have HL2 := hid (heap_setCell_same w1 w.heap.size 0 _ _ (.slice none 0 0) hL1)
    have HI2 := hid hI1
    clear hr hg hL1 hI1 hp
    go_wp2
    refine leaves_cons (f := 63) (args := #[.pointer (some ⟨w.heap.size, 0, none⟩), .pointer (some ⟨w.heap.size + 1, 0, none⟩)]) (by simp) (by simp [go_sem]) ?_
    refine HC.out.mono ?_
    rintro e u' w'' ⟨rfl, rfl, rfl⟩
    have c0 : (w1.setCell ⟨w.heap.size, 0, none⟩ (.slice none 0 0)).cell? ⟨w.heap.size, 0, none⟩ = some (.slice none 0 0) := by rw [cell_of_row _ _ _ _ _ _ HL2.out]; rfl
    have hI3 := heap_setCell_same (w1.setCell ⟨w.heap.size, 0, none⟩ (.slice none 0 0)) (w.heap.size + 1) 0 _ _ (.bool false) ((Below.heap_setCell w1 ⟨w.heap.size, 0, none⟩ _ (w.heap.size + 1) (by simp)).trans HI2.out)
    have c1 : ((w1.setCell ⟨w.heap.size, 0, none⟩ (.slice none 0 0)).setCell ⟨w.heap.size + 1, 0, none⟩ (.bool false)).cell? ⟨w.heap.size + 1, 0, none⟩ = some (.bool false) := by rw [cell_of_row _ _ _ _ _ _ hI3]; rfl
    simp [Leaves, settle, results, Tryz.results35, go_sem, c0, c1]
    exact ⟨(HB1.out.setCell (p := ⟨w.heap.size, 0, none⟩) (Nat.le_refl _) _).setCell (p := ⟨w.heap.size + 1, 0, none⟩) (by simp) _, by rw [HP.out]; exact ⟨_, rfl, _, _, _, rfl⟩⟩
  | some y =>
    obtain ⟨ls, r⟩ := y
    obtain ⟨lv, rfl, hR, hO⟩ := hr.of_some hp
    have HO := hid hO
    obtain ⟨adl, capl, el, _⟩ := hO.now.shape
    obtain ⟨nl, hnl⟩ : ∃ nl, nl = ls.length := ⟨_, rfl⟩
    rw [← hnl] at el
    subst el
    obtain ⟨adr, capr, hr1, _, _⟩ := hR
    have c0 : w1.cell? ⟨w.heap.size, 0, none⟩ = some (.slice none 0 0) := by rw [cell_of_row _ _ _ _ _ _ hL1]; rfl
    have f0 : w1.frozen? ⟨w.heap.size, 0, none⟩ = false := frozen_of_row _ _ _ _ _ hL1
    have c1 : w1.cell? ⟨w.heap.size + 1, 0, none⟩ = some (.bool false) := by rw [cell_of_row _ _ _ _ _ _ hI1]; rfl
    have f1 : w1.frozen? ⟨w.heap.size + 1, 0, none⟩ = false := frozen_of_row _ _ _ _ _ hI1
    have c2 : w1.cell? ⟨w.heap.size + 1 + 1, 0, none⟩ = some (.slice adr r.length capr) := by rw [cell_of_row _ _ _ _ _ _ hr1]; rfl
    have HD : Hid (parsed bs = if r = [] then some ls else none) := hid (by unfold parsed pLocales; rw [hp]; rfl)
    have HRN : Hid ((r.length = 0) ↔ r = []) := hid List.length_eq_zero_iff
    have HL1 := hid hL1
    have HI1 := hid hI1
    clear hr hg hL1 hI1 hp hO hnl hr1
    generalize r.length = nr at *
    go_wp2
    have HL2 := hid (heap_setCell_same w1 w.heap.size 0 _ _ (.slice adl nl capl) HL1.out)
    obtain ⟨w2, hw2⟩ : ∃ w2, w2 = w1.setCell ⟨w.heap.size, 0, none⟩ (.slice adl nl capl) := ⟨_, rfl⟩
    have hB2 : ∀ k, k ≠ w.heap.size → w2.heap[k]? = w1.heap[k]? := fun k hk => by rw [hw2]; exact Below.heap_setCell _ _ _ _ hk
    rw [← hw2] at HL2 ⊢
    have d0 : w2.cell? ⟨w.heap.size, 0, none⟩ = some (.slice adl nl capl) := by rw [cell_of_row _ _ _ _ _ _ HL2.out]; rfl
    have d1 : w2.cell? ⟨w.heap.size + 1, 0, none⟩ = some (.bool false) := by rw [hw2, World.cell?_setCell_other _ _ _ _ (by simp)]; exact c1
    have d2 : w2.cell? ⟨w.heap.size + 1 + 1, 0, none⟩ = some (.slice adr nr capr) := by rw [hw2, World.cell?_setCell_other _ _ _ _ (by simp)]; exact c2
    have g0 : w2.frozen? ⟨w.heap.size, 0, none⟩ = false := frozen_of_row _ _ _ _ _ HL2.out
    have g1 : w2.frozen? ⟨w.heap.size + 1, 0, none⟩ = false := by rw [hw2, World.frozen?_setCell]; exact f1
    have HI2 := hid ((hB2 (w.heap.size + 1) (by omega)).trans HI1.out)
    have HW2 := hid hw2
    clear hw2 hB2 c0 c1 c2 f0 f1 HL1 HI1
    apply key_cut
    case rest =>
      intro key
      go_region
      all_goals exact key
    have HL3 := hid (heap_setCell_same w2 w.heap.size 0 _ _ (.slice adl nl capl) HL2.out)
    have HI3 := hid (heap_setCell_same (w2.setCell ⟨w.heap.size, 0, none⟩ (.slice adl nl capl)) (w.heap.size + 1) 0 _ _ (.bool ((nr : Int) == 0)) ((Below.heap_setCell w2 ⟨w.heap.size, 0, none⟩ _ (w.heap.size + 1) (by simp)).trans HI2.out))
    have HB3 : Hid (Below w.heap.size w ((w2.setCell ⟨w.heap.size, 0, none⟩ (.slice adl nl capl)).setCell ⟨w.heap.size + 1, 0, none⟩ (.bool ((nr : Int) == 0)))) := hid (by
      rw [HW2.out]
      exact ((HB1.out.setCell (p := ⟨w.heap.size, 0, none⟩) (Nat.le_refl _) _).setCell (p := ⟨w.heap.size, 0, none⟩) (Nat.le_refl _) _).setCell (p := ⟨w.heap.size + 1, 0, none⟩) (by simp) _)
    have HLA : Hid (LocalesAt ((w2.setCell ⟨w.heap.size, 0, none⟩ (.slice adl nl capl)).setCell ⟨w.heap.size + 1, 0, none⟩ (.bool ((nr : Int) == 0))) (.slice adl nl capl) ls) := hid (by
      refine HO.out _ ?_
      rw [HW2.out]
      exact ((Up.of_grown (set_by w1 w.heap.size 0 _) (fun q e => by injection e with e; omega)).trans (Up.of_grown (set_by _ w.heap.size 0 _) (fun q e => by injection e with e; omega))).trans (Up.of_grown (set_by _ (w.heap.size + 1) 0 _) (fun q e => by injection e with e; omega)))
    have c0 : ((w2.setCell ⟨w.heap.size, 0, none⟩ (.slice adl nl capl)).setCell ⟨w.heap.size + 1, 0, none⟩ (.bool ((nr : Int) == 0))).cell? ⟨w.heap.size, 0, none⟩ = some (.slice adl nl capl) := by rw [World.cell?_setCell_other _ _ _ _ (by simp), cell_of_row _ _ _ _ _ _ HL3.out]; rfl
    have c1 : ((w2.setCell ⟨w.heap.size, 0, none⟩ (.slice adl nl capl)).setCell ⟨w.heap.size + 1, 0, none⟩ (.bool ((nr : Int) == 0))).cell? ⟨w.heap.size + 1, 0, none⟩ = some (.bool ((nr : Int) == 0)) := by rw [cell_of_row _ _ _ _ _ _ HI3.out]; rfl
    have c2 : (w2.setCell ⟨w.heap.size, 0, none⟩ (.slice adl nl capl)).cell? ⟨w.heap.size, 0, none⟩ = some (.slice adl nl capl) := by rw [cell_of_row _ _ _ _ _ _ HL3.out]; rfl
    go_wp2
    refine leaves_cons (f := 63) (args := #[.pointer (some ⟨w.heap.size, 0, none⟩), .pointer (some ⟨w.heap.size + 1, 0, none⟩)]) (by simp) (by simp [go_sem]) ?_
    refine (catch_idle _ _ _).mono ?_
    rintro e u' w'' ⟨rfl, rfl, rfl⟩
    simp [Leaves, settle, results, Tryz.results35, go_sem, c1, c2]
    refine ⟨HB3.out.drew, ?_⟩
    by_cases hr : r = []
    · rw [HD.out, if_pos hr]
      have : nr = 0 := HRN.out.2 hr
      exact ⟨.slice adl nl capl, by simp [this], HLA.out.on (Below.refl _ _).drew⟩
    · rw [HD.out, if_neg hr]
      have : nr ≠ 0 := fun e => hr (HRN.out.1 e)
      exact ⟨.slice adl nl capl, by simp [this], _, _, _, rfl⟩

/-- What Decode leaves. -/
def Decoded (w : World) (bs : List Int) (e : Ending) (w' : World) : Prop :=
  Below w.heap.size w w' ∧ match decL bs with
    | some ls => ∃ lv, e = .returned (.tuple #[lv, .bool true]) ∧ LocalesAt w' lv ls
    | none => e = .returned (.tuple #[.slice none 0 0, .bool false])

set_option maxRecDepth 8000 in
theorem decode_any (bs : List Int) (v : Value) (w : World) (h : BIn w v bs) (hT : Tabs w) : Calls Tryz.prog 15 #[v] w (Decoded w bs) := by
  have HC := hid (parse_any bs v w h)
  have HT := hid hT
  obtain ⟨ad, cap, rfl⟩ := h.shape
  clear h hT
  generalize bs.length = L at *
  go_enter Tryz.func15, Tryz.ntmps15
  go_wp2_with fail
  refine HC.out.mono ?_
  rintro e w1 ⟨hb, hp⟩
  have HB := hid hb
  clear HC
  cases hq : parsed bs with
  | none =>
    rw [hq] at hp
    obtain ⟨lv, rfl, ad2, n2, cap2, rfl⟩ := hp
    have HD : Hid (decL bs = none) := hid (by unfold decL; rw [hq]; rfl)
    clear hb hq
    go_wp2
    go_ret2
    exact ⟨HB.out, by rw [HD.out]; rfl⟩
  | some ls =>
    rw [hq] at hp
    obtain ⟨lv, rfl, hA⟩ := hp
    have HA := hid hA
    have HR := hid (bright_any ls lv w1 hA (parsed_small hq) (HT.out.on hb))
    have HD : Hid (decL bs = if rightL ls = true then some ls else none) := hid (by unfold decL; rw [hq]; rfl)
    obtain ⟨ad2, cap2, ev, _⟩ := hA.shape
    obtain ⟨n2, hn2⟩ : ∃ n2, n2 = ls.length := ⟨_, rfl⟩
    rw [← hn2] at ev
    subst ev
    clear hb hq hA hn2
    go_wp2_with fail
    refine HR.out.mono ?_
    rintro e w2 ⟨rfl, hb2⟩
    have HB2 := hid (HB.out.trans (hb2.mono HB.out.size))
    have HA2 := hid (HA.out.on hb2)
    clear hb2
    cases hi : rightL ls with
    | true =>
      have HD2 := hid (HD.out.trans (if_pos hi))
      clear hi
      go_wp2
      go_ret2
      exact ⟨HB2.out, by rw [HD2.out]; exact ⟨_, rfl, HA2.out⟩⟩
    | false =>
      have HD2 := hid (HD.out.trans (if_neg (by rw [hi]; decide)))
      clear hi
      go_wp2
      go_ret2
      exact ⟨HB2.out, by rw [HD2.out]; rfl⟩

end Go.Proofs.YtohgaknojkdohaaGreatDoor
