/- The reference's Reached answers what the document says of rules, round by round till nothing is new. -/
import Derived.Test.YtgpkgkmjppphgaaDoorRefUnits
namespace Go.Proofs.YtgpkgkmjppphgaaDoor
open Go.RowKit

def slLen : Value → Nat
  | .slice _ n _ => n
  | _ => 0
def bitOf : Value → Nat
  | .bool true => 1
  | _ => 0
/-- What a round has come to: the set, whether it has grown. -/
structure RSt (rs : List Rule) (s s2 : Nat → Bool) (b : Bool) (i : Nat) : Prop where
  sound : RSound rs s2
  grow : (symL s).length ≤ (symL s2).length
  more : b = true → (symL s).length < (symL s2).length
  closed : b = false → RClosed rs s2 i
/-- Within a rule, k of its parts are done. -/
structure RIn (rs : List Rule) (s s2 : Nat → Bool) (b : Bool) (i : Nat) (r : Rule) (k : Nat) : Prop where
  st : RSt rs s s2 b i
  lhs : s2 r.lhs.toNat = true
  part : b = false → ∀ x ∈ r.rhs.take k, 0 ≤ x → s2 x.toNat = true

theorem RIn.neg {rs : List Rule} {s s2 : Nat → Bool} {b : Bool} {i k : Nat} {r : Rule} (h : RIn rs s s2 b i r k) {x : Int} (hx : r.rhs[k]? = some x) (h0 : ¬ 0 ≤ x) : RIn rs s s2 b i r (k + 1) :=
  ⟨h.st, h.lhs, fun hb y hy hy0 => by
    rw [List.take_add_one, hx] at hy
    rcases List.mem_append.1 hy with hy | hy
    · exact h.part hb y hy hy0
    · simp at hy; omega⟩
theorem RIn.old {rs : List Rule} {s s2 : Nat → Bool} {b : Bool} {i k m : Nat} {r : Rule} (h : RIn rs s s2 b i r k) (hx : r.rhs[k]? = some (m : Int)) (hm : s2 m = true) : RIn rs s s2 b i r (k + 1) :=
  ⟨h.st, h.lhs, fun hb y hy hy0 => by
    rw [List.take_add_one, hx] at hy
    rcases List.mem_append.1 hy with hy | hy
    · exact h.part hb y hy hy0
    · simp at hy; subst hy; simpa using hm⟩
theorem RIn.new {rs : List Rule} (hr : rs.all right = true) {s s2 : Nat → Bool} {b : Bool} {i k m : Nat} {r : Rule} (h : RIn rs s s2 b i r k) (hmem : r ∈ rs) (hx : r.rhs[k]? = some (m : Int)) (hm : m < 20) (hf : s2 m = false) : RIn rs s (addS s2 m) true i r (k + 1) := by
  have h1 := rsound_add hr h.st.sound hmem h.lhs (List.mem_of_getElem? hx) (by omega)
  rw [show ((m : Int)).toNat = m by simp] at h1
  have h2 := addS_length hm hf
  have h3 := h.st.grow
  exact ⟨⟨h1, by omega, fun _ => by omega, fun e => by cases e⟩, addS_mono h.lhs, fun e => by cases e⟩
theorem RIn.done {rs : List Rule} {s s2 : Nat → Bool} {b : Bool} {i : Nat} {r : Rule} (h : RIn rs s s2 b i r r.rhs.length) (hx : rs[i]? = some r) : RSt rs s s2 b (i + 1) :=
  ⟨h.st.sound, h.st.grow, h.st.more, fun hb j q hj hq hl x hxm h0 => by
    by_cases e : j = i
    · subst e
      obtain rfl := Option.some.inj (hx.symm.trans hq)
      exact h.part hb x (by rw [List.take_length]; exact hxm) h0
    · exact h.st.closed hb j q (by omega) hq hl x hxm h0⟩
theorem RSt.skip {rs : List Rule} {s s2 : Nat → Bool} {b : Bool} {i : Nat} {r : Rule} (h : RSt rs s s2 b i) (hx : rs[i]? = some r) (hf : s2 r.lhs.toNat = false) : RSt rs s s2 b (i + 1) :=
  ⟨h.sound, h.grow, h.more, fun hb j q hj hq hl x hxm h0 => by
    by_cases e : j = i
    · subst e
      obtain rfl := Option.some.inj (hx.symm.trans hq)
      rw [hf] at hl; cases hl
    · exact h.closed hb j q (by omega) hq hl x hxm h0⟩

set_option maxRecDepth 4000 in
set_option maxHeartbeats 8000000 in
theorem rreached_any (rs : List Rule) (v : Value) (w : World) (h : RulesAt w v rs) (hr : rs.all right = true) : Calls Tryd.prog 25 #[v] w fun e w' => ∃ u, e = .returned u ∧ RowNew w' w.heap.size u (reachedL rs) ∧ Below w.heap.size w w' := by
  have HRA := hid hr
  have H := hid h
  have HP := hid put_any
  obtain ⟨ad, cap, rfl, hmx, hc⟩ := h
  have HC := hid hc
  clear hc hr
  generalize hlen : rs.length = n at *
  have HL := hid hlen
  clear hlen
  go_enter Tryd.func25, Tryd.ntmps25
  go_wp2
  go_loopw [3, 4] (fun v3 v4 wr => ∃ (s : Nat → Bool) (b : Bool), v4 = .bool b ∧ RowNew wr w.heap.size v3 (symL s) ∧ Hid (RSound rs s) ∧ Hid (b = false → RClosed rs s n) ∧ Below w.heap.size w wr) (fun v3 v4 _ => (20 - slLen v3) + bitOf v4)
  case atStart =>
    refine ⟨fun j => decide (j = 0), true, rfl, ?_, hid ⟨by simp, fun j _ hj => (show j = 0 by simpa using hj) ▸ reachedS_zero rs⟩, hid (fun e => by cases e), up_alloc _ _⟩
    have : symL (fun j => decide (j = 0)) = [0] := by decide
    rw [this]
    exact rowNew_one w _ (Nat.le_refl _) 0 _ rfl
  case round =>
    obtain ⟨s, b, rfl, hrow, HS, HCL, hb⟩ := hrel
    have hL20 := symL_length s
    obtain ⟨ad3, cap3, e3⟩ := hrow.shape
    subst e3
    have HROW := hid hrow
    have HB := hid hb
    clear hrow hb
    cases b with
    | false =>
      have HE : Hid (symL s = reachedL rs) := hid (rclosed_all HRA.out HS.out (by rw [HL.out]; exact HCL.out rfl))
      go_wp2
      go_ret
      exact ⟨_, rfl, HE.out ▸ HROW.out, HB.out⟩
    | true =>
      go_wp2
      go_loopw [3, 4, 5] (fun v3 v4 v5 wr => ∃ (s2 : Nat → Bool) (b : Bool) (i : Nat), i ≤ n ∧ v5 = .int .i64 i ∧ v4 = .bool b ∧ RowNew wr w.heap.size v3 (symL s2) ∧ Hid (RSt rs s s2 b i) ∧ Below w.heap.size w wr) (fun _ _ v5 _ => n - (intOf v5).toNat)
      case atStart => exact ⟨s, false, 0, by omega, rfl, rfl, HROW.out, hid ⟨HS.out, Nat.le_refl _, fun e => (by cases e), fun _ j q hj => absurd hj (Nat.not_lt_zero _)⟩, HB.out⟩
      case round =>
        obtain ⟨s2, b, i, hi, rfl, rfl, hrow, HST, hb⟩ := hrel
        have hL2 := symL_length s2
        obtain ⟨ad4, cap4, e4⟩ := hrow.shape
        generalize hl2 : (symL s2).length = l2 at *
        have HL2 := hid hl2
        subst e4
        clear hl2
        by_cases hlt : i < n
        · obtain ⟨g, o, rfl, hcj⟩ := HC.out i hlt
          have HX : Hid (rs[i]? = some (rs.getD i nilRule)) := hid (rule_at (by rw [HL.out]; exact hlt))
          generalize rs.getD i nilRule = r at *
          have HR := hid (List.all_eq_true.1 HRA.out r (List.mem_of_getElem? HX.out))
          have hlhs := right_lhs HR.out
          obtain ⟨L, hLe⟩ : ∃ L : Nat, r.lhs = (L : Int) := ⟨r.lhs.toNat, by omega⟩
          have hL20' : L < 20 := by omega
          have HLE := hid hLe
          have HRIN := hid hcj
          obtain ⟨sv, pv, c0, c1, c2, c3, c4, h5, h6⟩ := hcj.on hb
          rw [hLe] at c0
          have HCELL : Hid (w.cell? ⟨g, o + i * 5, none⟩ = some (.int .i64 (L : Int))) := hid (by obtain ⟨_, _, d0, _⟩ := hcj; rw [hLe] at d0; exact d0)
          have HROW2 := hid hrow
          have HB2 := hid hb
          have hsz := hb.size
          have hlt2 : (i : Int) < (n : Int) := by omega
          clear hcj hrow hb hlhs hLe c2 c3 c4
          go_wp2_with fail
          refine (HP.out s2 L hL20' _ wr w.heap.size hsz HROW2.out).mono ?_
          rintro e w4 ⟨u, rfl, hu, bel⟩
          have HB4 := hid (up_trans HB2.out bel)
          have HROW4 := hid (HROW2.out.on bel)
          obtain ⟨adu, capu, eu⟩ := hu.shape
          subst eu
          have c1' := (bel.cell (lt_of_cell c1)).trans c1
          have H5 := hid (h5.on bel)
          clear bel hu c0 c1 h5 h6
          cases hs2 : s2 L with
          | false =>
            rw [addS_length hL20' hs2, HL2.out]
            have HSK := hid (HST.out.skip HX.out (by rw [HLE.out]; simpa using hs2))
            clear hs2
            have hne : (((l2 + 1 : Nat) : Int) != (l2 : Int)) = true := by simp; omega
            go_wp2
            go_roundw
            case rel => exact ⟨s2, b, i + 1, by omega, by simp, rfl, HROW4.out, hid HSK.out, HB4.out⟩
            case measure => simp [intOf]; omega
          | true =>
            rw [addS_of hs2, HL2.out]
            have HIN0 : Hid (RIn rs s s2 b i r 0) := hid ⟨HST.out, by rw [HLE.out]; simpa using hs2, fun _ x hx => by simp at hx⟩
            clear hs2
            obtain ⟨ads, caps, hsv, hms, hcs⟩ := H5.out
            subst hsv
            have HC1 : Hid (w4.cell? ⟨g, o + i * 5 + 1, none⟩ = some (.slice ads r.rhs.length caps)) := hid c1'
            have HRM := hid (List.mem_of_getElem? HX.out)
            have HCS := hid hcs
            have HRP := hid (fun x (hx : x ∈ r.rhs) => right_part HR.out hx)
            have hr6 := right_rhs HR.out
            generalize hrl : r.rhs.length = m at *
            have HRLN := hid hrl
            clear hrl hcs
            go_wp2
            go_loopw [3, 4, 6] (fun v3 v4 v6 wr => ∃ (s3 : Nat → Bool) (b : Bool) (k : Nat), k ≤ m ∧ v6 = .int .i64 k ∧ v4 = .bool b ∧ RowNew wr w.heap.size v3 (symL s3) ∧ Hid (RIn rs s s3 b i r k) ∧ Below w4.heap.size w4 wr) (fun _ _ v6 _ => m - (intOf v6).toNat)
            case atStart => exact ⟨s2, b, 0, by omega, rfl, rfl, HROW4.out, HIN0, Below.refl _ _⟩
            case round =>
              obtain ⟨s3, b3, k, hk, rfl, rfl, hrow, HIN, hb⟩ := hrel
              have hL3 := symL_length s3
              obtain ⟨ad5, cap5, e5⟩ := hrow.shape
              generalize hl3 : (symL s3).length = l3 at *
              have HL3 := hid hl3
              subst e5
              clear hl3
              have c5 := (hb.cell (lt_of_cell HC1.out)).trans HC1.out
              have HROW5 := hid hrow
              have HB5 := hid (up_trans HB4.out hb)
              have HB45 := hid hb
              have hsz5 := HB5.out.size
              clear c1'
              by_cases hltk : k < m
              · have hltk2 : (k : Int) < (m : Int) := by omega
                obtain ⟨a, rfl, hcell⟩ := HCS.out k hltk
                have hcell5 := (hb.cell (lt_of_cell hcell)).trans hcell
                have HY : Hid (r.rhs[k]? = some (r.rhs.getD k 0)) := hid (getD_at (by rw [HRLN.out]; exact hltk))
                generalize r.rhs.getD k 0 = y at *
                clear hrow hb hcell
                by_cases hy0 : 0 ≤ y
                · obtain ⟨q, rfl⟩ : ∃ q : Nat, y = (q : Int) := ⟨y.toNat, by omega⟩
                  have hq20 : q < 20 := by have := HRP.out _ (List.mem_of_getElem? HY.out); omega
                  have hqn : ¬ ((q : Int) < 0) := by omega
                  go_wp2_with fail
                  refine (HP.out s3 q hq20 _ wr w.heap.size hsz5 HROW5.out).mono ?_
                  rintro e w6 ⟨u, rfl, hu, bel⟩
                  have HU := hid hu
                  have HB6 := hid (up_trans HB45.out bel)
                  obtain ⟨adv, capv, ev⟩ := hu.shape
                  subst ev
                  clear bel hu
                  cases hs3 : s3 q with
                  | true =>
                    rw [addS_of hs3] at HU
                    rw [addS_of hs3, HL3.out]
                    have HIN2 := hid (HIN.out.old HY.out hs3)
                    clear hs3
                    cases b3 with
                    | true =>
                      go_wp2
                      go_roundw
                      case rel => exact ⟨s3, true, k + 1, by omega, by simp, rfl, by have := HU.out; rw [HL3.out] at this; exact this, HIN2, HB6.out⟩
                      case measure => simp [intOf]; omega
                    | false =>
                      go_wp2
                      go_roundw
                      case rel => exact ⟨s3, false, k + 1, by omega, by simp, by simp, by have := HU.out; rw [HL3.out] at this; exact this, HIN2, HB6.out⟩
                      case measure => simp [intOf]; omega
                  | false =>
                    have hal := addS_length hq20 hs3
                    rw [HL3.out] at hal
                    rw [hal] at HU
                    rw [hal]
                    have HIN2 := hid (HIN.out.new HRA.out HRM.out HY.out hq20 hs3)
                    clear hs3 hal
                    have hgt : (l3 : Int) < ((l3 + 1 : Nat) : Int) := by omega
                    cases b3 with
                    | true =>
                      go_wp2
                      go_roundw
                      case rel => exact ⟨addS s3 q, true, k + 1, by omega, by simp, rfl, HU.out, HIN2, HB6.out⟩
                      case measure => simp [intOf]; omega
                    | false =>
                      go_wp2
                      go_roundw
                      case rel => exact ⟨addS s3 q, true, k + 1, by omega, by simp, (by simp; omega), HU.out, HIN2, HB6.out⟩
                      case measure => simp [intOf]; omega
                · have HIN2 := hid (HIN.out.neg HY.out hy0)
                  have hy1 : y < 0 := by omega
                  clear hy0
                  go_wp2
                  go_roundw
                  case rel => exact ⟨s3, b3, k + 1, by omega, by simp, rfl, HROW5.out, HIN2, HB45.out⟩
                  case measure => simp [intOf]; omega
              · obtain rfl : k = m := by omega
                have HD := hid (RIn.done (r := r) (by rw [HRLN.out]; exact HIN.out) HX.out)
                clear hrow hb
                go_wp2
                go_roundw
                case rel => exact ⟨s3, b3, i + 1, by omega, by simp, rfl, HROW5.out, HD, HB5.out⟩
                case measure => simp [intOf]; omega
        · obtain rfl : i = n := by omega
          have HROW2 := hid hrow
          have HB2 := hid hb
          clear hrow hb
          go_wp2
          go_roundw
          case rel => exact ⟨s2, b, rfl, HROW2.out, hid HST.out.sound, hid HST.out.closed, HB2.out⟩
          case measure =>
            have h1 := HST.out.grow
            have h2 := HST.out.more
            have h3 := HL2.out
            cases b with
            | false => simp [slLen, bitOf]; omega
            | true => have := h2 rfl; simp [slLen, bitOf]; omega

end Go.Proofs.YtgpkgkmjppphgaaDoor
