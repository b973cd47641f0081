/- FoldJoined answers true of any two rows of numbers: whole signs one behind the other have both's signs. The table of noughts reads as the program's text lays it. -/
import Derived.Test.YtigolkgojckciaaDoorCards
import Derived.Test.YtigolkgojckciaaDoorTie
import Derived.Test.YtigolkgojckciaaDoorArgs
import Derived.Test.YtigolkgojckciaaDoorRefFold
import Derived.ProofKit
import Derived.OpenShut
import Derived.Lay
import Derived.SevenTiedAt
import Derived.Stop.Joined
import Derived.Lib.LaidTab
import Derived.Carry
namespace Go.Proofs.YtigolkgojckciaaDoor
open Go.ChangeShapes Go.WideShapes Go.ChangeAt Go.RowKit

def wholeL : List Int := [97, 196, 8364, 128512, 32, 65313, 53]
theorem whole_ok (k : Nat) (h : k < 7) : okRune (wholeL.getD k 0) := by
  have : ∀ k : Fin 7, (0 ≤ wholeL.getD k.1 0 ∧ wholeL.getD k.1 0 < 55296) ∨ (57344 ≤ wholeL.getD k.1 0 ∧ wholeL.getD k.1 0 ≤ 1114111) := by decide
  exact this ⟨k, h⟩
theorem whole_cell {w : World} {g : Nat} {t : TypeId} {fr : Nat × Nat} (hg : w.heap[g]? = some (.cells #[.string ⟨#[97]⟩, .string ⟨#[195, 132]⟩, .string ⟨#[226, 130, 172]⟩, .string ⟨#[240, 159, 152, 128]⟩, .string ⟨#[32]⟩, .string ⟨#[239, 188, 161]⟩, .string ⟨#[53]⟩] t fr)) (k : Nat) (hk : k < 7) : w.cell? ⟨g, k, none⟩ = some (.string ⟨(Lib.encodeRune (wholeL.getD k 0)).toArray⟩) := by
  have e : (#[.string ⟨#[97]⟩, .string ⟨#[195, 132]⟩, .string ⟨#[226, 130, 172]⟩, .string ⟨#[240, 159, 152, 128]⟩, .string ⟨#[32]⟩, .string ⟨#[239, 188, 161]⟩, .string ⟨#[53]⟩] : Array Value) = (wholeL.map fun r => Value.string ⟨(Lib.encodeRune r).toArray⟩).toArray := by kernel_rfl
  rw [cell_of_row w g _ _ t fr hg, e]
  have : k < wholeL.length := by simpa [wholeL] using hk
  simp [List.getD, this]

theorem mk_app' (a b : List UInt8) : (⟨a.toArray⟩ : ByteArray) ++ ⟨b.toArray⟩ = ⟨(a ++ b).toArray⟩ := by
  rw [ByteArray.mk_append_mk]
theorem sz (l : List UInt8) : (⟨l.toArray⟩ : ByteArray).size = l.length := by simp [ByteArray.size]
theorem flat_snoc (rs : List Int) (r : Int) : (⟨(rs.flatMap Lib.encodeRune).toArray⟩ : ByteArray) ++ ⟨(Lib.encodeRune r).toArray⟩ = ⟨((rs ++ [r]).flatMap Lib.encodeRune).toArray⟩ := by
  rw [mk_app', List.flatMap_append]; simp
theorem flat_join (rs ts : List Int) : (⟨(rs.flatMap Lib.encodeRune).toArray⟩ : ByteArray) ++ ⟨(ts.flatMap Lib.encodeRune).toArray⟩ = ⟨((rs ++ ts).flatMap Lib.encodeRune).toArray⟩ := by
  rw [mk_app', List.flatMap_append]

theorem places_skip : ∀ (rs ts : List Int) (p : Nat), (∀ r ∈ rs, okRune r) → (∀ r ∈ ts, okRune r) → (places p ((rs ++ ts).map fun r => (r.toNat, (Lib.encodeRune r).length)) ++ [((p + ((rs ++ ts).flatMap Lib.encodeRune).length : Nat) : Int)]).getD rs.length 0 = ((p + (rs.flatMap Lib.encodeRune).length : Nat) : Int)
  | [], [], p, _, _ => by simp [places]
  | [], t :: ts, p, _, _ => by simp [places]
  | r :: rs, ts, p, h1, h2 => by
    have := places_skip rs ts (p + (Lib.encodeRune r).length) (fun x hx => h1 x (by simp [hx])) h2
    simp only [List.cons_append, List.map_cons, places, List.length_cons, List.flatMap_cons, List.length_append, List.getD_cons_succ] at this ⊢
    rw [show p + ((Lib.encodeRune r).length + ((rs ++ ts).flatMap Lib.encodeRune).length) = p + (Lib.encodeRune r).length + ((rs ++ ts).flatMap Lib.encodeRune).length by omega, this]
    congr 1
    omega
theorem places_mid (rs ts : List Int) (h1 : ∀ r ∈ rs, okRune r) (h2 : ∀ r ∈ ts, okRune r) : (placesOf ((rs ++ ts).flatMap Lib.encodeRune)).getD rs.length 0 = ((rs.flatMap Lib.encodeRune).length : Int) := by
  unfold placesOf
  rw [signsOf_flat (rs ++ ts) (by intro r hr; rcases List.mem_append.1 hr with h | h; exact h1 r h; exact h2 r h)]
  have := places_skip rs ts 0 h1 h2
  simpa using this

theorem i64_cells {W : World} {g : Nat} {xs : List Int} (h : Holds W g 0 xs) : ∀ j u, (xs.map (Value.int .i64))[j]? = some u → W.cell? ((⟨g, 0, none⟩ : Addr).add j) = some u := by
  intro j u hu
  have hj : j < xs.length := by have := (List.getElem?_eq_some_iff.1 hu).1; simpa using this
  have e : ((⟨g, 0, none⟩ : Addr).add j) = ⟨g, j, none⟩ := by unfold Addr.add; split <;> simp_all
  have := h j hj
  rw [Nat.zero_add] at this
  rw [e, this, ← hu]
  simp [List.getD, hj]
theorem i64_ones (xs : List Int) : ∀ u ∈ xs.map (Value.int .i64), u.oneCell' = true := by
  intro u hu
  simp only [List.mem_map] at hu
  obtain ⟨x, _, rfl⟩ := hu
  rfl

set_option maxHeartbeats 8000000 in
theorem walk (v0 : Value) (ns : List Int) (v1 : Value) (ms : List Int) (w : World) (h0 : Arg w .i64 v0 ns) (h1 : Arg w .i64 v1 ms) (hT : Tab w) :
    Calls Tryd.prog 7 #[v0, v1] w fun e w' => e = .returned (.bool true) ∧ Below w.heap.size w w' := by
  have HK := hid (known_any w hT)
  obtain ⟨ad0, cap0, rfl, hl0, hm0, hn0, hc0, hw0⟩ := h0
  obtain ⟨ad1, cap1, rfl, hl1, hm1, hn1, hc1, hw1⟩ := h1
  have HC0 := hid hc0
  have HC1 := hid hc1
  have HW0 := hid hw0
  have HW1 := hid hw1
  have HN0 := hid hn0
  have HN1 := hid hn1
  clear hc0 hc1 hw0 hw1 hn0 hn1
  obtain ⟨n, hn⟩ : ∃ n, n = ns.length := ⟨_, rfl⟩
  obtain ⟨m, hm⟩ : ∃ m, m = ms.length := ⟨_, rfl⟩
  rw [← hn] at hl0 ⊢
  rw [← hm] at hl1 ⊢
  have HN := hid hn
  have HM := hid hm
  clear hn hm
  unfold maxLen at hm0 hm1
  have HT := hid hT
  clear hT
  obtain ⟨i0, hi, hz0, hz1, hz2⟩ := info_parts Tryd.info3
  go_enter Tryd.func7, Tryd.ntmps7
  go_wp2_with fail
  refine HK.out.mono ?_
  rintro e w1 ⟨rfl, bel⟩
  have HL1 := hid bel
  clear bel
  go_wp2
  obtain ⟨W, hW⟩ : ∃ W, W = w1.alloc (.cells #[.string ⟨#[97]⟩, .string ⟨#[195, 132]⟩, .string ⟨#[226, 130, 172]⟩, .string ⟨#[240, 159, 152, 128]⟩, .string ⟨#[32]⟩, .string ⟨#[239, 188, 161]⟩, .string ⟨#[53]⟩] 9) := ⟨_, rfl⟩
  rw [← hW]
  have hG : W.heap[w1.heap.size]? = some (.cells #[.string ⟨#[97]⟩, .string ⟨#[195, 132]⟩, .string ⟨#[226, 130, 172]⟩, .string ⟨#[240, 159, 152, 128]⟩, .string ⟨#[32]⟩, .string ⟨#[239, 188, 161]⟩, .string ⟨#[53]⟩] 9 (0, 0)) := by rw [hW]; exact row_new _ _
  have HL := hid (up_trans HL1.out (show Below w1.heap.size w1 W by rw [hW]; exact up_alloc _ _))
  have HG := hid hG
  have HTW := hid (HT.out.on HL.out)
  clear hW hG
  go_loopw [6, 8] (fun v6 v8 wr => ∃ (j : Nat) (rs : List Int), j ≤ 20 ∧ j ≤ n ∧ v8 = .int .i64 j ∧ v6 = .string ⟨(rs.flatMap Lib.encodeRune).toArray⟩ ∧ rs.length = j ∧ Hid (∀ r ∈ rs, okRune r) ∧ wr = W) (fun _ v8 _ => 20 - (intOf v8).toNat)
  case atStart => exact ⟨0, [], by omega, by omega, rfl, rfl, rfl, hid (by simp), rfl⟩
  case round =>
    obtain ⟨j, rs, hj, hjn, rfl, rfl, hrl, hok, rfl⟩ := hrel
    have hfl := flat_length rs
    by_cases c1 : j < n ∧ j < 20
    · obtain ⟨a0, rfl⟩ : ∃ a0, ad0 = some a0 := by
        cases ad0 with
        | none => have := (HN0.out rfl).1; have h2 := HN.out; rw [this] at h2; simp at h2; omega
        | some a0 => exact ⟨a0, rfl⟩
      have hjl : j < ns.length := by have := HN.out; omega
      obtain ⟨x, hx⟩ : ∃ x, x = ns.getD j 0 := ⟨_, rfl⟩
      have cx : wr.cell? (a0.add j) = some (.int .i64 x) := by
        have h3 := HC0.out a0 rfl j hjl
        rw [hx, (HL.out.cell (lt_of_cell h3)).trans h3]
      clear hx hjl
      obtain ⟨k, hk⟩ : ∃ k : Nat, x % 7 = (k : Int) := ⟨(x % 7).toNat, by omega⟩
      have hk7 : k < 7 := by omega
      have ck := whole_cell HG.out k hk7
      have hkk := whole_ok k hk7
      have HA := hid (fun w => lwithin_any x 7 w (by decide) (by decide))
      rw [hk] at HA
      clear hk
      have hk3 : (k : Int) < 7 := by omega
      generalize wholeL.getD k 0 = r at *
      have hs1 : (⟨(rs.flatMap Lib.encodeRune).toArray⟩ : ByteArray).size ≤ 100 := by rw [sz]; omega
      have hel := encodeRune_length r
      have hs2 : (⟨(Lib.encodeRune r).toArray⟩ : ByteArray).size ≤ 4 := by rw [sz]; omega
      have hap := flat_snoc rs r
      have hok2 : Hid (∀ q ∈ rs ++ [r], okRune q) := by
        intro q hq
        rcases List.mem_append.1 hq with h | h
        · exact hok.out q h
        · simp at h; subst h; exact hkk
      clear hfl hel hkk
      generalize (⟨(rs.flatMap Lib.encodeRune).toArray⟩ : ByteArray) = S at *
      generalize (⟨(Lib.encodeRune r).toArray⟩ : ByteArray) = E at *
      obtain ⟨d1, d2⟩ := c1
      go_wp2_with fail
      refine (HA.out _).mono ?_
      rintro e w2 ⟨rfl, rfl⟩
      go_wp2
      go_roundw
      case rel => exact ⟨j + 1, rs ++ [r], by omega, by omega, by simp, by first | rfl | simp, by simp; omega, hok2, by first | rfl | trivial⟩
      case measure => simp [intOf]; omega
    · rcases (show j = n ∨ (j < n ∧ j = 20) by omega) with rfl | ⟨e1, rfl⟩
      all_goals
        have HRL := hid hrl
        have HRO := hid hok
        have HF1 := hid hfl
        have hs1 : (⟨(rs.flatMap Lib.encodeRune).toArray⟩ : ByteArray).size ≤ 100 := by rw [sz]; omega
        clear hrl hok hfl c1
        go_wp2
        go_loopw [7, 9] (fun v7 v9 wr2 => ∃ (i : Nat) (ts : List Int), i ≤ 20 ∧ i ≤ m ∧ v9 = .int .i64 i ∧ v7 = .string ⟨(ts.flatMap Lib.encodeRune).toArray⟩ ∧ ts.length = i ∧ Hid (∀ r ∈ ts, okRune r) ∧ wr2 = wr) (fun _ v9 _ => 20 - (intOf v9).toNat)
        case atStart => exact ⟨0, [], by omega, by omega, rfl, rfl, rfl, hid (by simp), rfl⟩
        case round =>
          obtain ⟨i, ts, hi2, him, rfl, rfl, htl, hok, rfl⟩ := hrel
          have hfl := flat_length ts
          by_cases c1 : i < m ∧ i < 20
          · obtain ⟨a1, rfl⟩ : ∃ a1, ad1 = some a1 := by
              cases ad1 with
              | none => have := (HN1.out rfl).1; have h2 := HM.out; rw [this] at h2; simp at h2; omega
              | some a1 => exact ⟨a1, rfl⟩
            have hjl : i < ms.length := by have := HM.out; omega
            obtain ⟨x, hx⟩ : ∃ x, x = ms.getD i 0 := ⟨_, rfl⟩
            have cx : wr.cell? (a1.add i) = some (.int .i64 x) := by
              have h3 := HC1.out a1 rfl i hjl
              rw [hx, (HL.out.cell (lt_of_cell h3)).trans h3]
            clear hx hjl
            obtain ⟨k, hk⟩ : ∃ k : Nat, x % 7 = (k : Int) := ⟨(x % 7).toNat, by omega⟩
            have hk7 : k < 7 := by omega
            have ck := whole_cell HG.out k hk7
            have hkk := whole_ok k hk7
            have HA := hid (fun w => lwithin_any x 7 w (by decide) (by decide))
            rw [hk] at HA
            clear hk
            have hk3 : (k : Int) < 7 := by omega
            generalize wholeL.getD k 0 = r at *
            have ht1 : (⟨(ts.flatMap Lib.encodeRune).toArray⟩ : ByteArray).size ≤ 100 := by rw [sz]; omega
            have hel := encodeRune_length r
            have ht2 : (⟨(Lib.encodeRune r).toArray⟩ : ByteArray).size ≤ 4 := by rw [sz]; omega
            have hap := flat_snoc ts r
            have hok2 : Hid (∀ q ∈ ts ++ [r], okRune q) := by
              intro q hq
              rcases List.mem_append.1 hq with h | h
              · exact hok.out q h
              · simp at h; subst h; exact hkk
            clear hfl hel hkk
            generalize (⟨(ts.flatMap Lib.encodeRune).toArray⟩ : ByteArray) = S at *
            generalize (⟨(Lib.encodeRune r).toArray⟩ : ByteArray) = E at *
            obtain ⟨d1, d2⟩ := c1
            go_wp2_with fail
            refine (HA.out _).mono ?_
            rintro e w2 ⟨rfl, rfl⟩
            go_wp2
            go_roundw
            case rel => exact ⟨i + 1, ts ++ [r], by omega, by omega, by simp, by first | rfl | simp, by simp; omega, hok2, by first | rfl | trivial⟩
            case measure => simp [intOf]; omega
          · have ht1 : (⟨(ts.flatMap Lib.encodeRune).toArray⟩ : ByteArray).size ≤ 100 := by rw [sz]; omega
            have okj : ∀ r ∈ rs ++ ts, okRune r := by
              intro r hr
              rcases List.mem_append.1 hr with h | h
              · exact HRO.out r h
              · exact hok.out r h
            have hfj := flat_length (rs ++ ts)
            rw [List.length_append] at hfj
            have h20 : rs.length ≤ 20 := by have := HRL.out; omega
            have HFa := hid (fun w h => fold_at (rs.flatMap Lib.encodeRune) _ _ rs.length (runesOf_flat rs HRO.out) rfl (by simp) (by have := HF1.out; omega) w h)
            have HFb := hid (fun w h => fold_at (ts.flatMap Lib.encodeRune) _ _ ts.length (runesOf_flat ts hok.out) rfl (by simp) (by omega) w h)
            have HFc := hid (fun w h => fold_at ((rs ++ ts).flatMap Lib.encodeRune) _ _ (rs.length + ts.length) (runesOf_flat (rs ++ ts) okj) rfl (by simp) (by omega) w h)
            have hpm := places_mid rs ts HRO.out hok.out
            have hap := flat_join rs ts
            have hpl : (placesOf ((rs ++ ts).flatMap Lib.encodeRune)).length = rs.length + ts.length + 1 := by rw [placesOf_length, runesOf_flat _ okj]; simp
            have hss := sz (rs.flatMap Lib.encodeRune)
            have HPM := hid hpm
            have HPL := hid hpl
            have HAA : Hid ((rs.map runeZ).length = rs.length) := hid (by simp)
            have HBB : Hid ((ts.map runeZ).length = ts.length) := hid (by simp)
            rw [List.map_append] at HFc
            generalize placesOf ((rs ++ ts).flatMap Lib.encodeRune) = ps at *
            generalize placesOf (rs.flatMap Lib.encodeRune) = qs at *
            generalize placesOf (ts.flatMap Lib.encodeRune) = us at *
            generalize rs.map runeZ = A at *
            generalize ts.map runeZ = B at *
            have hlr : (rs.flatMap Lib.encodeRune).length ≤ 100 := by have := HF1.out; omega
            clear hpm hpl hfl hfj okj
            generalize (⟨((rs ++ ts).flatMap Lib.encodeRune).toArray⟩ : ByteArray) = SJ at *
            generalize (⟨(ts.flatMap Lib.encodeRune).toArray⟩ : ByteArray) = ST at *
            generalize (⟨(rs.flatMap Lib.encodeRune).toArray⟩ : ByteArray) = SS at *
            generalize (rs.flatMap Lib.encodeRune).length = ls at *
            generalize rs.length = na at *
            generalize ts.length = nb at *
            have hcase : i = m ∨ (i < m ∧ i = 20) := by omega
            have HIM := hid htl
            clear htl c1
            rcases hcase with rfl | ⟨f1, rfl⟩
            all_goals
              go_wp2_with fail
              refine (HFa.out _ HTW.out).mono ?_
              rintro e u1 ⟨g1, g2, x1, x2, rfl, k1, k2, H1, _, q1, _, bel⟩
              have HB1 := hid (up_trans HL.out bel)
              have HT1 := hid (HTW.out.on bel)
              have HA1 := hid H1
              clear bel H1
              go_wp2_with fail
              refine (HFb.out _ HT1.out).mono ?_
              rintro e u2 ⟨g3, g4, x3, x4, rfl, k3, k4, H3, _, q3, _, bel⟩
              have HB2 := hid (up_trans HB1.out bel)
              have HT2 := hid (HT1.out.on bel)
              have HA2 := hid (HA1.out.on bel)
              have HA3 := hid H3
              clear bel H3 HB1 HT1 HA1
              go_wp2_with fail
              refine (HFc.out _ HT2.out).mono ?_
              rintro e u3 ⟨g5, g6, x5, x6, rfl, k5, k6, H5, H6, q5, q6, bel⟩
              have HB3 := hid (up_trans HB2.out bel)
              have HA4 := hid (HA2.out.on bel)
              have HA5 := hid (HA3.out.on bel)
              have HA6 := hid H5
              have HA7 := hid H6
              clear bel H5 H6 HB2 HT2 HA2 HA3
              have oL := World.ownsRow_lit (base := u3.heap.size) (e := 3) (size := 1) u3 #[] 0 (Nat.le_refl _) (by unfold maxLen; omega) rfl
              have HO := hid oL
              have HCA := hid (i64_cells (HA4.out.on (up_alloc u3 (.cells #[] 3))))
              have hab : na ≤ 20 ∧ nb ≤ 20 := by have := HRL.out; have := HIM.out; omega
              clear oL
              go_wp2_with (first | (at_builtin; refine wpList_append_own _ rfl (.tmp 77) (.tmp 78) 22 rfl u3.heap.size 3 i0 (.int .i64 0) 1 8 Tryd.underlying22 hi hz0 hz1 hz2 rfl (by decide) (.slice (some ⟨u3.heap.size, 0, none⟩) 0 0) 0 [] rfl HO.out ⟨g1, 0, none⟩ na x1 (A.map (Value.int .i64)) rfl (by have := HAA.out; simp; omega) HCA.out (i64_ones _) (by unfold maxLen; omega) (by omega) (by simp) ?_; intro va U4 ho gr _; have HG4 := hid ((up_alloc u3 (.cells #[] 3)).grown gr (by simp) (owns_base HO.out)); have HO4 := hid ho; clear ho gr) | (at_builtin; refine wpList_append_own _ rfl (.tmp 79) (.tmp 80) 22 rfl u3.heap.size 3 i0 (.int .i64 0) 1 8 Tryd.underlying22 hi hz0 hz1 hz2 rfl (by decide) va (0 + na) _ rfl HO4.out ⟨g3, 0, none⟩ nb x3 (B.map (Value.int .i64)) rfl (by have := HBB.out; simp; omega) (i64_cells (HA5.out.on HG4.out)) (i64_ones _) (by unfold maxLen; omega) (by omega) HG4.out.size ?_; intro vb U5 ho gr _; have HG5 := hid (HG4.out.grown gr HG4.out.size (owns_base HO4.out)); have HO5 := hid ho; clear ho gr))
              have hvb := HO5.out
              rw [List.nil_append, ← List.map_append] at hvb
              refine (ints_any _ _ (A ++ B) U5 (by rw [List.length_append, HAA.out, HBB.out]; omega) (.inr ⟨g5, 0, x5, by rw [List.length_append, HAA.out, HBB.out], HA6.out.on HG5.out⟩) (row_owns hvb)).mono ?_
              rintro e U6 ⟨rfl, bel⟩
              have y0 : U6.cell? ⟨g6, na, none⟩ = some (.int .i64 (ls : Int)) := by
                have h7 := (HA7.out.on (up_trans HG5.out bel)) na (by have := HPL.out; omega)
                rw [HPM.out, Nat.zero_add] at h7
                exact h7
              have HB6 := hid (up_trans (up_trans HB3.out HG5.out) bel)
              clear bel hvb
              go_wp2
              go_ret
              exact ⟨rfl, HB6.out⟩

theorem own : ownKnob Tryd.prog.godebug = none := by kernel_rfl

theorem table {W : World} (h : laidMetH Tryd.prog Rows.foldJoinedRow.laid W) : Tab W := by
  rw [MakeChecks.laidMetH_plain _ _ _ (by kernel_rfl)] at h
  have hn : Tryd.prog.globalNamed "interlocutor/fold.noughts" = some 0 := by kernel_rfl
  have hT := Lib.tabIs_of_head (k := .i64) (zs := [48, 1632, 1776, 2406]) hn (show (Tryd.prog.globals[0]?).map (·.type) = some 55 by kernel_rfl) Tryd.underlying55 Tryd.underlying49 (by kernel_rfl) (by kernel_rfl) h
  exact ⟨hT.cell hn 0 (by decide), hT.cell hn 1 (by decide), hT.cell hn 2 (by decide), hT.cell hn 3 (by decide)⟩

set_option maxRecDepth 100000 in
theorem lifted (os : Os) (started : os.Started) (H : Type) (enc : TypeId × Value → H) :
    ReturnsInHanded {} Tryd.checked os 7 .any (fun w args => (Rows.foldJoinedSpec.pre enc Tryd.prog Tryd.f7 Rows.foldJoinedRow.domain false w args ∧ laidMetH Tryd.prog Rows.foldJoinedRow.laid w) ∧ sizedMet enc Tryd.prog Tryd.f7 (OpenSpec.ofChange Rows.foldJoinedSpec) false w args)
      (Rows.foldJoinedSpec.post enc Tryd.prog Tryd.f7 false true false false) := by
  refine returnsInHanded_of_change_and (C := Tryd.checked) (X := fun w _ => laidMetH Tryd.prog Rows.foldJoinedRow.laid w) (fun _ _ _ hh h => h.of_heap hh) own started (by kernel_rfl) Tryd.func7
    (ChangeSpec.witness_shaped (enc := enc) (C := Tryd.checked) (os := os) (X := fun w _ => laidMetH Tryd.prog Rows.foldJoinedRow.laid w) false (World.laidAll Tryd.prog os Rows.foldJoinedRow.laid) #[.slice none 0 0, .slice none 0 0] 8 (World.laidAll_os _ _ _)
      (World.shaped_of_ZipB (by kernel_rfl) (by kernel_rfl)) (by kernel_rfl) (by kernel_rfl) (by kernel_rfl)
      (by rw [MakeChecks.laidMetH_plain _ _ _ (by kernel_rfl)]; exact laidMet_laidAll _ (by kernel_rfl) (by kernel_rfl))) ?_
  intro W base args ds gs before hval0 hW _ _ hL _
  have hval : ∀ (j : Nat) t v, Tryd.f7.params[j]? = some t → args[j]? = some v → Value.okWide Tryd.prog W .any base t v := hval0
  have hW' := hW
  obtain ⟨p, q, hA0, hV, rfl, hfz, hnd⟩ := hW
  have hA : DataW.TrodAll enc Tryd.prog W 0 (fun _ => true) true Tryd.f7.params.toList args.toList ds p := hA0
  rw [Tryd.params7] at hA hval
  obtain ⟨v0, vs0, d0, ds0, p0, q0, hargs, rfl, rfl, h0, r0⟩ := trodAll_cons hA
  obtain ⟨v1, vs1, d1, ds1, p1, q1, rfl, rfl, rfl, h1, r1⟩ := trodAll_cons r0
  obtain ⟨rfl, rfl, rfl⟩ := trodAll_nil r1
  obtain rfl : args = #[v0, v1] := by cases args; simp_all
  obtain ⟨rfl, rfl⟩ := trodVars_none hV
  obtain ⟨x0, w0⟩ := arg_of Tryd.underlying22 Tryd.underlying3 (by kernel_rfl) (hval 0 22 v0 rfl rfl) h0
  have l0 : ∀ x ∈ p0, x.block < W.heap.size := fun x hx => hW'.lt x (by simp [hx])
  obtain ⟨x1, w1⟩ := arg_of Tryd.underlying22 Tryd.underlying3 (by kernel_rfl) (hval 1 22 v1 rfl rfl) h1
  have l1 : ∀ x ∈ p1, x.block < W.heap.size := fun x hx => hW'.lt x (by simp [hx])
  clear hA0 hval0
  refine (walk v0 x0 v1 x1 W w0 w1 (table hL)).mono fun e W' ⟨he, bel⟩ => ?_
  subst he
  exact ⟨_, rfl, _, _, _, _, _, [], hW', trodAll_mk1 (shut_bool Tryd.underlying4 _), (trodAll_cons_mk (Below.trod (by kernel_rfl) (by kernel_rfl) (of_decide_eq_true (by kernel_rfl)) h0 bel l0) (trodAll_cons_mk (Below.trod (by kernel_rfl) (by kernel_rfl) (of_decide_eq_true (by kernel_rfl)) h1 bel l1) trodAll_mk0)), rfl, bel.frame _, fun h => by cases h⟩

theorem row_holds : Rows.FoldJoinedSaid :=
  OpenClaim.holds_of_wide 7 Tryd.f7 rfl rfl rfl rfl rfl rfl rfl ⟨rfl, rfl, rfl, rfl, rfl⟩ rfl rfl rfl rfl rfl (by kernel_rfl) Tryd.func7 (by kernel_rfl)
    (of_decide_eq_true (by kernel_rfl)) (by unfold Func.isWrapper; first | (rw [if_pos (by decide +kernel)]; kernel_rfl) | (rw [if_neg (by decide +kernel)]; exact ⟨rfl, rfl⟩))
    (fun os started H enc _ => lifted os started H enc)

theorem foldJoined_holds : Rows.FoldJoinedCardSaid :=
  Claim7.holds_tied_plain_at .later [] _ _ _ _ row_holds (fun _ h => by cases h) (by kernel_rfl) (fun _ h => by cases h) foldJoined_row_tie rfl ⟨rfl, rfl⟩ (by kernel_rfl) rfl
    (fun f fn hf hfn => by
      obtain rfl : f = 7 := Option.some.inj ((show Tryd.prog.funcNamed "interlocutor/interlocutorlaw3.FoldJoined" = some 7 by kernel_rfl).symm.trans hf) |>.symm
      obtain rfl : fn = Tryd.f7 := (Option.some.inj (Tryd.func7.symm.trans hfn)).symm
      exact ⟨by kernel_rfl, fun j t ht => by
        rw [Tryd.params7] at ht
        have hm : t ∈ [22, 22] := by simpa using Array.mem_of_getElem? ht
        have hall : ([22, 22].all fun u => !Tryd.prog.wantsStandIn u) = true := by kernel_rfl
        exact (show Tryd.prog.wantsStandIn t = false by simpa using List.all_eq_true.1 hall t hm)⟩)
    (by kernel_rfl)

end Go.Proofs.YtigolkgojckciaaDoor
