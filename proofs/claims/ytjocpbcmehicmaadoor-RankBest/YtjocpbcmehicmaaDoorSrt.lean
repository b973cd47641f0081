/- slices.SortFunc over readings, by each of the two orders. -/
import Derived.Test.YtjocpbcmehicmaaDoorEach
namespace Go.Proofs.YtjocpbcmehicmaaDoor
open Go.RowKit Go.Sort

theorem firstNZ_two (a b : Nat) (p q : Int) : firstNZ [(a, p), (b, q)] = if p = 0 then q else p := by
  unfold firstNZ firstNZ firstNZ
  dsimp only
  split
  · split
    · exact Eq.symm ‹_›
    · rfl
  · rfl
theorem below_mapB {B b : Nat} (hb : B ≤ b) (w : World) (f : Array Value → Array Value) : Below B w (mapBlock w b f) := by
  refine ⟨rfl, rfl, rfl, by simp [mapBlock], fun k hk => ?_⟩
  unfold mapBlock
  simp only [Array.getElem?_modify]
  rw [if_neg (by omega)]
theorem below_sortW {α : Type} [Inhabited α] {B : Nat} (enc : α → List Value) (k : Nat) (w : World) (g m : Nat) (d : Array α) (os : Array Obj) (hB : B ≤ g) (hw : B ≤ w.heap.size) : Below B w (sortWorldK enc k w g 0 m d os) := by
  unfold sortWorldK putRowK putRow
  have h1 : RowKit.Below B w (Sort.ahead w m) := ⟨rfl, rfl, rfl, Nat.le_refl _, fun _ _ => rfl⟩
  have h2 := h1.trans (below_mapB hB (Sort.ahead w m) (putCells id 0 (flatK enc k d)))
  refine h2.trans ⟨rfl, rfl, rfl, by simp, fun j hj => ?_⟩
  have : j < (mapBlock (Sort.ahead w m) g (putCells id 0 (flatK enc k d))).heap.size := Nat.lt_of_lt_of_le (Nat.lt_of_lt_of_le hj hw) h2.size
  show (_ ++ os)[j]? = _
  rw [Array.getElem?_append_left this]
theorem HE.sorted {W0 w : World} {g : Nat} {d : Array (El W0)} (h : HE w g d) (m : Nat) (d' : Array (El W0)) (os : Array Obj) (hs : d'.size = d.size) : HE (sortWorldK encE 3 w g 0 m d' os) g d' := by
  have hb : Below W0.heap.size w (sortWorldK encE 3 w g 0 m d' os) := below_sortW encE 3 w g m d' os h.2.1 h.2.2.2.size
  exact ⟨holdsK_sortWorldK_c encE 3 w g 0 d d' m os h.1 h.2.2.1 hs, h.2.1, Nat.lt_of_lt_of_le h.2.2.1 (size_sortWorldK_c encE 3 w g 0 m d' os), h.2.2.2.trans hb⟩
theorem swo_of {α : Type} {c : α → α → Int} (h : TO c) : SWO (Go.Proofs.ltOf c) := by
  constructor
  · intro x; simp [Go.Proofs.ltOf, h.self]
  · intro x y z a b
    simp only [Go.Proofs.ltOf, decide_eq_true_eq] at *
    exact h.lt_of a (by omega)
  · intro x y z a b
    simp only [Go.Proofs.ltOf, decide_eq_false_iff_not] at *
    have := h.trans z y x (by have := h.turn y z; omega) (by have := h.turn x y; omega)
    have := h.turn x z
    omega
theorem perm_of {W0 : World} {d d' : Array (El W0)} (h : PermIn 0 d.size d d') : d'.size = d.size ∧ (d'.toList.map El.rd).Perm (d.toList.map El.rd) := by
  refine ⟨h.1, ?_⟩
  have := h.2.2
  rw [show d'.extract 0 d.size = d' by rw [← h.1]; simp, show d.extract 0 d.size = d by simp] at this
  exact this.map _
theorem pair_of {W0 : World} {d : Array (El W0)} {c : Rd → Rd → Int} (h : TO c) (hs : SortedIn (Go.Proofs.ltOf fun x y : El W0 => c x.rd y.rd) 0 d.size d) : (d.toList.map El.rd).Pairwise (fun x y => c x y ≤ 0) := by
  rw [List.pairwise_map, List.pairwise_iff_getElem]
  intro i j hi hj hij
  have hi' : i < d.size := by simpa using hi
  have hj' : j < d.size := by simpa using hj
  have := hs i j (by omega) hij hj'
  rw [getElem!_pos d i hi', getElem!_pos d j hj'] at this
  simp only [Go.Proofs.ltOf, decide_eq_false_iff_not] at this
  have t := h.turn d[i].rd d[j].rd
  show c d[i].rd d[j].rd ≤ 0
  omega

theorem sortVC_any {W0 w : World} {g cap : Nat} {d : Array (El W0)} (h : HE w g d) (hs : d.size ≤ 1000000) :
    Calls Tryd.prog 31 #[.slice (some ⟨g, 0, none⟩) d.size cap, .func (.func 32) #[] #[]] w fun e w' => e = .returned (.tuple #[]) ∧ ∃ d' : Array (El W0), HE w' g d' ∧ d'.size = d.size ∧ (d'.toList.map El.rd).Perm (d.toList.map El.rd) ∧ (d'.toList.map El.rd).Pairwise (fun x y => cmpVC x y ≤ 0) := by
  have hc : Go.Proofs.CmpLays Tryd.prog 32 #[] encE 3 (fun x y : El W0 => cmpVC x.rd y.rd) g 0 d.size w := fun m os dk _ x y => by
    have hb : Below W0.heap.size W0 (sortWorldK encE 3 w g 0 m dk os) := h.2.2.2.trans (below_sortW encE 3 w g m dk os h.2.1 h.2.2.2.size)
    refine (byValueCost_any x.rd.v y.rd.v x.fv x.rd.cost y.fv y.rd.cost _ (x.ia.on hb).ib (y.ia.on hb).ib).mono ?_
    rintro e w' ⟨rfl, hg⟩
    exact ⟨by rw [firstNZ_two]; rfl, hg⟩
  refine (AnyQ.slices_SortFunc sortR 3 Tryd.isAgg50 Tryd.sizeOf50 encE encE_len encE_one (fun x y : El W0 => cmpVC x.rd y.rd) (swo_of (cmpVCTO.pull El.rd)) 32 #[] g 0 cap d w (enters_of Tryd.func32 (by kernel_rfl) rfl) hc h.1 h.2.2.1 (by omega)).mono ?_
  rintro e w' ⟨rfl, d', n, os, hp, hq, rfl⟩
  obtain ⟨s1, p1⟩ := perm_of hp
  exact ⟨rfl, d', h.sorted n d' os s1, s1, p1, pair_of cmpVCTO (by rw [s1]; exact hq)⟩

theorem sortCV_any {W0 w : World} {g cap : Nat} {d : Array (El W0)} (h : HE w g d) (hs : d.size ≤ 1000000) :
    Calls Tryd.prog 31 #[.slice (some ⟨g, 0, none⟩) d.size cap, .func (.func 35) #[] #[]] w fun e w' => e = .returned (.tuple #[]) ∧ ∃ d' : Array (El W0), HE w' g d' ∧ d'.size = d.size ∧ (d'.toList.map El.rd).Perm (d.toList.map El.rd) ∧ (d'.toList.map El.rd).Pairwise (fun x y => cmpCV x y ≤ 0) := by
  have hc : Go.Proofs.CmpLays Tryd.prog 35 #[] encE 3 (fun x y : El W0 => cmpCV x.rd y.rd) g 0 d.size w := fun m os dk _ x y => by
    have hb : Below W0.heap.size W0 (sortWorldK encE 3 w g 0 m dk os) := h.2.2.2.trans (below_sortW encE 3 w g m dk os h.2.1 h.2.2.2.size)
    refine (byCostValue_any x.rd.v y.rd.v x.fv x.rd.cost y.fv y.rd.cost _ (x.ia.on hb).ib (y.ia.on hb).ib).mono ?_
    rintro e w' ⟨rfl, hg⟩
    exact ⟨by rw [firstNZ_two]; rfl, hg⟩
  refine (AnyQ.slices_SortFunc sortR 3 Tryd.isAgg50 Tryd.sizeOf50 encE encE_len encE_one (fun x y : El W0 => cmpCV x.rd y.rd) (swo_of (cmpCVTO.pull El.rd)) 35 #[] g 0 cap d w (enters_of Tryd.func35 (by kernel_rfl) rfl) hc h.1 h.2.2.1 (by omega)).mono ?_
  rintro e w' ⟨rfl, d', n, os, hp, hq, rfl⟩
  obtain ⟨s1, p1⟩ := perm_of hp
  exact ⟨rfl, d', h.sorted n d' os s1, s1, p1, pair_of cmpCVTO (by rw [s1]; exact hq)⟩
end Go.Proofs.YtjocpbcmehicmaaDoor
