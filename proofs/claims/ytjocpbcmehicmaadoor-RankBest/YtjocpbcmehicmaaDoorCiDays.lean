/- What package civil's own calls Days, Weekday, Length, Civil answer of days that are, and how many months on a day is; each call leaves what was in memory as it was. -/
import Derived.Test.YtjocpbcmehicmaaDoorCiMid
import Derived.Deep.RegionWith
namespace Go.Proofs.YtjocpbcmehicmaaDoor.Ci
open Go.RowKit

theorem up_trans {w a b : World} (h1 : Below w.heap.size w a) (h2 : Below a.heap.size a b) : Below w.heap.size w b := h1.trans (h2.mono h1.size)
theorem up_alloc (w : World) (o : Obj) : Below w.heap.size w (w.alloc o) := (Below.refl _ _).alloc (Nat.le_refl _) _
theorem up_drew (w : World) : Below w.heap.size w w.drew := (Below.refl _ _).drew
theorem up_drewN (w : World) (n : Nat) : Below w.heap.size w (w.drewN n) := below_drewN (Below.refl _ _) _

theorem bcell {W w1 : World} (hb : Below W.heap.size W w1) : (∀ b o, b < W.heap.size → w1.cell? ⟨b, o, none⟩ = W.cell? ⟨b, o, none⟩) ∧ (∀ b o, b < W.heap.size → w1.frozen? ⟨b, o, none⟩ = W.frozen? ⟨b, o, none⟩) :=
  ⟨fun b o h => hb.cell (p := ⟨b, o, none⟩) h, fun b o h => hb.frozen (p := ⟨b, o, none⟩) h⟩

/-- so many months on: the year, the month, the day -/
def onY (y m mo : Int) : Int := (y * 12 + m - 1 + mo) / 12
def onM (y m mo : Int) : Int := y * 12 + m - 1 + mo - 12 * onY y m mo + 1
def onD (y m d mo : Int) : Int := if Civ.len (onY y m mo) (onM y m mo) < d then Civ.len (onY y m mo) (onM y m mo) else d

end Go.Proofs.YtjocpbcmehicmaaDoor.Ci
