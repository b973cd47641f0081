/- A row of one's own is one of an earlier block on, too. -/
import Derived.Test.YtannndpamhgknaaGreatDoorProg
import Derived.Laws.AppendOwn
namespace Go.Proofs.YtannndpamhgknaaGreatDoor.Gr

theorem ownsRow_base_a {w : World} {B B' n size : Nat} {e : TypeId} {v : Value} {cs : List Value} (h : w.ownsRow B e size v n cs) (hb : B' ≤ B) : w.ownsRow B' e size v n cs := by
  obtain ⟨h1, h2⟩ := h
  refine ⟨h1, ?_⟩
  rcases h2 with h2 | ⟨g, cap, cur, e', h3, h4⟩
  · exact .inl h2
  · exact .inr ⟨g, cap, cur, e', Nat.le_trans hb h3, h4⟩
end Go.Proofs.YtannndpamhgknaaGreatDoor.Gr
