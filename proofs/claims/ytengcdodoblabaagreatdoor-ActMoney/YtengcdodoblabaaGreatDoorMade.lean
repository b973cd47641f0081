/- Do, of whichever action and whatever children it may be handed. -/
import Derived.Test.YtengcdodoblabaaGreatDoorDo
import Derived.Test.YtengcdodoblabaaGreatDoorWaysA
import Derived.Test.YtengcdodoblabaaGreatDoorWaysB
import Derived.Test.YtengcdodoblabaaGreatDoorWaysD
import Derived.Test.YtengcdodoblabaaGreatDoorWaysE
import Derived.Test.YtengcdodoblabaaGreatDoorWaysF
namespace Go.Proofs.YtengcdodoblabaaGreatDoor
open Go.RowKit

/-- What an action makes of its children, ahead of whether it is right. -/
def madeO (k : Nat) (r : Mom) (cs : List Val) : Option Val :=
  match k, cs with
  | 0, [a] => pickO a
  | 1, [a, b, c] => dateO r a b c
  | 2, [a, b] => thisO r a b
  | 3, [a, b] => time2O a b
  | 3, [a, b, c] => time3O a b c
  | 4, [a, b] => half2O a b
  | 4, [a, b, c] => half3O a b c
  | 5, [a, b] => momentO a b
  | 6, [a, b, c] => relO r a b c
  | 7, [a] => nextO r a
  | 8, [a] => wholeO a
  | 9, [a, b] => pointO a b
  | 10, cs => groupsO cs
  | 11, [a] => negO a
  | 12, [a, b] => moneyO a b
  | 13, [a, b] => durO a b
  | 14, [a, b] => sumO a b
  | 15, [a, b] => spanO a b
  | _, _ => none
/-- As many children as an action wants. -/
def Wants (k : Nat) (cs : List Val) : Prop :=
  match k, cs with
  | 0, [_] | 1, [_, _, _] | 2, [_, _] | 3, [_, _] | 3, [_, _, _] | 4, [_, _] | 4, [_, _, _] | 5, [_, _] | 6, [_, _, _] | 7, [_] | 8, [_] | 10, _ :: _ | 11, [_] | 12, [_, _] | 13, [_, _] | 14, [_, _] | 15, [_, _] => True
  | 9, [a, b] => Joins a b
  | _, _ => False

theorem way_any {p : Value} {W0 : World} {g : Nat} {r : Mom} (k F : Nat) (cs : List Val) (hF : waysL[k]? = some F) (hw : Wants k cs) (hr : RR r) (w : World) (h : DD p W0 g (k : Int) r cs w) :
    Calls Tryz.prog F #[.pointer (some ⟨g, 0, none⟩)] w (Ret p W0 g (k : Int) r w (NV w.heap.size) ((madeO k r cs).map (fun z => (z, [])))) := by
  obtain ⟨_, y0, y1⟩ := hr.bd
  unfold Wants at hw
  split at hw
  · obtain rfl := Option.some.inj hF
    exact pick_any _ _ h
  · obtain rfl := Option.some.inj hF
    exact date_any _ _ _ _ h (by omega) (by omega)
  · obtain rfl := Option.some.inj hF
    exact this_any _ _ _ h
  · obtain rfl := Option.some.inj hF
    exact time2_any _ _ _ h
  · obtain rfl := Option.some.inj hF
    exact time3_any _ _ _ _ h
  · obtain rfl := Option.some.inj hF
    exact half2_any _ _ _ h
  · obtain rfl := Option.some.inj hF
    exact half3_any _ _ _ _ h
  · obtain rfl := Option.some.inj hF
    exact moment_any _ _ _ h
  · obtain rfl := Option.some.inj hF
    exact rel_any _ _ _ _ h hr
  · obtain rfl := Option.some.inj hF
    exact nextw_any _ _ h hr
  · obtain rfl := Option.some.inj hF
    exact whole1_any _ _ h
  · obtain rfl := Option.some.inj hF
    exact groups_any _ _ _ h
  · obtain rfl := Option.some.inj hF
    exact neg_any _ _ h
  · obtain rfl := Option.some.inj hF
    exact money_any _ _ _ h
  · obtain rfl := Option.some.inj hF
    exact dur_any _ _ _ h
  · obtain rfl := Option.some.inj hF
    exact sum_any _ _ _ h
  · obtain rfl := Option.some.inj hF
    exact span_any _ _ _ h
  · obtain rfl := Option.some.inj hF
    exact point_any _ _ _ h hw
  · exact hw.elim
theorem made_any {p : Value} (k : Nat) (r : Mom) (l : List Val) (ps : List Int) (pv lv : Value) (w : World) (hk : k < 16) (hp : IA w pv ps) (hl : LA w lv l) (hT : Tabs p w) (hq : ∀ q ∈ ps, 0 ≤ q ∧ q < (l.length : Int))
    (hw : Wants k (ps.map (fun q => l.getD q.toNat nilVal))) (hr : RR r) :
    Calls Tryz.prog 11 #[.agg #[.int .i64 k, pv], lv, momV r] w (DoneT w (doO k (madeO k r (ps.map (fun q => l.getD q.toNat nilVal))))) := by
  obtain ⟨F, hF⟩ : ∃ F, waysL[k]? = some F := ⟨waysL[k]'hk, List.getElem?_eq_getElem hk⟩
  exact Do_any k F r l ps pv lv _ w hk hF hp hl hT hq (fun g w' h => way_any k F _ hF hw hr w' h)
end Go.Proofs.YtengcdodoblabaaGreatDoor
