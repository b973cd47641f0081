/-
  No cell of these rows narrows 'for every input' (looked for: loops, veiled, ifaces, maps, wideKeys, modest, calm, conditions, laid).
  DERIVED. THE GIVEN ROWS OF THIS SEAT. 5 by the template 'for every input the law returns true; each argument reads behind the call as it read before'; 0 by the template 'total and deterministic' (their statements: YtokigbdnihamiabTotals.lean).
  GIVEN WITH THE SEED: the statements are not yours to turn. If you find one false, say at which input.
  Laid BY PROGRAM, IN A SANDBOX (cutbox-rows.mjs): the forced cells as the released guide's own fill.sh prints them over the translation 23710b36150f5efe… (all of the seat's roots in one cut). By AI agents, Wed Nov 11 2026. No macro, syntax, notation, axiom, sorry.
-/
import Derived.Test.YtokigbdnihamiabChecked
import GoSem.Claim
import GoSem.ClaimJoined
import GoSem.ClaimMapViews
import Derived.JoinedTies
import Derived.KernelRfl
namespace Go.Proofs.Ytokigbdnihamiab
/- THE CELL 'sum', in the pinned program and in every row, IS THE sha256 OF THE DUMP (.gsa) THAT YtokigbdnihamiabProg.lean LOADS. Nothing in Lean hashes anything: it is a label: what it is worth is what the hold of that sum in a sandbox is worth. -/
noncomputable def Try.pinned : Pinned := { name := "ytokigbdnihamiab", sum := "23710b36150f5efee7d500e93cff639968ee1a3bc5acb668648f4ad937ebab1a", checked := Try.checked }
namespace Rows
def none {H : Type} : Left H := { results := [], args := [] }

/-- 'interlocutorlaw1.CivilMonths': WHATEVER THE INPUT: true; the input reads as it did. -/
def civilMonthsSpec : ChangeSpec := { name := "civilMonths", fn := fun _ => fun
  | [d1, d2] => { results := [.lit (.bool true)], args := [d1, d2] }
  | _ => none }
def civilMonthsRow : OpenClaim := { program := "ytokigbdnihamiab", sum := "23710b36150f5efee7d500e93cff639968ee1a3bc5acb668648f4ad937ebab1a", func := "interlocutor/interlocutorlaw1.CivilMonths", spec := "civilMonths", unfollowed := true, recurses := true, apart := false }
def CivilMonthsSaid : Prop := civilMonthsRow.holds Try.pinned (OpenSpec.ofChange civilMonthsSpec)

/-- ITS FALSE NEIGHBOUR: 'it returns false'. Refute it at one input. -/
def civilMonthsWrong : ChangeSpec := { name := "civilMonths", fn := fun _ => fun
  | [d1, d2] => { results := [.lit (.bool false)], args := [d1, d2] }
  | _ => none }
def CivilMonthsWrongFalsely : Prop := civilMonthsRow.holds Try.pinned (OpenSpec.ofChange civilMonthsWrong)

/-- 'interlocutorlaw1.CivilDaysOn': WHATEVER THE INPUT: true; the input reads as it did. -/
def civilDaysOnSpec : ChangeSpec := { name := "civilDaysOn", fn := fun _ => fun
  | [d1, d2] => { results := [.lit (.bool true)], args := [d1, d2] }
  | _ => none }
def civilDaysOnRow : OpenClaim := { program := "ytokigbdnihamiab", sum := "23710b36150f5efee7d500e93cff639968ee1a3bc5acb668648f4ad937ebab1a", func := "interlocutor/interlocutorlaw1.CivilDaysOn", spec := "civilDaysOn", unfollowed := true, recurses := true, apart := false }
def CivilDaysOnSaid : Prop := civilDaysOnRow.holds Try.pinned (OpenSpec.ofChange civilDaysOnSpec)

/-- ITS FALSE NEIGHBOUR: 'it returns false'. Refute it at one input. -/
def civilDaysOnWrong : ChangeSpec := { name := "civilDaysOn", fn := fun _ => fun
  | [d1, d2] => { results := [.lit (.bool false)], args := [d1, d2] }
  | _ => none }
def CivilDaysOnWrongFalsely : Prop := civilDaysOnRow.holds Try.pinned (OpenSpec.ofChange civilDaysOnWrong)

/-- 'interlocutorlaw1.CivilEnds': WHATEVER THE INPUT: true; the input reads as it did. -/
def civilEndsSpec : ChangeSpec := { name := "civilEnds", fn := fun _ => fun
  | [d1, d2] => { results := [.lit (.bool true)], args := [d1, d2] }
  | _ => none }
def civilEndsRow : OpenClaim := { program := "ytokigbdnihamiab", sum := "23710b36150f5efee7d500e93cff639968ee1a3bc5acb668648f4ad937ebab1a", func := "interlocutor/interlocutorlaw1.CivilEnds", spec := "civilEnds", unfollowed := true, recurses := true, apart := false }
def CivilEndsSaid : Prop := civilEndsRow.holds Try.pinned (OpenSpec.ofChange civilEndsSpec)

/-- ITS FALSE NEIGHBOUR: 'it returns false'. Refute it at one input. -/
def civilEndsWrong : ChangeSpec := { name := "civilEnds", fn := fun _ => fun
  | [d1, d2] => { results := [.lit (.bool false)], args := [d1, d2] }
  | _ => none }
def CivilEndsWrongFalsely : Prop := civilEndsRow.holds Try.pinned (OpenSpec.ofChange civilEndsWrong)

/-- 'interlocutorlaw1.CivilEras': WHATEVER THE INPUT: true; the input reads as it did. -/
def civilErasSpec : ChangeSpec := { name := "civilEras", fn := fun _ => fun
  | [d1, d2] => { results := [.lit (.bool true)], args := [d1, d2] }
  | _ => none }
def civilErasRow : OpenClaim := { program := "ytokigbdnihamiab", sum := "23710b36150f5efee7d500e93cff639968ee1a3bc5acb668648f4ad937ebab1a", func := "interlocutor/interlocutorlaw1.CivilEras", spec := "civilEras", unfollowed := true, recurses := true, apart := false }
def CivilErasSaid : Prop := civilErasRow.holds Try.pinned (OpenSpec.ofChange civilErasSpec)

/-- ITS FALSE NEIGHBOUR: 'it returns false'. Refute it at one input. -/
def civilErasWrong : ChangeSpec := { name := "civilEras", fn := fun _ => fun
  | [d1, d2] => { results := [.lit (.bool false)], args := [d1, d2] }
  | _ => none }
def CivilErasWrongFalsely : Prop := civilErasRow.holds Try.pinned (OpenSpec.ofChange civilErasWrong)

/-- 'interlocutorlaw1.CivilOrder': WHATEVER THE INPUT: true; the input reads as it did. -/
def civilOrderSpec : ChangeSpec := { name := "civilOrder", fn := fun _ => fun
  | [d1, d2] => { results := [.lit (.bool true)], args := [d1, d2] }
  | _ => none }
def civilOrderRow : OpenClaim := { program := "ytokigbdnihamiab", sum := "23710b36150f5efee7d500e93cff639968ee1a3bc5acb668648f4ad937ebab1a", func := "interlocutor/interlocutorlaw1.CivilOrder", spec := "civilOrder", unfollowed := true, recurses := true, apart := false }
def CivilOrderSaid : Prop := civilOrderRow.holds Try.pinned (OpenSpec.ofChange civilOrderSpec)

/-- ITS FALSE NEIGHBOUR: 'it returns false'. Refute it at one input. -/
def civilOrderWrong : ChangeSpec := { name := "civilOrder", fn := fun _ => fun
  | [d1, d2] => { results := [.lit (.bool false)], args := [d1, d2] }
  | _ => none }
def CivilOrderWrongFalsely : Prop := civilOrderRow.holds Try.pinned (OpenSpec.ofChange civilOrderWrong)

/- THE SECOND FORM. 'bulk': how many values and letters a reading holds, each counted each time it is reached (what is shared counts as often as it is met; a slice's spare places count too). A statement '..UptoSaid' is the law's where the arguments, and the package variables that the reading takes, are together of bulk at most 1048576: NARROWER than '..Said'. Prove '..Said' where nothing that the law and all that it calls make is longer than what came in: it says more and counts as full. Else prove '..UptoSaid'. A law counts once. -/
mutual
def uptoBulk {H : Type} : DataW H → Nat
  | .lit (.string bytes) => bytes.length + 1
  | .lit _ => 1
  | .nil => 1
  | .ptr d => uptoBulk d + 1
  | .slice elems spare => uptoBulkAll elems + uptoBulkAll spare + 1
  | .agg parts => uptoBulkAll parts + 1
  | .iface _ d => uptoBulk d + 1
  | .map entries => uptoBulkEntries entries + 1
  | .held _ => 1
def uptoBulkAll {H : Type} : List (DataW H) → Nat
  | [] => 0
  | d :: r => uptoBulk d + uptoBulkAll r
def uptoBulkEntries {H : Type} : List (Lit × DataW H) → Nat
  | [] => 0
  | x :: r => uptoBulkEntry x + uptoBulkEntries r
def uptoBulkEntry {H : Type} : Lit × DataW H → Nat
  | (.string bytes, d) => bytes.length + uptoBulk d + 1
  | (_, d) => uptoBulk d + 1
 end
def uptoSmall : (H : Type) → List (DataW H) → Bool := fun _ ds => decide (uptoBulkAll ds ≤ 1048576)
def OpenSpec.upto (s : _root_.Go.ChangeSpec) : _root_.Go.OpenSpec := { _root_.Go.OpenSpec.ofChange s with cond := some uptoSmall }

/-- 'interlocutorlaw1.CivilMonths', WHERE WHAT IT READS IS OF BULK AT MOST 1048576: true; the input reads as it did. -/
def civilMonthsUptoRow : OpenClaim := { program := "ytokigbdnihamiab", sum := "23710b36150f5efee7d500e93cff639968ee1a3bc5acb668648f4ad937ebab1a", func := "interlocutor/interlocutorlaw1.CivilMonths", spec := "civilMonths", unfollowed := true, recurses := true, apart := false, narrowed := true }
def CivilMonthsUptoSaid : Prop := civilMonthsUptoRow.holds Try.pinned (OpenSpec.upto civilMonthsSpec)

/-- 'interlocutorlaw1.CivilDaysOn', WHERE WHAT IT READS IS OF BULK AT MOST 1048576: true; the input reads as it did. -/
def civilDaysOnUptoRow : OpenClaim := { program := "ytokigbdnihamiab", sum := "23710b36150f5efee7d500e93cff639968ee1a3bc5acb668648f4ad937ebab1a", func := "interlocutor/interlocutorlaw1.CivilDaysOn", spec := "civilDaysOn", unfollowed := true, recurses := true, apart := false, narrowed := true }
def CivilDaysOnUptoSaid : Prop := civilDaysOnUptoRow.holds Try.pinned (OpenSpec.upto civilDaysOnSpec)

/-- 'interlocutorlaw1.CivilEnds', WHERE WHAT IT READS IS OF BULK AT MOST 1048576: true; the input reads as it did. -/
def civilEndsUptoRow : OpenClaim := { program := "ytokigbdnihamiab", sum := "23710b36150f5efee7d500e93cff639968ee1a3bc5acb668648f4ad937ebab1a", func := "interlocutor/interlocutorlaw1.CivilEnds", spec := "civilEnds", unfollowed := true, recurses := true, apart := false, narrowed := true }
def CivilEndsUptoSaid : Prop := civilEndsUptoRow.holds Try.pinned (OpenSpec.upto civilEndsSpec)

/-- 'interlocutorlaw1.CivilEras', WHERE WHAT IT READS IS OF BULK AT MOST 1048576: true; the input reads as it did. -/
def civilErasUptoRow : OpenClaim := { program := "ytokigbdnihamiab", sum := "23710b36150f5efee7d500e93cff639968ee1a3bc5acb668648f4ad937ebab1a", func := "interlocutor/interlocutorlaw1.CivilEras", spec := "civilEras", unfollowed := true, recurses := true, apart := false, narrowed := true }
def CivilErasUptoSaid : Prop := civilErasUptoRow.holds Try.pinned (OpenSpec.upto civilErasSpec)

/-- 'interlocutorlaw1.CivilOrder', WHERE WHAT IT READS IS OF BULK AT MOST 1048576: true; the input reads as it did. -/
def civilOrderUptoRow : OpenClaim := { program := "ytokigbdnihamiab", sum := "23710b36150f5efee7d500e93cff639968ee1a3bc5acb668648f4ad937ebab1a", func := "interlocutor/interlocutorlaw1.CivilOrder", spec := "civilOrder", unfollowed := true, recurses := true, apart := false, narrowed := true }
def CivilOrderUptoSaid : Prop := civilOrderUptoRow.holds Try.pinned (OpenSpec.upto civilOrderSpec)

end Rows
end Go.Proofs.Ytokigbdnihamiab
