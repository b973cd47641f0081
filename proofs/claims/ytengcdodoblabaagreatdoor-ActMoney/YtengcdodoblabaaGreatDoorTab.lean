/- The two listed variables, out of a row's condition. -/
import Derived.Test.YtengcdodoblabaaGreatDoorLKnown
import Derived.Test.YtengcdodoblabaaGreatDoorRows
import Derived.Lib.LaidTab
import Derived.Stop.LaidErr
namespace Go.Proofs.YtengcdodoblabaaGreatDoor
open Go.RowKit

def TabsE (w : World) : Prop := ∃ p, Tabs p w
theorem star : "*" ++ "errors.errorString" = "*errors.errorString" := by decide
theorem rowE (u : TypeId) (h : Tryz.prog.typeName? 3 u = some "*errors.errorString") : u = 97 :=
  typeName_ptr_named (nm := "errors.errorString") (by rw [star]; kernel_rfl) (by kernel_rfl) (by decide) u (by rw [star]; exact h)
theorem tabs_of_laid {W : World} (h : laidMet Tryz.prog [("interlocutor/act.fields", Rows.laid_interlocutor_act_fields), ("interlocutor/act.errNone", Rows.laid_interlocutor_act_errNone)] W) : TabsE W := by
  have hn : Tryz.prog.globalNamed "interlocutor/act.fields" = some 0 := by kernel_rfl
  have hT := Lib.tabIs_of_head (k := .i64) (zs := [0, 2, 1, 0, 3, 3, 6, 2, 2, 1, 6]) hn (show (Tryz.prog.globals[0]?).map (·.type) = some 72 by kernel_rfl) Tryz.underlying72 Tryz.underlying3 (by kernel_rfl) (by kernel_rfl) h
  obtain ⟨a0, s0, hv0, _⟩ := laid_sentinel h.tail (show Tryz.prog.globalNamed "interlocutor/act.errNone" = some 1 by kernel_rfl) (show (Tryz.prog.globals[1]?).map (·.type) = some 81 by kernel_rfl) Tryz.underlying81 rowE Tryz.underlying97 Tryz.underlying114 rfl rfl Tryz.underlying9 (by kernel_rfl) (by kernel_rfl)
  refine ⟨.pointer (some a0), ⟨fun k hk => ?_, ?_⟩⟩
  · exact hT.cell hn k hk
  · have := World.var?_cell (show Tryz.prog.globalNamed "interlocutor/act.errNone" = some 1 by kernel_rfl) hv0 0
    simpa using this
theorem wf_bd {y : Int} (h : (Lit.int .i64 y).wf = true) : -9223372036854775808 ≤ y ∧ y ≤ 9223372036854775807 := by
  have e1 : IntKind.i64.signed = true := rfl
  have e2 : IntKind.i64.bits = 64 := rfl
  simp [Lit.wf, IntKind.min, IntKind.max, e1, e2] at h
  omega
end Go.Proofs.YtengcdodoblabaaGreatDoor
