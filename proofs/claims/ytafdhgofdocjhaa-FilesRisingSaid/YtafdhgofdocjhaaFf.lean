/-
  Layer files: loads that any order of a drawn region may take.
-/
import Derived.Test.YtafdhgofdocjhaaFe
set_option linter.unusedSimpArgs false
set_option linter.unusedVariables false
namespace Go.Proofs.Ytafdhgofdocjhaa
open Go.RowKit Go.WideShapes

theorem lv_files (w : World) (g j : Nat) (v : Value) (h : w.cell? ⟨g, j, none⟩ = some v) : (loadVar 66 ⟨g, j, none⟩).run Try.prog w = .ok v w := by
  go_simp
theorem lv_bytes (w : World) (g j : Nat) (v : Value) (h : w.cell? ⟨g, j, none⟩ = some v) : (loadVar 32 ⟨g, j, none⟩).run Try.prog w = .ok v w := by
  go_simp
theorem lv_int (w : World) (g j : Nat) (v : Value) (h : w.cell? ⟨g, j, none⟩ = some v) : (loadVar 3 ⟨g, j, none⟩).run Try.prog w = .ok v w := by
  go_simp
theorem lv_str (w : World) (g j : Nat) (v : Value) (h : w.cell? ⟨g, j, none⟩ = some v) : (loadVar 9 ⟨g, j, none⟩).run Try.prog w = .ok v w := by
  go_simp
theorem yl {ops : Array Oper} {S : World → Prop} {op : Oper} {a : Act} (hw : Region.wanted op (yielded ops a.tmps) = true) (ty : TypeId) (x : Operand) (ho : op.op = .load ty x) (g j : Nat) (hx : a.eval x = .pointer (some ⟨g, j, none⟩)) (v : Value)
    (hl : ∀ (w : World) (g j : Nat) (v : Value), w.cell? ⟨g, j, none⟩ = some v → (loadVar ty ⟨g, j, none⟩).run Try.prog w = .ok v w) (hS : ∀ w, S w → w.cell? ⟨g, j, none⟩ = some v) : YieldsIf Try.prog ops S op v a :=
  .inl ⟨hw, fun w hw' => by
    unfold execOp
    simp only [ho, hx, Instr.loadAt, Instr.sureAddr, Sem.run_bind, Sem.run_pure, Result.andThen_ok, hl w g j v (hS w hw')]⟩
end Go.Proofs.Ytafdhgofdocjhaa
