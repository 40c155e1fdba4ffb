/-
  Layer whole: what came in as an argument: one event in small numbers.
-/
import Derived.Test.YtbimfopbilcdgaaZyQ
set_option linter.unusedSimpArgs false
set_option linter.unusedVariables false
set_option maxRecDepth 8000
namespace Go.Proofs.Ytbimfopbilcdgaa
open Go.ChangeShapes Go.WideShapes Go.ChangeAt Go.RowKit
section
variable {H : Type} {enc : TypeId × Value → H} {W : World} {base : Nat} {spare : Nat → Bool} {held : Bool}
theorem open_put {r : Reach} {b0 : Nat} {v : Value} {d : DataW H} {p : List MemPlace} (hv : Value.okWide Try.prog W r b0 106 v) (h : DataW.Trod enc Try.prog W base spare held 106 v d p) : ∃ x : Pt, v = .agg #[.int .u8 (x.part : Int), .int .u8 (x.time : Int), .int .u8 (x.key : Int), .float .f64 x.val] ∧ x.Ok := by
  obtain ⟨cs, rfl, -⟩ := okWide_struct Try.underlying106 hv
  obtain ⟨fuel, hf⟩ := h
  obtain ⟨x, hx, hb⟩ := pt_cells hf
  refine ⟨x, ?_, hb⟩
  obtain ⟨l⟩ := cs
  have e : l = [.int .u8 (x.part : Int), .int .u8 (x.time : Int), .int .u8 (x.key : Int), .float .f64 x.val] := by simpa [Value.cells, Pt.cells] using hx
  rw [e]
end
end Go.Proofs.Ytbimfopbilcdgaa
