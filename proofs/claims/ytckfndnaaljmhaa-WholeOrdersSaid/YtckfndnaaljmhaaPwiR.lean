/-
  Layer whole: a window that came in as an argument.
-/
import Derived.Test.YtckfndnaaljmhaaZyQ
set_option linter.unusedSimpArgs false
set_option linter.unusedVariables false
set_option maxRecDepth 8000
namespace Go.Proofs.Ytckfndnaaljmhaa
open Go.ChangeShapes Go.WideShapes Go.ChangeAt Go.RowKit
section
variable {H : Type} {enc : TypeId × Value → H} {W : World} {base : Nat} {spare : Nat → Bool} {held : Bool}
theorem win_cells {fuel : Nat} {cs : List Value} {y : DataW H × List MemPlace} (h : DataW.trod enc Try.prog W base spare held fuel 84 cs = some y) : ∃ s e : Int, cs = [.int .i64 s, .int .i64 e] := by
  obtain ⟨xs, n, -, -, hl, hxl, hg⟩ := DataW.trod_struct Try.underlying84 h
  have hC : Try.prog.cellsOf 84 = 2 := by kernel_rfl
  have hx5 : xs.length = 2 := hxl
  rw [hC] at hl
  have one : ∀ (i : Nat) (c : Value) (f : Field), cs[i]? = some c → i < 2 → f.offset = i → Try.prog.cellsOf f.type = 1 → DataW.trod enc Try.prog W base spare held n f.type ((cs.drop f.offset).take (Try.prog.cellsOf f.type)) = xs[i]? → ∃ y, DataW.trod enc Try.prog W base spare held n f.type [c] = some y := by
    intro i c f hc hi ho hk hf
    rw [ho, hk] at hf
    have e : (cs.drop i).take 1 = [c] := by
      obtain ⟨h1, h2⟩ := List.getElem?_eq_some_iff.1 hc
      rw [List.drop_eq_getElem_cons h1, h2]; rfl
    rw [e, List.getElem?_eq_getElem (by omega)] at hf
    exact ⟨_, hf⟩
  match cs, hl with
  | [c0, c1], _ =>
    obtain ⟨y0, t0⟩ := one 0 c0 _ rfl (by decide) rfl (by kernel_rfl) (hg 0 _ rfl)
    obtain ⟨y1, t1⟩ := one 1 c1 _ rfl (by decide) rfl (by kernel_rfl) (hg 1 _ rfl)
    obtain ⟨n0, e0, -, w0⟩ := DataW.trod_int (k := .i64) Try.underlying2 t0
    obtain ⟨n1, e1, -, w1⟩ := DataW.trod_int (k := .i64) Try.underlying2 t1
    cases e0; cases e1
    exact ⟨n0, n1, rfl⟩
theorem open_win {r : Reach} {b0 : Nat} {v : Value} {d : DataW H} {p : List MemPlace} (hv : Value.okWide Try.prog W r b0 84 v) (h : DataW.Trod enc Try.prog W base spare held 84 v d p) : ∃ s e : Int, v = .agg #[.int .i64 s, .int .i64 e] := by
  obtain ⟨cs, rfl, -⟩ := okWide_struct Try.underlying84 hv
  obtain ⟨fuel, hf⟩ := h
  obtain ⟨s, e, hx⟩ := win_cells hf
  refine ⟨s, e, ?_⟩
  obtain ⟨l⟩ := cs
  have h : l = [.int .i64 s, .int .i64 e] := by simpa [Value.cells] using hx
  rw [h]
end
end Go.Proofs.Ytckfndnaaljmhaa
