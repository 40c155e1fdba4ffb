/-
  A telling that came in as an argument.
-/
import Derived.Test.YtkhldnihboklaaaPk
import Derived.Test.YtkhldnihboklaaaAa
set_option linter.unusedSimpArgs false
set_option linter.unusedVariables false
set_option maxRecDepth 8000
namespace Go.Proofs.Ytkhldnihboklaaa
open Go.ChangeShapes Go.WideShapes Go.ChangeAt Go.RowKit
section
variable {H : Type} {enc : TypeId × Value → H} {W : World} {base : Nat} {spare : Nat → Bool} {held : Bool}
theorem trod_bool' {P : Program} {w : World} {fuel : Nat} {cs : List Value} {x : DataW H × List MemPlace} {t : TypeId} (ht : P.underlying t = some .bool) (h : DataW.trod enc P w base spare held fuel t cs = some x) :
    ∃ b, cs = [.bool b] := by
  cases fuel with
  | zero => simp [DataW.trod] at h
  | succ n =>
    unfold DataW.trod at h
    rw [ht] at h
    split at h <;> simp_all
theorem tel_cells {fuel : Nat} {cs : List Value} {y : DataW H × List MemPlace} (h : DataW.trod enc Try.prog W base spare held fuel 34 cs = some y) : ∃ x : Tel, cs = [.int .u64 (x.c : Int), .float .f64 x.s, .bool x.o, .float .f64 x.lo, .float .f64 x.hi] ∧ x.Ok := by
  obtain ⟨xs, n, -, -, hl, hxl, hg⟩ := DataW.trod_struct Try.underlying34 h
  have hC : Try.prog.cellsOf 34 = 5 := by kernel_rfl
  have hx5 : xs.length = 5 := hxl
  rw [hC] at hl
  have one : ∀ (i : Nat) (c : Value) (f : Field), cs[i]? = some c → i < 5 → f.offset = i → Try.prog.cellsOf f.type = 1 → DataW.trod enc Try.prog W base spare held n f.type ((cs.drop f.offset).take (Try.prog.cellsOf f.type)) = xs[i]? → ∃ y, DataW.trod enc Try.prog W base spare held n f.type [c] = some y := by
    intro i c f hc hi ho hk hf
    rw [ho, hk] at hf
    have e : (cs.drop i).take 1 = [c] := by
      obtain ⟨h1, h2⟩ := List.getElem?_eq_some_iff.1 hc
      rw [List.drop_eq_getElem_cons h1, h2]; rfl
    rw [e, List.getElem?_eq_getElem (by omega)] at hf
    exact ⟨_, hf⟩
  match cs, hl with
  | [c0, c1, c2, c3, c4], _ =>
    obtain ⟨y0, t0⟩ := one 0 c0 _ rfl (by decide) rfl (by kernel_rfl) (hg 0 _ rfl)
    obtain ⟨y1, t1⟩ := one 1 c1 _ rfl (by decide) rfl (by kernel_rfl) (hg 1 _ rfl)
    obtain ⟨y2, t2⟩ := one 2 c2 _ rfl (by decide) rfl (by kernel_rfl) (hg 2 _ rfl)
    obtain ⟨y3, t3⟩ := one 3 c3 _ rfl (by decide) rfl (by kernel_rfl) (hg 3 _ rfl)
    obtain ⟨y4, t4⟩ := one 4 c4 _ rfl (by decide) rfl (by kernel_rfl) (hg 4 _ rfl)
    obtain ⟨n0, e0, -, w0⟩ := DataW.trod_int (k := .u64) Try.underlying29 t0
    obtain ⟨b1, e1, w1⟩ := trod_float' Try.underlying32 t1
    obtain ⟨b2, e2⟩ := trod_bool' Try.underlying4 t2
    obtain ⟨b3, e3, w3⟩ := trod_float' Try.underlying32 t3
    obtain ⟨b4, e4, w4⟩ := trod_float' Try.underlying32 t4
    cases e0; cases e1; cases e2; cases e3; cases e4
    have h0 : 0 ≤ n0 ∧ n0 ≤ 18446744073709551615 := by simpa [Lit.wf, IntKind.min, IntKind.max, IntKind.signed, IntKind.bits] using w0
    refine ⟨⟨n0.toNat, b1, b2, b3, b4⟩, ?_, ⟨by show n0.toNat < _; omega, by simpa [Lit.wf] using w1, by simpa [Lit.wf] using w3, by simpa [Lit.wf] using w4⟩⟩
    show _ = [Value.int .u64 ((n0.toNat : Nat) : Int), _, _, _, _]
    rw [Int.toNat_of_nonneg h0.1]
/-- A telling that came in. -/
theorem open_tel {r : Reach} {b0 : Nat} {v : Value} {d : DataW H} {p : List MemPlace} (hv : Value.okWide Try.prog W r b0 34 v) (h : DataW.Trod enc Try.prog W base spare held 34 v d p) : ∃ x : Tel, v = .agg #[.int .u64 (x.c : Int), .float .f64 x.s, .bool x.o, .float .f64 x.lo, .float .f64 x.hi] ∧ x.Ok := by
  obtain ⟨cs, rfl, -⟩ := okWide_struct Try.underlying34 hv
  obtain ⟨fuel, hf⟩ := h
  obtain ⟨x, hx, hb⟩ := tel_cells hf
  refine ⟨x, ?_, hb⟩
  obtain ⟨l⟩ := cs
  have e : l = [.int .u64 (x.c : Int), .float .f64 x.s, .bool x.o, .float .f64 x.lo, .float .f64 x.hi] := by simpa [Value.cells] using hx
  rw [e]
end
end Go.Proofs.Ytkhldnihboklaaa
