/-
  Layer ledger: a slice of acts that came in.
-/
import Derived.Test.YtkhldnihboklaaaPt
import Derived.Test.YtkhldnihboklaaaNt
import Derived.Deep.Slices
set_option linter.unusedSimpArgs false
set_option linter.unusedVariables false
set_option maxRecDepth 8000
namespace Go.Proofs.Ytkhldnihboklaaa
open Go.ChangeShapes Go.WideShapes Go.ChangeAt Go.RowKit
instance : Inhabited Acx := ⟨⟨false, 0, 0, 0, ⟨0, 0, false, 0, 0⟩⟩⟩
section
variable {H : Type} {enc : TypeId × Value → H} {W : World} {base : Nat} {spare : Nat → Bool} {held : Bool}
theorem act_cells {fuel : Nat} {cs : List Value} {y : DataW H × List MemPlace} (h : DataW.trod enc Try.prog W base spare held fuel 40 cs = some y) : ∃ x : Acx, cs = x.cells ∧ x.Ok := by
  obtain ⟨xs, n, -, -, hl, hxl, hg⟩ := DataW.trod_struct Try.underlying40 h
  have hC : Try.prog.cellsOf 40 = 9 := by kernel_rfl
  have hx5 : xs.length = 5 := hxl
  rw [hC] at hl
  have one : ∀ (i : Nat) (c : Value) (f : Field), cs[i]? = some c → i < 5 → f.offset = i → Try.prog.cellsOf f.type = 1 → DataW.trod enc Try.prog W base spare held n f.type ((cs.drop f.offset).take (Try.prog.cellsOf f.type)) = xs[i]? → ∃ y, DataW.trod enc Try.prog W base spare held n f.type [c] = some y := by
    intro i c f hc hi ho hk hf
    rw [ho, hk] at hf
    have e : (cs.drop i).take 1 = [c] := by
      obtain ⟨h1, h2⟩ := List.getElem?_eq_some_iff.1 hc
      rw [List.drop_eq_getElem_cons h1, h2]; rfl
    rw [e, List.getElem?_eq_getElem (by omega)] at hf
    exact ⟨_, hf⟩
  match cs, hl with
  | [c0, c1, c2, c3, c4, c5, c6, c7, c8], _ =>
    obtain ⟨y0, q0⟩ := one 0 c0 _ rfl (by decide) rfl (by kernel_rfl) (hg 0 _ rfl)
    obtain ⟨y1, q1⟩ := one 1 c1 _ rfl (by decide) rfl (by kernel_rfl) (hg 1 _ rfl)
    obtain ⟨y2, q2⟩ := one 2 c2 _ rfl (by decide) rfl (by kernel_rfl) (hg 2 _ rfl)
    obtain ⟨y3, q3⟩ := one 3 c3 _ rfl (by decide) rfl (by kernel_rfl) (hg 3 _ rfl)
    have hA : Try.prog.cellsOf 34 = 5 := by kernel_rfl
    have oneA : ∀ f : Field, f.offset = 4 → f.type = 34 → DataW.trod enc Try.prog W base spare held n f.type (([c0, c1, c2, c3, c4, c5, c6, c7, c8].drop f.offset).take (Try.prog.cellsOf f.type)) = xs[4]? → DataW.trod enc Try.prog W base spare held n 34 [c4, c5, c6, c7, c8] = xs[4]? := fun f h1 h2 h3 => by
      rw [h1, h2, hA] at h3; exact h3
    have h4' := oneA _ rfl rfl (hg 4 _ rfl)
    rw [List.getElem?_eq_getElem (by omega)] at h4'
    obtain ⟨t, ht, hto⟩ := tel_cells h4'
    obtain ⟨b0, e0⟩ := trod_bool' Try.underlying4 q0
    obtain ⟨n1, e1, -, w1⟩ := DataW.trod_int (k := .u8) Try.underlying5 q1
    obtain ⟨n2, e2, -, w2⟩ := DataW.trod_int (k := .u8) Try.underlying5 q2
    obtain ⟨n3, e3, -, w3⟩ := DataW.trod_int (k := .u8) Try.underlying5 q3
    cases e0; cases e1; cases e2; cases e3; cases ht
    have g1 : 0 ≤ n1 ∧ n1 ≤ 255 := by simpa [Lit.wf, IntKind.min, IntKind.max, IntKind.signed, IntKind.bits] using w1
    have g2 : 0 ≤ n2 ∧ n2 ≤ 255 := by simpa [Lit.wf, IntKind.min, IntKind.max, IntKind.signed, IntKind.bits] using w2
    have g3 : 0 ≤ n3 ∧ n3 ≤ 255 := by simpa [Lit.wf, IntKind.min, IntKind.max, IntKind.signed, IntKind.bits] using w3
    refine ⟨⟨b0, n1.toNat, n2.toNat, n3.toNat, t⟩, ?_, ⟨by show n1.toNat < _; omega, by show n2.toNat < _; omega, by show n3.toNat < _; omega, hto⟩⟩
    show _ = [Value.bool b0, .int .u8 ((n1.toNat : Nat) : Int), .int .u8 ((n2.toNat : Nat) : Int), .int .u8 ((n3.toNat : Nat) : Int), _, _, _, _, _]
    rw [Int.toNat_of_nonneg g1.1, Int.toNat_of_nonneg g2.1, Int.toNat_of_nonneg g3.1]
theorem open_acts {b0 : Nat} {r : Reach} {v : Value} {d : DataW H} {ps : List MemPlace} (hok : Value.okWide Try.prog W r b0 28 v) (hd : DataW.Trod enc Try.prog W 0 (fun _ => true) true 28 v d ps) :
    ∃ (a : Option Addr) (l : List Acx) (cap : Nat), v = .slice a l.length cap ∧ l.length ≤ cap ∧ cap ≤ maxLen ∧ (∀ x ∈ l, x.Ok) ∧ AcAt W a l := by
  have hu := Try.underlying28
  have hC : Try.prog.cellsOf 40 = 9 := by kernel_rfl
  obtain ⟨fuel, hf⟩ := hd
  obtain ⟨a, len, cap, rfl⟩ := okWide_slice hu hok
  rcases Deep.open_slice hu hf with ⟨hcs, -⟩ | ⟨a', len', cap', m, n, D, Pl, hcs, -, hl, hm, hmm, hx, hcell⟩
  · simp [Value.cells] at hcs
    obtain ⟨rfl, rfl, rfl⟩ := hcs
    exact ⟨none, [], 0, rfl, Nat.le_refl _, by unfold maxLen; omega, fun x hx => (by cases hx), fun k x hx => by simp [acs] at hx⟩
  · simp [Value.cells] at hcs
    obtain ⟨rfl, rfl, rfl⟩ := hcs
    simp only [if_true] at hmm
    subst hmm
    have hspot : a'.spot = none := by
      simp only [Value.okWide, hu, Cell.okWide, Cell.ok] at hok
      exact hok.2.2.2.1
    obtain ⟨g, off, s⟩ := a'
    obtain rfl : s = none := hspot
    have hE : ∀ i, i < m → ∃ x : Acx, W.cells? 0 ((⟨g, off, none⟩ : Addr).add (i * 9)) 9 = some x.cells ∧ x.Ok := fun i hi => by
      obtain ⟨cs', h1, h2⟩ := hcell i hi
      rw [hC] at h1
      obtain ⟨x, rfl, hx⟩ := act_cells h2
      exact ⟨x, h1, hx⟩
    obtain ⟨E, hE⟩ := Deep.choose_lt (α := Acx) (p := fun i x => W.cells? 0 ((⟨g, off, none⟩ : Addr).add (i * 9)) 9 = some x.cells ∧ x.Ok) hE
    refine ⟨some ⟨g, off, none⟩, (List.range len).map E, m, by simp, by simpa using hl, hm, fun x hx => ?_, fun k v hv => ?_⟩
    · obtain ⟨i, hi, rfl⟩ := List.mem_map.1 hx
      exact (hE i (by have := List.mem_range.1 hi; omega)).2
    · have hk : k < len * 9 := by
        have := (List.getElem?_eq_some_iff.1 hv).1
        rw [acs_length] at this; simpa using this
      have e := acs_get ((List.range len).map E) (k / 9) (k % 9) (by omega)
      rw [show k / 9 * 9 + k % 9 = k by omega, hv, List.getElem?_map, List.getElem?_range (by omega)] at e
      obtain ⟨h0, h1, h2⟩ := World.cells?_some (hE (k / 9) (by omega)).1
      have hg := World.cells?_block (hE (k / 9) (by omega)).1 (by decide)
      rw [Addr.add_lit] at hg
      refine ⟨g, off, rfl, hg, ?_⟩
      have h3 := h2 (k % 9) (by omega)
      rw [Addr.add_lit, Addr.add_lit, Nat.add_assoc, show k / 9 * 9 + k % 9 = k by omega] at h3
      rw [h3]; exact e.symm
end
end Go.Proofs.Ytkhldnihboklaaa
