/-
  A filter that came in, opened: beside a tied card's frame.
-/
import Derived.Test.YtenmjofbamihdaaDoorPlK
import Derived.Test.YtenmjofbamihdaaDoorEsK
import Derived.Test.YtenmjofbamihdaaDoorYwK
set_option linter.unusedSimpArgs false
set_option linter.unusedVariables false
set_option maxRecDepth 8000
namespace Go.Proofs.YtenmjofbamihdaaDoor
open Go.ChangeShapes Go.WideShapes Go.ChangeAt Go.RowKit
section
variable {H : Type} {enc : TypeId × Value → H} {P : Program}
theorem trod_float' {w : World} {base : Nat} {spare : Nat → Bool} {held : Bool} {fuel : Nat} {cs : List Value} {x : DataW H × List MemPlace} {t : TypeId} (ht : P.underlying t = some (.float .f64)) (h : DataW.trod enc P w base spare held fuel t cs = some x) :
    ∃ b, cs = [.float .f64 b] ∧ (Lit.float .f64 b).wf = true := by
  cases fuel with
  | zero => simp [DataW.trod] at h
  | succ n =>
    unfold DataW.trod at h
    rw [ht] at h
    split at h <;> simp_all
end
section
variable {H : Type} {enc : TypeId × Value → H} {W : World} {base : Nat} {spare : Nat → Bool} {held : Bool}
/-- The cells of an event that came in. -/
theorem ev_cells {fuel : Nat} {cs : List Value} {y : DataW H × List MemPlace} (h : DataW.trod enc Tryd.prog W base spare held fuel 44 cs = some y) : ∃ x : Ev, cs = x.cells ∧ x.val < 18446744073709551616 := by
  obtain ⟨xs, n, -, -, hl, hxl, hg⟩ := DataW.trod_struct Tryd.underlying44 h
  have hC : Tryd.prog.cellsOf 44 = 5 := by kernel_rfl
  have hx5 : xs.length = 5 := hxl
  rw [hC] at hl
  have one : ∀ (i : Nat) (c : Value) (f : Field), cs[i]? = some c → i < 5 → f.offset = i → Tryd.prog.cellsOf f.type = 1 → DataW.trod enc Tryd.prog W base spare held n f.type ((cs.drop f.offset).take (Tryd.prog.cellsOf f.type)) = xs[i]? → ∃ y, DataW.trod enc Tryd.prog W base spare held n f.type [c] = some y := by
    intro i c f hc hi ho hk hf
    rw [ho, hk] at hf
    have e : (cs.drop i).take 1 = [c] := by
      obtain ⟨h1, h2⟩ := List.getElem?_eq_some_iff.1 hc
      rw [List.drop_eq_getElem_cons h1, h2]; rfl
    rw [e, List.getElem?_eq_getElem (by omega)] at hf
    exact ⟨_, hf⟩
  match cs, hl with
  | [c0, c1, c2, c3, c4], _ =>
    obtain ⟨y0, t0⟩ := one 0 c0 _ rfl (by decide) rfl (by kernel_rfl) (hg 0 _ rfl)
    obtain ⟨y1, t1⟩ := one 1 c1 _ rfl (by decide) rfl (by kernel_rfl) (hg 1 _ rfl)
    obtain ⟨y2, t2⟩ := one 2 c2 _ rfl (by decide) rfl (by kernel_rfl) (hg 2 _ rfl)
    obtain ⟨y3, t3⟩ := one 3 c3 _ rfl (by decide) rfl (by kernel_rfl) (hg 3 _ rfl)
    obtain ⟨y4, t4⟩ := one 4 c4 _ rfl (by decide) rfl (by kernel_rfl) (hg 4 _ rfl)
    obtain ⟨n0, e0, -, w0⟩ := DataW.trod_int (k := .u64) Tryd.underlying31 t0
    obtain ⟨n1, e1, -, -⟩ := DataW.trod_int (k := .i64) Tryd.underlying3 t1
    obtain ⟨n2, e2, -, -⟩ := DataW.trod_int (k := .i64) Tryd.underlying2 t2
    obtain ⟨s3, e3, -, -⟩ := DataW.trod_string Tryd.underlying9 t3
    obtain ⟨b4, e4, w4⟩ := trod_float' Tryd.underlying42 t4
    cases e0; cases e1; cases e2; cases e3; cases e4
    have h0 : 0 ≤ n0 := by
      have h : 0 ≤ n0 ∧ n0 ≤ 18446744073709551615 := by simpa [Lit.wf, IntKind.min, IntKind.max, IntKind.signed, IntKind.bits] using w0
      exact h.1
    refine ⟨⟨n0.toNat, n1, n2, s3, b4⟩, ?_, by simpa [Lit.wf] using w4⟩
    unfold Ev.cells
    rw [Int.toNat_of_nonneg h0]
end
section
variable {H : Type} {enc : TypeId × Value → H} {W : World}
theorem open_evs {b0 : Nat} {r : Reach} {v : Value} {d : DataW H} {ps : List MemPlace} (hok : Value.okWide Tryd.prog W r b0 22 v) (hd : DataW.Trod enc Tryd.prog W 0 (fun _ => true) true 22 v d ps) :
    ∃ (a : Option Addr) (l : List Ev) (cap : Nat), v = .slice a l.length cap ∧ l.length ≤ cap ∧ cap ≤ maxLen ∧ (a = none → l.length = 0 ∧ cap = 0) ∧ (∀ x, a = some x → x.spot = none) ∧ (∀ x ∈ l, x.val < 18446744073709551616) ∧ EvAt W a l := by
  have hu := Tryd.underlying22
  have hC : Tryd.prog.cellsOf 44 = 5 := by kernel_rfl
  obtain ⟨fuel, hf⟩ := hd
  obtain ⟨a, len, cap, rfl⟩ := okWide_slice hu hok
  rcases Deep.open_slice hu hf with ⟨hcs, -⟩ | ⟨a', len', cap', m, n, D, Pl, hcs, -, hl, hm, hmm, hx, hcell⟩
  · simp [Value.cells] at hcs
    obtain ⟨rfl, rfl, rfl⟩ := hcs
    exact ⟨none, [], 0, rfl, Nat.le_refl _, by unfold maxLen; omega, fun _ => ⟨rfl, rfl⟩, fun x hx => (by cases hx), fun x hx => (by cases hx), fun k x hx => by simp [evs] at hx⟩
  · simp [Value.cells] at hcs
    obtain ⟨rfl, rfl, rfl⟩ := hcs
    simp only [if_true] at hmm
    subst hmm
    have hspot : a'.spot = none := by
      simp only [Value.okWide, hu, Cell.okWide, Cell.ok] at hok
      exact hok.2.2.2.1
    obtain ⟨g, off, s⟩ := a'
    obtain rfl : s = none := hspot
    have hE : ∀ i, i < m → ∃ x : Ev, W.cells? 0 ((⟨g, off, none⟩ : Addr).add (i * 5)) 5 = some x.cells ∧ x.val < 18446744073709551616 := fun i hi => by
      obtain ⟨cs', h1, h2⟩ := hcell i hi
      rw [hC] at h1
      obtain ⟨x, rfl, hx⟩ := ev_cells h2
      exact ⟨x, h1, hx⟩
    obtain ⟨E, hE⟩ := Deep.choose_lt (α := Ev) (p := fun i x => W.cells? 0 ((⟨g, off, none⟩ : Addr).add (i * 5)) 5 = some x.cells ∧ x.val < 18446744073709551616) hE
    refine ⟨some ⟨g, off, none⟩, (List.range len).map E, m, by simp, by simpa using hl, hm, fun h => (by cases h), fun x hx => (by cases hx; rfl), fun x hx => ?_, fun k v hv => ?_⟩
    · obtain ⟨i, hi, rfl⟩ := List.mem_map.1 hx
      exact (hE i (by have := List.mem_range.1 hi; omega)).2
    · have hk : k < len * 5 := by
        have := (List.getElem?_eq_some_iff.1 hv).1
        rw [evs_length] at this; simpa using this
      have e := evs_get ((List.range len).map E) (k / 5) (k % 5) (by omega)
      rw [show k / 5 * 5 + k % 5 = k by omega, hv, List.getElem?_map, List.getElem?_range (by omega)] at e
      obtain ⟨h0, h1, h2⟩ := World.cells?_some (hE (k / 5) (by omega)).1
      have hg := World.cells?_block (hE (k / 5) (by omega)).1 (by decide)
      rw [Addr.add_lit] at hg
      refine ⟨g, off, rfl, hg, ?_⟩
      have h3 := h2 (k % 5) (by omega)
      rw [Addr.add_lit, Addr.add_lit, Nat.add_assoc, show k / 5 * 5 + k % 5 = k by omega] at h3
      rw [h3]; exact e.symm
end
end Go.Proofs.YtenmjofbamihdaaDoor

set_option linter.unusedSimpArgs false
set_option linter.unusedVariables false
set_option maxRecDepth 8000
namespace Go.Proofs.YtenmjofbamihdaaDoor
open Go.ChangeShapes Go.WideShapes Go.ChangeAt Go.RowKit
section
variable {H : Type} {enc : TypeId × Value → H} {W : World} {base : Nat} {spare : Nat → Bool} {held : Bool}
theorem open_flt {r : Reach} {b0 : Nat} {v : Value} {d : DataW H} {p : List MemPlace} (hv : Value.okWide Tryd.prog W r b0 33 v) (h : DataW.Trod enc Tryd.prog W base spare held 33 v d p) :
    ∃ (a b : Nat) (x y : Int), v = .agg #[.int .u64 (a : Int), .int .u64 (b : Int), .int .i64 x, .int .i64 y] ∧ a < 18446744073709551616 ∧ b < 18446744073709551616 ∧ Wf64 x ∧ Wf64 y := by
  obtain ⟨cs0, rfl, -⟩ := okWide_struct Tryd.underlying33 hv
  obtain ⟨fuel, hf⟩ := h
  obtain ⟨l⟩ := cs0
  have hf : DataW.trod enc Tryd.prog W base spare held fuel 33 l = _ := hf
  obtain ⟨xs, n, -, -, hl, hxl, hg⟩ := DataW.trod_struct Tryd.underlying33 hf
  have hC : Tryd.prog.cellsOf 33 = 4 := by kernel_rfl
  have hx4 : xs.length = 4 := hxl
  rw [hC] at hl
  have one : ∀ (i : Nat) (c : Value) (f : Field), l[i]? = some c → i < 4 → f.offset = i → Tryd.prog.cellsOf f.type = 1 → DataW.trod enc Tryd.prog W base spare held n f.type ((l.drop f.offset).take (Tryd.prog.cellsOf f.type)) = xs[i]? → ∃ y, DataW.trod enc Tryd.prog W base spare held n f.type [c] = some y := by
    intro i c f hc hi ho hk hf
    rw [ho, hk] at hf
    have e : (l.drop i).take 1 = [c] := by
      obtain ⟨h1, h2⟩ := List.getElem?_eq_some_iff.1 hc
      rw [List.drop_eq_getElem_cons h1, h2]; rfl
    rw [e, List.getElem?_eq_getElem (by omega)] at hf
    exact ⟨_, hf⟩
  match l, hl with
  | [c0, c1, c2, c3], _ =>
    obtain ⟨y0, t0⟩ := one 0 c0 _ rfl (by decide) rfl (by kernel_rfl) (hg 0 _ rfl)
    obtain ⟨y1, t1⟩ := one 1 c1 _ rfl (by decide) rfl (by kernel_rfl) (hg 1 _ rfl)
    obtain ⟨y2, t2⟩ := one 2 c2 _ rfl (by decide) rfl (by kernel_rfl) (hg 2 _ rfl)
    obtain ⟨y3, t3⟩ := one 3 c3 _ rfl (by decide) rfl (by kernel_rfl) (hg 3 _ rfl)
    obtain ⟨n0, e0, -, w0⟩ := DataW.trod_int (k := .u64) Tryd.underlying31 t0
    obtain ⟨n1, e1, -, w1⟩ := DataW.trod_int (k := .u64) Tryd.underlying31 t1
    obtain ⟨n2, e2, -, w2⟩ := DataW.trod_int (k := .i64) Tryd.underlying2 t2
    obtain ⟨n3, e3, -, w3⟩ := DataW.trod_int (k := .i64) Tryd.underlying2 t3
    cases e0; cases e1; cases e2; cases e3
    have h0 : 0 ≤ n0 ∧ n0 ≤ 18446744073709551615 := by simpa [Lit.wf, IntKind.min, IntKind.max, IntKind.signed, IntKind.bits] using w0
    have h1 : 0 ≤ n1 ∧ n1 ≤ 18446744073709551615 := by simpa [Lit.wf, IntKind.min, IntKind.max, IntKind.signed, IntKind.bits] using w1
    have h2 : -9223372036854775808 ≤ n2 ∧ n2 ≤ 9223372036854775807 := by simpa [Lit.wf, IntKind.min, IntKind.max, IntKind.signed, IntKind.bits] using w2
    have h3 : -9223372036854775808 ≤ n3 ∧ n3 ≤ 9223372036854775807 := by simpa [Lit.wf, IntKind.min, IntKind.max, IntKind.signed, IntKind.bits] using w3
    refine ⟨n0.toNat, n1.toNat, n2, n3, ?_, by omega, by omega, by unfold Wf64; omega, by unfold Wf64; omega⟩
    rw [Int.toNat_of_nonneg h0.1, Int.toNat_of_nonneg h1.1]
end
end Go.Proofs.YtenmjofbamihdaaDoor
