/-
  A slice of calls of a store that came in: opened.
-/
import Derived.Test.YtafdhgofdocjhaaPk
set_option linter.unusedSimpArgs false
set_option linter.unusedVariables false
namespace Go.Proofs.Ytafdhgofdocjhaa
open Go.ChangeShapes Go.WideShapes Go.ChangeAt Go.RowKit

/-- A call that came in; of its bytes, number and list only the cells. -/
structure ActR where
  kind : Nat
  a : Nat
  b : Nat
  name : ByteArray
  p : Value
  n : Value
  keep : Value
instance : Inhabited ActR := ⟨⟨0, 0, 0, ByteArray.empty, undef, undef, undef⟩⟩
def ActR.cells (x : ActR) : List Value := [.int .u8 (x.kind : Int), .int .u8 (x.a : Int), .int .u8 (x.b : Int), .string x.name, x.p, x.n, x.keep]
/-- Calls that came in, in a world. -/
def ActsAt (w : World) (a : Option Addr) (l : List ActR) : Prop := ∀ (i : Nat) (x : ActR), l[i]? = some x → x.kind < 256 ∧ x.a < 256 ∧ x.b < 256 ∧ ∃ g off, a = some ⟨g, off, none⟩ ∧ g < w.heap.size ∧ w.rangeAt g (off + i * 7) x.cells
theorem ActsAt.keep {w w' : World} {a : Option Addr} {l : List ActR} (h : ActsAt w a l) (hb : Below w.heap.size w w') : ActsAt w' a l := fun i x hx => by
  obtain ⟨h1, h2, h3, g, off, e, hg, hr⟩ := h i x hx
  exact ⟨h1, h2, h3, g, off, e, Nat.lt_of_lt_of_le hg hb.size, fun j v hv => (hb.cell (p := ⟨g, off + i * 7 + j, none⟩) hg).trans (hr j v hv)⟩

section
variable {H : Type} {enc : TypeId × Value → H} {W : World} {base : Nat} {spare : Nat → Bool} {held : Bool}
theorem byte_cell {fuel : Nat} {c : Value} {y : DataW H × List MemPlace} (h : DataW.trod enc Try.prog W base spare held fuel 5 [c] = some y) : ∃ n : Nat, c = .int .u8 (n : Int) ∧ n < 256 := by
  obtain ⟨n, e, -, w⟩ := DataW.trod_int (k := .u8) Try.underlying5 h
  have h0 : 0 ≤ n ∧ n ≤ 255 := by simpa [Lit.wf, IntKind.min, IntKind.max, IntKind.signed, IntKind.bits] using w
  refine ⟨n.toNat, ?_, by omega⟩
  rw [Int.toNat_of_nonneg h0.1]
  simpa using e
theorem act_cells {fuel : Nat} {cs : List Value} {y : DataW H × List MemPlace} (h : DataW.trod enc Try.prog W base spare held fuel 35 cs = some y) : ∃ x : ActR, cs = x.cells ∧ x.kind < 256 ∧ x.a < 256 ∧ x.b < 256 := by
  obtain ⟨xs, n, -, -, hl, hxl, hg⟩ := DataW.trod_struct Try.underlying35 h
  have hC : Try.prog.cellsOf 35 = 7 := by kernel_rfl
  have hx7 : xs.length = 7 := hxl
  rw [hC] at hl
  have one : ∀ (i : Nat) (c : Value) (f : Field), cs[i]? = some c → i < 7 → f.offset = i → Try.prog.cellsOf f.type = 1 → DataW.trod enc Try.prog W base spare held n f.type ((cs.drop f.offset).take (Try.prog.cellsOf f.type)) = xs[i]? → ∃ y, DataW.trod enc Try.prog W base spare held n f.type [c] = some y := by
    intro i c f hc hi ho hk hf
    rw [ho, hk] at hf
    have e : (cs.drop i).take 1 = [c] := by
      obtain ⟨h1, h2⟩ := List.getElem?_eq_some_iff.1 hc
      rw [List.drop_eq_getElem_cons h1, h2]; rfl
    rw [e, List.getElem?_eq_getElem (by omega)] at hf
    exact ⟨_, hf⟩
  match cs, hl with
  | [c0, c1, c2, c3, c4, c5, c6], _ =>
    obtain ⟨y0, t0⟩ := one 0 c0 _ rfl (by decide) rfl (by kernel_rfl) (hg 0 _ rfl)
    obtain ⟨y1, t1⟩ := one 1 c1 _ rfl (by decide) rfl (by kernel_rfl) (hg 1 _ rfl)
    obtain ⟨y2, t2⟩ := one 2 c2 _ rfl (by decide) rfl (by kernel_rfl) (hg 2 _ rfl)
    obtain ⟨y3, t3⟩ := one 3 c3 _ rfl (by decide) rfl (by kernel_rfl) (hg 3 _ rfl)
    obtain ⟨k, rfl, hk⟩ := byte_cell t0
    obtain ⟨a, rfl, ha⟩ := byte_cell t1
    obtain ⟨b, rfl, hb⟩ := byte_cell t2
    obtain ⟨s3, e3, -, -⟩ := DataW.trod_string Try.underlying9 t3
    cases e3
    exact ⟨⟨k, a, b, s3, c4, c5, c6⟩, rfl, hk, ha, hb⟩
theorem open_acts {b0 : Nat} {r : Reach} {v : Value} {d : DataW H} {ps : List MemPlace} (hok : Value.okWide Try.prog W r b0 22 v) (hd : DataW.Trod enc Try.prog W 0 (fun _ => true) true 22 v d ps) :
    ∃ (a : Option Addr) (l : List ActR) (cap : Nat), v = .slice a l.length cap ∧ l.length ≤ cap ∧ cap ≤ maxLen ∧ ActsAt W a l := by
  have hu := Try.underlying22
  have hC : Try.prog.cellsOf 35 = 7 := by kernel_rfl
  obtain ⟨fuel, hf⟩ := hd
  obtain ⟨a, len, cap, rfl⟩ := okWide_slice hu hok
  rcases Deep.open_slice hu hf with ⟨hcs, -⟩ | ⟨a', len', cap', m, n, D, Pl, hcs, -, hl, hm, hmm, hx, hcell⟩
  · simp [Value.cells] at hcs
    obtain ⟨rfl, rfl, rfl⟩ := hcs
    exact ⟨none, [], 0, rfl, Nat.le_refl _, by unfold maxLen; omega, fun k x hx => by simp at hx⟩
  · simp [Value.cells] at hcs
    obtain ⟨rfl, rfl, rfl⟩ := hcs
    simp only [if_true] at hmm
    subst hmm
    have hspot : a'.spot = none := by
      simp only [Value.okWide, hu, Cell.okWide, Cell.ok] at hok
      exact hok.2.2.2.1
    obtain ⟨g, off, s⟩ := a'
    obtain rfl : s = none := hspot
    have hE : ∀ i, i < m → ∃ x : ActR, W.cells? 0 ((⟨g, off, none⟩ : Addr).add (i * 7)) 7 = some x.cells ∧ x.kind < 256 ∧ x.a < 256 ∧ x.b < 256 := fun i hi => by
      obtain ⟨cs', h1, h2⟩ := hcell i hi
      rw [hC] at h1
      obtain ⟨x, rfl, hx⟩ := act_cells h2
      exact ⟨x, h1, hx⟩
    obtain ⟨E, hE⟩ := Deep.choose_lt (α := ActR) (p := fun i x => W.cells? 0 ((⟨g, off, none⟩ : Addr).add (i * 7)) 7 = some x.cells ∧ x.kind < 256 ∧ x.a < 256 ∧ x.b < 256) hE
    refine ⟨some ⟨g, off, none⟩, (List.range len).map E, m, by simp, by simpa using hl, hm, fun i x hx => ?_⟩
    obtain ⟨hi, rfl⟩ := List.getElem?_eq_some_iff.1 hx
    have hi' : i < len := by simpa using hi
    have e : ((List.range len).map E)[i] = E i := by simp
    rw [e]
    obtain ⟨h0, h1⟩ := hE i (by omega)
    refine ⟨h1.1, h1.2.1, h1.2.2, g, off, rfl, ?_, fun j v hv => ?_⟩
    · have hg := World.cells?_block h0 (by decide)
      rw [Addr.add_lit] at hg
      exact hg
    · have hj : j < 7 := (List.getElem?_eq_some_iff.1 hv).1
      obtain ⟨-, -, h2⟩ := World.cells?_some h0
      have h3 := h2 j hj
      rw [Addr.add_lit, Addr.add_lit] at h3
      rw [h3]; exact hv
end
end Go.Proofs.Ytafdhgofdocjhaa
