/-
  A slice of what is seen that came in: opened.
-/
import Derived.Test.YtgoibcolehcgcaaPk
import Derived.Test.YtgoibcolehcgcaaKf
set_option linter.unusedSimpArgs false
set_option linter.unusedVariables false
namespace Go.Proofs.Ytgoibcolehcgcaa
open Go.ChangeShapes Go.WideShapes Go.ChangeAt Go.RowKit
section
variable {H : Type} {enc : TypeId × Value → H} {W : World} {base : Nat} {spare : Nat → Bool} {held : Bool}
theorem sn_cells {fuel : Nat} {cs : List Value} {y : DataW H × List MemPlace} (h : DataW.trod enc Try.prog W base spare held fuel 37 cs = some y) : ∃ x : Sn, cs = snC x := by
  obtain ⟨xs, n, -, -, hl, hxl, hg⟩ := DataW.trod_struct Try.underlying37 h
  have hC : Try.prog.cellsOf 37 = 2 := by kernel_rfl
  have hx5 : xs.length = 2 := hxl
  rw [hC] at hl
  have one : ∀ (i : Nat) (c : Value) (f : Field), cs[i]? = some c → i < 2 → f.offset = i → Try.prog.cellsOf f.type = 1 → DataW.trod enc Try.prog W base spare held n f.type ((cs.drop f.offset).take (Try.prog.cellsOf f.type)) = xs[i]? → ∃ y, DataW.trod enc Try.prog W base spare held n f.type [c] = some y := by
    intro i c f hc hi ho hk hf
    rw [ho, hk] at hf
    have e : (cs.drop i).take 1 = [c] := by
      obtain ⟨h1, h2⟩ := List.getElem?_eq_some_iff.1 hc
      rw [List.drop_eq_getElem_cons h1, h2]; rfl
    rw [e, List.getElem?_eq_getElem (by omega)] at hf
    exact ⟨_, hf⟩
  match cs, hl with
  | [c0, c1], _ =>
    obtain ⟨y0, t0⟩ := one 0 c0 _ rfl (by decide) rfl (by kernel_rfl) (hg 0 _ rfl)
    obtain ⟨y1, t1⟩ := one 1 c1 _ rfl (by decide) rfl (by kernel_rfl) (hg 1 _ rfl)
    obtain ⟨n0, e0, -, -⟩ := DataW.trod_int (k := .i64) Try.underlying3 t0
    obtain ⟨n1, e1, -, -⟩ := DataW.trod_int (k := .i64) Try.underlying2 t1
    cases e0; cases e1
    exact ⟨(n0, n1), rfl⟩
end
section
variable {H : Type} {enc : TypeId × Value → H} {W : World}
theorem open_sns {b0 : Nat} {r : Reach} {v : Value} {d : DataW H} {ps : List MemPlace} (hok : Value.okWide Try.prog W r b0 22 v) (hd : DataW.Trod enc Try.prog W 0 (fun _ => true) true 22 v d ps) :
    ∃ (a : Option Addr) (l : List Sn) (cap : Nat), v = .slice a l.length cap ∧ l.length ≤ cap ∧ cap ≤ maxLen ∧ (a = none → l.length = 0 ∧ cap = 0) ∧ (∀ x, a = some x → x.spot = none) ∧ SnAt W a l := by
  have hu := Try.underlying22
  have hC : Try.prog.cellsOf 37 = 2 := by kernel_rfl
  obtain ⟨fuel, hf⟩ := hd
  obtain ⟨a, len, cap, rfl⟩ := okWide_slice hu hok
  rcases Deep.open_slice hu hf with ⟨hcs, -⟩ | ⟨a', len', cap', m, n, D, Pl, hcs, -, hl, hm, hmm, hx, hcell⟩
  · simp [Value.cells] at hcs
    obtain ⟨rfl, rfl, rfl⟩ := hcs
    exact ⟨none, [], 0, rfl, Nat.le_refl _, by unfold maxLen; omega, fun _ => ⟨rfl, rfl⟩, fun x hx => (by cases hx), fun k x hx => by simp [sns] at hx⟩
  · simp [Value.cells] at hcs
    obtain ⟨rfl, rfl, rfl⟩ := hcs
    simp only [if_true] at hmm
    subst hmm
    have hspot : a'.spot = none := by
      simp only [Value.okWide, hu, Cell.okWide, Cell.ok] at hok
      exact hok.2.2.2.1
    obtain ⟨g, off, s⟩ := a'
    obtain rfl : s = none := hspot
    have hE : ∀ i, i < m → ∃ x : Sn, W.cells? 0 ((⟨g, off, none⟩ : Addr).add (i * 2)) 2 = some (snC x) := fun i hi => by
      obtain ⟨cs', h1, h2⟩ := hcell i hi
      rw [hC] at h1
      obtain ⟨x, rfl⟩ := sn_cells h2
      exact ⟨x, h1⟩
    obtain ⟨E, hE⟩ := Deep.choose_lt (α := Sn) (p := fun i x => W.cells? 0 ((⟨g, off, none⟩ : Addr).add (i * 2)) 2 = some (snC x)) hE
    refine ⟨some ⟨g, off, none⟩, (List.range len).map E, m, by simp, by simpa using hl, hm, fun h => (by cases h), fun x hx => (by cases hx; rfl), fun k v hv => ?_⟩
    · have hk : k < len * 2 := by
        have := (List.getElem?_eq_some_iff.1 hv).1
        rw [sns_length] at this; simpa using this
      have e := sns_get ((List.range len).map E) (k / 2) (k % 2) (by omega)
      rw [show k / 2 * 2 + k % 2 = k by omega, hv, List.getElem?_map, List.getElem?_range (by omega)] at e
      obtain ⟨h0, h1, h2⟩ := World.cells?_some (hE (k / 2) (by omega))
      have hg := World.cells?_block (hE (k / 2) (by omega)) (by decide)
      rw [Addr.add_lit] at hg
      refine ⟨g, off, rfl, hg, ?_⟩
      have h3 := h2 (k % 2) (by omega)
      rw [Addr.add_lit, Addr.add_lit, Nat.add_assoc, show k / 2 * 2 + k % 2 = k by omega] at h3
      rw [h3]; exact e.symm
end
end Go.Proofs.Ytgoibcolehcgcaa
