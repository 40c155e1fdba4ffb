/-
  Layer ledger: a slice of lists of acts that came in.
-/
import Derived.Test.YtkhldnihboklaaaNu
import Derived.Test.YtkhldnihboklaaaNw
set_option linter.unusedSimpArgs false
set_option linter.unusedVariables false
set_option maxRecDepth 8000
namespace Go.Proofs.Ytkhldnihboklaaa
open Go.ChangeShapes Go.WideShapes Go.ChangeAt Go.RowKit
section
variable {H : Type} {enc : TypeId × Value → H} {W : World}
instance : Inhabited SlA := ⟨⟨none, 0, []⟩⟩
theorem acts_of_trod {v : Value} {x : DataW H × List MemPlace} {fuel : Nat} (hf : DataW.trod enc Try.prog W 0 (fun _ => true) true fuel 28 [v] = some x) :
    ∃ s : SlA, v = s.v ∧ AcAt W s.a s.l ∧ ∀ x ∈ s.l, x.Ok := by
  have hu := Try.underlying28
  have hC : Try.prog.cellsOf 40 = 9 := by kernel_rfl
  rcases Deep.open_slice hu hf with ⟨hcs, -⟩ | ⟨a', len, cap, m, n, D, Pl, hcs, -, hl, hm, hmm, hx, hcell⟩
  · simp at hcs
    subst hcs
    exact ⟨⟨none, 0, []⟩, rfl, fun k x hx => by simp [acs] at hx, fun x hx => by cases hx⟩
  · simp at hcs
    subst hcs
    simp only [if_true] at hmm
    subst hmm
    have hE : ∀ i, i < m → ∃ x : Acx, W.cells? 0 (a'.add (i * 9)) 9 = some x.cells ∧ x.Ok := fun i hi => by
      obtain ⟨cs', h1, h2⟩ := hcell i hi
      rw [hC] at h1
      obtain ⟨x, rfl, hx⟩ := act_cells h2
      exact ⟨x, h1, hx⟩
    obtain ⟨E, hE⟩ := Deep.choose_lt (α := Acx) (p := fun i x => W.cells? 0 (a'.add (i * 9)) 9 = some x.cells ∧ x.Ok) hE
    refine ⟨⟨some a', m, (List.range len).map E⟩, by simp [SlA.v], fun k v hv => ?_, fun x hx => ?_⟩
    · have hk : k < len * 9 := by
        have := (List.getElem?_eq_some_iff.1 hv).1
        rw [acs_length] at this; simpa using this
      have hspot : a'.spot = none := by
        obtain ⟨h0, h1, h2⟩ := World.cells?_some (hE 0 (by omega)).1
        have h3 := h2 0 (by omega)
        have := World.cell?_spot (h3.trans (List.getElem?_eq_getElem (by rw [ac_len]; omega)))
        simpa [Addr.add] using this
      obtain ⟨g, off, s⟩ := a'
      obtain rfl : s = none := hspot
      have e := acs_get ((List.range len).map E) (k / 9) (k % 9) (by omega)
      rw [show k / 9 * 9 + k % 9 = k by omega, hv, List.getElem?_map, List.getElem?_range (by omega)] at e
      obtain ⟨h0, h1, h2⟩ := World.cells?_some (hE (k / 9) (by omega)).1
      have hg := World.cells?_block (hE (k / 9) (by omega)).1 (by decide)
      rw [Addr.add_lit] at hg
      refine ⟨g, off, rfl, hg, ?_⟩
      have h3 := h2 (k % 9) (by omega)
      rw [Addr.add_lit, Addr.add_lit, Nat.add_assoc, show k / 9 * 9 + k % 9 = k by omega] at h3
      rw [h3]; exact e.symm
    · obtain ⟨i, hi, rfl⟩ := List.mem_map.1 hx
      exact (hE i (by have := List.mem_range.1 hi; omega)).2
theorem open_ll {b0 : Nat} {r : Reach} {v : Value} {d : DataW H} {ps : List MemPlace} (hok : Value.okWide Try.prog W r b0 22 v) (hd : DataW.Trod enc Try.prog W 0 (fun _ => true) true 22 v d ps) :
    ∃ (a : Option Addr) (l : List SlA) (cap : Nat), v = .slice a l.length cap ∧ l.length ≤ cap ∧ cap ≤ maxLen ∧ (∀ s ∈ l, ∀ x ∈ s.l, x.Ok) ∧ LlAt W a l := by
  have ht := Try.underlying22
  have hc : Try.prog.cellsOf 28 = 1 := by kernel_rfl
  obtain ⟨fuel, hf⟩ := hd
  obtain ⟨a, len, cap, rfl⟩ := okWide_slice ht hok
  rcases Deep.open_slice1 ht hc hf with ⟨hcs, -⟩ | ⟨a', len', cap', m, n, V, D, Pl, hcs, -, hl, hm, hmm, hx, hcell⟩
  · simp [Value.cells] at hcs
    obtain ⟨rfl, rfl, rfl⟩ := hcs
    exact ⟨none, [], 0, rfl, Nat.le_refl _, by unfold maxLen; omega, fun s hs => (by cases hs), fun j s hs => by simp at hs⟩
  · simp [Value.cells] at hcs
    obtain ⟨rfl, rfl, rfl⟩ := hcs
    simp only [if_true] at hmm
    subst hmm
    have hV : ∀ i, i < m → ∃ s : SlA, V i = s.v ∧ AcAt W s.a s.l ∧ ∀ x ∈ s.l, x.Ok := fun i hi => acts_of_trod (hcell i hi).2
    obtain ⟨F, hF⟩ := Deep.choose_lt (α := SlA) (p := fun i s => V i = s.v ∧ AcAt W s.a s.l ∧ ∀ x ∈ s.l, x.Ok) hV
    refine ⟨some a', (List.range len).map F, m, by simp, by simpa using hl, hm, fun s hs => ?_, fun k s hs => ?_⟩
    · obtain ⟨i, hi, rfl⟩ := List.mem_map.1 hs
      exact (hF i (by have := List.mem_range.1 hi; omega)).2.2
    · have hk : k < len := by have := (List.getElem?_eq_some_iff.1 hs).1; simpa using this
      have hs2 : s = F k := by simp [hk] at hs; exact hs.symm
      subst hs2
      obtain ⟨b, off, spot⟩ := a'
      have hspot : spot = none := by simpa [Addr.add] using World.cell?_spot (hcell 0 (by omega)).1
      subst hspot
      have h := (hcell k (by omega)).1
      rw [(hF k (by omega)).1, Addr.add_lit] at h
      exact ⟨b, off, rfl, World.block_lt_of_cell? W ⟨b, off + k, none⟩ h, h, (hF k (by omega)).2.1⟩
end
end Go.Proofs.Ytkhldnihboklaaa
