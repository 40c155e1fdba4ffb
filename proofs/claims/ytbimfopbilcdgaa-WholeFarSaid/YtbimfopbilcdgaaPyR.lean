/-
  A slice of bytes that came in: opened, for the statements of layer exact.
-/
import Derived.Test.YtbimfopbilcdgaaZyQ
set_option linter.unusedSimpArgs false
set_option linter.unusedVariables false
set_option maxRecDepth 8000
namespace Go.Proofs.Ytbimfopbilcdgaa
open Go.ChangeShapes Go.WideShapes Go.ChangeAt Go.WideElems Go.RowKit

section
variable {H : Type} {enc : TypeId × Value → H} {P : Program}

/-- A slice of bytes that came in. -/
theorem open_bys {W : World} {t e : TypeId} {v : Value} {d : DataW H} {ps : List MemPlace} (ht : P.underlying t = some (.slice e)) (he : P.underlying e = some (.int .u8)) (hc : P.cellsOf e = 1)
    {b0 : Nat} {r : Reach} (hok : Value.okWide P W r b0 t v) (hd : DataW.Trod enc P W 0 (fun _ => true) true t v d ps) (hlt : ∀ x, x ∈ ps → x.block < W.heap.size) :
    ∃ (a : Option Addr) (l : List Nat) (cap : Nat), v = .slice a l.length cap ∧ l.length ≤ cap ∧ cap ≤ maxLen ∧ ByAt W a l := by
  obtain ⟨fuel, hf⟩ := hd
  obtain ⟨a, len, cap, rfl⟩ : ∃ a len cap, v = .slice a len cap := by
    simp only [Value.okWide, ht, Cell.okWide] at hok
    cases v <;> simp_all [Cell.ok]
  rcases Deep.open_slice1 ht hc hf with ⟨hcs, -⟩ | ⟨a', len', cap', m, n, V, D, Pl, hcs, -, hl, hm, hmm, hx, hcell⟩
  · simp [Value.cells] at hcs
    obtain ⟨rfl, rfl, rfl⟩ := hcs
    exact ⟨none, [], 0, rfl, Nat.le_refl _, by unfold maxLen; omega, fun k x hx => by simp at hx⟩
  · simp [Value.cells] at hcs
    obtain ⟨rfl, rfl, rfl⟩ := hcs
    simp only [if_true] at hmm
    subst hmm
    have hV : ∀ i, i < m → ∃ b : Nat, V i = .int .u8 (b : Int) ∧ b < 256 := fun i hi => by
      obtain ⟨b, h1, _, h2⟩ := DataW.trod_int he (hcell i hi).2
      have h3 : 0 ≤ b ∧ b ≤ 255 := by simpa [Lit.wf, IntKind.min, IntKind.max, IntKind.signed, IntKind.bits] using h2
      exact ⟨b.toNat, by rw [show ((b.toNat : Nat) : Int) = b by omega]; simpa using h1, by omega⟩
    let B : Nat → Nat := fun i => match V i with | .int _ b => b.toNat | _ => 0
    have hB : ∀ i, i < m → V i = .int .u8 (B i : Int) ∧ B i < 256 := fun i hi => by
      obtain ⟨b, h1, h2⟩ := hV i hi
      have : B i = b := by show (match V i with | .int _ b => b.toNat | _ => 0) = b; rw [h1]; simp
      rw [this]; exact ⟨h1, h2⟩
    refine ⟨some a', (List.range len).map B, m, by simp, by simpa using hl, hm, fun k x hx2 => ?_⟩
    have hk : k < len := by
      rcases Nat.lt_or_ge k len with h | h
      · exact h
      · rw [List.getElem?_eq_none (by simpa using h)] at hx2; cases hx2
    have hx3 : x = B k := by simp [hk] at hx2; exact hx2.symm
    subst hx3
    obtain ⟨b, off, spot⟩ := a'
    have hspot : spot = none := by simpa [Addr.add] using World.cell?_spot (hcell 0 (by omega)).1
    subst hspot
    refine ⟨(hB k (by omega)).2, b, off, rfl, ?_, ?_⟩
    · have hcl := (hcell 0 (by omega)).1
      have := block_lt_of_cell hcl
      simpa [Addr.add] using this
    · have h := (hcell k (by omega)).1
      rw [(hB k (by omega)).1] at h
      rw [Addr.add_lit] at h
      exact h
end
end Go.Proofs.Ytbimfopbilcdgaa
