/-
  Bytes as strings; the document's Read.
-/
import Derived.Laws.BytesArg
import Derived.Test.YtbimfopbilcdgaaDoorByK
import Derived.Test.YtbimfopbilcdgaaDoorGqK
set_option linter.unusedSimpArgs false
set_option linter.unusedVariables false
set_option maxRecDepth 8000
namespace Go.Proofs.YtbimfopbilcdgaaDoor
open Go.RowKit

/-- The document's size, from the highest byte on. -/
theorem size_loop (b0 b1 b2 b3 : Nat) (r : List Nat) : Pg.sz (b0 :: b1 :: b2 :: b3 :: r) = b0 + 256 * (b1 + 256 * (b2 + 256 * (b3 + 256 * 0))) := rfl

/-- The first four bytes, in the walk's words. -/
theorem first_four {w : World} {A : Option Addr} {q : List Nat} (h : ByAt w A q) (hn : 9 ≤ q.length) : ∃ g off b0 b1 b2 b3 r, A = some ⟨g, off, none⟩ ∧ q = b0 :: b1 :: b2 :: b3 :: r ∧ b0 < 256 ∧ b1 < 256 ∧ b2 < 256 ∧ b3 < 256 ∧ g < w.heap.size ∧
    w.cell? ⟨g, off, none⟩ = some (.int .u8 (b0 : Int)) ∧ w.cell? ⟨g, off + 1, none⟩ = some (.int .u8 (b1 : Int)) ∧ w.cell? ⟨g, off + 2, none⟩ = some (.int .u8 (b2 : Int)) ∧ w.cell? ⟨g, off + 3, none⟩ = some (.int .u8 (b3 : Int)) := by
  obtain ⟨b0, b1, b2, b3, r, rfl⟩ : ∃ b0 b1 b2 b3 r, q = b0 :: b1 :: b2 :: b3 :: r := by
    match q, hn with
    | b0 :: b1 :: b2 :: b3 :: r, _ => exact ⟨b0, b1, b2, b3, r, rfl⟩
    | [_, _, _], h => simp at h
    | [_, _], h => simp at h
    | [_], h => simp at h
    | [], h => simp at h
  obtain ⟨g, off, rfl, hg, hc⟩ := h.spot (by simp)
  exact ⟨g, off, b0, b1, b2, b3, r, rfl, rfl, h.lt b0 (by simp), h.lt b1 (by simp), h.lt b2 (by simp), h.lt b3 (by simp), hg, hc 0 b0 rfl, hc 1 b1 rfl, hc 2 b2 rfl, hc 3 b3 rfl⟩

def part (b0 b1 b2 b3 : Nat) : Nat → Nat
  | 0 => 0
  | 1 => b3
  | 2 => b3 * 256 + b2
  | 3 => (b3 * 256 + b2) * 256 + b1
  | _ => ((b3 * 256 + b2) * 256 + b1) * 256 + b0
end Go.Proofs.YtbimfopbilcdgaaDoor
