/-
  Layer whole: the document's windows of a time, looked for among eighteen, are the program's. Plain facts (towards WholePanes).
-/
import Derived.Test.YtbimfopbilcdgaaZqeR
set_option linter.unusedSimpArgs false
set_option linter.unusedVariables false
set_option maxRecDepth 8000
namespace Go.Proofs.Ytbimfopbilcdgaa
open Go.RowKit Go.Sort Sm

theorem range18 : ∀ n, n < 19 → (List.range 18).reverse.filter (fun i => decide (i < n)) = (List.range n).reverse := by decide
/-- Is the window so many steps ahead one in which the time is? -/
def okW (c : Cf) (t : Int) (i : Nat) : Bool := decide ((c.w t i).s ≤ t) && decide (t < (c.w t i).s + c.size)
theorem okW_iff {c : Cf} (h : c.Ok) (t : Int) (i : Nat) : okW c t i = decide (i < c.n t) := by
  have h1 := h.a t
  have h2 := h.n t i
  have h3 : (0 : Int) ≤ (i : Int) * c.st := Int.mul_nonneg (by omega) (by have := h.st; omega)
  unfold okW Cf.w
  rw [Bool.eq_iff_iff, Bool.and_eq_true, decide_eq_true_eq, decide_eq_true_eq, decide_eq_true_eq]
  show (c.a t - (i : Int) * c.st ≤ t ∧ t < c.a t - (i : Int) * c.st + c.size) ↔ i < c.n t
  rw [h2]
  omega
/-- .. looked for among eighteen, from the farthest on. -/
def dOf (c : Cf) (t : Int) (k : Nat) : List Wd := ((List.range k).reverse.filter (okW c t)).map (c.w t)
theorem dOf_is {c : Cf} (h : c.Ok) (t : Int) : dOf c t 18 = wOf c t := by
  unfold dOf wOf fwd
  have e : okW c t = fun i => decide (i < c.n t) := funext fun i => okW_iff h t i
  rw [e, range18 _ (by have := h.n16 t; omega), List.map_reverse]
/-- Of windows that follow one another without a gap there is one. -/
theorem wOf_tum {c : Cf} (h : c.Ok) (hk : c.kind = 0) (t : Int) : wOf c t = [⟨c.a t, c.a t + c.size⟩] := by
  have hst : c.st = c.size := by unfold Cf.st; rw [if_neg (by omega)]
  have h1 := h.a t
  have h2 := h.n t 1
  have hn : c.n t = 1 := by
    have h3 := h.n1 t
    rw [show ((1 : Nat) : Int) = 1 from rfl, Int.one_mul, hst] at h2
    omega
  unfold wOf fwd
  rw [hn]
  show [c.w t 0] = _
  unfold Cf.w
  rw [Int.natCast_zero, Int.zero_mul, Int.sub_zero]
end Go.Proofs.Ytbimfopbilcdgaa
