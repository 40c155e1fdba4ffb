/-
  Layer whole: what a log comes to, of windows that are no sessions, and of both. Plain facts (towards WholePanes).
-/
import Derived.Test.YtbimfopbilcdgaaZqdR
set_option linter.unusedSimpArgs false
set_option linter.unusedVariables false
set_option maxRecDepth 8000
namespace Go.Proofs.Ytbimfopbilcdgaa
open Go.RowKit Go.Sort Sm

theorem grid_doc {c : Cf} (hk : c.kind ≠ 2) (l : List Ev) (jts : List Grp) (hp : (itsL c l).Perm jts) :
    (grps c l).map (·.p) = (addA jts).map (·.p) ∧ ∀ g ∈ grps c l, ∀ y ∈ addA jts, g.p = y.p → g.vs.Perm y.vs := by
  have e : grps c l = addA (itsL c (isort ltE l)) := by
    unfold grps grpsS
    rw [decide_eq_false hk]
    exact putA_addA _
  rw [e]
  exact addA_perm (((zisort_perm l).flatMap_right _).trans hp)
/-- Groups with the same places, and the same values at each: one by one. -/
theorem groups_alike : ∀ (gs hs : List Grp), Srt gs → gs.map (·.p) = hs.map (·.p) → (∀ g ∈ gs, ∀ y ∈ hs, g.p = y.p → g.vs.Perm y.vs) → gs.length = hs.length ∧ ∀ (k : Nat) (g y : Grp), gs[k]? = some g → hs[k]? = some y → g.p = y.p ∧ g.vs.Perm y.vs := fun gs hs _ he hv => by
  have hl : gs.length = hs.length := by have := congrArg List.length he; simpa using this
  refine ⟨hl, fun k g y hg hy => ?_⟩
  have h1 : (gs.map (·.p))[k]? = some g.p := by rw [List.getElem?_map, hg]; rfl
  have h2 : (hs.map (·.p))[k]? = some y.p := by rw [List.getElem?_map, hy]; rfl
  rw [he, h2] at h1
  injection h1 with h1
  exact ⟨h1.symm, hv g (List.mem_of_getElem? hg) y (List.mem_of_getElem? hy) h1.symm⟩
end Go.Proofs.Ytbimfopbilcdgaa
