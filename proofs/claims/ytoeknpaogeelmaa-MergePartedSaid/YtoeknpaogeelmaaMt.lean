/-
  Layer merge: of two rows in order that are the same but for places, each place's two are alike; a row parted into runs.
-/
import Derived.Test.YtoeknpaogeelmaaMq
import Derived.Test.YtoeknpaogeelmaaMl
set_option linter.unusedSimpArgs false
set_option linter.unusedVariables false
set_option maxRecDepth 8000
namespace Go.Proofs.Ytoeknpaogeelmaa
open Go.RowKit Go.Sort

section
variable {α : Type} {lt : α → α → Bool}
theorem insR_perm (y : α) (T : List α) : (insR lt y T).Perm (y :: T) := by
  induction T with
  | nil => exact List.Perm.refl _
  | cons e r ih =>
    rw [insR]; split
    · exact (ih.cons e).trans (List.Perm.swap y e r)
    · exact List.Perm.refl _
theorem insB_perm (y : α) (T : List α) : (insB lt y T).Perm (y :: T) := by
  unfold insB
  exact (List.reverse_perm _).trans ((insR_perm y _).trans ((List.reverse_perm T).cons y))
theorem sm_perm (S R : List α) : (smerge lt S R).Perm (S ++ R) := by
  induction R generalizing S with
  | nil => rw [List.append_nil]; exact List.Perm.refl _
  | cons y r ih =>
    rw [sm_cons]
    refine (ih _).trans ?_
    refine ((insB_perm y S).append_right r).trans ?_
    exact List.perm_middle.symm
theorem isort_perm (l : List α) : (isort lt l).Perm l := by
  have := sm_perm (lt := lt) [] l
  rw [List.nil_append] at this; exact this
/-- Of two rows in order of the same ones, those at one place are alike. -/
theorem alike (W : Wk lt) {l1 l2 : List α} (h1 : Ordered lt l1) (h2 : Ordered lt l2) (hp : l1.Perm l2) {i : Nat} {x y : α} (hx : l1[i]? = some x) (hy : l2[i]? = some y) : lt x y = false := by
  rcases hxy : lt x y with _ | _
  · rfl
  · exfalso
    obtain ⟨hi1, hx⟩ := List.getElem?_eq_some_iff.1 hx
    obtain ⟨hi2, hy⟩ := List.getElem?_eq_some_iff.1 hy
    have e1 : l1 = l1.take (i + 1) ++ l1.drop (i + 1) := (List.take_append_drop _ _).symm
    have e2 : l2 = l2.take i ++ l2.drop i := (List.take_append_drop _ _).symm
    have c1 : i + 1 ≤ l1.countP (fun z => lt z y) := by
      rw [e1, List.countP_append]
      have : (l1.take (i + 1)).countP (fun z => lt z y) = i + 1 := by
        rw [List.countP_eq_length.2 ?_, List.length_take]
        · omega
        · intro z hz
          obtain ⟨j, hj⟩ := List.getElem?_of_mem hz
          rw [List.getElem?_take] at hj
          split at hj
          · rename_i hji
            obtain ⟨hj1, hj2⟩ := List.getElem?_eq_some_iff.1 hj
            by_cases e : j = i
            · subst e; rw [← hj2, hx]; exact hxy
            · have hpw := List.pairwise_iff_getElem.1 h1 j i hj1 hi1 (by omega)
              rw [hj2, hx] at hpw
              exact W.mix2 hpw hxy
          · cases hj
      omega
    have c2 : l2.countP (fun z => lt z y) ≤ i := by
      rw [e2, List.countP_append]
      have h0 : (l2.drop i).countP (fun z => lt z y) = 0 := by
        rw [List.countP_eq_zero]
        intro z hz
        obtain ⟨j, hj⟩ := List.getElem?_of_mem hz
        rw [List.getElem?_drop] at hj
        obtain ⟨hj1, hj2⟩ := List.getElem?_eq_some_iff.1 hj
        by_cases e : j = 0
        · subst e
          have : z = y := by rw [← hj2, ← hy]; rfl
          rw [this, W.irr]; decide
        · have hpw := List.pairwise_iff_getElem.1 h2 i (i + j) hi2 hj1 (by omega)
          rw [hj2, hy] at hpw
          rw [hpw]; decide
      rw [h0]
      have := List.countP_le_length (p := fun z => lt z y) (l := l2.take i)
      rw [List.length_take] at this; omega
    have := hp.countP_eq (fun z => lt z y)
    omega
theorem set_flat_perm (Rs : List (List α)) (k : Nat) (r : List α) (x : α) (h : Rs[k]? = some r) : (Rs.set k (r ++ [x])).flatten.Perm (Rs.flatten ++ [x]) := by
  induction Rs generalizing k with
  | nil => cases h
  | cons a t ih =>
    rcases k with _ | k
    · have h : a = r := by simpa using h
      subst h
      show ((a ++ [x]) ++ t.flatten).Perm (a ++ t.flatten ++ [x])
      rw [List.append_assoc, List.append_assoc]
      exact List.Perm.append_left a (by rw [List.singleton_append]; exact List.perm_append_singleton x t.flatten |>.symm)
    · have h : t[k]? = some r := by simpa using h
      show (a ++ (t.set k (r ++ [x])).flatten).Perm (a ++ t.flatten ++ [x])
      rw [List.append_assoc]
      exact List.Perm.append_left a (ih k h)
end
/-- So far the first of a row are parted into runs, each in order. -/
def Parted (s : List Ev) (i : Nat) (Rs : List (List Ev)) : Prop := Rs.flatten.Perm (s.take i) ∧ ∀ r ∈ Rs, Ordered ltM r
theorem Parted.step {s : List Ev} {i k : Nat} {Rs : List (List Ev)} {r : List Ev} {x : Ev} (h : Parted s i Rs) (hs : Ordered ltM s) (hx : s[i]? = some x) (hk : Rs[k]? = some r) : Parted s (i + 1) (Rs.set k (r ++ [x])) := by
  refine ⟨(set_flat_perm Rs k r x hk).trans ?_, fun r2 h2 => ?_⟩
  · rw [List.take_add_one, hx]
    exact h.1.append_right [x]
  · rcases List.mem_or_eq_of_mem_set h2 with h3 | h3
    · exact h.2 r2 h3
    · subst h3
      refine List.pairwise_append.2 ⟨h.2 r (List.mem_of_getElem? hk), List.pairwise_singleton _ _, fun y hy z hz => ?_⟩
      rw [List.mem_singleton] at hz; subst hz
      have hmem : y ∈ s.take i := h.1.mem_iff.1 (List.mem_flatten.2 ⟨r, List.mem_of_getElem? hk, hy⟩)
      obtain ⟨j, hj⟩ := List.getElem?_of_mem hmem
      rw [List.getElem?_take] at hj
      split at hj
      · rename_i hji
        obtain ⟨hj1, hj2⟩ := List.getElem?_eq_some_iff.1 hj
        obtain ⟨hi1, hi2⟩ := List.getElem?_eq_some_iff.1 hx
        have := List.pairwise_iff_getElem.1 hs j i hj1 hi1 hji
        rw [hj2, hi2] at this; exact this
      · cases hj
end Go.Proofs.Ytoeknpaogeelmaa
