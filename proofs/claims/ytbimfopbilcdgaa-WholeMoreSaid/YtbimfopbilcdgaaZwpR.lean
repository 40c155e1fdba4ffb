/-
  Layer whole: events in whichever order are in one order.
-/
import Derived.Test.YtbimfopbilcdgaaZyQ
set_option linter.unusedSimpArgs false
set_option linter.unusedVariables false
set_option maxRecDepth 8000
namespace Go.Proofs.Ytbimfopbilcdgaa
open Go.RowKit Go.Sort Sm

/-- Two rows in their order of the same ones are one, where no two are alike. -/
theorem ord_unique {α : Type} {lt : α → α → Bool} : ∀ {l m : List α}, Ordered lt l → Ordered lt m → l.Perm m → (∀ x ∈ l, ∀ y ∈ l, lt x y = false → lt y x = false → x = y) → l = m
  | [], m, _, _, hp, _ => (List.nil_perm.1 hp).symm
  | x :: r, m, hl, hm, hp, ha => by
    rcases m with _ | ⟨y, s⟩
    · exact absurd (List.perm_nil.1 hp) (by simp)
    · unfold Ordered at hl hm
      rw [List.pairwise_cons] at hl hm
      have hxy : x = y := by
        have h1 : x ∈ y :: s := hp.mem_iff.1 (by simp)
        have h2 : y ∈ x :: r := hp.mem_iff.2 (by simp)
        rcases List.mem_cons.1 h1 with h1 | h1
        · exact h1
        · rcases List.mem_cons.1 h2 with h2 | h2
          · exact h2.symm
          · exact ha x (by simp) y (by simp [h2]) (hm.1 x h1) (hl.1 y h2)
      subst hxy
      rw [ord_unique (l := r) (m := s) hl.2 hm.2 (List.Perm.cons_inv hp) (fun a h1 b h2 => ha a (by simp [h1]) b (by simp [h2]))]
/-- No two events are alike. -/
def AntiE (l : List Ev) : Prop := ∀ x ∈ l, ∀ y ∈ l, ltE x y = false → ltE y x = false → x = y
theorem isort_eq {l q : List Ev} (h : AntiE l) (hp : q.Perm l) : isort ltE q = isort ltE l :=
  (ord_unique (isort_ordered wkE l) (isort_ordered wkE q) ((zisort_perm l).trans (hp.symm.trans (zisort_perm q).symm)) (fun x hx y hy => h x ((zisort_perm l).mem_iff.1 hx) y ((zisort_perm l).mem_iff.1 hy))).symm
theorem anti_log (c : Cf) (ps : List Pt) (k : Nat) : AntiE (lgL c ps k) := by
  intro x hx y hy h1 h2
  unfold lgL at hx hy
  obtain ⟨i, hi, rfl⟩ := List.mem_map.1 hx
  obtain ⟨j, hj, rfl⟩ := List.mem_map.1 hy
  rw [lt_no] at h1 h2
  have hk : cmpK (evPt c ps[i]! i).key (evPt c ps[j]! j).key = 0 := by
    have a1 : ¬ cmpK (evPt c ps[i]! i).key (evPt c ps[j]! j).key < 0 := fun h => h1 (.inl h)
    have a2 : ¬ cmpK (evPt c ps[j]! j).key (evPt c ps[i]! i).key < 0 := fun h => h2 (.inl h)
    rw [ek_neg] at a2
    omega
  have he := ek_eq hk
  have ht : (evPt c ps[i]! i).time = (evPt c ps[j]! j).time := by
    have a1 : ¬ (evPt c ps[i]! i).time < (evPt c ps[j]! j).time := fun h => h1 (.inr ⟨he, .inl h⟩)
    have a2 : ¬ (evPt c ps[j]! j).time < (evPt c ps[i]! i).time := fun h => h2 (.inr ⟨he.symm, .inl h⟩)
    omega
  have ho : i = j := by
    have a1 : ¬ i < j := fun h => h1 (.inr ⟨he, .inr ⟨ht, h⟩⟩)
    have a2 : ¬ j < i := fun h => h2 (.inr ⟨he.symm, .inr ⟨ht.symm, h⟩⟩)
    omega
  rw [ho]
theorem fit_perm {l q : List Ev} (h : EvFit l) (hp : q.Perm l) : EvFit q :=
  ⟨fun x hx => h.val x (hp.mem_iff.1 hx), fun x hx => h.time x (hp.mem_iff.1 hx), by rw [hp.length_eq]; exact h.few⟩
theorem panes_perm {c : Cf} {l q : List Ev} (h : AntiE l) (hp : q.Perm l) : panesL c q = panesL c l := by
  unfold panesL grps
  rw [isort_eq h hp]
end Go.Proofs.Ytbimfopbilcdgaa
