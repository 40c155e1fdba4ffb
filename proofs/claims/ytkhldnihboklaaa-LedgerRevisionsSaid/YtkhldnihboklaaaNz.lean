/-
  Layer ledger: what a ledger's changes say of the ones ahead of them (plain).
-/
import Derived.Test.YtkhldnihboklaaaNt
set_option linter.unusedSimpArgs false
set_option linter.unusedVariables false
namespace Go.Proofs.Ytkhldnihboklaaa
open Go.RowKit Go.Sort

def c0 : Chg := ⟨false, 0, ⟨{ data := #[] }, 0, 0⟩, t0⟩
noncomputable def lastC (l : List Chg) (p : Pl) : Chg := l.foldl (fun d c => if c.p = p then c else d) c0
noncomputable def cntC (l : List Chg) (p : Pl) : Nat := l.foldl (fun n c => if c.p = p then (if c.put then n + 1 else n) else n) 0
theorem lastC_snoc (l : List Chg) (c : Chg) (p : Pl) : lastC (l ++ [c]) p = if c.p = p then c else lastC l p := by unfold lastC; rw [List.foldl_append]; rfl
theorem cntC_snoc (l : List Chg) (c : Chg) (p : Pl) : cntC (l ++ [c]) p = if c.p = p then (if c.put then cntC l p + 1 else cntC l p) else cntC l p := by unfold cntC; rw [List.foldl_append]; rfl
theorem cntC_le (l : List Chg) (p : Pl) : cntC l p ≤ l.length := by
  refine snoc_ind (P := fun l => cntC l p ≤ l.length) (Nat.le_refl _) (fun l c ih => ?_) l
  rw [cntC_snoc, List.length_append, List.length_singleton]
  split
  · split <;> omega
  · omega
theorem take_snoc (l : List Chg) (k : Nat) (c : Chg) (hc : l[k]? = some c) : l.take (k + 1) = l.take k ++ [c] := by
  obtain ⟨hk, rfl⟩ := List.getElem?_eq_some_iff.1 hc
  exact List.take_succ_eq_append_getElem hk
theorem okN_iff {l : List Chg} {c : Chg} (h : okN l c = true) : c.put ≠ ((lastF l c.p).getD p0).th ∧ c.rev = ((lastF l c.p).getD p0).rev ∧ (c.put = true ∨ telB c.t ((lastF l c.p).getD p0).t = true) := by
  unfold okN mayB at h
  simp only [Bool.and_eq_true, Bool.not_eq_true', decide_eq_false_iff_not, decide_eq_true_eq, Bool.or_eq_true] at h
  exact ⟨h.1.1, h.1.2, h.2⟩
theorem Val.at' {l : List Chg} (h : Val l) (i : Nat) (c : Chg) (hc : l[i]? = some c) : Val (l.take i) ∧ okN (l.take i) c = true := by
  have h1 := accB_append [] (l.take (i + 1)) (l.drop (i + 1))
  rw [List.take_append_drop] at h1
  unfold Val at h
  rw [h] at h1
  have h2 := (Bool.and_eq_true _ _).mp h1.symm
  have h3 := h2.1
  rw [accB_take [] l i c hc, Bool.and_eq_true] at h3
  exact ⟨h3.1, by simpa using h3.2⟩
theorem last_inv (l : List Chg) (h : Val l) (p : Pl) : ((lastF l p).getD p0).th = (lastC l p).put ∧ (((lastF l p).getD p0).th = true → ((lastF l p).getD p0).rev = (lastC l p).rev ∧ ((lastF l p).getD p0).t = (lastC l p).t ∧ ((lastF l p).getD p0).rev + 1 = cntC l p) ∧ (((lastF l p).getD p0).th = false → ((lastF l p).getD p0).rev = cntC l p) := by
  revert h
  refine snoc_ind (P := fun l => Val l → ((lastF l p).getD p0).th = (lastC l p).put ∧ (((lastF l p).getD p0).th = true → ((lastF l p).getD p0).rev = (lastC l p).rev ∧ ((lastF l p).getD p0).t = (lastC l p).t ∧ ((lastF l p).getD p0).rev + 1 = cntC l p) ∧ (((lastF l p).getD p0).th = false → ((lastF l p).getD p0).rev = cntC l p)) (fun _ => ⟨rfl, (fun h => by cases h), fun _ => rfl⟩) (fun l c ih h => ?_) l
  have hc : (l ++ [c])[l.length]? = some c := by simp
  have h2 := h.at' l.length c hc
  rw [List.take_left] at h2
  have ih := ih h2.1
  have h3 := okN_iff h2.2
  rw [lastF_snoc, lastC_snoc, cntC_snoc]
  unfold upd
  by_cases hp : c.p = p
  · subst hp
    simp only [if_true, Option.getD_some]
    obtain ⟨a, b, d⟩ := h3
    cases hq : c.put
    · have ht : ((lastF l c.p).getD p0).th = true := by cases hx : ((lastF l c.p).getD p0).th <;> simp_all
      have := ih.2.1 ht
      simp only [stepA, hq, Bool.false_eq_true, if_false]
      exact ⟨trivial, (fun h => by cases h), fun _ => by omega⟩
    · have ht : ((lastF l c.p).getD p0).th = false := by cases hx : ((lastF l c.p).getD p0).th <;> simp_all
      have := ih.2.2 ht
      simp only [stepA, hq, if_true]
      exact ⟨trivial, fun _ => ⟨trivial, trivial, by omega⟩, fun h => by cases h⟩
  · rw [if_neg (fun e => hp e.symm), if_neg hp, if_neg hp]
    exact ih
theorem rev_facts {l : List Chg} (h : Val l) (i : Nat) (c : Chg) (hc : l[i]? = some c) : (c.put = true → c.rev = cntC (l.take i) c.p ∧ (lastC (l.take i) c.p).put = false) ∧ (c.put = false → (lastC (l.take i) c.p).put = true ∧ (lastC (l.take i) c.p).rev = c.rev ∧ telB (lastC (l.take i) c.p).t c.t = true) := by
  have h2 := h.at' i c hc
  have h3 := okN_iff h2.2
  have h4 := last_inv _ h2.1 c.p
  obtain ⟨a, b, d⟩ := h3
  constructor
  · intro hq
    have ht : ((lastF (l.take i) c.p).getD p0).th = false := by cases hx : ((lastF (l.take i) c.p).getD p0).th <;> simp_all
    exact ⟨by rw [b]; exact h4.2.2 ht, by rw [← h4.1]; exact ht⟩
  · intro hq
    have ht : ((lastF (l.take i) c.p).getD p0).th = true := by cases hx : ((lastF (l.take i) c.p).getD p0).th <;> simp_all
    have h5 := h4.2.1 ht
    refine ⟨by rw [← h4.1]; exact ht, by rw [b]; exact h5.1.symm, ?_⟩
    have hd : telB c.t ((lastF (l.take i) c.p).getD p0).t = true := by rcases d with d | d; · rw [hq] at d; cases d
                                                                       · exact d
    rw [h5.2.1] at hd
    unfold telB at hd ⊢
    simp only [Bool.and_eq_true, decide_eq_true_eq] at hd ⊢
    obtain ⟨⟨⟨⟨a1, a2⟩, a3⟩, a4⟩, a5⟩ := hd
    exact ⟨⟨⟨⟨a1.symm, a2.symm⟩, a3.symm⟩, a4.symm⟩, a5.symm⟩
end Go.Proofs.Ytkhldnihboklaaa
