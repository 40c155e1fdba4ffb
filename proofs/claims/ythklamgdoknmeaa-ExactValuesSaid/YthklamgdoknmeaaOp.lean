/-
  A sum does not hang on the order of its numbers, nor on how they are grouped: plain facts.
-/
import Derived.Test.YthklamgdoknmeaaLc
set_option linter.unusedSimpArgs false
set_option linter.unusedVariables false
set_option maxRecDepth 8000
namespace Go.Proofs.Ythklamgdoknmeaa
open Go.RowKit Sm

theorem accN_sum (l : List Nat) : accN l = (l.map unit).sum % top :=
  list_snoc (p := fun l => accN l = (l.map unit).sum % top) (by simp [accN]) (fun l b ih => by
    rw [accN_snoc, ih, List.map_append, List.sum_append, List.map_singleton, List.sum_singleton, Nat.mod_add_mod]) l
theorem accN_perm {l m : List Nat} (h : List.Perm l m) : accN l = accN m := by
  rw [accN_sum, accN_sum, List.Perm.sum_nat (h.map unit)]
theorem accH_foldr (l : List Nat) : accH l = (l.map kindB).foldr (· ||| ·) 0 :=
  list_snoc (p := fun l => accH l = (l.map kindB).foldr (· ||| ·) 0) (by simp [accH]) (fun l b ih => by
    have key : ∀ (q : List Nat) (x : Nat), q.foldr (· ||| ·) x = q.foldr (· ||| ·) 0 ||| x := by
      intro q x
      induction q with
      | nil => simp
      | cons y r i => rw [List.foldr_cons, List.foldr_cons, i, Nat.or_assoc]
    rw [accH_snoc, ih, List.map_append, List.foldr_append, List.map_singleton, List.foldr_cons, List.foldr_nil, Nat.or_zero, key _ (kindB b)]) l
theorem accH_perm {l m : List Nat} (h : List.Perm l m) : accH l = accH m := by
  rw [accH_foldr, accH_foldr]
  exact (h.map kindB).foldr_eq' (fun x _ y _ z => by rw [← Nat.or_assoc, ← Nat.or_assoc, Nat.or_comm y x]) 0
theorem accN_append (p q : List Nat) : accN (p ++ q) = (accN p + accN q) % top := by
  rw [accN_sum, accN_sum, accN_sum, List.map_append, List.sum_append, Nat.add_mod]
theorem accH_append (p q : List Nat) : accH (p ++ q) = accH p ||| accH q := by
  rw [accH_foldr, accH_foldr, accH_foldr, List.map_append, List.foldr_append]
  induction p.map kindB with
  | nil => simp
  | cons y r i => rw [List.foldr_cons, List.foldr_cons, i, Nat.or_assoc]
/-- Two places changed about. -/
def swap0 (l : List Nat) (k : Nat) : List Nat := (l.set k (l.getD 0 0)).set 0 (l.getD k 0)
theorem swap0_len (l : List Nat) (k : Nat) : (swap0 l k).length = l.length := by unfold swap0; simp
theorem swap0_perm (l : List Nat) (k : Nat) (h : k < l.length) : List.Perm (swap0 l k) l := by
  unfold swap0
  have h0 : 0 < l.length := by omega
  rw [List.getD_eq_getElem?_getD, List.getD_eq_getElem?_getD, List.getElem?_eq_getElem h0, List.getElem?_eq_getElem h]
  exact List.set_set_perm h h0
theorem split_sums (l m : List Nat) (k : Nat) (h : List.Perm m l) : (accN (m.take k) + accN (m.drop k)) % top = accN l ∧ accH (m.take k) ||| accH (m.drop k) = accH l := by
  rw [← accN_append, ← accH_append, List.take_append_drop]
  exact ⟨accN_perm h, accH_perm h⟩
end Go.Proofs.Ythklamgdoknmeaa
