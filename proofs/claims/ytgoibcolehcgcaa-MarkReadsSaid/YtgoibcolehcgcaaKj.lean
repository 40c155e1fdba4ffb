/-
  Layer mark, plain facts: marks as bytes; whatever is read has just its bytes.
-/
import Derived.Test.YtgoibcolehcgcaaKd
import Derived.Test.YtgoibcolehcgcaaCw
set_option linter.unusedSimpArgs false
set_option linter.unusedVariables false
set_option maxRecDepth 8000
namespace Go.Proofs.Ytgoibcolehcgcaa
open Go.RowKit Go.WideShapes Mk Col
/-- A number that is read has just its bytes. -/
theorem grp_canon (q : List Nat) : ∀ k n r, (∀ x ∈ q, x < 256) → grp k q = some (n, r) → (0 < k → 0 < n) ∧ q = ub n ++ r := by
  induction q with
  | nil => intro k n r _ h; cases h
  | cons b q ih =>
    intro k n r hq h
    have hb := hq b (by simp)
    rw [grp] at h
    split at h
    · cases h
    split at h
    · split at h
      · cases h
      · injection h with h; injection h with h2 h3; subst h2; subst h3
        rename_i h4 h5
        exact ⟨fun hk => by omega, by rw [ub_lt h4]; rfl⟩
    · rcases hg : grp (k + 1) q with _ | ⟨n', r'⟩
      · rw [hg] at h; cases h
      · rw [hg] at h
        injection h with h; injection h with h2 h3; subst h3
        obtain ⟨i1, i2⟩ := ih (k + 1) n' r' (fun x hx => hq x (by simp [hx])) hg
        have i1 := i1 (by omega)
        have h2 : b % 128 + 128 * n' = n := h2
        refine ⟨fun _ => by omega, ?_⟩
        rw [ub_ge (by omega), i2, ← h2]
        have e1 : (b % 128 + 128 * n') % 128 + 128 = b := by omega
        have e2 : (b % 128 + 128 * n') / 128 = n' := by omega
        rw [e1, e2]; rfl
theorem zz_uz (n : Nat) : zz (uz n) = n := by
  unfold zz uz
  split <;> split <;> omega
theorem uP_canon {m n : Nat} {q r : List Nat} (hq : ∀ x ∈ q, x < 256) (h : uP m q = some (n, r)) : q = ub n ++ r ∧ n ≤ m := ⟨(grp_canon q 0 n r hq (uP_some h).1).2, (uP_some h).2⟩
theorem zP_canon {x : Int} {q r : List Nat} (hq : ∀ x ∈ q, x < 256) (h : zP q = some (x, r)) : q = ub (zz x) ++ r ∧ Wf64 x := by
  obtain ⟨n, h1, rfl⟩ := zP_some h
  refine ⟨by rw [zz_uz]; exact (grp_canon q 0 n r hq h1).2, ?_⟩
  have := grp_u64 h1 hq
  unfold Wf64 uz
  split <;> omega
/-- What is laid of a partition; of the first ones; of marks. -/
def pcB : Option Int → List Nat
  | none => [0]
  | some t => 1 :: ub (zz t)
def pcs (g : Nat → Option Int) : Nat → List Nat
  | 0 => []
  | k + 1 => pcs g k ++ pcB (g k)
def mkB (n : Nat) (g : Nat → Option Int) : List Nat := ub n ++ pcs g n
theorem pcs_zero (g : Nat → Option Int) : pcs g 0 = [] := rfl
theorem pcs_none {g : Nat → Option Int} {k : Nat} (h : g k = none) : pcs g (k + 1) = pcs g k ++ [0] := by
  show pcs g k ++ pcB (g k) = _; rw [h]; rfl
theorem pcs_some {g : Nat → Option Int} {k : Nat} {t : Int} (h : g k = some t) : pcs g (k + 1) = pcs g k ++ 1 :: ub (zz t) := by
  show pcs g k ++ pcB (g k) = _; rw [h]; rfl
theorem pcs_congr {g f : Nat → Option Int} (k : Nat) (h : ∀ i, i < k → g i = f i) : pcs g k = pcs f k := by
  induction k with
  | zero => rfl
  | succ k ih =>
    show pcs g k ++ pcB (g k) = pcs f k ++ pcB (f k)
    rw [ih fun i hi => h i (by omega), h k (by omega)]
def MWf (g : Nat → Option Int) : Prop := ∀ i t, g i = some t → Wf64 t
theorem pcs_len {g : Nat → Option Int} (hg : MWf g) (k : Nat) : (pcs g k).length ≤ 11 * k := by
  induction k with
  | zero => simp [pcs]
  | succ k ih =>
    show (pcs g k ++ pcB (g k)).length ≤ _
    rw [List.length_append]
    rcases h : g k with _ | t
    · show _ + 1 ≤ _; omega
    · have h1 := ub_len 9 (zz t) (Nat.lt_trans (zz_lt (hg k t h)) (by decide))
      show _ + ((ub (zz t)).length + 1) ≤ _
      omega
theorem pcs_bytes (g : Nat → Option Int) (k : Nat) : ∀ x ∈ pcs g k, x < 256 := by
  induction k with
  | zero => intro x hx; cases hx
  | succ k ih =>
    intro x hx
    have hx : x ∈ pcs g k ++ pcB (g k) := hx
    rcases List.mem_append.1 hx with h | h
    · exact ih x h
    · rcases hk : g k with _ | t
      · rw [hk] at h
        have h : x ∈ [0] := h
        simp at h; omega
      · rw [hk] at h
        have h : x ∈ 1 :: ub (zz t) := h
        rcases List.mem_cons.1 h with h | h
        · omega
        · exact ub_bytes _ x h
attribute [irreducible] pcs
/-- What a time makes of marks that had none of a partition. -/
theorem see_at {n : Int} {g : Nat → Option Int} {k : Nat} (hk : (k : Int) < n) (h : g k = none) (t : Int) : see n g (k : Int) t k = some t := by
  unfold see; rw [if_pos ⟨rfl, hk⟩, h]; rfl
theorem see_off (n : Int) (g : Nat → Option Int) (k i : Nat) (hi : i ≠ k) (t : Int) : see n g (k : Int) t i = g i := by
  unfold see; rw [if_neg (by omega)]
theorem see_wf {n : Int} {g : Nat → Option Int} {k : Nat} (hk : (k : Int) < n) (h : g k = none) {t : Int} (ht : Wf64 t) (hg : MWf g) : MWf (see n g (k : Int) t) := fun i u hu => by
  by_cases e : i = k
  · subst e; rw [see_at hk h] at hu; injection hu with hu; rw [← hu]; exact ht
  · rw [see_off _ _ _ _ e] at hu; exact hg i u hu
theorem pcs_see {n : Int} {g : Nat → Option Int} {k : Nat} (hk : (k : Int) < n) (h : g k = none) (t : Int) : pcs (see n g (k : Int) t) (k + 1) = pcs g k ++ 1 :: ub (zz t) := by
  rw [pcs_some (see_at hk h t), pcs_congr k fun i hi => see_off n g k i (by omega) t]
end Go.Proofs.Ytgoibcolehcgcaa
