/-
  Layer mark, plain facts: what was seen of partitions; marks as 17 cells.
-/
import Derived.Test.YtgoibcolehcgcaaBy
import Derived.Test.YtgoibcolehcgcaaKe
import Derived.Deep.RegionHeld
import Derived.Deep.MidRow
set_option linter.unusedSimpArgs false
set_option linter.unusedVariables false
set_option maxRecDepth 8000
namespace Go.Proofs.Ytgoibcolehcgcaa.Mk
/-- The greater of what was seen, if anything was, and a time. -/
def top1 (o : Option Int) (t : Int) : Option Int := match o with | none => some t | some u => if u < t then some t else some u
/-- What was seen of a partition, in a list. -/
def ofL (n p : Int) (l : List (Int × Int)) : Option Int := l.foldl (fun o x => if x.1 = p ∧ 0 ≤ p ∧ p < n then top1 o x.2 else o) none
theorem ofL_snoc (n p : Int) (l : List (Int × Int)) (x : Int × Int) : ofL n p (l ++ [x]) = if x.1 = p ∧ 0 ≤ p ∧ p < n then top1 (ofL n p l) x.2 else ofL n p l := by
  unfold ofL; rw [List.foldl_append]; rfl
theorem ofL_out (n p : Int) (h : ¬ (0 ≤ p ∧ p < n)) (l : List (Int × Int)) : ofL n p l = none := by
  unfold ofL
  induction l with
  | nil => rfl
  | cons x r ih => rw [List.foldl_cons, if_neg (by omega)]; exact ih
/-- A time of a partition is seen. -/
def see (n : Int) (g : Nat → Option Int) (p t : Int) : Nat → Option Int := fun i => if (i : Int) = p ∧ p < n then top1 (g i) t else g i
/-- All that was seen. -/
def sees (n : Int) (l : List (Int × Int)) : Nat → Option Int := fun i => ofL n i l
theorem sees_nil (n : Int) : sees n [] = fun _ => none := rfl
theorem sees_snoc (n : Int) (l : List (Int × Int)) (p t : Int) : sees n (l ++ [(p, t)]) = see n (sees n l) p t := by
  funext i
  unfold sees see
  rw [ofL_snoc]
  by_cases h : (i : Int) = p ∧ p < n
  · rw [if_pos (by simp; omega), if_pos h]
  · rw [if_neg (by simp; omega), if_neg h]
theorem sees_out (n : Int) (l : List (Int × Int)) (i : Nat) (h : n ≤ i) : sees n l i = none := ofL_out _ _ (by omega) _
/-- The cells of what is told of a partition. -/
def two (o : Option Int) : List Value := [.bool o.isSome, .int .i64 (o.getD 0)]
def ML (n : Int) (g : Nat → Option Int) : List Value := .int .i64 n :: (two (g 0) ++ (two (g 1) ++ (two (g 2) ++ (two (g 3) ++ (two (g 4) ++ (two (g 5) ++ (two (g 6) ++ two (g 7))))))))
/-- Marks' cells. -/
def MC (n : Int) (g : Nat → Option Int) : Array Value := (ML n g).toArray
theorem MC_size (n : Int) (g : Nat → Option Int) : (MC n g).size = 17 := rfl
theorem MC_n (n : Int) (g : Nat → Option Int) : (MC n g)[0]? = some (.int .i64 n) := rfl
theorem MC_seen (n : Int) (g : Nat → Option Int) (i : Nat) (h : i < 8) : (MC n g)[1 + i * 2]? = some (.bool (g i).isSome) := by
  rcases (by omega : i = 0 ∨ i = 1 ∨ i = 2 ∨ i = 3 ∨ i = 4 ∨ i = 5 ∨ i = 6 ∨ i = 7) with rfl | rfl | rfl | rfl | rfl | rfl | rfl | rfl <;> rfl
theorem MC_time (n : Int) (g : Nat → Option Int) (i : Nat) (h : i < 8) : (MC n g)[1 + i * 2 + 1]? = some (.int .i64 ((g i).getD 0)) := by
  rcases (by omega : i = 0 ∨ i = 1 ∨ i = 2 ∨ i = 3 ∨ i = 4 ∨ i = 5 ∨ i = 6 ∨ i = 7) with rfl | rfl | rfl | rfl | rfl | rfl | rfl | rfl <;> rfl
theorem MC_one (n : Int) (g : Nat → Option Int) : (MC n g).all (·.oneCell') = true := by
  unfold MC ML two; simp [Value.oneCell']
theorem MC_congr (n : Int) {g f : Nat → Option Int} (h : ∀ i, i < 8 → g i = f i) : MC n g = MC n f := by
  unfold MC ML
  rw [h 0 (by decide), h 1 (by decide), h 2 (by decide), h 3 (by decide), h 4 (by decide), h 5 (by decide), h 6 (by decide), h 7 (by decide)]
theorem MC_set (n : Int) (g : Nat → Option Int) (i : Nat) (h : i < 8) (t : Int) : ((MC n g).setIfInBounds (1 + i * 2) (.bool true)).setIfInBounds (1 + i * 2 + 1) (.int .i64 t) = MC n (fun k => if k = i then some t else g k) := by
  rcases (by omega : i = 0 ∨ i = 1 ∨ i = 2 ∨ i = 3 ∨ i = 4 ∨ i = 5 ∨ i = 6 ∨ i = 7) with rfl | rfl | rfl | rfl | rfl | rfl | rfl | rfl <;> rfl
theorem see_upd (n : Int) (g : Nat → Option Int) (i : Nat) (t : Int) (h : (i : Int) < n) (hg : ∀ u, g i = some u → u < t) : (fun k => if k = i then some t else g k) = see n g i t := by
  funext k
  unfold see
  by_cases e : k = i
  · subst e
    rw [if_pos rfl, if_pos ⟨rfl, h⟩]
    rcases hk : g k with _ | u
    · rfl
    · have := hg u hk
      show _ = if u < t then some t else some u
      rw [if_pos this]
  · rw [if_neg e, if_neg (by omega)]
theorem see_same (n : Int) (g : Nat → Option Int) (i : Nat) (t u : Int) (hg : g i = some u) (hu : ¬ u < t) : see n g i t = g := by
  funext k
  unfold see
  by_cases e : k = i
  · subst e
    rw [hg]
    show (if _ then (if u < t then some t else some u) else _) = _
    rw [if_neg hu, ite_self]
  · rw [if_neg (by omega)]
theorem see_out (n : Int) (g : Nat → Option Int) (p t : Int) (h : p < 0 ∨ n ≤ p) : see n g p t = g := by
  funext k
  unfold see
  rw [if_neg (by omega)]
attribute [irreducible] MC
/-- The least of the first partitions' greatest times. -/
def lowV (g : Nat → Option Int) : Nat → Int
  | 0 => (g 0).getD 0
  | k + 1 => if (g k).getD 0 < lowV g k then (g k).getD 0 else lowV g k
theorem lowV_one (g : Nat → Option Int) : lowV g 1 = (g 0).getD 0 := by
  unfold lowV; unfold lowV; simp
theorem lowV_succ (g : Nat → Option Int) (k : Nat) : lowV g (k + 1) = if (g k).getD 0 < lowV g k then (g k).getD 0 else lowV g k := rfl
def allS (g : Nat → Option Int) (k : Nat) : Prop := ∀ i, i < k → (g i).isSome = true
theorem allS_zero (g : Nat → Option Int) : allS g 0 := fun i h => absurd h (by omega)
theorem allS_succ {g : Nat → Option Int} {k : Nat} (h : allS g k) (hk : (g k).isSome = true) : allS g (k + 1) := fun i hi => by
  by_cases e : i = k
  · subst e; exact hk
  · exact h i (by omega)
/-- The least of all partitions' greatest times, if there is one. -/
def lowO (g : Nat → Option Int) (n : Nat) : Option Int := if 0 < n ∧ (List.range n).all (fun i => (g i).isSome) = true then some (lowV g n) else none
theorem lowO_zero (g : Nat → Option Int) : lowO g 0 = none := rfl
theorem lowO_none {g : Nat → Option Int} {n k : Nat} (hk : k < n) (h : g k = none) : lowO g n = none := by
  unfold lowO
  rw [if_neg]
  rintro ⟨-, h1⟩
  rw [List.all_eq_true] at h1
  have := h1 k (List.mem_range.2 hk)
  rw [h] at this; cases this
theorem lowO_all {g : Nat → Option Int} {n : Nat} (h0 : 0 < n) (h : allS g n) : lowO g n = some (lowV g n) := by
  unfold lowO
  rw [if_pos ⟨h0, by rw [List.all_eq_true]; exact fun i hi => h i (List.mem_range.1 hi)⟩]
end Go.Proofs.Ytgoibcolehcgcaa.Mk
