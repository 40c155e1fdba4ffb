/-
  Layer merge: a tree of losers, as plain facts.
-/
import Derived.Test.YtjldamkmdkaiiaaGreatDoorEfK
import Derived.Sort.LotA
import Derived.Sort.WalkA
set_option linter.unusedSimpArgs false
set_option linter.unusedVariables false
namespace Go.Proofs.YtjldamkmdkaiiaaGreatDoor
open Go.RowKit Go.Sort
section
variable {α : Type} (lt : α → α → Bool)
def insR (x : α) : List α → List α
 | [] => [x]
 | e :: r => if lt x e then e :: insR x r else x :: e :: r
def insB (x : α) (s : List α) : List α := (insR lt x s.reverse).reverse
def smerge (s t : List α) : List α := t.foldl (fun s x => insB lt x s) s
def isort (l : List α) : List α := smerge lt [] l
variable {lt}
theorem insR_left (y : α) (T S : List α) (h : ∀ x ∈ T, lt y x = true) : insR lt y (T ++ S) = T ++ insR lt y S := by
 induction T with
 | nil => rfl
 | cons e r ih => rw [List.cons_append, insR, if_pos (h e (by simp)), ih (fun x hx => h x (by simp [hx])), List.cons_append]
theorem insR_right (y : α) (T S : List α) (h : ∀ x ∈ S, lt y x = false) : insR lt y (T ++ S) = insR lt y T ++ S := by
 induction T with
 | nil =>
  rcases S with _ | ⟨e, r⟩
  ·rfl
  ·show insR lt y (e :: r) = [y] ++ e :: r
   rw [insR, if_neg (by rw [h e (by simp)]; decide)]; rfl
 | cons e r ih =>
  rw [List.cons_append, insR, insR]
  by_cases he : lt y e = true
  ·rw [if_pos he, if_pos he, ih]; rfl
  ·rw [if_neg he, if_neg he]; rfl
theorem insB_left (y : α) (S T : List α) (h : ∀ x ∈ T, lt y x = true) : insB lt y (S ++ T) = insB lt y S ++ T := by
 unfold insB; rw [List.reverse_append, insR_left y _ _ (fun x hx => h x (by simpa using hx)), List.reverse_append, List.reverse_reverse]
theorem insB_right (y : α) (S T : List α) (h : ∀ x ∈ S, lt y x = false) : insB lt y (S ++ T) = S ++ insB lt y T := by
 unfold insB; rw [List.reverse_append, insR_right y _ _ (fun x hx => h x (by simpa using hx)), List.reverse_append, List.reverse_reverse]
theorem insB_nil (x : α) : insB lt x [] = [x] := rfl
theorem insB_snoc (x e : α) (r : List α) : insB lt x (r ++ [e]) = if lt x e = true then insB lt x r ++ [e] else r ++ [e, x] := by
 unfold insB; rw [List.reverse_append]
 show (insR lt x (e :: r.reverse)).reverse = _
 rw [insR]; split <;> simp
theorem insR_mem (y x : α) (T : List α) : x ∈ insR lt y T ↔ x = y ∨ x ∈ T := by
 induction T with
 | nil => simp [insR]
 | cons e r ih =>
  rw [insR]; split
  ·rw [List.mem_cons, ih, List.mem_cons]
   constructor
   ·rintro (h | h | h)
    ·exact .inr (.inl h)
    ·exact .inl h
    ·exact .inr (.inr h)
   ·rintro (h | h | h)
    ·exact .inr (.inl h)
    ·exact .inl h
    ·exact .inr (.inr h)
  ·rw [List.mem_cons]
theorem insR_len (y : α) (T : List α) : (insR lt y T).length = T.length + 1 := by
 induction T with
 | nil => rfl
 | cons e r ih => rw [insR]; split <;> simp [ih]
theorem insB_mem (y x : α) (T : List α) : x ∈ insB lt y T ↔ x = y ∨ x ∈ T := by unfold insB; rw [List.mem_reverse, insR_mem, List.mem_reverse]
theorem insB_len (y : α) (T : List α) : (insB lt y T).length = T.length + 1 := by unfold insB; rw [List.length_reverse, insR_len, List.length_reverse]
theorem sm_cons (S : List α) (y : α) (R : List α) : smerge lt S (y :: R) = smerge lt (insB lt y S) R := rfl
theorem sm_append (S R1 R2 : List α) : smerge lt S (R1 ++ R2) = smerge lt (smerge lt S R1) R2 := by unfold smerge; rw [List.foldl_append]
theorem sm_mem (x : α) (S R : List α) : x ∈ smerge lt S R ↔ x ∈ S ∨ x ∈ R := by
 induction R generalizing S with
 | nil => simp [smerge]
 | cons y r ih => rw [sm_cons, ih, insB_mem, List.mem_cons]; constructor <;> (rintro h; grind)
theorem sm_len (S R : List α) : (smerge lt S R).length = S.length + R.length := by
 induction R generalizing S with
 | nil => simp [smerge]
 | cons y r ih => rw [sm_cons, ih, insB_len, List.length_cons]; omega
theorem sm_right (S T R : List α) (h : ∀ y ∈ R, ∀ x ∈ S, lt y x = false) : smerge lt (S ++ T) R = S ++ smerge lt T R := by
 induction R generalizing T with
 | nil => rfl
 | cons y r ih => rw [sm_cons, insB_right y S T (h y (by simp)), ih _ (fun z hz => h z (by simp [hz])), sm_cons]
def Ordered (lt : α → α → Bool) (l : List α) : Prop := l.Pairwise fun x y => lt y x = false
theorem sm_nil (R : List α) (h : Ordered lt R) : smerge lt [] R = R := by
 induction R with
 | nil => rfl
 | cons y r ih =>
  rw [Ordered, List.pairwise_cons] at h
  rw [sm_cons, insB_nil, show [y] = [y] ++ [] from rfl, sm_right [y] [] r (fun z hz x hx => by simp at hx; subst hx; exact h.1 z hz), ih h.2]; rfl
structure Wk (lt : α → α → Bool) : Prop where
 tr : ∀ x y z, lt x y = true → lt y z = true → lt x z = true
 asy : ∀ x y, lt x y = true → lt y x = false
 nt : ∀ x y z, lt x y = false → lt y z = false → lt x z = false
theorem Wk.mix (h : Wk lt) {x y z : α} (h1 : lt x y = true) (h2 : lt z y = false) : lt x z = true := by
 rcases hx : lt x z with _ | _
 ·have := h.nt x z y hx h2; rw [h1] at this; cases this
 ·rfl
theorem Wk.mix2 (h : Wk lt) {x y z : α} (h1 : lt y x = false) (h2 : lt y z = true) : lt x z = true := by
 rcases hx : lt x z with _ | _
 ·have := h.nt y x z h1 hx; rw [h2] at this; cases this
 ·rfl
theorem insR_comm (W : Wk lt) (y t : α) (U : List α) (h : lt y t = true) : insR lt y (insR lt t U) = insR lt t (insR lt y U) := by
 induction U with
 | nil =>
  show insR lt y [t] = insR lt t [y]
  rw [insR, if_pos h, insR, insR, if_neg (by rw [W.asy _ _ h]; decide)]
 | cons e r ih =>
  by_cases h1 : lt t e = true
  ·have h2 : lt y e = true := W.tr _ _ _ h h1
   have e1 : insR lt t (e :: r) = e :: insR lt t r := by rw [insR, if_pos h1]
   have e2 : insR lt y (e :: r) = e :: insR lt y r := by rw [insR, if_pos h2]
   rw [e1, e2, insR, if_pos h2, insR, if_pos h1, ih]
  ·have e1 : insR lt t (e :: r) = t :: e :: r := by rw [insR, if_neg h1]
   rw [e1, insR, if_pos h]
   by_cases h2 : lt y e = true
   ·have e2 : insR lt y (e :: r) = e :: insR lt y r := by rw [insR, if_pos h2]
    rw [e2, insR, if_neg h1]
   ·have e2 : insR lt y (e :: r) = y :: e :: r := by rw [insR, if_neg h2]
    rw [e2, insR, if_neg (by rw [W.asy _ _ h]; decide)]
theorem insB_comm (W : Wk lt) (y t : α) (U : List α) (h : lt y t = true) : insB lt y (insB lt t U) = insB lt t (insB lt y U) := by
 unfold insB; rw [List.reverse_reverse, List.reverse_reverse, insR_comm W y t _ h]
theorem snoc_cases (l : List α) : l = [] ∨ ∃ r e, l = r ++ [e] := by
 rcases h : l.reverse with _ | ⟨e, r⟩
 ·left; simpa using h
 ·right; exact ⟨r.reverse, e, by have := congrArg List.reverse h; simpa using this⟩
theorem insB_sm (W : Wk lt) (y : α) (S : List α) : ∀ (n : Nat) (T : List α), T.length = n → insB lt y (smerge lt S T) = smerge lt S (insB lt y T) := by
 intro n
 induction n with
 | zero => intro T hT; obtain rfl : T = [] := List.eq_nil_of_length_eq_zero hT; rfl
 | succ n ih =>
  intro T hT
  rcases snoc_cases T with rfl | ⟨r, e, rfl⟩
  ·simp at hT
  ·have hr : r.length = n := by simpa using hT
   rw [insB_snoc, sm_append]
   show insB lt y (insB lt e (smerge lt S r)) = _
   by_cases h : lt y e = true
   ·rw [if_pos h, insB_comm W y e _ h, ih r hr, sm_append]; rfl
   ·rw [if_neg h, show r ++ [e, y] = (r ++ [e]) ++ [y] by simp, sm_append, sm_append]; rfl
theorem sm_isort (W : Wk lt) (S : List α) : ∀ (n : Nat) (B : List α), B.length = n → smerge lt S B = smerge lt S (isort lt B) := by
 intro n
 induction n with
 | zero => intro B hB; obtain rfl : B = [] := List.eq_nil_of_length_eq_zero hB; rfl
 | succ n ih =>
  intro B hB
  rcases snoc_cases B with rfl | ⟨r, e, rfl⟩
  ·simp at hB
  ·have hr : r.length = n := by simpa using hB
   have e1 : isort lt (r ++ [e]) = insB lt e (isort lt r) := by unfold isort; rw [sm_append]; rfl
   rw [e1, ← insB_sm W e S _ _ rfl, ← ih r hr, sm_append]; rfl
theorem isort_append (W : Wk lt) (A B : List α) : isort lt (A ++ B) = smerge lt (isort lt A) (isort lt B) := by
 unfold isort; rw [sm_append]; exact sm_isort W _ _ B rfl
theorem insR_ordered (W : Wk lt) (y : α) (U : List α) (h : U.Pairwise fun x z => lt x z = false) : (insR lt y U).Pairwise fun x z => lt x z = false := by
 induction U with
 | nil => exact List.pairwise_singleton _ _
 | cons e r ih =>
  rw [List.pairwise_cons] at h
  rw [insR]; split
  ·rename_i h1
   rw [List.pairwise_cons]
   refine ⟨fun z hz => ?_, ih h.2⟩
   rcases (insR_mem y z r).1 hz with rfl | hz
   ·exact W.asy _ _ h1
   ·exact h.1 z hz
  ·rename_i h1
   have h1' : lt y e = false := by simpa using h1
   rw [List.pairwise_cons, List.pairwise_cons]
   refine ⟨fun z hz => ?_, h⟩
   rcases List.mem_cons.1 hz with rfl | hz
   ·exact h1'
   ·exact W.nt _ _ _ h1' (h.1 z hz)
theorem insB_ordered (W : Wk lt) (y : α) (U : List α) (h : Ordered lt U) : Ordered lt (insB lt y U) := by
 unfold Ordered insB
 rw [List.pairwise_reverse]
 exact insR_ordered W y _ (by rw [List.pairwise_reverse]; exact h)
theorem sm_ordered (W : Wk lt) (S R : List α) (h : Ordered lt S) : Ordered lt (smerge lt S R) := by
 induction R generalizing S with
 | nil => exact h
 | cons y r ih => rw [sm_cons]; exact ih _ (insB_ordered W y S h)
theorem isort_ordered (W : Wk lt) (l : List α) : Ordered lt (isort lt l) := sm_ordered W [] l List.Pairwise.nil
theorem isort_len (l : List α) : (isort lt l).length = l.length := by unfold isort; rw [sm_len]; simp
def seg (l : List α) (a b : Nat) : List α := (l.drop a).take (b - a)
theorem seg_len (l : List α) (a b : Nat) (h : b ≤ l.length) : (seg l a b).length = b - a := by unfold seg; rw [List.length_take, List.length_drop]; omega
theorem cut3 (l : List α) (a b : Nat) (h : a ≤ b) : l = l.take a ++ (seg l a b ++ l.drop b) := by
 unfold seg
 have e : l.drop a = (l.drop a).take (b - a) ++ (l.drop a).drop (b - a) := (List.take_append_drop _ _).symm
 rw [List.drop_drop, show a + (b - a) = b by omega] at e
 rw [← e, List.take_append_drop]
theorem seg_of (P L Q : List α) (a b : Nat) (ha : P.length = a) (hb : P.length + L.length = b) : seg (P ++ (L ++ Q)) a b = L := by
 unfold seg; rw [List.drop_left' ha, List.take_left' (by omega)]
theorem take_of (P L : List α) (a : Nat) (ha : P.length = a) : (P ++ L).take a = P := List.take_left' ha
theorem drop_of (P L Q : List α) (b : Nat) (hb : P.length + L.length = b) : (P ++ (L ++ Q)).drop b = Q := by
 rw [← List.append_assoc]; exact List.drop_left' (by rw [List.length_append]; exact hb)
def mrg (lt : α → α → Bool) (l : List α) (a m b : Nat) : List α := l.take a ++ (smerge lt (seg l a m) (seg l m b) ++ l.drop b)
def srt (lt : α → α → Bool) (l : List α) (a b : Nat) : List α := l.take a ++ (isort lt (seg l a b) ++ l.drop b)
theorem srt_len (l : List α) (a b : Nat) (h1 : a ≤ b) (h3 : b ≤ l.length) : (srt lt l a b).length = l.length := by
 unfold srt; rw [List.length_append, List.length_append, isort_len, seg_len _ _ _ h3, List.length_take, List.length_drop]; omega
variable [Inhabited α]
end
section
variable {α : Type} (lt : α → α → Bool)
def ahd (x y : List α) (lo : Bool) : Bool := match x, y with
 | [], _ => false
 | _ :: _, [] => true
 | a :: _, b :: _ => lt a b || (lo && !lt b a)
def ah (R : Nat → List α) (a b : Nat) : Bool := ahd lt (R a) (R b) (decide (a < b))
variable {lt}
theorem Wk.irr (W : Wk lt) (x : α) : lt x x = false := by
 rcases h : lt x x with _ | _
 ·rfl
 ·have := W.asy x x h; rw [h] at this; exact this
theorem ah_irr (W : Wk lt) (R : Nat → List α) (a : Nat) : ah lt R a a = false := by
 unfold ah
 rcases R a with _ | ⟨x, r⟩
 ·rfl
 ·show (lt x x || (decide (a < a) && !lt x x)) = false
  rw [W.irr]; simp
theorem ah_asy (W : Wk lt) (R : Nat → List α) {a b : Nat} (h : ah lt R a b = true) : ah lt R b a = false := by
 unfold ah at h ⊢
 rcases ha : R a with _ | ⟨x, r⟩
 ·rw [ha] at h; cases h
 ·rcases hb : R b with _ | ⟨y, s⟩
  ·rfl
  ·rw [ha, hb] at h
   have h : (lt x y || (decide (a < b) && !lt y x)) = true := h
   show (lt y x || (decide (b < a) && !lt x y)) = false
   rcases hxy : lt x y with _ | _
   ·rw [hxy] at h
    simp at h
    rw [h.2]; simp; omega
   ·rw [W.asy _ _ hxy]; simp
theorem ah_nt (W : Wk lt) (R : Nat → List α) {a b c : Nat} (h : ah lt R a b = false) (k : ah lt R b c = false) : ah lt R a c = false := by
 unfold ah at h k ⊢
 rcases ha : R a with _ | ⟨x, r⟩
 ·rfl
 ·rcases hb : R b with _ | ⟨y, s⟩
  ·rw [ha, hb] at h; cases h
  ·rcases hc : R c with _ | ⟨z, t⟩
   ·rw [hb, hc] at k; cases k
   ·rw [ha, hb] at h
    rw [hb, hc] at k
    have h : (lt x y || (decide (a < b) && !lt y x)) = false := h
    have k : (lt y z || (decide (b < c) && !lt z y)) = false := k
    show (lt x z || (decide (a < c) && !lt z x)) = false
    simp only [Bool.or_eq_false_iff] at h k ⊢
    refine ⟨W.nt _ _ _ h.1 k.1, ?_⟩
    by_cases hac : a < c
    ·have : lt z x = true := by
      by_cases hab : a < b
      ·have h2 := h.2
       rw [decide_eq_true hab] at h2
       exact W.mix2 k.1 (by simpa using h2)
      ·have k2 := k.2
       rw [decide_eq_true (show b < c by omega)] at k2
       exact W.mix (by simpa using k2) h.1
     rw [this]; simp
    ·rw [decide_eq_false hac]; rfl
theorem ah_nil {R : Nat → List α} {a b : Nat} (h : ah lt R a b = false) (hb : R b = []) : R a = [] := by
 unfold ah at h
 rw [hb] at h
 rcases ha : R a with _ | ⟨x, r⟩
 ·rfl
 ·rw [ha] at h; cases h
theorem ah_cons {R : Nat → List α} {a b : Nat} {x y : α} {r s : List α} (h : ah lt R a b = false) (ha : R a = x :: r) (hb : R b = y :: s) : lt x y = false ∧ (a < b → lt y x = true) := by
 unfold ah at h
 rw [ha, hb] at h
 have h : (lt x y || (decide (a < b) && !lt y x)) = false := h
 simp only [Bool.or_eq_false_iff] at h
 refine ⟨h.1, fun hab => ?_⟩
 have h2 := h.2
 rw [decide_eq_true hab] at h2
 simpa using h2
variable (lt)
structure Reg (R : Nat → List α) (L V : Nat → Nat) (m : Nat) : Prop where
 who : (V m = V (2 * m) ∧ L m = V (2 * m + 1)) ∨ (V m = V (2 * m + 1) ∧ L m = V (2 * m))
 best : ah lt R (L m) (V m) = false
structure Tour (R : Nat → List α) (n : Nat) (L V : Nat → Nat) : Prop where
 leaf : ∀ m, n ≤ m → m < 2 * n → V m = m - n
 node : ∀ m, 0 < m → m < n → Reg lt R L V m
variable {lt} {R : Nat → List α} {n : Nat} {L V : Nat → Nat}
theorem Tour.less (T : Tour lt R n L V) : ∀ d m, 2 * n - m ≤ d → 0 < m → m < 2 * n → V m < n := by
 intro d
 induction d with
 | zero => intro m h1 h2 h3; omega
 | succ d ih =>
  intro m h1 h2 h3
  by_cases hm : n ≤ m
  ·rw [T.leaf m hm h3]; omega
  ·rcases (T.node m h2 (by omega)).who with h | h
   ·rw [h.1]; exact ih _ (by omega) (by omega) (by omega)
   ·rw [h.1]; exact ih _ (by omega) (by omega) (by omega)
theorem Tour.lt' (T : Tour lt R n L V) {m : Nat} (h : 0 < m) (h2 : m < 2 * n) : V m < n := T.less _ m (Nat.le_refl _) h h2
theorem Tour.lst (T : Tour lt R n L V) {m : Nat} (h : 0 < m) (h2 : m < n) : L m < n := by
 rcases (T.node m h h2).who with h3 | h3
 ·rw [h3.2]; exact T.lt' (by omega) (by omega)
 ·rw [h3.2]; exact T.lt' (by omega) (by omega)
theorem half_pow (x k : Nat) : x / 2 ^ (k + 1) = x / 2 ^ k / 2 := by rw [Nat.pow_succ, Nat.div_div_eq_div_mul]
theorem Tour.below (T : Tour lt R n L V) : ∀ d m i, 2 * n - m ≤ d → 0 < m → m < 2 * n → V m = i → ∃ k, (n + i) / 2 ^ k = m := by
 intro d
 induction d with
 | zero => intro m i h1 h2 h3; omega
 | succ d ih =>
  intro m i h1 h2 h3 hV
  by_cases hm : n ≤ m
  ·rw [T.leaf m hm h3] at hV; exact ⟨0, by simp; omega⟩
  ·rcases (T.node m h2 (by omega)).who with h | h
   ·obtain ⟨k, hk⟩ := ih (2 * m) i (by omega) (by omega) (by omega) (by rw [← h.1]; exact hV)
    exact ⟨k + 1, by rw [half_pow, hk]; omega⟩
   ·obtain ⟨k, hk⟩ := ih (2 * m + 1) i (by omega) (by omega) (by omega) (by rw [← h.1]; exact hV)
    exact ⟨k + 1, by rw [half_pow, hk]; omega⟩
theorem Tour.below' (T : Tour lt R n L V) {m i : Nat} (h2 : 0 < m) (h3 : m < 2 * n) (hV : V m = i) : ∃ k, (n + i) / 2 ^ k = m := T.below _ m i (Nat.le_refl _) h2 h3 hV
theorem to_one : ∀ d x, x ≤ d → 0 < x → ∃ k, x / 2 ^ k = 1 := by
 intro d
 induction d with
 | zero => intro x h1 h2; omega
 | succ d ih =>
  intro x h1 h2
  by_cases h : x = 1
  ·exact ⟨0, by simp [h]⟩
  ·obtain ⟨k, hk⟩ := ih (x / 2) (by omega) (by omega)
   exact ⟨k + 1, by rw [Nat.pow_succ, Nat.mul_comm, ← Nat.div_div_eq_div_mul]; exact hk⟩
theorem pow_up (x k : Nat) : x / 2 ^ k ≤ x := Nat.div_le_self _ _
theorem Tour.best (W : Wk lt) (T : Tour lt R n L V) (i : Nat) (hi : i < n) : ∀ k, 0 < (n + i) / 2 ^ k → ah lt R i (V ((n + i) / 2 ^ k)) = false := by
 intro k
 induction k with
 | zero => intro _; rw [Nat.pow_zero, Nat.div_one, T.leaf _ (by omega) (by omega), show n + i - n = i by omega]; exact ah_irr W R i
 | succ k ih =>
  intro h
  rw [half_pow] at h ⊢
  obtain ⟨c, hc⟩ : ∃ c, c = (n + i) / 2 ^ k := ⟨_, rfl⟩
  rw [← hc] at ih h ⊢
  have hcn : c < 2 * n := by have := pow_up (n + i) k; omega
  have h1 := ih (by omega)
  have hr := T.node (c / 2) h (by omega)
  rcases (show c = 2 * (c / 2) ∨ c = 2 * (c / 2) + 1 by omega) with e | e
  ·rcases hr.who with h2 | h2
   ·rw [h2.1, ← e]; exact h1
   ·have h3 := hr.best
    rw [h2.2, ← e] at h3
    exact ah_nt W R h1 h3
  ·rcases hr.who with h2 | h2
   ·have h3 := hr.best
    rw [h2.2, ← e] at h3
    exact ah_nt W R h1 h3
   ·rw [h2.1, ← e]; exact h1
theorem Tour.win (W : Wk lt) (T : Tour lt R n L V) (i : Nat) (hi : i < n) : ah lt R i (V 1) = false := by
 obtain ⟨k, hk⟩ := to_one (n + i) (n + i) (Nat.le_refl _) (by omega)
 have := T.best W i hi k (by omega)
 rw [hk] at this; exact this
def sib (x : Nat) : Nat := if x % 2 = 0 then x + 1 else x - 1
theorem same_level {x c c' k k' : Nat} (h : x / 2 ^ k = c) (h' : x / 2 ^ k' = c') (hc : 2 ≤ c) (hc' : 2 ≤ c') (hd : c / 2 = c' / 2) : c = c' := by
 have key : ∀ j j' a a' : Nat, x / 2 ^ j = a → x / 2 ^ j' = a' → 2 ≤ a → a / 2 = a' / 2 → j < j' → False := fun j j' a a' h1 h2 h3 h4 h5 => by
  have e : j' = j + (j' - j - 1) + 1 := by omega
  rw [e, Nat.pow_succ, Nat.pow_add, ← Nat.div_div_eq_div_mul, ← Nat.div_div_eq_div_mul, h1] at h2
  have h6 : a / 2 ^ (j' - j - 1) ≤ a := Nat.div_le_self _ _
  have h7 : a' ≤ a / 2 := by rw [← h2]; exact Nat.div_le_div_right h6
  omega
 rcases Nat.lt_trichotomy k k' with h1 | h1 | h1
 ·exact (key k k' c c' h h' hc hd h1).elim
 ·subst h1; omega
 ·exact (key k' k c' c h' h hc' hd.symm h1).elim
theorem Tour.path (T : Tour lt R n L V) {i : Nat} (hV : V 1 = i) (hn : 0 < n) : ∀ d k, (n + i) / 2 ^ k = d → 0 < d → V d = i := by
 have hi : i < n := by rw [← hV]; exact T.lt' (by omega) (by omega)
 have key : ∀ d k, (n + i) / 2 ^ k = d → 0 < d → V d = i := by
  intro d
  induction d using Nat.strongRecOn with
  | ind d ih =>
   intro k hk hd
   by_cases h1 : d = 1
   ·rw [h1]; exact hV
   ·have hm : (n + i) / 2 ^ (k + 1) = d / 2 := by rw [half_pow, hk]
    have hup := ih (d / 2) (by omega) (k + 1) hm (by omega)
    have hdn : d < 2 * n := by have := pow_up (n + i) k; omega
    have hr := T.node (d / 2) (by omega) (by omega)
    have other : ∀ c, (c = 2 * (d / 2) ∨ c = 2 * (d / 2) + 1) → V c = i → c = d := fun c hc hVc => by
     obtain ⟨k', hk'⟩ := T.below' (m := c) (by omega) (by omega) hVc
     exact same_level hk' hk (by omega) (by omega) (by omega)
    rcases hr.who with h2 | h2
    ·have h3 := other (2 * (d / 2)) (.inl rfl) (by rw [← h2.1]; exact hup)
     rw [← h3, ← h2.1]; exact hup
    ·have h3 := other (2 * (d / 2) + 1) (.inr rfl) (by rw [← h2.1]; exact hup)
     rw [← h3, ← h2.1]; exact hup
 exact key
structure Mid (lt : α → α → Bool) (R : Nat → List α) (n : Nat) (L V : Nat → Nat) (c : Nat) : Prop where
 leaf : ∀ m, n ≤ m → m < 2 * n → V m = m - n
 node : ∀ m, 0 < m → m < n → (∀ k, c / 2 ^ (k + 1) ≠ m) → Reg lt R L V m
 path : ∀ k, 0 < c / 2 ^ (k + 1) → L (c / 2 ^ (k + 1)) = V (sib (c / 2 ^ k))
theorem Mid.less {c : Nat} (M : Mid lt R n L V c) : ∀ d m, 2 * n - m ≤ d → 0 < m → m < 2 * n → (∀ k, c / 2 ^ (k + 1) ≠ m) → V m < n := by
 intro d
 induction d with
 | zero => intro m h1 h2 h3; omega
 | succ d ih =>
  intro m h1 h2 h3 h4
  by_cases hm : n ≤ m
  ·rw [M.leaf m hm h3]; omega
  ·have key : ∀ x, x / 2 = m → ∀ k, c / 2 ^ (k + 1) ≠ x := fun x hx k h => h4 (k + 1) (by rw [half_pow, h]; exact hx)
   rcases (M.node m h2 (by omega) h4).who with h | h
   ·rw [h.1]; exact ih _ (by omega) (by omega) (by omega) (key _ (by omega))
   ·rw [h.1]; exact ih _ (by omega) (by omega) (by omega) (key _ (by omega))
theorem Mid.at {c : Nat} (M : Mid lt R n L V c) (hc : 0 < c) (hcn : c < 2 * n) : V c < n := M.less _ c (Nat.le_refl _) hc hcn fun k h => by
 have : c / 2 ^ (k + 1) ≤ c / 2 := by rw [Nat.pow_succ, Nat.mul_comm, ← Nat.div_div_eq_div_mul]; exact Nat.div_le_self _ _
 omega
theorem Mid.lst {c : Nat} (M : Mid lt R n L V c) (hc : 1 < c) (hcn : c < 2 * n) : L (c / 2) < n := by
 have hp := M.path 0 (by rw [half_pow, Nat.pow_zero, Nat.div_one]; omega)
 rw [half_pow, Nat.pow_zero, Nat.div_one] at hp
 rw [hp]
 have hs : 0 < sib c ∧ sib c < 2 * n ∧ c / 2 < sib c := by unfold sib; split <;> omega
 refine M.less _ _ (Nat.le_refl _) hs.1 hs.2.1 fun k h => ?_
 have : c / 2 ^ (k + 1) ≤ c / 2 := by rw [Nat.pow_succ, Nat.mul_comm, ← Nat.div_div_eq_div_mul]; exact Nat.div_le_self _ _
 omega
theorem ah_congr {R R' : Nat → List α} {a b : Nat} (ha : R' a = R a) (hb : R' b = R b) : ah lt R' a b = ah lt R a b := by unfold ah; rw [ha, hb]
theorem Tour.start (T : Tour lt R n L V) {i : Nat} (hV : V 1 = i) (hn : 0 < n) (R' : Nat → List α) (hR : ∀ j, j ≠ i → R' j = R j) : Mid lt R' n L V (n + i) := by
 have hi : i < n := by rw [← hV]; exact T.lt' (by omega) (by omega)
 refine ⟨T.leaf, fun m h1 h2 h3 => ?_, fun k hk => ?_⟩
 ·have hr := T.node m h1 h2
  have hVm : V m ≠ i := fun e => by
   obtain ⟨k, hk⟩ := T.below' h1 (by omega) e
   rcases k with _ | k
   ·simp at hk; omega
   ·exact h3 k hk
  have hLm : L m ≠ i := fun e => by
   rcases hr.who with h | h
   ·obtain ⟨k, hk⟩ := T.below' (m := 2 * m + 1) (i := i) (by omega) (by omega) (h.2.symm.trans e)
    exact h3 k (by rw [half_pow, hk]; omega)
   ·obtain ⟨k, hk⟩ := T.below' (m := 2 * m) (i := i) (by omega) (by omega) (h.2.symm.trans e)
    exact h3 k (by rw [half_pow, hk]; omega)
  exact ⟨hr.who, by rw [ah_congr (hR _ hLm) (hR _ hVm)]; exact hr.best⟩
 ·rw [half_pow] at hk ⊢
  obtain ⟨c, hc⟩ : ∃ c, c = (n + i) / 2 ^ k := ⟨_, rfl⟩
  rw [← hc] at hk ⊢
  have hcn : c < 2 * n := by have := pow_up (n + i) k; omega
  have h1 : V c = i := T.path hV hn c k hc.symm (by omega)
  have h2 : V (c / 2) = i := T.path hV hn (c / 2) (k + 1) (by rw [half_pow, ← hc]) hk
  have hr := T.node (c / 2) hk (by omega)
  have other : ∀ x, (x = 2 * (c / 2) ∨ x = 2 * (c / 2) + 1) → V x = i → x = c := fun x hx hVx => by
   obtain ⟨k', hk'⟩ := T.below' (m := x) (by omega) (by omega) hVx
   exact same_level hk' hc.symm (by omega) (by omega) (by omega)
  rcases hr.who with h | h
  ·have h3 := other (2 * (c / 2)) (.inl rfl) (by rw [← h.1]; exact h2)
   rw [h.2]
   unfold sib; rw [if_pos (by omega)]; congr 1; omega
  ·have h3 := other (2 * (c / 2) + 1) (.inr rfl) (by rw [← h.1]; exact h2)
   rw [h.2]
   unfold sib; rw [if_neg (by omega)]; congr 1; omega
def upd (f : Nat → Nat) (a v : Nat) : Nat → Nat := fun x => if x = a then v else f x
theorem upd_at (f : Nat → Nat) (a v : Nat) : upd f a v a = v := if_pos rfl
theorem upd_ne (f : Nat → Nat) {a x : Nat} (v : Nat) (h : x ≠ a) : upd f a v x = f x := if_neg h
theorem Mid.step (W : Wk lt) {c : Nat} (M : Mid lt R n L V c) (hc : 1 < c) (hcn : c < 2 * n) :
  if ah lt R (L (c / 2)) (V c) = true then Mid lt R n (upd L (c / 2) (V c)) (upd V (c / 2) (L (c / 2))) (c / 2) else Mid lt R n L (upd V (c / 2) (V c)) (c / 2) := by
 have hp := M.path 0 (by rw [half_pow, Nat.pow_zero, Nat.div_one]; omega)
 rw [half_pow, Nat.pow_zero, Nat.div_one] at hp
 have hsib : sib c ≠ c / 2 ∧ (c = 2 * (c / 2) ∧ sib c = 2 * (c / 2) + 1 ∨ c = 2 * (c / 2) + 1 ∧ sib c = 2 * (c / 2)) := by
  unfold sib; split <;> omega
 have main : ∀ (L' : Nat → Nat) (v : Nat), (∀ m, m ≠ c / 2 → L' m = L m) → ((v = V c ∧ L' (c / 2) = V (sib c)) ∨ (v = V (sib c) ∧ L' (c / 2) = V c)) → ah lt R (L' (c / 2)) v = false → Mid lt R n L' (upd V (c / 2) v) (c / 2) := by
  intro L' v hL' hv hb
  refine ⟨fun m h1 h2 => by rw [upd_ne _ _ (by omega)]; exact M.leaf m h1 h2, fun m h1 h2 h3 => ?_, fun k hk => ?_⟩
  ·by_cases e : m = c / 2
   ·subst e
    refine ⟨?_, by rw [upd_at]; exact hb⟩
    rw [upd_at, upd_ne _ _ (by omega), upd_ne _ _ (by omega)]
    rcases hsib.2 with ⟨e1, e2⟩ | ⟨e1, e2⟩
    ·rw [← e2, ← e1]; exact hv
    ·rw [← e1, ← e2]; exact hv.symm
   ·have h0 : ∀ k, c / 2 ^ (k + 1) ≠ m := fun k => by
     rcases k with _ | k
     ·rw [half_pow, Nat.pow_zero, Nat.div_one]; exact fun h => e h.symm
     ·have := h3 k
      rw [show c / 2 ^ (k + 1 + 1) = c / 2 / 2 ^ (k + 1) by rw [Nat.div_div_eq_div_mul, Nat.mul_comm, ← Nat.pow_succ]]
      exact this
    have hr := M.node m h1 h2 h0
    have h4 : m ≠ c / 2 / 2 := fun h => h3 0 (by rw [half_pow, Nat.pow_zero, Nat.div_one]; exact h.symm)
    refine ⟨?_, ?_⟩
    ·rw [upd_ne _ _ e, upd_ne _ _ (by omega), upd_ne _ _ (by omega), hL' _ e]; exact hr.who
    ·rw [hL' _ e, upd_ne _ _ e]; exact hr.best
  ·have e1 : ∀ j, c / 2 / 2 ^ j = c / 2 ^ (j + 1) := fun j => by rw [Nat.div_div_eq_div_mul, Nat.mul_comm, ← Nat.pow_succ]
   have h5 := M.path (k + 1) (by rw [← e1]; exact hk)
   rw [← e1, ← e1] at h5
   have h6 : c / 2 / 2 ^ (k + 1) ≤ c / 2 / 2 := by rw [Nat.pow_succ, Nat.mul_comm, ← Nat.div_div_eq_div_mul]; exact Nat.div_le_self _ _
   have hk2 := hk
   rw [half_pow] at hk2
   have h8 : c / 2 / 2 ^ k ≤ c / 2 := Nat.div_le_self _ _
   have h9 : k = 0 ∨ c / 2 / 2 ^ k ≤ c / 2 / 2 := by
    rcases k with _ | k
    ·exact .inl rfl
    ·right; rw [Nat.pow_succ, Nat.mul_comm, ← Nat.div_div_eq_div_mul]; exact Nat.div_le_self _ _
   rw [hL' _ (by omega), h5, upd_ne]
   rcases h9 with h9 | h9
   ·subst h9; rw [Nat.pow_zero, Nat.div_one]; unfold sib; split <;> omega
   ·unfold sib; split <;> omega
 split
 ·rename_i h
  exact main _ _ (fun m hm => upd_ne _ _ hm) (.inr ⟨hp, upd_at ..⟩) (by rw [upd_at]; exact ah_asy W R h)
 ·rename_i h
  exact main _ _ (fun m hm => rfl) (.inl ⟨rfl, hp⟩) (by simpa using h)
theorem Mid.done (M : Mid lt R n L V 1) : Tour lt R n L V := ⟨M.leaf, fun m h1 h2 => M.node m h1 h2 fun k h => by
 rw [half_pow] at h
 have : 1 / 2 ^ k ≤ 1 := Nat.div_le_self _ _
 omega⟩
variable (lt)
def vw (R : Nat → List α) (n m : Nat) : Nat :=
 if h : n ≤ m ∨ m = 0 then m - n else if ah lt R (vw R n (2 * m + 1)) (vw R n (2 * m)) = true then vw R n (2 * m + 1) else vw R n (2 * m)
termination_by 2 * n - m
decreasing_by all_goals omega
def lz (R : Nat → List α) (n m : Nat) : Nat := if ah lt R (vw lt R n (2 * m + 1)) (vw lt R n (2 * m)) = true then vw lt R n (2 * m) else vw lt R n (2 * m + 1)
variable {lt}
theorem vw_leaf {m : Nat} (h : n ≤ m) : vw lt R n m = m - n := by rw [vw, dif_pos (.inl h)]
theorem vw_node {m : Nat} (h : m < n) (h0 : 0 < m) : vw lt R n m = if ah lt R (vw lt R n (2 * m + 1)) (vw lt R n (2 * m)) = true then vw lt R n (2 * m + 1) else vw lt R n (2 * m) := by rw [vw, dif_neg (by omega)]
theorem vw_tour (W : Wk lt) {L : Nat → Nat} (h : ∀ m, 0 < m → m < n → L m = lz lt R n m) : Tour lt R n L (vw lt R n) := by
 refine ⟨fun m h1 _ => vw_leaf h1, fun m h1 h2 => ?_⟩
 have e1 := vw_node (lt := lt) (R := R) h2 h1
 have e2 := h m h1 h2
 unfold lz at e2
 by_cases hc : ah lt R (vw lt R n (2 * m + 1)) (vw lt R n (2 * m)) = true
 ·rw [if_pos hc] at e1 e2
  exact ⟨.inr ⟨e1, e2⟩, by rw [e1, e2]; exact ah_asy W R hc⟩
 ·rw [if_neg hc] at e1 e2
  exact ⟨.inl ⟨e1, e2⟩, by rw [e1, e2]; simpa using hc⟩
theorem vw_lt (W : Wk lt) {m : Nat} (h0 : 0 < m) (h : m < 2 * n) : vw lt R n m < n := (vw_tour W (L := lz lt R n) fun _ _ _ => rfl).lt' h0 h
theorem isort_pop (W : Wk lt) (A B : List α) (x : α) (hA : ∀ y ∈ A, lt x y = true) (hB : ∀ y ∈ B, lt y x = false) : isort lt (A ++ x :: B) = x :: isort lt (A ++ B) := by
 have e1 : isort lt (A ++ x :: B) = smerge lt (insB lt x (isort lt A)) B := by
  unfold isort; rw [sm_append, sm_cons]
 have e2 : isort lt (A ++ B) = smerge lt (isort lt A) B := by unfold isort; rw [sm_append]
 have hm : ∀ y ∈ isort lt A, lt x y = true := fun y hy => by
  unfold isort at hy
  rcases (sm_mem y [] A).1 hy with h | h
  ·cases h
  ·exact hA y h
 rw [e1, e2, show isort lt A = [] ++ isort lt A from rfl, insB_left x [] _ hm, insB_nil, sm_right [x] _ B (fun y hy z hz => by simp at hz; subst hz; exact hB y hy)]
 rfl
theorem run_pop (W : Wk lt) (P S : List (List α)) (x : α) (xs : List α) (ho : Ordered lt (x :: xs)) (hP : ∀ r ∈ P, ∀ y ∈ r, lt x y = true) (hS : ∀ r ∈ S, ∀ y ∈ r, lt y x = false) :
  isort lt (P ++ (x :: xs) :: S).flatten = x :: isort lt (P ++ xs :: S).flatten := by
 rw [Ordered, List.pairwise_cons] at ho
 rw [List.flatten_append, List.flatten_cons, List.cons_append, isort_pop W _ _ x, List.flatten_append, List.flatten_cons]
 ·intro y hy
  obtain ⟨r, hr, hy⟩ := List.mem_flatten.1 hy
  exact hP r hr y hy
 ·intro y hy
  rcases List.mem_append.1 hy with h | h
  ·exact ho.1 y h
  ·obtain ⟨r, hr, hy⟩ := List.mem_flatten.1 h
   exact hS r hr y hy
theorem all_pop (W : Wk lt) (Rs : List (List α)) (hn : n = Rs.length) (hR : ∀ j, j < n → Rs[j]? = some (R j)) (ho : ∀ r ∈ Rs, Ordered lt r) (i : Nat) (hi : i < n) (hb : ∀ j, j < n → ah lt R j i = false) (x : α) (xs : List α) (hx : R i = x :: xs) :
  isort lt Rs.flatten = x :: isort lt (Rs.set i xs).flatten := by
 have hil : i < Rs.length := by omega
 have e : Rs = Rs.take i ++ (x :: xs) :: Rs.drop (i + 1) := by
  have h1 : Rs[i]'hil = x :: xs := by have := hR i hi; rw [List.getElem?_eq_getElem hil, hx] at this; injection this
  rw [← h1, ← List.drop_eq_getElem_cons hil, List.take_append_drop]
 have e2 : Rs.set i xs = Rs.take i ++ xs :: Rs.drop (i + 1) := List.set_eq_take_append_cons_drop .. |>.trans (if_pos hil)
 have key : ∀ j r, Rs[j]? = some r → ∀ y ∈ r, (j ≠ i → lt y x = false) ∧ (j < i → lt x y = true) := by
  intro j r hr y hy
  have hj : j < n := by have := (List.getElem?_eq_some_iff.1 hr).1; omega
  have hrj : r = R j := by rw [hR j hj] at hr; injection hr with hr; exact hr.symm
  have hor := ho r (List.mem_of_getElem? hr)
  rcases r with _ | ⟨z, zs⟩
  ·cases hy
  ·obtain ⟨h1, h2⟩ := ah_cons (hb j hj) hrj.symm hx
   rw [Ordered, List.pairwise_cons] at hor
   rcases List.mem_cons.1 hy with rfl | hy
   ·exact ⟨fun _ => h1, h2⟩
   ·have h3 := hor.1 y hy
    exact ⟨fun _ => W.nt _ _ _ h3 h1, fun h => W.mix (h2 h) h3⟩
 rw [e2]
 conv => lhs; rw [e]
 refine run_pop W _ _ x xs (ho _ (List.mem_of_getElem? (by rw [hR i hi, hx]))) (fun r hr y hy => ?_) (fun r hr y hy => ?_)
 ·obtain ⟨j, hj⟩ := List.getElem?_of_mem hr
  rw [List.getElem?_take] at hj
  split at hj
  ·exact (key j r hj y hy).2 (by assumption)
  ·cases hj
 ·obtain ⟨j, hj⟩ := List.getElem?_of_mem hr
  rw [List.getElem?_drop] at hj
  exact (key _ r hj y hy).1 (by omega)
theorem all_nil (Rs : List (List α)) (hn : n = Rs.length) (hR : ∀ j, j < n → Rs[j]? = some (R j)) (i : Nat) (hb : ∀ j, j < n → ah lt R j i = false) (hx : R i = []) : Rs.flatten = [] := by
 rw [List.flatten_eq_nil_iff]
 intro r hr
 obtain ⟨j, hj⟩ := List.getElem?_of_mem hr
 have hjn : j < n := by have := (List.getElem?_eq_some_iff.1 hj).1; omega
 rw [hR j hjn] at hj; injection hj with hj; rw [← hj]
 exact ah_nil (hb j hjn) hx
end
theorem kb_self : ∀ a : List UInt8, Lib.compareBytes a a = 0
 | [] => rfl
 | x :: r => by unfold Lib.compareBytes; simp [UInt8.lt_irrefl, kb_self r]
theorem kb_neg : ∀ a b : List UInt8, Lib.compareBytes b a = - Lib.compareBytes a b
 | [], [] => rfl
 | [], _ :: _ => rfl
 | _ :: _, [] => rfl
 | x :: r, y :: s => by
  unfold Lib.compareBytes
  by_cases h1 : x < y
  ·have h2 : ¬ y < x := fun h => by rw [UInt8.lt_iff_toNat_lt] at *; omega
   simp [h1, h2]
  ·by_cases h2 : y < x
   ·simp [h1, h2]
   ·simp [h1, h2, kb_neg r s]
theorem kb_eq : ∀ a b : List UInt8, Lib.compareBytes a b = 0 → a = b
 | [], [], _ => rfl
 | [], _ :: _, h => by simp [Lib.compareBytes] at h
 | _ :: _, [], h => by simp [Lib.compareBytes] at h
 | x :: r, y :: s, h => by
  unfold Lib.compareBytes at h
  by_cases h1 : x < y
  ·simp [h1] at h
  ·by_cases h2 : y < x
   ·simp [h1, h2] at h
   ·simp [h1, h2] at h
    have e : x = y := by
     apply UInt8.toNat_inj.1
     rw [UInt8.lt_iff_toNat_lt] at h1 h2; omega
    rw [e, kb_eq r s h]
theorem kb_trans : ∀ a b c : List UInt8, Lib.compareBytes a b < 0 → Lib.compareBytes b c < 0 → Lib.compareBytes a c < 0
 | [], [], _, h, _ => by simp [Lib.compareBytes] at h
 | _ :: _, [], _, h, _ => by simp [Lib.compareBytes] at h
 | _, _ :: _, [], _, h => by simp [Lib.compareBytes] at h
 | [], _ :: _, _ :: _, _, _ => by simp [Lib.compareBytes]
 | x :: r, y :: s, z :: t, h1, h2 => by
  unfold Lib.compareBytes at h1 h2 ⊢
  have ih := kb_trans r s t
  simp only [UInt8.lt_iff_toNat_lt] at *
  by_cases a1 : x.toNat < y.toNat
  ·by_cases a2 : y.toNat < z.toNat
   ·simp [show x.toNat < z.toNat by omega]
   ·by_cases a3 : z.toNat < y.toNat
    ·simp [a2, a3] at h2
    ·simp [show x.toNat < z.toNat by omega]
  ·by_cases b1 : y.toNat < x.toNat
   ·simp [a1, b1] at h1
   ·simp only [a1, b1, if_false] at h1
    by_cases a2 : y.toNat < z.toNat
    ·simp [show x.toNat < z.toNat by omega]
    ·by_cases a3 : z.toNat < y.toNat
     ·simp [a2, a3] at h2
     ·simp only [a2, a3, if_false] at h2
      simp only [show ¬ x.toNat < z.toNat by omega, show ¬ z.toNat < x.toNat by omega, if_false]
      exact ih h1 h2
theorem ek_neg (a b : ByteArray) : cmpK b a = - cmpK a b := kb_neg _ _
theorem ek_eq {a b : ByteArray} (h : cmpK a b = 0) : a = b := by
 have := kb_eq _ _ h
 have h2 : a.data = b.data := by rw [← Array.toList_inj]; exact this
 cases a; cases b; simp at h2; rw [h2]
theorem ek_self (a : ByteArray) : cmpK a a = 0 := kb_self _
def Lss (x y : Ev) : Prop := cmpK x.key y.key < 0 ∨ (x.key = y.key ∧ (x.time < y.time ∨ (x.time = y.time ∧ x.off < y.off)))
theorem lss_iff (x y : Ev) : evCmp x y < 0 ↔ Lss x y := by
 unfold evCmp or3 Lss
 by_cases h1 : cmpK x.key y.key = 0
 ·have hk := ek_eq h1
  have hs := ek_self y.key
  rw [if_neg (by omega)]
  unfold cmpI
  by_cases h2 : x.time < y.time
  ·simp [h1, hk, hs, h2]
  ·by_cases h3 : y.time < x.time
   ·simp [h1, hk, hs, h2, h3]; omega
   ·have ht : x.time = y.time := by omega
    simp [h1, hk, hs, ht]
    by_cases h4 : x.off < y.off
    ·simp [h4]
    ·by_cases h5 : y.off < x.off <;> simp [h4, h5]
 ·rw [if_pos h1]
  constructor
  ·intro h; exact .inl h
  ·rintro (h | ⟨h, -⟩)
   ·exact h
   ·rw [h, ek_self] at h1; exact absurd rfl h1
theorem lt_iff (x y : Ev) : ltOf evCmp x y = true ↔ Lss x y := by unfold ltOf; rw [decide_eq_true_eq, lss_iff]
theorem lt_no (x y : Ev) : ltOf evCmp x y = false ↔ ¬ Lss x y := by rw [← lt_iff]; simp
theorem wkE : Wk (ltOf evCmp) := by
 refine ⟨fun x y z h1 h2 => ?_, fun x y h => ?_, fun x y z h1 h2 => ?_⟩
 ·rw [lt_iff] at *
  rcases h1 with h1 | ⟨e1, h1⟩ <;> rcases h2 with h2 | ⟨e2, h2⟩
  ·exact .inl (kb_trans _ _ _ h1 h2)
  ·exact .inl (by rw [← e2]; exact h1)
  ·exact .inl (by rw [e1]; exact h2)
  ·exact .inr ⟨e1.trans e2, by omega⟩
 ·rw [lt_iff] at h; rw [lt_no]
  rintro h2
  rcases h with h | ⟨e, h⟩ <;> rcases h2 with h2 | ⟨e2, h2⟩
  ·rw [ek_neg] at h2; omega
  ·rw [e2, ek_self] at h; omega
  ·rw [e, ek_self] at h2; omega
  ·omega
 ·rw [lt_no] at *
  rintro h
  have key : ∀ a b : Ev, ¬ Lss a b → cmpK b.key a.key < 0 ∨ (a.key = b.key ∧ (b.time < a.time ∨ (b.time = a.time ∧ b.off ≤ a.off))) := fun a b hn => by
   unfold Lss at hn
   by_cases hk : cmpK a.key b.key = 0
   ·right; have := ek_eq hk; refine ⟨this, ?_⟩
    have h3 : ¬ (a.time < b.time ∨ (a.time = b.time ∧ a.off < b.off)) := fun h => hn (.inr ⟨this, h⟩)
    omega
   ·left; rw [ek_neg]
    have h3 : ¬ cmpK a.key b.key < 0 := fun h => hn (.inl h)
    omega
  have k1 := key x y h1
  have k2 := key y z h2
  rcases k1 with k1 | ⟨e1, k1⟩ <;> rcases k2 with k2 | ⟨e2, k2⟩ <;> rcases h with h | ⟨e, h⟩
  ·have h3 := kb_trans _ _ _ k2 k1; have h4 : cmpK x.key z.key < 0 := h; rw [ek_neg] at h4; have h5 : cmpK z.key x.key < 0 := h3; omega
  ·have h3 : cmpK z.key x.key < 0 := kb_trans _ _ _ k2 k1; rw [e, ek_self] at h3; omega
  ·rw [e2] at k1; rw [ek_neg] at h; omega
  ·rw [e2, ← e, ek_self] at k1; omega
  ·rw [← e1] at k2; rw [ek_neg] at h; omega
  ·rw [← e1, e, ek_self] at k2; omega
  ·rw [e1, e2, ek_self] at h; omega
  ·omega
theorem ext_get! {l m : List Ev} (h : l.length = m.length) (hg : ∀ i, i < l.length → l[i]! = m[i]!) : l = m := by
 apply List.ext_getElem h
 intro i h1 h2
 have := hg i h1
 rwa [getElem!_pos l i h1, getElem!_pos m i h2] at this
theorem ta_get (l : List Ev) (i : Nat) : l.toArray[i]! = l[i]! := by simp
def lswp (l : List Ev) (i j : Nat) : List Ev := (swp l.toArray i j).toList
theorem lswp_arr (l : List Ev) (i j : Nat) : swp l.toArray i j = (lswp l i j).toArray := by unfold lswp; simp
theorem lswp_len (l : List Ev) (i j : Nat) : (lswp l i j).length = l.length := by unfold lswp; rw [Array.length_toList, swp_size]; simp
theorem lswp_get (l : List Ev) {i j : Nat} (hi : i < l.length) (hj : j < l.length) (k : Nat) : (lswp l i j)[k]! = if k = j then l[i]! else if k = i then l[j]! else l[k]! := by
 have h := swp_get l.toArray (i := i) (j := j) (by simpa using hi) (by simpa using hj) k
 rw [lswp_arr, ta_get, ta_get, ta_get, ta_get] at h; exact h
theorem get!_left (l m : List Ev) (i : Nat) (h : i < l.length) : (l ++ m)[i]! = l[i]! := by
 rw [getElem!_pos (l ++ m) i (by rw [List.length_append]; omega), getElem!_pos l i h, List.getElem_append_left h]
theorem get!_right (l m : List Ev) (i : Nat) (h1 : l.length ≤ i) (h2 : i < l.length + m.length) : (l ++ m)[i]! = m[i - l.length]! := by
 rw [getElem!_pos (l ++ m) i (by rw [List.length_append]; omega), getElem!_pos m (i - l.length) (by omega), List.getElem_append_right h1]
theorem lswp_adj (P Q : List Ev) (x y : Ev) : lswp (P ++ x :: y :: Q) (P.length + 1) P.length = P ++ y :: x :: Q ∧ lswp (P ++ x :: y :: Q) P.length (P.length + 1) = P ++ y :: x :: Q := by
 have hl : (P ++ x :: y :: Q).length = P.length + 2 + Q.length := by simp; omega
 have hx : (P ++ x :: y :: Q)[P.length]! = x := by rw [get!_right _ _ _ (Nat.le_refl _) (by simp), Nat.sub_self]; rfl
 have hy : (P ++ x :: y :: Q)[P.length + 1]! = y := by rw [get!_right _ _ _ (by omega) (by simp), show P.length + 1 - P.length = 1 by omega]; rfl
 have goal : ∀ k, k < (P ++ x :: y :: Q).length → (P ++ y :: x :: Q)[k]! = if k = P.length then y else if k = P.length + 1 then x else (P ++ x :: y :: Q)[k]! := fun k hk => by
  rcases Nat.lt_trichotomy k P.length with h | h | h
  ·rw [if_neg (by omega), if_neg (by omega), get!_left _ _ _ h, get!_left _ _ _ h]
  ·subst h; rw [if_pos rfl, get!_right _ _ _ (Nat.le_refl _) (by simp), Nat.sub_self]; rfl
  ·rw [if_neg (by omega), get!_right P (y :: x :: Q) _ (by omega) (by simp at hk ⊢; omega), get!_right P (x :: y :: Q) _ (by omega) (by simp at hk ⊢; omega)]
   rcases h2 : k - P.length with _ | _ | n
   ·omega
   ·rw [if_pos (by omega)]; rfl
   ·rw [if_neg (by omega)]; rfl
 constructor
 ·refine ext_get! (by rw [lswp_len]; simp) fun k hk => ?_
  rw [lswp_len] at hk
  rw [lswp_get _ (by omega) (by omega), hx, hy, goal k hk]
 ·refine ext_get! (by rw [lswp_len]; simp) fun k hk => ?_
  rw [lswp_len] at hk
  rw [lswp_get _ (by omega) (by omega), hx, hy, goal k hk]
  by_cases h1 : k = P.length
  ·rw [if_neg (by omega), if_pos h1, if_pos h1]
  ·rw [if_neg h1, if_neg h1]
theorem inner_list (P : List Ev) (x : Ev) : ∀ (n : Nat) (s Q : List Ev), s.length = n → insInner (ltOf evCmp) P.length (P.length + n) (P ++ (s ++ x :: Q)).toArray = (P ++ (insB (ltOf evCmp) x s ++ Q)).toArray := by
 intro n
 induction n with
 | zero =>
  intro s Q hs
  obtain rfl : s = [] := List.eq_nil_of_length_eq_zero hs
  rw [insInner_stop _ _ _ _ (.inl (by omega)), insB_nil]; rfl
 | succ n ih =>
  intro s Q hs
  rcases snoc_cases s with rfl | ⟨r, e, rfl⟩
  ·simp at hs
  ·have hr : r.length = n := by simpa using hs
   have e1 : P ++ (r ++ [e] ++ x :: Q) = (P ++ r) ++ e :: x :: Q := by simp
   have hj : (P ++ r).length = P.length + n := by simp [hr]
   have hx : ((P ++ r) ++ e :: x :: Q)[P.length + (n + 1)]! = x := by rw [get!_right _ _ _ (by omega) (by simp; omega), show P.length + (n + 1) - (P ++ r).length = 1 by omega]; rfl
   have he : ((P ++ r) ++ e :: x :: Q)[P.length + n]! = e := by rw [get!_right _ _ _ (by omega) (by simp; omega), show P.length + n - (P ++ r).length = 0 by omega]; rfl
   rw [e1, insB_snoc]
   by_cases h : ltOf evCmp x e = true
   ·rw [if_pos h, insInner_go _ _ _ _ (by omega) (by rw [ta_get, ta_get, hx, show P.length + (n + 1) - 1 = P.length + n by omega, he]; exact h), show P.length + (n + 1) - 1 = P.length + n by omega, lswp_arr]
    have h2 := (lswp_adj (P ++ r) Q e x).1
    rw [hj] at h2
    rw [show P.length + (n + 1) = P.length + n + 1 by omega, h2, show P ++ r ++ x :: e :: Q = P ++ (r ++ x :: (e :: Q)) by simp, ih r (e :: Q) hr]
    simp
   ·rw [if_neg h, insInner_stop _ _ _ _ (.inr (by rw [ta_get, ta_get, hx, show P.length + (n + 1) - 1 = P.length + n by omega, he]; simpa using h))]
    try simp
theorem outer_list (P Q : List Ev) : ∀ (n : Nat) (s t : List Ev), t.length = n → insOuter (ltOf evCmp) P.length (P.length + s.length + n) (P.length + s.length) (P ++ (s ++ (t ++ Q))).toArray = (P ++ (smerge (ltOf evCmp) s t ++ Q)).toArray := by
 intro n
 induction n with
 | zero =>
  intro s t ht
  obtain rfl : t = [] := List.eq_nil_of_length_eq_zero ht
  rw [insOuter_stop _ _ _ _ _ (by omega)]; rfl
 | succ n ih =>
  intro s t ht
  rcases t with _ | ⟨x, r⟩
  ·simp at ht
  ·have hr : r.length = n := by simpa using ht
   rw [insOuter_go _ _ _ _ _ (by omega), show s ++ (x :: r ++ Q) = s ++ x :: (r ++ Q) by simp, inner_list P x s.length s (r ++ Q) rfl, sm_cons, ← ih (insB (ltOf evCmp) x s) r hr, insB_len]
   rw [show P.length + s.length + (n + 1) = P.length + (s.length + 1) + n by omega, show P.length + s.length + 1 = P.length + (s.length + 1) by omega]
theorem ins_srt (l : List Ev) (a b : Nat) (hab : a ≤ b) (hb : b ≤ l.length) : insertionSort (ltOf evCmp) l.toArray a b = (srt (ltOf evCmp) l a b).toArray := by
 have hP : (l.take a).length = a := by rw [List.length_take]; omega
 have hc := cut3 l a b hab
 have hsl := seg_len l a b hb
 unfold srt isort insertionSort
 conv => lhs; rw [hc]
 rcases hs : seg l a b with _ | ⟨x, r⟩
 ·rw [hs] at hsl; simp at hsl
  rw [insOuter_stop _ _ _ _ _ (by omega)]; rfl
 ·rw [hs] at hsl
  have h := outer_list (l.take a) (l.drop b) r.length [x] r rfl
  rw [hP] at h
  rw [show a + [x].length + r.length = b by simp at hsl ⊢; omega] at h
  rw [sm_cons, insB_nil]
  exact h
end Go.Proofs.YtjldamkmdkaiiaaGreatDoor
