/-
  Layer event: the order of events; exchanges, rotations and insertions on lists: plain facts.
-/
import Derived.Test.YtjldamkmdkaiiaaGreatDoorPoK
import Derived.Sort.LotA
import Derived.Sort.WalkA
set_option linter.unusedSimpArgs false
set_option linter.unusedVariables false
namespace Go.Proofs.YtjldamkmdkaiiaaGreatDoor
open Go.RowKit Go.Sort
section
variable {α : Type} (lt : α → α → Bool)
def insR (x : α) : List α → List α
 | [] => [x]
 | e :: r => if lt x e then e :: insR x r else x :: e :: r
def insB (x : α) (s : List α) : List α := (insR lt x s.reverse).reverse
def smerge (s t : List α) : List α := t.foldl (fun s x => insB lt x s) s
def isort (l : List α) : List α := smerge lt [] l
variable {lt}
theorem insR_left (y : α) (T S : List α) (h : ∀ x ∈ T, lt y x = true) : insR lt y (T ++ S) = T ++ insR lt y S := by
 induction T with
 | nil => rfl
 | cons e r ih => rw [List.cons_append, insR, if_pos (h e (by simp)), ih (fun x hx => h x (by simp [hx])), List.cons_append]
theorem insR_right (y : α) (T S : List α) (h : ∀ x ∈ S, lt y x = false) : insR lt y (T ++ S) = insR lt y T ++ S := by
 induction T with
 | nil =>
  rcases S with _ | ⟨e, r⟩
  ·rfl
  ·show insR lt y (e :: r) = [y] ++ e :: r
   rw [insR, if_neg (by rw [h e (by simp)]; decide)]; rfl
 | cons e r ih =>
  rw [List.cons_append, insR, insR]
  by_cases he : lt y e = true
  ·rw [if_pos he, if_pos he, ih]; rfl
  ·rw [if_neg he, if_neg he]; rfl
theorem insB_left (y : α) (S T : List α) (h : ∀ x ∈ T, lt y x = true) : insB lt y (S ++ T) = insB lt y S ++ T := by
 unfold insB; rw [List.reverse_append, insR_left y _ _ (fun x hx => h x (by simpa using hx)), List.reverse_append, List.reverse_reverse]
theorem insB_right (y : α) (S T : List α) (h : ∀ x ∈ S, lt y x = false) : insB lt y (S ++ T) = S ++ insB lt y T := by
 unfold insB; rw [List.reverse_append, insR_right y _ _ (fun x hx => h x (by simpa using hx)), List.reverse_append, List.reverse_reverse]
theorem insB_nil (x : α) : insB lt x [] = [x] := rfl
theorem insB_snoc (x e : α) (r : List α) : insB lt x (r ++ [e]) = if lt x e = true then insB lt x r ++ [e] else r ++ [e, x] := by
 unfold insB; rw [List.reverse_append]
 show (insR lt x (e :: r.reverse)).reverse = _
 rw [insR]; split <;> simp
theorem insR_mem (y x : α) (T : List α) : x ∈ insR lt y T ↔ x = y ∨ x ∈ T := by
 induction T with
 | nil => simp [insR]
 | cons e r ih =>
  rw [insR]; split
  ·rw [List.mem_cons, ih, List.mem_cons]
   constructor
   ·rintro (h | h | h)
    ·exact .inr (.inl h)
    ·exact .inl h
    ·exact .inr (.inr h)
   ·rintro (h | h | h)
    ·exact .inr (.inl h)
    ·exact .inl h
    ·exact .inr (.inr h)
  ·rw [List.mem_cons]
theorem insR_len (y : α) (T : List α) : (insR lt y T).length = T.length + 1 := by
 induction T with
 | nil => rfl
 | cons e r ih => rw [insR]; split <;> simp [ih]
theorem insB_mem (y x : α) (T : List α) : x ∈ insB lt y T ↔ x = y ∨ x ∈ T := by unfold insB; rw [List.mem_reverse, insR_mem, List.mem_reverse]
theorem insB_len (y : α) (T : List α) : (insB lt y T).length = T.length + 1 := by unfold insB; rw [List.length_reverse, insR_len, List.length_reverse]
theorem sm_cons (S : List α) (y : α) (R : List α) : smerge lt S (y :: R) = smerge lt (insB lt y S) R := rfl
theorem sm_nil_r (S : List α) : smerge lt S [] = S := rfl
theorem sm_append (S R1 R2 : List α) : smerge lt S (R1 ++ R2) = smerge lt (smerge lt S R1) R2 := by unfold smerge; rw [List.foldl_append]
theorem sm_mem (x : α) (S R : List α) : x ∈ smerge lt S R ↔ x ∈ S ∨ x ∈ R := by
 induction R generalizing S with
 | nil => simp [smerge]
 | cons y r ih => rw [sm_cons, ih, insB_mem, List.mem_cons]; constructor <;> (rintro h; grind)
theorem sm_len (S R : List α) : (smerge lt S R).length = S.length + R.length := by
 induction R generalizing S with
 | nil => simp [smerge]
 | cons y r ih => rw [sm_cons, ih, insB_len, List.length_cons]; omega
theorem sm_left (S T R : List α) (h : ∀ y ∈ R, ∀ x ∈ T, lt y x = true) : smerge lt (S ++ T) R = smerge lt S R ++ T := by
 induction R generalizing S with
 | nil => rfl
 | cons y r ih => rw [sm_cons, insB_left y S T (h y (by simp)), ih _ (fun z hz => h z (by simp [hz])), sm_cons]
theorem sm_right (S T R : List α) (h : ∀ y ∈ R, ∀ x ∈ S, lt y x = false) : smerge lt (S ++ T) R = S ++ smerge lt T R := by
 induction R generalizing T with
 | nil => rfl
 | cons y r ih => rw [sm_cons, insB_right y S T (h y (by simp)), ih _ (fun z hz => h z (by simp [hz])), sm_cons]
theorem sm_split (L1 L2 R1 R2 : List α) (hA : ∀ y ∈ R1, ∀ x ∈ L2, lt y x = true) (hB : ∀ y ∈ R2, ∀ x ∈ L1, lt y x = false) (hC : ∀ y ∈ R2, ∀ x ∈ R1, lt y x = false) : smerge lt (L1 ++ L2) (R1 ++ R2) = smerge lt L1 R1 ++ smerge lt L2 R2 := by
 rw [sm_append, sm_left L1 L2 R1 hA, sm_right _ _ _ (fun y hy x hx => ?_)]
 rcases (sm_mem x L1 R1).1 hx with h | h
 ·exact hB y hy x h
 ·exact hC y hy x h
def Ordered (lt : α → α → Bool) (l : List α) : Prop := l.Pairwise fun x y => lt y x = false
theorem sm_nil (R : List α) (h : Ordered lt R) : smerge lt [] R = R := by
 induction R with
 | nil => rfl
 | cons y r ih =>
  rw [Ordered, List.pairwise_cons] at h
  rw [sm_cons, insB_nil, show [y] = [y] ++ [] from rfl, sm_right [y] [] r (fun z hz x hx => by simp at hx; subst hx; exact h.1 z hz), ih h.2]; rfl
structure Wk (lt : α → α → Bool) : Prop where
 tr : ∀ x y z, lt x y = true → lt y z = true → lt x z = true
 asy : ∀ x y, lt x y = true → lt y x = false
 nt : ∀ x y z, lt x y = false → lt y z = false → lt x z = false
theorem Wk.mix (h : Wk lt) {x y z : α} (h1 : lt x y = true) (h2 : lt z y = false) : lt x z = true := by
 rcases hx : lt x z with _ | _
 ·have := h.nt x z y hx h2; rw [h1] at this; cases this
 ·rfl
theorem Wk.mix2 (h : Wk lt) {x y z : α} (h1 : lt y x = false) (h2 : lt y z = true) : lt x z = true := by
 rcases hx : lt x z with _ | _
 ·have := h.nt y x z h1 hx; rw [h2] at this; cases this
 ·rfl
theorem insR_comm (W : Wk lt) (y t : α) (U : List α) (h : lt y t = true) : insR lt y (insR lt t U) = insR lt t (insR lt y U) := by
 induction U with
 | nil =>
  show insR lt y [t] = insR lt t [y]
  rw [insR, if_pos h, insR, insR, if_neg (by rw [W.asy _ _ h]; decide)]
 | cons e r ih =>
  by_cases h1 : lt t e = true
  ·have h2 : lt y e = true := W.tr _ _ _ h h1
   have e1 : insR lt t (e :: r) = e :: insR lt t r := by rw [insR, if_pos h1]
   have e2 : insR lt y (e :: r) = e :: insR lt y r := by rw [insR, if_pos h2]
   rw [e1, e2, insR, if_pos h2, insR, if_pos h1, ih]
  ·have e1 : insR lt t (e :: r) = t :: e :: r := by rw [insR, if_neg h1]
   rw [e1, insR, if_pos h]
   by_cases h2 : lt y e = true
   ·have e2 : insR lt y (e :: r) = e :: insR lt y r := by rw [insR, if_pos h2]
    rw [e2, insR, if_neg h1]
   ·have e2 : insR lt y (e :: r) = y :: e :: r := by rw [insR, if_neg h2]
    rw [e2, insR, if_neg (by rw [W.asy _ _ h]; decide)]
theorem insB_comm (W : Wk lt) (y t : α) (U : List α) (h : lt y t = true) : insB lt y (insB lt t U) = insB lt t (insB lt y U) := by
 unfold insB; rw [List.reverse_reverse, List.reverse_reverse, insR_comm W y t _ h]
theorem snoc_cases (l : List α) : l = [] ∨ ∃ r e, l = r ++ [e] := by
 rcases h : l.reverse with _ | ⟨e, r⟩
 ·left; simpa using h
 ·right; exact ⟨r.reverse, e, by have := congrArg List.reverse h; simpa using this⟩
theorem insB_sm (W : Wk lt) (y : α) (S : List α) : ∀ (n : Nat) (T : List α), T.length = n → insB lt y (smerge lt S T) = smerge lt S (insB lt y T) := by
 intro n
 induction n with
 | zero => intro T hT; obtain rfl : T = [] := List.eq_nil_of_length_eq_zero hT; rfl
 | succ n ih =>
  intro T hT
  rcases snoc_cases T with rfl | ⟨r, e, rfl⟩
  ·simp at hT
  ·have hr : r.length = n := by simpa using hT
   rw [insB_snoc, sm_append]
   show insB lt y (insB lt e (smerge lt S r)) = _
   by_cases h : lt y e = true
   ·rw [if_pos h, insB_comm W y e _ h, ih r hr, sm_append]; rfl
   ·rw [if_neg h, show r ++ [e, y] = (r ++ [e]) ++ [y] by simp, sm_append, sm_append]; rfl
theorem sm_isort (W : Wk lt) (S : List α) : ∀ (n : Nat) (B : List α), B.length = n → smerge lt S B = smerge lt S (isort lt B) := by
 intro n
 induction n with
 | zero => intro B hB; obtain rfl : B = [] := List.eq_nil_of_length_eq_zero hB; rfl
 | succ n ih =>
  intro B hB
  rcases snoc_cases B with rfl | ⟨r, e, rfl⟩
  ·simp at hB
  ·have hr : r.length = n := by simpa using hB
   have e1 : isort lt (r ++ [e]) = insB lt e (isort lt r) := by unfold isort; rw [sm_append]; rfl
   rw [e1, ← insB_sm W e S _ _ rfl, ← ih r hr, sm_append]; rfl
theorem isort_append (W : Wk lt) (A B : List α) : isort lt (A ++ B) = smerge lt (isort lt A) (isort lt B) := by
 unfold isort; rw [sm_append]; exact sm_isort W _ _ B rfl
theorem insR_ordered (W : Wk lt) (y : α) (U : List α) (h : U.Pairwise fun x z => lt x z = false) : (insR lt y U).Pairwise fun x z => lt x z = false := by
 induction U with
 | nil => exact List.pairwise_singleton _ _
 | cons e r ih =>
  rw [List.pairwise_cons] at h
  rw [insR]; split
  ·rename_i h1
   rw [List.pairwise_cons]
   refine ⟨fun z hz => ?_, ih h.2⟩
   rcases (insR_mem y z r).1 hz with rfl | hz
   ·exact W.asy _ _ h1
   ·exact h.1 z hz
  ·rename_i h1
   have h1' : lt y e = false := by simpa using h1
   rw [List.pairwise_cons, List.pairwise_cons]
   refine ⟨fun z hz => ?_, h⟩
   rcases List.mem_cons.1 hz with rfl | hz
   ·exact h1'
   ·exact W.nt _ _ _ h1' (h.1 z hz)
theorem insB_ordered (W : Wk lt) (y : α) (U : List α) (h : Ordered lt U) : Ordered lt (insB lt y U) := by
 unfold Ordered insB
 rw [List.pairwise_reverse]
 exact insR_ordered W y _ (by rw [List.pairwise_reverse]; exact h)
theorem sm_ordered (W : Wk lt) (S R : List α) (h : Ordered lt S) : Ordered lt (smerge lt S R) := by
 induction R generalizing S with
 | nil => exact h
 | cons y r ih => rw [sm_cons]; exact ih _ (insB_ordered W y S h)
theorem isort_ordered (W : Wk lt) (l : List α) : Ordered lt (isort lt l) := sm_ordered W [] l List.Pairwise.nil
theorem isort_len (l : List α) : (isort lt l).length = l.length := by unfold isort; rw [sm_len]; simp
def seg (l : List α) (a b : Nat) : List α := (l.drop a).take (b - a)
theorem seg_len (l : List α) (a b : Nat) (h : b ≤ l.length) : (seg l a b).length = b - a := by unfold seg; rw [List.length_take, List.length_drop]; omega
theorem seg_join (l : List α) (a m b : Nat) (h1 : a ≤ m) (h2 : m ≤ b) : seg l a m ++ seg l m b = seg l a b := by
 unfold seg
 have e : (l.drop a).take (b - a) = (l.drop a).take (m - a) ++ ((l.drop a).drop (m - a)).take (b - m) := by
  rw [← List.take_add, show m - a + (b - m) = b - a by omega]
 rw [e, List.drop_drop, show a + (m - a) = m by omega]
theorem cut3 (l : List α) (a b : Nat) (h : a ≤ b) : l = l.take a ++ (seg l a b ++ l.drop b) := by
 unfold seg
 have e : l.drop a = (l.drop a).take (b - a) ++ (l.drop a).drop (b - a) := (List.take_append_drop _ _).symm
 rw [List.drop_drop, show a + (b - a) = b by omega] at e
 rw [← e, List.take_append_drop]
theorem seg_of (P L Q : List α) (a b : Nat) (ha : P.length = a) (hb : P.length + L.length = b) : seg (P ++ (L ++ Q)) a b = L := by
 unfold seg; rw [List.drop_left' ha, List.take_left' (by omega)]
theorem take_of (P L : List α) (a : Nat) (ha : P.length = a) : (P ++ L).take a = P := List.take_left' ha
theorem drop_of (P L Q : List α) (b : Nat) (hb : P.length + L.length = b) : (P ++ (L ++ Q)).drop b = Q := by
 rw [← List.append_assoc]; exact List.drop_left' (by rw [List.length_append]; exact hb)
def mrg (lt : α → α → Bool) (l : List α) (a m b : Nat) : List α := l.take a ++ (smerge lt (seg l a m) (seg l m b) ++ l.drop b)
def srt (lt : α → α → Bool) (l : List α) (a b : Nat) : List α := l.take a ++ (isort lt (seg l a b) ++ l.drop b)
theorem srt_len (l : List α) (a b : Nat) (h1 : a ≤ b) (h3 : b ≤ l.length) : (srt lt l a b).length = l.length := by
 unfold srt; rw [List.length_append, List.length_append, isort_len, seg_len _ _ _ h3, List.length_take, List.length_drop]; omega
variable [Inhabited α]
theorem seg_mem (l : List α) (a b : Nat) (h : b ≤ l.length) (x : α) (hx : x ∈ seg l a b) : ∃ i, a ≤ i ∧ i < b ∧ l[i]! = x := by
 obtain ⟨i, hi, e⟩ := List.mem_iff_getElem.1 hx
 rw [seg_len _ _ _ h] at hi
 refine ⟨a + i, by omega, by omega, ?_⟩
 rw [getElem!_pos l (a + i) (by omega), ← e]
 simp [seg]
theorem seg_get (l : List α) (a b i : Nat) (h : b ≤ l.length) (hi : i < b - a) : (seg l a b)[i]! = l[a + i]! := by
 rw [getElem!_pos (seg l a b) i (by rw [seg_len _ _ _ h]; exact hi), getElem!_pos l (a + i) (by omega)]
 simp [seg]
theorem ordered_get {l : List α} (h : Ordered lt l) (i j : Nat) (hij : i < j) (hj : j < l.length) : lt l[j]! l[i]! = false := by
 have h1 := List.pairwise_iff_getElem.1 h i j (by omega) hj hij
 rw [getElem!_pos l i (by omega), getElem!_pos l j hj]; exact h1
theorem ordered_seg {l : List α} {a b : Nat} (h : Ordered lt (seg l a b)) (hb : b ≤ l.length) (i j : Nat) (ha : a ≤ i) (hij : i < j) (hj : j < b) : lt l[j]! l[i]! = false := by
 have h1 := ordered_get h (i - a) (j - a) (by omega) (by rw [seg_len _ _ _ hb]; omega)
 rw [seg_get _ _ _ _ hb (by omega), seg_get _ _ _ _ hb (by omega), show a + (j - a) = j by omega, show a + (i - a) = i by omega] at h1
 exact h1
end
theorem kb_self : ∀ a : List UInt8, Lib.compareBytes a a = 0
 | [] => rfl
 | x :: r => by unfold Lib.compareBytes; simp [UInt8.lt_irrefl, kb_self r]
theorem kb_neg : ∀ a b : List UInt8, Lib.compareBytes b a = - Lib.compareBytes a b
 | [], [] => rfl
 | [], _ :: _ => rfl
 | _ :: _, [] => rfl
 | x :: r, y :: s => by
  unfold Lib.compareBytes
  by_cases h1 : x < y
  ·have h2 : ¬ y < x := fun h => by rw [UInt8.lt_iff_toNat_lt] at *; omega
   simp [h1, h2]
  ·by_cases h2 : y < x
   ·simp [h1, h2]
   ·simp [h1, h2, kb_neg r s]
theorem kb_eq : ∀ a b : List UInt8, Lib.compareBytes a b = 0 → a = b
 | [], [], _ => rfl
 | [], _ :: _, h => by simp [Lib.compareBytes] at h
 | _ :: _, [], h => by simp [Lib.compareBytes] at h
 | x :: r, y :: s, h => by
  unfold Lib.compareBytes at h
  by_cases h1 : x < y
  ·simp [h1] at h
  ·by_cases h2 : y < x
   ·simp [h1, h2] at h
   ·simp [h1, h2] at h
    have e : x = y := by
     apply UInt8.toNat_inj.1
     rw [UInt8.lt_iff_toNat_lt] at h1 h2; omega
    rw [e, kb_eq r s h]
theorem kb_trans : ∀ a b c : List UInt8, Lib.compareBytes a b < 0 → Lib.compareBytes b c < 0 → Lib.compareBytes a c < 0
 | [], [], _, h, _ => by simp [Lib.compareBytes] at h
 | _ :: _, [], _, h, _ => by simp [Lib.compareBytes] at h
 | _, _ :: _, [], _, h => by simp [Lib.compareBytes] at h
 | [], _ :: _, _ :: _, _, _ => by simp [Lib.compareBytes]
 | x :: r, y :: s, z :: t, h1, h2 => by
  unfold Lib.compareBytes at h1 h2 ⊢
  have ih := kb_trans r s t
  simp only [UInt8.lt_iff_toNat_lt] at *
  by_cases a1 : x.toNat < y.toNat
  ·by_cases a2 : y.toNat < z.toNat
   ·simp [show x.toNat < z.toNat by omega]
   ·by_cases a3 : z.toNat < y.toNat
    ·simp [a2, a3] at h2
    ·simp [show x.toNat < z.toNat by omega]
  ·by_cases b1 : y.toNat < x.toNat
   ·simp [a1, b1] at h1
   ·simp only [a1, b1, if_false] at h1
    by_cases a2 : y.toNat < z.toNat
    ·simp [show x.toNat < z.toNat by omega]
    ·by_cases a3 : z.toNat < y.toNat
     ·simp [a2, a3] at h2
     ·simp only [a2, a3, if_false] at h2
      simp only [show ¬ x.toNat < z.toNat by omega, show ¬ z.toNat < x.toNat by omega, if_false]
      exact ih h1 h2
theorem ek_neg (a b : ByteArray) : cmpK b a = - cmpK a b := kb_neg _ _
theorem ek_eq {a b : ByteArray} (h : cmpK a b = 0) : a = b := by
 have := kb_eq _ _ h
 have h2 : a.data = b.data := by rw [← Array.toList_inj]; exact this
 cases a; cases b; simp at h2; rw [h2]
theorem ek_self (a : ByteArray) : cmpK a a = 0 := kb_self _
def Lss (x y : Ev) : Prop := cmpK x.key y.key < 0 ∨ (x.key = y.key ∧ (x.time < y.time ∨ (x.time = y.time ∧ x.off < y.off)))
theorem lss_iff (x y : Ev) : evCmp x y < 0 ↔ Lss x y := by
 unfold evCmp or3 Lss
 by_cases h1 : cmpK x.key y.key = 0
 ·have hk := ek_eq h1
  have hs := ek_self y.key
  rw [if_neg (by omega)]
  unfold cmpI
  by_cases h2 : x.time < y.time
  ·simp [h1, hk, hs, h2]
  ·by_cases h3 : y.time < x.time
   ·simp [h1, hk, hs, h2, h3]; omega
   ·have ht : x.time = y.time := by omega
    simp [h1, hk, hs, ht]
    by_cases h4 : x.off < y.off
    ·simp [h4]
    ·by_cases h5 : y.off < x.off <;> simp [h4, h5]
 ·rw [if_pos h1]
  constructor
  ·intro h; exact .inl h
  ·rintro (h | ⟨h, -⟩)
   ·exact h
   ·rw [h, ek_self] at h1; exact absurd rfl h1
theorem lt_iff (x y : Ev) : ltOf evCmp x y = true ↔ Lss x y := by unfold ltOf; rw [decide_eq_true_eq, lss_iff]
theorem lt_no (x y : Ev) : ltOf evCmp x y = false ↔ ¬ Lss x y := by rw [← lt_iff]; simp
theorem wkE : Wk (ltOf evCmp) := by
 refine ⟨fun x y z h1 h2 => ?_, fun x y h => ?_, fun x y z h1 h2 => ?_⟩
 ·rw [lt_iff] at *
  rcases h1 with h1 | ⟨e1, h1⟩ <;> rcases h2 with h2 | ⟨e2, h2⟩
  ·exact .inl (kb_trans _ _ _ h1 h2)
  ·exact .inl (by rw [← e2]; exact h1)
  ·exact .inl (by rw [e1]; exact h2)
  ·exact .inr ⟨e1.trans e2, by omega⟩
 ·rw [lt_iff] at h; rw [lt_no]
  rintro h2
  rcases h with h | ⟨e, h⟩ <;> rcases h2 with h2 | ⟨e2, h2⟩
  ·rw [ek_neg] at h2; omega
  ·rw [e2, ek_self] at h; omega
  ·rw [e, ek_self] at h2; omega
  ·omega
 ·rw [lt_no] at *
  rintro h
  have key : ∀ a b : Ev, ¬ Lss a b → cmpK b.key a.key < 0 ∨ (a.key = b.key ∧ (b.time < a.time ∨ (b.time = a.time ∧ b.off ≤ a.off))) := fun a b hn => by
   unfold Lss at hn
   by_cases hk : cmpK a.key b.key = 0
   ·right; have := ek_eq hk; refine ⟨this, ?_⟩
    have h3 : ¬ (a.time < b.time ∨ (a.time = b.time ∧ a.off < b.off)) := fun h => hn (.inr ⟨this, h⟩)
    omega
   ·left; rw [ek_neg]
    have h3 : ¬ cmpK a.key b.key < 0 := fun h => hn (.inl h)
    omega
  have k1 := key x y h1
  have k2 := key y z h2
  rcases k1 with k1 | ⟨e1, k1⟩ <;> rcases k2 with k2 | ⟨e2, k2⟩ <;> rcases h with h | ⟨e, h⟩
  ·have h3 := kb_trans _ _ _ k2 k1; have h4 : cmpK x.key z.key < 0 := h; rw [ek_neg] at h4; have h5 : cmpK z.key x.key < 0 := h3; omega
  ·have h3 : cmpK z.key x.key < 0 := kb_trans _ _ _ k2 k1; rw [e, ek_self] at h3; omega
  ·rw [e2] at k1; rw [ek_neg] at h; omega
  ·rw [e2, ← e, ek_self] at k1; omega
  ·rw [← e1] at k2; rw [ek_neg] at h; omega
  ·rw [← e1, e, ek_self] at k2; omega
  ·rw [e1, e2, ek_self] at h; omega
  ·omega
theorem ext_get! {l m : List Ev} (h : l.length = m.length) (hg : ∀ i, i < l.length → l[i]! = m[i]!) : l = m := by
 apply List.ext_getElem h
 intro i h1 h2
 have := hg i h1
 rwa [getElem!_pos l i h1, getElem!_pos m i h2] at this
theorem ta_get (l : List Ev) (i : Nat) : l.toArray[i]! = l[i]! := by simp
def lswp (l : List Ev) (i j : Nat) : List Ev := (swp l.toArray i j).toList
theorem lswp_arr (l : List Ev) (i j : Nat) : swp l.toArray i j = (lswp l i j).toArray := by unfold lswp; simp
theorem lswp_len (l : List Ev) (i j : Nat) : (lswp l i j).length = l.length := by unfold lswp; rw [Array.length_toList, swp_size]; simp
theorem lswp_get (l : List Ev) {i j : Nat} (hi : i < l.length) (hj : j < l.length) (k : Nat) : (lswp l i j)[k]! = if k = j then l[i]! else if k = i then l[j]! else l[k]! := by
 have h := swp_get l.toArray (i := i) (j := j) (by simpa using hi) (by simpa using hj) k
 rw [lswp_arr, ta_get, ta_get, ta_get, ta_get] at h; exact h
theorem get!_left (l m : List Ev) (i : Nat) (h : i < l.length) : (l ++ m)[i]! = l[i]! := by
 rw [getElem!_pos (l ++ m) i (by rw [List.length_append]; omega), getElem!_pos l i h, List.getElem_append_left h]
theorem get!_right (l m : List Ev) (i : Nat) (h1 : l.length ≤ i) (h2 : i < l.length + m.length) : (l ++ m)[i]! = m[i - l.length]! := by
 rw [getElem!_pos (l ++ m) i (by rw [List.length_append]; omega), getElem!_pos m (i - l.length) (by omega), List.getElem_append_right h1]
theorem lswp_adj (P Q : List Ev) (x y : Ev) : lswp (P ++ x :: y :: Q) (P.length + 1) P.length = P ++ y :: x :: Q ∧ lswp (P ++ x :: y :: Q) P.length (P.length + 1) = P ++ y :: x :: Q := by
 have hl : (P ++ x :: y :: Q).length = P.length + 2 + Q.length := by simp; omega
 have hx : (P ++ x :: y :: Q)[P.length]! = x := by rw [get!_right _ _ _ (Nat.le_refl _) (by simp), Nat.sub_self]; rfl
 have hy : (P ++ x :: y :: Q)[P.length + 1]! = y := by rw [get!_right _ _ _ (by omega) (by simp), show P.length + 1 - P.length = 1 by omega]; rfl
 have goal : ∀ k, k < (P ++ x :: y :: Q).length → (P ++ y :: x :: Q)[k]! = if k = P.length then y else if k = P.length + 1 then x else (P ++ x :: y :: Q)[k]! := fun k hk => by
  rcases Nat.lt_trichotomy k P.length with h | h | h
  ·rw [if_neg (by omega), if_neg (by omega), get!_left _ _ _ h, get!_left _ _ _ h]
  ·subst h; rw [if_pos rfl, get!_right _ _ _ (Nat.le_refl _) (by simp), Nat.sub_self]; rfl
  ·rw [if_neg (by omega), get!_right P (y :: x :: Q) _ (by omega) (by simp at hk ⊢; omega), get!_right P (x :: y :: Q) _ (by omega) (by simp at hk ⊢; omega)]
   rcases h2 : k - P.length with _ | _ | n
   ·omega
   ·rw [if_pos (by omega)]; rfl
   ·rw [if_neg (by omega)]; rfl
 constructor
 ·refine ext_get! (by rw [lswp_len]; simp) fun k hk => ?_
  rw [lswp_len] at hk
  rw [lswp_get _ (by omega) (by omega), hx, hy, goal k hk]
 ·refine ext_get! (by rw [lswp_len]; simp) fun k hk => ?_
  rw [lswp_len] at hk
  rw [lswp_get _ (by omega) (by omega), hx, hy, goal k hk]
  by_cases h1 : k = P.length
  ·rw [if_neg (by omega), if_pos h1, if_pos h1]
  ·rw [if_neg h1, if_neg h1]
theorem inner_list (P : List Ev) (x : Ev) : ∀ (n : Nat) (s Q : List Ev), s.length = n → insInner (ltOf evCmp) P.length (P.length + n) (P ++ (s ++ x :: Q)).toArray = (P ++ (insB (ltOf evCmp) x s ++ Q)).toArray := by
 intro n
 induction n with
 | zero =>
  intro s Q hs
  obtain rfl : s = [] := List.eq_nil_of_length_eq_zero hs
  rw [insInner_stop _ _ _ _ (.inl (by omega)), insB_nil]; rfl
 | succ n ih =>
  intro s Q hs
  rcases snoc_cases s with rfl | ⟨r, e, rfl⟩
  ·simp at hs
  ·have hr : r.length = n := by simpa using hs
   have e1 : P ++ (r ++ [e] ++ x :: Q) = (P ++ r) ++ e :: x :: Q := by simp
   have hj : (P ++ r).length = P.length + n := by simp [hr]
   have hx : ((P ++ r) ++ e :: x :: Q)[P.length + (n + 1)]! = x := by rw [get!_right _ _ _ (by omega) (by simp; omega), show P.length + (n + 1) - (P ++ r).length = 1 by omega]; rfl
   have he : ((P ++ r) ++ e :: x :: Q)[P.length + n]! = e := by rw [get!_right _ _ _ (by omega) (by simp; omega), show P.length + n - (P ++ r).length = 0 by omega]; rfl
   rw [e1, insB_snoc]
   by_cases h : ltOf evCmp x e = true
   ·rw [if_pos h, insInner_go _ _ _ _ (by omega) (by rw [ta_get, ta_get, hx, show P.length + (n + 1) - 1 = P.length + n by omega, he]; exact h), show P.length + (n + 1) - 1 = P.length + n by omega, lswp_arr]
    have h2 := (lswp_adj (P ++ r) Q e x).1
    rw [hj] at h2
    rw [show P.length + (n + 1) = P.length + n + 1 by omega, h2, show P ++ r ++ x :: e :: Q = P ++ (r ++ x :: (e :: Q)) by simp, ih r (e :: Q) hr]
    simp
   ·rw [if_neg h, insInner_stop _ _ _ _ (.inr (by rw [ta_get, ta_get, hx, show P.length + (n + 1) - 1 = P.length + n by omega, he]; simpa using h))]
    try simp
theorem outer_list (P Q : List Ev) : ∀ (n : Nat) (s t : List Ev), t.length = n → insOuter (ltOf evCmp) P.length (P.length + s.length + n) (P.length + s.length) (P ++ (s ++ (t ++ Q))).toArray = (P ++ (smerge (ltOf evCmp) s t ++ Q)).toArray := by
 intro n
 induction n with
 | zero =>
  intro s t ht
  obtain rfl : t = [] := List.eq_nil_of_length_eq_zero ht
  rw [insOuter_stop _ _ _ _ _ (by omega)]; rfl
 | succ n ih =>
  intro s t ht
  rcases t with _ | ⟨x, r⟩
  ·simp at ht
  ·have hr : r.length = n := by simpa using ht
   rw [insOuter_go _ _ _ _ _ (by omega), show s ++ (x :: r ++ Q) = s ++ x :: (r ++ Q) by simp, inner_list P x s.length s (r ++ Q) rfl, sm_cons, ← ih (insB (ltOf evCmp) x s) r hr, insB_len]
   rw [show P.length + s.length + (n + 1) = P.length + (s.length + 1) + n by omega, show P.length + s.length + 1 = P.length + (s.length + 1) by omega]
theorem ins_srt (l : List Ev) (a b : Nat) (hab : a ≤ b) (hb : b ≤ l.length) : insertionSort (ltOf evCmp) l.toArray a b = (srt (ltOf evCmp) l a b).toArray := by
 have hP : (l.take a).length = a := by rw [List.length_take]; omega
 have hc := cut3 l a b hab
 have hsl := seg_len l a b hb
 unfold srt isort insertionSort
 conv => lhs; rw [hc]
 rcases hs : seg l a b with _ | ⟨x, r⟩
 ·rw [hs] at hsl; simp at hsl
  rw [insOuter_stop _ _ _ _ _ (by omega)]; rfl
 ·rw [hs] at hsl
  have h := outer_list (l.take a) (l.drop b) r.length [x] r rfl
  rw [hP] at h
  rw [show a + [x].length + r.length = b by simp at hsl ⊢; omega] at h
  rw [sm_cons, insB_nil]
  exact h
end Go.Proofs.YtjldamkmdkaiiaaGreatDoor
