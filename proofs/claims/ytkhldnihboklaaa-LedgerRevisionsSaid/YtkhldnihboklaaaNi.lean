/-
  Layer ledger: the order of panes; panes sorted by insertions: plain facts.
-/
import Derived.Test.YtkhldnihboklaaaNh
import Derived.Test.YtkhldnihboklaaaEi
set_option linter.unusedSimpArgs false
set_option linter.unusedVariables false
set_option maxRecDepth 8000
namespace Go.Proofs.Ytkhldnihboklaaa
open Go.RowKit Go.Sort

/-- Less, said by the parts. -/
def LssP (x y : Pw) : Prop := cmpK x.p.key y.p.key < 0 ∨ (x.p.key = y.p.key ∧ (x.p.s < y.p.s ∨ (x.p.s = y.p.s ∧ x.p.e < y.p.e)))
theorem lssP_iff (x y : Pw) : pwCmp x y < 0 ↔ LssP x y := by
  unfold pwCmp plCmp or3 LssP
  by_cases h1 : cmpK x.p.key y.p.key = 0
  · have hk := ek_eq h1
    have hs := ek_self y.p.key
    rw [if_neg (by omega)]
    unfold cmpI
    by_cases h2 : x.p.s < y.p.s
    · simp [h1, hk, hs, h2]
    · by_cases h3 : y.p.s < x.p.s
      · simp [h1, hk, hs, h2, h3]; omega
      · have ht : x.p.s = y.p.s := by omega
        simp [h1, hk, hs, ht]
        by_cases h4 : x.p.e < y.p.e
        · simp [h4]
        · by_cases h5 : y.p.e < x.p.e <;> simp [h4, h5]
  · rw [if_pos h1]
    constructor
    · intro h; exact .inl h
    · rintro (h | ⟨h, -⟩)
      · exact h
      · rw [h, ek_self] at h1; exact absurd rfl h1
theorem ltP_iff (x y : Pw) : ltOf pwCmp x y = true ↔ LssP x y := by unfold ltOf; rw [decide_eq_true_eq, lssP_iff]
theorem ltP_no (x y : Pw) : ltOf pwCmp x y = false ↔ ¬ LssP x y := by rw [← ltP_iff]; simp
theorem wkP : Wk (ltOf pwCmp) := by
  refine ⟨fun x y z h1 h2 => ?_, fun x y h => ?_, fun x y z h1 h2 => ?_⟩
  · rw [ltP_iff] at *
    rcases h1 with h1 | ⟨e1, h1⟩ <;> rcases h2 with h2 | ⟨e2, h2⟩
    · exact .inl (kb_trans _ _ _ h1 h2)
    · exact .inl (by rw [← e2]; exact h1)
    · exact .inl (by rw [e1]; exact h2)
    · exact .inr ⟨e1.trans e2, by omega⟩
  · rw [ltP_iff] at h; rw [ltP_no]
    rintro h2
    rcases h with h | ⟨e, h⟩ <;> rcases h2 with h2 | ⟨e2, h2⟩
    · rw [ek_neg] at h2; omega
    · rw [e2, ek_self] at h; omega
    · rw [e, ek_self] at h2; omega
    · omega
  · rw [ltP_no] at *
    rintro h
    have key : ∀ a b : Pw, ¬ LssP a b → cmpK b.p.key a.p.key < 0 ∨ (a.p.key = b.p.key ∧ (b.p.s < a.p.s ∨ (b.p.s = a.p.s ∧ b.p.e ≤ a.p.e))) := fun a b hn => by
      unfold LssP at hn
      by_cases hk : cmpK a.p.key b.p.key = 0
      · right; have := ek_eq hk; refine ⟨this, ?_⟩
        have h3 : ¬ (a.p.s < b.p.s ∨ (a.p.s = b.p.s ∧ a.p.e < b.p.e)) := fun h => hn (.inr ⟨this, h⟩)
        omega
      · left; rw [ek_neg]
        have h3 : ¬ cmpK a.p.key b.p.key < 0 := fun h => hn (.inl h)
        omega
    have k1 := key x y h1
    have k2 := key y z h2
    rcases k1 with k1 | ⟨e1, k1⟩ <;> rcases k2 with k2 | ⟨e2, k2⟩ <;> rcases h with h | ⟨e, h⟩
    · have h3 := kb_trans _ _ _ k2 k1; have h4 : cmpK x.p.key z.p.key < 0 := h; rw [ek_neg] at h4; have h5 : cmpK z.p.key x.p.key < 0 := h3; omega
    · have h3 : cmpK z.p.key x.p.key < 0 := kb_trans _ _ _ k2 k1; rw [e, ek_self] at h3; omega
    · rw [e2] at k1; rw [ek_neg] at h; omega
    · rw [e2, ← e, ek_self] at k1; omega
    · rw [← e1] at k2; rw [ek_neg] at h; omega
    · rw [← e1, e, ek_self] at k2; omega
    · rw [e1, e2, ek_self] at h; omega
    · omega
theorem extP_get! {l m : List Pw} (h : l.length = m.length) (hg : ∀ i, i < l.length → l[i]! = m[i]!) : l = m := by
  apply List.ext_getElem h
  intro i h1 h2
  have := hg i h1
  rwa [getElem!_pos l i h1, getElem!_pos m i h2] at this
theorem taP_get (l : List Pw) (i : Nat) : l.toArray[i]! = l[i]! := by simp
/-- Two are exchanged. -/
def lswpP (l : List Pw) (i j : Nat) : List Pw := (swp l.toArray i j).toList
theorem lswpP_arr (l : List Pw) (i j : Nat) : swp l.toArray i j = (lswpP l i j).toArray := by unfold lswpP; simp
theorem lswpP_len (l : List Pw) (i j : Nat) : (lswpP l i j).length = l.length := by unfold lswpP; rw [Array.length_toList, swp_size]; simp
theorem lswpP_get (l : List Pw) {i j : Nat} (hi : i < l.length) (hj : j < l.length) (k : Nat) : (lswpP l i j)[k]! = if k = j then l[i]! else if k = i then l[j]! else l[k]! := by
  have h := swp_get l.toArray (i := i) (j := j) (by simpa using hi) (by simpa using hj) k
  rw [lswpP_arr, taP_get, taP_get, taP_get, taP_get] at h; exact h
theorem getP!_left (l m : List Pw) (i : Nat) (h : i < l.length) : (l ++ m)[i]! = l[i]! := by
  rw [getElem!_pos (l ++ m) i (by rw [List.length_append]; omega), getElem!_pos l i h, List.getElem_append_left h]
theorem getP!_right (l m : List Pw) (i : Nat) (h1 : l.length ≤ i) (h2 : i < l.length + m.length) : (l ++ m)[i]! = m[i - l.length]! := by
  rw [getElem!_pos (l ++ m) i (by rw [List.length_append]; omega), getElem!_pos m (i - l.length) (by omega), List.getElem_append_right h1]
/-- Neighbours are exchanged. -/
theorem lswpP_adj (P Q : List Pw) (x y : Pw) : lswpP (P ++ x :: y :: Q) (P.length + 1) P.length = P ++ y :: x :: Q ∧ lswpP (P ++ x :: y :: Q) P.length (P.length + 1) = P ++ y :: x :: Q := by
  have hl : (P ++ x :: y :: Q).length = P.length + 2 + Q.length := by simp; omega
  have hx : (P ++ x :: y :: Q)[P.length]! = x := by rw [getP!_right _ _ _ (Nat.le_refl _) (by simp), Nat.sub_self]; rfl
  have hy : (P ++ x :: y :: Q)[P.length + 1]! = y := by rw [getP!_right _ _ _ (by omega) (by simp), show P.length + 1 - P.length = 1 by omega]; rfl
  have goal : ∀ k, k < (P ++ x :: y :: Q).length → (P ++ y :: x :: Q)[k]! = if k = P.length then y else if k = P.length + 1 then x else (P ++ x :: y :: Q)[k]! := fun k hk => by
    rcases Nat.lt_trichotomy k P.length with h | h | h
    · rw [if_neg (by omega), if_neg (by omega), getP!_left _ _ _ h, getP!_left _ _ _ h]
    · subst h; rw [if_pos rfl, getP!_right _ _ _ (Nat.le_refl _) (by simp), Nat.sub_self]; rfl
    · rw [if_neg (by omega), getP!_right P (y :: x :: Q) _ (by omega) (by simp at hk ⊢; omega), getP!_right P (x :: y :: Q) _ (by omega) (by simp at hk ⊢; omega)]
      rcases h2 : k - P.length with _ | _ | n
      · omega
      · rw [if_pos (by omega)]; rfl
      · rw [if_neg (by omega)]; rfl
  constructor
  · refine extP_get! (by rw [lswpP_len]; simp) fun k hk => ?_
    rw [lswpP_len] at hk
    rw [lswpP_get _ (by omega) (by omega), hx, hy, goal k hk]
  · refine extP_get! (by rw [lswpP_len]; simp) fun k hk => ?_
    rw [lswpP_len] at hk
    rw [lswpP_get _ (by omega) (by omega), hx, hy, goal k hk]
    by_cases h1 : k = P.length
    · rw [if_neg (by omega), if_pos h1, if_pos h1]
    · rw [if_neg h1, if_neg h1]
/-- The library's sort by insertions, as lists. -/
theorem innerP_list (P : List Pw) (x : Pw) : ∀ (n : Nat) (s Q : List Pw), s.length = n → insInner (ltOf pwCmp) P.length (P.length + n) (P ++ (s ++ x :: Q)).toArray = (P ++ (insB (ltOf pwCmp) x s ++ Q)).toArray := by
  intro n
  induction n with
  | zero =>
    intro s Q hs
    obtain rfl : s = [] := List.eq_nil_of_length_eq_zero hs
    rw [insInner_stop _ _ _ _ (.inl (by omega)), insB_nil]; rfl
  | succ n ih =>
    intro s Q hs
    rcases snoc_cases s with rfl | ⟨r, e, rfl⟩
    · simp at hs
    · have hr : r.length = n := by simpa using hs
      have e1 : P ++ (r ++ [e] ++ x :: Q) = (P ++ r) ++ e :: x :: Q := by simp
      have hj : (P ++ r).length = P.length + n := by simp [hr]
      have hx : ((P ++ r) ++ e :: x :: Q)[P.length + (n + 1)]! = x := by rw [getP!_right _ _ _ (by omega) (by simp; omega), show P.length + (n + 1) - (P ++ r).length = 1 by omega]; rfl
      have he : ((P ++ r) ++ e :: x :: Q)[P.length + n]! = e := by rw [getP!_right _ _ _ (by omega) (by simp; omega), show P.length + n - (P ++ r).length = 0 by omega]; rfl
      rw [e1, insB_snoc]
      by_cases h : ltOf pwCmp x e = true
      · rw [if_pos h, insInner_go _ _ _ _ (by omega) (by rw [taP_get, taP_get, hx, show P.length + (n + 1) - 1 = P.length + n by omega, he]; exact h), show P.length + (n + 1) - 1 = P.length + n by omega, lswpP_arr]
        have h2 := (lswpP_adj (P ++ r) Q e x).1
        rw [hj] at h2
        rw [show P.length + (n + 1) = P.length + n + 1 by omega, h2, show P ++ r ++ x :: e :: Q = P ++ (r ++ x :: (e :: Q)) by simp, ih r (e :: Q) hr]
        simp
      · rw [if_neg h, insInner_stop _ _ _ _ (.inr (by rw [taP_get, taP_get, hx, show P.length + (n + 1) - 1 = P.length + n by omega, he]; simpa using h))]
        try simp
theorem outerP_list (P Q : List Pw) : ∀ (n : Nat) (s t : List Pw), t.length = n → insOuter (ltOf pwCmp) P.length (P.length + s.length + n) (P.length + s.length) (P ++ (s ++ (t ++ Q))).toArray = (P ++ (smerge (ltOf pwCmp) s t ++ Q)).toArray := by
  intro n
  induction n with
  | zero =>
    intro s t ht
    obtain rfl : t = [] := List.eq_nil_of_length_eq_zero ht
    rw [insOuter_stop _ _ _ _ _ (by omega)]; rfl
  | succ n ih =>
    intro s t ht
    rcases t with _ | ⟨x, r⟩
    · simp at ht
    · have hr : r.length = n := by simpa using ht
      rw [insOuter_go _ _ _ _ _ (by omega), show s ++ (x :: r ++ Q) = s ++ x :: (r ++ Q) by simp, innerP_list P x s.length s (r ++ Q) rfl, sm_cons, ← ih (insB (ltOf pwCmp) x s) r hr, insB_len]
      rw [show P.length + s.length + (n + 1) = P.length + (s.length + 1) + n by omega, show P.length + s.length + 1 = P.length + (s.length + 1) by omega]
theorem insP_srt (l : List Pw) (a b : Nat) (hab : a ≤ b) (hb : b ≤ l.length) : insertionSort (ltOf pwCmp) l.toArray a b = (srt (ltOf pwCmp) l a b).toArray := by
  have hP : (l.take a).length = a := by rw [List.length_take]; omega
  have hc := cut3 l a b hab
  have hsl := seg_len l a b hb
  unfold srt isort insertionSort
  conv => lhs; rw [hc]
  rcases hs : seg l a b with _ | ⟨x, r⟩
  · rw [hs] at hsl; simp at hsl
    rw [insOuter_stop _ _ _ _ _ (by omega)]; rfl
  · rw [hs] at hsl
    have h := outerP_list (l.take a) (l.drop b) r.length [x] r rfl
    rw [hP] at h
    rw [show a + [x].length + r.length = b by simp at hsl ⊢; omega] at h
    rw [sm_cons, insB_nil]
    exact h
end Go.Proofs.Ytkhldnihboklaaa
