/-
  Layer event: the order of events; exchanges, rotations and insertions on lists: plain facts.
-/
import Derived.Test.YtkhldnihboklaaaEh
import Derived.Sort.LotA
import Derived.Sort.WalkA
set_option linter.unusedSimpArgs false
set_option linter.unusedVariables false
namespace Go.Proofs.Ytkhldnihboklaaa
open Go.RowKit Go.Sort

theorem kb_self : ∀ a : List UInt8, Lib.compareBytes a a = 0
  | [] => rfl
  | x :: r => by unfold Lib.compareBytes; simp [UInt8.lt_irrefl, kb_self r]
theorem kb_neg : ∀ a b : List UInt8, Lib.compareBytes b a = - Lib.compareBytes a b
  | [], [] => rfl
  | [], _ :: _ => rfl
  | _ :: _, [] => rfl
  | x :: r, y :: s => by
    unfold Lib.compareBytes
    by_cases h1 : x < y
    · have h2 : ¬ y < x := fun h => by rw [UInt8.lt_iff_toNat_lt] at *; omega
      simp [h1, h2]
    · by_cases h2 : y < x
      · simp [h1, h2]
      · simp [h1, h2, kb_neg r s]
theorem kb_eq : ∀ a b : List UInt8, Lib.compareBytes a b = 0 → a = b
  | [], [], _ => rfl
  | [], _ :: _, h => by simp [Lib.compareBytes] at h
  | _ :: _, [], h => by simp [Lib.compareBytes] at h
  | x :: r, y :: s, h => by
    unfold Lib.compareBytes at h
    by_cases h1 : x < y
    · simp [h1] at h
    · by_cases h2 : y < x
      · simp [h1, h2] at h
      · simp [h1, h2] at h
        have e : x = y := by
          apply UInt8.toNat_inj.1
          rw [UInt8.lt_iff_toNat_lt] at h1 h2; omega
        rw [e, kb_eq r s h]
theorem kb_trans : ∀ a b c : List UInt8, Lib.compareBytes a b < 0 → Lib.compareBytes b c < 0 → Lib.compareBytes a c < 0
  | [], [], _, h, _ => by simp [Lib.compareBytes] at h
  | _ :: _, [], _, h, _ => by simp [Lib.compareBytes] at h
  | _, _ :: _, [], _, h => by simp [Lib.compareBytes] at h
  | [], _ :: _, _ :: _, _, _ => by simp [Lib.compareBytes]
  | x :: r, y :: s, z :: t, h1, h2 => by
    unfold Lib.compareBytes at h1 h2 ⊢
    have ih := kb_trans r s t
    simp only [UInt8.lt_iff_toNat_lt] at *
    by_cases a1 : x.toNat < y.toNat
    · by_cases a2 : y.toNat < z.toNat
      · simp [show x.toNat < z.toNat by omega]
      · by_cases a3 : z.toNat < y.toNat
        · simp [a2, a3] at h2
        · simp [show x.toNat < z.toNat by omega]
    · by_cases b1 : y.toNat < x.toNat
      · simp [a1, b1] at h1
      · simp only [a1, b1, if_false] at h1
        by_cases a2 : y.toNat < z.toNat
        · simp [show x.toNat < z.toNat by omega]
        · by_cases a3 : z.toNat < y.toNat
          · simp [a2, a3] at h2
          · simp only [a2, a3, if_false] at h2
            simp only [show ¬ x.toNat < z.toNat by omega, show ¬ z.toNat < x.toNat by omega, if_false]
            exact ih h1 h2
theorem ek_neg (a b : ByteArray) : cmpK b a = - cmpK a b := kb_neg _ _
theorem ek_eq {a b : ByteArray} (h : cmpK a b = 0) : a = b := by
  have := kb_eq _ _ h
  have h2 : a.data = b.data := by rw [← Array.toList_inj]; exact this
  cases a; cases b; simp at h2; rw [h2]
theorem ek_self (a : ByteArray) : cmpK a a = 0 := kb_self _
/-- Less, said by the parts. -/
def Lss (x y : Ev) : Prop := cmpK x.key y.key < 0 ∨ (x.key = y.key ∧ (x.time < y.time ∨ (x.time = y.time ∧ x.off < y.off)))
theorem lss_iff (x y : Ev) : evCmp x y < 0 ↔ Lss x y := by
  unfold evCmp or3 Lss
  by_cases h1 : cmpK x.key y.key = 0
  · have hk := ek_eq h1
    have hs := ek_self y.key
    rw [if_neg (by omega)]
    unfold cmpI
    by_cases h2 : x.time < y.time
    · simp [h1, hk, hs, h2]
    · by_cases h3 : y.time < x.time
      · simp [h1, hk, hs, h2, h3]; omega
      · have ht : x.time = y.time := by omega
        simp [h1, hk, hs, ht]
        by_cases h4 : x.off < y.off
        · simp [h4]
        · by_cases h5 : y.off < x.off <;> simp [h4, h5]
  · rw [if_pos h1]
    constructor
    · intro h; exact .inl h
    · rintro (h | ⟨h, -⟩)
      · exact h
      · rw [h, ek_self] at h1; exact absurd rfl h1
theorem lt_iff (x y : Ev) : ltOf evCmp x y = true ↔ Lss x y := by unfold ltOf; rw [decide_eq_true_eq, lss_iff]
theorem lt_no (x y : Ev) : ltOf evCmp x y = false ↔ ¬ Lss x y := by rw [← lt_iff]; simp
theorem wkE : Wk (ltOf evCmp) := by
  refine ⟨fun x y z h1 h2 => ?_, fun x y h => ?_, fun x y z h1 h2 => ?_⟩
  · rw [lt_iff] at *
    rcases h1 with h1 | ⟨e1, h1⟩ <;> rcases h2 with h2 | ⟨e2, h2⟩
    · exact .inl (kb_trans _ _ _ h1 h2)
    · exact .inl (by rw [← e2]; exact h1)
    · exact .inl (by rw [e1]; exact h2)
    · exact .inr ⟨e1.trans e2, by omega⟩
  · rw [lt_iff] at h; rw [lt_no]
    rintro h2
    rcases h with h | ⟨e, h⟩ <;> rcases h2 with h2 | ⟨e2, h2⟩
    · rw [ek_neg] at h2; omega
    · rw [e2, ek_self] at h; omega
    · rw [e, ek_self] at h2; omega
    · omega
  · rw [lt_no] at *
    rintro h
    have key : ∀ a b : Ev, ¬ Lss a b → cmpK b.key a.key < 0 ∨ (a.key = b.key ∧ (b.time < a.time ∨ (b.time = a.time ∧ b.off ≤ a.off))) := fun a b hn => by
      unfold Lss at hn
      by_cases hk : cmpK a.key b.key = 0
      · right; have := ek_eq hk; refine ⟨this, ?_⟩
        have h3 : ¬ (a.time < b.time ∨ (a.time = b.time ∧ a.off < b.off)) := fun h => hn (.inr ⟨this, h⟩)
        omega
      · left; rw [ek_neg]
        have h3 : ¬ cmpK a.key b.key < 0 := fun h => hn (.inl h)
        omega
    have k1 := key x y h1
    have k2 := key y z h2
    rcases k1 with k1 | ⟨e1, k1⟩ <;> rcases k2 with k2 | ⟨e2, k2⟩ <;> rcases h with h | ⟨e, h⟩
    · have h3 := kb_trans _ _ _ k2 k1; have h4 : cmpK x.key z.key < 0 := h; rw [ek_neg] at h4; have h5 : cmpK z.key x.key < 0 := h3; omega
    · have h3 : cmpK z.key x.key < 0 := kb_trans _ _ _ k2 k1; rw [e, ek_self] at h3; omega
    · rw [e2] at k1; rw [ek_neg] at h; omega
    · rw [e2, ← e, ek_self] at k1; omega
    · rw [← e1] at k2; rw [ek_neg] at h; omega
    · rw [← e1, e, ek_self] at k2; omega
    · rw [e1, e2, ek_self] at h; omega
    · omega
theorem ext_get! {l m : List Ev} (h : l.length = m.length) (hg : ∀ i, i < l.length → l[i]! = m[i]!) : l = m := by
  apply List.ext_getElem h
  intro i h1 h2
  have := hg i h1
  rwa [getElem!_pos l i h1, getElem!_pos m i h2] at this
theorem ta_get (l : List Ev) (i : Nat) : l.toArray[i]! = l[i]! := by simp
/-- Two are exchanged. -/
def lswp (l : List Ev) (i j : Nat) : List Ev := (swp l.toArray i j).toList
theorem lswp_arr (l : List Ev) (i j : Nat) : swp l.toArray i j = (lswp l i j).toArray := by unfold lswp; simp
theorem lswp_len (l : List Ev) (i j : Nat) : (lswp l i j).length = l.length := by unfold lswp; rw [Array.length_toList, swp_size]; simp
theorem lswp_get (l : List Ev) {i j : Nat} (hi : i < l.length) (hj : j < l.length) (k : Nat) : (lswp l i j)[k]! = if k = j then l[i]! else if k = i then l[j]! else l[k]! := by
  have h := swp_get l.toArray (i := i) (j := j) (by simpa using hi) (by simpa using hj) k
  rw [lswp_arr, ta_get, ta_get, ta_get, ta_get] at h; exact h
theorem get!_left (l m : List Ev) (i : Nat) (h : i < l.length) : (l ++ m)[i]! = l[i]! := by
  rw [getElem!_pos (l ++ m) i (by rw [List.length_append]; omega), getElem!_pos l i h, List.getElem_append_left h]
theorem get!_right (l m : List Ev) (i : Nat) (h1 : l.length ≤ i) (h2 : i < l.length + m.length) : (l ++ m)[i]! = m[i - l.length]! := by
  rw [getElem!_pos (l ++ m) i (by rw [List.length_append]; omega), getElem!_pos m (i - l.length) (by omega), List.getElem_append_right h1]
/-- Neighbours are exchanged. -/
theorem lswp_adj (P Q : List Ev) (x y : Ev) : lswp (P ++ x :: y :: Q) (P.length + 1) P.length = P ++ y :: x :: Q ∧ lswp (P ++ x :: y :: Q) P.length (P.length + 1) = P ++ y :: x :: Q := by
  have hl : (P ++ x :: y :: Q).length = P.length + 2 + Q.length := by simp; omega
  have hx : (P ++ x :: y :: Q)[P.length]! = x := by rw [get!_right _ _ _ (Nat.le_refl _) (by simp), Nat.sub_self]; rfl
  have hy : (P ++ x :: y :: Q)[P.length + 1]! = y := by rw [get!_right _ _ _ (by omega) (by simp), show P.length + 1 - P.length = 1 by omega]; rfl
  have goal : ∀ k, k < (P ++ x :: y :: Q).length → (P ++ y :: x :: Q)[k]! = if k = P.length then y else if k = P.length + 1 then x else (P ++ x :: y :: Q)[k]! := fun k hk => by
    rcases Nat.lt_trichotomy k P.length with h | h | h
    · rw [if_neg (by omega), if_neg (by omega), get!_left _ _ _ h, get!_left _ _ _ h]
    · subst h; rw [if_pos rfl, get!_right _ _ _ (Nat.le_refl _) (by simp), Nat.sub_self]; rfl
    · rw [if_neg (by omega), get!_right P (y :: x :: Q) _ (by omega) (by simp at hk ⊢; omega), get!_right P (x :: y :: Q) _ (by omega) (by simp at hk ⊢; omega)]
      rcases h2 : k - P.length with _ | _ | n
      · omega
      · rw [if_pos (by omega)]; rfl
      · rw [if_neg (by omega)]; rfl
  constructor
  · refine ext_get! (by rw [lswp_len]; simp) fun k hk => ?_
    rw [lswp_len] at hk
    rw [lswp_get _ (by omega) (by omega), hx, hy, goal k hk]
  · refine ext_get! (by rw [lswp_len]; simp) fun k hk => ?_
    rw [lswp_len] at hk
    rw [lswp_get _ (by omega) (by omega), hx, hy, goal k hk]
    by_cases h1 : k = P.length
    · rw [if_neg (by omega), if_pos h1, if_pos h1]
    · rw [if_neg h1, if_neg h1]
/-- The library's sort by insertions, as lists. -/
theorem inner_list (P : List Ev) (x : Ev) : ∀ (n : Nat) (s Q : List Ev), s.length = n → insInner (ltOf evCmp) P.length (P.length + n) (P ++ (s ++ x :: Q)).toArray = (P ++ (insB (ltOf evCmp) x s ++ Q)).toArray := by
  intro n
  induction n with
  | zero =>
    intro s Q hs
    obtain rfl : s = [] := List.eq_nil_of_length_eq_zero hs
    rw [insInner_stop _ _ _ _ (.inl (by omega)), insB_nil]; rfl
  | succ n ih =>
    intro s Q hs
    rcases snoc_cases s with rfl | ⟨r, e, rfl⟩
    · simp at hs
    · have hr : r.length = n := by simpa using hs
      have e1 : P ++ (r ++ [e] ++ x :: Q) = (P ++ r) ++ e :: x :: Q := by simp
      have hj : (P ++ r).length = P.length + n := by simp [hr]
      have hx : ((P ++ r) ++ e :: x :: Q)[P.length + (n + 1)]! = x := by rw [get!_right _ _ _ (by omega) (by simp; omega), show P.length + (n + 1) - (P ++ r).length = 1 by omega]; rfl
      have he : ((P ++ r) ++ e :: x :: Q)[P.length + n]! = e := by rw [get!_right _ _ _ (by omega) (by simp; omega), show P.length + n - (P ++ r).length = 0 by omega]; rfl
      rw [e1, insB_snoc]
      by_cases h : ltOf evCmp x e = true
      · rw [if_pos h, insInner_go _ _ _ _ (by omega) (by rw [ta_get, ta_get, hx, show P.length + (n + 1) - 1 = P.length + n by omega, he]; exact h), show P.length + (n + 1) - 1 = P.length + n by omega, lswp_arr]
        have h2 := (lswp_adj (P ++ r) Q e x).1
        rw [hj] at h2
        rw [show P.length + (n + 1) = P.length + n + 1 by omega, h2, show P ++ r ++ x :: e :: Q = P ++ (r ++ x :: (e :: Q)) by simp, ih r (e :: Q) hr]
        simp
      · rw [if_neg h, insInner_stop _ _ _ _ (.inr (by rw [ta_get, ta_get, hx, show P.length + (n + 1) - 1 = P.length + n by omega, he]; simpa using h))]
        try simp
theorem outer_list (P Q : List Ev) : ∀ (n : Nat) (s t : List Ev), t.length = n → insOuter (ltOf evCmp) P.length (P.length + s.length + n) (P.length + s.length) (P ++ (s ++ (t ++ Q))).toArray = (P ++ (smerge (ltOf evCmp) s t ++ Q)).toArray := by
  intro n
  induction n with
  | zero =>
    intro s t ht
    obtain rfl : t = [] := List.eq_nil_of_length_eq_zero ht
    rw [insOuter_stop _ _ _ _ _ (by omega)]; rfl
  | succ n ih =>
    intro s t ht
    rcases t with _ | ⟨x, r⟩
    · simp at ht
    · have hr : r.length = n := by simpa using ht
      rw [insOuter_go _ _ _ _ _ (by omega), show s ++ (x :: r ++ Q) = s ++ x :: (r ++ Q) by simp, inner_list P x s.length s (r ++ Q) rfl, sm_cons, ← ih (insB (ltOf evCmp) x s) r hr, insB_len]
      rw [show P.length + s.length + (n + 1) = P.length + (s.length + 1) + n by omega, show P.length + s.length + 1 = P.length + (s.length + 1) by omega]
theorem ins_srt (l : List Ev) (a b : Nat) (hab : a ≤ b) (hb : b ≤ l.length) : insertionSort (ltOf evCmp) l.toArray a b = (srt (ltOf evCmp) l a b).toArray := by
  have hP : (l.take a).length = a := by rw [List.length_take]; omega
  have hc := cut3 l a b hab
  have hsl := seg_len l a b hb
  unfold srt isort insertionSort
  conv => lhs; rw [hc]
  rcases hs : seg l a b with _ | ⟨x, r⟩
  · rw [hs] at hsl; simp at hsl
    rw [insOuter_stop _ _ _ _ _ (by omega)]; rfl
  · rw [hs] at hsl
    have h := outer_list (l.take a) (l.drop b) r.length [x] r rfl
    rw [hP] at h
    rw [show a + [x].length + r.length = b by simp at hsl ⊢; omega] at h
    rw [sm_cons, insB_nil]
    exact h
end Go.Proofs.Ytkhldnihboklaaa
