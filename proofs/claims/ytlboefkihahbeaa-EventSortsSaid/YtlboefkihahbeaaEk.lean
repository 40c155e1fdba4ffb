/-
  Layer event: what symMerge leaves, as lists: plain facts.
-/
import Derived.Test.YtlboefkihahbeaaEj
set_option linter.unusedSimpArgs false
set_option linter.unusedVariables false
namespace Go.Proofs.Ytlboefkihahbeaa
open Go.RowKit Go.Sort

theorem take_seg {α : Type} (l : List α) (a b : Nat) (h : a ≤ b) : l.take b = l.take a ++ seg l a b := by
  unfold seg; rw [show b = a + (b - a) by omega, List.take_add, show a + (b - a) - a = b - a by omega]
theorem drop_seg {α : Type} (l : List α) (a b : Nat) (h : a ≤ b) : l.drop a = seg l a b ++ l.drop b := by
  unfold seg
  have e : l.drop a = (l.drop a).take (b - a) ++ (l.drop a).drop (b - a) := (List.take_append_drop _ _).symm
  rw [List.drop_drop, show a + (b - a) = b by omega] at e
  exact e
theorem seg_one (l : List Ev) (a : Nat) (h : a < l.length) : seg l a (a + 1) = [l[a]!] := by
  unfold seg; rw [show a + 1 - a = 1 by omega, getElem!_pos l a h, List.drop_eq_getElem_cons h]; rfl
section
variable {lt : Ev → Ev → Bool}
def shape1 (l : List Ev) (a b c : Nat) : List Ev := l.take a ++ ((seg l (a + 1) b).take c ++ l[a]! :: ((seg l (a + 1) b).drop c ++ l.drop b))
def shape2 (l : List Ev) (a m c : Nat) : List Ev := l.take a ++ ((seg l a m).take c ++ l[m]! :: ((seg l a m).drop c ++ l.drop (m + 1)))
theorem shape1_zero (l : List Ev) (a b : Nat) (h : a < b) (hb : b ≤ l.length) : shape1 l a b 0 = l := by
  unfold shape1
  rw [List.take_zero, List.nil_append, List.drop_zero, ← drop_seg l (a + 1) b (by omega)]
  conv => rhs; rw [← List.take_append_drop a l, List.drop_eq_getElem_cons (show a < l.length by omega)]
  rw [getElem!_pos l a (by omega)]
theorem shape1_len (l : List Ev) (a b c : Nat) (h : a < b) (hb : b ≤ l.length) : (shape1 l a b c).length = l.length := by
  unfold shape1
  have h1 := seg_len l (a + 1) b hb
  simp only [List.length_append, List.length_cons, List.length_take, List.length_drop, h1]; omega
theorem shape1_step (l : List Ev) (a b c : Nat) (h : a < b) (hb : b ≤ l.length) (hc : a + 1 + c < b) : lswp (shape1 l a b c) (a + c) (a + c + 1) = shape1 l a b (c + 1) := by
  have h1 := seg_len l (a + 1) b hb
  have hP : (l.take a ++ (seg l (a + 1) b).take c).length = a + c := by simp only [List.length_append, List.length_take, h1]; omega
  obtain ⟨y, r, hy⟩ : ∃ y r, (seg l (a + 1) b).drop c = y :: r := ⟨_, _, List.drop_eq_getElem_cons (by rw [h1]; omega)⟩
  have e1 : shape1 l a b c = (l.take a ++ (seg l (a + 1) b).take c) ++ l[a]! :: y :: (r ++ l.drop b) := by unfold shape1; rw [hy]; simp
  have e2 : (seg l (a + 1) b).take (c + 1) = (seg l (a + 1) b).take c ++ [y] := by
    rw [List.take_add, hy]; rfl
  have e3 : (seg l (a + 1) b).drop (c + 1) = r := by rw [← List.drop_drop, hy]; rfl
  have h2 := (lswp_adj (l.take a ++ (seg l (a + 1) b).take c) (r ++ l.drop b) l[a]! y).2
  rw [hP] at h2
  rw [e1, h2]; unfold shape1; rw [e2, e3]; simp
theorem shape2_full (l : List Ev) (a m : Nat) (h : a ≤ m) (hb : m < l.length) : shape2 l a m (m - a) = l := by
  unfold shape2
  have h1 := seg_len l a m (by omega)
  rw [List.take_of_length_le (show (seg l a m).length ≤ m - a by omega), List.drop_of_length_le (show (seg l a m).length ≤ m - a by omega), List.nil_append, ← List.append_assoc, ← take_seg l a m h]
  conv => rhs; rw [← List.take_append_drop m l, List.drop_eq_getElem_cons hb]
  rw [getElem!_pos l m hb]
theorem shape2_len (l : List Ev) (a m c : Nat) (h : a ≤ m) (hb : m < l.length) : (shape2 l a m c).length = l.length := by
  unfold shape2
  have h1 := seg_len l a m (by omega)
  simp only [List.length_append, List.length_cons, List.length_take, List.length_drop, h1]; omega
theorem shape2_step (l : List Ev) (a m c : Nat) (hb : m < l.length) (hc : a + c < m) : lswp (shape2 l a m (c + 1)) (a + c + 1) (a + c) = shape2 l a m c := by
  have h1 := seg_len l a m (by omega)
  have hP : (l.take a ++ (seg l a m).take c).length = a + c := by simp only [List.length_append, List.length_take, h1]; omega
  obtain ⟨y, r, hy⟩ : ∃ y r, (seg l a m).drop c = y :: r := ⟨_, _, List.drop_eq_getElem_cons (by rw [h1]; omega)⟩
  have e2 : (seg l a m).take (c + 1) = (seg l a m).take c ++ [y] := by rw [List.take_add, hy]; rfl
  have e3 : (seg l a m).drop (c + 1) = r := by rw [← List.drop_drop, hy]; rfl
  have e1 : shape2 l a m (c + 1) = (l.take a ++ (seg l a m).take c) ++ y :: l[m]! :: (r ++ l.drop (m + 1)) := by unfold shape2; rw [e2, e3]; simp
  have h2 := (lswp_adj (l.take a ++ (seg l a m).take c) (r ++ l.drop (m + 1)) y l[m]!).1
  rw [hP] at h2
  rw [e1, h2]; unfold shape2; rw [hy]; simp
theorem mem_take_seg (l : List Ev) (a b c : Nat) (hb : b ≤ l.length) (x : Ev) (hx : x ∈ (seg l a b).take c) : ∃ i, a ≤ i ∧ i < a + c ∧ i < b ∧ l[i]! = x := by
  have e : (seg l a b).take c = seg l a (if a + c ≤ b then a + c else b) := by
    unfold seg; rw [List.take_take]; congr 1; split <;> simp only [Nat.min_def] <;> split <;> omega
  rw [e] at hx
  obtain ⟨i, h1, h2, h3⟩ := seg_mem l a _ (by split <;> omega) x hx
  refine ⟨i, h1, ?_, ?_, h3⟩ <;> (split at h2 <;> omega)
theorem mem_drop_seg (l : List Ev) (a b c : Nat) (hb : b ≤ l.length) (x : Ev) (hx : x ∈ (seg l a b).drop c) : ∃ i, a + c ≤ i ∧ i < b ∧ l[i]! = x := by
  have e : (seg l a b).drop c = seg l (a + c) b := by
    unfold seg; rw [List.drop_take, List.drop_drop]; congr 1; omega
  rw [e] at hx
  exact seg_mem l _ b hb x hx
theorem ord_take {l : List Ev} (h : Ordered lt l) (c : Nat) : Ordered lt (l.take c) := List.Pairwise.sublist (List.take_sublist c l) h
theorem ord_drop {l : List Ev} (h : Ordered lt l) (c : Nat) : Ordered lt (l.drop c) := List.Pairwise.sublist (List.drop_sublist c l) h
theorem mrg_one (l : List Ev) (a b c : Nat) (h : a < b) (hb : b ≤ l.length) (ho : Ordered lt (seg l (a + 1) b)) (h1 : ∀ k, a + 1 ≤ k → k < a + 1 + c → k < b → lt l[k]! l[a]! = true) (h2 : ∀ k, a + 1 + c ≤ k → k < b → lt l[k]! l[a]! = false) : mrg lt l a (a + 1) b = shape1 l a b c := by
  unfold mrg shape1
  rw [seg_one l a (by omega)]
  conv => lhs; rw [← List.take_append_drop c (seg l (a + 1) b)]
  have hs := sm_split (lt := lt) [] [l[a]!] ((seg l (a + 1) b).take c) ((seg l (a + 1) b).drop c)
    (fun y hy x hx => by rw [List.mem_singleton.1 hx]; obtain ⟨k, k1, k2, k3, rfl⟩ := mem_take_seg l _ _ _ hb y hy; exact h1 k k1 k2 k3) (fun y hy x hx => by simp at hx)
    (fun y hy x hx => by
      obtain ⟨k, k1, k3, rfl⟩ := mem_drop_seg l _ _ _ hb y hy
      obtain ⟨j, j1, j2, j3, rfl⟩ := mem_take_seg l _ _ _ hb x hx
      exact ordered_seg ho hb j k j1 (by omega) k3)
  rw [List.nil_append] at hs
  rw [hs, sm_nil _ (ord_take ho c), show [l[a]!] = [l[a]!] ++ [] from rfl, sm_right [l[a]!] [] _ (fun y hy x hx => by rw [List.mem_singleton.1 hx]; obtain ⟨k, k1, k3, rfl⟩ := mem_drop_seg l _ _ _ hb y hy; exact h2 k k1 k3), sm_nil _ (ord_drop ho c)]
  simp
theorem mrg_last (l : List Ev) (a m c : Nat) (h : a ≤ m) (hb : m < l.length) (h1 : ∀ k, a ≤ k → k < a + c → k < m → lt l[m]! l[k]! = false) (h2 : ∀ k, a + c ≤ k → k < m → lt l[m]! l[k]! = true) : mrg lt l a m (m + 1) = shape2 l a m c := by
  unfold mrg shape2
  rw [seg_one l m hb, show smerge lt (seg l a m) [l[m]!] = insB lt l[m]! (seg l a m) from rfl]
  conv => lhs; rw [← List.take_append_drop c (seg l a m)]
  rw [insB_right _ _ _ (fun x hx => by obtain ⟨k, k1, k2, k3, rfl⟩ := mem_take_seg l _ _ _ (by omega) x hx; exact h1 k k1 k2 k3)]
  have h3 := insB_left (lt := lt) l[m]! [] ((seg l a m).drop c) (fun x hx => by obtain ⟨k, k1, k3, rfl⟩ := mem_drop_seg l _ _ _ (by omega) x hx; exact h2 k k1 k3)
  rw [List.nil_append, insB_nil] at h3
  rw [h3]; simp
/-- What rotate leaves, as a list. -/
def rotd (l : List Ev) (lo m hi : Nat) : List Ev := l.take lo ++ (seg l m hi ++ (seg l lo m ++ l.drop hi))
theorem rot_list (l : List Ev) (lo m hi : Nat) (h1 : lo ≤ m) (h2 : m ≤ hi) (h3 : hi ≤ l.length) : Rot l lo m hi (rotd l lo m hi) := by
  have e1 := seg_len l m hi h3
  have e2 := seg_len l lo m (by omega)
  have e0 : (l.take lo).length = lo := by rw [List.length_take]; omega
  have e3 : (l.drop hi).length = l.length - hi := List.length_drop ..
  refine ⟨by unfold rotd; simp only [List.length_append, e0, e1, e2, e3]; omega, fun k hk => ?_⟩
  unfold rotd rotAt
  rcases Nat.lt_or_ge k lo with c1 | c1
  · rw [if_pos (.inl c1), get!_left _ _ _ (by omega), getElem!_pos (l.take lo) k (by omega), getElem!_pos l k hk, List.getElem_take]
  · rw [get!_right _ _ _ (by omega) (by simp only [List.length_append, e0, e1, e2, e3]; omega), e0]
    rcases Nat.lt_or_ge k (lo + (hi - m)) with c2 | c2
    · rw [if_neg (by omega), if_pos c2, get!_left _ _ _ (by omega), seg_get _ _ _ _ h3 (by omega)]
    · rw [get!_right _ _ _ (by omega) (by simp only [List.length_append, e1, e2, e3]; omega), e1]
      rcases Nat.lt_or_ge k hi with c3 | c3
      · rw [if_neg (by omega), if_neg (by omega), get!_left _ _ _ (by omega), seg_get _ _ _ _ (by omega) (by omega), show k - lo - (hi - m) = k - (lo + (hi - m)) by omega]
      · rw [if_pos (.inr c3), get!_right _ _ _ (by omega) (by simp only [e2, e3]; omega), e2, getElem!_pos (l.drop hi) _ (by omega), getElem!_pos l k hk, List.getElem_drop]
        congr 1; omega
theorem rotd_len (l : List Ev) (lo m hi : Nat) (h1 : lo ≤ m) (h2 : m ≤ hi) (h3 : hi ≤ l.length) : (rotd l lo m hi).length = l.length := (rot_list l lo m hi h1 h2 h3).1
theorem rotd_id (l : List Ev) (lo m hi : Nat) (h1 : lo ≤ m) (h2 : m ≤ hi) (h : lo = m ∨ m = hi) : rotd l lo m hi = l := by
  unfold rotd
  rcases h with rfl | rfl
  · rw [show seg l lo lo = [] by unfold seg; rw [Nat.sub_self, List.take_zero], List.nil_append, ← drop_seg l lo hi h2, List.take_append_drop]
  · rw [show seg l m m = [] by unfold seg; rw [Nat.sub_self, List.take_zero], List.nil_append, ← drop_seg l lo m h1, List.take_append_drop]
/-- The pieces of what rotate leaves. -/
theorem rotd_pieces (l : List Ev) (a s m e b md : Nat) (h1 : a ≤ s) (h2 : s ≤ m) (h3 : m ≤ e) (h4 : e ≤ b) (hb : b ≤ l.length) (hmd : s + (e - m) = md) :
    rotd l s m e = l.take a ++ (seg l a s ++ (seg l m e ++ (seg l s m ++ (seg l e b ++ l.drop b)))) := by
  unfold rotd; rw [take_seg l a s h1, drop_seg l e b h4]; simp
theorem sym_gen (l : List Ev) (a s m e b md : Nat) (h1 : a ≤ s) (h2 : s ≤ m) (h3 : m ≤ e) (h4 : e ≤ b) (hb : b ≤ l.length) (hmd : s + (e - m) = md) (hC : Ordered lt (seg l m b))
    (c1 : ∀ i k, a ≤ i → i < s → e ≤ k → k < b → lt l[k]! l[i]! = false) (c2 : ∀ i k, s ≤ i → i < m → m ≤ k → k < e → lt l[k]! l[i]! = true) :
    seg (rotd l s m e) a s = seg l a s ∧ seg (rotd l s m e) s md = seg l m e ∧ seg (mrg lt (rotd l s m e) a s md) md e = seg l s m ∧ seg (mrg lt (rotd l s m e) a s md) e b = seg l e b ∧
    (mrg lt (rotd l s m e) a s md).length = l.length ∧ mrg lt (mrg lt (rotd l s m e) a s md) md e b = mrg lt l a m b := by
  have g1 := seg_len l a s (by omega)
  have g2 := seg_len l m e (by omega)
  have g3 := seg_len l s m (by omega)
  have g4 := seg_len l e b hb
  have g0 : (l.take a).length = a := by rw [List.length_take]; omega
  have hp := rotd_pieces l a s m e b md h1 h2 h3 h4 hb hmd
  generalize hL1 : seg l a s = L1 at *
  generalize hR1 : seg l m e = R1 at *
  generalize hL2 : seg l s m = L2 at *
  generalize hR2 : seg l e b = R2 at *
  generalize hP : l.take a = P at *
  generalize hQ : l.drop b = Q at *
  have s1 : seg (rotd l s m e) a s = L1 := by rw [hp]; exact seg_of _ _ _ _ _ g0 (by omega)
  have s2 : seg (rotd l s m e) s md = R1 := by rw [hp, ← List.append_assoc]; exact seg_of _ _ _ _ _ (by rw [List.length_append]; omega) (by rw [List.length_append]; omega)
  have m1 : mrg lt (rotd l s m e) a s md = P ++ (smerge lt L1 R1 ++ (L2 ++ (R2 ++ Q))) := by
    have d1 : (rotd l s m e).take a = P := by rw [hp]; exact take_of _ _ _ g0
    have d2 : (rotd l s m e).drop md = L2 ++ (R2 ++ Q) := by rw [hp, ← List.append_assoc]; exact drop_of _ _ _ _ (by rw [List.length_append]; omega)
    unfold mrg; rw [s1, s2, d1, d2]
  have gm := sm_len (lt := lt) L1 R1
  have hmrg : (P ++ (smerge lt L1 R1 ++ (L2 ++ (R2 ++ Q)))).length = l.length := by
    have hq : Q.length = l.length - b := by rw [← hQ, List.length_drop]
    simp only [List.length_append, gm]; omega
  have s3 : seg (P ++ (smerge lt L1 R1 ++ (L2 ++ (R2 ++ Q)))) md e = L2 := by rw [← List.append_assoc]; exact seg_of _ _ _ _ _ (by rw [List.length_append]; omega) (by rw [List.length_append]; omega)
  have s4 : seg (P ++ (smerge lt L1 R1 ++ (L2 ++ (R2 ++ Q)))) e b = R2 := by rw [← List.append_assoc, ← List.append_assoc]; exact seg_of _ _ _ _ _ (by rw [List.length_append, List.length_append]; omega) (by rw [List.length_append, List.length_append]; omega)
  refine ⟨s1, s2, by rw [m1]; exact s3, by rw [m1]; exact s4, by rw [m1]; exact hmrg, ?_⟩
  rw [m1]
  have d1 : (P ++ (smerge lt L1 R1 ++ (L2 ++ (R2 ++ Q)))).take md = P ++ smerge lt L1 R1 := by rw [← List.append_assoc]; exact take_of _ _ _ (by rw [List.length_append]; omega)
  have d2 : (P ++ (smerge lt L1 R1 ++ (L2 ++ (R2 ++ Q)))).drop b = Q := by rw [← List.append_assoc, ← List.append_assoc, ← List.append_assoc]; exact List.drop_left' (by simp only [List.length_append]; omega)
  have hsp := sm_split (lt := lt) L1 L2 R1 R2
    (fun y hy x hx => by rw [← hR1] at hy; rw [← hL2] at hx; obtain ⟨k, k1, k2, rfl⟩ := seg_mem l _ _ (by omega) y hy; obtain ⟨i, i1, i2, rfl⟩ := seg_mem l _ _ (by omega) x hx; exact c2 i k i1 i2 k1 k2)
    (fun y hy x hx => by rw [← hR2] at hy; rw [← hL1] at hx; obtain ⟨k, k1, k2, rfl⟩ := seg_mem l _ _ hb y hy; obtain ⟨i, i1, i2, rfl⟩ := seg_mem l _ _ (by omega) x hx; exact c1 i k i1 i2 k1 k2)
    (fun y hy x hx => by rw [← hR2] at hy; rw [← hR1] at hx; obtain ⟨k, k1, k2, rfl⟩ := seg_mem l _ _ hb y hy; obtain ⟨i, i1, i2, rfl⟩ := seg_mem l _ _ (by omega) x hx; exact ordered_seg hC hb i k i1 (by omega) k2)
  have j1 := seg_join l a s m h1 h2
  have j2 := seg_join l m e b h3 h4
  rw [hL1, hL2] at j1
  rw [hR1, hR2] at j2
  unfold mrg
  rw [s3, s4, d1, d2, hP, hQ, ← j1, ← j2, hsp]
  simp
theorem mrg_id (l : List Ev) (a m b : Nat) (h1 : a ≤ m) (h2 : m ≤ b) (hb : b ≤ l.length) (h : a = m ∨ m = b) (ho : Ordered lt (seg l m b)) : mrg lt l a m b = l := by
  unfold mrg
  rcases h with rfl | rfl
  · rw [show seg l a a = [] by unfold seg; rw [Nat.sub_self, List.take_zero], sm_nil _ ho, ← drop_seg l a b h2, List.take_append_drop]
  · rw [show seg l m m = [] by unfold seg; rw [Nat.sub_self, List.take_zero], sm_nil_r, ← drop_seg l a m h1, List.take_append_drop]
end
end Go.Proofs.Ytlboefkihahbeaa
