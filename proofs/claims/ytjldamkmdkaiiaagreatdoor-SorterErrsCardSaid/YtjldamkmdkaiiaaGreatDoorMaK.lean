/-
  Layer merge: a tree of losers, as plain facts.
-/
import Derived.Test.YtjldamkmdkaiiaaGreatDoorEiK
set_option linter.unusedSimpArgs false
set_option linter.unusedVariables false
namespace Go.Proofs.YtjldamkmdkaiiaaGreatDoor
open Go.RowKit Go.Sort
section
variable {α : Type} (lt : α → α → Bool)
def ahd (x y : List α) (lo : Bool) : Bool := match x, y with
 | [], _ => false
 | _ :: _, [] => true
 | a :: _, b :: _ => lt a b || (lo && !lt b a)
def ah (R : Nat → List α) (a b : Nat) : Bool := ahd lt (R a) (R b) (decide (a < b))
variable {lt}
theorem Wk.irr (W : Wk lt) (x : α) : lt x x = false := by
 rcases h : lt x x with _ | _
 ·rfl
 ·have := W.asy x x h; rw [h] at this; exact this
theorem ah_irr (W : Wk lt) (R : Nat → List α) (a : Nat) : ah lt R a a = false := by
 unfold ah
 rcases R a with _ | ⟨x, r⟩
 ·rfl
 ·show (lt x x || (decide (a < a) && !lt x x)) = false
  rw [W.irr]; simp
theorem ah_asy (W : Wk lt) (R : Nat → List α) {a b : Nat} (h : ah lt R a b = true) : ah lt R b a = false := by
 unfold ah at h ⊢
 rcases ha : R a with _ | ⟨x, r⟩
 ·rw [ha] at h; cases h
 ·rcases hb : R b with _ | ⟨y, s⟩
  ·rfl
  ·rw [ha, hb] at h
   have h : (lt x y || (decide (a < b) && !lt y x)) = true := h
   show (lt y x || (decide (b < a) && !lt x y)) = false
   rcases hxy : lt x y with _ | _
   ·rw [hxy] at h
    simp at h
    rw [h.2]; simp; omega
   ·rw [W.asy _ _ hxy]; simp
theorem ah_nt (W : Wk lt) (R : Nat → List α) {a b c : Nat} (h : ah lt R a b = false) (k : ah lt R b c = false) : ah lt R a c = false := by
 unfold ah at h k ⊢
 rcases ha : R a with _ | ⟨x, r⟩
 ·rfl
 ·rcases hb : R b with _ | ⟨y, s⟩
  ·rw [ha, hb] at h; cases h
  ·rcases hc : R c with _ | ⟨z, t⟩
   ·rw [hb, hc] at k; cases k
   ·rw [ha, hb] at h
    rw [hb, hc] at k
    have h : (lt x y || (decide (a < b) && !lt y x)) = false := h
    have k : (lt y z || (decide (b < c) && !lt z y)) = false := k
    show (lt x z || (decide (a < c) && !lt z x)) = false
    simp only [Bool.or_eq_false_iff] at h k ⊢
    refine ⟨W.nt _ _ _ h.1 k.1, ?_⟩
    by_cases hac : a < c
    ·have : lt z x = true := by
      by_cases hab : a < b
      ·have h2 := h.2
       rw [decide_eq_true hab] at h2
       exact W.mix2 k.1 (by simpa using h2)
      ·have k2 := k.2
       rw [decide_eq_true (show b < c by omega)] at k2
       exact W.mix (by simpa using k2) h.1
     rw [this]; simp
    ·rw [decide_eq_false hac]; rfl
theorem ah_nil {R : Nat → List α} {a b : Nat} (h : ah lt R a b = false) (hb : R b = []) : R a = [] := by
 unfold ah at h
 rw [hb] at h
 rcases ha : R a with _ | ⟨x, r⟩
 ·rfl
 ·rw [ha] at h; cases h
theorem ah_cons {R : Nat → List α} {a b : Nat} {x y : α} {r s : List α} (h : ah lt R a b = false) (ha : R a = x :: r) (hb : R b = y :: s) : lt x y = false ∧ (a < b → lt y x = true) := by
 unfold ah at h
 rw [ha, hb] at h
 have h : (lt x y || (decide (a < b) && !lt y x)) = false := h
 simp only [Bool.or_eq_false_iff] at h
 refine ⟨h.1, fun hab => ?_⟩
 have h2 := h.2
 rw [decide_eq_true hab] at h2
 simpa using h2
variable (lt)
structure Reg (R : Nat → List α) (L V : Nat → Nat) (m : Nat) : Prop where
 who : (V m = V (2 * m) ∧ L m = V (2 * m + 1)) ∨ (V m = V (2 * m + 1) ∧ L m = V (2 * m))
 best : ah lt R (L m) (V m) = false
structure Tour (R : Nat → List α) (n : Nat) (L V : Nat → Nat) : Prop where
 leaf : ∀ m, n ≤ m → m < 2 * n → V m = m - n
 node : ∀ m, 0 < m → m < n → Reg lt R L V m
variable {lt} {R : Nat → List α} {n : Nat} {L V : Nat → Nat}
theorem Tour.less (T : Tour lt R n L V) : ∀ d m, 2 * n - m ≤ d → 0 < m → m < 2 * n → V m < n := by
 intro d
 induction d with
 | zero => intro m h1 h2 h3; omega
 | succ d ih =>
  intro m h1 h2 h3
  by_cases hm : n ≤ m
  ·rw [T.leaf m hm h3]; omega
  ·rcases (T.node m h2 (by omega)).who with h | h
   ·rw [h.1]; exact ih _ (by omega) (by omega) (by omega)
   ·rw [h.1]; exact ih _ (by omega) (by omega) (by omega)
theorem Tour.lt' (T : Tour lt R n L V) {m : Nat} (h : 0 < m) (h2 : m < 2 * n) : V m < n := T.less _ m (Nat.le_refl _) h h2
theorem Tour.lst (T : Tour lt R n L V) {m : Nat} (h : 0 < m) (h2 : m < n) : L m < n := by
 rcases (T.node m h h2).who with h3 | h3
 ·rw [h3.2]; exact T.lt' (by omega) (by omega)
 ·rw [h3.2]; exact T.lt' (by omega) (by omega)
theorem half_pow (x k : Nat) : x / 2 ^ (k + 1) = x / 2 ^ k / 2 := by rw [Nat.pow_succ, Nat.div_div_eq_div_mul]
theorem Tour.below (T : Tour lt R n L V) : ∀ d m i, 2 * n - m ≤ d → 0 < m → m < 2 * n → V m = i → ∃ k, (n + i) / 2 ^ k = m := by
 intro d
 induction d with
 | zero => intro m i h1 h2 h3; omega
 | succ d ih =>
  intro m i h1 h2 h3 hV
  by_cases hm : n ≤ m
  ·rw [T.leaf m hm h3] at hV; exact ⟨0, by simp; omega⟩
  ·rcases (T.node m h2 (by omega)).who with h | h
   ·obtain ⟨k, hk⟩ := ih (2 * m) i (by omega) (by omega) (by omega) (by rw [← h.1]; exact hV)
    exact ⟨k + 1, by rw [half_pow, hk]; omega⟩
   ·obtain ⟨k, hk⟩ := ih (2 * m + 1) i (by omega) (by omega) (by omega) (by rw [← h.1]; exact hV)
    exact ⟨k + 1, by rw [half_pow, hk]; omega⟩
theorem Tour.below' (T : Tour lt R n L V) {m i : Nat} (h2 : 0 < m) (h3 : m < 2 * n) (hV : V m = i) : ∃ k, (n + i) / 2 ^ k = m := T.below _ m i (Nat.le_refl _) h2 h3 hV
theorem to_one : ∀ d x, x ≤ d → 0 < x → ∃ k, x / 2 ^ k = 1 := by
 intro d
 induction d with
 | zero => intro x h1 h2; omega
 | succ d ih =>
  intro x h1 h2
  by_cases h : x = 1
  ·exact ⟨0, by simp [h]⟩
  ·obtain ⟨k, hk⟩ := ih (x / 2) (by omega) (by omega)
   exact ⟨k + 1, by rw [Nat.pow_succ, Nat.mul_comm, ← Nat.div_div_eq_div_mul]; exact hk⟩
theorem pow_up (x k : Nat) : x / 2 ^ k ≤ x := Nat.div_le_self _ _
theorem Tour.best (W : Wk lt) (T : Tour lt R n L V) (i : Nat) (hi : i < n) : ∀ k, 0 < (n + i) / 2 ^ k → ah lt R i (V ((n + i) / 2 ^ k)) = false := by
 intro k
 induction k with
 | zero => intro _; rw [Nat.pow_zero, Nat.div_one, T.leaf _ (by omega) (by omega), show n + i - n = i by omega]; exact ah_irr W R i
 | succ k ih =>
  intro h
  rw [half_pow] at h ⊢
  obtain ⟨c, hc⟩ : ∃ c, c = (n + i) / 2 ^ k := ⟨_, rfl⟩
  rw [← hc] at ih h ⊢
  have hcn : c < 2 * n := by have := pow_up (n + i) k; omega
  have h1 := ih (by omega)
  have hr := T.node (c / 2) h (by omega)
  rcases (show c = 2 * (c / 2) ∨ c = 2 * (c / 2) + 1 by omega) with e | e
  ·rcases hr.who with h2 | h2
   ·rw [h2.1, ← e]; exact h1
   ·have h3 := hr.best
    rw [h2.2, ← e] at h3
    exact ah_nt W R h1 h3
  ·rcases hr.who with h2 | h2
   ·have h3 := hr.best
    rw [h2.2, ← e] at h3
    exact ah_nt W R h1 h3
   ·rw [h2.1, ← e]; exact h1
theorem Tour.win (W : Wk lt) (T : Tour lt R n L V) (i : Nat) (hi : i < n) : ah lt R i (V 1) = false := by
 obtain ⟨k, hk⟩ := to_one (n + i) (n + i) (Nat.le_refl _) (by omega)
 have := T.best W i hi k (by omega)
 rw [hk] at this; exact this
def sib (x : Nat) : Nat := if x % 2 = 0 then x + 1 else x - 1
theorem same_level {x c c' k k' : Nat} (h : x / 2 ^ k = c) (h' : x / 2 ^ k' = c') (hc : 2 ≤ c) (hc' : 2 ≤ c') (hd : c / 2 = c' / 2) : c = c' := by
 have key : ∀ j j' a a' : Nat, x / 2 ^ j = a → x / 2 ^ j' = a' → 2 ≤ a → a / 2 = a' / 2 → j < j' → False := fun j j' a a' h1 h2 h3 h4 h5 => by
  have e : j' = j + (j' - j - 1) + 1 := by omega
  rw [e, Nat.pow_succ, Nat.pow_add, ← Nat.div_div_eq_div_mul, ← Nat.div_div_eq_div_mul, h1] at h2
  have h6 : a / 2 ^ (j' - j - 1) ≤ a := Nat.div_le_self _ _
  have h7 : a' ≤ a / 2 := by rw [← h2]; exact Nat.div_le_div_right h6
  omega
 rcases Nat.lt_trichotomy k k' with h1 | h1 | h1
 ·exact (key k k' c c' h h' hc hd h1).elim
 ·subst h1; omega
 ·exact (key k' k c' c h' h hc' hd.symm h1).elim
theorem Tour.path (T : Tour lt R n L V) {i : Nat} (hV : V 1 = i) (hn : 0 < n) : ∀ d k, (n + i) / 2 ^ k = d → 0 < d → V d = i := by
 have hi : i < n := by rw [← hV]; exact T.lt' (by omega) (by omega)
 have key : ∀ d k, (n + i) / 2 ^ k = d → 0 < d → V d = i := by
  intro d
  induction d using Nat.strongRecOn with
  | ind d ih =>
   intro k hk hd
   by_cases h1 : d = 1
   ·rw [h1]; exact hV
   ·have hm : (n + i) / 2 ^ (k + 1) = d / 2 := by rw [half_pow, hk]
    have hup := ih (d / 2) (by omega) (k + 1) hm (by omega)
    have hdn : d < 2 * n := by have := pow_up (n + i) k; omega
    have hr := T.node (d / 2) (by omega) (by omega)
    have other : ∀ c, (c = 2 * (d / 2) ∨ c = 2 * (d / 2) + 1) → V c = i → c = d := fun c hc hVc => by
     obtain ⟨k', hk'⟩ := T.below' (m := c) (by omega) (by omega) hVc
     exact same_level hk' hk (by omega) (by omega) (by omega)
    rcases hr.who with h2 | h2
    ·have h3 := other (2 * (d / 2)) (.inl rfl) (by rw [← h2.1]; exact hup)
     rw [← h3, ← h2.1]; exact hup
    ·have h3 := other (2 * (d / 2) + 1) (.inr rfl) (by rw [← h2.1]; exact hup)
     rw [← h3, ← h2.1]; exact hup
 exact key
structure Mid (lt : α → α → Bool) (R : Nat → List α) (n : Nat) (L V : Nat → Nat) (c : Nat) : Prop where
 leaf : ∀ m, n ≤ m → m < 2 * n → V m = m - n
 node : ∀ m, 0 < m → m < n → (∀ k, c / 2 ^ (k + 1) ≠ m) → Reg lt R L V m
 path : ∀ k, 0 < c / 2 ^ (k + 1) → L (c / 2 ^ (k + 1)) = V (sib (c / 2 ^ k))
theorem Mid.less {c : Nat} (M : Mid lt R n L V c) : ∀ d m, 2 * n - m ≤ d → 0 < m → m < 2 * n → (∀ k, c / 2 ^ (k + 1) ≠ m) → V m < n := by
 intro d
 induction d with
 | zero => intro m h1 h2 h3; omega
 | succ d ih =>
  intro m h1 h2 h3 h4
  by_cases hm : n ≤ m
  ·rw [M.leaf m hm h3]; omega
  ·have key : ∀ x, x / 2 = m → ∀ k, c / 2 ^ (k + 1) ≠ x := fun x hx k h => h4 (k + 1) (by rw [half_pow, h]; exact hx)
   rcases (M.node m h2 (by omega) h4).who with h | h
   ·rw [h.1]; exact ih _ (by omega) (by omega) (by omega) (key _ (by omega))
   ·rw [h.1]; exact ih _ (by omega) (by omega) (by omega) (key _ (by omega))
theorem Mid.at {c : Nat} (M : Mid lt R n L V c) (hc : 0 < c) (hcn : c < 2 * n) : V c < n := M.less _ c (Nat.le_refl _) hc hcn fun k h => by
 have : c / 2 ^ (k + 1) ≤ c / 2 := by rw [Nat.pow_succ, Nat.mul_comm, ← Nat.div_div_eq_div_mul]; exact Nat.div_le_self _ _
 omega
theorem Mid.lst {c : Nat} (M : Mid lt R n L V c) (hc : 1 < c) (hcn : c < 2 * n) : L (c / 2) < n := by
 have hp := M.path 0 (by rw [half_pow, Nat.pow_zero, Nat.div_one]; omega)
 rw [half_pow, Nat.pow_zero, Nat.div_one] at hp
 rw [hp]
 have hs : 0 < sib c ∧ sib c < 2 * n ∧ c / 2 < sib c := by unfold sib; split <;> omega
 refine M.less _ _ (Nat.le_refl _) hs.1 hs.2.1 fun k h => ?_
 have : c / 2 ^ (k + 1) ≤ c / 2 := by rw [Nat.pow_succ, Nat.mul_comm, ← Nat.div_div_eq_div_mul]; exact Nat.div_le_self _ _
 omega
theorem ah_congr {R R' : Nat → List α} {a b : Nat} (ha : R' a = R a) (hb : R' b = R b) : ah lt R' a b = ah lt R a b := by unfold ah; rw [ha, hb]
theorem Tour.start (T : Tour lt R n L V) {i : Nat} (hV : V 1 = i) (hn : 0 < n) (R' : Nat → List α) (hR : ∀ j, j ≠ i → R' j = R j) : Mid lt R' n L V (n + i) := by
 have hi : i < n := by rw [← hV]; exact T.lt' (by omega) (by omega)
 refine ⟨T.leaf, fun m h1 h2 h3 => ?_, fun k hk => ?_⟩
 ·have hr := T.node m h1 h2
  have hVm : V m ≠ i := fun e => by
   obtain ⟨k, hk⟩ := T.below' h1 (by omega) e
   rcases k with _ | k
   ·simp at hk; omega
   ·exact h3 k hk
  have hLm : L m ≠ i := fun e => by
   rcases hr.who with h | h
   ·obtain ⟨k, hk⟩ := T.below' (m := 2 * m + 1) (i := i) (by omega) (by omega) (h.2.symm.trans e)
    exact h3 k (by rw [half_pow, hk]; omega)
   ·obtain ⟨k, hk⟩ := T.below' (m := 2 * m) (i := i) (by omega) (by omega) (h.2.symm.trans e)
    exact h3 k (by rw [half_pow, hk]; omega)
  exact ⟨hr.who, by rw [ah_congr (hR _ hLm) (hR _ hVm)]; exact hr.best⟩
 ·rw [half_pow] at hk ⊢
  obtain ⟨c, hc⟩ : ∃ c, c = (n + i) / 2 ^ k := ⟨_, rfl⟩
  rw [← hc] at hk ⊢
  have hcn : c < 2 * n := by have := pow_up (n + i) k; omega
  have h1 : V c = i := T.path hV hn c k hc.symm (by omega)
  have h2 : V (c / 2) = i := T.path hV hn (c / 2) (k + 1) (by rw [half_pow, ← hc]) hk
  have hr := T.node (c / 2) hk (by omega)
  have other : ∀ x, (x = 2 * (c / 2) ∨ x = 2 * (c / 2) + 1) → V x = i → x = c := fun x hx hVx => by
   obtain ⟨k', hk'⟩ := T.below' (m := x) (by omega) (by omega) hVx
   exact same_level hk' hc.symm (by omega) (by omega) (by omega)
  rcases hr.who with h | h
  ·have h3 := other (2 * (c / 2)) (.inl rfl) (by rw [← h.1]; exact h2)
   rw [h.2]
   unfold sib; rw [if_pos (by omega)]; congr 1; omega
  ·have h3 := other (2 * (c / 2) + 1) (.inr rfl) (by rw [← h.1]; exact h2)
   rw [h.2]
   unfold sib; rw [if_neg (by omega)]; congr 1; omega
def upd (f : Nat → Nat) (a v : Nat) : Nat → Nat := fun x => if x = a then v else f x
theorem upd_at (f : Nat → Nat) (a v : Nat) : upd f a v a = v := if_pos rfl
theorem upd_ne (f : Nat → Nat) {a x : Nat} (v : Nat) (h : x ≠ a) : upd f a v x = f x := if_neg h
theorem Mid.step (W : Wk lt) {c : Nat} (M : Mid lt R n L V c) (hc : 1 < c) (hcn : c < 2 * n) :
  if ah lt R (L (c / 2)) (V c) = true then Mid lt R n (upd L (c / 2) (V c)) (upd V (c / 2) (L (c / 2))) (c / 2) else Mid lt R n L (upd V (c / 2) (V c)) (c / 2) := by
 have hp := M.path 0 (by rw [half_pow, Nat.pow_zero, Nat.div_one]; omega)
 rw [half_pow, Nat.pow_zero, Nat.div_one] at hp
 have hsib : sib c ≠ c / 2 ∧ (c = 2 * (c / 2) ∧ sib c = 2 * (c / 2) + 1 ∨ c = 2 * (c / 2) + 1 ∧ sib c = 2 * (c / 2)) := by
  unfold sib; split <;> omega
 have main : ∀ (L' : Nat → Nat) (v : Nat), (∀ m, m ≠ c / 2 → L' m = L m) → ((v = V c ∧ L' (c / 2) = V (sib c)) ∨ (v = V (sib c) ∧ L' (c / 2) = V c)) → ah lt R (L' (c / 2)) v = false → Mid lt R n L' (upd V (c / 2) v) (c / 2) := by
  intro L' v hL' hv hb
  refine ⟨fun m h1 h2 => by rw [upd_ne _ _ (by omega)]; exact M.leaf m h1 h2, fun m h1 h2 h3 => ?_, fun k hk => ?_⟩
  ·by_cases e : m = c / 2
   ·subst e
    refine ⟨?_, by rw [upd_at]; exact hb⟩
    rw [upd_at, upd_ne _ _ (by omega), upd_ne _ _ (by omega)]
    rcases hsib.2 with ⟨e1, e2⟩ | ⟨e1, e2⟩
    ·rw [← e2, ← e1]; exact hv
    ·rw [← e1, ← e2]; exact hv.symm
   ·have h0 : ∀ k, c / 2 ^ (k + 1) ≠ m := fun k => by
     rcases k with _ | k
     ·rw [half_pow, Nat.pow_zero, Nat.div_one]; exact fun h => e h.symm
     ·have := h3 k
      rw [show c / 2 ^ (k + 1 + 1) = c / 2 / 2 ^ (k + 1) by rw [Nat.div_div_eq_div_mul, Nat.mul_comm, ← Nat.pow_succ]]
      exact this
    have hr := M.node m h1 h2 h0
    have h4 : m ≠ c / 2 / 2 := fun h => h3 0 (by rw [half_pow, Nat.pow_zero, Nat.div_one]; exact h.symm)
    refine ⟨?_, ?_⟩
    ·rw [upd_ne _ _ e, upd_ne _ _ (by omega), upd_ne _ _ (by omega), hL' _ e]; exact hr.who
    ·rw [hL' _ e, upd_ne _ _ e]; exact hr.best
  ·have e1 : ∀ j, c / 2 / 2 ^ j = c / 2 ^ (j + 1) := fun j => by rw [Nat.div_div_eq_div_mul, Nat.mul_comm, ← Nat.pow_succ]
   have h5 := M.path (k + 1) (by rw [← e1]; exact hk)
   rw [← e1, ← e1] at h5
   have h6 : c / 2 / 2 ^ (k + 1) ≤ c / 2 / 2 := by rw [Nat.pow_succ, Nat.mul_comm, ← Nat.div_div_eq_div_mul]; exact Nat.div_le_self _ _
   have hk2 := hk
   rw [half_pow] at hk2
   have h8 : c / 2 / 2 ^ k ≤ c / 2 := Nat.div_le_self _ _
   have h9 : k = 0 ∨ c / 2 / 2 ^ k ≤ c / 2 / 2 := by
    rcases k with _ | k
    ·exact .inl rfl
    ·right; rw [Nat.pow_succ, Nat.mul_comm, ← Nat.div_div_eq_div_mul]; exact Nat.div_le_self _ _
   rw [hL' _ (by omega), h5, upd_ne]
   rcases h9 with h9 | h9
   ·subst h9; rw [Nat.pow_zero, Nat.div_one]; unfold sib; split <;> omega
   ·unfold sib; split <;> omega
 split
 ·rename_i h
  exact main _ _ (fun m hm => upd_ne _ _ hm) (.inr ⟨hp, upd_at ..⟩) (by rw [upd_at]; exact ah_asy W R h)
 ·rename_i h
  exact main _ _ (fun m hm => rfl) (.inl ⟨rfl, hp⟩) (by simpa using h)
theorem Mid.done (M : Mid lt R n L V 1) : Tour lt R n L V := ⟨M.leaf, fun m h1 h2 => M.node m h1 h2 fun k h => by
 rw [half_pow] at h
 have : 1 / 2 ^ k ≤ 1 := Nat.div_le_self _ _
 omega⟩
variable (lt)
def vw (R : Nat → List α) (n m : Nat) : Nat :=
 if h : n ≤ m ∨ m = 0 then m - n else if ah lt R (vw R n (2 * m + 1)) (vw R n (2 * m)) = true then vw R n (2 * m + 1) else vw R n (2 * m)
termination_by 2 * n - m
decreasing_by all_goals omega
def lz (R : Nat → List α) (n m : Nat) : Nat := if ah lt R (vw lt R n (2 * m + 1)) (vw lt R n (2 * m)) = true then vw lt R n (2 * m) else vw lt R n (2 * m + 1)
variable {lt}
theorem vw_leaf {m : Nat} (h : n ≤ m) : vw lt R n m = m - n := by rw [vw, dif_pos (.inl h)]
theorem vw_node {m : Nat} (h : m < n) (h0 : 0 < m) : vw lt R n m = if ah lt R (vw lt R n (2 * m + 1)) (vw lt R n (2 * m)) = true then vw lt R n (2 * m + 1) else vw lt R n (2 * m) := by rw [vw, dif_neg (by omega)]
theorem vw_tour (W : Wk lt) {L : Nat → Nat} (h : ∀ m, 0 < m → m < n → L m = lz lt R n m) : Tour lt R n L (vw lt R n) := by
 refine ⟨fun m h1 _ => vw_leaf h1, fun m h1 h2 => ?_⟩
 have e1 := vw_node (lt := lt) (R := R) h2 h1
 have e2 := h m h1 h2
 unfold lz at e2
 by_cases hc : ah lt R (vw lt R n (2 * m + 1)) (vw lt R n (2 * m)) = true
 ·rw [if_pos hc] at e1 e2
  exact ⟨.inr ⟨e1, e2⟩, by rw [e1, e2]; exact ah_asy W R hc⟩
 ·rw [if_neg hc] at e1 e2
  exact ⟨.inl ⟨e1, e2⟩, by rw [e1, e2]; simpa using hc⟩
theorem vw_lt (W : Wk lt) {m : Nat} (h0 : 0 < m) (h : m < 2 * n) : vw lt R n m < n := (vw_tour W (L := lz lt R n) fun _ _ _ => rfl).lt' h0 h
theorem isort_pop (W : Wk lt) (A B : List α) (x : α) (hA : ∀ y ∈ A, lt x y = true) (hB : ∀ y ∈ B, lt y x = false) : isort lt (A ++ x :: B) = x :: isort lt (A ++ B) := by
 have e1 : isort lt (A ++ x :: B) = smerge lt (insB lt x (isort lt A)) B := by
  unfold isort; rw [sm_append, sm_cons]
 have e2 : isort lt (A ++ B) = smerge lt (isort lt A) B := by unfold isort; rw [sm_append]
 have hm : ∀ y ∈ isort lt A, lt x y = true := fun y hy => by
  unfold isort at hy
  rcases (sm_mem y [] A).1 hy with h | h
  ·cases h
  ·exact hA y h
 rw [e1, e2, show isort lt A = [] ++ isort lt A from rfl, insB_left x [] _ hm, insB_nil, sm_right [x] _ B (fun y hy z hz => by simp at hz; subst hz; exact hB y hy)]
 rfl
theorem run_pop (W : Wk lt) (P S : List (List α)) (x : α) (xs : List α) (ho : Ordered lt (x :: xs)) (hP : ∀ r ∈ P, ∀ y ∈ r, lt x y = true) (hS : ∀ r ∈ S, ∀ y ∈ r, lt y x = false) :
  isort lt (P ++ (x :: xs) :: S).flatten = x :: isort lt (P ++ xs :: S).flatten := by
 rw [Ordered, List.pairwise_cons] at ho
 rw [List.flatten_append, List.flatten_cons, List.cons_append, isort_pop W _ _ x, List.flatten_append, List.flatten_cons]
 ·intro y hy
  obtain ⟨r, hr, hy⟩ := List.mem_flatten.1 hy
  exact hP r hr y hy
 ·intro y hy
  rcases List.mem_append.1 hy with h | h
  ·exact ho.1 y h
  ·obtain ⟨r, hr, hy⟩ := List.mem_flatten.1 h
   exact hS r hr y hy
theorem all_pop (W : Wk lt) (Rs : List (List α)) (hn : n = Rs.length) (hR : ∀ j, j < n → Rs[j]? = some (R j)) (ho : ∀ r ∈ Rs, Ordered lt r) (i : Nat) (hi : i < n) (hb : ∀ j, j < n → ah lt R j i = false) (x : α) (xs : List α) (hx : R i = x :: xs) :
  isort lt Rs.flatten = x :: isort lt (Rs.set i xs).flatten := by
 have hil : i < Rs.length := by omega
 have e : Rs = Rs.take i ++ (x :: xs) :: Rs.drop (i + 1) := by
  have h1 : Rs[i]'hil = x :: xs := by have := hR i hi; rw [List.getElem?_eq_getElem hil, hx] at this; injection this
  rw [← h1, ← List.drop_eq_getElem_cons hil, List.take_append_drop]
 have e2 : Rs.set i xs = Rs.take i ++ xs :: Rs.drop (i + 1) := List.set_eq_take_append_cons_drop .. |>.trans (if_pos hil)
 have key : ∀ j r, Rs[j]? = some r → ∀ y ∈ r, (j ≠ i → lt y x = false) ∧ (j < i → lt x y = true) := by
  intro j r hr y hy
  have hj : j < n := by have := (List.getElem?_eq_some_iff.1 hr).1; omega
  have hrj : r = R j := by rw [hR j hj] at hr; injection hr with hr; exact hr.symm
  have hor := ho r (List.mem_of_getElem? hr)
  rcases r with _ | ⟨z, zs⟩
  ·cases hy
  ·obtain ⟨h1, h2⟩ := ah_cons (hb j hj) hrj.symm hx
   rw [Ordered, List.pairwise_cons] at hor
   rcases List.mem_cons.1 hy with rfl | hy
   ·exact ⟨fun _ => h1, h2⟩
   ·have h3 := hor.1 y hy
    exact ⟨fun _ => W.nt _ _ _ h3 h1, fun h => W.mix (h2 h) h3⟩
 rw [e2]
 conv => lhs; rw [e]
 refine run_pop W _ _ x xs (ho _ (List.mem_of_getElem? (by rw [hR i hi, hx]))) (fun r hr y hy => ?_) (fun r hr y hy => ?_)
 ·obtain ⟨j, hj⟩ := List.getElem?_of_mem hr
  rw [List.getElem?_take] at hj
  split at hj
  ·exact (key j r hj y hy).2 (by assumption)
  ·cases hj
 ·obtain ⟨j, hj⟩ := List.getElem?_of_mem hr
  rw [List.getElem?_drop] at hj
  exact (key _ r hj y hy).1 (by omega)
theorem all_nil (Rs : List (List α)) (hn : n = Rs.length) (hR : ∀ j, j < n → Rs[j]? = some (R j)) (i : Nat) (hb : ∀ j, j < n → ah lt R j i = false) (hx : R i = []) : Rs.flatten = [] := by
 rw [List.flatten_eq_nil_iff]
 intro r hr
 obtain ⟨j, hj⟩ := List.getElem?_of_mem hr
 have hjn : j < n := by have := (List.getElem?_eq_some_iff.1 hj).1; omega
 rw [hR j hjn] at hj; injection hj with hj; rw [← hj]
 exact ah_nil (hb j hjn) hx
end
end Go.Proofs.YtjldamkmdkaiiaaGreatDoor
