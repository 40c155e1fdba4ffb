/-
  The document's sums: Value of any sum.
-/
import Derived.Test.YtbimfopbilcdgaaQgR
import Derived.Test.YtbimfopbilcdgaaQeR
set_option linter.unusedSimpArgs false
set_option linter.unusedVariables false
set_option maxRecDepth 100000
namespace Go.Proofs.Ytbimfopbilcdgaa
open Go.RowKit Sm Qb

theorem inf_w (k : Int) (hk : k = 1 ∨ k = -1) : True := trivial
set_option maxHeartbeats 2000000 in
theorem rvalue_odd (A : Option Addr) (C : Nat) (c0 c1 c2 c3 c4 : Bool) (h : (c0 || c1 || c2) = true) (w : World) :
    Calls Try.prog 96 #[.agg #[.slice A 2240 C, .bool c0, .bool c1, .bool c2, .bool c3, .bool c4]] w fun e w' =>
      e = .returned (.tuple #[.float .f64 (if c0 || (c1 && c2) then 9221120237041090560 else if c1 then 9218868437227405312 else 18442240474082181120), .bool false]) ∧ Below w.heap.size w w' := by
  have HN : Hid (∀ w, Calls Try.prog 98 #[.int .u64 9221120237041090560] w fun e w' => e = .returned (.float .f64 9221120237041090560) ∧ w = w') := Lib.hid fun w => refOf_any 9221120237041090560 (by decide) w
  have HB := Lib.hid ((Below.refl w.heap.size w).alloc (Nat.le_refl _) (.cells #[.slice A 2240 C, .bool c0, .bool c1, .bool c2, .bool c3, .bool c4] 158))
  cases c0 <;> cases c1 <;> cases c2 <;> try (simp at h; done)
  all_goals
    clear h
    go_enter Try.func96, Try.ntmps96
    go_wp2_with (first
      | (go_at_call 98; (with_reducible refine (HN.out _).mono ?_); rintro e w' ⟨rfl, rfl⟩)
      | (go_at_call 116; (first | (with_reducible refine (inf_v _).mono ?_) | (with_reducible refine (inf_n _).mono ?_)); rintro e w' ⟨rfl, rfl⟩))
    go_ret2
    exact ⟨rfl, HB.out⟩
theorem has_bits : ∀ h : _root_.Fin 32, h.val.testBit 0 = decide (h.val % 2 = 1) ∧ (h.val.testBit 1 && h.val.testBit 2) = decide (h.val / 2 % 4 = 3) ∧ h.val.testBit 1 = decide (h.val / 2 % 2 = 1) ∧ h.val.testBit 2 = decide (h.val / 4 % 2 = 1) ∧ (h.val.testBit 3 && !h.val.testBit 4) = decide (h.val / 8 % 4 = 1) := by decide +kernel
theorem min_full (r : Nat) : (decide (min r 9218868437227405312 = 9218868437227405312)) = decide (9218868437227405312 ≤ r) := by
  rw [decide_eq_decide]; omega
theorem rvalue_any (A : Option Addr) (C n h : Nat) (hn : n < top) (hh : h < 32) (h8 : h = 8 → n = 0) (w : World) (HA : Hid (BitAt w A n)) :
    Calls Try.prog 96 #[.agg (R6 A C h)] w fun e w' => e = .returned (.tuple #[.float .f64 (valW n h), .bool (valO n h)]) ∧ Below w.heap.size w w' := by
  obtain ⟨t0, t12, t1, t2, t34⟩ := has_bits ⟨h, hh⟩
  simp only at t0 t12 t1 t2 t34
  unfold R6
  by_cases hodd : (h.testBit 0 || h.testBit 1 || h.testBit 2) = true
  · refine (rvalue_odd A C _ _ _ _ _ hodd w).mono ?_
    rintro e w' ⟨rfl, hb⟩
    refine ⟨tup_eq' ?_ ?_, hb⟩
    · unfold valW
      rw [t12, t0, t1]
      rw [t0, t1, t2] at hodd
      simp only [Bool.or_eq_true, decide_eq_true_eq] at hodd ⊢
      by_cases q : h % 2 = 1 ∨ h / 2 % 4 = 3
      · rw [if_pos q, if_pos q]
      · rw [if_neg q, if_neg q]
        by_cases q1 : h / 2 % 2 = 1
        · rw [if_pos q1, if_pos q1]
        · rw [if_neg q1, if_neg q1, if_pos (by omega)]
    · unfold valO
      rw [t0, t1, t2] at hodd
      simp only [Bool.or_eq_true, decide_eq_true_eq] at hodd
      by_cases q : h % 2 = 1 ∨ h / 2 % 4 = 3
      · rw [if_pos q]
      · rw [if_neg q]
        by_cases q1 : h / 2 % 2 = 1
        · rw [if_pos q1]
        · rw [if_neg q1, if_pos (by omega)]
  · have hf : h.testBit 0 = false ∧ h.testBit 1 = false ∧ h.testBit 2 = false := by
      revert hodd
      cases h.testBit 0 <;> cases h.testBit 1 <;> cases h.testBit 2 <;> simp
    obtain ⟨f0, f1, f2⟩ := hf
    rw [f0, f1, f2]
    rw [f0] at t0; rw [f1] at t1; rw [f2] at t2
    have u0 : ¬ h % 2 = 1 := of_decide_eq_false t0.symm
    have u1 : ¬ h / 2 % 2 = 1 := of_decide_eq_false t1.symm
    have u2 : ¬ h / 4 % 2 = 1 := of_decide_eq_false t2.symm
    refine (rvalue_fin A C n hn _ _ w HA (valO n h) (valW n h) (Lib.hid ?_) (Lib.hid ?_))
    · rw [Bool.and_assoc, t34]
      unfold valW
      rw [if_neg (by omega), if_neg u1, if_neg u2]
      by_cases e8 : h = 8
      · have hn0 := h8 e8
        subst hn0
        subst e8
        rw [if_pos rfl]
        have hs : sgn 0 = false := by unfold sgn; rw [decide_eq_false_iff_not]; have := top_pos; omega
        have hm : mag 0 = 0 := by unfold mag; rw [hs]; rfl
        rw [hs, hm, show rnd 0 = 0 by decide]
        simp
      · rw [if_neg e8, nearest_rnd, word_eq]
        have hz : decide (h / 8 % 4 = 1) = false := decide_eq_false (by omega)
        rw [hz, Bool.and_false, Bool.or_false]
    · rw [min_full]
      unfold valO
      rw [if_neg (by omega), if_neg u1, if_neg u2]
      by_cases e8 : h = 8
      · have hn0 := h8 e8
        subst hn0
        subst e8
        rw [if_pos rfl]
        have hs : sgn 0 = false := by unfold sgn; rw [decide_eq_false_iff_not]; have := top_pos; omega
        have hm : mag 0 = 0 := by unfold mag; rw [hs]; rfl
        rw [hm, show rnd 0 = 0 by decide]
        decide
      · rw [if_neg e8]
/-- Of minus noughts alone the sum is nought. -/
theorem acc8 (l : List Nat) : accH l = 8 → accN l = 0 := by
  have key : ∀ a b : _root_.Fin 32, (a.val ||| b.val = 8) → (b.val = 8 ∨ 24 ≤ b.val ∧ b.val ≤ 28) → b.val = 8 ∧ (a.val = 0 ∨ a.val = 8) := by decide +kernel
  have hz : ∀ l : List Nat, accH l = 0 → l = [] := fun l => by
    refine list_snoc (p := fun l => accH l = 0 → l = []) (fun _ => rfl) (fun l b _ h => ?_) l
    rw [accH_snoc] at h
    have h1 : kindB b = 0 := by
      have := @Nat.right_le_or (accH l) (kindB b); omega
    unfold kindB at h1
    exfalso
    revert h1
    repeat' split
    all_goals decide
  refine list_snoc (p := fun l => accH l = 8 → accN l = 0) (fun _ => rfl) (fun l b ih h => ?_) l
  rw [accH_snoc] at h
  have hk : kindB b = 8 ∨ 24 ≤ kindB b ∧ kindB b ≤ 28 := by
    unfold kindB
    repeat' split
    all_goals decide
  obtain ⟨h1, h2⟩ := key ⟨accH l, accH_lt l⟩ ⟨kindB b, kindB_lt b⟩ h hk
  simp only at h1 h2
  have hb : b = 9223372036854775808 := by
    unfold kindB at h1
    revert h1
    repeat' split
    all_goals first | (intro h1; assumption) | (intro h1; exact absurd h1 (by decide))
  have hu : unit b = 0 := by
    subst hb
    unfold unit
    rw [if_neg (by decide), if_pos (by decide)]
    decide +kernel
  have hn : accN l = 0 := by
    rcases h2 with h2 | h2
    · rw [hz l h2]; rfl
    · exact ih h2
  rw [accN_snoc, hn, hu]
  exact Nat.mod_eq_of_lt top_pos
end Go.Proofs.Ytbimfopbilcdgaa
