/-
  A sum's bytes and its bits: plain facts. No program stands here.
-/
import Derived.Test.YthklamgdoknmeaaQd
set_option linter.unusedSimpArgs false
set_option linter.unusedVariables false
set_option maxRecDepth 8000
namespace Go.Proofs.Ythklamgdoknmeaa
open Sm Qb
namespace Qb
theorem bt_lt (n i : Nat) : bt n i < 256 := Nat.mod_lt _ (by decide)
theorem bit_bt (n i j : Nat) (hj : j < 8) : bit n (8 * i + j) = bt n i / 2 ^ j % 2 := by
  unfold bit bt
  rw [show (256 : Nat) ^ i = 2 ^ (8 * i) by rw [show (256 : Nat) = 2 ^ 8 by decide, ← Nat.pow_mul], Nat.pow_add, ← Nat.div_div_eq_div_mul]
  generalize n / 2 ^ (8 * i) = x
  have h : j = 0 ∨ j = 1 ∨ j = 2 ∨ j = 3 ∨ j = 4 ∨ j = 5 ∨ j = 6 ∨ j = 7 := by omega
  rcases h with rfl | rfl | rfl | rfl | rfl | rfl | rfl | rfl <;> omega
theorem bt_step (n i k : Nat) (hk : k < 8) : bt n i % 2 ^ (k + 1) = bt n i % 2 ^ k + bit n (8 * i + k) * 2 ^ k := by
  rw [mod_bit, bit_bt n i k hk, Nat.mul_comm]; rfl
theorem bt_full (n i : Nat) : bt n i % 2 ^ 8 = bt n i := Nat.mod_eq_of_lt (bt_lt n i)
theorem bt_part (n i k : Nat) : bt n i % 2 ^ k < 256 := Nat.lt_of_le_of_lt (Nat.mod_le _ _) (bt_lt n i)
/-- Are the first k bits of byte i all s? -/
def smB (n s i : Nat) : Nat → Bool
  | 0 => true
  | k + 1 => smB n s i k && decide (bit n (8 * i + k) = s)
theorem sm_tests : ∀ (x : _root_.Fin 256) (s : _root_.Fin 2), ((((((((true && decide (x.val / 2 ^ 0 % 2 = s.val)) && decide (x.val / 2 ^ 1 % 2 = s.val)) && decide (x.val / 2 ^ 2 % 2 = s.val)) && decide (x.val / 2 ^ 3 % 2 = s.val)) && decide (x.val / 2 ^ 4 % 2 = s.val)) && decide (x.val / 2 ^ 5 % 2 = s.val)) && decide (x.val / 2 ^ 6 % 2 = s.val)) && decide (x.val / 2 ^ 7 % 2 = s.val)) = decide (x.val = 255 * s.val) := by decide +kernel
theorem smB_full (n s i : Nat) (hs : s ≤ 1) : smB n s i 8 = decide (bt n i = 255 * s) := by
  have h := sm_tests ⟨bt n i, bt_lt n i⟩ ⟨s, by omega⟩
  simp only at h
  rw [← h]
  simp only [smB]
  rw [bit_bt n i 0 (by decide), bit_bt n i 1 (by decide), bit_bt n i 2 (by decide), bit_bt n i 3 (by decide), bit_bt n i 4 (by decide), bit_bt n i 5 (by decide), bit_bt n i 6 (by decide), bit_bt n i 7 (by decide)]
theorem fl_at (n i : Nat) (h : i < 280) : (fl280 n 280)[i]? = some (bt n i) := by
  unfold fl280
  rw [List.getElem?_map, List.getElem?_range h, Option.map_some, if_pos h]
/-- The bit below byte m's, or nought. -/
def pvB (n m : Nat) : Nat := if m = 0 then 0 else bit n (8 * m - 1)
theorem sg_take (n m : Nat) (hm : m < 280) : sgB ((fl280 n 280).take m) = 255 * pvB n m := by
  cases m with
  | zero => rfl
  | succ k =>
    rw [sgB_of _ (bt n k) k (by rw [List.length_take, fl280_len]; omega) (by rw [List.getElem?_take, if_pos (by omega), fl_at n k (by omega)])]
    unfold pvB
    rw [if_neg (show ¬ (k + 1 = 0) by omega), show 8 * (k + 1) - 1 = 8 * k + 7 by omega, bit_bt n k 7 (by decide), show (2 : Nat) ^ 7 = 128 from rfl]
    have hb := bt_lt n k
    rw [Nat.mod_eq_of_lt (show bt n k / 128 < 2 by omega)]
    split <;> omega
theorem sp_bits (n m s : Nat) (hm : m < 280) (hs : bit n (8 * m + 7) = s) : spB ((fl280 n 280).take (m + 1)) = (smB n s m 8 && decide (pvB n m = s)) := by
  have hs1 : s ≤ 1 := by rw [← hs]; exact bit_le _ _
  have e : (fl280 n 280).take (m + 1) = (fl280 n 280).take m ++ [bt n m] := by rw [List.take_add_one, fl_at n m hm]; rfl
  rw [smB_full n s m hs1]
  unfold spB
  rw [e, List.getLast?_concat, List.dropLast_concat, sg_take n m hm]
  rw [bit_bt n m 7 (by decide), show (2 : Nat) ^ 7 = 128 from rfl] at hs
  have hb := bt_lt n m
  have hp : pvB n m ≤ 1 := by unfold pvB; split; · decide
                              · exact bit_le _ _
  generalize pvB n m = p at *
  generalize bt n m = x at *
  rw [Nat.mod_eq_of_lt (show x / 128 < 2 by omega)] at hs
  rw [Bool.eq_iff_iff, Bool.and_eq_true, beq_iff_eq, decide_eq_true_eq, decide_eq_true_eq]
  omega
/-- How far the bytes that the sign tells are struck off. -/
structure Stk (n s k : Nat) : Prop where
  le : k ≤ 280
  rest : strip (fl280 n 280) 280 = strip (fl280 n 280) k
  top : 0 < k → bit n (8 * k - 1) = s
theorem Stk.start (n s : Nat) (h : bit n 2239 = s) : Stk n s 280 := ⟨Nat.le_refl _, rfl, fun _ => h⟩
theorem Stk.sp {n s m : Nat} (H : Stk n s (m + 1)) : spB ((fl280 n 280).take (m + 1)) = (smB n s m 8 && decide (pvB n m = s)) :=
  sp_bits n m s (by have := H.le; omega) (by have := H.top (by omega); rw [show 8 * m + 7 = 8 * (m + 1) - 1 by omega]; exact this)
theorem Stk.on {n s m : Nat} (H : Stk n s (m + 1)) (h : (smB n s m 8 && decide (pvB n m = s)) = true) : Stk n s m := by
  have hsp := H.sp
  rw [h] at hsp
  refine ⟨by have := H.le; omega, H.rest.trans (strip_on _ (m + 1) (by omega) hsp), fun h0 => ?_⟩
  rw [Bool.and_eq_true, decide_eq_true_eq] at h
  have := h.2
  unfold pvB at this
  rw [if_neg (by omega)] at this
  exact this
theorem Stk.stop {n s m : Nat} (H : Stk n s (m + 1)) (h : (smB n s m 8 && decide (pvB n m = s)) = false) : strip (fl280 n 280) 280 = (fl280 n 280).take (m + 1) := by
  have hsp := H.sp
  rw [h] at hsp
  exact H.rest.trans (strip_end _ _ hsp)
theorem Stk.none {n s : Nat} (H : Stk n s 0) : strip (fl280 n 280) 280 = (fl280 n 280).take 0 := H.rest.trans rfl
theorem fl_next (n k : Nat) (hk : k < 280) : (fl280 n 280).take (k + 1) = (fl280 n 280).take k ++ [bt n k] := by rw [List.take_add_one, fl_at n k hk]; rfl
end Qb
end Go.Proofs.Ythklamgdoknmeaa
