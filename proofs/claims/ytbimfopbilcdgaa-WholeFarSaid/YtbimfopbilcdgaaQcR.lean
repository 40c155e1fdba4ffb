/-
  Lists of bits, what the document's Value reckons (plain), and its sums of lists of bits: add, turn, whole, above.
-/
import Derived.Test.YtbimfopbilcdgaaZyQ
import Derived.Deep.OwnRows
import Derived.Test.YtbimfopbilcdgaaSxR
set_option linter.unusedSimpArgs false
set_option linter.unusedVariables false
set_option maxRecDepth 8000
namespace Go.Proofs.Ytbimfopbilcdgaa
open Go.RowKit Sm
theorem make_bys (n : Nat) (hn : n ≤ 140737488355328) : ∀ w : World, (Instr.makeSlice 32 (.int .i64 (n : Int)) (.int .i64 (n : Int))).run Try.prog w = .ok (.slice (some ⟨w.heap.size, 0, none⟩) n n) (w.alloc (.cells (bys (List.replicate n 0)).toArray 5)) := fun w => by
  have h := run_make_row' (P := Try.prog) 32 5 (.int .u8 0) 1 Try.underlying32 infoU8 rfl .i64 .i64 n (by omega) (by omega) w
  rw [h]
  congr 3
  apply Array.ext'
  rw [toList_madeCells_one]
  unfold bys; simp [bv]

namespace Qb

/-- A number's bit; its first bits, and noughts behind them. -/
def bit (n i : Nat) : Nat := n / 2 ^ i % 2
def bl (n k : Nat) : List Nat := (List.range 2240).map fun i => if i < k then bit n i else 0
theorem bit_le (n i : Nat) : bit n i ≤ 1 := by unfold bit; omega
theorem bl_len (n k : Nat) : (bl n k).length = 2240 := by unfold bl; simp
theorem bl_lt (n k : Nat) : ∀ x ∈ bl n k, x < 256 := fun x hx => by
  unfold bl at hx
  obtain ⟨i, -, rfl⟩ := List.mem_map.1 hx
  split
  · have := bit_le n i; omega
  · decide
theorem bl_at (n k i : Nat) (h : i < 2240) : (bl n k)[i]? = some (if i < k then bit n i else 0) := by
  unfold bl
  rw [List.getElem?_map, List.getElem?_range h]; rfl
theorem bl_set (n k : Nat) (hk : k < 2240) : (bl n k).set k (bit n k) = bl n (k + 1) := by
  apply List.ext_getElem?
  intro i
  rw [List.getElem?_set]
  unfold bl
  simp only [List.getElem?_map, List.length_map, List.length_range]
  by_cases e : k = i
  · subst e
    simp [hk]
  · simp only [e, if_false]
    by_cases hi : i < 2240
    · rw [List.getElem?_range hi]
      simp only [Option.map_some]
      by_cases h : i < k
      · rw [if_pos h, if_pos (by omega)]
      · rw [if_neg h, if_neg (by omega)]
    · rw [List.getElem?_eq_none (by simpa using hi)]; rfl
theorem bl_zero (n : Nat) : bl n 0 = List.replicate 2240 0 := by
  rw [List.eq_replicate_iff]
  refine ⟨bl_len n 0, fun x hx => ?_⟩
  unfold bl at hx
  obtain ⟨i, -, rfl⟩ := List.mem_map.1 hx
  rfl
theorem bl_none : bl 0 2240 = List.replicate 2240 0 := by
  rw [List.eq_replicate_iff]
  refine ⟨bl_len 0 2240, fun x hx => ?_⟩
  unfold bl at hx
  obtain ⟨i, -, rfl⟩ := List.mem_map.1 hx
  unfold bit
  simp
theorem pw_two (k m : Nat) (h : 64 * k = m) : pw k = 2 ^ m := by subst h; simp only [pw]
theorem top_bits : top = 2 ^ 2240 := top_eq.trans (pw_two 35 2240 rfl)
theorem two_next (m n : Nat) (h : n = m + 1) : 2 ^ n = 2 ^ m * 2 := by rw [h, Nat.pow_succ]

theorem mod_bit (n k : Nat) : n % 2 ^ (k + 1) = n % 2 ^ k + 2 ^ k * bit n k := by unfold bit; rw [Nat.pow_succ, Nat.mod_mul]
/-- The carry into place k of a sum. -/
def cy (a b k : Nat) : Nat := (a % 2 ^ k + b % 2 ^ k) / 2 ^ k
theorem cy_zero (a b : Nat) : cy a b 0 = 0 := by simp [cy, Nat.mod_one]
theorem cy_le (a b k : Nat) : cy a b k ≤ 1 := by
  have h1 := Nat.mod_lt a (Nat.two_pow_pos k)
  have h2 := Nat.mod_lt b (Nat.two_pow_pos k)
  have : cy a b k < 2 := (Nat.div_lt_iff_lt_mul (Nat.two_pow_pos k)).2 (by omega)
  omega
theorem cy_step (a b k : Nat) : a % 2 ^ (k + 1) + b % 2 ^ (k + 1) = (a % 2 ^ k + b % 2 ^ k) % 2 ^ k + 2 ^ k * (bit a k + bit b k + cy a b k) := by
  have h := Nat.div_add_mod (a % 2 ^ k + b % 2 ^ k) (2 ^ k)
  rw [mod_bit a k, mod_bit b k, Nat.mul_add, Nat.mul_add]
  unfold cy at *
  omega
theorem cy_succ (a b k : Nat) : cy a b (k + 1) = (bit a k + bit b k + cy a b k) / 2 := by
  have hp := Nat.two_pow_pos k
  have e : cy a b (k + 1) = (a % 2 ^ (k + 1) + b % 2 ^ (k + 1)) / (2 ^ k * 2) := by unfold cy; rw [Nat.pow_succ]
  rw [e, cy_step, ← Nat.div_div_eq_div_mul, Nat.add_mul_div_left _ _ hp, Nat.div_eq_of_lt (Nat.mod_lt _ hp), Nat.zero_add]
theorem bit_add (a b k : Nat) : bit (a + b) k = (bit a k + bit b k + cy a b k) % 2 := by
  have hp := Nat.two_pow_pos k
  have h1 : (a + b) % 2 ^ (k + 1) / 2 ^ k = bit (a + b) k := by
    rw [mod_bit, Nat.add_mul_div_left _ _ hp, Nat.div_eq_of_lt (Nat.mod_lt _ hp), Nat.zero_add]
  have h2 : (a + b) % 2 ^ (k + 1) = (a % 2 ^ (k + 1) + b % 2 ^ (k + 1)) % 2 ^ (k + 1) := Nat.add_mod _ _ _
  rw [← h1, h2, cy_step, Nat.pow_succ, Nat.mod_mul_right_div_self, Nat.add_mul_div_left _ _ hp, Nat.div_eq_of_lt (Nat.mod_lt _ hp), Nat.zero_add]
theorem bit_mod (n k j : Nat) (h : k < j) : bit (n % 2 ^ j) k = bit n k := by
  unfold bit
  obtain ⟨d, rfl⟩ : ∃ d, j = k + 1 + d := ⟨j - (k + 1), by omega⟩
  rw [Nat.pow_add, Nat.pow_succ, Nat.mul_assoc, Nat.mod_mul_right_div_self, Nat.mod_mul_right_mod]
theorem bit_sum (a b k : Nat) (hk : k < 2240) : bit ((a + b) % top) k = (bit a k + bit b k + cy a b k) % 2 := by
  rw [top_bits, bit_mod _ _ _ hk, bit_add]
/-- Are the bits below place k all noughts? -/
def zc (n k : Nat) : Nat := if n % 2 ^ k = 0 then 1 else 0
theorem zc_zero (n : Nat) : zc n 0 = 1 := by simp [zc, Nat.mod_one]
theorem zc_le (n k : Nat) : zc n k ≤ 1 := by unfold zc; split <;> omega
theorem zc_succ (n k : Nat) : zc n (k + 1) = (1 - bit n k + zc n k) / 2 := by
  have hp := Nat.two_pow_pos k
  have hb := bit_le n k
  unfold zc
  rw [mod_bit]
  by_cases h : n % 2 ^ k = 0
  · rw [if_pos h, h, Nat.zero_add]
    rcases (show bit n k = 0 ∨ bit n k = 1 by omega) with e | e <;> rw [e]
    · simp
    · rw [if_neg (by omega)]
  · rw [if_neg h, if_neg (by omega)]
    omega
theorem mul_lts (m a b c : Nat) (hm : m = 2 ^ a) (h : a + b < c) : m * 2 ^ b < 2 ^ c := by
  subst hm; rw [← Nat.pow_add]; exact Nat.pow_lt_pow_right (by decide) h
theorem pow_dvds (a b : Nat) (h : a ≤ b) : 2 ^ a ∣ 2 ^ b := Nat.pow_dvd_pow 2 h
theorem bit_neg (n k : Nat) (hn : n ≤ top) (hk : k < 2240) : bit (neg n) k = (1 - bit n k + zc n k) % 2 := by
  have hp := Nat.two_pow_pos k
  have hb := bit_le n k
  have hd : 2 ^ (k + 1) ∣ top := top_bits ▸ pow_dvds (k + 1) 2240 (by omega)
  have e1 : bit (neg n) k = neg n % 2 ^ (k + 1) / 2 ^ k := by
    rw [mod_bit, Nat.add_mul_div_left _ _ hp, Nat.div_eq_of_lt (Nat.mod_lt _ hp), Nat.zero_add]
  have e2 : neg n % 2 ^ (k + 1) = (2 ^ (k + 1) - n % 2 ^ (k + 1)) % 2 ^ (k + 1) := by
    unfold neg
    rw [Nat.mod_mod_of_dvd _ hd]
    exact sub_mod_of top _ n hd hn (Nat.two_pow_pos _)
  rw [e1, e2, mod_bit n k]
  unfold zc
  have hr := Nat.mod_lt n hp
  have ep : 2 ^ (k + 1) = 2 ^ k * 2 := Nat.pow_succ ..
  rw [ep]
  by_cases h : n % 2 ^ k = 0
  · rw [if_pos h, h, Nat.zero_add]
    rcases (show bit n k = 0 ∨ bit n k = 1 by omega) with e | e <;> rw [e]
    · rw [Nat.mul_zero, Nat.sub_zero, Nat.mod_self]; simp
    · rw [Nat.mul_one, show 2 ^ k * 2 - 2 ^ k = 2 ^ k by omega, Nat.mod_eq_of_lt (by omega), Nat.div_self hp]
  · rw [if_neg h]
    rcases (show bit n k = 0 ∨ bit n k = 1 by omega) with e | e <;> rw [e]
    · rw [Nat.mul_zero, Nat.add_zero, Nat.mod_eq_of_lt (by omega)]
      rw [Nat.div_eq_of_lt_le (k := 1) (by omega) (by omega)]
    · rw [Nat.mul_one, Nat.mod_eq_of_lt (by omega), Nat.div_eq_of_lt (by omega)]
/-- What a world has for bits. -/
def BitAt (w : World) (a : Option Addr) (n : Nat) : Prop := ByAt w a (bl n 2240)
theorem BitAt.get {w : World} {a : Option Addr} {n : Nat} (h : BitAt w a n) : ∃ g off, a = some ⟨g, off, none⟩ ∧ g < w.heap.size ∧ ∀ k : Nat, k < 2240 → w.cell? ⟨g, off + k, none⟩ = some (.int .u8 (bit n k : Nat)) := by
  obtain ⟨g, off, e, hg, hc⟩ := ByAt.spot h (by rw [bl_len]; omega)
  exact ⟨g, off, e, hg, fun k hk => hc k _ (by rw [bl_at _ _ _ hk, if_pos hk])⟩
theorem BitAt.keep {w w' : World} {a : Option Addr} {n : Nat} (h : BitAt w a n) (hb : Below w.heap.size w w') : BitAt w' a n := ByAt.keep h hb
/-- How a call ends that answers with bits. -/
def BitEnds (B : Nat) (w : World) (n : Nat) (e : Ending) (w' : World) : Prop := ∃ g C, e = .returned (.slice (some ⟨g, 0, none⟩) 2240 C) ∧ BitAt w' (some ⟨g, 0, none⟩) n ∧ Below B w w'
/-- Bits that are being written at block g. -/
structure Bw (w0 : World) (B g : Nat) (n k : Nat) (w : World) : Prop where
  below : Below B w0 w
  row : w.heap[g]? = some (.cells (bys (bl n k)).toArray 5 (0, 0))
theorem Bw.start (w : World) (n : Nat) : Bw w w.heap.size w.heap.size n 0 (w.alloc (.cells (bys (List.replicate 2240 0)).toArray 5)) :=
  ⟨(Below.refl _ _).alloc (Nat.le_refl _) _, by rw [bl_zero]; exact heap_alloc_new' w _⟩
theorem Bw.step {w0 w : World} {B g n k : Nat} (H : Bw w0 B g n k w) (hg : B ≤ g) (hk : k < 2240) (v : Int) (hv : v = ((bit n k : Nat) : Int)) : Bw w0 B g n (k + 1) (w.setCell ⟨g, k, none⟩ (.int .u8 v)) := by
  subst hv
  refine ⟨H.below.setCell (by show _ ≤ g; omega) _, ?_⟩
  rw [← bl_set n k hk, bys_set]
  exact row_set H.row k _
theorem Bw.bits {w0 w : World} {B g n : Nat} (H : Bw w0 B g n 2240 w) : BitAt w (some ⟨g, 0, none⟩) n :=
  ByAt.of_row _ (bl_lt n 2240) H.row ⟨[], by simp⟩
end Qb
end Go.Proofs.Ytbimfopbilcdgaa

set_option linter.unusedSimpArgs false
set_option linter.unusedVariables false
set_option maxRecDepth 8000
namespace Go.Proofs.Ytbimfopbilcdgaa
open Sm Fl
namespace Qb
theorem half_step (M j : Nat) : M / 2 ^ j = 2 * (M / 2 ^ (j + 1)) + bit M j := by
  unfold bit; rw [Nat.pow_succ, ← Nat.div_div_eq_div_mul]; omega
theorem sgn_bit (n : Nat) (hn : n < top) : sgn n = decide (bit n 2239 = 1) := by
  unfold sgn bit
  rw [decide_eq_decide]
  have e : top = 2 ^ 2239 * 2 := top_bits.trans (two_next 2239 2240 rfl)
  have hp : 0 < 2 ^ 2239 := Nat.two_pow_pos 2239
  rw [e] at hn ⊢
  generalize 2 ^ 2239 = K at *
  have h2 : n / K < 2 := (Nat.div_lt_iff_lt_mul hp).2 (by omega)
  rw [Nat.mod_eq_of_lt h2]
  constructor
  · intro h
    have : 1 ≤ n / K := (Nat.le_div_iff_mul_le hp).2 (by omega)
    omega
  · intro h
    have : 1 * K ≤ n := (Nat.le_div_iff_mul_le hp).1 (by omega)
    omega
theorem len_mod (M k : Nat) : bitLen (M % 2 ^ (k + 1)) = if bit M k = 1 then k + 1 else bitLen (M % 2 ^ k) := by
  rw [mod_bit]
  have hr := Nat.mod_lt M (Nat.two_pow_pos k)
  by_cases h : bit M k = 1
  · rw [if_pos h, h, Nat.mul_one]
    have h1 := bitLen_spec (M % 2 ^ k + 2 ^ k)
    have hne : M % 2 ^ k + 2 ^ k ≠ 0 := by have := Nat.two_pow_pos k; omega
    have h2 := h1.2 hne
    have h3 : 2 ^ k < 2 ^ bitLen (M % 2 ^ k + 2 ^ k) := by have := h1.1; omega
    have h4 : k < bitLen (M % 2 ^ k + 2 ^ k) := (Nat.pow_lt_pow_iff_right (by decide)).1 h3
    have h5 : 2 ^ (bitLen (M % 2 ^ k + 2 ^ k) - 1) < 2 ^ (k + 1) := by rw [Nat.pow_succ]; omega
    have h6 := (Nat.pow_lt_pow_iff_right (by decide)).1 h5
    omega
  · have h0 : bit M k = 0 := by have := bit_le M k; omega
    rw [if_neg h, h0]; simp
/-- The highest k bits of a number that has L. -/
def hi (M L k : Nat) : Nat := M / 2 ^ (L - k)
theorem hi_zero (M L : Nat) (h : L = bitLen M) : hi M L 0 = 0 := by
  unfold hi
  rw [Nat.sub_zero, h]
  exact Nat.div_eq_of_lt (bitLen_spec M).1
theorem hi_step (M L k : Nat) (h : k < L) : hi M L (k + 1) = 2 * hi M L k + bit M (L - 1 - k) := by
  unfold hi
  have e1 : L - k = (L - (k + 1)) + 1 := by omega
  have e2 : L - 1 - k = L - (k + 1) := by omega
  rw [e1, e2, half_step M (L - (k + 1))]
theorem hi_first (M L : Nat) (h : L = bitLen M) (h0 : 0 < L) : hi M L 1 = 1 ∧ bit M (L - 1) = 1 := by
  have hM : M ≠ 0 := fun e => by subst e; rw [show bitLen 0 = 0 by decide] at h; omega
  have h1 := (bitLen_spec M).2 hM
  have h2 := (bitLen_spec M).1
  rw [← h] at h1 h2
  have e : M / 2 ^ (L - 1) = 1 := by
    have hp := Nat.two_pow_pos (L - 1)
    have ep : 2 ^ L = 2 ^ (L - 1) * 2 := by rw [← Nat.pow_succ]; congr 1; omega
    rw [ep] at h2
    have a1 : M / 2 ^ (L - 1) < 2 := (Nat.div_lt_iff_lt_mul hp).2 (by omega)
    have a2 : 1 ≤ M / 2 ^ (L - 1) := (Nat.le_div_iff_mul_le hp).2 (by omega)
    omega
  refine ⟨e, ?_⟩
  unfold bit; rw [e]
theorem hi_lt (M L k : Nat) (h : L = bitLen M) (hk : k ≤ L) : hi M L k < 2 ^ k := by
  unfold hi
  have h2 := (bitLen_spec M).1
  rw [← h] at h2
  refine (Nat.div_lt_iff_lt_mul (Nat.two_pow_pos _)).2 ?_
  rw [← Nat.pow_add, show k + (L - k) = L by omega]
  exact h2
theorem hi_ge (M L k : Nat) (h : L = bitLen M) (hk : k ≤ L) (h0 : 0 < k) : 2 ^ (k - 1) ≤ hi M L k := by
  have hM : M ≠ 0 := fun e => by subst e; rw [show bitLen 0 = 0 by decide] at h; omega
  have h1 := (bitLen_spec M).2 hM
  rw [← h] at h1
  unfold hi
  refine (Nat.le_div_iff_mul_le (Nat.two_pow_pos _)).2 ?_
  rw [← Nat.pow_add, show k - 1 + (L - k) = L - 1 by omega]
  exact h1
/-- What the loop has of the word, behind k bits. -/
def lowK (M L k : Nat) : Nat := if L ≤ 53 then hi M L k * 2 ^ (L - k) else if k = 0 then 0 else (hi M L k - 2 ^ (k - 1)) * 2 ^ (53 - k)
theorem lowK_zero (M L : Nat) (h : L = bitLen M) : lowK M L 0 = 0 := by
  unfold lowK; rw [hi_zero M L h]; simp
theorem lowK_a (M L k : Nat) (hL : L ≤ 53) (hk : k < L) : lowK M L (k + 1) = lowK M L k + bit M (L - 1 - k) * 2 ^ (L - 1 - k) := by
  unfold lowK
  rw [if_pos hL, if_pos hL, hi_step M L k hk]
  have e : 2 ^ (L - k) = 2 * 2 ^ (L - 1 - k) := by rw [show L - k = (L - 1 - k) + 1 by omega, Nat.pow_succ, Nat.mul_comm]
  rw [e, show L - (k + 1) = L - 1 - k by omega, Nat.add_mul]
  congr 1
  rw [Nat.mul_comm 2 (hi M L k), Nat.mul_assoc]
theorem lowK_b0 (M L : Nat) (h : L = bitLen M) (hL : ¬ L ≤ 53) : lowK M L 1 = lowK M L 0 := by
  unfold lowK
  rw [if_neg hL, if_neg hL, if_pos rfl, if_neg (by decide), (hi_first M L h (by omega)).1]
  try simp
theorem lowK_b (M L k : Nat) (h : L = bitLen M) (hL : ¬ L ≤ 53) (hk : k < 53) (h0 : 0 < k) : lowK M L (k + 1) = lowK M L k + bit M (L - 1 - k) * 2 ^ (52 - k) := by
  unfold lowK
  rw [if_neg hL, if_neg hL, if_neg (by omega), if_neg (by omega), hi_step M L k (by omega)]
  have hg := hi_ge M L k h (by omega) h0
  have e1 : 2 ^ k = 2 * 2 ^ (k - 1) := by
    obtain ⟨j, rfl⟩ : ∃ j, k = j + 1 := ⟨k - 1, by omega⟩
    rw [Nat.add_sub_cancel, Nat.pow_succ, Nat.mul_comm]
  have e2 : 2 ^ (53 - k) = 2 * 2 ^ (52 - k) := by rw [show 53 - k = (52 - k) + 1 by omega, Nat.pow_succ, Nat.mul_comm]
  rw [show k + 1 - 1 = k by omega, show 53 - (k + 1) = 52 - k by omega, e1, e2]
  generalize 2 ^ (k - 1) = p at *
  generalize 2 ^ (52 - k) = q at *
  generalize hi M L k = H at *
  generalize bit M (L - 1 - k) = b at *
  obtain ⟨d, rfl⟩ : ∃ d, H = p + d := ⟨H - p, by omega⟩
  rw [show 2 * (p + d) + b - 2 * p = 2 * d + b by omega, Nat.add_sub_cancel_left, Nat.add_mul, Nat.mul_comm 2 d, Nat.mul_assoc]
theorem lowK_lt (M L k : Nat) (h : L = bitLen M) (hk : k ≤ L) (hk2 : k ≤ 53) : lowK M L k < 9007199254740992 := by
  unfold lowK
  have hl := hi_lt M L k h hk
  by_cases hL : L ≤ 53
  · rw [if_pos hL]
    have h1 : hi M L k * 2 ^ (L - k) < 2 ^ k * 2 ^ (L - k) := Nat.mul_lt_mul_of_pos_right hl (Nat.two_pow_pos _)
    rw [← Nat.pow_add, show k + (L - k) = L by omega] at h1
    have : 2 ^ L ≤ 2 ^ 53 := Nat.pow_le_pow_right (by decide) hL
    rw [show (2 : Nat) ^ 53 = 9007199254740992 from rfl] at this
    omega
  · rw [if_neg hL]
    split
    · decide
    · rename_i h0
      have h1 : (hi M L k - 2 ^ (k - 1)) * 2 ^ (53 - k) < 2 ^ k * 2 ^ (53 - k) := Nat.mul_lt_mul_of_pos_right (by have := Nat.two_pow_pos (k - 1); omega) (Nat.two_pow_pos _)
      rw [← Nat.pow_add, show k + (53 - k) = 53 by omega, show (2 : Nat) ^ 53 = 9007199254740992 from rfl] at h1
      exact h1
theorem low_a (M L : Nat) (h : L = bitLen M) (hL : L ≤ 53) : lowK M L L = lo M := by
  unfold lowK lo drop hi
  rw [if_pos hL, ← h, show L - 53 = 0 by omega, Nat.sub_self]; simp
theorem low_b (M L : Nat) (h : L = bitLen M) (hL : ¬ L ≤ 53) : lowK M L 53 + (L - 52) * 4503599627370496 = lo M := by
  unfold lowK lo drop
  have hg := hi_ge M L 53 h (by omega) (by decide)
  rw [if_neg hL, if_neg (by decide), ← h]
  unfold hi at *
  rw [show (2 : Nat) ^ (53 - 1) = 4503599627370496 from rfl] at *
  rw [show (2 : Nat) ^ (53 - 53) = 1 from rfl, Nat.mul_one]
  omega
theorem lo_lt64 (M : Nat) (hM : M < top) : lo M < 18446744073709551616 := by
  have h1 := quot_lt M
  have h2 := len_le M hM
  unfold lo drop at *
  omega
theorem sub_top (M v : Nat) (hM : M < top) (hv : v ≤ M) : (M + neg v) % top = M - v := by
  unfold neg
  by_cases h0 : v = 0
  · subst h0
    rw [Nat.sub_zero, Nat.mod_self, Nat.add_zero, Nat.sub_zero, Nat.mod_eq_of_lt hM]
  · rw [Nat.mod_eq_of_lt (a := top - v) (by omega), show M + (top - v) = (M - v) + top by omega, Nat.add_mod_right, Nat.mod_eq_of_lt (by omega)]
/-- Is the next one nearer? -/
theorem up_cond (M : Nat) : (decide (val (lo M + 1) - M < M - val (lo M)) || (!decide (M - val (lo M) < val (lo M + 1) - M) && decide (lo M % 2 = 1))) = rup M (drop M) := by
  have h := lo_le M
  have u := up_iff M
  rw [Bool.eq_iff_iff, u]
  simp only [Bool.or_eq_true, Bool.and_eq_true, Bool.not_eq_true', decide_eq_true_eq, decide_eq_false_iff_not]
  omega
theorem rnd_up (M : Nat) : rnd M = lo M + (if rup M (drop M) = true then 1 else 0) := by
  rcases rnd_cases M with ⟨h, e⟩ | ⟨h, e⟩
  · rw [e, h, if_pos rfl]
  · rw [e, h, if_neg (by decide), Nat.add_zero]
theorem pow_les (m S a b c : Nat) (hm : m ≤ 2 ^ a) (hS : S ≤ b) (hc : a + b ≤ c) : m * 2 ^ S ≤ 2 ^ c := by
  have h1 : m * 2 ^ S ≤ 2 ^ a * 2 ^ b := Nat.mul_le_mul hm (Nat.pow_le_pow_right (by decide) hS)
  rw [← Nat.pow_add] at h1
  exact Nat.le_trans h1 (Nat.pow_le_pow_right (by decide) hc)
theorem small_top (m S : Nat) (hm : m ≤ 9007199254740992) (hS : S ≤ 2046) : m * 2 ^ S ≤ top := by
  have h := pow_les m S 53 2046 2240 hm hS (by decide)
  rw [top_bits]
  exact h
theorem val_inf : val 9218868437227405312 < top := by
  have h : val 9218868437227405312 = 4503599627370496 * 2 ^ 2046 := by
    have hm : mant 9218868437227405312 = 4503599627370496 := by decide
    have hs : shf 9218868437227405312 = 2046 := by decide
    unfold val
    rw [hm, hs]
  rw [h, top_bits]
  exact mul_lts 4503599627370496 52 2046 2240 rfl (by decide)
end Qb
end Go.Proofs.Ytbimfopbilcdgaa

set_option linter.unusedSimpArgs false
set_option linter.unusedVariables false
set_option maxRecDepth 100000
namespace Go.Proofs.Ytbimfopbilcdgaa
open Go.RowKit Sm Qb

theorem Qb.Bw.drew {w0 w : World} {B g n k : Nat} (H : Bw w0 B g n k w) : Bw w0 B g n k w.drew := ⟨below_drewN H.below 1, H.row⟩
theorem make_bits : ∀ w' : World, (Instr.makeSlice 32 (.int .i64 2240) (.int .i64 2240)).run Try.prog w' = .ok (.slice (some ⟨w'.heap.size, 0, none⟩) 2240 2240) (w'.alloc (.cells (bys (List.replicate 2240 0)).toArray 5)) := make_bys 2240 (by decide)

set_option maxHeartbeats 2000000 in
theorem radd_any (A1 A2 : Option Addr) (C1 C2 m n : Nat) (w : World) (H1 : Hid (BitAt w A1 m)) (H2 : Hid (BitAt w A2 n)) :
    Calls Try.prog 125 #[.slice A1 2240 C1, .slice A2 2240 C2] w (BitEnds w.heap.size w ((m + n) % top)) := by
  obtain ⟨g1, o1, rfl, hg1, hc1⟩ := H1.out.get
  obtain ⟨g2, o2, rfl, hg2, hc2⟩ := H2.out.get
  have HC1 := Lib.hid hc1
  have HC2 := Lib.hid hc2
  clear hc1 hc2
  have hmk := make_bits
  have HS := Lib.hid (Bw.start w ((m + n) % top))
  obtain ⟨N, hN⟩ : ∃ N, N = (m + n) % top := ⟨_, rfl⟩
  rw [← hN] at HS ⊢
  have HN := Lib.hid hN
  clear hN
  generalize bys (List.replicate 2240 0) = Z at *
  go_enter Try.func125, Try.ntmps125
  go_wp2
  clear hmk
  go_loopw [6, 7] (fun c i wr => ∃ k : Nat, k ≤ 2240 ∧ i = .int .i64 k ∧ c = .int .u8 (cy m n k : Nat) ∧ Bw w w.heap.size w.heap.size N k wr) (fun _ i _ => 2240 - (intOf i).toNat)
  case atStart => exact ⟨0, by omega, rfl, by rw [cy_zero]; rfl, HS.out⟩
  case round =>
    obtain ⟨k, hk, rfl, rfl, hB⟩ := hrel
    have HB := Lib.hid hB
    clear hB
    by_cases hlt : k < 2240
    · have c1 : wr.cell? ⟨g1, o1 + k, none⟩ = some (.int .u8 (bit m k : Nat)) := (HB.out.below.cell (p := ⟨g1, o1 + k, none⟩) hg1).trans (HC1.out k hlt)
      have c2 : wr.cell? ⟨g2, o2 + k, none⟩ = some (.int .u8 (bit n k : Nat)) := (HB.out.below.cell (p := ⟨g2, o2 + k, none⟩) hg2).trans (HC2.out k hlt)
      have hl : k < (bys (bl N k)).length := by rw [bys_length, bl_len]; exact hlt
      have c3 := row_cell HB.out.row k hl
      have f3 := row_frozen HB.out.row k
      have HV := Lib.hid (show bit N k = (bit m k + bit n k + cy m n k) % 2 from (by rw [HN.out]; exact bit_sum m n k hlt))
      have HY := Lib.hid (cy_succ m n k)
      have b1 := bit_le m k
      have b2 := bit_le n k
      have b3 := cy_le m n k
      generalize bit m k = X at *
      generalize bit n k = Y at *
      generalize cy m n k = T at *
      generalize (bys (bl N k))[k] = y at *
      clear hl
      go_wp2_with (first | go_region | go_quiet (fail))
      go_roundw
      case rel => exact ⟨k + 1, by omega, by go_num, by rw [HY.out]; first | rfl | (simp only [Value.int.injEq, true_and]; omega), by first | exact (HB.out.step (Nat.le_refl _) hlt _ (by rw [HV.out]; try omega)).drew | exact HB.out.step (Nat.le_refl _) hlt _ (by rw [HV.out]; try omega)⟩
      case measure => simp [intOf]; omega
    · have hk2 : k = 2240 := by omega
      subst hk2
      rw [show ((2240 : Nat) : Int) = (2240 : Int) from rfl]
      go_wp2
      go_ret
      exact ⟨_, _, rfl, HB.out.bits, HB.out.below⟩

set_option maxHeartbeats 2000000 in
theorem rturn_any (A1 : Option Addr) (C1 n : Nat) (hn : n ≤ top) (w : World) (H1 : Hid (BitAt w A1 n)) :
    Calls Try.prog 124 #[.slice A1 2240 C1] w (BitEnds w.heap.size w (neg n)) := by
  obtain ⟨g1, o1, rfl, hg1, hc1⟩ := H1.out.get
  have HC1 := Lib.hid hc1
  clear hc1
  have hmk := make_bits
  have HS := Lib.hid (Bw.start w (neg n))
  have HBN := Lib.hid (fun k (hk : k < 2240) => bit_neg n k hn hk)
  clear hn
  obtain ⟨N, hN⟩ : ∃ N, N = neg n := ⟨_, rfl⟩
  rw [← hN] at HS HBN ⊢
  clear hN
  generalize bys (List.replicate 2240 0) = Z at *
  go_enter Try.func124, Try.ntmps124
  go_wp2
  clear hmk
  go_loopw [4, 5] (fun c i wr => ∃ k : Nat, k ≤ 2240 ∧ i = .int .i64 k ∧ c = .int .u8 (zc n k : Nat) ∧ Bw w w.heap.size w.heap.size N k wr) (fun _ i _ => 2240 - (intOf i).toNat)
  case atStart => exact ⟨0, by omega, rfl, by rw [zc_zero]; rfl, HS.out⟩
  case round =>
    obtain ⟨k, hk, rfl, rfl, hB⟩ := hrel
    have HB := Lib.hid hB
    clear hB
    by_cases hlt : k < 2240
    · have c1 : wr.cell? ⟨g1, o1 + k, none⟩ = some (.int .u8 (bit n k : Nat)) := (HB.out.below.cell (p := ⟨g1, o1 + k, none⟩) hg1).trans (HC1.out k hlt)
      have hl : k < (bys (bl N k)).length := by rw [bys_length, bl_len]; exact hlt
      have c3 := row_cell HB.out.row k hl
      have f3 := row_frozen HB.out.row k
      have HV := Lib.hid (HBN.out k hlt)
      have HY := Lib.hid (zc_succ n k)
      have b1 := bit_le n k
      have b3 := zc_le n k
      generalize bit n k = X at *
      generalize zc n k = T at *
      generalize (bys (bl N k))[k] = y at *
      clear hl
      go_wp2_with (first | go_region | go_quiet (fail))
      go_roundw
      case rel => exact ⟨k + 1, by omega, by go_num, by rw [HY.out]; first | rfl | (simp only [Value.int.injEq, true_and]; omega), by first | exact (HB.out.step (Nat.le_refl _) hlt _ (by rw [HV.out]; try omega)).drew | exact HB.out.step (Nat.le_refl _) hlt _ (by rw [HV.out]; try omega)⟩
      case measure => simp [intOf]; omega
    · have hk2 : k = 2240 := by omega
      subst hk2
      rw [show ((2240 : Nat) : Int) = (2240 : Int) from rfl]
      go_wp2
      go_ret
      exact ⟨_, _, rfl, HB.out.bits, HB.out.below⟩
end Go.Proofs.Ytbimfopbilcdgaa

set_option linter.unusedSimpArgs false
set_option linter.unusedVariables false
set_option maxRecDepth 100000
namespace Go.Proofs.Ytbimfopbilcdgaa
open Go.RowKit Sm Qb
namespace Qb
/-- A number's bits, moved up. -/
theorem bit_up (x S j : Nat) : bit (x * 2 ^ S) j = if j < S then 0 else bit x (j - S) := by
  unfold bit
  by_cases h : j < S
  · rw [if_pos h]
    obtain ⟨d, rfl⟩ : ∃ d, S = j + (d + 1) := ⟨S - j - 1, by omega⟩
    rw [Nat.pow_add, ← Nat.mul_assoc, Nat.mul_right_comm, Nat.mul_div_cancel _ (Nat.two_pow_pos j), Nat.pow_succ, ← Nat.mul_assoc, Nat.mul_mod_left]
  · rw [if_neg h]
    obtain ⟨d, rfl⟩ : ∃ d, j = S + d := ⟨j - S, by omega⟩
    rw [Nat.pow_add, ← Nat.div_div_eq_div_mul, Nat.mul_div_cancel _ (Nat.two_pow_pos S), Nat.add_sub_cancel_left]
theorem bit_low (m i t : Nat) : bit (m % 2 ^ i) t = if t < i then bit m t else 0 := by
  by_cases h : t < i
  · rw [if_pos h, bit_mod _ _ _ h]
  · rw [if_neg h]
    unfold bit
    have h1 := Nat.mod_lt m (Nat.two_pow_pos i)
    have h2 : 2 ^ i ≤ 2 ^ t := Nat.pow_le_pow_right (by decide) (by omega)
    rw [Nat.div_eq_of_lt (by omega)]
theorem bl_up (m S i : Nat) (h : S + i < 2240) : (bl (m % 2 ^ i * 2 ^ S) 2240).set (S + i) (bit m i) = bl (m % 2 ^ (i + 1) * 2 ^ S) 2240 := by
  apply List.ext_getElem?
  intro j
  rw [List.getElem?_set]
  by_cases hj : j < 2240
  · rw [bl_at _ _ _ hj, bl_at _ _ _ hj, if_pos hj, if_pos hj, bl_len, bit_up, bit_up, bit_low, bit_low]
    by_cases e : S + i = j
    · subst e
      rw [if_pos rfl, if_pos hj, if_neg (by omega), Nat.add_sub_cancel_left, if_pos (by omega)]
    · rw [if_neg e]
      by_cases h1 : j < S
      · rw [if_pos h1, if_pos h1]
      · rw [if_neg h1, if_neg h1]
        by_cases h2 : j - S < i
        · rw [if_pos h2, if_pos (by omega)]
        · rw [if_neg h2, if_neg (by omega)]
  · rw [if_neg (by omega), List.getElem?_eq_none (by rw [bl_len]; omega), List.getElem?_eq_none (by rw [bl_len]; omega)]
theorem Bw.up {w0 w : World} {B g m S i : Nat} (H : Bw w0 B g (m % 2 ^ i * 2 ^ S) 2240 w) (hg : B ≤ g) (h : S + i < 2240) (v : Int) (hv : v = ((bit m i : Nat) : Int)) (j : Nat) (hj : j = S + i) :
    Bw w0 B g (m % 2 ^ (i + 1) * 2 ^ S) 2240 (w.setCell ⟨g, j, none⟩ (.int .u8 v)) := by
  subst hv; subst hj
  refine ⟨H.below.setCell (by show _ ≤ g; omega) _, ?_⟩
  rw [← bl_up m S i h, bys_set]
  exact row_set H.row _ _
theorem Bw.start0 (w : World) (m S : Nat) : Bw w w.heap.size w.heap.size (m % 2 ^ 0 * 2 ^ S) 2240 (w.alloc (.cells (bys (List.replicate 2240 0)).toArray 5)) :=
  ⟨(Below.refl _ _).alloc (Nat.le_refl _) _, by rw [Nat.pow_zero, Nat.mod_one, Nat.zero_mul, bl_none]; exact heap_alloc_new' w _⟩
theorem cast_bit (m i : Nat) : (m : Int) / 2 ^ i % 2 = ((bit m i : Nat) : Int) := by
  unfold bit
  rw [Int.natCast_emod, Int.natCast_ediv, Int.natCast_pow]; rfl
theorem cast_bit8 (m i : Nat) : Int.tmod ((m : Int) / 2 ^ i) 2 % 256 = ((bit m i : Nat) : Int) := by
  have h := cast_bit m i
  have h0 : (0 : Int) ≤ (m : Int) / 2 ^ i := Int.ediv_nonneg (by omega) (Int.le_of_lt (Int.pow_pos (by decide)))
  rw [Int.tmod_eq_emod_of_nonneg h0, h]
  have := bit_le m i
  omega
theorem bit_top {m n k : Nat} (h : m / 2 ^ (k + 1) = n / 2 ^ (k + 1)) (h2 : bit m k ≠ bit n k) : decide (n < m) = decide (bit n k < bit m k) := by
  have hp := Nat.two_pow_pos k
  have e1 : m / 2 ^ k = 2 * (m / 2 ^ (k + 1)) + bit m k := by
    unfold bit; rw [Nat.pow_succ, ← Nat.div_div_eq_div_mul]; omega
  have e2 : n / 2 ^ k = 2 * (n / 2 ^ (k + 1)) + bit n k := by
    unfold bit; rw [Nat.pow_succ, ← Nat.div_div_eq_div_mul]; omega
  have b1 := bit_le m k
  have b2 := bit_le n k
  rw [decide_eq_decide]
  constructor
  · intro hl
    have := Nat.div_le_div_right (c := 2 ^ k) (Nat.le_of_lt hl)
    omega
  · intro hl
    rcases Nat.lt_or_ge n m with hc | hc
    · exact hc
    · have := Nat.div_le_div_right (c := 2 ^ k) hc
      omega
theorem div_same {m n k : Nat} (h : m / 2 ^ (k + 1) = n / 2 ^ (k + 1)) (h2 : bit m k = bit n k) : m / 2 ^ k = n / 2 ^ k := by
  have e1 : m / 2 ^ k = 2 * (m / 2 ^ (k + 1)) + bit m k := by
    unfold bit; rw [Nat.pow_succ, ← Nat.div_div_eq_div_mul]; omega
  have e2 : n / 2 ^ k = 2 * (n / 2 ^ (k + 1)) + bit n k := by
    unfold bit; rw [Nat.pow_succ, ← Nat.div_div_eq_div_mul]; omega
  omega
end Qb

set_option maxHeartbeats 2000000 in
/-- The bits of m, S places up: E is its exponent's field, M what is below it. -/
theorem whole_core (r E M m S : Nat) (hE : (r : Int) / 4503599627370496 % 2048 = (E : Int)) (hM : (r : Int) % 4503599627370496 = (M : Int)) (hM2 : M < 4503599627370496) (hr : r < 18446744073709551616) (hE2 : E < 2048)
    (h : E = 0 ∧ m = M ∧ S = 0 ∨ 0 < E ∧ m = M + 4503599627370496 ∧ S = E - 1) (w : World) :
    Calls Try.prog 126 #[.int .u64 (r : Int)] w (BitEnds w.heap.size w (m * 2 ^ S)) := by
  have hmk := make_bits
  have HS := Lib.hid (Bw.start0 w m S)
  have HM53 := Lib.hid (show m % 2 ^ 53 = m from Nat.mod_eq_of_lt (by rw [show (2 : Nat) ^ 53 = 9007199254740992 from rfl]; omega))
  generalize bys (List.replicate 2240 0) = Z at *
  rcases h with ⟨rfl, rfl, rfl⟩ | ⟨h0, hm2, hS2⟩
  · go_enter Try.func126, Try.ntmps126
    go_wp2
    clear hmk
    go_loopw [6] (fun i wr => ∃ k : Nat, k ≤ 53 ∧ i = .int .i64 k ∧ Bw w w.heap.size w.heap.size (m % 2 ^ k * 2 ^ 0) 2240 wr) (fun i _ => 53 - (intOf i).toNat)
    case atStart => exact ⟨0, by omega, rfl, HS.out⟩
    case round =>
      obtain ⟨k, hk, rfl, hB⟩ := hrel
      have HB := Lib.hid hB
      clear hB
      by_cases hlt : k < 53
      · have hl : k < (bys (bl (m % 2 ^ k * 2 ^ 0) 2240)).length := by rw [bys_length, bl_len]; omega
        have c3 := row_cell HB.out.row k hl
        have f3 := row_frozen HB.out.row k
        have hc := cast_bit m k
        have b1 := bit_le m k
        have HV := Lib.hid (show bit m k = bit m k from rfl)
        generalize (bys (bl (m % 2 ^ k * 2 ^ 0) 2240))[k] = y at *
        clear hl
        go_wp2
        go_roundw
        case rel => exact ⟨k + 1, by omega, by go_num, HB.out.up (Nat.le_refl _) (by omega) _ (by first | rfl | exact hc | exact cast_bit8 m k | omega) _ (by omega)⟩
        case measure => simp [intOf]; omega
      · have hk2 : k = 53 := by omega
        subst hk2
        rw [show ((53 : Nat) : Int) = (53 : Int) from rfl]
        go_wp2
        go_ret
        have hb := HB.out
        rw [HM53.out] at hb
        exact ⟨_, _, rfl, hb.bits, hb.below⟩
  · have hmI : (M : Int) + 4503599627370496 = (m : Int) := by omega
    have hSE : (E : Int) - 1 = (S : Int) := by omega
    clear hm2 hS2
    go_enter Try.func126, Try.ntmps126
    go_wp2
    clear hmk
    go_loopw [6] (fun i wr => ∃ k : Nat, k ≤ 53 ∧ i = .int .i64 k ∧ Bw w w.heap.size w.heap.size (m % 2 ^ k * 2 ^ S) 2240 wr) (fun i _ => 53 - (intOf i).toNat)
    case atStart => exact ⟨0, by omega, rfl, HS.out⟩
    case round =>
      obtain ⟨k, hk, rfl, hB⟩ := hrel
      have HB := Lib.hid hB
      clear hB
      by_cases hlt : k < 53
      · have hl : S + k < (bys (bl (m % 2 ^ k * 2 ^ S) 2240)).length := by rw [bys_length, bl_len]; omega
        have c3 := row_cell HB.out.row (S + k) hl
        have f3 := row_frozen HB.out.row (S + k)
        have hc := cast_bit m k
        have b1 := bit_le m k
        generalize (bys (bl (m % 2 ^ k * 2 ^ S) 2240))[S + k] = y at *
        have q0 : (0 : Int) ≤ (S : Int) + (k : Int) := by omega
        have q1 : (S : Int) + (k : Int) < 2240 := by omega
        have q2 : ((S : Int) + (k : Int)).toNat = S + k := by omega
        clear hl
        go_wp2
        go_roundw
        case rel => exact ⟨k + 1, by omega, by go_num, HB.out.up (Nat.le_refl _) (by omega) _ (by first | rfl | exact hc | exact cast_bit8 m k | omega) _ (by omega)⟩
        case measure => simp [intOf]; omega
      · have hk2 : k = 53 := by omega
        subst hk2
        rw [show ((53 : Nat) : Int) = (53 : Int) from rfl]
        go_wp2
        go_ret
        have hb := HB.out
        rw [HM53.out] at hb
        exact ⟨_, _, rfl, hb.bits, hb.below⟩
theorem whole_any (r : Nat) (hr : r ≤ 9218868437227405312) (w : World) : Calls Try.prog 126 #[.int .u64 (r : Int)] w (BitEnds w.heap.size w (Fl.val r)) := by
  unfold Fl.val Fl.mant Fl.shf
  by_cases h : r < 4503599627370496
  · rw [if_pos h, if_pos h]
    exact whole_core r 0 (r % 4503599627370496) r 0 (by omega) (by omega) (by omega) (by omega) (by omega) (.inl ⟨rfl, by omega, rfl⟩) w
  · rw [if_neg h, if_neg h]
    exact whole_core r (r / 4503599627370496) (r % 4503599627370496) _ _ (by omega) (by omega) (by omega) (by omega) (by omega) (.inr ⟨by omega, by omega, rfl⟩) w

set_option maxHeartbeats 2000000 in
theorem above_any (A1 A2 : Option Addr) (C1 C2 m n : Nat) (hm : m < top) (hn : n < top) (w : World) (H1 : Hid (BitAt w A1 m)) (H2 : Hid (BitAt w A2 n)) :
    Calls Try.prog 127 #[.slice A1 2240 C1, .slice A2 2240 C2] w fun e w' => e = .returned (.bool (decide (n < m))) ∧ Below w.heap.size w w' := by
  obtain ⟨g1, o1, rfl, hg1, hc1⟩ := H1.out.get
  obtain ⟨g2, o2, rfl, hg2, hc2⟩ := H2.out.get
  have HC1 := Lib.hid hc1
  have HC2 := Lib.hid hc2
  have HT : Hid (m / 2 ^ 2240 = n / 2 ^ 2240) := Lib.hid (by rw [← top_bits, Nat.div_eq_of_lt hm, Nat.div_eq_of_lt hn])
  clear hc1 hc2 hm hn
  go_enter Try.func127, Try.ntmps127
  go_wp2
  go_loopw [5] (fun i wr => ∃ k : Nat, k ≤ 2240 ∧ i = .int .i64 ((k : Int) - 1) ∧ m / 2 ^ k = n / 2 ^ k ∧ Below w.heap.size w wr) (fun i _ => (intOf i + 1).toNat)
  case atStart => exact ⟨2240, by omega, rfl, HT.out, Below.refl _ _⟩
  case round =>
    obtain ⟨k, hk, rfl, hmn, hB⟩ := hrel
    have HB := Lib.hid hB
    have HMN := Lib.hid hmn
    clear hB hmn
    by_cases hlt : 0 < k
    · obtain ⟨j, rfl⟩ : ∃ j, k = j + 1 := ⟨k - 1, by omega⟩
      have c1 : wr.cell? ⟨g1, o1 + j, none⟩ = some (.int .u8 (bit m j : Nat)) := (HB.out.cell (p := ⟨g1, o1 + j, none⟩) hg1).trans (HC1.out j (by omega))
      have c2 : wr.cell? ⟨g2, o2 + j, none⟩ = some (.int .u8 (bit n j : Nat)) := (HB.out.cell (p := ⟨g2, o2 + j, none⟩) hg2).trans (HC2.out j (by omega))
      have hj : ((j + 1 : Nat) : Int) - 1 = (j : Int) := by omega
      rw [hj]
      have HD := Lib.hid (fun h2 => bit_top (m := m) (n := n) (k := j) HMN.out h2)
      have HE := Lib.hid (fun h2 => div_same (m := m) (n := n) (k := j) HMN.out h2)
      have b1 := bit_le m j
      have b2 := bit_le n j
      generalize bit m j = X at *
      generalize bit n j = Y at *
      by_cases hxy : X = Y
      · subst hxy
        have HE2 := Lib.hid (HE.out rfl)
        clear HD
        go_wp2_with (first | go_region | go_quiet (fail))
        go_roundw
        case rel => exact ⟨j, by omega, by first | rfl | go_num, HE2.out, by first | exact HB.out | exact HB.out.drew | exact HB.out.drew.drew⟩
        case measure => simp [intOf]; try omega
      · have HD2 := Lib.hid (HD.out hxy)
        have hne : ((X : Int) == (Y : Int)) = false := by rw [beq_eq_false_iff_ne]; omega
        clear HE
        rcases Nat.lt_or_ge Y X with hyx | hyx
        · have hl2 : (decide ((Y : Int) < (X : Int))) = true := by rw [decide_eq_true_eq]; omega
          go_wp2_with (first | go_region | go_quiet (fail))
          go_ret
          exact ⟨ret_eq (congrArg Value.bool (by rw [HD2.out]; first | exact (decide_eq_true hyx).symm | exact (decide_eq_false (by omega)).symm | rfl)), by first | exact HB.out | exact HB.out.drew | exact HB.out.drew.drew⟩
        · have hl2 : (decide ((Y : Int) < (X : Int))) = false := by rw [decide_eq_false_iff_not]; omega
          go_wp2_with (first | go_region | go_quiet (fail))
          go_ret
          exact ⟨ret_eq (congrArg Value.bool (by have := HD2.out; rw [this]; try exact (decide_eq_false (by omega)).symm)), by first | exact HB.out | exact HB.out.drew | exact HB.out.drew.drew⟩
    · obtain rfl : k = 0 := by omega
      have HF : Hid (m = n) := Lib.hid (by have := HMN.out; simpa using this)
      rw [show ((0 : Nat) : Int) - 1 = -1 from rfl]
      go_wp2
      go_ret
      exact ⟨ret_eq (congrArg Value.bool (by rw [HF.out]; try simp)), HB.out⟩
end Go.Proofs.Ytbimfopbilcdgaa

