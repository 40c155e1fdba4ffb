/-
  CRC-32 as plain numbers: the code's halves of bytes, the document's bits, and what a turned bit does.
-/
import Derived.Test.YtamdonglbdmckaaDoorRows
set_option linter.unusedSimpArgs false
set_option linter.unusedVariables false
namespace Go.Proofs.YtamdonglbdmckaaDoor
namespace Pg

theorem xor_left (a b c : Nat) : a ^^^ (b ^^^ c) = b ^^^ (a ^^^ c) := by rw [← Nat.xor_assoc, Nat.xor_comm a b, Nat.xor_assoc]
theorem xor_same {x y : Nat} (h : x ^^^ y = 0) : x = y := by
  have h2 : x ^^^ (x ^^^ y) = x := by rw [h, Nat.xor_zero]
  rw [← Nat.xor_assoc, Nat.xor_self, Nat.zero_xor] at h2; exact h2.symm
theorem xor_mod (x y : Nat) : (x ^^^ y) % 2 = (x + y) % 2 := by
  have h := @Nat.xor_mod_two_eq_one x y
  omega
def poly : Nat := 3988292384
def full : Nat := 4294967295
/-- A bit's step. -/
def step (x : Nat) : Nat := if x % 2 = 1 then x / 2 ^^^ poly else x / 2
def steps : Nat → Nat → Nat
  | 0, x => x
  | n + 1, x => steps n (step x)

theorem step_xor (x y : Nat) : step (x ^^^ y) = step x ^^^ step y := by
  have hm : (x ^^^ y) % 2 = (x + y) % 2 := xor_mod x y
  have hd : (x ^^^ y) / 2 = x / 2 ^^^ y / 2 := Nat.xor_div_two
  unfold step
  rw [hd, hm]
  by_cases hx : x % 2 = 1 <;> by_cases hy : y % 2 = 1
  · rw [if_neg (by omega), if_pos hx, if_pos hy, show (x / 2 ^^^ poly) ^^^ (y / 2 ^^^ poly) = (x / 2 ^^^ y / 2) ^^^ (poly ^^^ poly) by simp only [Nat.xor_assoc, Nat.xor_comm, xor_left], Nat.xor_self, Nat.xor_zero]
  · rw [if_pos (by omega), if_pos hx, if_neg hy]; simp only [Nat.xor_assoc, Nat.xor_comm, xor_left]
  · rw [if_pos (by omega), if_neg hx, if_pos hy]; simp only [Nat.xor_assoc]
  · rw [if_neg (by omega), if_neg hx, if_neg hy]
theorem steps_xor : ∀ (n x y : Nat), steps n (x ^^^ y) = steps n x ^^^ steps n y
  | 0, _, _ => rfl
  | n + 1, x, y => by show steps n (step (x ^^^ y)) = _; rw [step_xor, steps_xor n]; rfl
theorem step_two (y : Nat) : step (2 * y) = y := by unfold step; rw [if_neg (by omega)]; omega
theorem steps_add : ∀ (m n x : Nat), steps (m + n) x = steps n (steps m x)
  | 0, n, x => by rw [Nat.zero_add]; rfl
  | m + 1, n, x => by rw [Nat.succ_add]; exact steps_add m n (step x)
theorem steps_pow : ∀ (n y : Nat), steps n (2 ^ n * y) = y
  | 0, y => by simp [steps]
  | n + 1, y => by
    show steps n (step (2 ^ (n + 1) * y)) = y
    rw [Nat.pow_succ, show 2 ^ n * 2 * y = 2 * (2 ^ n * y) by rw [Nat.mul_comm (2 ^ n) 2, Nat.mul_assoc], step_two, steps_pow n]
theorem steps_zero : ∀ n : Nat, steps n 0 = 0
  | 0 => rfl
  | n + 1 => steps_zero n
theorem step_lt {x : Nat} (h : x < 4294967296) : step x < 4294967296 := by
  unfold step
  split
  · exact Nat.xor_lt_two_pow (n := 32) (by omega) (by decide)
  · omega
theorem steps_lt : ∀ (n : Nat) {x : Nat}, x < 4294967296 → steps n x < 4294967296
  | 0, _, h => h
  | n + 1, _, h => steps_lt n (step_lt h)
theorem step_ne {x : Nat} (h : x < 4294967296) (h0 : x ≠ 0) : step x ≠ 0 := by
  unfold step
  split
  · intro e
    have e2 : x / 2 = poly := xor_same e
    unfold poly at e2; omega
  · omega
theorem steps_ne : ∀ (n : Nat) {x : Nat}, x < 4294967296 → x ≠ 0 → steps n x ≠ 0
  | 0, _, _, h0 => h0
  | n + 1, _, h, h0 => steps_ne n (step_lt h) (step_ne h h0)
theorem steps_inj (n : Nat) {x y : Nat} (hx : x < 4294967296) (hy : y < 4294967296) (h : steps n x = steps n y) : x = y := by
  rcases Nat.decEq (x ^^^ y) 0 with h0 | h0
  · exact absurd (by rw [steps_xor, h, Nat.xor_self]) (steps_ne n (Nat.xor_lt_two_pow (n := 32) hx hy) h0)
  · exact xor_same h0
/-- A number's upper part and its lower bits. -/
theorem split_xor (k x : Nat) : x = 2 ^ k * (x / 2 ^ k) ^^^ x % 2 ^ k := by
  apply Nat.eq_of_testBit_eq
  intro i
  rw [Nat.testBit_xor, Nat.testBit_two_pow_mul, Nat.testBit_mod_two_pow]
  by_cases h : k ≤ i
  · rw [Nat.testBit_div_two_pow]
    simp [h, show ¬ i < k by omega, Nat.sub_add_cancel h, Nat.add_sub_cancel' h]
  · simp [h, show i < k by omega]
theorem steps_split (k x : Nat) : steps k x = x / 2 ^ k ^^^ steps k (x % 2 ^ k) := by
  conv => lhs; rw [split_xor k x]
  rw [steps_xor, steps_pow]

/-- The table of the halves. -/
def half (i : Nat) : Nat := (#[0, 498536548, 997073096, 651767980, 1994146192, 1802195444, 1303535960, 1342533948, 3988292384, 4027552580, 3604390888, 3412177804, 2607071920, 2262029012, 2685067896, 3183342108] : Array Nat).getD i 0
theorem half_steps : ∀ i : _root_.Fin 16, half i.val = steps 4 i.val := by decide +kernel
theorem half_lt : ∀ i : _root_.Fin 16, half i.val < 4294967296 := by decide +kernel
theorem by_half (x : Nat) : x / 16 ^^^ half (x % 16) = steps 4 x := by
  rw [steps_split 4 x, half_steps ⟨x % 16, Nat.mod_lt _ (by decide)⟩]

/-- The rest behind a byte; behind bytes; the sum of bytes. -/
def byteOn (c b : Nat) : Nat := steps 8 (c ^^^ b)
def on (c : Nat) (l : List Nat) : Nat := l.foldl byteOn c
def sum (l : List Nat) : Nat := on full l ^^^ full
theorem byteOn_half (c b : Nat) : byteOn c b = steps 4 (c ^^^ b) / 16 ^^^ half (steps 4 (c ^^^ b) % 16) := by
  rw [by_half]; exact steps_add 4 4 _
theorem byteOn_lt {c b : Nat} (hc : c < 4294967296) (hb : b < 256) : byteOn c b < 4294967296 := steps_lt 8 (Nat.xor_lt_two_pow (n := 32) hc (by omega))
theorem on_lt : ∀ (l : List Nat) {c : Nat}, c < 4294967296 → (∀ x ∈ l, x < 256) → on c l < 4294967296
  | [], _, h, _ => h
  | b :: l, c, h, hl => on_lt l (byteOn_lt h (hl b (by simp))) (fun x hx => hl x (by simp [hx]))
theorem sum_lt {l : List Nat} (h : ∀ x ∈ l, x < 256) : sum l < 4294967296 := Nat.xor_lt_two_pow (n := 32) (on_lt l (by decide) h) (by decide)
theorem on_snoc (c : Nat) (l : List Nat) (b : Nat) : on c (l ++ [b]) = byteOn (on c l) b := by unfold on; rw [List.foldl_append]; rfl

/-- The document's way: bit by bit. -/
def bitOn (c b : Nat) : Nat → Nat
  | 0 => c
  | k + 1 => if (bitOn c b k ^^^ b / 2 ^ k) % 2 = 1 then bitOn c b k / 2 ^^^ poly else bitOn c b k / 2
theorem bitOn_steps (c b : Nat) : ∀ k : Nat, steps k (c ^^^ b) = bitOn c b k ^^^ b / 2 ^ k
  | 0 => by simp [steps, bitOn]
  | k + 1 => by
    rw [steps_add k 1, bitOn_steps c b k]
    show step _ = _
    have hd : (bitOn c b k ^^^ b / 2 ^ k) / 2 = bitOn c b k / 2 ^^^ b / 2 ^ (k + 1) := by rw [Nat.xor_div_two, Nat.div_div_eq_div_mul, Nat.pow_succ]
    unfold step
    show _ = (if (bitOn c b k ^^^ b / 2 ^ k) % 2 = 1 then bitOn c b k / 2 ^^^ poly else bitOn c b k / 2) ^^^ b / 2 ^ (k + 1)
    rw [hd]
    split
    · simp only [Nat.xor_assoc, Nat.xor_comm, xor_left]
    · rfl
theorem bitOn_byte (c b : Nat) (hb : b < 256) : bitOn c b 8 = byteOn c b := by
  unfold byteOn
  rw [bitOn_steps c b 8, show b / 2 ^ 8 = 0 by omega, Nat.xor_zero]
theorem bitOn_lt (c b : Nat) (hc : c < 4294967296) : ∀ k : Nat, bitOn c b k < 4294967296
  | 0 => hc
  | k + 1 => by
    have h := bitOn_lt c b hc k
    unfold bitOn
    split
    · exact Nat.xor_lt_two_pow (n := 32) (by omega) (by decide)
    · omega

/-! Bytes as one number -/
def val : List Nat → Nat
  | [] => 0
  | b :: l => b + 256 * val l
theorem val_cons_xor (b : Nat) (l : List Nat) (hb : b < 256) : val (b :: l) = b ^^^ 256 * val l := by
  have h := split_xor 8 (b + 256 * val l)
  rw [show (b + 256 * val l) / 2 ^ 8 = val l by omega, show (b + 256 * val l) % 2 ^ 8 = b by omega] at h
  show b + 256 * val l = _
  rw [h]; exact Nat.xor_comm _ _
theorem on_val : ∀ (l : List Nat) (c : Nat), (∀ x ∈ l, x < 256) → on c l = steps (8 * l.length) (c ^^^ val l)
  | [], c, _ => by simp [on, val, steps]
  | b :: l, c, h => by
    show on (byteOn c b) l = _
    rw [on_val l _ (fun x hx => h x (by simp [hx])), val_cons_xor b l (h b (by simp)), List.length_cons, Nat.mul_succ, Nat.add_comm (8 * l.length) 8, steps_add 8]
    rw [← Nat.xor_assoc, steps_xor 8 (c ^^^ b), show 256 * val l = 2 ^ 8 * val l from rfl, steps_pow 8]; rfl
theorem val_append : ∀ (l m : List Nat), val (l ++ m) = val l + 256 ^ l.length * val m
  | [], m => by simp [val]
  | b :: l, m => by
    show b + 256 * val (l ++ m) = b + 256 * val l + 256 ^ (l.length + 1) * val m
    rw [val_append l m, Nat.pow_succ, Nat.mul_comm (256 ^ l.length) 256, Nat.mul_assoc]; omega
theorem val_lt : ∀ (l : List Nat), (∀ x ∈ l, x < 256) → val l < 256 ^ l.length
  | [], _ => by simp [val]
  | b :: l, h => by
    have h1 := h b (by simp)
    have h2 := val_lt l (fun x hx => h x (by simp [hx]))
    show b + 256 * val l < 256 ^ (l.length + 1)
    rw [Nat.pow_succ]; omega
/-- A number as four bytes. -/
def four (n : Nat) : List Nat := [n % 256, n / 256 % 256, n / 65536 % 256, n / 16777216 % 256]
theorem val_four (n : Nat) (h : n < 4294967296) : val (four n) = n := by unfold four val val val val val; omega
theorem four_lt (n : Nat) : ∀ x ∈ four n, x < 256 := by
  intro x hx; unfold four at hx; simp at hx; omega
theorem four_val : ∀ (l : List Nat), l.length = 4 → (∀ x ∈ l, x < 256) → four (val l) = l
  | [a, b, c, d], _, h => by
    have h1 := h a (by simp); have h2 := h b (by simp); have h3 := h c (by simp); have h4 := h d (by simp)
    show [_, _, _, _] = _
    simp only [val]
    rw [show (a + 256 * (b + 256 * (c + 256 * (d + 256 * 0)))) % 256 = a by omega, show (a + 256 * (b + 256 * (c + 256 * (d + 256 * 0)))) / 256 % 256 = b by omega,
      show (a + 256 * (b + 256 * (c + 256 * (d + 256 * 0)))) / 65536 % 256 = c by omega, show (a + 256 * (b + 256 * (c + 256 * (d + 256 * 0)))) / 16777216 % 256 = d by omega]
/-- Bytes with a sum behind them: the sum is theirs just if the whole leaves what it must. -/
theorem whole_iff (l m : List Nat) (hl : ∀ x ∈ l, x < 256) (hm : ∀ x ∈ m, x < 256) (h4 : m.length = 4) : val m = sum l ↔ on full (l ++ m) = steps 32 full := by
  have hmv := val_lt m hm
  rw [h4] at hmv
  have h1 : on full (l ++ m) = steps 32 (on full l ^^^ val m) := by
    unfold on; rw [List.foldl_append]
    show on (on full l) m = _
    rw [on_val m _ hm, h4]; rfl
  rw [h1]
  have hs := on_lt l (c := full) (by decide) hl
  constructor
  · intro h
    rw [h]; unfold sum
    rw [← Nat.xor_assoc, Nat.xor_self, Nat.zero_xor]
  · intro h
    have := steps_inj 32 (Nat.xor_lt_two_pow (n := 32) hs (by omega)) (by decide) h
    show val m = on full l ^^^ full
    generalize on full l = z at this ⊢
    rw [← this, ← Nat.xor_assoc, Nat.xor_self, Nat.zero_xor]
/-- Bytes of which some were turned: the rest is the turned one's too. -/
theorem on_turned (l l' : List Nat) (q s : Nat) (hl : ∀ x ∈ l, x < 256) (hl' : ∀ x ∈ l', x < 256) (hn : l'.length = l.length) (hv : val l' = val l ^^^ 2 ^ s * q) (hs : s ≤ 8 * l.length) :
    on full l' = on full l ^^^ steps (8 * l.length - s) q := by
  rw [on_val l' _ hl', on_val l _ hl, hn, hv, ← Nat.xor_assoc, steps_xor]
  congr 1
  obtain ⟨d, hd⟩ : ∃ d, 8 * l.length = s + d := ⟨8 * l.length - s, by omega⟩
  rw [hd, steps_add, steps_pow, Nat.add_sub_cancel_left]
theorem turned_ne (l l' : List Nat) (q s : Nat) (hl : ∀ x ∈ l, x < 256) (hl' : ∀ x ∈ l', x < 256) (hn : l'.length = l.length) (hv : val l' = val l ^^^ 2 ^ s * q) (hs : s ≤ 8 * l.length) (hq : q < 4294967296) (h0 : q ≠ 0) :
    on full l' ≠ on full l := by
  rw [on_turned l l' q s hl hl' hn hv hs]
  intro h
  have h2 : on full l ^^^ (on full l ^^^ steps (8 * l.length - s) q) = 0 := by rw [h, Nat.xor_self]
  rw [← Nat.xor_assoc, Nat.xor_self, Nat.zero_xor] at h2
  exact steps_ne _ hq h0 h2
end Pg
end Go.Proofs.YtamdonglbdmckaaDoor
