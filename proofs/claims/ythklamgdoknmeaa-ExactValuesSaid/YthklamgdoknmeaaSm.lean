/-
  Plain facts on a whole number of 35 words: its words, sums, the number with the other sign. No program stands here.
-/
import Derived.Test.YthklamgdoknmeaaFm
set_option linter.unusedSimpArgs false
set_option linter.unusedVariables false
set_option maxRecDepth 8000
namespace Go.Proofs.Ythklamgdoknmeaa.Sm

/-- The powers of a word's reach. -/
def pw (k : Nat) : Nat := 2 ^ (64 * k)
theorem pw_pos (k : Nat) : 0 < pw k := Nat.two_pow_pos _
theorem pw_zero : pw 0 = 1 := rfl
theorem pw_dvd (i j : Nat) (h : i ≤ j) : pw i ∣ pw j := Nat.pow_dvd_pow 2 (by omega)
/-- The words of a number. -/
def wd (n i : Nat) : Nat := n / pw i % 18446744073709551616
/-- Below it lie all numbers of 35 words. -/
def top : Nat := pw 35
/-- 35 cells. -/
def A35 (f : Nat → Nat) : Array Value := Array.ofFn (n := 35) fun i => Value.int .u64 (f i)
/-- A sum's cells. -/
def S36 (n h : Nat) : Array Value := (A35 (wd n)).push (.int .u8 h)
/-- The words below k of one, the others of another. -/
def mix (k a b i : Nat) : Nat := if i < k then wd a i else wd b i

theorem A35_size (f : Nat → Nat) : (A35 f).size = 35 := by simp [A35]
theorem A35_get (f : Nat → Nat) (i : Nat) (h : i < 35) : (A35 f)[i]? = some (.int .u64 (f i)) := by
  simp [A35, h]
theorem A35_congr {f g : Nat → Nat} (h : ∀ i, i < 35 → f i = g i) : A35 f = A35 g := by
  unfold A35
  congr 1
  funext i
  rw [h i i.isLt]
theorem A35_set (f : Nat → Nat) (k x : Nat) : (A35 f).setIfInBounds k (.int .u64 (x : Int)) = A35 (fun i => if i = k then x else f i) := by
  apply Array.ext_getElem?
  intro i
  rw [Array.getElem?_setIfInBounds]
  by_cases h : i < 35
  · rw [A35_get _ i h, A35_get _ i h]
    by_cases e : k = i
    · subst e
      simp [A35_size, h]
    · rw [if_neg e, if_neg (fun h => e h.symm)]
  · have h1 : ∀ g, (A35 g)[i]? = none := fun g => Array.getElem?_eq_none (by rw [A35_size]; omega)
    rw [h1, h1]
    by_cases e : k = i
    · subst e
      simp [A35_size, h]
    · rw [if_neg e]
theorem mix_zero (a b : Nat) : mix 0 a b = wd b := by funext i; simp [mix]
theorem mix_all (a b : Nat) : A35 (mix 35 a b) = A35 (wd a) := A35_congr fun i h => by simp [mix, h]
theorem mix_set (k a b : Nat) : (A35 (mix k a b)).setIfInBounds k (.int .u64 (wd a k : Nat)) = A35 (mix (k + 1) a b) := by
  rw [A35_set]
  refine A35_congr fun i h => ?_
  unfold mix
  by_cases e : i = k
  · subst e; simp
  · rw [if_neg e]
    by_cases h2 : i < k
    · rw [if_pos h2, if_pos (by omega)]
    · rw [if_neg h2, if_neg (by omega)]
theorem mix_get (k a b : Nat) (h : k < 35) : (A35 (mix k a b))[k]? = some (.int .u64 (wd b k : Nat)) := by
  rw [A35_get _ _ h]; simp [mix]
theorem wd_lt (n i : Nat) : wd n i < 18446744073709551616 := Nat.mod_lt _ (by decide)

theorem pow_step (k : Nat) : pw (k + 1) = pw k * 18446744073709551616 := by
  unfold pw; rw [Nat.mul_add, Nat.pow_add]
theorem mod_step (n k : Nat) : n % pw (k + 1) = n % pw k + pw k * wd n k := by
  rw [pow_step, Nat.mod_mul]; rfl
theorem wd_mod (n k j : Nat) (h : k < j) : wd (n % pw j) k = wd n k := by
  unfold wd
  have e : pw j = pw k * (18446744073709551616 * 2 ^ (64 * (j - k - 1))) := by
    unfold pw
    rw [show (18446744073709551616 : Nat) = 2 ^ 64 from rfl, ← Nat.pow_add, ← Nat.pow_add]; congr 1; omega
  rw [e, Nat.mod_mul_right_div_self, Nat.mod_mul_right_mod]
theorem top_eq : top = pw 35 := rfl
theorem top_pos : 0 < top := pw_pos _

/-! Sums -/
/-- What is carried into word k. -/
def car (a b k : Nat) : Nat := (a % pw k + b % pw k) / pw k
theorem car_zero (a b : Nat) : car a b 0 = 0 := by simp [car, pw_zero, Nat.mod_one]
theorem car_le (a b k : Nat) : car a b k ≤ 1 := by
  unfold car
  have hp : 0 < pw k := pw_pos _
  have h1 := Nat.mod_lt a hp
  have h2 := Nat.mod_lt b hp
  have : (a % pw k + b % pw k) / pw k < 2 := (Nat.div_lt_iff_lt_mul hp).2 (by omega)
  omega
theorem sum_step (a b k : Nat) : a % pw (k + 1) + b % pw (k + 1) = (a % pw k + b % pw k) % pw k + pw k * (wd a k + wd b k + car a b k) := by
  have e := Nat.div_add_mod (a % pw k + b % pw k) (pw k)
  rw [mod_step, mod_step, Nat.mul_add, Nat.mul_add]
  unfold car
  omega
theorem car_succ (a b k : Nat) : car a b (k + 1) = (wd a k + wd b k + car a b k) / 18446744073709551616 := by
  have hp : 0 < pw k := pw_pos _
  have hr := Nat.mod_lt (a % pw k + b % pw k) hp
  show (a % pw (k + 1) + b % pw (k + 1)) / pw (k + 1) = _
  rw [sum_step, pow_step, ← Nat.div_div_eq_div_mul, Nat.add_mul_div_left _ _ hp, Nat.div_eq_of_lt hr, Nat.zero_add]
theorem wd_add (a b k : Nat) : wd (a + b) k = (wd a k + wd b k + car a b k) % 18446744073709551616 := by
  have hp : 0 < pw k := pw_pos _
  have hr := Nat.mod_lt (a % pw k + b % pw k) hp
  rw [← wd_mod (a + b) k (k + 1) (by omega), Nat.add_mod, sum_step]
  rw [wd_mod _ k (k + 1) (by omega)]
  unfold wd
  rw [Nat.add_mul_div_left _ _ hp, Nat.div_eq_of_lt hr, Nat.zero_add]
theorem wd_sum (a b k : Nat) (hk : k < 35) : wd ((a + b) % top) k = (wd a k + wd b k + car a b k) % 18446744073709551616 := by
  rw [top_eq, wd_mod _ _ _ hk, wd_add]

/-! The number with the other sign -/
def neg (n : Nat) : Nat := (top - n) % top
/-- What is borrowed for word k. -/
def bor (n k : Nat) : Nat := if n % pw k = 0 then 0 else 1
theorem bor_zero (n : Nat) : bor n 0 = 0 := by simp [bor, pw_zero, Nat.mod_one]
theorem bor_le (n k : Nat) : bor n k ≤ 1 := by unfold bor; split <;> omega
theorem bor_succ (n k : Nat) : bor n (k + 1) = if 0 < wd n k + bor n k then 1 else 0 := by
  unfold bor
  have hp : 0 < pw k := pw_pos _
  rw [mod_step]
  by_cases h : n % pw k = 0
  · rw [h, if_pos rfl, Nat.zero_add, Nat.add_zero]
    by_cases h2 : wd n k = 0
    · rw [h2]; simp
    · rw [if_neg (by intro e; rcases Nat.mul_eq_zero.1 e with e | e <;> omega), if_pos (by omega)]
  · rw [if_neg (by omega), if_neg h, if_pos (by omega)]
theorem sub_mod_of (M K n : Nat) (hM : K ∣ M) (hn : n ≤ M) (hK : 0 < K) : (M - n) % K = (K - n % K) % K := by
  obtain ⟨c, rfl⟩ := hM
  have e := Nat.div_add_mod n K
  have hr := Nat.mod_lt n hK
  generalize n % K = r at *
  generalize n / K = q at *
  subst e
  by_cases h0 : r = 0
  · subst h0
    rw [Nat.add_zero, Nat.sub_zero, Nat.mod_self, ← Nat.mul_sub, Nat.mul_mod_right]
  · have hq : q < c := by
      rcases Nat.lt_or_ge q c with h | h
      · exact h
      · have := Nat.mul_le_mul_left K h; omega
    have e2 : K * c - (K * q + r) = K * (c - q - 1) + (K - r) := by
      have : K * c = K * (c - q - 1) + K * q + K := by
        rw [← Nat.mul_add, ← Nat.mul_succ]; congr 1; omega
      omega
    rw [e2, Nat.mul_add_mod]
theorem wd_neg (n k : Nat) (hn : n ≤ top) (hk : k < 35) : wd (neg n) k = (0 + 18446744073709551616 - wd n k - bor n k) % 18446744073709551616 := by
  have hp : 0 < pw k := pw_pos _
  have hx := wd_lt n k
  have hr := Nat.mod_lt n hp
  unfold neg
  rw [top_eq, wd_mod _ _ _ hk, ← wd_mod _ k (k + 1) (by omega), sub_mod_of (pw 35) (pw (k + 1)) n (pw_dvd _ _ (by omega)) hn (pw_pos _)]
  rw [wd_mod _ k (k + 1) (by omega), mod_step, pow_step]
  unfold bor
  generalize n % pw k = r at *
  generalize wd n k = x at *
  unfold wd
  generalize pw k = K at *
  by_cases h : r = 0
  · subst h
    rw [if_pos rfl, Nat.zero_add, ← Nat.mul_sub, Nat.mul_div_cancel_left _ hp]; congr 1
  · rw [if_neg h]
    have e : K * 18446744073709551616 - (r + K * x) = K * (18446744073709551616 - x - 1) + (K - r) := by
      have : K * 18446744073709551616 = K * (18446744073709551616 - x - 1) + K * x + K := by
        rw [← Nat.mul_add, ← Nat.mul_succ]; congr 1; omega
      omega
    rw [e, Nat.mul_add_div hp, Nat.div_eq_of_lt (by omega), Nat.add_zero]
theorem neg_lt (n : Nat) : neg n < top := Nat.mod_lt _ top_pos

/-! A number is known by its words -/
theorem mod_of_wd {a b : Nat} : ∀ j, (∀ i, i < j → wd a i = wd b i) → a % pw j = b % pw j
  | 0, _ => by simp [pw_zero, Nat.mod_one]
  | j + 1, h => by rw [mod_step, mod_step, mod_of_wd j (fun i hi => h i (by omega)), h j (by omega)]
theorem eq_of_wd {a b : Nat} (ha : a < top) (hb : b < top) (h : ∀ i, i < 35 → wd a i = wd b i) : a = b := by
  have := mod_of_wd 35 h
  rwa [← top_eq, Nat.mod_eq_of_lt ha, Nat.mod_eq_of_lt hb] at this
theorem A35_inj {f g : Nat → Nat} (h : A35 f = A35 g) (i : Nat) (hi : i < 35) : f i = g i := by
  have h1 := A35_get f i hi
  rw [h, A35_get g i hi] at h1
  simp only [Option.some.injEq, Value.int.injEq, true_and] at h1
  omega
attribute [irreducible] A35 wd pw top mix neg bor car S36
end Go.Proofs.Ythklamgdoknmeaa.Sm
