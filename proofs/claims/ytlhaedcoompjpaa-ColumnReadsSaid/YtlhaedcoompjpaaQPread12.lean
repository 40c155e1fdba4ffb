/-
  Layer column: the document's own ReadInts, from what its reader's Ints gives.
-/
import Derived.Test.YtlhaedcoompjpaaQPread10
import Derived.Laws.Cover2
import Derived.Laws.FloatBits
import Derived.Laws.Bits64b
import Derived.Laws.BitsAllLaws
import Derived.Test.YtlhaedcoompjpaaRows
import Derived.WalkKit
import Derived.WalkSpells
import Derived.WalkLawsBesides
import Derived.Test.YtlhaedcoompjpaaQPread7
set_option linter.unusedSimpArgs false
set_option linter.unusedVariables false
set_option maxRecDepth 8000
namespace Go.Proofs.Ytlhaedcoompjpaa
open Go.RowKit Go.WideShapes Col
/-- How the document's ReadInts ends. -/
def RREnds (w : World) (o : Option (List Int)) (e : Ending) (w' : World) : Prop := match o with
  | some l => (∃ A' n' cap', e = .returned (.tuple #[.slice A' n' cap', .bool true]) ∧ OwnI w' w.heap.size A' n' cap' l) ∧ Below w.heap.size w w'
  | none => e = .returned (.tuple #[.slice none 0 0, .bool false]) ∧ Below w.heap.size w w'
theorem atR_whole (p : List Nat) : atR p (some p) = 0 := by show (p.length : Int) - (p.length : Int) = 0; omega
theorem atR_ne {p : List Nat} {s : Option (List Nat)} (h : s ≠ some []) : (atR p s != (p.length : Int)) = true := by
  rw [bne_iff_ne]
  rcases s with _ | _ | ⟨x, q⟩
  · show (-1 : Int) ≠ _; omega
  · exact (h rfl).elim
  · show (p.length : Int) - ((x :: q).length : Int) ≠ _; rw [List.length_cons]; omega
theorem rra_new {w : World} {A : Option Addr} {p : List Nat} {C : Nat} (hp : p.length ≤ 1000000) (hC : p.length ≤ C) (hC' : C ≤ maxLen) (HA : ByAt w A p) :
    RRA (w.alloc (.cells #[.slice A p.length C, .int .i64 0] 54)) w.heap.size A C p (some p) := by
  have hb : Below w.heap.size w (w.alloc (.cells #[.slice A p.length C, .int .i64 0] 54)) := (Below.refl w.heap.size w).alloc (Nat.le_refl _) _
  refine ⟨by rw [atR_whole]; exact heap_alloc_new' w _, hC, hC', HA.keep hb, fun q h => ⟨0, Nat.zero_le _, by injection h with h; rw [← h]; rfl⟩, fun a ha h0 e => ?_, hp⟩
  obtain ⟨-, g, off, e2, hg, -⟩ := HA 0 (p[0]'h0) (List.getElem?_eq_getElem h0)
  rw [ha] at e2; injection e2 with e2; rw [e2] at e; simp at e; omega
set_option maxHeartbeats 2000000 in
theorem refReadInts_any (A : Option Addr) (C : Nat) (p : List Nat) (n : Nat) (hn : Hid (n = p.length)) (hn4 : n ≤ 1000000) (hC : n ≤ C) (hC' : C ≤ maxLen) (w : World) (HA : Hid (ByAt w A p))
    (HINTS : Hid (∀ (m : Nat) (w : World), Hid (RRA w m A C p (some p)) → Calls Try.prog 49 #[.pointer (some ⟨m, 0, none⟩)] w (RIEnds w m C A p (riL p)))) :
    Calls Try.prog 17 #[.slice A n C] w (RREnds w (riL p)) := by
  have HR : Hid (RRA (w.alloc (.cells #[.slice A n C, .int .i64 0] 54)) w.heap.size A C p (some p)) := Lib.hid (by rw [hn.out]; exact rra_new (by have := hn.out; omega) (by have := hn.out; omega) hC' HA.out)
  have HB1 : Hid (Below w.heap.size w (w.alloc (.cells #[.slice A n C, .int .i64 0] 54))) := Lib.hid ((Below.refl w.heap.size w).alloc (Nat.le_refl _) _)
  have HI := Lib.hid (HINTS.out w.heap.size _ HR)
  have hpn : (p.length : Int) = (n : Int) := by have := hn.out; omega
  rcases ho : riL p with _ | l
  · rw [ho] at HI
    go_enter Try.func17, Try.ntmps17
    go_wp2_with (go_at_call 49; refine (HI.out).mono ?_; rintro e w2 ⟨A', n', cap', s', rfl, h1, h2, h3⟩; have c1 := h2.c1; have hne := atR_ne (p := p) h1; rw [hpn] at hne; have HB2 := Lib.hid (HB1.out.trans (h3.below (B := w.heap.size) (by simp) fun k hk => by have hk : k = w.heap.size := hk; omega)); clear h1 h2 h3)
    go_ret2
    exact ⟨rfl, HB2.out⟩
  · rw [ho] at HI
    have hnn : ((n : Int) != (n : Int)) = false := by simp
    go_enter Try.func17, Try.ntmps17
    go_wp2_with (go_at_call 49; refine (HI.out).mono ?_; rintro e w2 ⟨⟨A', n', cap', rfl, h1⟩, h2, h3⟩; have HOW := Lib.hid (h1.more (B' := w.heap.size) (by simp)); have c1 : w2.cell? ⟨w.heap.size, 1, none⟩ = some (.int .i64 (n : Int)) := (by have := h2.c1; rw [this]; have e : atR p (some []) = (n : Int) := (by show (p.length : Int) - (([] : List Nat).length : Int) = _; rw [List.length_nil]; omega); rw [e]); have HB2 := Lib.hid (HB1.out.trans (h3.below (B := w.heap.size) (by simp) fun k hk => by have hk : k = w.heap.size := hk; omega)); clear h1 h2 h3)
    go_ret2
    exact ⟨⟨A', n', cap', rfl, HOW.out⟩, HB2.out⟩
end Go.Proofs.Ytlhaedcoompjpaa

namespace Go.Proofs.Ytlhaedcoompjpaa.Fl
open Ieee

/-- The word's magnitude: all but the sign. -/
def rung (b : Nat) : Nat := b % 9223372036854775808
/-- Is it no number? -/
def nan (b : Nat) : Bool := decide (9218868437227405312 < rung b)
/-- The one word of what is no number. -/
def canon (b : Nat) : Nat := if nan b then 9221120237041090560 else b
/-- The word as a whole number with a sign. -/
def key (b : Nat) : Int := if 9223372036854775808 ≤ b then -(rung b : Int) else (rung b : Int)
/-- The place among all. -/
def rank (b : Nat) : Nat := if 9223372036854775808 ≤ canon b then 18446744073709551615 - canon b else canon b + 9223372036854775808

def mant (r : Nat) : Nat := if r < 4503599627370496 then r else 4503599627370496 + r % 4503599627370496
def shf (r : Nat) : Nat := if r < 4503599627370496 then 0 else r / 4503599627370496 - 1
def val (r : Nat) : Nat := mant r * 2 ^ shf r

theorem signW : Format.signWeight double = 9223372036854775808 := by decide
theorem binadeW : Format.binade double = 4503599627370496 := by decide
theorem infW : Format.infRung double = 9218868437227405312 := by decide
theorem leastW : Format.leastPlace double = -1074 := by decide

theorem neg_eq (b : Nat) (hb : b < 18446744073709551616) : (b / 9223372036854775808 % 2 == 1) = decide (9223372036854775808 ≤ b) := by
  rw [Bool.eq_iff_iff, beq_iff_eq, decide_eq_true_eq]; omega

theorem read_num (b : Nat) (hb : b < 18446744073709551616) (h : rung b < 9218868437227405312) :
    double.read b = .number (decide (9223372036854775808 ≤ b)) (mant (rung b)) (-1074 + (shf (rung b) : Nat)) := by
  unfold Format.read
  simp only [signW, binadeW, infW, leastW, neg_eq b hb]
  unfold rung at h
  unfold mant shf rung
  by_cases h1 : b % 9223372036854775808 < 4503599627370496
  · simp [h1]
  · simp only [h1, h, if_true, if_false]

theorem read_inf (b : Nat) (hb : b < 18446744073709551616) (h : rung b = 9218868437227405312) :
    double.read b = .infinity (decide (9223372036854775808 ≤ b)) := by
  unfold Format.read
  simp only [signW, binadeW, infW, leastW, neg_eq b hb]
  unfold rung at h
  simp [h]

theorem read_nan (b : Nat) (h : nan b = true) : (double.read b).isNaN = true := by
  unfold Format.read
  simp only [signW, binadeW, infW, leastW]
  unfold nan rung at h
  simp only [decide_eq_true_eq] at h
  rw [if_neg (by omega), if_neg (by omega), if_neg (by omega)]
  rfl

theorem order_nan_l (a b : Nat) (h : nan a = true) : double.order a b = none := by
  have := read_nan a h
  unfold Format.order
  cases hr : double.read a <;> simp_all [Datum.isNaN, Datum.order]

theorem order_nan_r (a b : Nat) (h : nan b = true) : double.order a b = none := by
  have := read_nan b h
  unfold Format.order
  cases hr : double.read b <;> simp_all [Datum.isNaN]
  cases double.read a <;> rfl

theorem val_lt_of_lt {r q : Nat} (h : r < q) : val r < val q := by
  unfold val mant shf
  by_cases hq : q < 4503599627370496
  · have hr : r < 4503599627370496 := by omega
    simp [hr, hq, h]
  · rw [if_neg hq, if_neg hq]
    by_cases hr : r < 4503599627370496
    · rw [if_pos hr, if_pos hr]
      have : 1 ≤ 2 ^ (q / 4503599627370496 - 1) := Nat.one_le_two_pow
      calc r * 2 ^ 0 = r := by simp
        _ < 4503599627370496 * 1 := by omega
        _ ≤ (4503599627370496 + q % 4503599627370496) * 2 ^ (q / 4503599627370496 - 1) := Nat.mul_le_mul (by omega) this
    · rw [if_neg hr, if_neg hr]
      by_cases he : r / 4503599627370496 = q / 4503599627370496
      · rw [he]
        exact Nat.mul_lt_mul_of_pos_right (by omega) (Nat.two_pow_pos _)
      · have hlt : r / 4503599627370496 - 1 + 1 ≤ q / 4503599627370496 - 1 := by omega
        calc (4503599627370496 + r % 4503599627370496) * 2 ^ (r / 4503599627370496 - 1)
            < (4503599627370496 * 2) * 2 ^ (r / 4503599627370496 - 1) := Nat.mul_lt_mul_of_pos_right (by omega) (Nat.two_pow_pos _)
          _ = 4503599627370496 * 2 ^ (r / 4503599627370496 - 1 + 1) := by rw [Nat.pow_succ, Nat.mul_assoc, Nat.mul_comm 2]
          _ ≤ 4503599627370496 * 2 ^ (q / 4503599627370496 - 1) := Nat.mul_le_mul (Nat.le_refl _) (Nat.pow_le_pow_right (by decide) hlt)
          _ ≤ (4503599627370496 + q % 4503599627370496) * 2 ^ (q / 4503599627370496 - 1) := Nat.mul_le_mul (by omega) (Nat.le_refl _)

theorem val_zero : val 0 = 0 := by decide
theorem val_lt_iff (r q : Nat) : val r < val q ↔ r < q := by
  constructor
  · intro h
    by_cases hc : r < q
    · exact hc
    · exfalso
      rcases Nat.lt_or_eq_of_le (Nat.le_of_not_lt hc) with h1 | h1
      · exact absurd (val_lt_of_lt h1) (by omega)
      · subst h1; omega
  · exact val_lt_of_lt
theorem val_pos {r : Nat} (h : 0 < r) : 0 < val r := by have := val_lt_of_lt h; rw [val_zero] at this; exact this

theorem shiftLeft_mul (m a : Nat) : m <<< a = m * 2 ^ a := Nat.shiftLeft_eq m a

theorem cmp_int (a b c d : Int) (h1 : a < b ↔ c < d) (h2 : a = b ↔ c = d) : compare a b = compare c d := by
  show compareOfLessAndEq a b = compareOfLessAndEq c d
  unfold compareOfLessAndEq
  by_cases x : a < b
  · rw [if_pos x, if_pos (h1.1 x)]
  · rw [if_neg x, if_neg (fun h => x (h1.2 h))]
    by_cases y : a = b
    · rw [if_pos y, if_pos (h2.1 y)]
    · rw [if_neg y, if_neg (fun h => y (h2.2 h))]

/-- A number with its sign. -/
def sg (n : Bool) (m : Nat) : Int := if n then -(m : Int) else (m : Int)

theorem cmp_sg (n k : Bool) (a b c d : Nat) (h1 : a < b ↔ c < d) (h2 : b < a ↔ d < c) (h0 : a = 0 ↔ c = 0) (h3 : b = 0 ↔ d = 0) :
    compare (sg n a) (sg k b) = compare (sg n c) (sg k d) := by
  unfold sg
  apply cmp_int <;> cases n <;> cases k <;> simp <;> omega

theorem scaled_lt (m s n t : Nat) : (m <<< (s - min s t) < n <<< (t - min s t)) ↔ m * 2 ^ s < n * 2 ^ t := by
  rw [shiftLeft_mul, shiftLeft_mul]
  have hp : 0 < 2 ^ min s t := Nat.two_pow_pos _
  have e1 : m * 2 ^ s = m * 2 ^ (s - min s t) * 2 ^ min s t := by rw [Nat.mul_assoc, ← Nat.pow_add, Nat.sub_add_cancel (Nat.min_le_left ..)]
  have e2 : n * 2 ^ t = n * 2 ^ (t - min s t) * 2 ^ min s t := by rw [Nat.mul_assoc, ← Nat.pow_add, Nat.sub_add_cancel (Nat.min_le_right ..)]
  rw [e1, e2]
  exact (Nat.mul_lt_mul_right hp).symm

theorem shl_zero_iff (m a : Nat) : m <<< a = 0 ↔ m = 0 := by
  rw [shiftLeft_mul]
  constructor
  · intro h
    rcases Nat.mul_eq_zero.1 h with h | h
    · exact h
    · exact absurd h (Nat.pos_iff_ne_zero.1 (Nat.two_pow_pos a))
  · intro h; subst h; simp

theorem mant_zero_iff (r : Nat) : mant r = 0 ↔ r = 0 := by
  unfold mant; split <;> omega

theorem min_place (s t : Nat) : ((-1074 + (s : Int)) - min (-1074 + (s : Int)) (-1074 + (t : Int))).toNat = s - min s t := by omega
theorem min_place' (s t : Nat) : ((-1074 + (t : Int)) - min (-1074 + (s : Int)) (-1074 + (t : Int))).toNat = t - min s t := by omega

theorem cmp_lt {a b : Int} (h : a < b) : compare a b = .lt := by
  show compareOfLessAndEq a b = .lt
  unfold compareOfLessAndEq; rw [if_pos h]
theorem cmp_gt {a b : Int} (h : b < a) : compare a b = .gt := by
  show compareOfLessAndEq a b = .gt
  unfold compareOfLessAndEq; rw [if_neg (by omega), if_neg (by omega)]
theorem cmp_inf_r (s t : Bool) (r i : Nat) (h : r < i) : (if t = true then Ordering.gt else Ordering.lt) = compare (sg s r) (sg t i) := by
  cases t
  · rw [cmp_lt (by unfold sg; cases s <;> simp <;> omega)]; simp
  · rw [cmp_gt (by unfold sg; cases s <;> simp <;> omega)]; simp
theorem cmp_inf_l (s t : Bool) (r i : Nat) (h : r < i) : (if t = true then Ordering.lt else Ordering.gt) = compare (sg t i) (sg s r) := by
  cases t
  · rw [cmp_gt (by unfold sg; cases s <;> simp <;> omega)]; simp
  · rw [cmp_lt (by unfold sg; cases s <;> simp <;> omega)]; simp

/-- THE ORDER of what is no NaN is the order of the keys. -/
theorem order_key (a b : Nat) (ha : a < 18446744073709551616) (hb : b < 18446744073709551616) (na : nan a = false) (nb : nan b = false) :
    double.order a b = some (compare (key a) (key b)) := by
  have ka : key a = sg (decide (9223372036854775808 ≤ a)) (rung a) := by unfold key sg; by_cases h : 9223372036854775808 ≤ a <;> simp [h]
  have kb : key b = sg (decide (9223372036854775808 ≤ b)) (rung b) := by unfold key sg; by_cases h : 9223372036854775808 ≤ b <;> simp [h]
  rw [ka, kb]
  simp only [nan, decide_eq_false_iff_not] at na nb
  unfold Format.order
  rcases Nat.lt_or_eq_of_le (Nat.le_of_not_lt na) with h1 | h1 <;> rcases Nat.lt_or_eq_of_le (Nat.le_of_not_lt nb) with h2 | h2
  · rw [read_num a ha h1, read_num b hb h2]
    simp only [Datum.order, Ieee.signed]
    rw [min_place, min_place']
    refine congrArg some ?_
    show compare (sg _ _) (sg _ _) = _
    refine cmp_sg _ _ _ _ _ _ ?_ ?_ ?_ ?_
    · exact (scaled_lt ..).trans (val_lt_iff ..)
    · rw [Nat.min_comm]; exact (scaled_lt ..).trans (val_lt_iff ..)
    · rw [shl_zero_iff, mant_zero_iff]
    · rw [shl_zero_iff, mant_zero_iff]
  · rw [read_num a ha h1, read_inf b hb h2, h2]
    simp only [Datum.order]
    exact congrArg some (cmp_inf_r _ _ _ _ h1)
  · rw [read_inf a ha h1, read_num b hb h2, h1]
    simp only [Datum.order]
    exact congrArg some (cmp_inf_l _ _ _ _ h2)
  · rw [read_inf a ha h1, read_inf b hb h2, h1, h2]
    simp only [Datum.order]
    refine congrArg some ?_
    unfold sg
    by_cases x : 9223372036854775808 ≤ b <;> by_cases y : 9223372036854775808 ≤ a <;> simp [x, y, compare, compareOfLessAndEq]

theorem nan_lt (b : Nat) : nan b = true → rung b < 9223372036854775808 := fun _ => Nat.mod_lt _ (by decide)

/-- Go's 'x != x'. -/
theorem ne_self (b : Nat) (hb : b < 18446744073709551616) : (double.order b b != some .eq) = nan b := by
  cases h : nan b
  · rw [order_key b b hb hb h h]; simp [compare, compareOfLessAndEq]
  · rw [order_nan_l b b h]; rfl

theorem canon_lt (b : Nat) (hb : b < 18446744073709551616) : canon b < 18446744073709551616 := by unfold canon; split <;> omega
theorem canon_canon (b : Nat) : canon (canon b) = canon b := by
  unfold canon
  cases h : nan b
  · simp [h]
  · simp [nan, rung]
theorem nan_canon (b : Nat) : nan (canon b) = nan b := by
  unfold canon
  cases h : nan b
  · simp [h]
  · simp [nan, rung]
theorem rank_lt (b : Nat) (hb : b < 18446744073709551616) : rank b < 18446744073709551616 := by have := canon_lt b hb; unfold rank; split <;> omega
theorem rank_inj (a b : Nat) (ha : a < 18446744073709551616) (hb : b < 18446744073709551616) : rank a = rank b ↔ canon a = canon b := by
  have h1 := canon_lt a ha
  have h2 := canon_lt b hb
  unfold rank
  constructor
  · intro h; split at h <;> split at h <;> omega
  · intro h; rw [h]

theorem rank_cases (b : Nat) : 9223372036854775808 ≤ canon b ∧ rank b = 18446744073709551615 - canon b ∨ canon b < 9223372036854775808 ∧ rank b = canon b + 9223372036854775808 := by
  unfold rank; split <;> omega
theorem canon_cases (b : Nat) : canon b = 9221120237041090560 ∨ canon b % 9223372036854775808 ≤ 9218868437227405312 := by
  unfold canon nan rung; split
  · exact Or.inl rfl
  · rename_i h; rw [decide_eq_true_eq] at h; omega

def minv (a b : Nat) : Nat := if rank b < rank a then canon b else canon a
def maxv (a b : Nat) : Nat := if rank a < rank b then canon b else canon a

theorem canon_num (b : Nat) (h : nan b = false) : canon b = b := by unfold canon; rw [h]; rfl
theorem ord_lt (a b : Nat) (ha : a < 18446744073709551616) (hb : b < 18446744073709551616) (na : nan a = false) (nb : nan b = false) :
    (FloatKind.f64.format.order a b == some .lt) = decide (key a < key b) := by
  show (double.order a b == some .lt) = _
  rw [order_key a b ha hb na nb]
  show (some (compareOfLessAndEq (key a) (key b)) == some .lt) = _
  unfold compareOfLessAndEq
  by_cases h1 : key a < key b
  · simp [h1]
  · by_cases h2 : key a = key b <;> simp [h1, h2]
theorem ord_gt (a b : Nat) (ha : a < 18446744073709551616) (hb : b < 18446744073709551616) (na : nan a = false) (nb : nan b = false) :
    (FloatKind.f64.format.order a b == some .gt) = decide (key b < key a) := by
  show (double.order a b == some .gt) = _
  rw [order_key a b ha hb na nb]
  show (some (compareOfLessAndEq (key a) (key b)) == some .gt) = _
  unfold compareOfLessAndEq
  by_cases h1 : key a < key b
  · simp [h1]; omega
  · by_cases h2 : key a = key b
    · simp [h2]
    · simp [h1, h2]; omega
theorem ord_eq (a b : Nat) (ha : a < 18446744073709551616) (hb : b < 18446744073709551616) (na : nan a = false) (nb : nan b = false) :
    (FloatKind.f64.format.order a b == some .eq) = decide (key a = key b) := by
  show (double.order a b == some .eq) = _
  rw [order_key a b ha hb na nb]
  show (some (compareOfLessAndEq (key a) (key b)) == some .eq) = _
  unfold compareOfLessAndEq
  by_cases h1 : key a < key b
  · simp [h1]; omega
  · by_cases h2 : key a = key b <;> simp [h1, h2]
theorem key_rank (a b : Nat) (ha : a < 18446744073709551616) (hb : b < 18446744073709551616) (na : nan a = false) (nb : nan b = false) (h : key a < key b) : rank a < rank b := by
  have ca := canon_num a na
  have cb := canon_num b nb
  unfold rank; rw [ca, cb]; unfold key rung at h
  by_cases h1 : 9223372036854775808 ≤ a <;> by_cases h2 : 9223372036854775808 ≤ b <;> simp only [h1, h2, if_true, if_false] at h ⊢ <;> omega

theorem rank_canon (b : Nat) : rank (canon b) = rank b := by unfold rank; rw [canon_canon]

/-! What Go's operations on bits give. -/
theorem and_sign (c : Nat) (hc : c < 18446744073709551616) : bits .and .u64 (c : Int) 9223372036854775808 = if 9223372036854775808 ≤ c then 9223372036854775808 else 0 := by
  have h := bits_and_u64_nat c 9223372036854775808 hc (by decide)
  rw [nat_bit63] at h
  refine h.trans ?_
  split <;> omega
theorem or_sign (c : Nat) (hc : c < 9223372036854775808) : bits .or .u64 (c : Int) 9223372036854775808 = ((c + 9223372036854775808 : Nat) : Int) := by
  have h := bits_or_u64_nat c 9223372036854775808 (by omega) (by decide)
  have e : c ||| 9223372036854775808 = c + 9223372036854775808 := by
    have := Nat.two_pow_add_eq_or_of_lt (i := 63) (b := c) hc 1
    rw [Nat.or_comm, Nat.add_comm]
    simpa using this.symm
  rw [e] at h
  exact h
theorem xor_all (c : Nat) (hc : c < 18446744073709551616) : bits .xor .u64 IntKind.u64.max (c : Int) = ((18446744073709551615 - c : Nat) : Int) := by
  have h1 : (BitVec.ofInt 64 (c : Int)).toNat = c := by
    rw [BitVec.ofInt_natCast, BitVec.toNat_ofNat]; exact Nat.mod_eq_of_lt (by omega)
  have h2 : BitVec.ofInt 64 IntKind.u64.max = BitVec.allOnes 64 := by decide
  show IntKind.u64.wrap ((BitVec.ofInt 64 IntKind.u64.max ^^^ BitVec.ofInt 64 (c : Int)).toNat : Int) = _
  rw [h2, BitVec.allOnes_xor, BitVec.toNat_not, h1, IntKind.wrap_u64]
  omega
theorem and_frac (c : Nat) (hc : c < 18446744073709551616) : bits .and .u64 (c : Int) 4503599627370495 = ((c % 4503599627370496 : Nat) : Int) := by
  have h := bits_and_u64_nat c 4503599627370495 hc (by decide)
  rw [nat_mask52] at h
  exact h
theorem and_exp (c : Nat) (hc : c < 18446744073709551616) : bits .and .u64 ((c : Int) / 4503599627370496) 2047 = ((c / 4503599627370496 % 2048 : Nat) : Int) := by
  have h := bits_and_u64_nat (c / 4503599627370496) 2047 (by omega) (by decide)
  rw [nat_mask11] at h
  exact h
theorem or_hidden (c : Nat) (hc : c < 4503599627370496) : bits .or .u64 (c : Int) 4503599627370496 = ((4503599627370496 + c : Nat) : Int) := by
  have h := bits_or_u64_nat c 4503599627370496 (by omega) (by decide)
  have e : c ||| 4503599627370496 = 4503599627370496 + c := by
    have := Nat.two_pow_add_eq_or_of_lt (i := 52) (b := c) hc 1
    rw [Nat.or_comm]
    simpa using this.symm
  rw [e] at h
  exact h
end Go.Proofs.Ytlhaedcoompjpaa.Fl

namespace Go.Proofs.Ytlhaedcoompjpaa
open Go.RowKit

theorem ret_eq {v v' : Value} (h : v = v') : Ending.returned v = Ending.returned v' := by rw [h]
theorem fmt64 : FloatKind.f64.format = Ieee.double := rfl

theorem fb_run (n : Int) (w : World) : (callFunc 84 #[.int .u64 n]).run Try.prog w = .ok (.value (.float .f64 n.toNat)) w := by
  rw [run_callFunc_extern Try.func84 (by kernel_rfl) (by kernel_rfl) (by kernel_rfl) (e := Extern.MathFloatBits.float64frombits) (by kernel_rfl)]
  rfl
theorem tb_run (b : Nat) (w : World) : (callFunc 85 #[.float .f64 b]).run Try.prog w = .ok (.value (.int .u64 b)) w := by
  rw [run_callFunc_extern Try.func85 (by kernel_rfl) (by kernel_rfl) (by kernel_rfl) (e := Extern.MathFloatBits.float64bits) (by kernel_rfl)]
  rfl

set_option maxHeartbeats 400000 in
theorem isNaN_any (b : Nat) (hb : b < 18446744073709551616) (w : World) :
    Calls Try.prog 107 #[.float .f64 b] w fun e w' => e = .returned (.bool (Fl.nan b)) ∧ w = w' := by
  have xf := fb_run
  have xt := tb_run
  go_enter Try.func107, Try.ntmps107
  go_wp2
  go_ret
  exact ⟨ret_eq (congrArg Value.bool (Fl.ne_self b hb)), rfl⟩

set_option maxHeartbeats 400000 in
theorem canon_any (b : Nat) (hb : b < 18446744073709551616) (w : World) :
    Calls Try.prog 90 #[.float .f64 b] w fun e w' => e = .returned (.float .f64 (Fl.canon b)) ∧ w = w' := by
  cases h : Fl.nan b
  all_goals
    have h2 : Hid (Fl.nan b = _) := h
    have xf := fb_run
    have xt := tb_run
    go_enter Try.func90, Try.ntmps90
    go_wp2_with (go_at_call 107; refine (isNaN_any _ hb _).mono ?_; rintro e w' ⟨rfl, rfl⟩)
    go_ret
    exact ⟨ret_eq (by simp [Fl.canon, h2.out]), rfl⟩

set_option maxHeartbeats 400000 in
theorem bits_any (b : Nat) (hb : b < 18446744073709551616) (w : World) :
    Calls Try.prog 62 #[.float .f64 b] w fun e w' => e = .returned (.int .u64 (Fl.canon b : Nat)) ∧ w = w' := by
  have xt := tb_run
  go_enter Try.func62, Try.ntmps62
  go_wp2_with (go_at_call 90; refine (canon_any _ hb _).mono ?_; rintro e w' ⟨rfl, rfl⟩)
  go_ret
  exact ⟨rfl, rfl⟩

set_option maxHeartbeats 400000 in
theorem of_any (b : Nat) (hb : b < 18446744073709551616) (w : World) :
    Calls Try.prog 83 #[.int .u64 b] w fun e w' => e = .returned (.float .f64 (Fl.canon b)) ∧ w = w' := by
  have xf := fb_run
  go_enter Try.func83, Try.ntmps83
  go_wp2_with (go_at_call 90; refine (canon_any _ hb _).mono ?_; rintro e w' ⟨rfl, rfl⟩)
  go_ret
  exact ⟨rfl, rfl⟩

set_option maxHeartbeats 400000 in
theorem refBits_any (b : Nat) (hb : b < 18446744073709551616) (w : World) :
    Calls Try.prog 55 #[.float .f64 b] w fun e w' => e = .returned (.int .u64 (Fl.canon b : Nat)) ∧ w = w' := by
  have xt := tb_run
  go_enter Try.func55, Try.ntmps55
  go_wp2
  all_goals
    go_ret
    refine ⟨ret_eq ?_, rfl⟩
    unfold Fl.canon Fl.nan Fl.rung
  · rename_i h1 h2
    have h3 : (b : Int) % 4503599627370496 ≠ 0 := bne_iff_ne.1 h2
    rw [if_pos (by rw [decide_eq_true_eq]; omega)]; rfl
  · rename_i h1 h2
    have h3 : (b : Int) % 4503599627370496 = 0 := by simpa using h2
    rw [if_neg (by rw [decide_eq_true_eq]; omega)]; rfl
  · rename_i h1
    rw [if_neg (by rw [decide_eq_true_eq]; omega)]; rfl

set_option maxHeartbeats 400000 in
theorem refOf_any (b : Nat) (hb : b < 18446744073709551616) (w : World) :
    Calls Try.prog 54 #[.int .u64 b] w fun e w' => e = .returned (.float .f64 (Fl.canon b)) ∧ w = w' := by
  have xf := fb_run
  go_enter Try.func54, Try.ntmps54
  go_wp2_with (go_at_call 55; refine (refBits_any _ hb _).mono ?_; rintro e w' ⟨rfl, rfl⟩)
  go_ret
  exact ⟨rfl, rfl⟩

theorem cast_beq (x y : Nat) : ((x : Int) == (y : Int)) = decide (x = y) := by
  rw [Bool.eq_iff_iff, beq_iff_eq, decide_eq_true_eq]; omega
theorem cast_lt (x y : Nat) : decide ((x : Int) < (y : Int)) = decide (x < y) := by
  rw [Bool.eq_iff_iff, decide_eq_true_eq, decide_eq_true_eq]; omega

set_option maxHeartbeats 400000 in
theorem refSame_any (a b : Nat) (ha : a < 18446744073709551616) (hb : b < 18446744073709551616) (w : World) :
    Calls Try.prog 22 #[.float .f64 a, .float .f64 b] w fun e w' => e = .returned (.bool (decide (Fl.canon a = Fl.canon b))) ∧ w = w' := by
  go_enter Try.func22, Try.ntmps22
  go_wp2_with (go_at_call 55; refine (refBits_any _ (by assumption) _).mono ?_; rintro e w' ⟨rfl, rfl⟩)
  go_ret
  exact ⟨ret_eq (congrArg Value.bool (cast_beq _ _)), rfl⟩

theorem sign_bool (b : Nat) (hb : b < 18446744073709551616) : (bits .and .u64 (b : Int) 9223372036854775808 != 0) = decide (9223372036854775808 ≤ b) := by
  rw [Fl.and_sign b hb]
  by_cases h : 9223372036854775808 ≤ b <;> simp [h]

end Go.Proofs.Ytlhaedcoompjpaa

set_option linter.unusedSimpArgs false
set_option linter.unusedVariables false
set_option maxRecDepth 8000
namespace Go.Proofs.Ytlhaedcoompjpaa
open Go.RowKit Go.WideShapes Col
/-- A slice value that holds some words, in a world. -/
def FlAt (w : World) (a : Option Addr) (l : List Nat) : Prop := ∀ (k x : Nat), l[k]? = some x → x < 18446744073709551616 ∧ ∃ g off, a = some ⟨g, off, none⟩ ∧ g < w.heap.size ∧ w.cell? ⟨g, off + k, none⟩ = some (.float .f64 x)
theorem FlAt.keep {w w' : World} {a : Option Addr} {l : List Nat} (h : FlAt w a l) (hb : Below w.heap.size w w') : FlAt w' a l := fun k x hx => by
  obtain ⟨h1, g, off, h2, h3, h4⟩ := h k x hx
  exact ⟨h1, g, off, h2, Nat.lt_of_lt_of_le h3 hb.size, (hb.cell (p := ⟨g, off + k, none⟩) h3).trans h4⟩
def fvs (l : List Nat) : List Value := l.map fun x => .float .f64 x
/-- A row of numbers with a point that is all of a slice. -/
def RowF (w : World) (g : Nat) (l : List Nat) : Prop := w.heap[g]? = some (.cells (fvs l).toArray 45 (0, 0))
section
variable {w : World} {g : Nat} {l : List Nat}
theorem RowF.fr (h : RowF w g l) (i : Nat) : w.frozen? ⟨g, i, none⟩ = false := row_frozen h i
theorem RowF.cell (h : RowF w g l) (i x : Nat) (hx : l[i]? = some x) : w.cell? ⟨g, i, none⟩ = some (.float .f64 x) := by
  rw [cell_of_row _ _ _ _ _ _ h, List.getElem?_toArray]; unfold fvs; rw [List.getElem?_map, hx]; rfl
theorem RowF.at (h : RowF w g l) (i : Nat) (hi : i < l.length) : ∃ u, w.cell? ⟨g, i, none⟩ = some u := ⟨_, h.cell i _ (List.getElem?_eq_getElem hi)⟩
theorem RowF.set (h : RowF w g l) (i x : Nat) : RowF (w.setCell ⟨g, i, none⟩ (.float .f64 x)) g (l.set i x) := by
  unfold RowF at *
  rw [World.setCell]
  simp only [Array.getElem?_modify, if_pos, h, Option.map_some]
  have e : (fvs l).toArray.setIfInBounds i (.float .f64 x) = (fvs (l.set i x)).toArray := by
    unfold fvs; rw [List.map_set]; simp
  simp [e]
theorem RowF.keep {S : Nat → Prop} {w' : World} (h : RowF w g l) (hk : Kept S w w') (hg : ¬ S g) : RowF w' g l := hk.heap h hg
theorem RowF.isAt (h : RowF w g l) (hl : ∀ x ∈ l, x < 18446744073709551616) : FlAt w (some ⟨g, 0, none⟩) l := fun k x hx => ⟨hl x (List.mem_of_getElem? hx), g, 0, rfl, (Array.getElem?_eq_some_iff.1 h).1, by rw [Nat.zero_add]; exact h.cell k x hx⟩
end
theorem infoF64 : (Try.prog.info? 45).map (fun i => (i.zero, i.size, i.bytes)) = some (some (.float .f64 0), 1, 8) := by kernel_rfl
theorem rowF_zeros {w : World} {B g q : Nat} (h : w.ownsRow B 45 1 (.slice (some ⟨g, 0, none⟩) q q) q (madeCells (Value.float .f64 0).cells (q * 1)).toList) : RowF w g (List.replicate q 0) := by
  have e : fvs (List.replicate q 0) = List.replicate q (.float .f64 0) := by unfold fvs; rw [List.map_replicate]
  rw [Nat.mul_one, show (Value.float .f64 0).cells = #[.float .f64 0] from rfl, toList_madeCells_one, ← e] at h
  rcases h.2 with ⟨h1, h2⟩ | ⟨g', cap', cur, h1, hb, hrow, -, -, hs, ht⟩
  · cases h1
  · cases h1
    unfold RowF
    rw [hrow]
    have hc : cur = (fvs (List.replicate q 0)).toArray := by
      apply Array.ext'
      rw [← ht, Nat.mul_one, List.take_of_length_le (by rw [Array.length_toList, hs]; omega)]
    rw [hc]
theorem run_store_flC (w : World) (a : Addr) (y : Nat) (u : Value) (hc : w.cell? a = some u) (hf : w.frozen? a = false) : (store a (.float .f64 y)).run Try.prog w = .ok () (w.setCell a (.float .f64 y)) := by
  rw [run_store Try.prog w a _ _ rfl]
  simp [stored, hc, hf]
/-- A number's bits as a number with a sign. -/
def rwI (b : Nat) : Int := IntKind.i64.wrap ((Fl.canon b : Nat) : Int)
theorem rwI_wf (b : Nat) : Wf64 (rwI b) := by unfold rwI Wf64; rw [IntKind.wrap_i64]; omega
def u64N (x : Int) : Nat := (IntKind.u64.wrap x).toNat
theorem u64N_eq (x : Int) : IntKind.u64.wrap x = ((u64N x : Nat) : Int) ∧ u64N x < 18446744073709551616 := by
  unfold u64N; rw [IntKind.wrap_u64]; omega
theorem u64N_rw (b : Nat) (hb : b < 18446744073709551616) : u64N (rwI b) = Fl.canon b := by
  have := Fl.canon_lt b hb
  unfold u64N rwI; rw [IntKind.wrap_u64, IntKind.wrap_i64]; omega
theorem rw_snoc (l : List Nat) (k b : Nat) (h : l[k]? = some b) : (l.map rwI).take (k + 1) = (l.map rwI).take k ++ [rwI b] := by
  rw [List.take_add_one, List.getElem?_map, h]; rfl
set_option maxHeartbeats 2000000 in
theorem reals_any (b : Option Addr) (n c : Nat) (l : List Nat) (hn : Hid (n = l.length)) (hn1 : n ≤ 4096) (W : World) (HL : Hid (FlAt W b l)) :
    Calls Try.prog 26 #[.slice b n c] W (Puts W.heap.size W (intsL (l.map rwI))) := by
  obtain ⟨iu, hiu, hz0, hz1, hz2⟩ := info_parts infoI64'
  have hzb : iu.bytes * n ≤ 281474976710656 := by rw [hz2]; omega
  have hnm : n ≤ maxLen := by unfold maxLen; omega
  have HLEN : Hid ((l.map rwI).length = n) := Lib.hid (by rw [List.length_map]; exact hn.out.symm)
  go_enter Try.func26, Try.ntmps26
  go_wp2_with (refine wpList_make_full _ rfl (.tmp 7) (.tmp 7) 22 rfl W.heap.size 2 iu (.int .i64 0) 1 Try.underlying22 hiu hz0 hz1 .i64 .i64 _ _ n rfl rfl rfl rfl hzb hnm (Nat.le_refl _) ?_; intro w1 own hgr; have HRI := Lib.hid (rowI_zeros own); have HB1 : Hid (Below W.heap.size W w1) := Lib.hid ((Below.refl _ W).grown hgr (Nat.le_refl _) (by intro k hk; cases hk)); clear own hgr)
  obtain ⟨L, hL⟩ : ∃ L, L = W.heap.size := ⟨_, rfl⟩
  rw [← hL] at HRI ⊢
  have HLE := Lib.hid hL
  clear hL
  go_loopw [11] (fun v wr => ∃ k : Nat, k ≤ n ∧ v = .int .i64 (k : Int) ∧ RowI wr L ((l.map rwI).take k ++ List.replicate (n - k) 0) ∧ Below L W wr) (fun v _ => n - (intOf v).toNat)
  case atStart => exact ⟨0, Nat.zero_le _, rfl, by simpa using HRI.out, by rw [HLE.out]; exact HB1.out⟩
  case round =>
    obtain ⟨k, hk, rfl, hrow, hb⟩ := hrel
    have HROW := Lib.hid hrow; have HB : Hid (Below W.heap.size W wr) := Lib.hid (HLE.out ▸ hb)
    clear hrow hb HRI HB1
    by_cases hlt : k < n
    · obtain ⟨x, hx⟩ : ∃ x, l[k]? = some x := ⟨l[k]'(by have := hn.out; omega), List.getElem?_eq_getElem _⟩
      obtain ⟨hx64, g, off, rfl, -, hcx⟩ := (HL.out.keep HB.out) k x hx
      have HSN := Lib.hid (rw_snoc l k x hx)
      have HBI := Lib.hid (bits_any x hx64)
      have f2 := HROW.out.fr k
      obtain ⟨u2, c2⟩ := HROW.out.at k (by rw [List.length_append, List.length_replicate, List.length_take]; have := HLEN.out; omega)
      have HSET := Lib.hid (fill_set ((l.map rwI).take k) n k (by rw [List.length_take]; have := HLEN.out; omega) hlt (rwI x))
      obtain ⟨y, hy⟩ : ∃ y, y = Fl.canon x := ⟨_, rfl⟩
      rw [← hy] at HBI
      have hyw : IntKind.i64.wrap (y : Int) = rwI x := by rw [hy]; rfl
      clear hx hy
      go_wp2_with (go_at_call 62; refine (HBI.out _).mono ?_; rintro e w2 ⟨rfl, rfl⟩)
      go_roundw
      case rel => exact ⟨k + 1, by omega, by go_num, by rw [HSN.out, ← HSET.out]; exact HROW.out.set k (rwI x), by rw [HLE.out]; exact HB.out.setCell (Nat.le_refl _) _⟩
      case measure => simp [intOf]; omega
    · obtain rfl : k = n := by omega
      have hr := HROW.out
      rw [Nat.sub_self, List.replicate_zero, List.append_nil, List.take_of_length_le (by have := HLEN.out; omega)] at hr
      have HO := Lib.hid (hr.own (B := L) (Nat.le_refl _) (fun x hx => by obtain ⟨y, -, rfl⟩ := List.mem_map.1 hx; exact rwI_wf y) (by rw [HLEN.out]; exact hnm))
      rw [HLEN.out] at HO
      have HI := Lib.hid (ints_any (some ⟨L, 0, none⟩) k k (l.map rwI) (Lib.hid HLEN.out.symm) (Nat.le_refl _) (by omega) (by omega) wr (Lib.hid HO.out.isAt))
      clear hr
      go_wp2_with (go_at_call 11; (with_reducible refine (HI.out).mono ?_); rintro e w2 ⟨A2, n2, c2, rfl, h1, h2, h3⟩; have HO2 := Lib.hid (h1.more HB.out.size); have HB2 := Lib.hid (below_to HB.out h2); clear h1 h2 h3)
      go_ret
      exact ⟨A2, n2, c2, rfl, HO2.out, HB2.out, HB2.out.size⟩
def RRF (W : World) (l : List Nat) (n : Nat) (u v : Value) (wr : World) : Prop := ∃ (k : Nat) (A : Option Addr) (cap : Nat), k ≤ n ∧ v = .int .i64 (k : Int) ∧ u = .slice A k cap ∧ OwnI wr W.heap.size A k cap ((l.map rwI).take k) ∧ Below W.heap.size W wr
set_option maxHeartbeats 2000000 in
theorem refReals_any (b : Option Addr) (n c : Nat) (l : List Nat) (hn : Hid (n = l.length)) (hn1 : n ≤ 4096) (W : World) (HL : Hid (FlAt W b l)) :
    Calls Try.prog 27 #[.slice b n c] W (Puts W.heap.size W (intsL (l.map rwI))) := by
  have HLEN : Hid ((l.map rwI).length = n) := Lib.hid (by rw [List.length_map]; exact hn.out.symm)
  go_enter Try.func27, Try.ntmps27
  go_wp2
  go_loopw [3, 4] (fun u v wr => RRF W l n u v wr) (fun _ v _ => n - (intOf v).toNat)
  case atStart => exact ⟨0, none, 0, Nat.zero_le _, rfl, rfl, OwnI.nil _ _, Below.refl _ _⟩
  case round =>
    obtain ⟨k, A, cap, hk, rfl, rfl, ho, hb⟩ := hrel
    have HO := Lib.hid ho; have HB := Lib.hid hb
    have hb2 := Lib.hid ho.base
    clear ho hb
    by_cases hlt : k < n
    · obtain ⟨x, hx⟩ : ∃ x, l[k]? = some x := ⟨l[k]'(by have := hn.out; omega), List.getElem?_eq_getElem _⟩
      obtain ⟨hx64, g, off, rfl, -, hcx⟩ := (HL.out.keep HB.out) k x hx
      have HSN := Lib.hid (rw_snoc l k x hx)
      have HBI := Lib.hid (refBits_any x hx64)
      obtain ⟨y, hy⟩ : ∃ y, y = Fl.canon x := ⟨_, rfl⟩
      rw [← hy] at HBI
      obtain ⟨z, hz⟩ : ∃ z, z = rwI x := ⟨_, rfl⟩
      have hyw : IntKind.i64.wrap (y : Int) = z := by rw [hy, hz]; rfl
      rw [← hz] at HSN
      have HWZ : Hid (Wf64 z) := Lib.hid (by rw [hz]; exact rwI_wf x)
      have HAX := Lib.hid (is_one wr z HWZ.out)
      have HBB := Lib.hid ((Below.refl wr.heap.size wr).alloc (Nat.le_refl _) (.cells #[.int .i64 z] 2))
      have HOX := Lib.hid (HO.out.keep HBB.out)
      have hbs : W.heap.size ≤ (wr.alloc (.cells #[.int .i64 z] 2)).heap.size := Nat.le_trans HB.out.size HBB.out.size
      clear hx hy hz
      go_wp2_with (first
        | (go_at_call 55; refine (HBI.out _).mono ?_; rintro e w2 ⟨rfl, rfl⟩)
        | (refine wpList_append_is rfl (.tmp 11) (.tmp 18) rfl W.heap.size A k cap _ rfl HOX.out ⟨wr.heap.size, 0, none⟩ 1 1 [z] rfl rfl HAX.out (by omega) hbs ?_; intro A3 c3 w4 ho hg; have HO4 := Lib.hid ho; have HB4 : Hid (Below W.heap.size W w4) := Lib.hid ((below_to HB.out HBB.out).grown hg hbs hb2.out); clear ho hg))
      go_roundw
      case rel => exact ⟨k + 1, A3, c3, by omega, by go_num, rfl, by rw [HSN.out]; exact HO4.out, HB4.out⟩
      case measure => simp [intOf]; omega
    · obtain rfl : k = n := by omega
      rw [List.take_of_length_le (by have := HLEN.out; omega)] at HO
      obtain ⟨hkc, hcm⟩ := HO.out.caps
      have HI := Lib.hid (refInts_any A k cap (l.map rwI) (Lib.hid HLEN.out.symm) hkc hcm (by omega) wr (Lib.hid HO.out.isAt))
      go_wp2_with (go_at_call 12; (with_reducible refine (HI.out).mono ?_); rintro e w2 ⟨A2, n2, c2, rfl, h1, h2, h3⟩; have HO2 := Lib.hid (h1.more HB.out.size); have HB2 := Lib.hid (below_to HB.out h2); clear h1 h2 h3)
      go_ret
      exact ⟨A2, n2, c2, rfl, HO2.out, HB2.out, HB2.out.size⟩
end Go.Proofs.Ytlhaedcoompjpaa

set_option linter.unusedSimpArgs false
set_option linter.unusedVariables false
set_option maxRecDepth 8000
namespace Go.Proofs.Ytlhaedcoompjpaa
open Go.RowKit Go.WideShapes Col
theorem IsAt.kept {S : Nat → Prop} {w w' : World} {a : Option Addr} {l : List Int} (h : IsAt w a l) (hk : Kept S w w') (ho : ∀ b, a = some b → ¬ S b.block) : IsAt w' a l := fun k x hx => by
  obtain ⟨h1, g, off, h2, h3, h4⟩ := h k x hx
  have e := ho _ h2
  exact ⟨h1, g, off, h2, Nat.lt_of_lt_of_le h3 hk.size, (hk.cell (p := ⟨g, off + k, none⟩) h3 e).trans h4⟩
theorem OwnI.ltI {w : World} {B n cap : Nat} {A : Option Addr} {l : List Int} (h : OwnI w B A n cap l) (k : Nat) (hk : A.map (·.block) = some k) : k < w.heap.size := by
  rcases h.1.2 with ⟨h1, _⟩ | ⟨a, cap', cur, h1, hb, hrow, -⟩
  · injection h1 with e1 e2 e3; rw [e1] at hk; cases hk
  · injection h1 with e1 e2 e3; rw [e1] at hk; simp at hk; subst hk; exact (Array.getElem?_eq_some_iff.1 hrow).1
theorem un_snoc (xs : List Int) (k : Nat) (x : Int) (h : xs[k]? = some x) : (xs.map u64N).take (k + 1) = (xs.map u64N).take k ++ [u64N x] := by
  rw [List.take_add_one, List.getElem?_map, h]; rfl
theorem fill_setN (xs : List Nat) (n k : Nat) (hx : xs.length = k) (hk : k < n) (x : Nat) : (xs ++ List.replicate (n - k) 0).set k x = (xs ++ [x]) ++ List.replicate (n - (k + 1)) 0 := by
  obtain ⟨m, rfl⟩ : ∃ m, n = k + 1 + m := ⟨n - k - 1, by omega⟩
  rw [show k + 1 + m - k = m + 1 by omega, show k + 1 + m - (k + 1) = m by omega, List.replicate_succ, List.set_append_right _ _ (by omega), hx, Nat.sub_self, List.set_cons_zero, List.append_assoc]; rfl
theorem fillN_at (xs : List Nat) (n k : Nat) (hx : xs.length = k) (x : Nat) : ((xs ++ [x]) ++ List.replicate (n - (k + 1)) 0)[k]? = some x := by
  rw [List.append_assoc, List.getElem?_append_right (by omega), hx, Nat.sub_self]; rfl
set_option maxHeartbeats 4000000 in
theorem readReals_yes (g : Nat) (q : List Nat) (w : World) (H : Hid (RdM g q w)) (xs : List Int) (r : List Nat) (ho : Hid (rI q = some (xs, r))) (hok : Hid (∀ x ∈ xs, Fl.canon (u64N x) = u64N x)) (n : Nat) (hn : Hid (n = xs.length)) (hn1 : n ≤ 4096) :
    Calls Try.prog 53 #[.pointer (some ⟨g, 0, none⟩)] w fun e w' => ∃ L, e = .returned (.slice (some ⟨L, 0, none⟩) n n) ∧ w.heap.size ≤ L ∧ RowF w' L (xs.map u64N) ∧ RdM g r w' ∧ Kept (Only g) w w' := by
  obtain ⟨iu, hiu, hz0, hz1, hz2⟩ := info_parts infoF64
  have hzb : iu.bytes * n ≤ 281474976710656 := by rw [hz2]; omega
  have hnm : n ≤ maxLen := by unfold maxLen; omega
  have HI := Lib.hid (readInts_any g q w H)
  have hgl := H.out.1.glt
  have HLEN : Hid ((xs.map u64N).length = n) := Lib.hid (by rw [List.length_map]; exact hn.out.symm)
  go_enter Try.func53, Try.ntmps53
  go_wp2_with (first
    | (go_at_call 45; go_loud (refine (HI.out).mono ?_; intro e w2 h8; rw [ho.out] at h8; have h8 : (∃ A n' cap, e = .returned (.slice A n' cap) ∧ OwnI w2 w.heap.size A n' cap xs) ∧ RdM g r w2 ∧ Kept (Only g) w w2 := h8; obtain ⟨⟨A, n', cap, rfl, h3⟩, h4, h5⟩ := h8; obtain rfl : n' = n := (by have e1 := h3.len; have e2 := hn.out; omega); have HOW := Lib.hid h3; have HRD := Lib.hid h4; have HK := Lib.hid h5; clear h3 h4 h5))
    | (refine wpList_make_full _ rfl (.tmp 10) (.tmp 10) 39 rfl w2.heap.size 45 iu (.float .f64 0) 1 Try.underlying39 hiu hz0 hz1 .i64 .i64 _ _ n' rfl rfl rfl rfl hzb hnm (Nat.le_refl _) ?_; intro w3 own hgr; have HRF := Lib.hid (rowF_zeros own); have HB3 : Hid (Below w2.heap.size w2 w3) := Lib.hid ((Below.refl _ w2).grown hgr (Nat.le_refl _) (by intro k hk; cases hk)); clear own hgr))
  obtain ⟨L, hL⟩ : ∃ L, L = w2.heap.size := ⟨_, rfl⟩
  rw [← hL] at HRF ⊢
  have hwL : w.heap.size ≤ L := by rw [hL]; exact HK.out.size
  have HRD3 : Hid (RdM g r w3) := Lib.hid (HRD.out.high (S := fun _ => False) (Kept.of_below HB3.out) fun k e => e.elim)
  have HIS3 : Hid (IsAt w3 A xs) := Lib.hid (HOW.out.isAt.keep HB3.out)
  have HAL : Hid (∀ b, A = some b → b.block ≠ L) := Lib.hid fun b e => by have := HOW.out.ltI b.block (by rw [e]; rfl); omega
  have HK3 : Hid (Kept (Only g) w w3) := Lib.hid (HK.out.trans (Kept.of_below HB3.out))
  clear hL HOW HRD HK HB3 HI
  go_loopw [14] (fun v wr => ∃ k : Nat, k ≤ n' ∧ v = .int .i64 (k : Int) ∧ RowF wr L ((xs.map u64N).take k ++ List.replicate (n' - k) 0) ∧ RdM g r wr ∧ Kept (fun j => j = L) w3 wr) (fun v _ => n' - (intOf v).toNat)
  case atStart => exact ⟨0, Nat.zero_le _, rfl, by simpa using HRF.out, HRD3.out, Kept.refl _ _⟩
  case round =>
    obtain ⟨k, hk, rfl, hrow, hrd, hkp⟩ := hrel
    have HROW := Lib.hid hrow; have HRD := Lib.hid hrd; have HKL := Lib.hid hkp
    clear hrow hrd hkp HRF
    by_cases hlt : k < n'
    · obtain ⟨x, hx⟩ : ∃ x, xs[k]? = some x := ⟨xs[k]'(by have := hn.out; omega), List.getElem?_eq_getElem _⟩
      obtain ⟨-, ga, oa, rfl, hga, hca⟩ := (HIS3.out.kept HKL.out (fun b e h => HAL.out b e h)) k x hx
      have HGA := Lib.hid hga; have HCA := Lib.hid hca
      have HNE : Hid (ga ≠ L) := Lib.hid (HAL.out _ rfl)
      obtain ⟨hu1, hu2⟩ := u64N_eq x
      have HSN := Lib.hid (un_snoc xs k x hx)
      have hcan := hok.out x (List.mem_of_getElem? hx)
      obtain ⟨u, hu⟩ : ∃ u, u = u64N x := ⟨_, rfl⟩
      rw [← hu] at hu1 hu2 hcan HSN
      have hOF := of_any u hu2
      rw [hcan] at hOF
      have HOF := Lib.hid hOF
      have hBI := bits_any u hu2
      rw [hcan] at hBI
      have HBI := Lib.hid hBI
      have f2 := HROW.out.fr k
      obtain ⟨u2, c2⟩ := HROW.out.at k (by rw [List.length_append, List.length_replicate, List.length_take]; have := HLEN.out; omega)
      have HSET := Lib.hid (fill_setN ((xs.map u64N).take k) n' k (by rw [List.length_take]; have := HLEN.out; omega) hlt u)
      have HAT := Lib.hid (fillN_at ((xs.map u64N).take k) n' k (by rw [List.length_take]; have := HLEN.out; omega) u)
      have s1 := run_store_flC wr ⟨L, k, none⟩ u u2 c2 f2
      have HR2 : Hid (RowF (wr.setCell ⟨L, k, none⟩ (.float .f64 u)) L ((xs.map u64N).take (k + 1) ++ List.replicate (n' - (k + 1)) 0)) := Lib.hid (by rw [HSN.out, ← HSET.out]; exact HROW.out.set k u)
      have HK2 : Hid (Kept (fun j => j = L) wr (wr.setCell ⟨L, k, none⟩ (.float .f64 u))) := Lib.hid ((Kept.refl _ _).setCell _ _ (.inl rfl))
      have HRD2 : Hid (RdM g r (wr.setCell ⟨L, k, none⟩ (.float .f64 u))) := Lib.hid (HRD.out.high HK2.out fun j hj => by have hj : j = L := hj; omega)
      clear hx hu hcan hOF hBI hga
      go_upto_region 7 with (go_at_call 83; refine (HOF.out _).mono ?_; rintro e w9 ⟨rfl, rfl⟩)
      clear s1 c2 f2 hca
      generalize wr.setCell ⟨L, k, none⟩ (.float .f64 u) = w4 at *
      have c4 : w4.cell? ⟨L, k, none⟩ = some (.float .f64 u) := HR2.out.cell k u (by rw [HSN.out]; exact HAT.out)
      have huu : ((u : Int) == (u : Int)) = true := by simp
      go_wp2_with (first
        | (go_at_call 62; refine (HBI.out _).mono ?_; rintro e w9 ⟨rfl, rfl⟩)
        | (go_at_call 38; (with_reducible refine (check_true _ _).mono ?_); rintro e w9 ⟨rfl, rfl⟩))
      go_roundw
      case rel => exact ⟨k + 1, by omega, by go_num, HR2.out, HRD2.out, HKL.out.trans HK2.out⟩
      case measure => simp [intOf]; omega
    · obtain rfl : k = n' := by omega
      go_wp2
      go_ret
      have hr := HROW.out
      rw [Nat.sub_self, List.replicate_zero, List.append_nil, List.take_of_length_le (by have := HLEN.out; omega)] at hr
      exact ⟨L, rfl, hwL, hr, HRD.out, HK3.out.trans' HKL.out fun j hj => .inr (by have hj : j = L := hj; omega)⟩
/-- What the list's cell holds behind the reading. -/
def RdLF (us : List Nat) (n cl B : Nat) (b : Bool) (w : World) : Prop := b = true ∧ ∃ L, w.heap[cl]? = some (.cells #[.slice (some ⟨L, 0, none⟩) n n] 39 (0, 0)) ∧ RowF w L us ∧ B ≤ L
theorem off_slice' {w : World} {cl y z : Nat} {A x : Option Addr} {q : List Nat} {ty : TypeId} (h : ByAt w A q) (hr : w.heap[cl]? = some (.cells #[.slice x y z] ty (0, 0))) : Off (fun k => k = cl) A q := off_slice h hr
set_option maxHeartbeats 2000000 in
theorem listFnF_yes (g bf cl : Nat) (q : List Nat) (hql : q.length ≤ 1099511627776) (xs : List Int) (ho : Hid (rI q = some (xs, []))) (hok : Hid (∀ x ∈ xs, Fl.canon (u64N x) = u64N x)) (n : Nat) (hn : Hid (n = xs.length)) (hn1 : n ≤ 4096) (w : World) (HR : Hid (Rd w g q)) (Hf : Hid (w.heap[bf]? = some (.cells #[.func (.func 53) #[] #[]] 79 (0, 0)))) (Hc : Hid (w.heap[cl]? = some (.cells #[.slice none 0 0] 39 (0, 0)))) (h1 : cl < g) (h2 : bf < g) :
    Calls Try.prog 82 #[.pointer (some ⟨g, 0, none⟩), .pointer (some ⟨bf, 0, none⟩), .pointer (some ⟨cl, 0, none⟩)] w (Tried g (fun k => k = cl) (RdLF (xs.map u64N) n cl (g + 1)) w) := by
  have hc : w.cell? ⟨bf, 0, none⟩ = some (.func (.func 53) #[] #[]) := by rw [cell_of_row _ _ _ _ _ _ Hf.out]; rfl
  have HI := Lib.hid (readReals_yes g q w (Lib.hid ⟨HR.out, hql⟩) xs [] ho hok n hn hn1)
  have hgl := HR.out.glt
  go_enter Try.func82, Try.ntmps82
  go_wp2_with (go_at_call 53; refine (HI.out).mono ?_; rintro e w3 ⟨L, rfl, hL, hrf, hrd, hk⟩; have HRF := Lib.hid hrf; have HRD := Lib.hid hrd; have HK := Lib.hid hk; have hrow := hk.heap Hc.out (fun e => by have e : cl = g := e; omega); have c3 : w3.cell? ⟨cl, 0, none⟩ = some (.slice none 0 0) := (by rw [cell_of_row _ _ _ _ _ _ hrow]; rfl); have f3 : w3.frozen? ⟨cl, 0, none⟩ = false := row_frozen hrow 0; have HROW := Lib.hid hrow; clear hrf hrd hk hrow)
  have hk : Kept (fun k => k = cl) w3 (w3.setCell ⟨cl, 0, none⟩ (.slice (some ⟨L, 0, none⟩) n n)) := (Kept.refl _ _).setCell _ _ (.inl rfl)
  have hrow2 : (w3.setCell ⟨cl, 0, none⟩ (.slice (some ⟨L, 0, none⟩) n n)).heap[cl]? = some (.cells #[.slice (some ⟨L, 0, none⟩) n n] 39 (0, 0)) := by
    have := HROW.out; rw [World.setCell]; simp [Array.getElem?_modify, this]
  have hkk : Kept (fun k => k = cl ∨ k = g) w (w3.setCell ⟨cl, 0, none⟩ (.slice (some ⟨L, 0, none⟩) n n)) := (HK.out.mono fun k hk => .inl (.inr hk)).setCell _ _ (.inl (.inl rfl))
  refine bodyPost_end (results_none rfl _ _ _) rfl ⟨hkk, .inl ⟨[], rfl, HRD.out.1.high' hk (fun k hk => by have hk : k = cl := hk; omega) (fun A C h => off_slice h.bytes HROW.out), rfl, L, hrow2, HRF.out.keep hk (fun e => by have e : L = cl := e; omega), by omega⟩⟩
set_option maxHeartbeats 2000000 in
theorem readRealsC_yes (A : Option Addr) (C : Nat) (q : List Nat) (m : Nat) (hm : Hid (m = q.length)) (hm4 : m ≤ 1099511627776) (hC : m ≤ C) (hC' : C ≤ maxLen) (xs : List Int) (ho : Hid (rI q = some (xs, []))) (hok : Hid (∀ x ∈ xs, Fl.canon (u64N x) = u64N x)) (n : Nat) (hn : Hid (n = xs.length)) (hn1 : n ≤ 4096) (w : World) (HA : Hid (ByAt w A q)) :
    Calls Try.prog 20 #[.slice A m C] w fun e w' => ∃ L, e = .returned (.tuple #[.slice (some ⟨L, 0, none⟩) n n, .int .i64 0]) ∧ RowF w' L (xs.map u64N) ∧ Below w.heap.size w w' := by
  have hin : Calls Try.prog 52 #[.slice A m C, .func (.func 53) #[] #[]] w fun e w' => ∃ L, e = .returned (.tuple #[.slice (some ⟨L, 0, none⟩) n n, .int .i64 0]) ∧ RowF w' L (xs.map u64N) ∧ Below w.heap.size w w' := by
    obtain ⟨bf, w1, hbf, hw1, hrow1, hb1, hbf1⟩ := alloc_pt w (.func (.func 53) #[] #[]) 79
    obtain ⟨cl, w2, hcl, hw2, hrow2, hb2, hcl2⟩ := alloc_pt w1 (.slice none 0 0) 39
    have HW : Hid ((w.alloc (.cells #[.func (.func 53) #[] #[]] 79)).alloc (.cells #[.slice none 0 0] 39) = w2) := Lib.hid (by rw [hw2, hw1])
    have hsz : w1.heap.size = w.heap.size + 1 := by rw [hw1]; simp
    have HBF := Lib.hid hbf; have HCL : Hid (cl = w.heap.size + 1) := Lib.hid (by rw [hcl, hsz])
    have HB2 : Hid (Below w.heap.size w w2) := Lib.hid (below_to hb1 hb2)
    have hrf2 := (Kept.of_below (S := fun _ => False) hb2).heap hrow1 fun e => e
    have ht := try_any 82 #[] #[.pointer (some ⟨bf, 0, none⟩), .pointer (some ⟨cl, 0, none⟩)] A C q m hm hC hC' w2 (Lib.hid (HA.out.keep HB2.out)) (fun k => k = cl) (fun k hk => by have hk : k = cl := hk; omega)
      (fun g => RdLF (xs.map u64N) n cl (g + 1)) (RdLF (xs.map u64N) n cl w2.heap.size) (fun g b v2 v3 hg h hk => by
        obtain ⟨hb, L, hrow, hrf, hl⟩ := h
        exact ⟨hb, L, hk.heap hrow fun e => by have e : cl = g := e; omega, hrf.keep hk (fun e => by have e : L = g := e; omega), by omega⟩)
      (fun g v1 hg hr hb => listFnF_yes g bf cl q (by rw [← hm.out]; exact hm4) xs ho hok n hn hn1 v1 (Lib.hid hr) (Lib.hid ((Kept.of_below (S := fun _ => False) hb).heap hrf2 fun e => e)) (Lib.hid ((Kept.of_below (S := fun _ => False) hb).heap hrow2 fun e => e)) (by omega) (by omega))
      (fun _ _ => by first | rfl | kernel_rfl)
    have HT := Lib.hid ht
    clear ht hbf hw1 hrow1 hb1 hcl hw2 hrow2 hb2 hrf2 hbf1
    go_enter Try.func52, Try.ntmps52
    go_upto_region 2 with fail
    have e1 : w.heap.size = bf := HBF.out.symm
    have e2 : w.heap.size + 1 = cl := HCL.out.symm
    have hx : ∀ w3 : World, Kept (fun k => k = cl) w2 w3 → Below w.heap.size w w3 := fun w3 hk => HB2.out.trans (hk.below (B := w.heap.size) (by omega) fun k hk => by have hk : k = cl := hk; omega)
    have HX := Lib.hid hx
    clear hx
    rw [HW.out, e2, e1]
    clear e1 e2
    go_wp2_with (go_at_call 28; (with_reducible refine (HT.out).mono ?_); rintro e w3 ⟨b, rfl, ⟨rfl, L, hrow9, hrf9, hl9⟩, hk⟩; have HB3 := Lib.hid (HX.out w3 hk); have HRF := Lib.hid hrf9; have c9c : w3.cell? ⟨cl, 0, none⟩ = some (.slice (some ⟨L, 0, none⟩) n n) := (by rw [cell_of_row _ _ _ _ _ _ hrow9]; rfl); clear hk hrow9 hrf9)
    go_ret2
    exact ⟨L, rfl, HRF.out, HB3.out⟩
  have HT := Lib.hid hin
  clear hin
  go_enter Try.func20, Try.ntmps20
  go_wp2_with (go_at_call 52; (with_reducible refine (HT.out).mono ?_); rintro e w3 ⟨L, rfl, hrf, hb⟩; have HB := Lib.hid hb; have HRF := Lib.hid hrf; clear hb hrf)
  go_ret2
  exact ⟨L, rfl, HRF.out, HB.out⟩
end Go.Proofs.Ytlhaedcoompjpaa
