/-
  The walk of exact.nearest, and of Value.
-/
import Derived.Test.YtbimfopbilcdgaaQZy0
import Derived.RegionTactic
import Derived.ChangeAlike
import Derived.StillTailTactics
import Derived.BigQuiet
import Derived.Deep.MidRow
import Derived.BigRegion
import Derived.Deep.RegionHeld3
import Derived.ProofKit
import Derived.Laws.Cover2
import Derived.WideKeyArgs
import Derived.Carry
import Derived.Deep.Slices
import Derived.WalkKit
import Derived.WalkSpells
import Derived.WalkLawsBesides
import Derived.Lib.Hide
import Derived.Lib.Bytealg
import Derived.Deep.Draws
import Derived.Outline
import Derived.Sort.Grow
set_option linter.unusedSimpArgs false
set_option linter.unusedVariables false
set_option maxRecDepth 8000
namespace Go.Proofs.Ytbimfopbilcdgaa
open Go.RowKit Sm

theorem Kp.stored {w0 : World} {g : Nat} {cs : Array Value} {t : TypeId} {w : World} (h : Kp w0 g cs t w) (hg : w0.heap.size ≤ g) (cs' : Array Value) : Kp w0 g cs' t (w.setRow g cs') :=
  ⟨below_setRow h.below hg _, setRow_heap _ _ _ _ _ _ h.row⟩

def NgGives (n N : Nat) : Prop := ∀ w, Calls Try.prog 144 #[.agg (A35 (wd n))] w fun e w' => e = .returned (.agg (A35 (wd N))) ∧ Below w.heap.size w w'
def BlGives (n L : Nat) : Prop := ∀ w, Calls Try.prog 145 #[.agg (A35 (wd n))] w fun e w' => e = .returned (.int .i64 L) ∧ Below w.heap.size w w'
def RuGives (n : Nat) (S : Int) (b : Bool) : Prop := ∀ w, Calls Try.prog 147 #[.agg (A35 (wd n)), .int .i64 S] w fun e w' => e = .returned (.bool b) ∧ Below w.heap.size w w'
theorem NgGives.at {n N : Nat} (h : NgGives n N) (w : World) : Calls Try.prog 144 #[.agg (A35 (wd n))] w fun e w' => e = .returned (.agg (A35 (wd N))) ∧ Below w.heap.size w w' := h w
theorem BlGives.at {n L : Nat} (h : BlGives n L) (w : World) : Calls Try.prog 145 #[.agg (A35 (wd n))] w fun e w' => e = .returned (.int .i64 L) ∧ Below w.heap.size w w' := h w
theorem RuGives.at {n : Nat} {S : Int} {b : Bool} (h : RuGives n S b) (w : World) : Calls Try.prog 147 #[.agg (A35 (wd n)), .int .i64 S] w fun e w' => e = .returned (.bool b) ∧ Below w.heap.size w w' := h w

/-- The word of a sign, and of what lies on a rung, or above all. -/
def Wf (sg ov : Bool) (R : Int) : Nat := (if ov then 9218868437227405312 else R.toNat) + (if sg then 9223372036854775808 else 0)
theorem or_none (R : Int) (h0 : 0 ≤ R) (h1 : R ≤ 9218868437227405312) : bits .or .u64 R 0 = (R.toNat : Nat) := by
  have h := bits_or_u64_nat R.toNat 0 (by omega) (by decide)
  rw [Nat.or_zero] at h
  rw [← h]; congr 1; omega
theorem or_some (R : Int) (h0 : 0 ≤ R) (h1 : R ≤ 9218868437227405312) : bits .or .u64 R 9223372036854775808 = ((R.toNat + 9223372036854775808 : Nat) : Int) := by
  rw [← Fl.or_sign _ (by omega)]; congr 1; omega
theorem canon_low (r : Nat) (h : r % 9223372036854775808 ≤ 9218868437227405312) : Fl.canon r = r := by
  unfold Fl.canon Fl.nan Fl.rung; rw [if_neg]; rw [decide_eq_true_eq]; omega
theorem of_or0 (R : Int) (h0 : 0 ≤ R) (h1 : R ≤ 9218868437227405312) (w : World) :
    Calls Try.prog 91 #[.int .u64 (bits .or .u64 R 0)] w fun e w' => e = .returned (.float .f64 R.toNat) ∧ w = w' := by
  have h := of_any R.toNat (by omega) w
  rwa [← or_none R h0 h1, canon_low _ (by omega)] at h
theorem of_or1 (R : Int) (h0 : 0 ≤ R) (h1 : R ≤ 9218868437227405312) (w : World) :
    Calls Try.prog 91 #[.int .u64 (bits .or .u64 R 9223372036854775808)] w fun e w' => e = .returned (.float .f64 (R.toNat + 9223372036854775808)) ∧ w = w' := by
  have h := of_any (R.toNat + 9223372036854775808) (by omega) w
  rwa [← or_some R h0 h1, canon_low _ (by omega)] at h
theorem wf00 {R R' : Int} (h : R' = R) : R'.toNat = Wf false false R := by rw [h]; unfold Wf; simp
theorem wf10 {R R' : Int} (h : R' = R) : R'.toNat + 9223372036854775808 = Wf true false R := by rw [h]; unfold Wf; simp
theorem wf01 {R : Int} : (9218868437227405312 : Int).toNat = Wf false true R := by unfold Wf; simp
theorem wf11 {R : Int} : (9218868437227405312 : Int).toNat + 9223372036854775808 = Wf true true R := by unfold Wf; simp
theorem tup_eq {a b : Nat} {c : Bool} (h : a = b) : Ending.returned (.tuple #[.float .f64 a, .bool c]) = Ending.returned (.tuple #[.float .f64 b, .bool c]) := by rw [h]

set_option maxHeartbeats 2000000 in
theorem nearest_core (n N L : Nat) (S : Int) (X : Int) (b sg ov : Bool) (hN : sg = true → NgGives n N) (hN2 : sg = false → N = n) (hL : BlGives N L) (hX : BfGives N S X) (hb : RuGives N S b)
    (hsg : bits .and .u64 (wd n 34 : Int) 9223372036854775808 = if sg then 9223372036854775808 else 0) (hov : if ov then 9218868437227405312 ≤ S * 4503599627370496 + X + b.toNat else S * 4503599627370496 + X + b.toNat < 9218868437227405312) (hs : L < 53 ∧ S = 0 ∨ 53 ≤ L ∧ S = (L : Int) - 52 - 1) (hl : L ≤ 2240) (hx0 : 0 ≤ X) (hx : X < 9007199254740992) (w : World) :
    Calls Try.prog 118 #[.agg (A35 (wd n))] w fun e w' => e = .returned (.tuple #[.float .f64 (Wf sg ov (S * 4503599627370496 + X + b.toNat)), .bool ov]) ∧ Below w.heap.size w w' := by
  have hg := A35_get (wd n) 34 (by omega)
  have hk := Kp.start w (A35 (wd n)) 85
  rcases hs with ⟨hs, rfl⟩ | ⟨hs, rfl⟩ <;> cases sg <;> cases b <;> cases ov
  all_goals simp only [if_true, if_false, Bool.toNat_true, Bool.toNat_false, Bool.false_eq_true, reduceIte] at hsg hov
  all_goals try (exfalso; omega)
  all_goals first
    | (have hN := hN rfl; clear hN2)
    | (obtain rfl : N = n := hN2 rfl; clear hN)
  all_goals
    go_enter Try.func118, Try.ntmps118
    go_wp2_with (first
      | (refine wpList_load_row_w rfl 85 (.tmp 1) rfl w.heap.size rfl _ (A35 _) (0, 0) _ hk.row u35 rfl (i35' _) ?_)
      | (refine wpList_store_row rfl 85 (.tmp 1) (.tmp 13) rfl w.heap.size (A35 (wd N)) rfl rfl _ _ hk.row (i35' _) (by rw [A35_size, A35_size]) (one35 _) ?_; replace hk := hk.stored (Nat.le_refl _) (A35 (wd N)))
      | (go_at_call 144; (with_reducible refine (hN.at _).mono ?_); rintro e w' ⟨rfl, hb⟩; replace hk := hk.next hb; clear hb)
      | (go_at_call 145; (with_reducible refine (hL.at _).mono ?_); rintro e w' ⟨rfl, hb⟩; replace hk := hk.next hb; clear hb)
      | (go_at_call 146; (with_reducible refine (hX.at _).mono ?_); rintro e w' ⟨rfl, hb⟩; replace hk := hk.next hb; clear hb)
      | (go_at_call 147; (with_reducible refine (hb.at _).mono ?_); rintro e w' ⟨rfl, hb⟩; replace hk := hk.next hb; clear hb)
      | (go_at_call 91; (first | (with_reducible refine (of_or0 _ ?h0 ?h1 _).mono ?_) | (with_reducible refine (of_or1 _ ?h0 ?h1 _).mono ?_)); (case h0 => omega); (case h1 => omega); rintro e w' ⟨rfl, rfl⟩))
    go_ret2
    refine ⟨tup_eq ?_, hk.below⟩
    simp only [Bool.toNat_true, Bool.toNat_false]
    first
      | exact wf01
      | exact wf11
      | (refine wf00 ?_; omega)
      | (refine wf10 ?_; omega)

theorem sgn_and (n : Nat) (hn : n < top) : bits .and .u64 (wd n 34 : Int) 9223372036854775808 = if sgn n then 9223372036854775808 else 0 := by
  rw [Fl.and_sign _ (wd_lt _ _), sgn_word n hn]
  by_cases h : 9223372036854775808 ≤ wd n 34 <;> simp [h]
theorem odd_and (x : Nat) (h : x < 18446744073709551616) : bits .and .u64 (x : Int) 1 = ((x % 2 : Nat) : Int) := by
  have h := bits_and_u64_nat x 1 h (by decide)
  rw [Nat.and_one_is_mod] at h
  exact h
theorem odd0 (x : Nat) (h : x < 18446744073709551616) : (bits .and .u64 (x : Int) 1 == 0) = decide (x % 2 = 0) := by
  rw [odd_and x h, Bool.eq_iff_iff, beq_iff_eq, decide_eq_true_eq]; omega
theorem odd1 (x : Nat) (h : x < 18446744073709551616) : (bits .and .u64 (x : Int) 1 == 1) = decide (x % 2 = 1) := by
  rw [odd_and x h, Bool.eq_iff_iff, beq_iff_eq, decide_eq_true_eq]; omega
theorem roundsUp_gives (m s : Nat) (hm : m < top) (hs : s < 2240) : RuGives m (s : Int) (rup m s) := by
  intro w
  rcases s with _ | s
  · have : rup m 0 = false := by unfold rup; simp
    rw [this]; exact roundsUp_zero m w
  · have h := roundsUp_core m s (m / 2 ^ s % 18446744073709551616 : Nat) (m / 2 ^ (s + 1) % 18446744073709551616 : Nat) _ _ _ hs (fun w => bitsFrom_any m s (by omega) hm w) (fun w => bitsFrom_any m (s + 1) hs hm w)
      (fun w => anyBelow_any m s (by omega) w) rfl rfl w
    have e : (!(bits .and .u64 ((m / 2 ^ s % 18446744073709551616 : Nat) : Int) 1 == 0) && (bits .and .u64 ((m / 2 ^ (s + 1) % 18446744073709551616 : Nat) : Int) 1 == 1 || decide (m % 2 ^ s ≠ 0))) = rup m (s + 1) := by
      rw [odd0 _ (Nat.mod_lt _ (by decide)), odd1 _ (Nat.mod_lt _ (by decide))]
      unfold rup
      rw [Nat.add_sub_cancel]
      generalize m / 2 ^ s = a
      generalize m / 2 ^ (s + 1) = b
      have h1 : a % 18446744073709551616 % 2 = a % 2 := by omega
      have h2 : b % 18446744073709551616 % 2 = b % 2 := by omega
      rw [h1, h2, ← decide_not]
      have h3 : (a % 2 = 1) ↔ ¬ (a % 2 = 0) := by omega
      have h4 : decide (a % 2 = 1) = decide (¬ (a % 2 = 0)) := decide_eq_decide.2 h3
      rw [h4]; simp
    rw [e] at h
    exact h

/-- What nearest tells of a number of 35 words. -/
theorem nearest_any (n : Nat) (hn : n < top) (w : World) :
    Calls Try.prog 118 #[.agg (A35 (wd n))] w fun e w' => e = .returned (.tuple #[.float .f64 (Ieee.double.nearest (sgn n) (mag n) (-1074)), .bool (decide (9218868437227405312 ≤ rnd (mag n)))]) ∧ Below w.heap.size w w' := by
  have hm := mag_lt n hn
  have hL := len_le _ hm
  have hq := quot_lt (mag n)
  have hd : drop (mag n) < 2240 := by unfold drop; omega
  have hX : BfGives (mag n) (drop (mag n) : Int) ((mag n / 2 ^ drop (mag n) : Nat) : Int) := by
    intro w
    have h := bitsFrom_any (mag n) (drop (mag n)) hd hm w
    rwa [Nat.mod_eq_of_lt (by omega)] at h
  have hR : ((drop (mag n) : Nat) : Int) * 4503599627370496 + ((mag n / 2 ^ drop (mag n) : Nat) : Int) + ((rup (mag n) (drop (mag n))).toNat : Nat) = (rnd (mag n) : Nat) := by
    unfold rnd
    generalize mag n / 2 ^ drop (mag n) = q
    omega
  have h := nearest_core n (mag n) (bitLen (mag n)) (drop (mag n) : Nat) ((mag n / 2 ^ drop (mag n) : Nat) : Int) (rup (mag n) (drop (mag n))) (sgn n) (decide (9218868437227405312 ≤ rnd (mag n)))
    (fun hs w => by have h := negated_any n (Nat.le_of_lt hn) w; unfold mag; rw [if_pos hs]; exact h)
    (fun hs => by unfold mag; rw [hs]; rfl) (fun w => bitLength_any _ hm w) hX (roundsUp_gives _ _ hm hd) (sgn_and n hn)
    (by rw [hR]; by_cases h : 9218868437227405312 ≤ rnd (mag n)
        · rw [if_pos (decide_eq_true h)]; omega
        · rw [if_neg (by rw [decide_eq_true_eq]; exact h)]; omega)
    (by unfold drop; omega) hL (Int.natCast_nonneg _) (Int.ofNat_lt.2 hq) w
  rw [hR] at h
  have e : Wf (sgn n) (decide (9218868437227405312 ≤ rnd (mag n))) (rnd (mag n) : Nat) = Ieee.double.nearest (sgn n) (mag n) (-1074) := by
    rw [nearest_rnd, word_eq]
    unfold Wf
    rw [Int.toNat_natCast]
    congr 1
    by_cases h : 9218868437227405312 ≤ rnd (mag n)
    · rw [if_pos (decide_eq_true h), Nat.min_eq_right h]
    · rw [if_neg (by rw [decide_eq_true_eq]; exact h), Nat.min_eq_left (by omega)]
  rw [e] at h
  exact h

end Go.Proofs.Ytbimfopbilcdgaa

set_option linter.unusedSimpArgs false
set_option linter.unusedVariables false
set_option maxRecDepth 8000
namespace Go.Proofs.Ytbimfopbilcdgaa.Sm
/-- A struct's cells. -/
def P36 (f : Nat → Nat) (h : Nat) : Array Value := (A35 f).push (.int .u8 h)
theorem S36_eq (n h : Nat) : S36 n h = P36 (wd n) h := by unfold S36 P36; rfl
theorem P36_size (f : Nat → Nat) (h : Nat) : (P36 f h).size = 36 := by unfold P36; rw [Array.size_push, A35_size]
theorem P36_has (f : Nat → Nat) (h : Nat) : (P36 f h)[35]? = some (.int .u8 h) := by
  unfold P36; rw [Array.getElem?_push, A35_size, if_pos rfl]
theorem P36_word (f : Nat → Nat) (h i : Nat) (hi : i < 35) : (P36 f h)[i]? = some (.int .u64 (f i)) := by
  unfold P36; rw [Array.getElem?_push, A35_size, if_neg (by omega), A35_get f i hi]
theorem P36_set (f : Nat → Nat) (h k x : Nat) (hk : k < 35) : (P36 f h).setIfInBounds k (.int .u64 (x : Int)) = P36 (fun i => if i = k then x else f i) h := by
  unfold P36
  rw [← A35_set]
  apply Array.ext_getElem?
  intro i
  by_cases e2 : i = 35
  · subst e2
    rw [Array.getElem?_setIfInBounds, if_neg (by omega), Array.getElem?_push, A35_size, if_pos rfl, Array.getElem?_push, Array.size_setIfInBounds, A35_size, if_pos rfl]
  · rw [Array.getElem?_setIfInBounds, Array.getElem?_push, A35_size, if_neg e2, Array.size_push, A35_size, Array.getElem?_push, Array.size_setIfInBounds, A35_size, if_neg e2, Array.getElem?_setIfInBounds, A35_size]
    by_cases e : k = i
    · rw [if_pos e, if_pos e, if_pos (by omega), if_pos (by omega)]
    · rw [if_neg e, if_neg e]
theorem P36_put (f : Nat → Nat) (h k : Nat) : (P36 f h).setIfInBounds 35 (.int .u8 (k : Int)) = P36 f k := by
  unfold P36
  apply Array.ext_getElem?
  intro i
  rw [Array.getElem?_setIfInBounds, Array.getElem?_push, Array.getElem?_push, A35_size, Array.size_push, A35_size]
  by_cases e : 35 = i
  · subst e; simp
  · rw [if_neg e, if_neg (fun h => e h.symm), if_neg (fun h => e h.symm)]
theorem P36_congr {f g : Nat → Nat} (h : Nat) (e : A35 f = A35 g) : P36 f h = P36 g h := by unfold P36; rw [e]
theorem mixP_zero (a b h : Nat) : P36 (mix 0 a b) h = P36 (wd b) h := by rw [mix_zero]
theorem mixP_all (a b h : Nat) : P36 (mix 35 a b) h = P36 (wd a) h := P36_congr h (mix_all a b)
theorem mixP_set (k a b h : Nat) (hk : k < 35) : (P36 (mix k a b) h).setIfInBounds k (.int .u64 (wd a k : Nat)) = P36 (mix (k + 1) a b) h := by
  rw [P36_set _ _ _ _ hk]
  refine P36_congr h ?_
  rw [← mix_set k a b, A35_set]
theorem mixP_get (k a b h : Nat) (hk : k < 35) : (P36 (mix k a b) h)[k]? = some (.int .u64 (wd b k : Nat)) := by
  rw [P36_word _ _ _ hk]; unfold mix; simp
theorem one36 (f : Nat → Nat) (h : Nat) : (P36 f h).all (·.oneCell') = true := by
  unfold P36
  rw [Array.all_push, one35 f]; rfl
theorem P36_inj {f g : Nat → Nat} {h k : Nat} (e : P36 f h = P36 g k) : A35 f = A35 g ∧ h = k := by
  unfold P36 at e
  have := Array.push_eq_push.1 e
  refine ⟨this.2, ?_⟩
  have h1 := this.1
  simp only [Value.int.injEq, true_and] at h1
  omega
attribute [irreducible] P36
end Go.Proofs.Ytbimfopbilcdgaa.Sm
namespace Go.Proofs.Ytbimfopbilcdgaa
open Go.RowKit Sm

theorem u27 : Try.prog.underlying 87 = some (.struct (Try.prog.fieldsOf 87)) := by kernel_rfl
theorem i36 (f : Nat → Nat) (h : Nat) : (Try.prog.info? 87).map (·.size) = some (P36 f h).size := by rw [P36_size]; kernel_rfl

set_option maxHeartbeats 400000 in
theorem any_any (n h : Nat) (w : World) :
    Calls Try.prog 131 #[.agg (P36 (wd n) h)] w fun e w' => e = .returned (.bool (bits .and .u8 (h : Int) 8 != 0)) ∧ Below w.heap.size w w' := by
  have hg := P36_has (wd n) h
  go_enter Try.func131, Try.ntmps131
  go_wp2
  go_ret
  exact ⟨rfl, (Below.refl _ _).alloc (Nat.le_refl _) _⟩

theorem add64_run (x y c : Nat) (hx : x < 18446744073709551616) (hc : c ≤ 1) (w : World) : (callFunc 151 #[.int .u64 x, .int .u64 y, .int .u64 c]).run Try.prog w =
    .ok (.value (.tuple #[.int .u64 (((x + y + c) % 18446744073709551616 : Nat) : Int), .int .u64 (((x + y + c) / 18446744073709551616 : Nat) : Int)])) w := by
  rw [run_callFunc_extern Try.func151 (by kernel_rfl) (by kernel_rfl) (by kernel_rfl) (e := add64Entry) (by kernel_rfl), run_add64 x y c (by omega) (by omega) (by omega) (by omega)]
  simp only [Result.andThen]
  congr 5 <;> omega
theorem addStep_run (a b r k : Nat) (hr : r = (a + b) % top) (hk : k < 35) (w : World) : (callFunc 151 #[.int .u64 (wd a k : Nat), .int .u64 (wd b k : Nat), .int .u64 (car a b k : Nat)]).run Try.prog w =
    .ok (.value (.tuple #[.int .u64 (wd r k : Nat), .int .u64 (car a b (k + 1) : Nat)])) w := by
  have h := add64_run (wd a k) (wd b k) (car a b k) (wd_lt _ _) (car_le a b k) w
  rw [← wd_sum a b k hk, ← car_succ, ← hr] at h
  exact h

theorem zeros36 : (#[Value.int .u64 0, .int .u64 0, .int .u64 0, .int .u64 0, .int .u64 0, .int .u64 0, .int .u64 0, .int .u64 0, .int .u64 0, .int .u64 0, .int .u64 0, .int .u64 0, .int .u64 0, .int .u64 0, .int .u64 0, .int .u64 0, .int .u64 0, .int .u64 0, .int .u64 0, .int .u64 0, .int .u64 0, .int .u64 0, .int .u64 0, .int .u64 0, .int .u64 0, .int .u64 0, .int .u64 0, .int .u64 0, .int .u64 0, .int .u64 0, .int .u64 0, .int .u64 0, .int .u64 0, .int .u64 0, .int .u64 0, .int .u8 0] : Array Value) = P36 (fun _ => 0) 0 := by
  unfold P36; rw [← zeros35]; rfl

@[go_sem] theorem setCell_drewN (w : World) (n : Nat) (a : Addr) (v : Value) : (w.drewN n).setCell a v = (w.setCell a v).drewN n := rfl
@[go_sem] theorem alloc_drewN (w : World) (n : Nat) (o : Obj) : (w.drewN n).alloc o = (w.alloc o).drewN n := rfl
theorem setRow_drewN (w : World) (n g : Nat) (c : Array Value) : (w.drewN n).setRow g c = (w.setRow g c).drewN n := rfl

theorem heap3_first (w : World) (A B C : Obj) (q : Nat) : ((((w.alloc A).alloc B).alloc C).drewN q).heap[w.heap.size]? = some A := by
  rw [World.heap_drewN, Below.heap_alloc _ _ _ (by simp; omega), heap_alloc2_old]
theorem heap3_last (w : World) (A B C : Obj) (q : Nat) : ((((w.alloc A).alloc B).alloc C).drewN q).heap[w.heap.size + 1 + 1]? = some C := by
  rw [World.heap_drewN]
  have h := heap_alloc_new ((w.alloc A).alloc B) C
  have e : ((w.alloc A).alloc B).heap.size = w.heap.size + 1 + 1 := by simp
  rwa [e] at h

set_option maxHeartbeats 1000000 in
theorem join_at (a b r ha hb hr : Nat) (HN : Hid (r = (a + b) % top)) (HO : bits .or .u8 (ha : Int) (hb : Int) = (hr : Nat)) (w : World) :
    Calls Try.prog 132 #[.agg (P36 (wd a) ha), .agg (P36 (wd b) hb)] w fun e w' => e = .returned (.agg (P36 (wd r) hr)) ∧ Below w.heap.size w w' := by
  have HO2 := Lib.hid HO
  clear HO
  go_enter Try.func132, Try.ntmps132
  go_wp2
  go_loopw [5, 7] (fun c i wr => ∃ k : Nat, k ≤ 35 ∧ i = .int .i64 k ∧ c = .int .u64 (car a b k : Nat) ∧ ∃ q : Nat, wr = (((w.alloc (.cells (P36 (mix k r a) ha) 87)).alloc (.cells (P36 (wd b) hb) 87)).alloc (.cells (P36 (fun _ => 0) 0) 87)).drewN q) (fun _ i _ => 35 - (intOf i).toNat)
  case atStart => exact ⟨0, by omega, rfl, by rw [car_zero]; rfl, 0, by rw [mixP_zero, zeros36]; rfl⟩
  case round =>
    obtain ⟨k, hk, rfl, rfl, q, rfl⟩ := hrel
    by_cases hlt : k < 35
    · have hg := mixP_get k r a ha hlt
      have hg2 := P36_word (wd b) hb k hlt
      have hs := addStep_run a b r k HN.out hlt
      have HS := Lib.hid (mixP_set k r a ha hlt)
      go_wp2
      go_region
      go_wp2
      go_roundw
      case rel => exact ⟨k + 1, by omega, by go_num, rfl, q + 1, by rw [HS.out]⟩
      case measure => simp [intOf]; omega
    · obtain rfl : k = 35 := by omega
      rw [mixP_all]
      have hg := P36_has (wd r) ha
      have hg2 := P36_has (wd b) hb
      have hp := P36_put (wd r) ha hr
      have ho := HO2.out
      go_wp2_with (first
        | refine wpList_load_row rfl 87 (.tmp 2) rfl w.heap.size rfl _ (P36 (wd r) hr) (0, 0) _ (heap3_first _ _ _ _ _) u27 rfl (i36 _ _) ?_
        | refine wpList_store_row rfl 87 (.tmp 4) (.tmp 33) rfl (w.heap.size + 1 + 1) (P36 (wd r) hr) rfl rfl _ _ (heap3_last _ _ _ _ _) (i36 _ _) (by rw [P36_size, P36_size]) (one36 _ _) ?_)
      exact post_row 4 87 Try.results132 rfl (w.heap.size + 1 + 1) 87 _ (0, 0) _ rfl (setRow_heap _ _ _ _ _ _ (heap3_last _ _ _ _ _)) u27 rfl (i36 _ _)
        ⟨rfl, below_setRow (below_drewN ((((Below.refl _ _).alloc (Nat.le_refl _) _).alloc (by simp) _).alloc (by simp; omega) _) _) (by omega) _⟩
theorem join_any (a b ha hb : Nat) (h1 : ha < 256) (h2 : hb < 256) (w : World) :
    Calls Try.prog 132 #[.agg (P36 (wd a) ha), .agg (P36 (wd b) hb)] w fun e w' => e = .returned (.agg (P36 (wd ((a + b) % top)) (ha ||| hb))) ∧ Below w.heap.size w w' :=
  join_at a b _ ha hb _ rfl (u8_or_nat ha hb h1 h2) w

/-! Same -/
theorem part_word (f : Nat → Nat) (i : Nat) (hi : i < 35) (w : World) : (part 62 (A35 f) (i * 1)).run Try.prog w = .ok (.int .u64 (f i)) w := by
  have h := A35_get f i hi
  rw [Nat.mul_one]
  unfold part
  simp [Sem.run_bind, h, isAgg, run_underlying Try.underlying62]
end Go.Proofs.Ytbimfopbilcdgaa

set_option linter.unusedSimpArgs false
set_option linter.unusedVariables false
set_option maxRecDepth 8000
namespace Go.Proofs.Ytbimfopbilcdgaa
open Go.RowKit Sm

theorem run_forIn_first {P : Program} {w : World} (c : Nat → Bool) (body : Nat → (Option Bool × PUnit) → Sem (ForInStep (Option Bool × PUnit))) :
    ∀ (l : List Nat), (∀ i, i ∈ l → ∀ s, (body i s).run P w = .ok (if c i then .yield (none, ⟨⟩) else .done (some false, ⟨⟩)) w) →
    (forIn l (none, ⟨⟩) body).run P w = .ok (if l.all c then (none, ⟨⟩) else (some false, ⟨⟩)) w
  | [], _ => by simp
  | i :: r, h => by
    rw [List.forIn_cons, Sem.run_bind, h i (by simp)]
    simp only [Result.andThen_ok, List.all_cons]
    by_cases hc : c i = true
    · simp only [hc, if_true, Bool.true_and]
      exact run_forIn_first c body r (fun j hj => h j (by simp [hj]))
    · simp only [Bool.not_eq_true] at hc
      simp [hc]

/-- Word by word. -/
def eqW (f g : Nat → Nat) : Bool := (List.range' 0 35).all fun i => f i == g i
theorem eqW_iff (f g : Nat → Nat) : eqW f g = true ↔ A35 f = A35 g := by
  unfold eqW
  rw [List.all_eq_true]
  constructor
  · intro h
    refine A35_congr fun i hi => ?_
    have := h i (by simp [List.mem_range', hi])
    simpa using this
  · intro h i hi
    have hi2 : i < 35 := by simp [List.mem_range'] at hi; omega
    simpa using A35_inj h i hi2

theorem size24 (w : World) : (sizeOf 62).run Try.prog w = .ok 1 w := by kernel_rfl
theorem eq35_run (d : Nat) (f g : Nat → Nat) (w : World) : (Op.equalIn (d + 2) 85 (.agg (A35 f)) (.agg (A35 g))).run Try.prog w = .ok (eqW f g) w := by
  rw [Op.equalIn]
  simp only [Sem.run_bind, run_underlying u35, Result.andThen_ok, size24]
  rw [Std.Legacy.Range.forIn_eq_forIn_range', run_forIn_first (fun i => f i == g i)]
  · have e : (List.range' [:35].start [:35].size [:35].step).all (fun i => f i == g i) = eqW f g := rfl
    rw [e]
    simp only [Result.andThen_ok]
    cases eqW f g <;> rfl
  · intro i hi s
    have hi2 : i < 35 := by simp [List.mem_range'] at hi; omega
    simp only [Sem.run_bind, part_word f i hi2, part_word g i hi2, Result.andThen_ok, run_equalIn_int w d 62 .u64 .u64 _ _ Try.underlying62]
    cases h : (f i == g i)
    · have : ((f i : Int) == (g i : Int)) = false := by rw [beq_eq_false_iff_ne] at h ⊢; omega
      rw [this]; rfl
    · have : ((f i : Int) == (g i : Int)) = true := by rw [beq_iff_eq] at h ⊢; omega
      rw [this]; rfl

/-- The words of a struct that lies in a known block. -/
theorem range_words (W : World) (g h : Nat) (f : Nat → Nat) (t : TypeId) (fr : Nat × Nat) (hg : W.heap[g]? = some (.cells (P36 f h) t fr)) : W.rangeAt g 0 (A35 f).toList := by
  intro j v hv
  rw [cell_of_row W g (0 + j) _ t fr hg, Nat.zero_add]
  have hj : j < 35 := by
    rcases Nat.lt_or_ge j 35 with h1 | h1
    · exact h1
    · rw [List.getElem?_eq_none (by simp [A35_size, h1])] at hv; cases hv
  rw [P36_word _ _ _ hj, ← A35_get f j hj]
  simpa using hv
theorem wpList_words {ops : Array Oper} {rest : List Oper} {o : Oper} {a : Act} {w : World} {Q : Exit → Act → World → Prop} (hgd : o.guard = none) (x : Operand) (ho : o.op = .load 85 x)
    (g : Nat) (hx : a.eval x = .pointer (some ⟨g, 0, none⟩)) (f : Nat → Nat) (h : Nat) (t : TypeId) (fr : Nat × Nat) (hg : w.heap[g]? = some (.cells (P36 f h) t fr))
    (hh : wpList Try.prog ops Q rest (a.put o.dst (.agg (A35 f))) w) : wpList Try.prog ops Q (o :: rest) a w :=
  wpList_load_mid hgd 85 x ho g 0 hx (A35 f).toList _ (range_words w g h f t fr hg) u35 rfl (by rw [i35' f]; simp) (by simpa using hh)

theorem eqlSum_run (f g : Nat → Nat) (w : World) : (binOp .eql 85 (.agg (A35 f)) (.agg (A35 g))).run Try.prog w = .ok (.bool (eqW f g)) w := by
  rw [run_eql_struct, eq35_run 9998]; rfl

end Go.Proofs.Ytbimfopbilcdgaa

set_option linter.unusedSimpArgs false
set_option linter.unusedVariables false
set_option maxRecDepth 8000
namespace Go.Proofs.Ytbimfopbilcdgaa.Sm
open Fl

/-! One number as words -/
theorem mul_pw_wd (X a i : Nat) : wd (X * pw a) i = if i < a then 0 else wd X (i - a) := by
  unfold wd
  by_cases h : i < a
  · rw [if_pos h]
    have e : pw a = pw i * (18446744073709551616 * pw (a - i - 1)) := by
      unfold pw
      rw [show (18446744073709551616 : Nat) = 2 ^ 64 from rfl, ← Nat.pow_add, ← Nat.pow_add]; congr 1; omega
    rw [e, ← Nat.mul_assoc, Nat.mul_comm X, Nat.mul_assoc, Nat.mul_div_cancel_left _ (pw_pos i), ← Nat.mul_assoc, Nat.mul_comm X, Nat.mul_assoc, Nat.mul_mod_right]
  · rw [if_neg h]
    have e : pw i = pw a * pw (i - a) := by unfold pw; rw [← Nat.pow_add]; congr 1; omega
    rw [e, ← Nat.div_div_eq_div_mul, Nat.mul_div_cancel _ (pw_pos a)]
/-- The two words of a number of 53 bits, moved. -/
theorem one_words (m s i : Nat) (hm : m < 9007199254740992) : wd (m * 2 ^ s) i = if i = s / 64 + 1 then m / 2 ^ (64 - s % 64) else if i = s / 64 then m * 2 ^ (s % 64) % 18446744073709551616 else 0 := by
  have hr : s % 64 < 64 := Nat.mod_lt _ (by decide)
  have e : m * 2 ^ s = m * 2 ^ (s % 64) * pw (s / 64) := by
    rw [pw_eq, Nat.mul_assoc, ← Nat.pow_add]; congr 2; omega
  rw [e, mul_pw_wd]
  generalize s / 64 = a
  generalize s % 64 = r at *
  have e64 : 2 ^ r * 2 ^ (64 - r) = 18446744073709551616 := by rw [← Nat.pow_add, show r + (64 - r) = 64 by omega]
  have hX : m * 2 ^ r / 18446744073709551616 = m / 2 ^ (64 - r) := by
    rw [← e64, Nat.mul_comm m, Nat.mul_div_mul_left _ _ (Nat.two_pow_pos r)]
  have hs : m / 2 ^ (64 - r) < 18446744073709551616 := Nat.lt_of_le_of_lt (Nat.div_le_self _ _) (by omega)
  by_cases h1 : i < a
  · rw [if_pos h1, if_neg (by omega), if_neg (by omega)]
  · rw [if_neg h1]
    by_cases h2 : i = a + 1
    · rw [if_pos h2, h2, show a + 1 - a = 1 by omega]
      unfold wd
      rw [show pw 1 = 18446744073709551616 by rw [pw_eq], hX, Nat.mod_eq_of_lt hs]
    · rw [if_neg h2]
      by_cases h3 : i = a
      · rw [if_pos h3, h3, Nat.sub_self]
        unfold wd
        rw [pw_zero, Nat.div_one]
      · rw [if_neg h3]
        unfold wd
        obtain ⟨j, hj⟩ : ∃ j, i - a = j + 2 := ⟨i - a - 2, by omega⟩
        have ep : pw (j + 2) = 18446744073709551616 * (18446744073709551616 * pw j) := by
          rw [pow_step, pow_step]; rw [Nat.mul_comm (pw j), Nat.mul_comm]
        rw [hj, ep, ← Nat.div_div_eq_div_mul, hX, ← Nat.div_div_eq_div_mul, Nat.div_eq_of_lt hs, Nat.zero_div]
theorem pw_le (i j : Nat) (h : i ≤ j) : pw i ≤ pw j := by
  rw [pw_eq, pw_eq]; exact Nat.pow_le_pow_right (by decide) (by omega)
theorem pow_le_pw (e k : Nat) (h : e ≤ 64 * k) : 2 ^ e ≤ pw k := by
  rw [pw_eq]; exact Nat.pow_le_pow_right (by decide) h
/-- A finite number has fewer units than 33 words hold. -/
theorem val_lt (r : Nat) (h : r < 9218868437227405312) : val r < pw 33 := by
  unfold val
  have hm := mant_lt r
  have hs : shf r ≤ 2045 := by unfold shf; split <;> omega
  have h1 : mant r * 2 ^ shf r < 2 ^ 53 * 2 ^ shf r := Nat.mul_lt_mul_of_pos_right hm (Nat.two_pow_pos _)
  have h2 : 2 ^ 53 * 2 ^ shf r ≤ pw 33 := by rw [← Nat.pow_add]; exact pow_le_pw _ _ (by omega)
  exact Nat.lt_of_lt_of_le h1 h2
theorem top_33 : top = pw 33 * 340282366920938463463374607431768211456 := by
  rw [top_eq, pow_step, pow_step, Nat.mul_assoc]

/-- The units of a word, with its sign, as a number of 35 words; of what isn't finite 0. -/
def unit (b : Nat) : Nat := if 9218868437227405312 ≤ rung b then 0 else if 9223372036854775808 ≤ b then neg (val (rung b)) else val (rung b)
/-- What a sum of one number has. -/
def kindB (b : Nat) : Nat := if nan b then 25 else if rung b = 9218868437227405312 then (if 9223372036854775808 ≤ b then 28 else 26) else if b = 9223372036854775808 then 8 else 24
theorem unit_lt (b : Nat) : unit b < top := by
  unfold unit
  have ht := top_33
  have hp := pw_pos 33
  split
  · exact top_pos
  · rename_i h
    split
    · exact neg_lt _
    · have := val_lt (rung b) (by omega); omega
theorem kindB_lt (b : Nat) : kindB b < 32 := by
  unfold kindB; repeat' split
  all_goals omega
attribute [irreducible] unit kindB
end Go.Proofs.Ytbimfopbilcdgaa.Sm

set_option linter.unusedSimpArgs false
set_option linter.unusedVariables false
set_option maxRecDepth 8000
namespace Go.Proofs.Ytbimfopbilcdgaa
open Go.RowKit Sm

theorem xor_low (r : Nat) (hr : r < 9223372036854775808) : r ^^^ 2 ^ 63 = r + 9223372036854775808 := by
  rw [Nat.add_comm]
  have h1 := Nat.two_pow_add_eq_or_of_lt (i := 63) (b := r) (by omega) 1
  have h2 : 9223372036854775808 + r = 9223372036854775808 ||| r := by simpa using h1
  rw [h2]
  apply Nat.eq_of_testBit_eq
  intro i
  rw [Nat.testBit_xor, Nat.testBit_or, show (9223372036854775808 : Nat) = 2 ^ 63 by decide]
  simp only [Nat.testBit_two_pow]
  by_cases hi : 63 = i
  · subst hi
    rw [Nat.testBit_lt_two_pow (show r < 2 ^ 63 by omega)]; rfl
  · simp [hi]
theorem neg_word (b : Nat) (hb : b < 18446744073709551616) : Op.negFloat .f64 b = if b < 9223372036854775808 then b + 9223372036854775808 else b - 9223372036854775808 := by
  show b ^^^ 2 ^ 63 = _
  by_cases h : b < 9223372036854775808
  · rw [if_pos h, xor_low b h]
  · rw [if_neg h]
    have e := xor_low (b - 9223372036854775808) (by omega)
    rw [show b - 9223372036854775808 + 9223372036854775808 = b by omega] at e
    exact (congrArg (· ^^^ 2 ^ 63) e.symm).trans (by show (b - 9223372036854775808 ^^^ 2 ^ 63) ^^^ 2 ^ 63 = _; rw [Nat.xor_assoc, Nat.xor_self, Nat.xor_zero])
theorem zero_order (b : Nat) (hb : b < 18446744073709551616) (hn : Fl.nan b = false) : (FloatKind.f64.format.order b 0 == some .eq) = decide (Fl.rung b = 0) := by
  rw [Fl.ord_eq b 0 hb (by decide) hn (by decide), decide_eq_decide]
  unfold Fl.key Fl.rung
  split <;> simp <;> omega
theorem gt_max (b : Nat) (hb : b < 18446744073709551616) (hn : Fl.nan b = false) : (FloatKind.f64.format.order b 9218868437227405311 == some .gt) = decide (b = 9218868437227405312) := by
  rw [Fl.ord_gt b _ hb (by decide) hn (by decide), decide_eq_decide]
  unfold Fl.key Fl.rung
  unfold Fl.nan Fl.rung at hn
  rw [decide_eq_false_iff_not] at hn
  split <;> simp <;> omega
theorem neg_nan (b : Nat) (hb : b < 18446744073709551616) (hn : Fl.nan b = false) : Fl.nan (Op.negFloat .f64 b) = false ∧ Op.negFloat .f64 b < 18446744073709551616 := by
  rw [neg_word b hb]
  unfold Fl.nan Fl.rung at hn ⊢
  rw [decide_eq_false_iff_not] at hn ⊢
  split <;> omega

set_option maxHeartbeats 400000 in
theorem isInf_pos (b : Nat) (hb : b < 18446744073709551616) (hn : Fl.nan b = false) (w : World) :
    Calls Try.prog 162 #[.float .f64 b, .int .i64 1] w fun e w' => e = .returned (.bool (decide (b = 9218868437227405312))) ∧ w = w' := by
  have hg := Lib.hid (gt_max b hb hn)
  go_enter Try.func162, Try.ntmps162
  go_wp2
  go_ret
  exact ⟨ret_eq (congrArg Value.bool hg.out), rfl⟩
set_option maxHeartbeats 400000 in
theorem isInf_neg (b : Nat) (hb : b < 18446744073709551616) (hn : Fl.nan b = false) (w : World) :
    Calls Try.prog 162 #[.float .f64 b, .int .i64 (-1)] w fun e w' => e = .returned (.bool (decide (b = 18442240474082181120))) ∧ w = w' := by
  have h2 := neg_nan b hb hn
  have hg := Lib.hid (gt_max _ h2.2 h2.1)
  have hng : ∀ w, (Op.unary .neg (.float .f64 b)).run Try.prog w = .ok (.float .f64 (Op.negFloat .f64 b)) w := fun w => rfl
  clear h2
  go_enter Try.func162, Try.ntmps162
  go_wp2
  go_ret
  refine ⟨ret_eq (congrArg Value.bool (hg.out.trans ?_)), rfl⟩
  rw [neg_word b hb, decide_eq_decide]
  split <;> omega

set_option maxHeartbeats 1000000 in
theorem kind_core (b : Nat) (c1 c2 c3 c4 c5 : Bool) (K : Nat) (hb : b < 18446744073709551616) (h1 : Fl.nan b = c1) (h2 : decide (b = 9218868437227405312) = c2) (h3 : decide (b = 18442240474082181120) = c3)
    (h4 : (FloatKind.f64.format.order b 0 == some .eq) = c4) (h5 : decide (9223372036854775808 ≤ b) = c5) (w : World) :
    Calls Try.prog 153 #[.float .f64 b] w fun e w' => e = .returned (.int .u8 (if c1 then 25 else if c2 then 26 else if c3 then 28 else if c4 && c5 then 8 else 24)) ∧ w = w' := by
  cases c1 <;> cases c2 <;> cases c3 <;> cases c4 <;> cases c5
  all_goals
    go_enter Try.func153, Try.ntmps153
    go_wp2_with (first
      | (go_at_call 119; refine (isNaN_any _ (by assumption) _).mono ?_; rintro e w' ⟨rfl, rfl⟩)
      | (go_at_call 163; refine (signbit_any _ (by assumption) _).mono ?_; rintro e w' ⟨rfl, rfl⟩)
      | (go_at_call 162; (first | (with_reducible refine (isInf_pos _ (by assumption) (by assumption) _).mono ?_) | (with_reducible refine (isInf_neg _ (by assumption) (by assumption) _).mono ?_)); rintro e w' ⟨rfl, rfl⟩))
    go_ret
    exact ⟨rfl, rfl⟩
theorem kind_any (b : Nat) (hb : b < 18446744073709551616) (w : World) :
    Calls Try.prog 153 #[.float .f64 b] w fun e w' => e = .returned (.int .u8 (kindB b : Nat)) ∧ w = w' := by
  refine (kind_core b _ _ _ _ _ 0 hb rfl rfl rfl rfl rfl w).mono ?_
  rintro e w' ⟨rfl, rfl⟩
  refine ⟨ret_eq (congrArg (Value.int .u8) ?_), rfl⟩
  cases hn : Fl.nan b
  · rw [zero_order b hb hn]
    unfold kindB
    rw [hn]
    unfold Fl.nan Fl.rung at hn
    rw [decide_eq_false_iff_not] at hn
    unfold Fl.rung
    simp only [Bool.false_eq_true, if_false, decide_eq_true_eq, Bool.and_eq_true]
    by_cases a1 : b = 9218868437227405312
    · rw [if_pos a1, if_pos (by omega), if_neg (by omega)]; rfl
    · rw [if_neg a1]
      by_cases a2 : b = 18442240474082181120
      · rw [if_pos a2, if_pos (by omega), if_pos (by omega)]; rfl
      · rw [if_neg a2, if_neg (show ¬ b % 9223372036854775808 = 9218868437227405312 by omega)]
        by_cases a3 : b = 9223372036854775808
        · rw [if_pos (by omega), if_pos a3]; rfl
        · rw [if_neg (by omega), if_neg a3]; rfl
  · unfold kindB; rw [hn]; rfl

/-! of -/
theorem lit36 (k : Nat) : (#[Value.int .u64 0, .int .u64 0, .int .u64 0, .int .u64 0, .int .u64 0, .int .u64 0, .int .u64 0, .int .u64 0, .int .u64 0, .int .u64 0, .int .u64 0, .int .u64 0, .int .u64 0, .int .u64 0, .int .u64 0, .int .u64 0, .int .u64 0, .int .u64 0, .int .u64 0, .int .u64 0, .int .u64 0, .int .u64 0, .int .u64 0, .int .u64 0, .int .u64 0, .int .u64 0, .int .u64 0, .int .u64 0, .int .u64 0, .int .u64 0, .int .u64 0, .int .u64 0, .int .u64 0, .int .u64 0, .int .u64 0, .int .u8 k] : Array Value) = P36 (fun _ => 0) k := by
  unfold P36; rw [← zeros35]; rfl

def SpGives (b : Nat) (neg : Bool) (M : Int) (S : Nat) (ok : Bool) : Prop := ∀ w, Calls Try.prog 154 #[.float .f64 b] w fun e w' => e = .returned (.tuple #[.bool neg, .int .u64 M, .int .i64 S, .bool ok]) ∧ w = w'
theorem SpGives.at {b : Nat} {neg : Bool} {M : Int} {S : Nat} {ok : Bool} (h : SpGives b neg M S ok) (w : World) : Calls Try.prog 154 #[.float .f64 b] w fun e w' => e = .returned (.tuple #[.bool neg, .int .u64 M, .int .i64 S, .bool ok]) ∧ w = w' := h w
def KdGives (b K : Nat) : Prop := ∀ w, Calls Try.prog 153 #[.float .f64 b] w fun e w' => e = .returned (.int .u8 K) ∧ w = w'
theorem KdGives.at {b K : Nat} (h : KdGives b K) (w : World) : Calls Try.prog 153 #[.float .f64 b] w fun e w' => e = .returned (.int .u8 K) ∧ w = w' := h w

/-! A whole array of words into a struct's block -/
def putAll (cur : Array Value) : Nat → List Value → Array Value
  | _, [] => cur
  | i, v :: r => putAll (cur.setIfInBounds i v) (i + 1) r
theorem putAll_get : ∀ (vs : List Value) (cur : Array Value) (i j : Nat), i + vs.length ≤ cur.size → (putAll cur i vs)[j]? = if i ≤ j ∧ j < i + vs.length then vs[j - i]? else cur[j]?
  | [], cur, i, j, _ => by rw [putAll, if_neg (by simp)]
  | v :: r, cur, i, j, h => by
    rw [putAll, putAll_get r _ (i + 1) j (by simp at h ⊢; omega)]
    simp only [List.length_cons] at h ⊢
    by_cases e : j = i
    · subst e
      rw [if_neg (by omega), if_pos (by omega), Nat.sub_self, Array.getElem?_setIfInBounds, if_pos rfl, if_pos (by omega)]; rfl
    · by_cases h2 : i ≤ j ∧ j < i + (r.length + 1)
      · rw [if_pos (by omega), if_pos h2, show j - i = (j - (i + 1)) + 1 by omega]; rfl
      · rw [if_neg (by omega), if_neg h2, Array.getElem?_setIfInBounds, if_neg (fun h => e h.symm)]
theorem setRow_self (w : World) (g : Nat) (cur : Array Value) (t : TypeId) (fr : Nat × Nat) (hg : w.heap[g]? = some (.cells cur t fr)) : w.setRow g cur = w := by
  have hv : w.heap[g]'(lt_of_row hg) = .cells cur t fr := (Array.getElem?_eq_some_iff.1 hg).2
  unfold World.setRow
  cases w with
  | mk heap tape drawn os output =>
    congr 1
    apply Array.ext
    · simp
    · intro k h1 h2
      simp only [Array.getElem_modify]
      split
      · rename_i hk; subst hk; simp at hv; simp [hv]
      · rfl
theorem run_storeCells_part {P : Program} (g : Nat) (t : TypeId) : ∀ (vs : List Value) (i : Nat) (cur : Array Value) (w : World), w.heap[g]? = some (.cells cur t (0, 0)) → i + vs.length ≤ cur.size → (∀ v ∈ vs, v.oneCell' = true) →
    (storeCells ⟨g, 0, none⟩ vs i).run P w = .ok () (w.setRow g (putAll cur i vs))
  | [], i, cur, w, hg, _, _ => by
    rw [putAll, setRow_self w g cur t _ hg]; rfl
  | v :: rest, i, cur, w, hg, hl, h1 => by
    have hi : i < cur.size := by simp at hl; omega
    have hadd : (⟨g, 0, none⟩ : Addr).add i = ⟨g, i, none⟩ := by unfold Addr.add; split <;> simp_all
    have hcell : w.cell? ⟨g, i, none⟩ = some cur[i] := by simp [World.cell?, hg, hi]
    have hfro : w.frozen? ⟨g, i, none⟩ = false := by simp [World.frozen?, hg]
    have hst : (store ((⟨g, 0, none⟩ : Addr).add i) v).run P w = .ok () (w.setRow g (cur.setIfInBounds i v)) := by
      rw [hadd, run_store P w _ v _ (h1 v (by simp)), hcell]
      simp [hfro, setCell_eq_setRow w g i cur t (0, 0) v hg]
    have ih := run_storeCells_part (P := P) g t rest (i + 1) (cur.setIfInBounds i v) (w.setRow g (cur.setIfInBounds i v)) (setRow_heap w g cur _ t _ hg) (by simp at hl ⊢; omega) (fun x hx => h1 x (by simp [hx]))
    simp only [storeCells, Sem.run_bind, hst, Result.andThen_ok, ih, setRow_setRow, putAll]
theorem putAll_words (f g : Nat → Nat) (h : Nat) : putAll (P36 f h) 0 (A35 g).toList = P36 g h := by
  apply Array.ext_getElem?
  intro j
  rw [putAll_get _ _ _ _ (by rw [P36_size]; simp [A35_size])]
  simp only [Array.length_toList, A35_size, Nat.zero_le, true_and, Nat.zero_add, Nat.sub_zero]
  by_cases hj : j < 35
  · rw [if_pos hj, P36_word _ _ _ hj, ← A35_get g j hj]; simp
  · rw [if_neg hj]
    by_cases h2 : j = 35
    · subst h2; rw [P36_has, P36_has]
    · rw [Array.getElem?_eq_none (by rw [P36_size]; omega), Array.getElem?_eq_none (by rw [P36_size]; omega)]
theorem wpList_put {ops : Array Oper} {rest : List Oper} {o : Oper} {a : Act} {w : World} {Q : Exit → Act → World → Prop} (hgd : o.guard = none) (x y : Operand) (ho : o.op = .store 85 x y)
    (g : Nat) (hx : a.eval x = .pointer (some ⟨g, 0, none⟩)) (f' : Nat → Nat) (hy : a.eval y = .agg (A35 f')) (f : Nat → Nat) (h : Nat) (t : TypeId) (hg : w.heap[g]? = some (.cells (P36 f h) t (0, 0)))
    (hh : wpList Try.prog ops Q rest (a.put o.dst undef) (w.setRow g (P36 f' h))) : wpList Try.prog ops Q (o :: rest) a w := by
  refine wpList_plain hgd fun _ hK => ?_
  have hrun : (storeVar 85 ⟨g, 0, none⟩ (.agg (A35 f'))).run Try.prog w = .ok () (w.setRow g (P36 f' h)) := by
    have hc := run_storeCells_part (P := Try.prog) g t (A35 f').toList 0 (P36 f h) w hg (by rw [P36_size]; simp [A35_size]) (fun v hv => (Array.all_eq_true_iff_forall_mem.1 (one35 f')) v (by simpa using hv))
    rw [putAll_words] at hc
    have hi := i35
    cases hq : Try.prog.info? 85 with
    | none => rw [hq] at hi; cases hi
    | some i =>
      have hs : i.size = (A35 f').size := by rw [hq] at hi; rw [A35_size]; simpa using hi
      simp [storeVar, sizeOf, typeInfo, hq, Value.cells, hs, hc]
  unfold Oper.wp execOp
  simp only [ho, hx, hy, Instr.storeAt, Instr.sureAddr, Sem.run_bind, Sem.run_pure, Result.andThen_ok, hrun]
  exact hK _ _ hh

theorem of_cells (K M S : Nat) (hM : M < 9007199254740992) (hS : S ≤ 2045) :
    ((P36 (fun _ => 0) K).setIfInBounds (S / 64) (.int .u64 (IntKind.u64.wrap ((M : Int) * 2 ^ (S % 64))))).setIfInBounds (S / 64 + 1) (.int .u64 ((M : Int) / 2 ^ (64 - S % 64))) = P36 (wd (M * 2 ^ S)) K := by
  have e1 : IntKind.u64.wrap ((M : Int) * 2 ^ (S % 64)) = ((M * 2 ^ (S % 64) % 18446744073709551616 : Nat) : Int) := by
    rw [IntKind.wrap_u64, Int.natCast_emod, Int.natCast_mul, Int.natCast_pow]; rfl
  have e2 : (M : Int) / 2 ^ (64 - S % 64) = ((M / 2 ^ (64 - S % 64) : Nat) : Int) := by
    rw [Int.natCast_ediv, Int.natCast_pow]; rfl
  rw [e1, e2, P36_set _ _ _ _ (by omega), P36_set _ _ _ _ (by omega)]
  refine P36_congr K (A35_congr fun i _ => ?_)
  rw [one_words M S i hM]
theorem setRow_alloc_new2 (w : World) (A : Obj) (c c' : Array Value) (t : TypeId) : ((w.alloc A).alloc (.cells c t)).setRow (w.heap.size + 1) c' = (w.alloc A).alloc (.cells c' t) := by
  have h := World.setRow_alloc_new (w.alloc A) c c' t
  rwa [show (w.alloc A).heap.size = w.heap.size + 1 by simp] at h
theorem built36 (K : Int) : Try.prog.built 87 [(1, .int .u8 K)] = some #[Value.int .u64 0, .int .u64 0, .int .u64 0, .int .u64 0, .int .u64 0, .int .u64 0, .int .u64 0, .int .u64 0, .int .u64 0, .int .u64 0, .int .u64 0, .int .u64 0, .int .u64 0, .int .u64 0, .int .u64 0, .int .u64 0, .int .u64 0, .int .u64 0, .int .u64 0, .int .u64 0, .int .u64 0, .int .u64 0, .int .u64 0, .int .u64 0, .int .u64 0, .int .u64 0, .int .u64 0, .int .u64 0, .int .u64 0, .int .u64 0, .int .u64 0, .int .u64 0, .int .u64 0, .int .u64 0, .int .u64 0, .int .u8 K] := by kernel_rfl
theorem wpList_build36 {ops : Array Oper} {rest : List Oper} {o : Oper} {a : Act} {w : World} {Q : Exit → Act → World → Prop} (hgd : o.guard = none) (x : Operand) (ho : o.op = .build 87 #[(1, x)]) (K : Nat) (hx : a.eval x = .int .u8 K)
    (h : wpList Try.prog ops Q rest (a.put o.dst (.agg (P36 (fun _ => 0) K))) w) : wpList Try.prog ops Q (o :: rest) a w := by
  have e : (#[(1, x)] : Array (Nat × Operand)).map (fun (i, x) => (i, a.eval x)) = #[(1, .int .u8 (K : Int))] := by simp [hx]
  refine wpList_build hgd _ _ ho ?_ ?_
  · rw [e]
    show (Try.prog.built 87 [(1, .int .u8 (K : Int))]).isSome = true
    rw [built36]; rfl
  · rw [e]
    show wpList _ _ _ _ (a.put o.dst (.agg ((Try.prog.built 87 [(1, .int .u8 (K : Int))]).getD #[]))) w
    rw [built36, Option.getD_some, lit36]
    exact h

/-- Two blocks are known. -/
structure Kp2 (w0 : World) (g1 : Nat) (c1 : Array Value) (t1 : TypeId) (g2 : Nat) (c2 : Array Value) (t2 : TypeId) (w : World) : Prop where
  below : Below w0.heap.size w0 w
  row1 : w.heap[g1]? = some (.cells c1 t1 (0, 0))
  row2 : w.heap[g2]? = some (.cells c2 t2 (0, 0))
theorem Kp2.next {w0 : World} {g1 g2 : Nat} {c1 c2 : Array Value} {t1 t2 : TypeId} {w w' : World} (h : Kp2 w0 g1 c1 t1 g2 c2 t2 w) (hb : Below w.heap.size w w') : Kp2 w0 g1 c1 t1 g2 c2 t2 w' :=
  ⟨h.below.trans (hb.mono h.below.size), (hb.block g1 (lt_of_row h.row1)).trans h.row1, (hb.block g2 (lt_of_row h.row2)).trans h.row2⟩
theorem Kp2.put2 {w0 : World} {g1 g2 : Nat} {c1 c2 : Array Value} {t1 t2 : TypeId} {w : World} (h : Kp2 w0 g1 c1 t1 g2 c2 t2 w) (hg : w0.heap.size ≤ g2) (hne : g1 ≠ g2) (c : Array Value) : Kp2 w0 g1 c1 t1 g2 c t2 (w.setRow g2 c) :=
  ⟨below_setRow h.below hg _, (setRow_other w g2 g1 c (by omega)).trans h.row1, setRow_heap _ _ _ _ _ _ h.row2⟩
theorem Kp2.start (w : World) (c1 c2 : Array Value) (t1 t2 : TypeId) : Kp2 w w.heap.size c1 t1 (w.heap.size + 1) c2 t2 ((w.alloc (.cells c1 t1)).alloc (.cells c2 t2)).drew :=
  ⟨((((Below.refl _ _).alloc (Nat.le_refl _) _).alloc (by simp) _)).drew, heap_alloc2_old w _ _, heap_alloc2_new w _ _⟩

set_option maxHeartbeats 1000000 in
theorem of_core (b K : Nat) (neg ok : Bool) (M S U N : Nat) (hk : KdGives b K) (hs : SpGives b neg M S ok) (hS : S ≤ 2045) (HM : Hid (M < 9007199254740992)) (HU : Hid (U = M * 2 ^ S)) (hN : neg = true → NgGives U N) (hN2 : neg = false → N = U) (w : World) :
    Calls Try.prog 135 #[.float .f64 b] w fun e w' => e = .returned (.agg (P36 (wd N) K)) ∧ Below w.heap.size w w' := by
  have HC := Lib.hid (of_cells K M S HM.out hS)
  rw [← HU.out] at HC
  cases neg
  all_goals first
    | (have hM := hN rfl; clear hN hN2)
    | (obtain rfl : U = N := (hN2 rfl).symm; clear hN)
  all_goals
    go_enter Try.func135, Try.ntmps135
    go_wp2_with (first
      | (go_at_call 153; (with_reducible refine (hk.at _).mono ?_); rintro e w' ⟨rfl, rfl⟩)
      | (refine wpList_build36 rfl (.tmp 11) rfl K rfl ?_)
      | (rw [zeros36]; refine wpList_store_row rfl 87 (.tmp 3) (.tmp 12) rfl (w.heap.size + 1) (P36 (fun _ => 0) K) rfl rfl _ _ (heap_alloc2_new w _ _) (i36 _ _) (by rw [P36_size, P36_size]) (one36 _ _) ?_; rw [setRow_alloc_new2])
      | (go_at_call 154; (with_reducible refine (hs.at _).mono ?_); rintro e w' ⟨rfl, rfl⟩))
    have g1 := P36_word (fun _ => 0) K (S / 64) (by omega)
    have g2 := P36_word (fun _ => 0) K (S / 64 + 1) (by omega)
    go_region
    rw [HC.out]
    clear g1 g2
    have hq := Kp2.start w (P36 (fun _ => 0) 0) (P36 (wd U) K) 87 87
    go_wp2_with (first
      | (refine wpList_words rfl (.tmp 39) rfl (w.heap.size + 1) rfl (wd U) K _ _ hq.row2 ?_)
      | (go_at_call 144; (with_reducible refine (hM.at _).mono ?_); rintro e w' ⟨rfl, hb⟩; replace hq := hq.next hb; clear hb)
      | (refine wpList_put rfl (.tmp 42) (.tmp 41) rfl (w.heap.size + 1) rfl (wd N) rfl (wd U) K _ hq.row2 ?_; replace hq := hq.put2 (by omega) (by omega) (P36 (wd N) K))
      | (refine wpList_load_row rfl 87 (.tmp 3) rfl (w.heap.size + 1) rfl _ (P36 (wd _) K) (0, 0) _ hq.row2 u27 rfl (i36 _ _) ?_)
      | (refine wpList_store_row rfl 87 (.tmp 2) (.tmp 43) rfl w.heap.size (P36 (wd _) K) rfl rfl _ _ hq.row1 (i36 _ _) (by rw [P36_size, P36_size]) (one36 _ _) ?_))
    exact post_row 2 87 Try.results135 rfl w.heap.size 87 _ (0, 0) _ rfl (setRow_heap _ _ _ _ _ _ hq.row1) u27 rfl (i36 _ _) ⟨rfl, below_setRow hq.below (Nat.le_refl _) _⟩
theorem val_zero_pow (r : Nat) : Fl.val r = Fl.mant r * 2 ^ Fl.shf r := rfl
/-- One number as a sum. -/
theorem of_one (b : Nat) (hb : b < 18446744073709551616) (w : World) :
    Calls Try.prog 135 #[.float .f64 b] w fun e w' => e = .returned (.agg (P36 (wd (unit b)) (kindB b))) ∧ Below w.heap.size w w' := by
  by_cases hi : Fl.rung b < 9218868437227405312
  · have hs : Fl.shf (Fl.rung b) ≤ 2045 := by unfold Fl.shf; split <;> omega
    have hv := val_lt _ hi
    have ht := top_33
    have hp := pw_pos 33
    refine of_core b (kindB b) (decide (9223372036854775808 ≤ b)) true (Fl.mant (Fl.rung b)) (Fl.shf (Fl.rung b)) (Fl.val (Fl.rung b)) (unit b) (fun w => kind_any b hb w) (fun w => ?_) hs (Fl.mant_lt _) rfl (fun h w => ?_) (fun h => ?_) w
    · by_cases h : Fl.rung b < 4503599627370496
      · exact split_small b hb h w
      · exact split_norm b hb (by omega) hi w
    · have e : unit b = neg (Fl.val (Fl.rung b)) := by
        unfold unit; rw [if_neg (by omega), if_pos (of_decide_eq_true h)]
      rw [e]
      exact negated_any _ (by omega) w
    · unfold unit; rw [if_neg (by omega), if_neg (of_decide_eq_false h)]
  · have e : unit b = 0 := by unfold unit; rw [if_pos (by omega)]
    rw [e]
    exact of_core b (kindB b) false false 0 0 0 0 (fun w => kind_any b hb w) (fun w => split_bad b hb (by omega) w) (by omega) (by show 0 < _; omega) rfl (fun h => by cases h) (fun _ => rfl) w

end Go.Proofs.Ytbimfopbilcdgaa

set_option linter.unusedSimpArgs false
set_option linter.unusedVariables false
set_option maxRecDepth 8000
namespace Go.Proofs.Ytbimfopbilcdgaa
open Go.RowKit Sm

theorem yieldsIf_row {P : Program} {ops : Array Oper} {S : World → Prop} {op : Oper} {a : Act} (hw : Region.wanted op (yielded ops a.tmps) = true) (ty : TypeId) (x : Operand) (ho : op.op = .load ty x)
    (g : Nat) (hx : a.eval x = .pointer (some ⟨g, 0, none⟩)) (t : TypeId) (cs : Array Value) (fr : Nat × Nat) (d : TypeDesc) (hS : ∀ w, S w → w.heap[g]? = some (.cells cs t fr))
    (hu : P.underlying ty = some d) (hd : (match d with | .struct _ | .array _ _ => true | _ => false) = true) (hi : (P.info? ty).map (·.size) = some cs.size) : YieldsIf P ops S op (.agg cs) a :=
  .inl ⟨hw, fun w hw' => by
    unfold execOp
    simp only [ho, hx, Instr.loadAt, Instr.sureAddr, Sem.run_bind, Sem.run_pure, Result.andThen_ok, run_loadVar_row w g t ty cs fr d (hS w hw') hu hd hi]⟩

set_option maxHeartbeats 1000000 in
theorem add_any (n h b : Nat) (hh : h < 256) (hb : b < 18446744073709551616) (w : World) :
    Calls Try.prog 106 #[.agg (P36 (wd n) h), .float .f64 b] w fun e w' => e = .returned (.agg (P36 (wd ((n + unit b) % top)) (h ||| kindB b))) ∧ Below w.heap.size w w' := by
  have HK : kindB b < 256 := Nat.lt_trans (kindB_lt b) (by decide)
  go_enter Try.func106, Try.ntmps106
  go_wp2
  rw [zeros36]
  have hk := Kp2.start w (P36 (wd n) h) (P36 (fun _ => 0) 0) 87 87
  refine wp_region_held_drew (S := Kp w w.heap.size (P36 (wd n) h) 87) (by kernel_rfl) ?_ (fun hHeld => ?_)
  · exact ⟨hk.below, hk.row1⟩
  refine wpAnyH_take (i := 0) (v := .agg (P36 (wd n) h)) rfl (by kernel_rfl) (by kernel_rfl) (by kernel_rfl) (fun _ _ _ h => h) (yieldsIf_row rfl 87 (.tmp 2) rfl w.heap.size rfl _ _ _ _ (fun w' hw' => hw'.row) u27 rfl (i36 _ _)) hHeld ?_
  try dsimp only
  try simp only [Act.put, List.setIfInBounds_toArray, List.set_cons_zero, List.set_cons_succ]
  refine wpAnyH_take (i := 1) (v := .float .f64 b) rfl (by kernel_rfl) (by kernel_rfl) (by kernel_rfl) (fun _ _ _ h => h) (Or.inl ⟨by rfl, fun _ _ => rfl⟩) hHeld ?_
  try dsimp only
  try simp only [Act.put, List.setIfInBounds_toArray, List.set_cons_zero, List.set_cons_succ]
  refine wpAnyH_ready (rs := [2]) (by kernel_rfl) (by simp) (AllReadyH.cons rfl (fun K hK => ?_) AllReadyH.nil)
  go_simp
  refine (of_one _ hb _).mono ?_
  rintro e w1 ⟨rfl, hb1⟩
  refine hK.out _ _ (hHeld.next hb1) (fun hHeld => ?_)
  replace hk := hk.next hb1
  clear hK K
  try dsimp only
  try simp only [Act.put, List.setIfInBounds_toArray, List.set_cons_zero, List.set_cons_succ]
  refine wpAnyH_ready (rs := [3]) (by kernel_rfl) (by simp) (AllReadyH.cons rfl (fun K hK => ?_) AllReadyH.nil)
  go_simp
  refine (join_any _ _ _ _ hh HK _).mono ?_
  rintro e w2 ⟨rfl, hb2⟩
  refine hK.out _ _ (hHeld.next hb2) (fun hHeld => ?_)
  replace hk := hk.next hb2
  clear hK K
  try dsimp only
  try simp only [Act.put, List.setIfInBounds_toArray, List.set_cons_zero, List.set_cons_succ]
  refine wpAnyH_ready (rs := [4]) (by kernel_rfl) (by simp) (AllReadyH.cons rfl (fun K hK => ?_) AllReadyH.nil)
  rw [if_pos (by rfl)]
  refine wp_store_row 87 (.tmp 4) (.tmp 8) rfl (w.heap.size + 1) (P36 (wd _) _) rfl rfl _ _ hk.row2 (i36 _ _) (by rw [P36_size, P36_size]) (one36 _ _) ?_
  replace hk := hk.put2 (by omega) (by omega) (P36 (wd ((n + unit b) % top)) (h ||| kindB b))
  refine hK.out _ _ ⟨hk.below, hk.row1⟩ (fun hHeld => ?_)
  refine wpAnyH_done (by kernel_rfl) ?_ _
  go_wp2
  exact post_row 4 87 Try.results106 rfl (w.heap.size + 1) 87 _ (0, 0) _ rfl hk.row2 u27 rfl (i36 _ _) ⟨rfl, hk.below⟩
end Go.Proofs.Ytbimfopbilcdgaa

set_option linter.unusedSimpArgs false
set_option linter.unusedVariables false
set_option maxRecDepth 8000
namespace Go.Proofs.Ytbimfopbilcdgaa
open Go.RowKit Sm

/-- What Value tells: the word, and whether it is too great. -/
def valW (n h : Nat) : Nat :=
  if h % 2 = 1 ∨ h / 2 % 4 = 3 then 9221120237041090560 else if h / 2 % 2 = 1 then 9218868437227405312 else if h / 4 % 2 = 1 then 18442240474082181120
  else if h = 8 then 9223372036854775808 else Ieee.double.nearest (sgn n) (mag n) (-1074)
def valO (n h : Nat) : Bool :=
  if h % 2 = 1 ∨ h / 2 % 4 = 3 then false else if h / 2 % 2 = 1 then false else if h / 4 % 2 = 1 then false else if h = 8 then false else decide (9218868437227405312 ≤ rnd (mag n))

theorem has_tests : ∀ h : Fin 32, (bits .and .u8 ((h.val : Nat) : Int) 1 != 0) = decide (h.val % 2 = 1) ∧ (bits .and .u8 ((h.val : Nat) : Int) 6 == 6) = decide (h.val / 2 % 4 = 3) ∧
    (bits .and .u8 ((h.val : Nat) : Int) 2 != 0) = decide (h.val / 2 % 2 = 1) ∧ (bits .and .u8 ((h.val : Nat) : Int) 4 != 0) = decide (h.val / 4 % 2 = 1) ∧ (((h.val : Nat) : Int) == 8) = decide (h.val = 8) := by decide +kernel

def NrGives (n W : Nat) (o : Bool) : Prop := ∀ w, Calls Try.prog 118 #[.agg (A35 (wd n))] w fun e w' => e = .returned (.tuple #[.float .f64 W, .bool o]) ∧ Below w.heap.size w w'
theorem NrGives.at {n W : Nat} {o : Bool} (h : NrGives n W o) (w : World) : Calls Try.prog 118 #[.agg (A35 (wd n))] w fun e w' => e = .returned (.tuple #[.float .f64 W, .bool o]) ∧ Below w.heap.size w w' := h w

set_option maxHeartbeats 400000 in
theorem mnan_v (w : World) : Calls Try.prog 115 #[] w fun e w' => e = .returned (.float .f64 9221120237041090561) ∧ w = w' := by
  have xf := fb_run
  go_enter Try.func115, Try.ntmps115
  go_wp2
  go_ret
  exact ⟨rfl, rfl⟩
set_option maxHeartbeats 400000 in
theorem canon_mnan (w : World) : Calls Try.prog 90 #[.float .f64 9221120237041090561] w fun e w' => e = .returned (.float .f64 9221120237041090560) ∧ w = w' := canon_any _ (by decide) w
set_option maxHeartbeats 400000 in
theorem inf_v (w : World) : Calls Try.prog 116 #[.int .i64 1] w fun e w' => e = .returned (.float .f64 9218868437227405312) ∧ w = w' := by
  have xf := fb_run
  go_enter Try.func116, Try.ntmps116
  go_wp2
  go_ret
  exact ⟨rfl, rfl⟩
set_option maxHeartbeats 400000 in
theorem inf_n (w : World) : Calls Try.prog 116 #[.int .i64 (-1)] w fun e w' => e = .returned (.float .f64 18442240474082181120) ∧ w = w' := by
  have xf := fb_run
  go_enter Try.func116, Try.ntmps116
  go_wp2
  go_ret
  exact ⟨rfl, rfl⟩
set_option maxHeartbeats 400000 in
theorem copy_zero (w : World) : Calls Try.prog 117 #[.float .f64 0, .float .f64 13830554455654793216] w fun e w' => e = .returned (.float .f64 9223372036854775808) ∧ w = w' := by
  have xf := fb_run
  have xt := tb_run
  go_enter Try.func117, Try.ntmps117
  go_wp2
  go_ret
  exact ⟨rfl, rfl⟩

set_option maxHeartbeats 1000000 in
theorem value_core (n h W : Nat) (o c1 c2 c3 c4 c5 : Bool) (h1 : (bits .and .u8 (h : Int) 1 != 0) = c1) (h2 : (bits .and .u8 (h : Int) 6 == 6) = c2) (h3 : (bits .and .u8 (h : Int) 2 != 0) = c3) (h4 : (bits .and .u8 (h : Int) 4 != 0) = c4)
    (h5 : ((h : Int) == 8) = c5) (hn : NrGives n W o) (w : World) :
    Calls Try.prog 89 #[.agg (P36 (wd n) h)] w fun e w' =>
      e = .returned (.tuple #[.float .f64 (if c1 || c2 then 9221120237041090560 else if c3 then 9218868437227405312 else if c4 then 18442240474082181120 else if c5 then 9223372036854775808 else W), .bool (if c1 || c2 then false else if c3 then false else if c4 then false else if c5 then false else o)]) ∧ Below w.heap.size w w' := by
  have hg := P36_has (wd n) h
  have hk := Kp.start w (P36 (wd n) h) 87
  cases c1 <;> cases c2 <;> cases c3 <;> cases c4 <;> cases c5
  all_goals
    go_enter Try.func89, Try.ntmps89
    go_wp2_with (first
      | (refine wpList_words rfl (.tmp 34) rfl w.heap.size rfl (wd n) h _ _ hk.row ?_)
      | (go_at_call 118; (with_reducible refine (hn.at _).mono ?_); rintro e w' ⟨rfl, hb⟩; replace hk := hk.next hb; clear hb)
      | (go_at_call 115; (with_reducible refine (mnan_v _).mono ?_); rintro e w' ⟨rfl, rfl⟩)
      | (go_at_call 90; (with_reducible refine (canon_mnan _).mono ?_); rintro e w' ⟨rfl, rfl⟩)
      | (go_at_call 116; (first | (with_reducible refine (inf_v _).mono ?_) | (with_reducible refine (inf_n _).mono ?_)); rintro e w' ⟨rfl, rfl⟩)
      | (go_at_call 117; (with_reducible refine (copy_zero _).mono ?_); rintro e w' ⟨rfl, rfl⟩))
    go_ret2
    exact ⟨rfl, hk.below⟩
theorem tup_eq' {a b : Nat} {c d : Bool} (h : a = b) (h2 : c = d) : Ending.returned (.tuple #[.float .f64 a, .bool c]) = Ending.returned (.tuple #[.float .f64 b, .bool d]) := by rw [h, h2]
theorem value_any (n h : Nat) (hn : n < top) (hh : h < 32) (w : World) :
    Calls Try.prog 89 #[.agg (P36 (wd n) h)] w fun e w' => e = .returned (.tuple #[.float .f64 (valW n h), .bool (valO n h)]) ∧ Below w.heap.size w w' := by
  obtain ⟨t1, t2, t3, t4, t5⟩ := has_tests ⟨h, hh⟩
  refine (value_core n h _ _ _ _ _ _ _ t1 t2 t3 t4 t5 (fun w => nearest_any n hn w) w).mono ?_
  rintro e w' ⟨rfl, hb⟩
  refine ⟨tup_eq' ?_ ?_, hb⟩
  · unfold valW
    simp only [Bool.or_eq_true, decide_eq_true_eq]
  · unfold valO
    simp only [Bool.or_eq_true, decide_eq_true_eq]
end Go.Proofs.Ytbimfopbilcdgaa

set_option linter.unusedSimpArgs false
set_option linter.unusedVariables false
set_option maxRecDepth 8000
namespace Go.Proofs.Ytbimfopbilcdgaa
open Go.RowKit Sm

/-- The numbers of a sum of some words, and what it has. -/
def accN (l : List Nat) : Nat := l.foldl (fun n b => (n + unit b) % top) 0
def accH (l : List Nat) : Nat := l.foldl (fun h b => h ||| kindB b) 0
theorem accN_snoc (l : List Nat) (b : Nat) : accN (l ++ [b]) = (accN l + unit b) % top := by unfold accN; rw [List.foldl_append]; rfl
theorem accH_snoc (l : List Nat) (b : Nat) : accH (l ++ [b]) = accH l ||| kindB b := by unfold accH; rw [List.foldl_append]; rfl
theorem list_snoc {p : List Nat → Prop} (h0 : p []) (h : ∀ l b, p l → p (l ++ [b])) (l : List Nat) : p l := by
  rw [← List.reverse_reverse l]
  induction l.reverse with
  | nil => exact h0
  | cons b r ih => rw [List.reverse_cons]; exact h _ _ ih
theorem accN_lt (l : List Nat) : accN l < top := list_snoc (p := fun l => accN l < top) top_pos (fun l b _ => by rw [accN_snoc]; exact Nat.mod_lt _ top_pos) l
theorem accH_lt (l : List Nat) : accH l < 32 := list_snoc (p := fun l => accH l < 32) (by decide) (fun l b h => by rw [accH_snoc]; exact Nat.or_lt_two_pow (n := 5) h (kindB_lt b)) l

/-- A slice value that holds some words, in a world. -/
def FlAt (w : World) (a : Option Addr) (l : List Nat) : Prop := ∀ k x, l[k]? = some x → x < 18446744073709551616 ∧ ∃ g off, a = some ⟨g, off, none⟩ ∧ g < w.heap.size ∧ w.cell? ⟨g, off + k, none⟩ = some (.float .f64 x)

theorem Kp2.drew {w0 : World} {g1 g2 : Nat} {c1 c2 : Array Value} {t1 t2 : TypeId} {w : World} (h : Kp2 w0 g1 c1 t1 g2 c2 t2 w) : Kp2 w0 g1 c1 t1 g2 c2 t2 w.drew :=
  ⟨h.below.drew, h.row1, h.row2⟩

end Go.Proofs.Ytbimfopbilcdgaa

set_option linter.unusedSimpArgs false
set_option linter.unusedVariables false
set_option maxRecDepth 8000
namespace Go.Proofs.Ytbimfopbilcdgaa
open Go.RowKit Sm

theorem awake_val : valW (accN [9094988921128908188, 4607182418800017408, 18318360957983683996]) (accH [9094988921128908188, 4607182418800017408, 18318360957983683996]) = 4607182418800017408 ∧
    valO (accN [9094988921128908188, 4607182418800017408, 18318360957983683996]) (accH [9094988921128908188, 4607182418800017408, 18318360957983683996]) = false := by decide +kernel

def VaGives (n h W : Nat) (o : Bool) : Prop := ∀ w, Calls Try.prog 89 #[.agg (P36 (wd n) h)] w fun e w' => e = .returned (.tuple #[.float .f64 W, .bool o]) ∧ Below w.heap.size w w'
theorem VaGives.at {n h W : Nat} {o : Bool} (H : VaGives n h W o) (w : World) : Calls Try.prog 89 #[.agg (P36 (wd n) h)] w fun e w' => e = .returned (.tuple #[.float .f64 W, .bool o]) ∧ Below w.heap.size w w' := H w

theorem flAt_new (w : World) (l : List Nat) (t : TypeId) (hl : ∀ x, x ∈ l → x < 18446744073709551616) : FlAt (w.alloc (.cells (l.map (Value.float .f64)).toArray t)) (some ⟨w.heap.size, 0, none⟩) l := by
  intro k x hx
  have hk : k < l.length := by
    rcases Nat.lt_or_ge k l.length with h | h
    · exact h
    · rw [List.getElem?_eq_none h] at hx; cases hx
  refine ⟨hl x (List.mem_of_getElem? hx), w.heap.size, 0, rfl, by simp, ?_⟩
  rw [Nat.zero_add, World.cell?_alloc_new]
  simp [hx]

/-! A law's own numbers that stand alone -/
theorem acc_two (x y : Nat) : accN [x, y] = (unit x + unit y) % top ∧ accH [x, y] = kindB x ||| kindB y := by
  constructor
  · show ((0 + unit x) % top + unit y) % top = _
    rw [Nat.zero_add, Nat.mod_eq_of_lt (unit_lt x)]
  · show 0 ||| kindB x ||| kindB y = _
    rw [Nat.zero_or]
/-- A call behind a new block. -/
theorem below_new {B : Nat} {w w' : World} {o : Obj} (h : Below (w.alloc o).heap.size (w.alloc o) w') (hB : B ≤ w.heap.size) : Below B w w' :=
  (((Below.refl w.heap.size w).alloc (Nat.le_refl _) o).trans (h.mono (by simp))).mono hB
end Go.Proofs.Ytbimfopbilcdgaa

set_option linter.unusedSimpArgs false
set_option linter.unusedVariables false
set_option maxRecDepth 8000
namespace Go.Proofs.Ytbimfopbilcdgaa
open Go.ChangeShapes Go.WideShapes Go.ChangeAt Go.RowKit

theorem Try.own : ownKnob Try.prog.godebug = none := by kernel_rfl
theorem Try.laidOut : laidOutB Try.prog = true := by kernel_rfl

section
variable {H : Type} {enc : TypeId × Value → H} {P : Program}

theorem trodAll_keep {W W' : World} {sp : Nat → Bool} (hl : laidOutB P = true) (hs : ∀ x : MemPlace, x.block < W.heap.size → W.sameAt W' x) : ∀ (ts : List TypeId) (vs : List Value) (ds : List (DataW H)) (ps : List MemPlace),
    (∀ t, t ∈ ts → P.readableRec t = true ∧ t < P.types.size) → DataW.TrodAll enc P W 0 (fun _ => true) true ts vs ds ps → (∀ x, x ∈ ps → x.block < W.heap.size) → (∀ x, x ∈ ps → sp x.block = true) →
    DataW.TrodAll enc P W' 0 sp true ts vs ds ps
  | [], [], [], _, _, h, _, _ => h
  | t :: ts, v :: vs, d :: ds, ps, hr, ⟨p, q, hd, hrest, he⟩, hlt, hsp => by
    subst he
    refine ⟨p, q, ?_, trodAll_keep hl hs ts vs ds q (fun t ht => hr t (by simp [ht])) hrest (fun x hx => hlt x (by simp [hx])) (fun x hx => hsp x (by simp [hx])), rfl⟩
    exact WideElems.Trod_stays hl (hr t (by simp)).1 (hr t (by simp)).2 hd (fun x hx => hs x (hlt x (by simp [hx]))) (fun x hx => hsp x (by simp [hx]))
  | [], [], _ :: _, _, _, h, _, _ => h.elim
  | [], _ :: _, _, _, _, h, _, _ => h.elim
  | _ :: _, [], _, _, _, h, _, _ => h.elim
  | _ :: _, _ :: _, [], _, _, h, _, _ => h.elim

theorem post_law {f : Func} {s : ChangeSpec} {W W' : World} {args : Array Value} {ds : List (DataW H)} {before : List MemPlace} {tb : TypeId} (hl : laidOutB P = true)
    (hv : s.vars = []) (hW : DataW.Whole enc P f.params.toList s.vars false W args.toList ds [] before)
    (hrec : ∀ t, t ∈ f.params.toList → P.readableRec t = true ∧ t < P.types.size)
    (hres : (s.fn H ds).results = [.lit (.bool true)]) (hargs : (s.fn H ds).args = ds) (hvs : (s.fn H ds).vars = [])
    (hrt : f.resultTypes = #[tb]) (htb : P.underlying tb = some .bool) (hb : Below W.heap.size W W') : s.post enc P f false true false false W args (.bool true) W' := by
  have hlt : ∀ x, x ∈ before → x.block < W.heap.size := fun x hx => hW.lt x hx
  have hW2 := hW
  obtain ⟨p, q, hA, hV, rfl, -, -⟩ := hW2
  have hq : q = [] := by rw [hv] at hV; exact hV
  subst hq
  refine ⟨ds, [], p ++ [], [], p, [], hW, ?_, ?_, ?_, hb.frame _, fun h => by cases h⟩
  · rw [List.append_nil, hres, hrt]
    exact trodAll_mk1 (shut_bool htb true)
  · rw [List.append_nil, hargs]
    exact trodAll_keep hl (fun x hx => hb.same hx) _ _ _ _ hrec hA (fun x hx => hlt x (by simp [hx])) (fun x hx => by simpa using hlt x (by simp [hx]))
  · rw [List.append_nil, hv, hvs]; rfl

theorem trod_float' {w : World} {base : Nat} {spare : Nat → Bool} {held : Bool} {fuel : Nat} {cs : List Value} {x : DataW H × List MemPlace} {t : TypeId} (ht : P.underlying t = some (.float .f64)) (h : DataW.trod enc P w base spare held fuel t cs = some x) :
    ∃ b, cs = [.float .f64 b] ∧ (Lit.float .f64 b).wf = true := by
  cases fuel with
  | zero => simp [DataW.trod] at h
  | succ n =>
    unfold DataW.trod at h
    rw [ht] at h
    split at h <;> simp_all

/-- A slice of numbers that came in. -/
theorem open_fls {W : World} {t e : TypeId} {v : Value} {d : DataW H} {ps : List MemPlace} (ht : P.underlying t = some (.slice e)) (he : P.underlying e = some (.float .f64)) (hc : P.cellsOf e = 1)
    {b0 : Nat} {r : Reach} (hok : Value.okWide P W r b0 t v) (hd : DataW.Trod enc P W 0 (fun _ => true) true t v d ps) (hlt : ∀ x, x ∈ ps → x.block < W.heap.size) :
    ∃ (a : Option Addr) (l : List Nat) (cap : Nat), v = .slice a l.length cap ∧ l.length ≤ cap ∧ cap ≤ maxLen ∧ FlAt W a l := by
  obtain ⟨fuel, hf⟩ := hd
  obtain ⟨a, len, cap, rfl⟩ : ∃ a len cap, v = .slice a len cap := by
    simp only [Value.okWide, ht, Cell.okWide] at hok
    cases v <;> simp_all [Cell.ok]
  rcases Deep.open_slice1 ht hc hf with ⟨hcs, -⟩ | ⟨a', len', cap', m, n, V, D, Pl, hcs, -, hl, hm, hmm, hx, hcell⟩
  · simp [Value.cells] at hcs
    obtain ⟨rfl, rfl, rfl⟩ := hcs
    exact ⟨none, [], 0, rfl, Nat.le_refl _, by unfold maxLen; omega, fun k x hx => by simp at hx⟩
  · simp [Value.cells] at hcs
    obtain ⟨rfl, rfl, rfl⟩ := hcs
    simp only [if_true] at hmm
    subst hmm
    have hV : ∀ i, i < m → ∃ b, V i = .float .f64 b ∧ b < 18446744073709551616 := fun i hi => by
      obtain ⟨b, h1, h2⟩ := trod_float' he (hcell i hi).2
      exact ⟨b, by simpa using h1, by simpa [Lit.wf] using h2⟩
    let B : Nat → Nat := fun i => match V i with | .float _ b => b | _ => 0
    have hB : ∀ i, i < m → V i = .float .f64 (B i) ∧ B i < 18446744073709551616 := fun i hi => by
      obtain ⟨b, h1, h2⟩ := hV i hi
      have : B i = b := by show (match V i with | .float _ b => b | _ => 0) = b; rw [h1]
      rw [this]; exact ⟨h1, h2⟩
    refine ⟨some a', (List.range len).map B, m, by simp, by simpa using hl, hm, fun k x hx2 => ?_⟩
    have hk : k < len := by
      rcases Nat.lt_or_ge k len with h | h
      · exact h
      · rw [List.getElem?_eq_none (by simpa using h)] at hx2; cases hx2
    have hx3 : x = B k := by simp [hk] at hx2; exact hx2.symm
    subst hx3
    obtain ⟨b, off, spot⟩ := a'
    have hspot : spot = none := by simpa [Addr.add] using World.cell?_spot (hcell 0 (by omega)).1
    subst hspot
    refine ⟨(hB k (by omega)).2, b, off, rfl, ?_, ?_⟩
    · have hcl := (hcell 0 (by omega)).1
      have := block_lt_of_cell hcl
      simpa [Addr.add] using this
    · have h := (hcell k (by omega)).1
      rw [(hB k (by omega)).1] at h
      rw [Addr.add_mid] at h
      exact h
end
end Go.Proofs.Ytbimfopbilcdgaa

set_option linter.unusedSimpArgs false
set_option linter.unusedVariables false
namespace Go.Proofs.Ytbimfopbilcdgaa
open Go.RowKit Go.Sort

/-- An event. -/
structure Ev where
  off : Nat
  part : Int
  time : Int
  key : ByteArray
  val : Nat
instance : Inhabited Ev := ⟨⟨0, 0, 0, ByteArray.empty, 0⟩⟩
def Ev.cells (x : Ev) : List Value := [.int .u64 (x.off : Int), .int .i64 x.part, .int .i64 x.time, .string x.key, .float .f64 x.val]
/-- -1, 0 or 1. -/
def cmpI (a b : Int) : Int := if a < b then -1 else if b < a then 1 else 0
def or3 (a b c : Int) : Int := if a ≠ 0 then a else if b ≠ 0 then b else c
def cmpK (a b : ByteArray) : Int := Lib.compareBytes a.data.toList b.data.toList
def evCmp (x y : Ev) : Int := or3 (cmpK x.key y.key) (cmpI x.time y.time) (cmpI (x.off : Int) (y.off : Int))

theorem cmpstr_run (a b : ByteArray) (w : World) : (callFunc 140 #[.string a, .string b]).run Try.prog w = .ok (.value (.int .i64 (cmpK a b))) w := by
  rw [run_callFunc_extern Try.func140 (by kernel_rfl) (by kernel_rfl) (by kernel_rfl) (e := Extern.BytealgCompare.compare) (by kernel_rfl), Lib.run_compareString]
  rfl
set_option maxHeartbeats 400000 in
theorem compareString_any (a b : ByteArray) (w : World) : Calls Try.prog 110 #[.string a, .string b] w fun e w' => e = .returned (.int .i64 (cmpK a b)) ∧ w = w' := by
  have xr := fun w => cmpstr_run a b w
  generalize cmpK a b = r at *
  go_enter Try.func110, Try.ntmps110
  go_wp2
  go_ret
  exact ⟨rfl, rfl⟩
set_option maxHeartbeats 400000 in
theorem strCompare_any (a b : ByteArray) (w : World) : Calls Try.prog 79 #[.string a, .string b] w fun e w' => e = .returned (.int .i64 (cmpK a b)) ∧ w = w' := by
  have h := fun w => compareString_any a b w
  generalize cmpK a b = r at *
  have H := Lib.hid h
  clear h
  go_enter Try.func79, Try.ntmps79
  go_wp2_with (go_at_call 110; refine (H.out _).mono ?_; rintro e w' ⟨rfl, rfl⟩)
  go_ret
  exact ⟨rfl, rfl⟩
set_option maxHeartbeats 400000 in
theorem isNaNI_any (a : Int) (w : World) : Calls Try.prog 111 #[.int .i64 a] w fun e w' => e = .returned (.bool false) ∧ w = w' := by
  go_enter Try.func111, Try.ntmps111
  go_wp2
  go_ret
  exact ⟨rfl, rfl⟩
set_option maxHeartbeats 400000 in
theorem isNaNU_any (a : Int) (w : World) : Calls Try.prog 150 #[.int .u64 a] w fun e w' => e = .returned (.bool false) ∧ w = w' := by
  go_enter Try.func150, Try.ntmps150
  go_wp2
  go_ret
  exact ⟨rfl, rfl⟩
theorem cmpI_lt {a b : Int} (h : a < b) : cmpI a b = -1 := if_pos h
theorem cmpI_gt {a b : Int} (h : b < a) : cmpI a b = 1 := by unfold cmpI; rw [if_neg (by omega), if_pos h]
theorem cmpI_eq {a b : Int} (h1 : ¬ a < b) (h2 : ¬ b < a) : cmpI a b = 0 := by unfold cmpI; rw [if_neg h1, if_neg h2]
set_option maxHeartbeats 400000 in
theorem cmpInt_any (a b : Int) (w : World) : Calls Try.prog 80 #[.int .i64 (a : Int), .int .i64 (b : Int)] w fun e w' => e = .returned (.int .i64 (cmpI (a : Int) (b : Int))) ∧ w = w' := by
  have hc : ((a : Int) < b ∧ Hid (cmpI (a : Int) (b : Int) = -1)) ∨ ((b : Int) < a ∧ Hid (cmpI (a : Int) (b : Int) = 1)) ∨ ((¬ (a : Int) < b ∧ ¬ (b : Int) < a) ∧ Hid (cmpI (a : Int) (b : Int) = 0)) := by
    by_cases h1 : (a : Int) < b
    · exact .inl ⟨h1, Lib.hid (cmpI_lt h1)⟩
    · by_cases h2 : (b : Int) < a
      · exact .inr (.inl ⟨h2, Lib.hid (cmpI_gt h2)⟩)
      · exact .inr (.inr ⟨⟨h1, h2⟩, Lib.hid (cmpI_eq h1 h2)⟩)
  generalize cmpI (a : Int) (b : Int) = r at *
  rcases hc with ⟨h1, hr⟩ | ⟨h1, hr⟩ | ⟨⟨h1, h2⟩, hr⟩
  all_goals
    go_enter Try.func80, Try.ntmps80
    go_wp2_with (go_at_call 111; refine (isNaNI_any _ _).mono ?_; rintro e w' ⟨rfl, rfl⟩)
    go_ret
    exact ⟨ret_eq (by rw [hr.out]; rfl), rfl⟩
set_option maxHeartbeats 400000 in
theorem cmpUint_any (a b : Nat) (w : World) : Calls Try.prog 130 #[.int .u64 (a : Int), .int .u64 (b : Int)] w fun e w' => e = .returned (.int .i64 (cmpI (a : Int) (b : Int))) ∧ w = w' := by
  have hc : ((a : Int) < b ∧ Hid (cmpI (a : Int) (b : Int) = -1)) ∨ ((b : Int) < a ∧ Hid (cmpI (a : Int) (b : Int) = 1)) ∨ ((¬ (a : Int) < b ∧ ¬ (b : Int) < a) ∧ Hid (cmpI (a : Int) (b : Int) = 0)) := by
    by_cases h1 : (a : Int) < b
    · exact .inl ⟨h1, Lib.hid (cmpI_lt h1)⟩
    · by_cases h2 : (b : Int) < a
      · exact .inr (.inl ⟨h2, Lib.hid (cmpI_gt h2)⟩)
      · exact .inr (.inr ⟨⟨h1, h2⟩, Lib.hid (cmpI_eq h1 h2)⟩)
  generalize cmpI (a : Int) (b : Int) = r at *
  rcases hc with ⟨h1, hr⟩ | ⟨h1, hr⟩ | ⟨⟨h1, h2⟩, hr⟩
  all_goals
    go_enter Try.func130, Try.ntmps130
    go_wp2_with (go_at_call 150; refine (isNaNU_any _ _).mono ?_; rintro e w' ⟨rfl, rfl⟩)
    go_ret
    exact ⟨ret_eq (by rw [hr.out]; rfl), rfl⟩
set_option maxHeartbeats 1000000 in
theorem or_any (g : Nat) (a b c r : Int) (hr : or3 a b c = r) (w : World) (h0 : w.cell? ⟨g, 0, none⟩ = some (.int .i64 a)) (h1 : w.cell? ⟨g, 1, none⟩ = some (.int .i64 b)) (h2 : w.cell? ⟨g, 2, none⟩ = some (.int .i64 c)) :
    Calls Try.prog 78 #[.slice (some ⟨g, 0, none⟩) 3 3] w fun e w' => e = .returned (.int .i64 r) ∧ w = w' := by
  have HR := Lib.hid hr
  clear hr
  go_enter Try.func78, Try.ntmps78
  go_wp2
  go_loop [8] (fun i => (i = .int .i64 0) ∨ (i = .int .i64 1 ∧ a = 0) ∨ (i = .int .i64 2 ∧ a = 0 ∧ b = 0) ∨ (i = .int .i64 3 ∧ a = 0 ∧ b = 0 ∧ c = 0)) (fun i => (3 - intOf i).toNat)
  case atStart => exact Or.inl rfl
  case round =>
    rcases hrel with rfl | ⟨rfl, ha⟩ | ⟨rfl, ha, hb⟩ | ⟨rfl, ha, hb, hc⟩
    · by_cases ha : a = 0
      · have ha' : (a == 0) = true := by simpa using ha
        have HA := Lib.hid ha
        clear ha
        go_wp2
        go_round
        case rel => exact Or.inr (Or.inl ⟨rfl, HA.out⟩)
        case measure => simp [intOf]
      · have ha' : (a != 0) = true := by simpa using ha
        go_wp2
        go_ret
        exact ⟨ret_eq (by rw [← HR.out]; unfold or3; rw [if_pos ha]; rfl), rfl⟩
    · have HA := Lib.hid ha
      clear ha
      by_cases hb : b = 0
      · have HB := Lib.hid hb
        have hb' : (b == 0) = true := by simpa using hb
        clear hb
        go_wp2
        go_round
        case rel => exact Or.inr (Or.inr (Or.inl ⟨rfl, HA.out, HB.out⟩))
        case measure => simp [intOf]
      · go_wp2
        go_ret
        exact ⟨ret_eq (by rw [← HR.out]; unfold or3; rw [if_neg (by rw [HA.out]; decide), if_pos hb]; rfl), rfl⟩
    · have HA := Lib.hid ha
      have HB := Lib.hid hb
      clear ha hb
      by_cases hc : c = 0
      · have HC := Lib.hid hc
        have hc' : (c == 0) = true := by simpa using hc
        clear hc
        go_wp2
        go_round
        case rel => exact Or.inr (Or.inr (Or.inr ⟨rfl, HA.out, HB.out, HC.out⟩))
        case measure => simp [intOf]
      · go_wp2
        go_ret
        exact ⟨ret_eq (by rw [← HR.out]; unfold or3; rw [if_neg (by rw [HA.out]; decide), if_neg (by rw [HB.out]; decide)]; rfl), rfl⟩
    · have HA := Lib.hid ha
      have HB := Lib.hid hb
      have HC := Lib.hid hc
      clear ha hb hc
      go_wp2
      go_ret
      exact ⟨ret_eq (by rw [← HR.out]; unfold or3; rw [if_neg (by rw [HA.out]; decide), if_neg (by rw [HB.out]; decide), HC.out]; rfl), rfl⟩
end Go.Proofs.Ytbimfopbilcdgaa

set_option linter.unusedSimpArgs false
set_option linter.unusedVariables false
namespace Go.Proofs.Ytbimfopbilcdgaa
open Go.RowKit Go.Sort

/-- Two events in two boxes. -/
structure Bx (g h : Nat) (x y : Ev) (w : World) : Prop where
  rx : w.heap[g]? = some (.cells #[.int .u64 (x.off : Int), .int .i64 x.part, .int .i64 x.time, .string x.key, .float .f64 x.val] 76 (0, 0))
  ry : w.heap[h]? = some (.cells #[.int .u64 (y.off : Int), .int .i64 y.part, .int .i64 y.time, .string y.key, .float .f64 y.val] 76 (0, 0))
theorem Bx.cx {g h : Nat} {x y : Ev} {w : World} (H : Bx g h x y w) (j : Nat) (v : Value) (hv : (#[.int .u64 (x.off : Int), .int .i64 x.part, .int .i64 x.time, .string x.key, .float .f64 x.val] : Array Value)[j]? = some v) : w.cell? ⟨g, j, none⟩ = some v := by
  rw [cell_of_row w g j _ _ _ H.rx]; exact hv
theorem Bx.cy {g h : Nat} {x y : Ev} {w : World} (H : Bx g h x y w) (j : Nat) (v : Value) (hv : (#[.int .u64 (y.off : Int), .int .i64 y.part, .int .i64 y.time, .string y.key, .float .f64 y.val] : Array Value)[j]? = some v) : w.cell? ⟨h, j, none⟩ = some v := by
  rw [cell_of_row w h j _ _ _ H.ry]; exact hv
theorem row_alloc' {w : World} {g : Nat} {o : Obj} (h : w.heap[g]? = some o) (q : Obj) : (w.alloc q).heap[g]? = some o := (Below.heap_alloc _ _ _ (Array.getElem?_eq_some_iff.1 h).1).trans h
theorem Bx.alloc {g h : Nat} {x y : Ev} {w : World} (H : Bx g h x y w) (o : Obj) : Bx g h x y (w.alloc o) := ⟨row_alloc' H.rx o, row_alloc' H.ry o⟩
theorem heap_new (w : World) (o : Obj) : (w.alloc o).heap[w.heap.size]? = some o := by show (w.heap.push o)[w.heap.size]? = _; simp
theorem Bx.start (w : World) (x y : Ev) : Bx w.heap.size (w.heap.size + 1) x y ((w.alloc (.cells #[.int .u64 (x.off : Int), .int .i64 x.part, .int .i64 x.time, .string x.key, .float .f64 x.val] 76)).alloc (.cells #[.int .u64 (y.off : Int), .int .i64 y.part, .int .i64 y.time, .string y.key, .float .f64 y.val] 76)).drew :=
  ⟨row_alloc' (by show (w.heap.push _)[w.heap.size]? = _; simp) _, by have h := heap_new (w.alloc (.cells #[.int .u64 (x.off : Int), .int .i64 x.part, .int .i64 x.time, .string x.key, .float .f64 x.val] 76)) (.cells #[.int .u64 (y.off : Int), .int .i64 y.part, .int .i64 y.time, .string y.key, .float .f64 y.val] 76); rw [show (w.alloc (.cells #[.int .u64 (x.off : Int), .int .i64 x.part, .int .i64 x.time, .string x.key, .float .f64 x.val] 76)).heap.size = w.heap.size + 1 from by simp] at h; exact h⟩
/-- Draws and new blocks, and nothing else. -/
def Grew (w w' : World) : Prop := ∃ q os, w' = grow (w.drewN q) os
theorem Grew.refl (w : World) : Grew w w := ⟨0, #[], by rw [grow_empty]; rfl⟩
theorem drewN_grow' (w : World) (os : Array Obj) (n : Nat) : (grow w os).drewN n = grow (w.drewN n) os := rfl
theorem drewN_add (w : World) (m n : Nat) : (w.drewN m).drewN n = w.drewN (m + n) := by
  unfold World.drewN; simp; omega
theorem Grew.trans {a b c : World} (h : Grew a b) (h' : Grew b c) : Grew a c := by
  obtain ⟨q, os, rfl⟩ := h
  obtain ⟨q', os', rfl⟩ := h'
  exact ⟨q + q', os ++ os', by rw [drewN_grow', drewN_add, grow_grow]⟩
theorem Grew.alloc {a b : World} (h : Grew a b) (o : Obj) : Grew a (b.alloc o) := h.trans ⟨0, #[o], by rw [alloc_eq_grow]; rfl⟩
theorem Grew.drew {a b : World} (h : Grew a b) : Grew a b.drew := h.trans ⟨1, #[], by rw [grow_empty]; rfl⟩

set_option maxHeartbeats 2000000 in
theorem compare_any (x y : Ev) (w : World) : Calls Try.prog 103 #[.agg #[.int .u64 (x.off : Int), .int .i64 x.part, .int .i64 x.time, .string x.key, .float .f64 x.val], .agg #[.int .u64 (y.off : Int), .int .i64 y.part, .int .i64 y.time, .string y.key, .float .f64 y.val]] w fun e w' => e = .returned (.int .i64 (evCmp x y)) ∧ Grew w w' := by
  have h1 := fun w => strCompare_any x.key y.key w
  have h2 := fun w => cmpInt_any x.time y.time w
  have h3 := fun w => cmpUint_any x.off y.off w
  have hr : or3 (cmpK x.key y.key) (cmpI x.time y.time) (cmpI (x.off : Int) (y.off : Int)) = evCmp x y := rfl
  generalize evCmp x y = r at *
  generalize cmpK x.key y.key = c1 at *
  generalize cmpI x.time y.time = c2 at *
  generalize cmpI (x.off : Int) (y.off : Int) = c3 at *
  have HR := Lib.hid hr
  have H1 := Lib.hid h1
  have H2 := Lib.hid h2
  have H3 := Lib.hid h3
  clear h1 h2 h3 hr
  have HS := Lib.hid (Bx.start w x y)
  have HW : Hid (∀ o, Grew w (((w.alloc (.cells #[.int .u64 (x.off : Int), .int .i64 x.part, .int .i64 x.time, .string x.key, .float .f64 x.val] 76)).alloc (.cells #[.int .u64 (y.off : Int), .int .i64 y.part, .int .i64 y.time, .string y.key, .float .f64 y.val] 76)).drew.alloc o)) := Lib.hid fun o => (((Grew.refl w).alloc _).alloc _).drew.alloc o
  go_enter Try.func103, Try.ntmps103
  go_wp2
  have hS := HS.out
  clear HS
  generalize World.alloc (World.alloc w _) _ = wz at *
  generalize w.heap.size + 1 = h at *
  generalize w.heap.size = g at *
  refine wp_region_held_drew (S := Bx g h x y) (by kernel_rfl) hS (fun hHeld => ?_)
  refine wpAnyH_take (i := 0) (v := .pointer (some ⟨g, 3, none⟩)) rfl (by kernel_rfl) (by kernel_rfl) (by kernel_rfl) (fun _ _ _ h => h) (Or.inl ⟨by rfl, fun w _ => by go_simp⟩) hHeld ?_
  try dsimp only
  try simp only [Act.put, List.setIfInBounds_toArray, List.set_cons_zero, List.set_cons_succ]
  refine wpAnyH_take (i := 1) (v := .string x.key) rfl (by kernel_rfl) (by kernel_rfl) (by kernel_rfl) (fun _ _ _ h => h) (Or.inl ⟨by rfl, fun w hw => by have hc : w.cell? ⟨g, 3, none⟩ = some (.string x.key) := hw.cx 3 _ rfl; go_simp⟩) hHeld ?_
  try dsimp only
  try simp only [Act.put, List.setIfInBounds_toArray, List.set_cons_zero, List.set_cons_succ]
  refine wpAnyH_take (i := 2) (v := .pointer (some ⟨h, 3, none⟩)) rfl (by kernel_rfl) (by kernel_rfl) (by kernel_rfl) (fun _ _ _ h => h) (Or.inl ⟨by rfl, fun w _ => by go_simp⟩) hHeld ?_
  try dsimp only
  try simp only [Act.put, List.setIfInBounds_toArray, List.set_cons_zero, List.set_cons_succ]
  refine wpAnyH_take (i := 3) (v := .string y.key) rfl (by kernel_rfl) (by kernel_rfl) (by kernel_rfl) (fun _ _ _ h => h) (Or.inl ⟨by rfl, fun w hw => by have hc : w.cell? ⟨h, 3, none⟩ = some (.string y.key) := hw.cy 3 _ rfl; go_simp⟩) hHeld ?_
  try dsimp only
  try simp only [Act.put, List.setIfInBounds_toArray, List.set_cons_zero, List.set_cons_succ]
  refine wpAnyH_take (i := 5) (v := .pointer (some ⟨g, 2, none⟩)) rfl (by kernel_rfl) (by kernel_rfl) (by kernel_rfl) (fun _ _ _ h => h) (Or.inl ⟨by rfl, fun w _ => by go_simp⟩) hHeld ?_
  try dsimp only
  try simp only [Act.put, List.setIfInBounds_toArray, List.set_cons_zero, List.set_cons_succ]
  refine wpAnyH_take (i := 6) (v := .int .i64 x.time) rfl (by kernel_rfl) (by kernel_rfl) (by kernel_rfl) (fun _ _ _ h => h) (Or.inl ⟨by rfl, fun w hw => by have hc : w.cell? ⟨g, 2, none⟩ = some (.int .i64 x.time) := hw.cx 2 _ rfl; go_simp⟩) hHeld ?_
  try dsimp only
  try simp only [Act.put, List.setIfInBounds_toArray, List.set_cons_zero, List.set_cons_succ]
  refine wpAnyH_take (i := 7) (v := .pointer (some ⟨h, 2, none⟩)) rfl (by kernel_rfl) (by kernel_rfl) (by kernel_rfl) (fun _ _ _ h => h) (Or.inl ⟨by rfl, fun w _ => by go_simp⟩) hHeld ?_
  try dsimp only
  try simp only [Act.put, List.setIfInBounds_toArray, List.set_cons_zero, List.set_cons_succ]
  refine wpAnyH_take (i := 8) (v := .int .i64 y.time) rfl (by kernel_rfl) (by kernel_rfl) (by kernel_rfl) (fun _ _ _ h => h) (Or.inl ⟨by rfl, fun w hw => by have hc : w.cell? ⟨h, 2, none⟩ = some (.int .i64 y.time) := hw.cy 2 _ rfl; go_simp⟩) hHeld ?_
  try dsimp only
  try simp only [Act.put, List.setIfInBounds_toArray, List.set_cons_zero, List.set_cons_succ]
  refine wpAnyH_take (i := 10) (v := .pointer (some ⟨g, 0, none⟩)) rfl (by kernel_rfl) (by kernel_rfl) (by kernel_rfl) (fun _ _ _ h => h) (Or.inl ⟨by rfl, fun w _ => by go_simp⟩) hHeld ?_
  try dsimp only
  try simp only [Act.put, List.setIfInBounds_toArray, List.set_cons_zero, List.set_cons_succ]
  refine wpAnyH_take (i := 11) (v := .int .u64 (x.off : Int)) rfl (by kernel_rfl) (by kernel_rfl) (by kernel_rfl) (fun _ _ _ h => h) (Or.inl ⟨by rfl, fun w hw => by have hc : w.cell? ⟨g, 0, none⟩ = some (.int .u64 (x.off : Int)) := hw.cx 0 _ rfl; go_simp⟩) hHeld ?_
  try dsimp only
  try simp only [Act.put, List.setIfInBounds_toArray, List.set_cons_zero, List.set_cons_succ]
  refine wpAnyH_take (i := 12) (v := .pointer (some ⟨h, 0, none⟩)) rfl (by kernel_rfl) (by kernel_rfl) (by kernel_rfl) (fun _ _ _ h => h) (Or.inl ⟨by rfl, fun w _ => by go_simp⟩) hHeld ?_
  try dsimp only
  try simp only [Act.put, List.setIfInBounds_toArray, List.set_cons_zero, List.set_cons_succ]
  refine wpAnyH_take (i := 13) (v := .int .u64 (y.off : Int)) rfl (by kernel_rfl) (by kernel_rfl) (by kernel_rfl) (fun _ _ _ h => h) (Or.inl ⟨by rfl, fun w hw => by have hc : w.cell? ⟨h, 0, none⟩ = some (.int .u64 (y.off : Int)) := hw.cy 0 _ rfl; go_simp⟩) hHeld ?_
  try dsimp only
  try simp only [Act.put, List.setIfInBounds_toArray, List.set_cons_zero, List.set_cons_succ]
  refine wpAnyH_ready (rs := [4]) (by kernel_rfl) (by simp) (AllReadyH.cons rfl (fun K hK => ?_) AllReadyH.nil)
  go_simp
  refine (H1.out _).mono ?_
  rintro e w' ⟨rfl, rfl⟩
  refine hK.out _ _ hHeld (fun hHeld => ?_)
  clear hK K
  try dsimp only
  try simp only [Act.put, List.setIfInBounds_toArray, List.set_cons_zero, List.set_cons_succ]
  refine wpAnyH_ready (rs := [9]) (by kernel_rfl) (by simp) (AllReadyH.cons rfl (fun K hK => ?_) AllReadyH.nil)
  go_simp
  refine (H2.out _).mono ?_
  rintro e w' ⟨rfl, rfl⟩
  refine hK.out _ _ hHeld (fun hHeld => ?_)
  clear hK K
  try dsimp only
  try simp only [Act.put, List.setIfInBounds_toArray, List.set_cons_zero, List.set_cons_succ]
  refine wpAnyH_ready (rs := [14]) (by kernel_rfl) (by simp) (AllReadyH.cons rfl (fun K hK => ?_) AllReadyH.nil)
  go_simp
  refine (H3.out _).mono ?_
  rintro e w' ⟨rfl, rfl⟩
  refine hK.out _ _ hHeld (fun hHeld => ?_)
  clear hK K
  try dsimp only
  try simp only [Act.put, List.setIfInBounds_toArray, List.set_cons_zero, List.set_cons_succ]
  refine wpAnyH_ready (rs := [15]) (by kernel_rfl) (by simp) (AllReadyH.cons rfl (fun K hK => ?_) AllReadyH.nil)
  go_simp
  refine hK.out _ _ (hHeld.alloc _) (fun hHeld => ?_)
  clear hK K
  try dsimp only
  try simp only [Act.put, List.setIfInBounds_toArray, List.set_cons_zero, List.set_cons_succ]
  refine wpAnyH_ready (rs := [16]) (by kernel_rfl) (by simp) (AllReadyH.cons rfl (fun K hK => ?_) AllReadyH.nil)
  go_simp
  refine (or_any _ c1 c2 c3 r HR.out _ (by simp [World.cell?_alloc_new]) (by simp [World.cell?_alloc_new]) (by simp [World.cell?_alloc_new])).mono ?_
  rintro e w' ⟨rfl, rfl⟩
  refine hK.out _ _ hHeld (fun hHeld => ?_)
  clear hK K
  try dsimp only
  try simp only [Act.put, List.setIfInBounds_toArray, List.set_cons_zero, List.set_cons_succ]
  refine wpAnyH_ready (rs := [17]) (by kernel_rfl) (by simp) (AllReadyH.cons rfl (fun K hK => ?_) AllReadyH.nil)
  go_simp
  refine hK.out _ _ hHeld (fun hHeld => ?_)
  clear hK K
  refine wpAnyH_done (by kernel_rfl) ?_ _
  go_wp2
  go_ret
  exact ⟨rfl, HW.out _⟩
end Go.Proofs.Ytbimfopbilcdgaa
