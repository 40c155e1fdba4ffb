/-
  The walk of Value.
-/
import Derived.Test.YthklamgdoknmeaaSd
set_option linter.unusedSimpArgs false
set_option linter.unusedVariables false
set_option maxRecDepth 8000
namespace Go.Proofs.Ythklamgdoknmeaa
open Go.RowKit Sm

/-- What Value tells: the word, and whether it is too great. -/
def valW (n h : Nat) : Nat :=
  if h % 2 = 1 ∨ h / 2 % 4 = 3 then 9221120237041090560 else if h / 2 % 2 = 1 then 9218868437227405312 else if h / 4 % 2 = 1 then 18442240474082181120
  else if h = 8 then 9223372036854775808 else Ieee.double.nearest (sgn n) (mag n) (-1074)
def valO (n h : Nat) : Bool :=
  if h % 2 = 1 ∨ h / 2 % 4 = 3 then false else if h / 2 % 2 = 1 then false else if h / 4 % 2 = 1 then false else if h = 8 then false else decide (9218868437227405312 ≤ rnd (mag n))

theorem has_tests : ∀ h : Fin 32, (bits .and .u8 ((h.val : Nat) : Int) 1 != 0) = decide (h.val % 2 = 1) ∧ (bits .and .u8 ((h.val : Nat) : Int) 6 == 6) = decide (h.val / 2 % 4 = 3) ∧
    (bits .and .u8 ((h.val : Nat) : Int) 2 != 0) = decide (h.val / 2 % 2 = 1) ∧ (bits .and .u8 ((h.val : Nat) : Int) 4 != 0) = decide (h.val / 4 % 2 = 1) ∧ (((h.val : Nat) : Int) == 8) = decide (h.val = 8) := by decide +kernel

def NrGives (n W : Nat) (o : Bool) : Prop := ∀ w, Calls Try.prog 48 #[.agg (A35 (wd n))] w fun e w' => e = .returned (.tuple #[.float .f64 W, .bool o]) ∧ Below w.heap.size w w'
theorem NrGives.at {n W : Nat} {o : Bool} (h : NrGives n W o) (w : World) : Calls Try.prog 48 #[.agg (A35 (wd n))] w fun e w' => e = .returned (.tuple #[.float .f64 W, .bool o]) ∧ Below w.heap.size w w' := h w

set_option maxHeartbeats 400000 in
theorem mnan_v (w : World) : Calls Try.prog 45 #[] w fun e w' => e = .returned (.float .f64 9221120237041090561) ∧ w = w' := by
  have xf := fb_run
  go_enter Try.func45, Try.ntmps45
  go_wp2
  go_ret
  exact ⟨rfl, rfl⟩
set_option maxHeartbeats 400000 in
theorem canon_mnan (w : World) : Calls Try.prog 44 #[.float .f64 9221120237041090561] w fun e w' => e = .returned (.float .f64 9221120237041090560) ∧ w = w' := canon_any _ (by decide) w
set_option maxHeartbeats 400000 in
theorem inf_v (w : World) : Calls Try.prog 46 #[.int .i64 1] w fun e w' => e = .returned (.float .f64 9218868437227405312) ∧ w = w' := by
  have xf := fb_run
  go_enter Try.func46, Try.ntmps46
  go_wp2
  go_ret
  exact ⟨rfl, rfl⟩
set_option maxHeartbeats 400000 in
theorem inf_n (w : World) : Calls Try.prog 46 #[.int .i64 (-1)] w fun e w' => e = .returned (.float .f64 18442240474082181120) ∧ w = w' := by
  have xf := fb_run
  go_enter Try.func46, Try.ntmps46
  go_wp2
  go_ret
  exact ⟨rfl, rfl⟩
set_option maxHeartbeats 400000 in
theorem copy_zero (w : World) : Calls Try.prog 47 #[.float .f64 0, .float .f64 13830554455654793216] w fun e w' => e = .returned (.float .f64 9223372036854775808) ∧ w = w' := by
  have xf := fb_run
  have xt := tb_run
  go_enter Try.func47, Try.ntmps47
  go_wp2
  go_ret
  exact ⟨rfl, rfl⟩

set_option maxHeartbeats 1000000 in
theorem value_core (n h W : Nat) (o c1 c2 c3 c4 c5 : Bool) (h1 : (bits .and .u8 (h : Int) 1 != 0) = c1) (h2 : (bits .and .u8 (h : Int) 6 == 6) = c2) (h3 : (bits .and .u8 (h : Int) 2 != 0) = c3) (h4 : (bits .and .u8 (h : Int) 4 != 0) = c4)
    (h5 : ((h : Int) == 8) = c5) (hn : NrGives n W o) (w : World) :
    Calls Try.prog 14 #[.agg (P36 (wd n) h)] w fun e w' =>
      e = .returned (.tuple #[.float .f64 (if c1 || c2 then 9221120237041090560 else if c3 then 9218868437227405312 else if c4 then 18442240474082181120 else if c5 then 9223372036854775808 else W), .bool (if c1 || c2 then false else if c3 then false else if c4 then false else if c5 then false else o)]) ∧ Below w.heap.size w w' := by
  have hg := P36_has (wd n) h
  have hk := Kp.start w (P36 (wd n) h) 27
  cases c1 <;> cases c2 <;> cases c3 <;> cases c4 <;> cases c5
  all_goals
    go_enter Try.func14, Try.ntmps14
    go_wp2_with (first
      | (refine wpList_words rfl (.tmp 34) rfl w.heap.size rfl (wd n) h _ _ hk.row ?_)
      | (go_at_call 48; (with_reducible refine (hn.at _).mono ?_); rintro e w' ⟨rfl, hb⟩; replace hk := hk.next hb; clear hb)
      | (go_at_call 45; (with_reducible refine (mnan_v _).mono ?_); rintro e w' ⟨rfl, rfl⟩)
      | (go_at_call 44; (with_reducible refine (canon_mnan _).mono ?_); rintro e w' ⟨rfl, rfl⟩)
      | (go_at_call 46; (first | (with_reducible refine (inf_v _).mono ?_) | (with_reducible refine (inf_n _).mono ?_)); rintro e w' ⟨rfl, rfl⟩)
      | (go_at_call 47; (with_reducible refine (copy_zero _).mono ?_); rintro e w' ⟨rfl, rfl⟩))
    go_ret2
    exact ⟨rfl, hk.below⟩
theorem tup_eq' {a b : Nat} {c d : Bool} (h : a = b) (h2 : c = d) : Ending.returned (.tuple #[.float .f64 a, .bool c]) = Ending.returned (.tuple #[.float .f64 b, .bool d]) := by rw [h, h2]
theorem value_any (n h : Nat) (hn : n < top) (hh : h < 32) (w : World) :
    Calls Try.prog 14 #[.agg (P36 (wd n) h)] w fun e w' => e = .returned (.tuple #[.float .f64 (valW n h), .bool (valO n h)]) ∧ Below w.heap.size w w' := by
  obtain ⟨t1, t2, t3, t4, t5⟩ := has_tests ⟨h, hh⟩
  refine (value_core n h _ _ _ _ _ _ _ t1 t2 t3 t4 t5 (fun w => nearest_any n hn w) w).mono ?_
  rintro e w' ⟨rfl, hb⟩
  refine ⟨tup_eq' ?_ ?_, hb⟩
  · unfold valW
    simp only [Bool.or_eq_true, decide_eq_true_eq]
  · unfold valO
    simp only [Bool.or_eq_true, decide_eq_true_eq]
end Go.Proofs.Ythklamgdoknmeaa
