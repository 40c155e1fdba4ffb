/-
  The law ExactTwo returns true: walked.
-/
import Derived.Test.YtngkamcfjabggaaSk
import Derived.Test.YtngkamcfjabggaaSz
set_option linter.unusedSimpArgs false
set_option linter.unusedVariables false
namespace Go.Proofs.Ytngkamcfjabggaa
open Go.RowKit Sm

set_option maxHeartbeats 1000000 in
theorem exactTwo_bad (x y : Nat) (c1 c2 c3 c4 : Bool) (hx : x < 18446744073709551616) (hy : y < 18446744073709551616) (h1 : Fl.nan x = c1) (h2 : decide (Fl.rung x = 9218868437227405312) = c2)
    (h3 : Fl.nan y = c3) (h4 : decide (Fl.rung y = 9218868437227405312) = c4) (hc : c1 = true ∨ c2 = true ∨ c3 = true ∨ c4 = true) (w : World) :
    Calls Try.prog 6 #[.float .f64 x, .float .f64 y] w fun e w' => e = .returned (.bool true) ∧ Below w.heap.size w w' := by
  have HB := Below.refl w.heap.size w
  cases c1 <;> cases c2 <;> cases c3 <;> cases c4 <;> try (simp at hc; done)
  all_goals
    clear hc
    go_enter Try.func6, Try.ntmps6
    go_wp2_with (first
      | (go_at_call 13; refine (awake_any _).mono ?_; rintro e w' ⟨rfl, hb1⟩; replace HB := HB.trans (hb1.mono HB.size); clear hb1)
      | (go_at_call 24; refine (isNaN_any _ (by assumption) _).mono ?_; rintro e w' ⟨rfl, rfl⟩)
      | (go_at_call 25; refine (isInf_any _ (by assumption) _).mono ?_; rintro e w' ⟨rfl, rfl⟩))
    go_ret
    exact ⟨rfl, HB⟩

set_option maxHeartbeats 1000000 in
theorem exactTwo_core (x y W Z : Nat) (o : Bool) (hx : x < 18446744073709551616) (hy : y < 18446744073709551616) (hz : Z < 18446744073709551616) (hW : W < 18446744073709551616) (h1 : Fl.nan x = false) (h2 : decide (Fl.rung x = 9218868437227405312) = false)
    (h3 : Fl.nan y = false) (h4 : decide (Fl.rung y = 9218868437227405312) = false) (ha : ∀ w, (binOp .add 33 (.float .f64 x) (.float .f64 y)).run Try.prog w = .ok (.float .f64 Z) w)
    (hv : VaGives (accN [x, y]) (accH [x, y]) W o) (hs : decide (Fl.canon W = Fl.canon Z) = true) (ho : decide (Fl.rung Z = 9218868437227405312) = o) (w : World) :
    Calls Try.prog 6 #[.float .f64 x, .float .f64 y] w fun e w' => e = .returned (.bool true) ∧ Below w.heap.size w w' := by
  have HB := Below.refl w.heap.size w
  cases o
  all_goals
    go_enter Try.func6, Try.ntmps6
    go_wp2_with (first
      | (go_at_call 13; refine (awake_any _).mono ?_; rintro e w' ⟨rfl, hb1⟩; replace HB := HB.trans (hb1.mono HB.size); clear hb1)
      | (go_at_call 14; refine (of_slice _ [x, y] 2 2 rfl (by decide) _ (flAt_new _ [x, y] _ (by simp [hx, hy]))).mono ?_; rintro e w' ⟨rfl, hb1⟩; replace HB := HB.trans (below_new hb1 HB.size); clear hb1)
      | (go_at_call 16; (with_reducible refine (hv.at _).mono ?_); rintro e w' ⟨rfl, hb1⟩; replace HB := HB.trans (hb1.mono HB.size); clear hb1)
      | (go_at_call 27; refine (refSame_any _ _ (by assumption) (by assumption) _).mono ?_; rintro e w' ⟨rfl, rfl⟩)
      | (go_at_call 24; refine (isNaN_any _ (by assumption) _).mono ?_; rintro e w' ⟨rfl, rfl⟩)
      | (go_at_call 25; refine (isInf_any _ (by assumption) _).mono ?_; rintro e w' ⟨rfl, rfl⟩))
    go_ret
    exact ⟨rfl, HB⟩
end Go.Proofs.Ytngkamcfjabggaa
