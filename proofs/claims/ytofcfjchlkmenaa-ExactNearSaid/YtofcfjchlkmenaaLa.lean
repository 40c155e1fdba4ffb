/-
  The laws of the layer real but for those that go through math.Ldexp and math.Nextafter: each returns true.
-/
import Derived.Test.YtofcfjchlkmenaaWa
namespace Go.Proofs.Ytofcfjchlkmenaa
open Go.RowKit

set_option maxHeartbeats 400000 in
theorem inf_neg (w : World) : Calls Try.prog 29 #[.int .i64 (-1)] w fun e w' => e = .returned (.float .f64 18442240474082181120) ∧ w = w' := by
  have xf := fb_run
  go_enter Try.func29, Try.ntmps29
  go_wp2
  go_ret
  exact ⟨rfl, rfl⟩
set_option maxHeartbeats 400000 in
theorem inf_pos (w : World) : Calls Try.prog 29 #[.int .i64 1] w fun e w' => e = .returned (.float .f64 9218868437227405312) ∧ w = w' := by
  have xf := fb_run
  go_enter Try.func29, Try.ntmps29
  go_wp2
  go_ret
  exact ⟨rfl, rfl⟩
set_option maxHeartbeats 400000 in
theorem mnan_any (w : World) : Calls Try.prog 28 #[] w fun e w' => e = .returned (.float .f64 9221120237041090561) ∧ w = w' := by
  have xf := fb_run
  go_enter Try.func28, Try.ntmps28
  go_wp2
  go_ret
  exact ⟨rfl, rfl⟩

theorem split_one (w : World) : Calls Try.prog 58 #[.float .f64 4607182418800017408] w fun e w' => e = .returned (.tuple #[.bool false, .int .u64 4503599627370496, .int .i64 1022, .bool true]) ∧ w = w' := by
  have h := split_norm 4607182418800017408 (by decide) (by decide) (by decide) w
  have e1 : Fl.mant (Fl.rung 4607182418800017408) = 4503599627370496 := by decide +kernel
  have e2 : Fl.shf (Fl.rung 4607182418800017408) = 1022 := by decide +kernel
  rw [e1, e2] at h
  exact h.mono fun e w' h => ⟨h.1.trans rfl, h.2⟩
end Go.Proofs.Ytofcfjchlkmenaa
