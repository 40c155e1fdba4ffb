/-
  Layer column: the example.
-/
import Derived.Test.YtplmafbdalkopaaCa
set_option linter.unusedSimpArgs false
set_option linter.unusedVariables false
set_option maxRecDepth 8000
namespace Go.Proofs.Ytplmafbdalkopaa
open Go.RowKit Go.WideShapes Col
theorem str_777 : strB [2, 3, 14, 2] = { data := #[2, 3, 14, 2] } := by decide +kernel
set_option maxHeartbeats 1000000 in
theorem awakeC_any (W : World) : Calls Try.prog 10 #[] W fun e w' => e = .returned (.bool true) ∧ Below W.heap.size W w' := by
  have HR : Hid (IsAt (W.alloc (.cells #[.int .i64 7, .int .i64 7, .int .i64 7] 2)) (some ⟨W.heap.size, 0, none⟩) [7, 7, 7]) := Lib.hid (IsAt.of_row [7, 7, 7] (by intro x hx; simp at hx; subst hx; unfold Wf64; omega) (heap_alloc_new' W _) ⟨[], rfl⟩)
  have hI := ints_any _ 3 3 [7, 7, 7] (Lib.hid rfl) (by decide) (by decide) (by decide) _ HR
  rw [ints_777] at hI
  have HI := Lib.hid hI
  have HB0 : Hid (Below W.heap.size W (W.alloc (.cells #[.int .i64 7, .int .i64 7, .int .i64 7] 2))) := Lib.hid ((Below.refl _ _).alloc (Nat.le_refl _) _)
  clear hI
  go_enter Try.func10, Try.ntmps10
  go_wp2_with (go_at_call 11; (with_reducible refine (HI.out).mono ?_); rintro e w1 ⟨A1, n1, c1, rfl, h1, h2, h3⟩; obtain rfl : n1 = 4 := h1.len; have h5 := conv_by 4 c1 (Lib.hid h1.byAt) (by decide); rw [str_777] at h5; have HB1 := Lib.hid (below_to HB0.out h2); clear h1 h2 h3)
  go_ret
  exact ⟨rfl, HB1.out⟩
end Go.Proofs.Ytplmafbdalkopaa
