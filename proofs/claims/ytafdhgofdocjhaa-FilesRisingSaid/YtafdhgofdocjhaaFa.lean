/-
  Layer files: names of one letter: Form, refuses; the search among no file and one.
-/
import Derived.Test.YtafdhgofdocjhaaSc
import Derived.Test.YtafdhgofdocjhaaBy
import Derived.Outline
set_option linter.unusedSimpArgs false
set_option linter.unusedVariables false
namespace Go.Proofs.Ytafdhgofdocjhaa
open Go.RowKit

def NA : ByteArray := { data := #[97] }
theorem NA_cmp : cmpK NA NA = 0 := by kernel_rfl
set_option maxHeartbeats 400000 in
theorem letter_a (w : World) : Calls Try.prog 49 #[.int .u8 97] w fun e w' => e = .returned (.bool true) ∧ w = w' := by
  go_enter Try.func49, Try.ntmps49
  go_wp2
  go_ret
  exact ⟨rfl, rfl⟩
set_option maxHeartbeats 1000000 in
theorem form_a (w : World) : Calls Try.prog 32 #[.string { data := #[97] }] w fun e w' => e = .returned (.bool true) ∧ w = w' := by
  go_enter Try.func32, Try.ntmps32
  go_wp2
  refine wp_loop_rounds 2 ?_
  rw [rounds_succ]
  go_wp2_with (go_at_call 49; refine (letter_a _).mono ?_; rintro e w' ⟨rfl, rfl⟩)
  rw [rounds_succ]
  go_wp2
  go_ret
  exact ⟨rfl, rfl⟩
set_option maxHeartbeats 1000000 in
theorem refuses_1 (g h : Nat) (c : Bool) (w : World) (h0 : w.cell? ⟨h, 0, none⟩ = some (.string { data := #[97] })) (h2 : w.cell? ⟨g, 2, none⟩ = some (.bool c)) :
    Calls Try.prog 35 #[.pointer (some ⟨g, 0, none⟩), .slice (some ⟨h, 0, none⟩) 1 1] w fun e w' => e = .returned (.int .i64 (if c then 9 else 0)) ∧ w = w' := by
  cases c
  all_goals
    go_enter Try.func35, Try.ntmps35
    go_wp2
    refine wp_loop_rounds 2 ?_
    rw [rounds_succ]
    go_wp2_with (go_at_call 32; refine (form_a _).mono ?_; rintro e w' ⟨rfl, rfl⟩)
    rw [rounds_succ]
    go_wp2
    go_ret
    exact ⟨rfl, rfl⟩
set_option maxHeartbeats 1000000 in
theorem findf_a (l : Value) (d : Int) (w : World) : Calls Try.prog 51 #[.agg #[.string { data := #[97] }, l, .int .i64 d], .string { data := #[97] }] w fun e w' => e = .returned (.int .i64 0) ∧ Below w.heap.size w w' := by
  have H := Lib.hid fun w => strCompare_any { data := #[97] } { data := #[97] } 0 NA_cmp w
  go_enter Try.func51, Try.ntmps51
  go_wp2_with (go_at_call 52; refine (H.out _).mono ?_; rintro e w' ⟨rfl, rfl⟩)
  go_ret
  exact ⟨rfl, (Below.refl w.heap.size w).alloc (Nat.le_refl _) _⟩
end Go.Proofs.Ytafdhgofdocjhaa
