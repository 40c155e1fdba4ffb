/-
  The law FilesNil: walked.
-/
import Derived.Test.YteolpfomhiijgaaFk
set_option linter.unusedSimpArgs false
set_option linter.unusedVariables false
namespace Go.Proofs.Yteolpfomhiijgaa
open Go.RowKit Go.WideShapes

set_option maxHeartbeats 2000000 in
theorem filesNil_core (s : ByteArray) (a : Option Addr) (la ca : Nat) (k : Int) (w : World) :
    Calls Try.prog 7 #[.string s, .slice a la ca, .int .i64 k] w fun e w' => e = .returned (.bool true) ∧ Below w.heap.size w w' := by
  have HB := Lib.hid (Below.refl w.heap.size w)
  go_enter Try.func7, Try.ntmps7
  go_wp2_with (first
    | (go_at_call 10; refine (awake_any _).mono ?_; rintro x w1 ⟨rfl, hb⟩; replace HB := Lib.hid (below_to HB.out hb); clear hb)
    | (go_at_call 25; refine (nil_read _ _).mono ?_; rintro x w1 ⟨rfl, hb⟩; replace HB := Lib.hid (below_to HB.out hb); clear hb)
    | (go_at_call 13; refine (nil_append _ _ _ _ _).mono ?_; rintro x w1 ⟨rfl, hb⟩; replace HB := Lib.hid (below_to HB.out hb); clear hb)
    | (go_at_call 15; refine (nil_sync _ _).mono ?_; rintro x w1 ⟨rfl, hb⟩; replace HB := Lib.hid (below_to HB.out hb); clear hb)
    | (go_at_call 19; refine (nil_delete _ _).mono ?_; rintro x w1 ⟨rfl, hb⟩; replace HB := Lib.hid (below_to HB.out hb); clear hb)
    | (go_at_call 17; refine (nil_rename _ _ _).mono ?_; rintro x w1 ⟨rfl, hb⟩; replace HB := Lib.hid (below_to HB.out hb); clear hb)
    | (go_at_call 21; refine (nil_arm _ _).mono ?_; rintro x w1 ⟨rfl, hb⟩; replace HB := Lib.hid (below_to HB.out hb); clear hb)
    | (go_at_call 23; refine (nil_restart  _).mono ?_; rintro x w1 ⟨rfl, hb⟩; replace HB := Lib.hid (below_to HB.out hb); clear hb)
    | (go_at_call 34; refine (nil_spoil _ _ _).mono ?_; rintro x w1 ⟨rfl, hb⟩; replace HB := Lib.hid (below_to HB.out hb); clear hb)
    | (go_at_call 30; refine (nil_on  _).mono ?_; rintro x w1 ⟨rfl, hb⟩; replace HB := Lib.hid (below_to HB.out hb); clear hb)
    | (go_at_call 28; refine (nil_used  _).mono ?_; rintro x w1 ⟨rfl, hb⟩; replace HB := Lib.hid (below_to HB.out hb); clear hb)
    | (go_at_call 31; refine (nil_ops  _).mono ?_; rintro x w1 ⟨rfl, hb⟩; replace HB := Lib.hid (below_to HB.out hb); clear hb)
    | (go_at_call 27; refine (nil_list  _).mono ?_; rintro x w1 ⟨rfl, hb⟩; replace HB := Lib.hid (below_to HB.out hb); clear hb))
  go_ret
  exact ⟨rfl, HB.out⟩
theorem filesNil_any (s : ByteArray) (a : Option Addr) (l : List Nat) (la ca : Nat) (_ : Hid (la = l.length)) (_ : la ≤ ca) (_ : ca ≤ maxLen) (k : Int) (w : World) (_ : Hid (ByAt w a l)) :
    Calls Try.prog 7 #[.string s, .slice a la ca, .int .i64 k] w fun e w' => e = .returned (.bool true) ∧ Below w.heap.size w w' := filesNil_core s a la ca k w
end Go.Proofs.Yteolpfomhiijgaa
