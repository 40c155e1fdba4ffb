/-
  Layer files: Rename of a to a, Arm, On; what is refused while the power is off.
-/
import Derived.Test.YteolpfomhiijgaaFu
set_option linter.unusedSimpArgs false
set_option linter.unusedVariables false
namespace Go.Proofs.Yteolpfomhiijgaa
open Go.RowKit Go.WideShapes

set_option maxHeartbeats 400000 in
theorem letter_b (w : World) : Calls Try.prog 49 #[.int .u8 98] w fun e w' => e = .returned (.bool true) ∧ w = w' := by
  go_enter Try.func49, Try.ntmps49
  go_wp2
  go_ret
  exact ⟨rfl, rfl⟩
set_option maxHeartbeats 1000000 in
theorem form_b (w : World) : Calls Try.prog 32 #[.string { data := #[98] }] w fun e w' => e = .returned (.bool true) ∧ w = w' := by
  go_enter Try.func32, Try.ntmps32
  go_wp2
  refine wp_loop_rounds 2 ?_
  rw [rounds_succ]
  go_wp2_with (go_at_call 49; refine (letter_b _).mono ?_; rintro e w' ⟨rfl, rfl⟩)
  rw [rounds_succ]
  go_wp2
  go_ret
  exact ⟨rfl, rfl⟩
set_option maxHeartbeats 1000000 in
theorem refuses_aa (g h : Nat) (c : Bool) (w : World) (h0 : w.cell? ⟨h, 0, none⟩ = some (.string { data := #[97] })) (h1 : w.cell? ⟨h, 1, none⟩ = some (.string { data := #[97] })) (h2 : w.cell? ⟨g, 2, none⟩ = some (.bool c)) :
    Calls Try.prog 35 #[.pointer (some ⟨g, 0, none⟩), .slice (some ⟨h, 0, none⟩) 2 2] w fun e w' => e = .returned (.int .i64 (if c then 9 else 0)) ∧ w = w' := by
  cases c
  all_goals
    go_enter Try.func35, Try.ntmps35
    go_wp2
    refine wp_loop_rounds 3 ?_
    rw [rounds_succ]
    go_wp2_with (go_at_call 32; refine (form_a _).mono ?_; rintro e w' ⟨rfl, rfl⟩)
    rw [rounds_succ]
    go_wp2_with (go_at_call 32; refine (form_a _).mono ?_; rintro e w' ⟨rfl, rfl⟩)
    rw [rounds_succ]
    go_wp2
    go_ret
    exact ⟨rfl, rfl⟩
set_option maxHeartbeats 1000000 in
theorem refuses_ab (g h : Nat) (w : World) (h0 : w.cell? ⟨h, 0, none⟩ = some (.string { data := #[97] })) (h1 : w.cell? ⟨h, 1, none⟩ = some (.string { data := #[98] })) (h2 : w.cell? ⟨g, 2, none⟩ = some (.bool true)) :
    Calls Try.prog 35 #[.pointer (some ⟨g, 0, none⟩), .slice (some ⟨h, 0, none⟩) 2 2] w fun e w' => e = .returned (.int .i64 9) ∧ w = w' := by
  go_enter Try.func35, Try.ntmps35
  go_wp2
  refine wp_loop_rounds 3 ?_
  rw [rounds_succ]
  go_wp2_with (go_at_call 32; refine (form_a _).mono ?_; rintro e w' ⟨rfl, rfl⟩)
  rw [rounds_succ]
  go_wp2_with (go_at_call 32; refine (form_b _).mono ?_; rintro e w' ⟨rfl, rfl⟩)
  rw [rounds_succ]
  go_wp2
  go_ret
  exact ⟨rfl, rfl⟩
section
variable {W : World} {g f fcap cap : Nat} {room armed ops du : Int} {off : Bool} {r : List Value} {A : Option Addr} {l : List Nat}
set_option maxHeartbeats 2000000 in
theorem rename_bad {armed' : Int} {off' : Bool} (w : World) (hs : Hid (S1 W g room false armed ops f fcap r A cap l du w)) (ho : Hid (Op1 armed 9 armed' off')) (h : Hid (0 ≤ ops ∧ ops < 1000000000)) (ha : Hid (armed < 1000000000)) :
    Calls Try.prog 17 #[.pointer (some ⟨g, 0, none⟩), .string { data := #[97] }, .string { data := #[97] }] w fun x w' => x = .returned (.int .i64 9) ∧ S1 W g room off' armed' (ops + 1) f fcap r A cap l du w' := by
  have hb := (Below.refl w.heap.size w).alloc (Nat.le_refl _) (.cells #[.string { data := #[97] }, .string { data := #[97] }] 9)
  have h' := hs.out.next hb
  have HR := Lib.hid (refuses_aa g w.heap.size false (w.alloc (.cells #[.string { data := #[97] }, .string { data := #[97] }] 9)) (by simp [World.cell?_alloc_new]) (by simp [World.cell?_alloc_new]) h'.g2)
  have HS := Lib.hid h'
  clear hb h'
  go_enter Try.func17, Try.ntmps17
  go_wp2_with (first
    | (go_at_call 35; refine HR.out.mono ?_; rintro x w1 ⟨rfl, rfl⟩)
    | (go_at_call 43; refine (place_1 _ HS).mono ?_; rintro x w1 ⟨rfl, hb⟩; have HS1 := Lib.hid (HS.out.next hb); clear hb)
    | (go_at_call 39; refine (operate_1file _ HS1.out ho.out h.out ha.out).mono ?_; rintro x w2 ⟨rfl, h2⟩; have HS2 := Lib.hid h2; clear h2))
  go_ret
  exact ⟨rfl, HS2.out⟩
set_option maxHeartbeats 2000000 in
theorem rename_ok {armed' : Int} (w : World) (hs : Hid (S1 W g room false armed ops f fcap r A cap l du w)) (ho : Hid (Op1 armed 0 armed' false)) (h : Hid (0 ≤ ops ∧ ops < 1000000000)) (ha : Hid (armed < 1000000000)) :
    Calls Try.prog 17 #[.pointer (some ⟨g, 0, none⟩), .string { data := #[97] }, .string { data := #[97] }] w fun x w' => x = .returned (.int .i64 0) ∧ ∃ f' fcap' r', S1 W g room false armed' (ops + 1) f' fcap' r' A cap l du w' := by
  have hb := (Below.refl w.heap.size w).alloc (Nat.le_refl _) (.cells #[.string { data := #[97] }, .string { data := #[97] }] 9)
  have h' := hs.out.next hb
  have HR := Lib.hid (refuses_aa g w.heap.size false (w.alloc (.cells #[.string { data := #[97] }, .string { data := #[97] }] 9)) (by simp [World.cell?_alloc_new]) (by simp [World.cell?_alloc_new]) h'.g2)
  have HS := Lib.hid h'
  clear hb h'
  go_enter Try.func17, Try.ntmps17
  go_wp2_with (first
    | (go_at_call 35; refine HR.out.mono ?_; rintro x w1 ⟨rfl, rfl⟩)
    | (go_at_call 43; refine (place_1 _ HS).mono ?_; rintro x w1 ⟨rfl, hb⟩; have HS1 := Lib.hid (HS.out.next hb); clear hb)
    | (go_at_call 39; refine (operate_1file _ HS1.out ho.out h.out ha.out).mono ?_; rintro x w2 ⟨rfl, h2⟩; have HS2 := Lib.hid h2; clear h2)
    | (go_at_call 38; refine (ownName_any { data := #[97] } (by decide) _).mono ?_; rintro x w3 ⟨rfl, hb⟩; have HS3 := Lib.hid (HS2.out.next hb); clear hb)
    | (go_at_call 44; refine (call_aa _ HS3).mono ?_; rintro x w4 ⟨rfl, f', fcap', r', h4⟩; have HS4 := Lib.hid h4; clear h4))
  go_ret
  exact ⟨rfl, f', fcap', r', HS4.out⟩
set_option maxHeartbeats 400000 in
theorem arm_1 (k : Int) (hk : 0 ≤ k) (w : World) (hs : Hid (S1 W g room off armed ops f fcap r A cap l du w)) :
    Calls Try.prog 21 #[.pointer (some ⟨g, 0, none⟩), .int .i64 k] w fun x w' => x = .returned (.int .i64 0) ∧ S1 W g room off k ops f fcap r A cap l du w' := by
  have g3 := hs.out.g3
  have k3 := hs.out.gf 3
  go_enter Try.func21, Try.ntmps21
  go_wp2
  go_ret
  exact ⟨rfl, hs.out.putArmed k⟩
set_option maxHeartbeats 400000 in
theorem on_1 (b : Bool) (w : World) (h2 : w.cell? ⟨g, 2, none⟩ = some (.bool b)) :
    Calls Try.prog 30 #[.pointer (some ⟨g, 0, none⟩)] w fun x w' => x = .returned (.bool (!b)) ∧ w = w' := by
  cases b
  all_goals
    go_enter Try.func30, Try.ntmps30
    go_wp2
    go_ret
    exact ⟨rfl, rfl⟩
set_option maxHeartbeats 1000000 in
theorem append_off (p : Option Addr) (n c : Nat) (w : World) (h2 : w.cell? ⟨g, 2, none⟩ = some (.bool true)) :
    Calls Try.prog 13 #[.pointer (some ⟨g, 0, none⟩), .string { data := #[97] }, .slice p n c] w fun x w' => x = .returned (.int .i64 9) ∧ Below w.heap.size w w' := by
  have H := Lib.hid (ref_new 9 h2)
  clear h2
  go_enter Try.func13, Try.ntmps13
  go_wp2_with (go_at_call 35; refine H.out.mono ?_; rintro e w' ⟨rfl, rfl⟩)
  go_ret
  exact ⟨rfl, (Below.refl w.heap.size w).alloc (Nat.le_refl _) _⟩
set_option maxHeartbeats 1000000 in
theorem sync_off (w : World) (h2 : w.cell? ⟨g, 2, none⟩ = some (.bool true)) :
    Calls Try.prog 15 #[.pointer (some ⟨g, 0, none⟩), .string { data := #[97] }] w fun x w' => x = .returned (.int .i64 9) ∧ Below w.heap.size w w' := by
  have H := Lib.hid (place_off g w h2)
  clear h2
  go_enter Try.func15, Try.ntmps15
  go_wp2_with (go_at_call 43; refine H.out.mono ?_; rintro e w' ⟨rfl, hb⟩; have HB := Lib.hid hb; clear hb)
  go_ret
  exact ⟨rfl, HB.out⟩
set_option maxHeartbeats 1000000 in
theorem delete_off (w : World) (h2 : w.cell? ⟨g, 2, none⟩ = some (.bool true)) :
    Calls Try.prog 19 #[.pointer (some ⟨g, 0, none⟩), .string { data := #[97] }] w fun x w' => x = .returned (.int .i64 9) ∧ Below w.heap.size w w' := by
  have H := Lib.hid (place_off g w h2)
  clear h2
  go_enter Try.func19, Try.ntmps19
  go_wp2_with (go_at_call 43; refine H.out.mono ?_; rintro e w' ⟨rfl, hb⟩; have HB := Lib.hid hb; clear hb)
  go_ret
  exact ⟨rfl, HB.out⟩
set_option maxHeartbeats 1000000 in
theorem rename_off (w : World) (h2 : w.cell? ⟨g, 2, none⟩ = some (.bool true)) :
    Calls Try.prog 17 #[.pointer (some ⟨g, 0, none⟩), .string { data := #[97] }, .string { data := #[98] }] w fun x w' => x = .returned (.int .i64 9) ∧ Below w.heap.size w w' := by
  have hb := (Below.refl w.heap.size w).alloc (Nat.le_refl _) (.cells #[.string { data := #[97] }, .string { data := #[98] }] 9)
  have HR := Lib.hid (refuses_ab g w.heap.size (w.alloc (.cells #[.string { data := #[97] }, .string { data := #[98] }] 9)) (by simp [World.cell?_alloc_new]) (by simp [World.cell?_alloc_new]) ((hb.cell (p := ⟨g, 2, none⟩) (lt_of_cell h2)).trans h2))
  clear hb h2
  go_enter Try.func17, Try.ntmps17
  go_wp2_with (go_at_call 35; refine HR.out.mono ?_; rintro x w1 ⟨rfl, rfl⟩)
  go_ret
  exact ⟨rfl, (Below.refl w.heap.size w).alloc (Nat.le_refl _) _⟩
end
end Go.Proofs.Yteolpfomhiijgaa
