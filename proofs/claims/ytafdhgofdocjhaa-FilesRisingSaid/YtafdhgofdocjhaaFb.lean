/-
  Layer files: a store with one file: what it is in memory; the search; operate; Used.
-/
import Derived.Test.YtafdhgofdocjhaaFa
set_option linter.unusedSimpArgs false
set_option linter.unusedVariables false
namespace Go.Proofs.Ytafdhgofdocjhaa
open Go.RowKit

theorem bcell' {W w1 : World} (hb : Below W.heap.size W w1) : (∀ b o, b < W.heap.size → w1.cell? ⟨b, o, none⟩ = W.cell? ⟨b, o, none⟩) ∧ (∀ b o, b < W.heap.size → w1.frozen? ⟨b, o, none⟩ = W.frozen? ⟨b, o, none⟩) :=
  ⟨fun b o h => hb.cell (p := ⟨b, o, none⟩) h, fun b o h => hb.frozen (p := ⟨b, o, none⟩) h⟩
theorem lt_of_cell {w : World} {g o : Nat} {v : Value} (h : w.cell? ⟨g, o, none⟩ = some v) : g < w.heap.size := World.block_lt_of_cell? w _ h

set_option maxHeartbeats 1000000 in
theorem search_0 (F : Option Addr) (fc : Nat) (w : World) : Calls Try.prog 50 #[.slice F 0 fc, .string { data := #[97] }, .func (.func 51) #[] #[]] w fun e w' => e = .returned (.tuple #[.int .i64 0, .bool false]) ∧ w = w' := by
  go_enter Try.func50, Try.ntmps50
  go_wp2
  refine wp_loop_rounds 1 ?_
  rw [rounds_succ]
  go_wp2
  go_ret2
  exact ⟨rfl, rfl⟩
set_option maxHeartbeats 1000000 in
theorem search_1 (f fc : Nat) (s : Value) (d : Int) (w : World) (h0 : w.cell? ⟨f, 0, none⟩ = some (.string { data := #[97] })) (h1 : w.cell? ⟨f, 1, none⟩ = some s) (h2 : w.cell? ⟨f, 2, none⟩ = some (.int .i64 d)) :
    Calls Try.prog 50 #[.slice (some ⟨f, 0, none⟩) 1 fc, .string { data := #[97] }, .func (.func 51) #[] #[]] w fun e w' => e = .returned (.tuple #[.int .i64 0, .bool true]) ∧ Below w.heap.size w w' := by
  have HB := Below.refl w.heap.size w
  go_enter Try.func50, Try.ntmps50
  go_wp2
  refine wp_loop_rounds 2 ?_
  rw [rounds_succ]
  go_wp2_with (go_at_call 51; refine (findf_a _ _ _).mono ?_; rintro e w1 ⟨rfl, hb⟩; have HB1 := Lib.hid hb; clear hb)
  rw [rounds_succ]
  obtain ⟨hc, hf⟩ := bcell' HB1.out
  have g0 : w1.cell? ⟨f, 0, none⟩ = some (.string { data := #[97] }) := (hc f 0 (lt_of_cell h0)).trans h0
  have g1 : w1.cell? ⟨f, 1, none⟩ = some s := (hc f 1 (lt_of_cell h0)).trans h1
  have g2 : w1.cell? ⟨f, 2, none⟩ = some (.int .i64 d) := (hc f 2 (lt_of_cell h0)).trans h2
  clear hc hf
  go_wp2_with (go_at_call 51; refine (findf_a _ _ _).mono ?_; rintro e w2 ⟨rfl, hb⟩; have HB2 := Lib.hid hb; clear hb)
  go_ret2
  exact ⟨rfl, below_to HB1.out HB2.out⟩
set_option maxHeartbeats 1000000 in
theorem find_0 (g : Nat) (F : Option Addr) (fc : Nat) (w : World) (h1 : w.cell? ⟨g, 1, none⟩ = some (.slice F 0 fc)) : Calls Try.prog 36 #[.pointer (some ⟨g, 0, none⟩), .string { data := #[97] }] w fun e w' => e = .returned (.tuple #[.int .i64 0, .bool false]) ∧ w = w' := by
  go_enter Try.func36, Try.ntmps36
  go_wp2_with (go_at_call 50; refine (search_0 _ _ _).mono ?_; rintro e w' ⟨rfl, rfl⟩)
  go_ret2
  exact ⟨rfl, rfl⟩
set_option maxHeartbeats 1000000 in
theorem find_1 (g f fc : Nat) (s : Value) (d : Int) (w : World) (k1 : w.cell? ⟨g, 1, none⟩ = some (.slice (some ⟨f, 0, none⟩) 1 fc)) (h0 : w.cell? ⟨f, 0, none⟩ = some (.string { data := #[97] })) (h1 : w.cell? ⟨f, 1, none⟩ = some s) (h2 : w.cell? ⟨f, 2, none⟩ = some (.int .i64 d)) :
    Calls Try.prog 36 #[.pointer (some ⟨g, 0, none⟩), .string { data := #[97] }] w fun e w' => e = .returned (.tuple #[.int .i64 0, .bool true]) ∧ Below w.heap.size w w' := by
  have H := Lib.hid (search_1 f fc s d w h0 h1 h2)
  clear h0 h1 h2
  go_enter Try.func36, Try.ntmps36
  go_wp2_with (go_at_call 50; refine H.out.mono ?_; rintro e w' ⟨rfl, hb⟩; have HB := Lib.hid hb; clear hb)
  go_ret2
  exact ⟨rfl, HB.out⟩
/-! operate -/
set_option maxHeartbeats 1000000 in
theorem operate_0 (g : Nat) (ops : Int) (h : 0 ≤ ops ∧ ops < 1000000000) (w : World) (h3 : w.cell? ⟨g, 3, none⟩ = some (.int .i64 0)) (h4 : w.cell? ⟨g, 4, none⟩ = some (.int .i64 ops)) (k4 : w.frozen? ⟨g, 4, none⟩ = false) :
    Calls Try.prog 39 #[.pointer (some ⟨g, 0, none⟩)] w fun e w' => e = .returned (.int .i64 0) ∧ w.setCell ⟨g, 4, none⟩ (.int .i64 (ops + 1)) = w' := by
  obtain ⟨o1, o2⟩ := h
  go_enter Try.func39, Try.ntmps39
  go_wp2
  go_ret
  exact ⟨rfl, rfl⟩
set_option maxHeartbeats 1000000 in
theorem operate_n (g : Nat) (ops armed : Int) (h : 0 ≤ ops ∧ ops < 1000000000) (ha : 2 ≤ armed ∧ armed < 1000000000) (w : World) (h3 : w.cell? ⟨g, 3, none⟩ = some (.int .i64 armed)) (h4 : w.cell? ⟨g, 4, none⟩ = some (.int .i64 ops)) (k3 : w.frozen? ⟨g, 3, none⟩ = false) (k4 : w.frozen? ⟨g, 4, none⟩ = false) :
    Calls Try.prog 39 #[.pointer (some ⟨g, 0, none⟩)] w fun e w' => e = .returned (.int .i64 0) ∧ (w.setCell ⟨g, 4, none⟩ (.int .i64 (ops + 1))).setCell ⟨g, 3, none⟩ (.int .i64 (armed - 1)) = w' := by
  obtain ⟨o1, o2⟩ := h
  obtain ⟨a1, a2⟩ := ha
  have a0 : (armed == 0) = false := by simp; omega
  go_enter Try.func39, Try.ntmps39
  go_wp2
  go_ret
  exact ⟨rfl, rfl⟩
set_option maxHeartbeats 1000000 in
theorem operate_1 (g : Nat) (ops : Int) (b : Bool) (h : 0 ≤ ops ∧ ops < 1000000000) (w : World) (h2 : w.cell? ⟨g, 2, none⟩ = some (.bool b)) (h3 : w.cell? ⟨g, 3, none⟩ = some (.int .i64 1)) (h4 : w.cell? ⟨g, 4, none⟩ = some (.int .i64 ops)) (k2 : w.frozen? ⟨g, 2, none⟩ = false) (k3 : w.frozen? ⟨g, 3, none⟩ = false) (k4 : w.frozen? ⟨g, 4, none⟩ = false) :
    Calls Try.prog 39 #[.pointer (some ⟨g, 0, none⟩)] w fun e w' => e = .returned (.int .i64 9) ∧ ((w.setCell ⟨g, 4, none⟩ (.int .i64 (ops + 1))).setCell ⟨g, 3, none⟩ (.int .i64 0)).setCell ⟨g, 2, none⟩ (.bool true) = w' := by
  obtain ⟨o1, o2⟩ := h
  go_enter Try.func39, Try.ntmps39
  go_wp2
  go_ret
  exact ⟨rfl, rfl⟩
/-! Used -/
set_option maxHeartbeats 1000000 in
theorem used_0 (g : Nat) (F : Option Addr) (fc : Nat) (w : World) (h1 : w.cell? ⟨g, 1, none⟩ = some (.slice F 0 fc)) : Calls Try.prog 28 #[.pointer (some ⟨g, 0, none⟩)] w fun e w' => e = .returned (.int .i64 0) ∧ w = w' := by
  go_enter Try.func28, Try.ntmps28
  go_wp2
  refine wp_loop_rounds 1 ?_
  rw [rounds_succ]
  go_wp2
  go_ret
  exact ⟨rfl, rfl⟩
set_option maxHeartbeats 1000000 in
theorem used_1 (g f fc : Nat) (A : Option Addr) (n c : Nat) (d : Int) (hn : n ≤ 1000000000) (w : World) (k1 : w.cell? ⟨g, 1, none⟩ = some (.slice (some ⟨f, 0, none⟩) 1 fc)) (h0 : w.cell? ⟨f, 0, none⟩ = some (.string { data := #[97] })) (h1 : w.cell? ⟨f, 1, none⟩ = some (.slice A n c)) (h2 : w.cell? ⟨f, 2, none⟩ = some (.int .i64 d)) :
    Calls Try.prog 28 #[.pointer (some ⟨g, 0, none⟩)] w fun e w' => e = .returned (.int .i64 n) ∧ Below w.heap.size w w' := by
  go_enter Try.func28, Try.ntmps28
  go_wp2
  refine wp_loop_rounds 2 ?_
  rw [rounds_succ]
  go_wp2
  rw [rounds_succ]
  go_wp2
  go_ret
  exact ⟨rfl, (Below.refl w.heap.size w).alloc (Nat.le_refl _) _⟩
end Go.Proofs.Ytafdhgofdocjhaa
