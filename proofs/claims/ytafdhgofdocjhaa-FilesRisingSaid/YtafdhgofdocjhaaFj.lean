/-
  Layer files: Restart of a store with one file; awake; what is asked of a nil store.
-/
import Derived.Test.YtafdhgofdocjhaaFh
import Derived.Test.YtafdhgofdocjhaaFi
set_option linter.unusedSimpArgs false
set_option linter.unusedVariables false
namespace Go.Proofs.Ytafdhgofdocjhaa
open Go.RowKit Go.WideShapes

section
variable {W : World} {g f fcap cap : Nat} {room armed ops : Int} {off : Bool} {r : List Value} {A : Option Addr} {l : List Nat}
set_option maxHeartbeats 2000000 in
theorem restart_nil (du : Nat) (hdu : du ≤ l.length) (hl : l.length ≤ 100000000) (w : World) (hs : Hid (S1 W g room off armed ops f fcap r A cap l du w)) :
    Calls Try.prog 23 #[.pointer (some ⟨g, 0, none⟩), .slice none 0 0] w fun e w' => e = .returned (.int .i64 0) ∧ S1 W g room false 0 ops f fcap r A cap (l.take du) du w' := by
  have g2 := hs.out.g2
  have g3 := hs.out.g3
  have k2 := hs.out.gf 2
  have k3 := hs.out.gf 3
  have hst : Hid (du = stay l.length du 0) := Lib.hid (by unfold stay; rw [if_neg (by omega)]; rfl)
  have HQ := Lib.hid ((hs.out.putOff false).putArmed 0)
  go_enter Try.func23, Try.ntmps23
  go_upto_region 4 with fail
  generalize World.setCell _ _ _ = wa at *
  clear g2 g3 k2 k3 hs
  have c1 := HQ.out.g1
  go_wp2
  refine wp_loop_rounds 2 ?_
  rw [rounds_succ]
  go_wp2_with (go_at_call 47; refine (fall_1 du 0 (by decide) du hst hdu hl _ HQ).mono ?_; rintro x w1 ⟨rfl, h1⟩; have HS1 := Lib.hid h1; clear h1)
  rw [rounds_succ]
  go_wp2
  go_ret
  exact ⟨rfl, HS1.out⟩
set_option maxHeartbeats 2000000 in
theorem restart_one (du : Nat) (kept : Int) (hk : -1000000000000 ≤ kept ∧ kept ≤ 1000000000000) (k : Nat) (hst : Hid (k = stay l.length du kept)) (hdu : du ≤ l.length) (hl : l.length ≤ 100000000) (kb : Nat) (w : World) (hs : Hid (S1 W g room off armed ops f fcap r A cap l du w)) (hne : g ≠ kb) (hc : w.cell? ⟨kb, 0, none⟩ = some (.int .i64 kept)) :
    Calls Try.prog 23 #[.pointer (some ⟨g, 0, none⟩), .slice (some ⟨kb, 0, none⟩) 1 1] w fun e w' => e = .returned (.int .i64 0) ∧ S1 W g room false 0 ops f fcap r A cap (l.take k) k w' := by
  have g2 := hs.out.g2
  have g3 := hs.out.g3
  have k2 := hs.out.gf 2
  have k3 := hs.out.gf 3
  have HQ := Lib.hid ((hs.out.putOff false).putArmed 0)
  have HC : Hid (((w.setCell ⟨g, 2, none⟩ (.bool false)).setCell ⟨g, 3, none⟩ (.int .i64 0)).cell? ⟨kb, 0, none⟩ = some (.int .i64 kept)) := Lib.hid (by
    rw [World.cell?_setCell_other _ _ _ _ (fun e => hne (congrArg Addr.block e)), World.cell?_setCell_other _ _ _ _ (fun e => hne (congrArg Addr.block e))]; exact hc)
  clear hc
  go_enter Try.func23, Try.ntmps23
  go_upto_region 4 with fail
  generalize World.setCell _ _ _ = wa at *
  clear g2 g3 k2 k3 hs
  have c1 := HQ.out.g1
  have cb := HC.out
  go_wp2
  refine wp_loop_rounds 2 ?_
  rw [rounds_succ]
  go_wp2_with (go_at_call 47; refine (fall_1 du kept hk k hst hdu hl _ HQ).mono ?_; rintro x w1 ⟨rfl, h1⟩; have HS1 := Lib.hid h1; clear h1)
  rw [rounds_succ]
  go_wp2
  go_ret
  exact ⟨rfl, HS1.out⟩
end
/-! A nil store -/
set_option maxHeartbeats 400000 in
theorem nil_refuses (s : Value) (w : World) : Calls Try.prog 35 #[.pointer none, s] w fun e w' => e = .returned (.int .i64 5) ∧ w = w' := by
  go_enter Try.func35, Try.ntmps35
  go_wp2
  go_ret
  exact ⟨rfl, rfl⟩
set_option maxHeartbeats 400000 in
theorem nil_place (s : ByteArray) (w : World) : Calls Try.prog 43 #[.pointer none, .string s] w fun e w' => e = .returned (.tuple #[.int .i64 0, .int .i64 5]) ∧ Below w.heap.size w w' := by
  go_enter Try.func43, Try.ntmps43
  go_wp2_with (go_at_call 35; refine (nil_refuses _ _).mono ?_; rintro x w1 ⟨rfl, rfl⟩)
  go_ret2
  exact ⟨rfl, (Below.refl w.heap.size w).alloc (Nat.le_refl _) _⟩
set_option maxHeartbeats 1000000 in
theorem nil_read (s : ByteArray) (w : World) : Calls Try.prog 25 #[.pointer none, .string s] w fun e w' => e = .returned (.tuple #[.slice none 0 0, .int .i64 5]) ∧ Below w.heap.size w w' := by
  go_enter Try.func25, Try.ntmps25
  go_wp2_with (first | (go_at_call 35; refine (nil_refuses _ _).mono ?_; rintro x w1 ⟨rfl, rfl⟩) | (go_at_call 43; refine (nil_place _ _).mono ?_; rintro x w1 ⟨rfl, hb⟩; have HB := Lib.hid hb; clear hb))
  go_ret2
  exact ⟨rfl, HB.out⟩
set_option maxHeartbeats 1000000 in
theorem nil_append (s : ByteArray) (p : Option Addr) (n c : Nat) (w : World) : Calls Try.prog 13 #[.pointer none, .string s, .slice p n c] w fun e w' => e = .returned (.int .i64 5) ∧ Below w.heap.size w w' := by
  go_enter Try.func13, Try.ntmps13
  go_wp2_with (first | (go_at_call 35; refine (nil_refuses _ _).mono ?_; rintro x w1 ⟨rfl, rfl⟩) | (go_at_call 43; refine (nil_place _ _).mono ?_; rintro x w1 ⟨rfl, hb⟩; have HB := Lib.hid hb; clear hb))
  go_ret
  exact ⟨rfl, (Below.refl w.heap.size w).alloc (Nat.le_refl _) _⟩
set_option maxHeartbeats 1000000 in
theorem nil_sync (s : ByteArray) (w : World) : Calls Try.prog 15 #[.pointer none, .string s] w fun e w' => e = .returned (.int .i64 5) ∧ Below w.heap.size w w' := by
  go_enter Try.func15, Try.ntmps15
  go_wp2_with (first | (go_at_call 35; refine (nil_refuses _ _).mono ?_; rintro x w1 ⟨rfl, rfl⟩) | (go_at_call 43; refine (nil_place _ _).mono ?_; rintro x w1 ⟨rfl, hb⟩; have HB := Lib.hid hb; clear hb))
  go_ret
  exact ⟨rfl, HB.out⟩
set_option maxHeartbeats 1000000 in
theorem nil_delete (s : ByteArray) (w : World) : Calls Try.prog 19 #[.pointer none, .string s] w fun e w' => e = .returned (.int .i64 5) ∧ Below w.heap.size w w' := by
  go_enter Try.func19, Try.ntmps19
  go_wp2_with (first | (go_at_call 35; refine (nil_refuses _ _).mono ?_; rintro x w1 ⟨rfl, rfl⟩) | (go_at_call 43; refine (nil_place _ _).mono ?_; rintro x w1 ⟨rfl, hb⟩; have HB := Lib.hid hb; clear hb))
  go_ret
  exact ⟨rfl, HB.out⟩
set_option maxHeartbeats 1000000 in
theorem nil_rename (s t : ByteArray) (w : World) : Calls Try.prog 17 #[.pointer none, .string s, .string t] w fun e w' => e = .returned (.int .i64 5) ∧ Below w.heap.size w w' := by
  go_enter Try.func17, Try.ntmps17
  go_wp2_with (first | (go_at_call 35; refine (nil_refuses _ _).mono ?_; rintro x w1 ⟨rfl, rfl⟩) | (go_at_call 43; refine (nil_place _ _).mono ?_; rintro x w1 ⟨rfl, hb⟩; have HB := Lib.hid hb; clear hb))
  go_ret
  exact ⟨rfl, (Below.refl w.heap.size w).alloc (Nat.le_refl _) _⟩
set_option maxHeartbeats 1000000 in
theorem nil_arm (k : Int) (w : World) : Calls Try.prog 21 #[.pointer none, .int .i64 k] w fun e w' => e = .returned (.int .i64 5) ∧ Below w.heap.size w w' := by
  go_enter Try.func21, Try.ntmps21
  go_wp2_with (first | (go_at_call 35; refine (nil_refuses _ _).mono ?_; rintro x w1 ⟨rfl, rfl⟩) | (go_at_call 43; refine (nil_place _ _).mono ?_; rintro x w1 ⟨rfl, hb⟩; have HB := Lib.hid hb; clear hb))
  go_ret
  exact ⟨rfl, Below.refl _ _⟩
set_option maxHeartbeats 1000000 in
theorem nil_restart  (w : World) : Calls Try.prog 23 #[.pointer none, .slice none 0 0] w fun e w' => e = .returned (.int .i64 5) ∧ Below w.heap.size w w' := by
  go_enter Try.func23, Try.ntmps23
  go_wp2_with (first | (go_at_call 35; refine (nil_refuses _ _).mono ?_; rintro x w1 ⟨rfl, rfl⟩) | (go_at_call 43; refine (nil_place _ _).mono ?_; rintro x w1 ⟨rfl, hb⟩; have HB := Lib.hid hb; clear hb))
  go_ret
  exact ⟨rfl, Below.refl _ _⟩
set_option maxHeartbeats 1000000 in
theorem nil_spoil (s : ByteArray) (k : Int) (w : World) : Calls Try.prog 34 #[.pointer none, .string s, .int .i64 k] w fun e w' => e = .returned (.int .i64 5) ∧ Below w.heap.size w w' := by
  go_enter Try.func34, Try.ntmps34
  go_wp2_with (first | (go_at_call 35; refine (nil_refuses _ _).mono ?_; rintro x w1 ⟨rfl, rfl⟩) | (go_at_call 43; refine (nil_place _ _).mono ?_; rintro x w1 ⟨rfl, hb⟩; have HB := Lib.hid hb; clear hb))
  go_ret
  exact ⟨rfl, Below.refl _ _⟩
set_option maxHeartbeats 1000000 in
theorem nil_on  (w : World) : Calls Try.prog 30 #[.pointer none] w fun e w' => e = .returned (.bool false) ∧ Below w.heap.size w w' := by
  go_enter Try.func30, Try.ntmps30
  go_wp2_with (first | (go_at_call 35; refine (nil_refuses _ _).mono ?_; rintro x w1 ⟨rfl, rfl⟩) | (go_at_call 43; refine (nil_place _ _).mono ?_; rintro x w1 ⟨rfl, hb⟩; have HB := Lib.hid hb; clear hb))
  go_ret
  exact ⟨rfl, Below.refl _ _⟩
set_option maxHeartbeats 1000000 in
theorem nil_used  (w : World) : Calls Try.prog 28 #[.pointer none] w fun e w' => e = .returned (.int .i64 0) ∧ Below w.heap.size w w' := by
  go_enter Try.func28, Try.ntmps28
  go_wp2_with (first | (go_at_call 35; refine (nil_refuses _ _).mono ?_; rintro x w1 ⟨rfl, rfl⟩) | (go_at_call 43; refine (nil_place _ _).mono ?_; rintro x w1 ⟨rfl, hb⟩; have HB := Lib.hid hb; clear hb))
  go_ret
  exact ⟨rfl, Below.refl _ _⟩
set_option maxHeartbeats 1000000 in
theorem nil_ops  (w : World) : Calls Try.prog 31 #[.pointer none] w fun e w' => e = .returned (.int .i64 0) ∧ Below w.heap.size w w' := by
  go_enter Try.func31, Try.ntmps31
  go_wp2_with (first | (go_at_call 35; refine (nil_refuses _ _).mono ?_; rintro x w1 ⟨rfl, rfl⟩) | (go_at_call 43; refine (nil_place _ _).mono ?_; rintro x w1 ⟨rfl, hb⟩; have HB := Lib.hid hb; clear hb))
  go_ret
  exact ⟨rfl, Below.refl _ _⟩
set_option maxHeartbeats 1000000 in
theorem nil_list  (w : World) : Calls Try.prog 27 #[.pointer none] w fun e w' => e = .returned (.slice none 0 0) ∧ Below w.heap.size w w' := by
  go_enter Try.func27, Try.ntmps27
  go_wp2_with (first | (go_at_call 35; refine (nil_refuses _ _).mono ?_; rintro x w1 ⟨rfl, rfl⟩) | (go_at_call 43; refine (nil_place _ _).mono ?_; rintro x w1 ⟨rfl, hb⟩; have HB := Lib.hid hb; clear hb))
  go_ret
  exact ⟨rfl, Below.refl _ _⟩
end Go.Proofs.Ytafdhgofdocjhaa
