/-
  Layer column: Try: what a function reads of some bytes, all of them.
-/
import Derived.LaidEqlPtr
import Derived.Defers
import Derived.Test.YtbimfopbilcdgaaDoorCuK
set_option linter.unusedSimpArgs false
set_option linter.unusedVariables false
set_option maxRecDepth 8000
namespace Go.Proofs.YtbimfopbilcdgaaDoor
open Go.RowKit Go.WideShapes Col

theorem assert_gu (v : Value) (w : World) : (Instr.typeAssert (.iface 94 v) 20 94 true).run Tryd.prog w = .ok (.tuple #[v, .bool true]) w := by kernel_rfl
theorem infoRd : (Tryd.prog.info? 71).isSome = true := by kernel_rfl
theorem eql_ptr (g : Nat) (w : World) : (binOp BinOp.eql 50 (.pointer (some ⟨g, 0, none⟩)) (.pointer (some ⟨g, 0, none⟩))).run Tryd.prog w = .ok (.bool true) w := by
  obtain ⟨j, hj⟩ := Option.isSome_iff_exists.1 infoRd
  exact run_eql_ptr_same w _ Tryd.underlying50 hj
set_option maxHeartbeats 1000000 in
theorem threw_yes (g : Nat) (w : World) :
    Calls Tryd.prog 25 #[.pointer (some ⟨g, 0, none⟩), .iface 94 (.agg #[.pointer (some ⟨g, 0, none⟩)])] w fun e w' => e = .returned (.bool true) ∧ Below w.heap.size w w' := by
  have ha := assert_gu (.agg #[.pointer (some ⟨g, 0, none⟩)])
  have hp := eql_ptr g
  go_enter Tryd.func25, Tryd.ntmps25
  go_wp2
  go_ret
  exact ⟨rfl, (Below.refl _ _).alloc (Nat.le_refl _) _⟩

theorem try1_tmps (x : Value) : (#[x] ++ Array.replicate (Tryd.f24.ntmps - (#[x] : Array Value).size) undef) = #[x, undef, undef, undef, undef, undef, undef, undef, undef, undef, undef, undef, undef, undef, undef] := by
  rw [Tryd.ntmps24]; rfl
theorem Gone.cells {w : World} {g : Nat} (h : Gone w g) : ∃ x y z, w.cell? ⟨g, 0, none⟩ = some x ∧ w.cell? ⟨g, 1, none⟩ = some (.bool y) ∧ w.cell? ⟨g, 2, none⟩ = some (.bool z) ∧ w.frozen? ⟨g, 0, none⟩ = false ∧ w.frozen? ⟨g, 1, none⟩ = false ∧ w.frozen? ⟨g, 2, none⟩ = false := by
  obtain ⟨x, y, z, hrow⟩ := h
  exact ⟨x, y, z, by rw [cell_of_row _ _ _ _ _ _ hrow]; rfl, by rw [cell_of_row _ _ _ _ _ _ hrow]; rfl, by rw [cell_of_row _ _ _ _ _ _ hrow]; rfl, row_frozen hrow 0, row_frozen hrow 1, row_frozen hrow 2⟩
theorem kept_wipe (w : World) (g : Nat) (a b c : Value) : Kept (Only g) w (((w.setCell ⟨g, 0, none⟩ a).setCell ⟨g, 1, none⟩ b).setCell ⟨g, 2, none⟩ c) :=
  (((Kept.refl (Only g) w).setCell ⟨g, 0, none⟩ a (.inl rfl)).setCell ⟨g, 1, none⟩ b (.inl rfl)).setCell ⟨g, 2, none⟩ c (.inl rfl)
/-- The deferred closure, where the reader gave up: what was thrown is caught. -/
theorem try1_panicking (v g : Nat) (older : List PanicEntry) (w : World) (hv : w.cell? ⟨v, 0, none⟩ = some (.pointer (some ⟨g, 0, none⟩))) (hG : Hid (Gone w g)) (hvg : v ≠ g) (hlt : v < w.heap.size) :
    CallsD Tryd.prog 24 #[.pointer (some ⟨v, 0, none⟩)] (.panicking (gu g :: older)) w fun e u' w' =>
      e = .returned (.tuple #[]) ∧ u' = .panicking ({ v := .iface 94 (.agg #[.pointer (some ⟨g, 0, none⟩)]), recovered := true } :: older) ∧ Kept (Only g) w w' := by
  obtain ⟨x, y, z, c0, c1, c2, f0, f1, f2⟩ := hG.out.cells
  refine callsD_of_wpS Tryd.func24 rfl fun c₀ cs hu => ?_
  rw [try1_tmps]
  apply wpS_seq
  refine wpS_of_wp ?_
  go_wp2
  simp only [Exit.thenS]
  have hk := kept_wipe w g (.slice none 0 0) (.bool false) (.bool false)
  have hv2 := (hk.cell (p := ⟨v, 0, none⟩) hlt hvg).trans hv
  have HK := Lib.hid hk
  clear hk
  generalize ((w.setCell ⟨g, 0, none⟩ (.slice none 0 0)).setCell ⟨g, 1, none⟩ (.bool false)).setCell ⟨g, 2, none⟩ (.bool false) = w2 at *
  clear c0 c1 c2 f0 f1 f2 hv
  apply wpS_seq
  apply wpS_region
  simp [wpOpsS, go_sem, recoverD, hu, gu, Exit.thenS]
  refine wpS_of_wp ?_
  go_wp2_with (go_at_call 25; refine (threw_yes g _).mono ?_; rintro e w3 ⟨rfl, hb⟩)
  exact ⟨rfl, _, rfl, _, results_none rfl _ _ _, rfl, rfl, HK.out.trans (Kept.of_below hb)⟩
/-- Where all went well it only forgets. -/
theorem try1_returning (v g : Nat) (w : World) (hv : w.cell? ⟨v, 0, none⟩ = some (.pointer (some ⟨g, 0, none⟩))) (hG : Hid (Gone w g)) (hvg : v ≠ g) (hlt : v < w.heap.size) :
    CallsD Tryd.prog 24 #[.pointer (some ⟨v, 0, none⟩)] .returning w fun e u' w' => e = .returned (.tuple #[]) ∧ u' = .returning ∧ Kept (Only g) w w' := by
  obtain ⟨x, y, z, c0, c1, c2, f0, f1, f2⟩ := hG.out.cells
  refine callsD_of_wpS Tryd.func24 rfl fun c₀ cs hu => ?_
  rw [try1_tmps]
  apply wpS_seq
  refine wpS_of_wp ?_
  go_wp2
  simp only [Exit.thenS]
  have hk := kept_wipe w g (.slice none 0 0) (.bool false) (.bool false)
  have HK := Lib.hid hk
  clear hk
  generalize ((w.setCell ⟨g, 0, none⟩ (.slice none 0 0)).setCell ⟨g, 1, none⟩ (.bool false)).setCell ⟨g, 2, none⟩ (.bool false) = w2 at *
  clear c0 c1 c2 f0 f1 f2 hv
  apply wpS_seq
  apply wpS_region
  simp [wpOpsS, go_sem, recoverD, hu, gu, Exit.thenS]
  refine wpS_of_wp ?_
  go_wp2
  exact ⟨rfl, .returning, by rw [← hu], _, results_none rfl _ _ _, rfl, rfl, HK.out⟩
end Go.Proofs.YtbimfopbilcdgaaDoor
