/-
  Layer event: the contract of compare.
-/
import Derived.Test.YtoeknpaogeelmaaEa
set_option linter.unusedSimpArgs false
set_option linter.unusedVariables false
namespace Go.Proofs.Ytoeknpaogeelmaa
open Go.RowKit Go.Sort

/-- Two events in two boxes. -/
structure Bx (g h : Nat) (x y : Ev) (w : World) : Prop where
  rx : w.heap[g]? = some (.cells #[.int .u64 (x.off : Int), .int .i64 x.part, .int .i64 x.time, .string x.key, .float .f64 x.val] 38 (0, 0))
  ry : w.heap[h]? = some (.cells #[.int .u64 (y.off : Int), .int .i64 y.part, .int .i64 y.time, .string y.key, .float .f64 y.val] 38 (0, 0))
theorem Bx.cx {g h : Nat} {x y : Ev} {w : World} (H : Bx g h x y w) (j : Nat) (v : Value) (hv : (#[.int .u64 (x.off : Int), .int .i64 x.part, .int .i64 x.time, .string x.key, .float .f64 x.val] : Array Value)[j]? = some v) : w.cell? ⟨g, j, none⟩ = some v := by
  rw [cell_of_row w g j _ _ _ H.rx]; exact hv
theorem Bx.cy {g h : Nat} {x y : Ev} {w : World} (H : Bx g h x y w) (j : Nat) (v : Value) (hv : (#[.int .u64 (y.off : Int), .int .i64 y.part, .int .i64 y.time, .string y.key, .float .f64 y.val] : Array Value)[j]? = some v) : w.cell? ⟨h, j, none⟩ = some v := by
  rw [cell_of_row w h j _ _ _ H.ry]; exact hv
theorem row_alloc' {w : World} {g : Nat} {o : Obj} (h : w.heap[g]? = some o) (q : Obj) : (w.alloc q).heap[g]? = some o := (Below.heap_alloc _ _ _ (Array.getElem?_eq_some_iff.1 h).1).trans h
theorem Bx.alloc {g h : Nat} {x y : Ev} {w : World} (H : Bx g h x y w) (o : Obj) : Bx g h x y (w.alloc o) := ⟨row_alloc' H.rx o, row_alloc' H.ry o⟩
theorem heap_new (w : World) (o : Obj) : (w.alloc o).heap[w.heap.size]? = some o := by show (w.heap.push o)[w.heap.size]? = _; simp
theorem Bx.start (w : World) (x y : Ev) : Bx w.heap.size (w.heap.size + 1) x y ((w.alloc (.cells #[.int .u64 (x.off : Int), .int .i64 x.part, .int .i64 x.time, .string x.key, .float .f64 x.val] 38)).alloc (.cells #[.int .u64 (y.off : Int), .int .i64 y.part, .int .i64 y.time, .string y.key, .float .f64 y.val] 38)).drew :=
  ⟨row_alloc' (by show (w.heap.push _)[w.heap.size]? = _; simp) _, by have h := heap_new (w.alloc (.cells #[.int .u64 (x.off : Int), .int .i64 x.part, .int .i64 x.time, .string x.key, .float .f64 x.val] 38)) (.cells #[.int .u64 (y.off : Int), .int .i64 y.part, .int .i64 y.time, .string y.key, .float .f64 y.val] 38); rw [show (w.alloc (.cells #[.int .u64 (x.off : Int), .int .i64 x.part, .int .i64 x.time, .string x.key, .float .f64 x.val] 38)).heap.size = w.heap.size + 1 from by simp] at h; exact h⟩
/-- Draws and new blocks, and nothing else. -/
def Grew (w w' : World) : Prop := ∃ q os, w' = grow (w.drewN q) os
theorem Grew.refl (w : World) : Grew w w := ⟨0, #[], by rw [grow_empty]; rfl⟩
theorem drewN_grow' (w : World) (os : Array Obj) (n : Nat) : (grow w os).drewN n = grow (w.drewN n) os := rfl
theorem drewN_add (w : World) (m n : Nat) : (w.drewN m).drewN n = w.drewN (m + n) := by
  unfold World.drewN; simp; omega
theorem Grew.trans {a b c : World} (h : Grew a b) (h' : Grew b c) : Grew a c := by
  obtain ⟨q, os, rfl⟩ := h
  obtain ⟨q', os', rfl⟩ := h'
  exact ⟨q + q', os ++ os', by rw [drewN_grow', drewN_add, grow_grow]⟩
theorem Grew.alloc {a b : World} (h : Grew a b) (o : Obj) : Grew a (b.alloc o) := h.trans ⟨0, #[o], by rw [alloc_eq_grow]; rfl⟩
theorem Grew.drew {a b : World} (h : Grew a b) : Grew a b.drew := h.trans ⟨1, #[], by rw [grow_empty]; rfl⟩

set_option maxHeartbeats 2000000 in
theorem compare_any (x y : Ev) (w : World) : Calls Try.prog 24 #[.agg #[.int .u64 (x.off : Int), .int .i64 x.part, .int .i64 x.time, .string x.key, .float .f64 x.val], .agg #[.int .u64 (y.off : Int), .int .i64 y.part, .int .i64 y.time, .string y.key, .float .f64 y.val]] w fun e w' => e = .returned (.int .i64 (evCmp x y)) ∧ Grew w w' := by
  have h1 := fun w => strCompare_any x.key y.key w
  have h2 := fun w => cmpInt_any x.time y.time w
  have h3 := fun w => cmpUint_any x.off y.off w
  have hr : or3 (cmpK x.key y.key) (cmpI x.time y.time) (cmpI (x.off : Int) (y.off : Int)) = evCmp x y := rfl
  generalize evCmp x y = r at *
  generalize cmpK x.key y.key = c1 at *
  generalize cmpI x.time y.time = c2 at *
  generalize cmpI (x.off : Int) (y.off : Int) = c3 at *
  have HR := Lib.hid hr
  have H1 := Lib.hid h1
  have H2 := Lib.hid h2
  have H3 := Lib.hid h3
  clear h1 h2 h3 hr
  have HS := Lib.hid (Bx.start w x y)
  have HW : Hid (∀ o, Grew w (((w.alloc (.cells #[.int .u64 (x.off : Int), .int .i64 x.part, .int .i64 x.time, .string x.key, .float .f64 x.val] 38)).alloc (.cells #[.int .u64 (y.off : Int), .int .i64 y.part, .int .i64 y.time, .string y.key, .float .f64 y.val] 38)).drew.alloc o)) := Lib.hid fun o => (((Grew.refl w).alloc _).alloc _).drew.alloc o
  go_enter Try.func24, Try.ntmps24
  go_wp2
  have hS := HS.out
  clear HS
  generalize World.alloc (World.alloc w _) _ = wz at *
  generalize w.heap.size + 1 = h at *
  generalize w.heap.size = g at *
  refine wp_region_held_drew (S := Bx g h x y) (by kernel_rfl) hS (fun hHeld => ?_)
  refine wpAnyH_take (i := 0) (v := .pointer (some ⟨g, 3, none⟩)) rfl (by kernel_rfl) (by kernel_rfl) (by kernel_rfl) (fun _ _ _ h => h) (Or.inl ⟨by rfl, fun w _ => by go_simp⟩) hHeld ?_
  try dsimp only
  try simp only [Act.put, List.setIfInBounds_toArray, List.set_cons_zero, List.set_cons_succ]
  refine wpAnyH_take (i := 1) (v := .string x.key) rfl (by kernel_rfl) (by kernel_rfl) (by kernel_rfl) (fun _ _ _ h => h) (Or.inl ⟨by rfl, fun w hw => by have hc : w.cell? ⟨g, 3, none⟩ = some (.string x.key) := hw.cx 3 _ rfl; go_simp⟩) hHeld ?_
  try dsimp only
  try simp only [Act.put, List.setIfInBounds_toArray, List.set_cons_zero, List.set_cons_succ]
  refine wpAnyH_take (i := 2) (v := .pointer (some ⟨h, 3, none⟩)) rfl (by kernel_rfl) (by kernel_rfl) (by kernel_rfl) (fun _ _ _ h => h) (Or.inl ⟨by rfl, fun w _ => by go_simp⟩) hHeld ?_
  try dsimp only
  try simp only [Act.put, List.setIfInBounds_toArray, List.set_cons_zero, List.set_cons_succ]
  refine wpAnyH_take (i := 3) (v := .string y.key) rfl (by kernel_rfl) (by kernel_rfl) (by kernel_rfl) (fun _ _ _ h => h) (Or.inl ⟨by rfl, fun w hw => by have hc : w.cell? ⟨h, 3, none⟩ = some (.string y.key) := hw.cy 3 _ rfl; go_simp⟩) hHeld ?_
  try dsimp only
  try simp only [Act.put, List.setIfInBounds_toArray, List.set_cons_zero, List.set_cons_succ]
  refine wpAnyH_take (i := 5) (v := .pointer (some ⟨g, 2, none⟩)) rfl (by kernel_rfl) (by kernel_rfl) (by kernel_rfl) (fun _ _ _ h => h) (Or.inl ⟨by rfl, fun w _ => by go_simp⟩) hHeld ?_
  try dsimp only
  try simp only [Act.put, List.setIfInBounds_toArray, List.set_cons_zero, List.set_cons_succ]
  refine wpAnyH_take (i := 6) (v := .int .i64 x.time) rfl (by kernel_rfl) (by kernel_rfl) (by kernel_rfl) (fun _ _ _ h => h) (Or.inl ⟨by rfl, fun w hw => by have hc : w.cell? ⟨g, 2, none⟩ = some (.int .i64 x.time) := hw.cx 2 _ rfl; go_simp⟩) hHeld ?_
  try dsimp only
  try simp only [Act.put, List.setIfInBounds_toArray, List.set_cons_zero, List.set_cons_succ]
  refine wpAnyH_take (i := 7) (v := .pointer (some ⟨h, 2, none⟩)) rfl (by kernel_rfl) (by kernel_rfl) (by kernel_rfl) (fun _ _ _ h => h) (Or.inl ⟨by rfl, fun w _ => by go_simp⟩) hHeld ?_
  try dsimp only
  try simp only [Act.put, List.setIfInBounds_toArray, List.set_cons_zero, List.set_cons_succ]
  refine wpAnyH_take (i := 8) (v := .int .i64 y.time) rfl (by kernel_rfl) (by kernel_rfl) (by kernel_rfl) (fun _ _ _ h => h) (Or.inl ⟨by rfl, fun w hw => by have hc : w.cell? ⟨h, 2, none⟩ = some (.int .i64 y.time) := hw.cy 2 _ rfl; go_simp⟩) hHeld ?_
  try dsimp only
  try simp only [Act.put, List.setIfInBounds_toArray, List.set_cons_zero, List.set_cons_succ]
  refine wpAnyH_take (i := 10) (v := .pointer (some ⟨g, 0, none⟩)) rfl (by kernel_rfl) (by kernel_rfl) (by kernel_rfl) (fun _ _ _ h => h) (Or.inl ⟨by rfl, fun w _ => by go_simp⟩) hHeld ?_
  try dsimp only
  try simp only [Act.put, List.setIfInBounds_toArray, List.set_cons_zero, List.set_cons_succ]
  refine wpAnyH_take (i := 11) (v := .int .u64 (x.off : Int)) rfl (by kernel_rfl) (by kernel_rfl) (by kernel_rfl) (fun _ _ _ h => h) (Or.inl ⟨by rfl, fun w hw => by have hc : w.cell? ⟨g, 0, none⟩ = some (.int .u64 (x.off : Int)) := hw.cx 0 _ rfl; go_simp⟩) hHeld ?_
  try dsimp only
  try simp only [Act.put, List.setIfInBounds_toArray, List.set_cons_zero, List.set_cons_succ]
  refine wpAnyH_take (i := 12) (v := .pointer (some ⟨h, 0, none⟩)) rfl (by kernel_rfl) (by kernel_rfl) (by kernel_rfl) (fun _ _ _ h => h) (Or.inl ⟨by rfl, fun w _ => by go_simp⟩) hHeld ?_
  try dsimp only
  try simp only [Act.put, List.setIfInBounds_toArray, List.set_cons_zero, List.set_cons_succ]
  refine wpAnyH_take (i := 13) (v := .int .u64 (y.off : Int)) rfl (by kernel_rfl) (by kernel_rfl) (by kernel_rfl) (fun _ _ _ h => h) (Or.inl ⟨by rfl, fun w hw => by have hc : w.cell? ⟨h, 0, none⟩ = some (.int .u64 (y.off : Int)) := hw.cy 0 _ rfl; go_simp⟩) hHeld ?_
  try dsimp only
  try simp only [Act.put, List.setIfInBounds_toArray, List.set_cons_zero, List.set_cons_succ]
  refine wpAnyH_ready (rs := [4]) (by kernel_rfl) (by simp) (AllReadyH.cons rfl (fun K hK => ?_) AllReadyH.nil)
  go_simp
  refine (H1.out _).mono ?_
  rintro e w' ⟨rfl, rfl⟩
  refine hK.out _ _ hHeld (fun hHeld => ?_)
  clear hK K
  try dsimp only
  try simp only [Act.put, List.setIfInBounds_toArray, List.set_cons_zero, List.set_cons_succ]
  refine wpAnyH_ready (rs := [9]) (by kernel_rfl) (by simp) (AllReadyH.cons rfl (fun K hK => ?_) AllReadyH.nil)
  go_simp
  refine (H2.out _).mono ?_
  rintro e w' ⟨rfl, rfl⟩
  refine hK.out _ _ hHeld (fun hHeld => ?_)
  clear hK K
  try dsimp only
  try simp only [Act.put, List.setIfInBounds_toArray, List.set_cons_zero, List.set_cons_succ]
  refine wpAnyH_ready (rs := [14]) (by kernel_rfl) (by simp) (AllReadyH.cons rfl (fun K hK => ?_) AllReadyH.nil)
  go_simp
  refine (H3.out _).mono ?_
  rintro e w' ⟨rfl, rfl⟩
  refine hK.out _ _ hHeld (fun hHeld => ?_)
  clear hK K
  try dsimp only
  try simp only [Act.put, List.setIfInBounds_toArray, List.set_cons_zero, List.set_cons_succ]
  refine wpAnyH_ready (rs := [15]) (by kernel_rfl) (by simp) (AllReadyH.cons rfl (fun K hK => ?_) AllReadyH.nil)
  go_simp
  refine hK.out _ _ (hHeld.alloc _) (fun hHeld => ?_)
  clear hK K
  try dsimp only
  try simp only [Act.put, List.setIfInBounds_toArray, List.set_cons_zero, List.set_cons_succ]
  refine wpAnyH_ready (rs := [16]) (by kernel_rfl) (by simp) (AllReadyH.cons rfl (fun K hK => ?_) AllReadyH.nil)
  go_simp
  refine (or_any _ c1 c2 c3 r HR.out _ (by simp [World.cell?_alloc_new]) (by simp [World.cell?_alloc_new]) (by simp [World.cell?_alloc_new])).mono ?_
  rintro e w' ⟨rfl, rfl⟩
  refine hK.out _ _ hHeld (fun hHeld => ?_)
  clear hK K
  try dsimp only
  try simp only [Act.put, List.setIfInBounds_toArray, List.set_cons_zero, List.set_cons_succ]
  refine wpAnyH_ready (rs := [17]) (by kernel_rfl) (by simp) (AllReadyH.cons rfl (fun K hK => ?_) AllReadyH.nil)
  go_simp
  refine hK.out _ _ hHeld (fun hHeld => ?_)
  clear hK K
  refine wpAnyH_done (by kernel_rfl) ?_ _
  go_wp2
  go_ret
  exact ⟨rfl, HW.out _⟩
end Go.Proofs.Ytoeknpaogeelmaa
