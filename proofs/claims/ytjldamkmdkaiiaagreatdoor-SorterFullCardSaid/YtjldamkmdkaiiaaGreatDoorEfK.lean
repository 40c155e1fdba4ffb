/-
  Layer event: the contracts of Less, Before, Form, Same.
-/
import Derived.Test.YtjldamkmdkaiiaaGreatDoorEaK
import Derived.Shelf.SlSortCmp.InsertionK
import Derived.Shelf.SlicesE.Clone
import Derived.Lib.OwnBridge
import Derived.Deep.DeepCutAuto
import Derived.Test.YtjldamkmdkaiiaaGreatDoorTkK
set_option linter.unusedSimpArgs false
set_option linter.unusedVariables false
namespace Go.Proofs.YtjldamkmdkaiiaaGreatDoor
open Go.RowKit Go.Sort
structure Bx (g h : Nat) (x y : Ev) (w : World) : Prop where
 rx : w.heap[g]? = some (.cells #[.int .u64 (x.off : Int), .int .i64 x.part, .int .i64 x.time, .string x.key, .float .f64 x.val] 51 (0, 0))
 ry : w.heap[h]? = some (.cells #[.int .u64 (y.off : Int), .int .i64 y.part, .int .i64 y.time, .string y.key, .float .f64 y.val] 51 (0, 0))
theorem Bx.cx {g h : Nat} {x y : Ev} {w : World} (H : Bx g h x y w) (j : Nat) (v : Value) (hv : (#[.int .u64 (x.off : Int), .int .i64 x.part, .int .i64 x.time, .string x.key, .float .f64 x.val] : Array Value)[j]? = some v) : w.cell? ⟨g, j, none⟩ = some v := by
 rw [cell_of_row w g j _ _ _ H.rx]; exact hv
theorem Bx.cy {g h : Nat} {x y : Ev} {w : World} (H : Bx g h x y w) (j : Nat) (v : Value) (hv : (#[.int .u64 (y.off : Int), .int .i64 y.part, .int .i64 y.time, .string y.key, .float .f64 y.val] : Array Value)[j]? = some v) : w.cell? ⟨h, j, none⟩ = some v := by
 rw [cell_of_row w h j _ _ _ H.ry]; exact hv
theorem row_alloc' {w : World} {g : Nat} {o : Obj} (h : w.heap[g]? = some o) (q : Obj) : (w.alloc q).heap[g]? = some o := (Below.heap_alloc _ _ _ (Array.getElem?_eq_some_iff.1 h).1).trans h
theorem Bx.alloc {g h : Nat} {x y : Ev} {w : World} (H : Bx g h x y w) (o : Obj) : Bx g h x y (w.alloc o) := ⟨row_alloc' H.rx o, row_alloc' H.ry o⟩
theorem heap_new (w : World) (o : Obj) : (w.alloc o).heap[w.heap.size]? = some o := by show (w.heap.push o)[w.heap.size]? = _; simp
theorem Bx.start (w : World) (x y : Ev) : Bx w.heap.size (w.heap.size + 1) x y ((w.alloc (.cells #[.int .u64 (x.off : Int), .int .i64 x.part, .int .i64 x.time, .string x.key, .float .f64 x.val] 51)).alloc (.cells #[.int .u64 (y.off : Int), .int .i64 y.part, .int .i64 y.time, .string y.key, .float .f64 y.val] 51)).drew :=
 ⟨row_alloc' (by show (w.heap.push _)[w.heap.size]? = _; simp) _, by have h := heap_new (w.alloc (.cells #[.int .u64 (x.off : Int), .int .i64 x.part, .int .i64 x.time, .string x.key, .float .f64 x.val] 51)) (.cells #[.int .u64 (y.off : Int), .int .i64 y.part, .int .i64 y.time, .string y.key, .float .f64 y.val] 51); rw [show (w.alloc (.cells #[.int .u64 (x.off : Int), .int .i64 x.part, .int .i64 x.time, .string x.key, .float .f64 x.val] 51)).heap.size = w.heap.size + 1 from by simp] at h; exact h⟩
def Grew (w w' : World) : Prop := ∃ q os, w' = grow (w.drewN q) os
theorem Grew.refl (w : World) : Grew w w := ⟨0, #[], by rw [grow_empty]; rfl⟩
theorem drewN_grow' (w : World) (os : Array Obj) (n : Nat) : (grow w os).drewN n = grow (w.drewN n) os := rfl
theorem drewN_add (w : World) (m n : Nat) : (w.drewN m).drewN n = w.drewN (m + n) := by
 unfold World.drewN; simp; omega
theorem Grew.trans {a b c : World} (h : Grew a b) (h' : Grew b c) : Grew a c := by
 obtain ⟨q, os, rfl⟩ := h
 obtain ⟨q', os', rfl⟩ := h'
 exact ⟨q + q', os ++ os', by rw [drewN_grow', drewN_add, grow_grow]⟩
theorem Grew.alloc {a b : World} (h : Grew a b) (o : Obj) : Grew a (b.alloc o) := h.trans ⟨0, #[o], by rw [alloc_eq_grow]; rfl⟩
theorem Grew.drew {a b : World} (h : Grew a b) : Grew a b.drew := h.trans ⟨1, #[], by rw [grow_empty]; rfl⟩
set_option maxHeartbeats 2000000 in
theorem compare_any (x y : Ev) (w : World) : Calls Tryz.prog 71 #[.agg #[.int .u64 (x.off : Int), .int .i64 x.part, .int .i64 x.time, .string x.key, .float .f64 x.val], .agg #[.int .u64 (y.off : Int), .int .i64 y.part, .int .i64 y.time, .string y.key, .float .f64 y.val]] w fun e w' => e = .returned (.int .i64 (evCmp x y)) ∧ Grew w w' := by
 have h1 := fun w => strCompare_any x.key y.key w
 have h2 := fun w => cmpInt_any x.time y.time w
 have h3 := fun w => cmpUint_any x.off y.off w
 have hr : or3 (cmpK x.key y.key) (cmpI x.time y.time) (cmpI (x.off : Int) (y.off : Int)) = evCmp x y := rfl
 generalize evCmp x y = r at *
 generalize cmpK x.key y.key = c1 at *
 generalize cmpI x.time y.time = c2 at *
 generalize cmpI (x.off : Int) (y.off : Int) = c3 at *
 have HR := Lib.hid hr
 have H1 := Lib.hid h1
 have H2 := Lib.hid h2
 have H3 := Lib.hid h3
 clear h1 h2 h3 hr
 have HS := Lib.hid (Bx.start w x y)
 have HW : Hid (∀ o, Grew w (((w.alloc (.cells #[.int .u64 (x.off : Int), .int .i64 x.part, .int .i64 x.time, .string x.key, .float .f64 x.val] 51)).alloc (.cells #[.int .u64 (y.off : Int), .int .i64 y.part, .int .i64 y.time, .string y.key, .float .f64 y.val] 51)).drew.alloc o)) := Lib.hid fun o => (((Grew.refl w).alloc _).alloc _).drew.alloc o
 go_enter Tryz.func71, Tryz.ntmps71
 go_wp2
 have hS := HS.out
 clear HS
 generalize World.alloc (World.alloc w _) _ = wz at *
 generalize w.heap.size + 1 = h at *
 generalize w.heap.size = g at *
 refine wp_region_held_drew (S := Bx g h x y) (by kernel_rfl) hS (fun hHeld => ?_)
 refine tks 0 (.pointer (some ⟨g, 3, none⟩)) rfl hHeld ?_
 try dsimp only
 try simp only [Act.put, List.setIfInBounds_toArray, List.set_cons_zero, List.set_cons_succ]
 refine tk 1 (.string x.key) rfl (Or.inl ⟨by rfl, fun w hw => by have hc : w.cell? ⟨g, 3, none⟩ = some (.string x.key) := hw.cx 3 _ rfl; go_simp⟩) hHeld ?_
 try dsimp only
 try simp only [Act.put, List.setIfInBounds_toArray, List.set_cons_zero, List.set_cons_succ]
 refine tks 2 (.pointer (some ⟨h, 3, none⟩)) rfl hHeld ?_
 try dsimp only
 try simp only [Act.put, List.setIfInBounds_toArray, List.set_cons_zero, List.set_cons_succ]
 refine tk 3 (.string y.key) rfl (Or.inl ⟨by rfl, fun w hw => by have hc : w.cell? ⟨h, 3, none⟩ = some (.string y.key) := hw.cy 3 _ rfl; go_simp⟩) hHeld ?_
 try dsimp only
 try simp only [Act.put, List.setIfInBounds_toArray, List.set_cons_zero, List.set_cons_succ]
 refine tks 5 (.pointer (some ⟨g, 2, none⟩)) rfl hHeld ?_
 try dsimp only
 try simp only [Act.put, List.setIfInBounds_toArray, List.set_cons_zero, List.set_cons_succ]
 refine tk 6 (.int .i64 x.time) rfl (Or.inl ⟨by rfl, fun w hw => by have hc : w.cell? ⟨g, 2, none⟩ = some (.int .i64 x.time) := hw.cx 2 _ rfl; go_simp⟩) hHeld ?_
 try dsimp only
 try simp only [Act.put, List.setIfInBounds_toArray, List.set_cons_zero, List.set_cons_succ]
 refine tks 7 (.pointer (some ⟨h, 2, none⟩)) rfl hHeld ?_
 try dsimp only
 try simp only [Act.put, List.setIfInBounds_toArray, List.set_cons_zero, List.set_cons_succ]
 refine tk 8 (.int .i64 y.time) rfl (Or.inl ⟨by rfl, fun w hw => by have hc : w.cell? ⟨h, 2, none⟩ = some (.int .i64 y.time) := hw.cy 2 _ rfl; go_simp⟩) hHeld ?_
 try dsimp only
 try simp only [Act.put, List.setIfInBounds_toArray, List.set_cons_zero, List.set_cons_succ]
 refine tks 10 (.pointer (some ⟨g, 0, none⟩)) rfl hHeld ?_
 try dsimp only
 try simp only [Act.put, List.setIfInBounds_toArray, List.set_cons_zero, List.set_cons_succ]
 refine tk 11 (.int .u64 (x.off : Int)) rfl (Or.inl ⟨by rfl, fun w hw => by have hc : w.cell? ⟨g, 0, none⟩ = some (.int .u64 (x.off : Int)) := hw.cx 0 _ rfl; go_simp⟩) hHeld ?_
 try dsimp only
 try simp only [Act.put, List.setIfInBounds_toArray, List.set_cons_zero, List.set_cons_succ]
 refine tks 12 (.pointer (some ⟨h, 0, none⟩)) rfl hHeld ?_
 try dsimp only
 try simp only [Act.put, List.setIfInBounds_toArray, List.set_cons_zero, List.set_cons_succ]
 refine tk 13 (.int .u64 (y.off : Int)) rfl (Or.inl ⟨by rfl, fun w hw => by have hc : w.cell? ⟨h, 0, none⟩ = some (.int .u64 (y.off : Int)) := hw.cy 0 _ rfl; go_simp⟩) hHeld ?_
 try dsimp only
 try simp only [Act.put, List.setIfInBounds_toArray, List.set_cons_zero, List.set_cons_succ]
 refine rd1 4 rfl (fun K hK => ?_)
 go_simp
 refine (H1.out _).mono ?_
 rintro e w' ⟨rfl, rfl⟩
 refine hK.out _ _ hHeld (fun hHeld => ?_)
 clear hK K
 try dsimp only
 try simp only [Act.put, List.setIfInBounds_toArray, List.set_cons_zero, List.set_cons_succ]
 refine rd1 9 rfl (fun K hK => ?_)
 go_simp
 refine (H2.out _).mono ?_
 rintro e w' ⟨rfl, rfl⟩
 refine hK.out _ _ hHeld (fun hHeld => ?_)
 clear hK K
 try dsimp only
 try simp only [Act.put, List.setIfInBounds_toArray, List.set_cons_zero, List.set_cons_succ]
 refine rd1 14 rfl (fun K hK => ?_)
 go_simp
 refine (H3.out _).mono ?_
 rintro e w' ⟨rfl, rfl⟩
 refine hK.out _ _ hHeld (fun hHeld => ?_)
 clear hK K
 try dsimp only
 try simp only [Act.put, List.setIfInBounds_toArray, List.set_cons_zero, List.set_cons_succ]
 refine rd1 15 rfl (fun K hK => ?_)
 go_simp
 refine hK.out _ _ (hHeld.alloc _) (fun hHeld => ?_)
 clear hK K
 try dsimp only
 try simp only [Act.put, List.setIfInBounds_toArray, List.set_cons_zero, List.set_cons_succ]
 refine rd1 16 rfl (fun K hK => ?_)
 go_simp
 refine (or_any _ c1 c2 c3 r HR.out _ (by simp [World.cell?_alloc_new]) (by simp [World.cell?_alloc_new]) (by simp [World.cell?_alloc_new])).mono ?_
 rintro e w' ⟨rfl, rfl⟩
 refine hK.out _ _ hHeld (fun hHeld => ?_)
 clear hK K
 try dsimp only
 try simp only [Act.put, List.setIfInBounds_toArray, List.set_cons_zero, List.set_cons_succ]
 refine rd1 17 rfl (fun K hK => ?_)
 go_simp
 refine hK.out _ _ hHeld (fun hHeld => ?_)
 clear hK K
 refine wpAnyH_done (by kernel_rfl) ?_ _
 go_wp2
 go_ret
 exact ⟨rfl, HW.out _⟩
def insLays_ren : Go.Shelf.Ren := ⟨fun | 20 => 104 | n => n, fun | 24 => 51 | 22 => 22 | 3 => 3 | 25 => 112 | 4 => 4 | 0 => 0 | n => n, fun n => n⟩
theorem insLays : Go.Proofs.SlLaysF0.n20 Tryz.prog insLays_ren := {
 mixed := by kernel_rfl
 f20 := ⟨Tryz.f104.name, by decide, Tryz.func104.trans (congrArg some (by kernel_rfl))⟩
 t0 := Tryz.underlying0
 a0 := Tryz.isAgg0
 z0 := Tryz.sizeOf0
 v0 := Tryz.zeroValue0
 t3 := Tryz.underlying3
 a3 := Tryz.isAgg3
 z3 := Tryz.sizeOf3
 v3 := Tryz.zeroValue3
 t4 := Tryz.underlying4
 a4 := Tryz.isAgg4
 z4 := Tryz.sizeOf4
 v4 := Tryz.zeroValue4
 t22 := Tryz.underlying22
 a22 := Tryz.isAgg22
 z22 := Tryz.sizeOf22
 v22 := Tryz.zeroValue22
 t25 := Tryz.underlying112
 a25 := Tryz.isAgg112
 z25 := Tryz.sizeOf112
 v25 := Tryz.zeroValue112 }
def cloLays_ren : Go.Shelf.Ren := ⟨fun | 41 => 69 | n => n, fun | 22 => 22 | 23 => 51 | 4 => 4 | n => n, fun n => n⟩
theorem cloLays : Go.Proofs.SlLaysE0.n41 Tryz.prog cloLays_ren := {
 mixed := by kernel_rfl
 f41 := ⟨Tryz.f69.name, by decide, Tryz.func69.trans (congrArg some (by kernel_rfl))⟩
 t4 := Tryz.underlying4
 a4 := Tryz.isAgg4
 z4 := Tryz.sizeOf4
 v4 := Tryz.zeroValue4
 t22 := Tryz.underlying22
 a22 := Tryz.isAgg22
 z22 := Tryz.sizeOf22
 v22 := Tryz.zeroValue22 }
theorem cells_len (x : Ev) : x.cells.length = 5 := rfl
theorem cells_one (x : Ev) : ∀ v ∈ x.cells, v.oneCell' = true := fun v hv => by
 simp only [Ev.cells, List.mem_cons, List.not_mem_nil, or_false] at hv
 rcases hv with rfl | rfl | rfl | rfl | rfl <;> rfl
def evs (l : List Ev) : List Value := l.flatMap Ev.cells
theorem evs_length (l : List Ev) : (evs l).length = l.length * 5 := by
 induction l with
 | nil => rfl
 | cons x r ih => unfold evs at *; rw [List.flatMap_cons, List.length_append, ih, cells_len, List.length_cons]; omega
theorem evs_one (l : List Ev) : ∀ v ∈ evs l, v.oneCell' = true := fun v hv => by
 obtain ⟨x, -, hx⟩ := List.mem_flatMap.1 hv
 exact cells_one x v hx
theorem evs_get (l : List Ev) (k j : Nat) (hj : j < 5) : (evs l)[k * 5 + j]? = (l[k]?).bind fun x => x.cells[j]? := by
 induction l generalizing k with
 | nil => simp [evs]
 | cons x r ih =>
  unfold evs at *
  rw [List.flatMap_cons]
  rcases k with _ | k
  ·rw [List.getElem?_append_left (by rw [cells_len]; omega)]; simp
  ·rw [List.getElem?_append_right (by rw [cells_len]; omega), cells_len, show (k + 1) * 5 + j - 5 = k * 5 + j by omega, ih]; simp
def EvAt (w : World) (a : Option Addr) (l : List Ev) : Prop := ∀ (j : Nat) (v : Value), (evs l)[j]? = some v → ∃ g off, a = some ⟨g, off, none⟩ ∧ g < w.heap.size ∧ w.cell? ⟨g, off + j, none⟩ = some v
theorem EvAt.keep {w w' : World} {a : Option Addr} {l : List Ev} (h : EvAt w a l) (hb : Below w.heap.size w w') : EvAt w' a l := fun j v hv => by
 obtain ⟨g, off, h2, h3, h4⟩ := h j v hv
 exact ⟨g, off, h2, Nat.lt_of_lt_of_le h3 hb.size, (hb.cell (p := ⟨g, off + j, none⟩) h3).trans h4⟩
theorem infoEv : (Tryz.prog.info? 51).map (fun i => (i.zero, i.size, i.bytes)) = some (some (.agg #[.int .u64 0, .int .i64 0, .int .i64 0, .string ByteArray.empty, .float .f64 0]), 5, 48) := by kernel_rfl
def OwnE (w : World) (B : Nat) (A : Option Addr) (n cap : Nat) (l : List Ev) : Prop := w.ownsRow B 51 5 (.slice A n cap) n (evs l)
theorem clone_some (g off n c : Nat) (l : List Ev) (hn : n = l.length) (hb : n ≤ 1000) (w : World) (H : Hid (EvAt w (some ⟨g, off, none⟩) l)) :
  Calls Tryz.prog 69 #[.slice (some ⟨g, off, none⟩) n c] w fun e w' => ∃ v', e = .returned v' ∧ w'.ownsRow w.heap.size 51 5 v' n (evs l) ∧ v' ≠ .slice none 0 0 ∧ Below w.heap.size w w' := by
 obtain ⟨i0, hi, hz0, hz1, hz2⟩ := info_parts infoEv
 have h := AnyE.slices_Clone cloLays i0 _ 5 48 hi hz0 hz1 hz2 rfl (by decide) Tryz.sizeOf51 g off n c (evs l) w (by rw [evs_length, hn]) (by unfold maxLen; omega) (by omega) (fun j u hu => by
  obtain ⟨g', off', e, -, hc⟩ := H.out j u hu
  cases e
  exact hc) (evs_one l)
 change Calls Tryz.prog 69 _ _ _ at h
 exact h
theorem flatK_evs (l : List Ev) : (flatK Ev.cells 5 l.toArray).toList = evs l := by
 apply List.ext_getElem?
 intro t
 by_cases ht : t < l.length * 5
 ·have h1 := get_flatK Ev.cells 5 l.toArray t (by simpa using ht)
  have h2 := evs_get l (t / 5) (t % 5) (by omega)
  rw [show t / 5 * 5 + t % 5 = t by omega] at h2
  rw [h2]
  have h3 : t / 5 < l.length := by omega
  rw [List.getElem?_eq_getElem h3]
  rw [getElem!_pos _ t (by simpa using ht)] at h1
  rw [Array.getElem?_toList, Array.getElem?_eq_getElem (by simpa using ht), h1]
  simp only [Option.bind_some]
  rw [show l.toArray[t / 5]! = l[t / 5] from by simp [getElem!_pos, h3]]
  rw [getElem!_pos _ (t % 5) (by rw [cells_len]; omega), List.getElem?_eq_getElem (by rw [cells_len]; omega)]
 ·rw [List.getElem?_eq_none (by simp; omega), List.getElem?_eq_none (by rw [evs_length]; omega)]
theorem holds_own {w : World} {B n : Nat} {v : Value} {l : List Ev} (h : w.ownsRow B 51 5 v n (evs l)) (hv : v ≠ .slice none 0 0) :
  ∃ g cap, v = .slice (some ⟨g, 0, none⟩) n cap ∧ B ≤ g ∧ g < w.heap.size ∧ n = l.length ∧ HoldsK Ev.cells 5 w g 0 l.toArray := by
 have hl : n = l.length := by have := h.1; rw [evs_length] at this; omega
 rcases h.2 with ⟨e0, _⟩ | ⟨g, cap, cur, rfl, hb, hg, hn, hm, hs, ht⟩
 ·exact absurd e0 hv
 ·refine ⟨g, cap, rfl, hb, (Array.getElem?_eq_some_iff.1 hg).1, hl, fun j hj => ?_⟩
  have hj' : j < l.length * 5 := by simpa using hj
  refine ⟨?_, by simp [World.frozen?, hg]⟩
  rw [cell_of_row w g (0 + j) cur 51 (0, 0) hg, Nat.zero_add, ← Array.getElem?_toList]
  have e1 : (cur.toList.take (n * 5))[j]? = (evs l)[j]? := by rw [ht]
  rw [List.getElem?_take, if_pos (by omega)] at e1
  rw [e1, ← flatK_evs, Array.getElem?_toList, getElem!_pos _ j hj, Array.getElem?_eq_getElem hj]; rfl
theorem own_put {w : World} {B n g cap q : Nat} {l m : List Ev} (h : w.ownsRow B 51 5 (.slice (some ⟨g, 0, none⟩) n cap) n (evs l)) (hm : m.length = l.length) (os : Array Obj) :
  OwnE (sortWorldK Ev.cells 5 w g 0 q m.toArray os) B (some ⟨g, 0, none⟩) n cap m := by
 have hl : n = l.length := by have := h.1; rw [evs_length] at this; omega
 rcases h.2 with ⟨e0, _⟩ | ⟨g', cap', cur, e0, hb, hg, hn, hmx, hs, ht⟩
 ·cases e0
 ·cases e0
  refine ⟨by rw [evs_length]; omega, .inr ⟨g, cap, putCells id 0 (flatK Ev.cells 5 m.toArray) cur, rfl, hb, ?_, hn, hmx, by simpa [putCells] using hs, ?_⟩⟩
  ·show (grow (putRowK Ev.cells 5 (Sort.ahead w q) g 0 m.toArray) os).heap[g]? = _
   have hlt := (Array.getElem?_eq_some_iff.1 hg).1
   rw [heap_grow_old _ _ (by simpa [putRowK, putRow, mapBlock, Sort.ahead] using hlt)]
   simp [putRowK, putRow, mapBlock, Sort.ahead, Array.getElem?_modify, hg, onCells]
  ·have hfl := flatK_evs m
   apply List.ext_getElem?
   intro j
   rw [List.getElem?_take, Array.getElem?_toList]
   by_cases hj : j < n * 5
   ·have hjc : j < cur.size := by have := Nat.mul_le_mul_right 5 hn; omega
    have hjf : j < (flatK Ev.cells 5 m.toArray).size := by simp; omega
    simp only [if_pos hj, putCells, Array.getElem?_mapIdx, Array.getElem?_eq_getElem hjc, Option.map_some]
    rw [if_pos (by simp; omega), ← hfl, Array.getElem?_toList, Array.getElem?_eq_getElem hjf]
    simp only [Nat.sub_zero, id]
    rw [getElem!_pos (flatK Ev.cells 5 m.toArray) j hjf]
   ·rw [if_neg hj, List.getElem?_eq_none (by rw [evs_length]; omega)]
theorem below_grow {B : Nat} {w0 w : World} (h : Below B w0 w) (hB : B ≤ w.heap.size) (os : Array Obj) : Below B w0 (grow w os) :=
 ⟨h.os, h.tape, h.output, Nat.le_trans h.size (by simp), fun k hk => by rw [heap_grow_old _ _ (Nat.lt_of_lt_of_le hk hB)]; exact h.block k hk⟩
theorem below_sortW {B : Nat} {w0 w : World} {g q : Nat} {d : Array Ev} {os : Array Obj} (h : Below B w0 w) (hB : B ≤ w.heap.size) (hg : B ≤ g) : Below B w0 (sortWorldK Ev.cells 5 w g 0 q d os) :=
 below_grow (Lib.below_putRow h hg) (by simpa [putRow, mapBlock, Sort.ahead] using hB) os
theorem enters_cmp : ∀ args w, (callFunc 71 args).run Tryz.prog w = .ok (.enter 71 args) w := enters_of Tryz.func71 (by kernel_rfl) rfl
theorem cmp_lays (blk off size : Nat) (w : World) : CmpLays Tryz.prog 71 #[] Ev.cells 5 evCmp blk off size w := fun m os dk _ x y => compare_any x y _
theorem ins_any (blk cap a b : Nat) (d : Array Ev) (w : World) (hH : HoldsK Ev.cells 5 w blk 0 d) (hblk : blk < w.heap.size) (hab : a ≤ b) (hb : b ≤ d.size) (hsz : d.size < 4611686018427387904) :
  Calls Tryz.prog 104 #[.slice (some ⟨blk, 0, none⟩) d.size cap, .int .i64 a, .int .i64 b, .func (.func 71) #[] #[]] w fun e w' => e = .returned (.tuple #[]) ∧ ∃ n os, w' = sortWorldK Ev.cells 5 w blk 0 n (insertionSort (ltOf evCmp) d a b) os := by
 have h := AnyQ.insertionSortCmpFunc insLays 5 Tryz.isAgg51 Tryz.sizeOf51 Ev.cells cells_len cells_one evCmp 71 #[] blk 0 cap a b d w enters_cmp (cmp_lays blk 0 d.size w) hH hblk hab hb hsz
 change Calls Tryz.prog 104 _ _ _ at h
 exact h
def SortW (w : World) (g : Nat) (d : Array Ev) (w' : World) : Prop := ∃ q os, w' = sortWorldK Ev.cells 5 w g 0 q d os
def RetE (w : World) (n : Nat) (l : List Ev) (e : Ending) (w' : World) : Prop := ∃ g cap, e = .returned (.slice (some ⟨g, 0, none⟩) n cap) ∧ OwnE w' w.heap.size (some ⟨g, 0, none⟩) n cap l ∧ Below w.heap.size w w'
theorem evAt_new (w : World) (l : List Ev) (cs : Array Value) (hcs : cs.toList = evs l) (t : TypeId) : EvAt (w.alloc (.cells cs t)) (some ⟨w.heap.size, 0, none⟩) l := fun j v hv => by
 refine ⟨w.heap.size, 0, rfl, by simp, ?_⟩
 rw [Nat.zero_add, cell_of_row _ _ _ _ _ _ (heap_new w _), ← Array.getElem?_toList, hcs]; exact hv
theorem Grew.below {w w' : World} (h : Grew w w') : Below w.heap.size w w' := by
 obtain ⟨q, os, rfl⟩ := h
 have h : Below w.heap.size w (w.drewN q) := ⟨rfl, rfl, rfl, Nat.le_refl _, fun _ _ => rfl⟩
 exact below_grow h h.size os
def lessB (x y : Ev) : Bool := decide (evCmp x y < 0)
set_option maxHeartbeats 1000000 in
theorem evLess_any (x y : Ev) (w : World) : Calls Tryz.prog 136 #[.agg #[.int .u64 (x.off : Int), .int .i64 x.part, .int .i64 x.time, .string x.key, .float .f64 x.val], .agg #[.int .u64 (y.off : Int), .int .i64 y.part, .int .i64 y.time, .string y.key, .float .f64 y.val]] w fun e w' => e = .returned (.bool (lessB x y)) ∧ Below w.heap.size w w' := by
 have HC := Lib.hid fun w => compare_any x y w
 have hl : decide (evCmp x y < 0) = lessB x y := rfl
 have HL := Lib.hid hl
 clear hl
 generalize evCmp x y = r at *
 go_enter Tryz.func136, Tryz.ntmps136
 go_wp2_with (go_at_call 71; refine (HC.out _).mono ?_; rintro e w' ⟨rfl, hg⟩; have HG := Lib.hid hg; clear hg)
 go_ret
 exact ⟨ret_eq (by rw [← HL.out]; rfl), (((Below.refl w.heap.size w).alloc (Nat.le_refl _) _).alloc (by simp) _).trans (HG.out.below.mono (by simp; omega))⟩
def formB (x : Ev) (p : Int) : Bool := decide (0 ≤ x.part) && decide (x.part < p) && decide (-1099511627776 ≤ x.time) && decide (x.time ≤ 1099511627776) && decide (x.key.size ≤ 32) && decide (x.off < 1099511627776)
set_option maxHeartbeats 1000000 in
theorem form_any (x : Ev) (p : Int) (w : World) : Calls Tryz.prog 44 #[.agg #[.int .u64 (x.off : Int), .int .i64 x.part, .int .i64 x.time, .string x.key, .float .f64 x.val], .int .i64 p] w fun e w' => e = .returned (.bool (formB x p)) ∧ Below w.heap.size w w' := by
 go_enter Tryz.func44, Tryz.ntmps44
 go_wp2
 all_goals
  go_ret
  refine ⟨ret_eq ?_, (Below.refl w.heap.size w).alloc (Nat.le_refl _) _⟩
  exact congrArg Value.bool (by unfold formB; rw [Bool.eq_iff_iff]; simp only [Bool.and_eq_true, decide_eq_true_eq, Bool.false_eq_true, false_iff]; omega)
set_option maxHeartbeats 1000000 in
theorem refForm_any (x : Ev) (p : Int) (w : World) : Calls Tryz.prog 22 #[.agg #[.int .u64 (x.off : Int), .int .i64 x.part, .int .i64 x.time, .string x.key, .float .f64 x.val], .int .i64 p] w fun e w' => e = .returned (.bool (formB x p)) ∧ Below w.heap.size w w' := by
 go_enter Tryz.func22, Tryz.ntmps22
 go_wp2
 all_goals
  go_ret
  refine ⟨ret_eq ?_, (Below.refl w.heap.size w).alloc (Nat.le_refl _) _⟩
  exact congrArg Value.bool (by unfold formB; rw [Bool.eq_iff_iff]; simp only [Bool.and_eq_true, decide_eq_true_eq, Bool.false_eq_true, false_iff]; omega)
def keqB (x y : Ev) : Bool := x.key.toList == y.key.toList
def sameB (x y : Ev) : Bool := decide ((x.off : Int) = (y.off : Int)) && decide (x.part = y.part) && decide (x.time = y.time) && keqB x y && decide (Fl.canon x.val = Fl.canon y.val)
def boxes2 (w : World) (x y : Ev) : World := (w.alloc (.cells #[.int .u64 (x.off : Int), .int .i64 x.part, .int .i64 x.time, .string x.key, .float .f64 x.val] 51)).alloc (.cells #[.int .u64 (y.off : Int), .int .i64 y.part, .int .i64 y.time, .string y.key, .float .f64 y.val] 51)
theorem boxes2_below (w : World) (x y : Ev) : Below w.heap.size w (boxes2 w x y) := ((Below.refl w.heap.size w).alloc (Nat.le_refl _) _).alloc (by simp) _
def parts4 (a b c d : Bool) (r s : Bool) : Prop := s = (a && b && c && d && r)
set_option maxHeartbeats 2000000 in
theorem refEvSame_any (x y : Ev) (hx : x.val < 18446744073709551616) (hy : y.val < 18446744073709551616) (w : World) : Calls Tryz.prog 32 #[.agg #[.int .u64 (x.off : Int), .int .i64 x.part, .int .i64 x.time, .string x.key, .float .f64 x.val], .agg #[.int .u64 (y.off : Int), .int .i64 y.part, .int .i64 y.time, .string y.key, .float .f64 y.val]] w fun e w' => e = .returned (.bool (sameB x y)) ∧ Below w.heap.size w w' := by
 have HB := Lib.hid (boxes2_below w x y)
 have HC := Lib.hid fun w => refSame_any x.val y.val hx hy w
 have hb : (x.key.toList == y.key.toList) = keqB x y := rfl
 have HS : Hid (parts4 (decide ((x.off : Int) = (y.off : Int))) (decide (x.part = y.part)) (decide (x.time = y.time)) (keqB x y) (decide (Fl.canon x.val = Fl.canon y.val)) (sameB x y)) := Lib.hid rfl
 generalize decide (Fl.canon x.val = Fl.canon y.val) = r at *
 generalize sameB x y = s at *
 clear hx hy
 generalize keqB x y = kb at *
 cases kb
 all_goals
  go_enter Tryz.func32, Tryz.ntmps32
  go_wp2_with (go_at_call 48; refine (HC.out _).mono ?_; rintro e w' ⟨rfl, rfl⟩)
  all_goals
   go_ret
   refine ⟨ret_eq ?_, ((Below.refl w.heap.size w).alloc (Nat.le_refl _) _).alloc (by simp) _⟩
   have h := HS.out
   unfold parts4 at h
   rw [h]
   exact congrArg Value.bool (by simp [*])
theorem cmp_less : ∀ a b : List UInt8, Lib.compareBytes a b = if (a == b) = true then 0 else if Op.bytesLess a b = true then -1 else 1
 | [], [] => rfl
 | [], _ :: _ => rfl
 | _ :: _, [] => rfl
 | a :: la, b :: lb => by
  have ih := cmp_less la lb
  unfold Lib.compareBytes Op.bytesLess
  by_cases h1 : a < b
  ·have : a ≠ b := fun e => by rw [e] at h1; exact absurd h1 (UInt8.lt_irrefl _)
   simp [h1, this]
  ·by_cases h2 : b < a
   ·have : a ≠ b := fun e => by rw [e] at h2; exact absurd h2 (UInt8.lt_irrefl _)
    simp [h1, h2, this]
   ·have : a = b := UInt8.le_antisymm (UInt8.not_lt.1 h2) (UInt8.not_lt.1 h1)
    subst this
    simp only [h1, h2, if_false, ih]
    simp
theorem keq_iff (x y : Ev) : keqB x y = (x.key.data.toList == y.key.data.toList) := by
 unfold keqB
 rw [ByteArray.toList_eq, ByteArray.toList_eq]
theorem less_key (x y : Ev) (h : keqB x y = false) : lessB x y = Op.bytesLess x.key.toList y.key.toList := by
 rw [keq_iff] at h
 unfold lessB evCmp cmpK or3
 rw [cmp_less, h, ByteArray.toList_eq, ByteArray.toList_eq]
 cases Op.bytesLess x.key.data.toList y.key.data.toList <;> simp
theorem less_time (x y : Ev) (h : keqB x y = true) (ht : x.time ≠ y.time) : lessB x y = decide (x.time < y.time) := by
 rw [keq_iff] at h
 unfold lessB evCmp cmpK or3
 rw [cmp_less, h, decide_eq_decide]
 unfold cmpI
 by_cases h1 : x.time < y.time
 ·simp [h1]
 ·have h2 : y.time < x.time := by omega
  simp [h1, h2]
theorem less_off (x y : Ev) (h : keqB x y = true) (ht : x.time = y.time) : lessB x y = decide ((x.off : Int) < (y.off : Int)) := by
 rw [keq_iff] at h
 unfold lessB evCmp cmpK or3
 rw [cmp_less, h, decide_eq_decide]
 unfold cmpI
 rw [ht]
 by_cases h1 : (x.off : Int) < (y.off : Int)
 ·simp [h1]
 ·by_cases h2 : (y.off : Int) < (x.off : Int)
  ·simp [h1, h2]
  ·simp [h1, h2]
set_option maxHeartbeats 2000000 in
theorem evBefore_any (x y : Ev) (w : World) : Calls Tryz.prog 33 #[.agg #[.int .u64 (x.off : Int), .int .i64 x.part, .int .i64 x.time, .string x.key, .float .f64 x.val], .agg #[.int .u64 (y.off : Int), .int .i64 y.part, .int .i64 y.time, .string y.key, .float .f64 y.val]] w fun e w' => e = .returned (.bool (lessB x y)) ∧ Grew w w' := by
 have HG : Hid (Grew w ((w.alloc (.cells #[.int .u64 (x.off : Int), .int .i64 x.part, .int .i64 x.time, .string x.key, .float .f64 x.val] 51)).alloc (.cells #[.int .u64 (y.off : Int), .int .i64 y.part, .int .i64 y.time, .string y.key, .float .f64 y.val] 51))) := Lib.hid (((Grew.refl w).alloc _).alloc _)
 have hb : (x.key.toList == y.key.toList) = keqB x y := rfl
 cases hk : keqB x y
 ·rw [hk] at hb
  have HL := Lib.hid (less_key x y hk)
  clear hk
  generalize lessB x y = r at *
  go_enter Tryz.func33, Tryz.ntmps33
  go_wp2
  go_ret
  exact ⟨ret_eq (by rw [HL.out]; rfl), HG.out⟩
 ·rw [hk] at hb
  by_cases ht : x.time = y.time
  ·have HL := Lib.hid (less_off x y hk ht)
   have ht' : (x.time == y.time) = true := by simpa using ht
   have ht2 : (x.time != y.time) = false := by simpa using ht
   clear hk ht
   generalize lessB x y = r at *
   go_enter Tryz.func33, Tryz.ntmps33
   go_wp2
   go_ret
   exact ⟨ret_eq (by rw [HL.out]; simp), HG.out⟩
  ·have HL := Lib.hid (less_time x y hk ht)
   have ht2 : (x.time != y.time) = true := by simpa using ht
   clear hk
   generalize lessB x y = r at *
   go_enter Tryz.func33, Tryz.ntmps33
   go_wp2
   go_ret
   exact ⟨ret_eq (by rw [HL.out]; rfl), HG.out⟩
end Go.Proofs.YtjldamkmdkaiiaaGreatDoor
