/-
  Layer event: the library's swapRange and rotate of events.
-/
import Derived.Test.YtifabkbdiiolfaaDoorRows
import Derived.WalkKit
import Derived.WalkSpells
import Derived.WalkLawsBesides
import Derived.Laws.Bits64b
import Derived.Test.YtifabkbdiiolfaaDoorFlK
import Derived.Lib.Hide
import Derived.Lib.Bytealg
import Derived.BigRegion
import Derived.Deep.RegionHeld3
import Derived.Deep.Draws
import Derived.Outline
import Derived.Sort.Grow
import Derived.Shelf.SlSortCmp.InsertionK
import Derived.Shelf.SlicesE.Clone
import Derived.Lib.OwnBridge
import Derived.Deep.DeepCutAuto
import Derived.Sort.LotA
import Derived.Sort.WalkA
import Derived.Shelf.SlSortCmp.KitK
import Derived.Deep.MidRow
namespace Go.Proofs.YtifabkbdiiolfaaDoor
open Go.RowKit
theorem ret_eq {v v' : Value} (h : v = v') : Ending.returned v = Ending.returned v' := by rw [h]
theorem fb_run (n : Int) (w : World) : (callFunc 94 #[.int .u64 n]).run Tryd.prog w = .ok (.value (.float .f64 n.toNat)) w := by
 rw [run_callFunc_extern Tryd.func94 (by kernel_rfl) (by kernel_rfl) (by kernel_rfl) (e := Extern.MathFloatBits.float64frombits) (by kernel_rfl)]
 rfl
theorem tb_run (b : Nat) (w : World) : (callFunc 73 #[.float .f64 b]).run Tryd.prog w = .ok (.value (.int .u64 b)) w := by
 rw [run_callFunc_extern Tryd.func73 (by kernel_rfl) (by kernel_rfl) (by kernel_rfl) (e := Extern.MathFloatBits.float64bits) (by kernel_rfl)]
 rfl
set_option maxHeartbeats 400000 in
theorem isNaN_any (b : Nat) (hb : b < 18446744073709551616) (w : World) :
  Calls Tryd.prog 93 #[.float .f64 b] w fun e w' => e = .returned (.bool (Fl.nan b)) ∧ w = w' := by
 have xf := fb_run
 have xt := tb_run
 go_enter Tryd.func93, Tryd.ntmps93
 go_wp2
 go_ret
 exact ⟨ret_eq (congrArg Value.bool (Fl.ne_self b hb)), rfl⟩
set_option maxHeartbeats 400000 in
theorem canon_any (b : Nat) (hb : b < 18446744073709551616) (w : World) :
  Calls Tryd.prog 74 #[.float .f64 b] w fun e w' => e = .returned (.float .f64 (Fl.canon b)) ∧ w = w' := by
 cases h : Fl.nan b
 all_goals
  have h2 : Hid (Fl.nan b = _) := h
  have xf := fb_run
  have xt := tb_run
  go_enter Tryd.func74, Tryd.ntmps74
  go_wp2_with (go_at_call 93; refine (isNaN_any _ hb _).mono ?_; rintro e w' ⟨rfl, rfl⟩)
  go_ret
  exact ⟨ret_eq (by simp [Fl.canon, h2.out]), rfl⟩
set_option maxHeartbeats 400000 in
theorem bits_any (b : Nat) (hb : b < 18446744073709551616) (w : World) :
  Calls Tryd.prog 58 #[.float .f64 b] w fun e w' => e = .returned (.int .u64 (Fl.canon b : Nat)) ∧ w = w' := by
 have xt := tb_run
 go_enter Tryd.func58, Tryd.ntmps58
 go_wp2_with (go_at_call 74; refine (canon_any _ hb _).mono ?_; rintro e w' ⟨rfl, rfl⟩)
 go_ret
 exact ⟨rfl, rfl⟩
set_option maxHeartbeats 400000 in
theorem refBits_any (b : Nat) (hb : b < 18446744073709551616) (w : World) :
  Calls Tryd.prog 60 #[.float .f64 b] w fun e w' => e = .returned (.int .u64 (Fl.canon b : Nat)) ∧ w = w' := by
 have xt := tb_run
 go_enter Tryd.func60, Tryd.ntmps60
 go_wp2
 all_goals
  go_ret
  refine ⟨ret_eq ?_, rfl⟩
  unfold Fl.canon Fl.nan Fl.rung
 ·rename_i h1 h2
  have h3 : (b : Int) % 4503599627370496 ≠ 0 := bne_iff_ne.1 h2
  rw [if_pos (by rw [decide_eq_true_eq]; omega)]; rfl
 ·rename_i h1 h2
  have h3 : (b : Int) % 4503599627370496 = 0 := by simpa using h2
  rw [if_neg (by rw [decide_eq_true_eq]; omega)]; rfl
 ·rename_i h1
  rw [if_neg (by rw [decide_eq_true_eq]; omega)]; rfl
end Go.Proofs.YtifabkbdiiolfaaDoor

set_option linter.unusedSimpArgs false
set_option linter.unusedVariables false
namespace Go.Proofs.YtifabkbdiiolfaaDoor
open Go.RowKit Go.Sort
/-- An event. -/
structure Ev where
 off : Nat
 part : Int
 time : Int
 key : ByteArray
 val : Nat
instance : Inhabited Ev := ⟨⟨0, 0, 0, ByteArray.empty, 0⟩⟩
def Ev.cells (x : Ev) : List Value := [.int .u64 (x.off : Int), .int .i64 x.part, .int .i64 x.time, .string x.key, .float .f64 x.val]
/-- -1, 0 or 1. -/
def cmpI (a b : Int) : Int := if a < b then -1 else if b < a then 1 else 0
def or3 (a b c : Int) : Int := if a ≠ 0 then a else if b ≠ 0 then b else c
def cmpK (a b : ByteArray) : Int := Lib.compareBytes a.data.toList b.data.toList
def evCmp (x y : Ev) : Int := or3 (cmpK x.key y.key) (cmpI x.time y.time) (cmpI (x.off : Int) (y.off : Int))
end Go.Proofs.YtifabkbdiiolfaaDoor

namespace Go.Proofs.YtifabkbdiiolfaaDoor
open Go.RowKit Go.Sort
/-- Two events in two boxes. -/
structure Bx (g h : Nat) (x y : Ev) (w : World) : Prop where
 rx : w.heap[g]? = some (.cells #[.int .u64 (x.off : Int), .int .i64 x.part, .int .i64 x.time, .string x.key, .float .f64 x.val] 34 (0, 0))
 ry : w.heap[h]? = some (.cells #[.int .u64 (y.off : Int), .int .i64 y.part, .int .i64 y.time, .string y.key, .float .f64 y.val] 34 (0, 0))
theorem row_alloc' {w : World} {g : Nat} {o : Obj} (h : w.heap[g]? = some o) (q : Obj) : (w.alloc q).heap[g]? = some o := (Below.heap_alloc _ _ _ (Array.getElem?_eq_some_iff.1 h).1).trans h
theorem Bx.alloc {g h : Nat} {x y : Ev} {w : World} (H : Bx g h x y w) (o : Obj) : Bx g h x y (w.alloc o) := ⟨row_alloc' H.rx o, row_alloc' H.ry o⟩
theorem heap_new (w : World) (o : Obj) : (w.alloc o).heap[w.heap.size]? = some o := by show (w.heap.push o)[w.heap.size]? = _; simp
theorem Bx.start (w : World) (x y : Ev) : Bx w.heap.size (w.heap.size + 1) x y ((w.alloc (.cells #[.int .u64 (x.off : Int), .int .i64 x.part, .int .i64 x.time, .string x.key, .float .f64 x.val] 34)).alloc (.cells #[.int .u64 (y.off : Int), .int .i64 y.part, .int .i64 y.time, .string y.key, .float .f64 y.val] 34)).drew :=
 ⟨row_alloc' (by show (w.heap.push _)[w.heap.size]? = _; simp) _, by have h := heap_new (w.alloc (.cells #[.int .u64 (x.off : Int), .int .i64 x.part, .int .i64 x.time, .string x.key, .float .f64 x.val] 34)) (.cells #[.int .u64 (y.off : Int), .int .i64 y.part, .int .i64 y.time, .string y.key, .float .f64 y.val] 34); rw [show (w.alloc (.cells #[.int .u64 (x.off : Int), .int .i64 x.part, .int .i64 x.time, .string x.key, .float .f64 x.val] 34)).heap.size = w.heap.size + 1 from by simp] at h; exact h⟩
/-- Draws and new blocks, and nothing else. -/
def Grew (w w' : World) : Prop := ∃ q os, w' = grow (w.drewN q) os
theorem Grew.refl (w : World) : Grew w w := ⟨0, #[], by rw [grow_empty]; rfl⟩
theorem drewN_grow' (w : World) (os : Array Obj) (n : Nat) : (grow w os).drewN n = grow (w.drewN n) os := rfl
theorem drewN_add (w : World) (m n : Nat) : (w.drewN m).drewN n = w.drewN (m + n) := by
 unfold World.drewN; simp; omega
theorem Grew.trans {a b c : World} (h : Grew a b) (h' : Grew b c) : Grew a c := by
 obtain ⟨q, os, rfl⟩ := h
 obtain ⟨q', os', rfl⟩ := h'
 exact ⟨q + q', os ++ os', by rw [drewN_grow', drewN_add, grow_grow]⟩
theorem Grew.alloc {a b : World} (h : Grew a b) (o : Obj) : Grew a (b.alloc o) := h.trans ⟨0, #[o], by rw [alloc_eq_grow]; rfl⟩
theorem Grew.drew {a b : World} (h : Grew a b) : Grew a b.drew := h.trans ⟨1, #[], by rw [grow_empty]; rfl⟩
end Go.Proofs.YtifabkbdiiolfaaDoor

namespace Go.Proofs.YtifabkbdiiolfaaDoor
open Go.RowKit Go.Sort
theorem cells_len (x : Ev) : x.cells.length = 5 := rfl
theorem cells_one (x : Ev) : ∀ v ∈ x.cells, v.oneCell' = true := fun v hv => by
 simp only [Ev.cells, List.mem_cons, List.not_mem_nil, or_false] at hv
 rcases hv with rfl | rfl | rfl | rfl | rfl <;> rfl
def evs (l : List Ev) : List Value := l.flatMap Ev.cells
theorem evs_length (l : List Ev) : (evs l).length = l.length * 5 := by
 induction l with
 | nil => rfl
 | cons x r ih => unfold evs at *; rw [List.flatMap_cons, List.length_append, ih, cells_len, List.length_cons]; omega
theorem evs_one (l : List Ev) : ∀ v ∈ evs l, v.oneCell' = true := fun v hv => by
 obtain ⟨x, -, hx⟩ := List.mem_flatMap.1 hv
 exact cells_one x v hx
theorem evs_get (l : List Ev) (k j : Nat) (hj : j < 5) : (evs l)[k * 5 + j]? = (l[k]?).bind fun x => x.cells[j]? := by
 induction l generalizing k with
 | nil => simp [evs]
 | cons x r ih =>
  unfold evs at *
  rw [List.flatMap_cons]
  rcases k with _ | k
  ·rw [List.getElem?_append_left (by rw [cells_len]; omega)]; simp
  ·rw [List.getElem?_append_right (by rw [cells_len]; omega), cells_len, show (k + 1) * 5 + j - 5 = k * 5 + j by omega, ih]; simp
/-- A slice value that holds some events, in a world. -/
def EvAt (w : World) (a : Option Addr) (l : List Ev) : Prop := ∀ (j : Nat) (v : Value), (evs l)[j]? = some v → ∃ g off, a = some ⟨g, off, none⟩ ∧ g < w.heap.size ∧ w.cell? ⟨g, off + j, none⟩ = some v
theorem EvAt.keep {w w' : World} {a : Option Addr} {l : List Ev} (h : EvAt w a l) (hb : Below w.heap.size w w') : EvAt w' a l := fun j v hv => by
 obtain ⟨g, off, h2, h3, h4⟩ := h j v hv
 exact ⟨g, off, h2, Nat.lt_of_lt_of_le h3 hb.size, (hb.cell (p := ⟨g, off + j, none⟩) h3).trans h4⟩
theorem infoEv : (Tryd.prog.info? 34).map (fun i => (i.zero, i.size, i.bytes)) = some (some (.agg #[.int .u64 0, .int .i64 0, .int .i64 0, .string ByteArray.empty, .float .f64 0]), 5, 48) := by kernel_rfl
/-- Events that a call owns. -/
def OwnE (w : World) (B : Nat) (A : Option Addr) (n cap : Nat) (l : List Ev) : Prop := w.ownsRow B 34 5 (.slice A n cap) n (evs l)
theorem below_grow {B : Nat} {w0 w : World} (h : Below B w0 w) (hB : B ≤ w.heap.size) (os : Array Obj) : Below B w0 (grow w os) :=
 ⟨h.os, h.tape, h.output, Nat.le_trans h.size (by simp), fun k hk => by rw [heap_grow_old _ _ (Nat.lt_of_lt_of_le hk hB)]; exact h.block k hk⟩
end Go.Proofs.YtifabkbdiiolfaaDoor

namespace Go.Proofs.YtifabkbdiiolfaaDoor
open Go.RowKit Go.Sort
theorem evAt_new (w : World) (l : List Ev) (cs : Array Value) (hcs : cs.toList = evs l) (t : TypeId) : EvAt (w.alloc (.cells cs t)) (some ⟨w.heap.size, 0, none⟩) l := fun j v hv => by
 refine ⟨w.heap.size, 0, rfl, by simp, ?_⟩
 rw [Nat.zero_add, cell_of_row _ _ _ _ _ _ (heap_new w _), ← Array.getElem?_toList, hcs]; exact hv
end Go.Proofs.YtifabkbdiiolfaaDoor

namespace Go.Proofs.YtifabkbdiiolfaaDoor
open Go.RowKit Go.Sort
theorem Grew.below {w w' : World} (h : Grew w w') : Below w.heap.size w w' := by
 obtain ⟨q, os, rfl⟩ := h
 have h : Below w.heap.size w (w.drewN q) := ⟨rfl, rfl, rfl, Nat.le_refl _, fun _ _ => rfl⟩
 exact below_grow h h.size os
def lessB (x y : Ev) : Bool := decide (evCmp x y < 0)
def formB (x : Ev) (p : Int) : Bool := decide (0 ≤ x.part) && decide (x.part < p) && decide (-1099511627776 ≤ x.time) && decide (x.time ≤ 1099511627776) && decide (x.key.size ≤ 32) && decide (x.off < 1099511627776)
set_option maxHeartbeats 1000000 in
theorem form_any (x : Ev) (p : Int) (w : World) : Calls Tryd.prog 29 #[.agg #[.int .u64 (x.off : Int), .int .i64 x.part, .int .i64 x.time, .string x.key, .float .f64 x.val], .int .i64 p] w fun e w' => e = .returned (.bool (formB x p)) ∧ Below w.heap.size w w' := by
 go_enter Tryd.func29, Tryd.ntmps29
 go_wp2
 all_goals
  go_ret
  refine ⟨ret_eq ?_, (Below.refl w.heap.size w).alloc (Nat.le_refl _) _⟩
  exact congrArg Value.bool (by unfold formB; rw [Bool.eq_iff_iff]; simp only [Bool.and_eq_true, decide_eq_true_eq, Bool.false_eq_true, false_iff]; omega)
set_option maxHeartbeats 1000000 in
theorem refForm_any (x : Ev) (p : Int) (w : World) : Calls Tryd.prog 16 #[.agg #[.int .u64 (x.off : Int), .int .i64 x.part, .int .i64 x.time, .string x.key, .float .f64 x.val], .int .i64 p] w fun e w' => e = .returned (.bool (formB x p)) ∧ Below w.heap.size w w' := by
 go_enter Tryd.func16, Tryd.ntmps16
 go_wp2
 all_goals
  go_ret
  refine ⟨ret_eq ?_, (Below.refl w.heap.size w).alloc (Nat.le_refl _) _⟩
  exact congrArg Value.bool (by unfold formB; rw [Bool.eq_iff_iff]; simp only [Bool.and_eq_true, decide_eq_true_eq, Bool.false_eq_true, false_iff]; omega)
end Go.Proofs.YtifabkbdiiolfaaDoor

namespace Go.Proofs.YtifabkbdiiolfaaDoor
open Go.RowKit Go.Sort
section
variable {α : Type} (lt : α → α → Bool)
def insR (x : α) : List α → List α
 | [] => [x]
 | e :: r => if lt x e then e :: insR x r else x :: e :: r
def insB (x : α) (s : List α) : List α := (insR lt x s.reverse).reverse
variable {lt}
theorem insB_nil (x : α) : insB lt x [] = [x] := rfl
theorem insB_snoc (x e : α) (r : List α) : insB lt x (r ++ [e]) = if lt x e = true then insB lt x r ++ [e] else r ++ [e, x] := by
 unfold insB; rw [List.reverse_append]
 show (insR lt x (e :: r.reverse)).reverse = _
 rw [insR]; split <;> simp
/-- A stretch of a list. -/
def seg (l : List α) (a b : Nat) : List α := (l.drop a).take (b - a)
variable [Inhabited α]
end
end Go.Proofs.YtifabkbdiiolfaaDoor

namespace Go.Proofs.YtifabkbdiiolfaaDoor
open Go.RowKit Go.Sort
theorem ta_get (l : List Ev) (i : Nat) : l.toArray[i]! = l[i]! := by simp
/-- Two are exchanged. -/
def lswp (l : List Ev) (i j : Nat) : List Ev := (swp l.toArray i j).toList
theorem lswp_arr (l : List Ev) (i j : Nat) : swp l.toArray i j = (lswp l i j).toArray := by unfold lswp; simp
theorem lswp_len (l : List Ev) (i j : Nat) : (lswp l i j).length = l.length := by unfold lswp; rw [Array.length_toList, swp_size]; simp
theorem lswp_get (l : List Ev) {i j : Nat} (hi : i < l.length) (hj : j < l.length) (k : Nat) : (lswp l i j)[k]! = if k = j then l[i]! else if k = i then l[j]! else l[k]! := by
 have h := swp_get l.toArray (i := i) (j := j) (by simpa using hi) (by simpa using hj) k
 rw [lswp_arr, ta_get, ta_get, ta_get, ta_get] at h; exact h
end Go.Proofs.YtifabkbdiiolfaaDoor

set_option maxRecDepth 8000
namespace Go.Proofs.YtifabkbdiiolfaaDoor
open Go.RowKit Go.Sort
theorem uEvent : Tryd.prog.underlying 34 = some (.struct (Tryd.prog.fieldsOf 34)) := by kernel_rfl
theorem iEvent (x : Ev) : (Tryd.prog.info? 34).map (·.size) = some x.cells.length := by rw [cells_len]; kernel_rfl
section
variable {w0 w : World} {blk N : Nat} {l : List Ev}
end
/-- What swapRange leaves. -/
def SwapR (l : List Ev) (a b n : Nat) (m : List Ev) : Prop := m.length = l.length ∧ ∀ k, k < l.length → m[k]! = l[if a ≤ k ∧ k < a + n then b + (k - a) else if b ≤ k ∧ k < b + n then a + (k - b) else k]!
theorem SwapR.zero (l : List Ev) (a b : Nat) : SwapR l a b 0 l := ⟨rfl, fun k hk => by rw [if_neg (by omega), if_neg (by omega)]⟩
theorem SwapR.step {l m : List Ev} {a b i : Nat} (h : SwapR l a b i m) (hab : a + i < b) (hb : b + i < l.length) : SwapR l a b (i + 1) (lswp m (a + i) (b + i)) := by
 refine ⟨(lswp_len _ _ _).trans h.1, fun k hk => ?_⟩
 rw [lswp_get _ (by rw [h.1]; omega) (by rw [h.1]; omega), h.2 k hk, h.2 (a + i) (by omega), h.2 (b + i) (by omega)]
 by_cases h1 : k = b + i
 ·rw [if_pos h1, if_neg (by omega), if_neg (by omega), if_neg (by omega), if_pos (by omega), show a + (k - b) = a + i by omega]
 ·rw [if_neg h1]
  by_cases h2 : k = a + i
  ·rw [if_pos h2, if_neg (by omega), if_neg (by omega), if_pos (by omega), show b + (k - a) = b + i by omega]
  ·rw [if_neg h2]
   congr 1
   repeat' split
   all_goals omega
end Go.Proofs.YtifabkbdiiolfaaDoor
