/-
  Layer column: lists of numbers with a point: Reals, the document's own, readReals where all goes well.
-/
import Derived.Test.YtenmjofbamihdaaDoorRows
import Derived.WalkKit
import Derived.WalkSpells
import Derived.WalkLawsBesides
import Derived.Laws.Bits64b
import Derived.Test.YtenmjofbamihdaaDoorFlK
import Derived.Lib.Hide
import Derived.Lib.Bytealg
import Derived.BigRegion
import Derived.Deep.RegionHeld3
import Derived.Deep.Draws
import Derived.Outline
import Derived.Sort.Grow
import Derived.Test.YtenmjofbamihdaaDoorSdK
namespace Go.Proofs.YtenmjofbamihdaaDoor
open Go.RowKit

theorem ret_eq {v v' : Value} (h : v = v') : Ending.returned v = Ending.returned v' := by rw [h]
theorem fb_run (n : Int) (w : World) : (callFunc 98 #[.int .u64 n]).run Tryd.prog w = .ok (.value (.float .f64 n.toNat)) w := by
  rw [run_callFunc_extern Tryd.func98 (by kernel_rfl) (by kernel_rfl) (by kernel_rfl) (e := Extern.MathFloatBits.float64frombits) (by kernel_rfl)]
  rfl
theorem tb_run (b : Nat) (w : World) : (callFunc 77 #[.float .f64 b]).run Tryd.prog w = .ok (.value (.int .u64 b)) w := by
  rw [run_callFunc_extern Tryd.func77 (by kernel_rfl) (by kernel_rfl) (by kernel_rfl) (e := Extern.MathFloatBits.float64bits) (by kernel_rfl)]
  rfl

set_option maxHeartbeats 400000 in
theorem isNaN_any (b : Nat) (hb : b < 18446744073709551616) (w : World) :
    Calls Tryd.prog 97 #[.float .f64 b] w fun e w' => e = .returned (.bool (Fl.nan b)) ∧ w = w' := by
  have xf := fb_run
  have xt := tb_run
  go_enter Tryd.func97, Tryd.ntmps97
  go_wp2
  go_ret
  exact ⟨ret_eq (congrArg Value.bool (Fl.ne_self b hb)), rfl⟩

set_option maxHeartbeats 400000 in
theorem canon_any (b : Nat) (hb : b < 18446744073709551616) (w : World) :
    Calls Tryd.prog 78 #[.float .f64 b] w fun e w' => e = .returned (.float .f64 (Fl.canon b)) ∧ w = w' := by
  cases h : Fl.nan b
  all_goals
    have h2 : Hid (Fl.nan b = _) := h
    have xf := fb_run
    have xt := tb_run
    go_enter Tryd.func78, Tryd.ntmps78
    go_wp2_with (go_at_call 97; refine (isNaN_any _ hb _).mono ?_; rintro e w' ⟨rfl, rfl⟩)
    go_ret
    exact ⟨ret_eq (by simp [Fl.canon, h2.out]), rfl⟩

set_option maxHeartbeats 400000 in
theorem bits_any (b : Nat) (hb : b < 18446744073709551616) (w : World) :
    Calls Tryd.prog 62 #[.float .f64 b] w fun e w' => e = .returned (.int .u64 (Fl.canon b : Nat)) ∧ w = w' := by
  have xt := tb_run
  go_enter Tryd.func62, Tryd.ntmps62
  go_wp2_with (go_at_call 78; refine (canon_any _ hb _).mono ?_; rintro e w' ⟨rfl, rfl⟩)
  go_ret
  exact ⟨rfl, rfl⟩

end Go.Proofs.YtenmjofbamihdaaDoor

set_option linter.unusedSimpArgs false
set_option linter.unusedVariables false
namespace Go.Proofs.YtenmjofbamihdaaDoor
open Go.RowKit Go.Sort

/-- An event. -/
structure Ev where
  off : Nat
  part : Int
  time : Int
  key : ByteArray
  val : Nat
instance : Inhabited Ev := ⟨⟨0, 0, 0, ByteArray.empty, 0⟩⟩
def Ev.cells (x : Ev) : List Value := [.int .u64 (x.off : Int), .int .i64 x.part, .int .i64 x.time, .string x.key, .float .f64 x.val]
/-- -1, 0 or 1. -/
def cmpI (a b : Int) : Int := if a < b then -1 else if b < a then 1 else 0
def or3 (a b c : Int) : Int := if a ≠ 0 then a else if b ≠ 0 then b else c
def cmpK (a b : ByteArray) : Int := Lib.compareBytes a.data.toList b.data.toList
def evCmp (x y : Ev) : Int := or3 (cmpK x.key y.key) (cmpI x.time y.time) (cmpI (x.off : Int) (y.off : Int))

end Go.Proofs.YtenmjofbamihdaaDoor

set_option linter.unusedSimpArgs false
set_option linter.unusedVariables false
namespace Go.Proofs.YtenmjofbamihdaaDoor
open Go.RowKit Go.Sort

/-- Two events in two boxes. -/
structure Bx (g h : Nat) (x y : Ev) (w : World) : Prop where
  rx : w.heap[g]? = some (.cells #[.int .u64 (x.off : Int), .int .i64 x.part, .int .i64 x.time, .string x.key, .float .f64 x.val] 44 (0, 0))
  ry : w.heap[h]? = some (.cells #[.int .u64 (y.off : Int), .int .i64 y.part, .int .i64 y.time, .string y.key, .float .f64 y.val] 44 (0, 0))
theorem row_alloc' {w : World} {g : Nat} {o : Obj} (h : w.heap[g]? = some o) (q : Obj) : (w.alloc q).heap[g]? = some o := (Below.heap_alloc _ _ _ (Array.getElem?_eq_some_iff.1 h).1).trans h
theorem Bx.alloc {g h : Nat} {x y : Ev} {w : World} (H : Bx g h x y w) (o : Obj) : Bx g h x y (w.alloc o) := ⟨row_alloc' H.rx o, row_alloc' H.ry o⟩
theorem heap_new (w : World) (o : Obj) : (w.alloc o).heap[w.heap.size]? = some o := by show (w.heap.push o)[w.heap.size]? = _; simp
theorem Bx.start (w : World) (x y : Ev) : Bx w.heap.size (w.heap.size + 1) x y ((w.alloc (.cells #[.int .u64 (x.off : Int), .int .i64 x.part, .int .i64 x.time, .string x.key, .float .f64 x.val] 44)).alloc (.cells #[.int .u64 (y.off : Int), .int .i64 y.part, .int .i64 y.time, .string y.key, .float .f64 y.val] 44)).drew :=
  ⟨row_alloc' (by show (w.heap.push _)[w.heap.size]? = _; simp) _, by have h := heap_new (w.alloc (.cells #[.int .u64 (x.off : Int), .int .i64 x.part, .int .i64 x.time, .string x.key, .float .f64 x.val] 44)) (.cells #[.int .u64 (y.off : Int), .int .i64 y.part, .int .i64 y.time, .string y.key, .float .f64 y.val] 44); rw [show (w.alloc (.cells #[.int .u64 (x.off : Int), .int .i64 x.part, .int .i64 x.time, .string x.key, .float .f64 x.val] 44)).heap.size = w.heap.size + 1 from by simp] at h; exact h⟩
/-- Draws and new blocks, and nothing else. -/
def Grew (w w' : World) : Prop := ∃ q os, w' = grow (w.drewN q) os
theorem Grew.refl (w : World) : Grew w w := ⟨0, #[], by rw [grow_empty]; rfl⟩
theorem drewN_grow' (w : World) (os : Array Obj) (n : Nat) : (grow w os).drewN n = grow (w.drewN n) os := rfl
theorem drewN_add (w : World) (m n : Nat) : (w.drewN m).drewN n = w.drewN (m + n) := by
  unfold World.drewN; simp; omega
theorem Grew.trans {a b c : World} (h : Grew a b) (h' : Grew b c) : Grew a c := by
  obtain ⟨q, os, rfl⟩ := h
  obtain ⟨q', os', rfl⟩ := h'
  exact ⟨q + q', os ++ os', by rw [drewN_grow', drewN_add, grow_grow]⟩
theorem Grew.alloc {a b : World} (h : Grew a b) (o : Obj) : Grew a (b.alloc o) := h.trans ⟨0, #[o], by rw [alloc_eq_grow]; rfl⟩
theorem Grew.drew {a b : World} (h : Grew a b) : Grew a b.drew := h.trans ⟨1, #[], by rw [grow_empty]; rfl⟩

end Go.Proofs.YtenmjofbamihdaaDoor

set_option linter.unusedSimpArgs false
set_option linter.unusedVariables false
set_option maxRecDepth 8000
namespace Go.Proofs.YtenmjofbamihdaaDoor
open Go.RowKit Go.WideShapes Col
/-- A slice value that holds some words, in a world. -/
def FlAt (w : World) (a : Option Addr) (l : List Nat) : Prop := ∀ (k x : Nat), l[k]? = some x → x < 18446744073709551616 ∧ ∃ g off, a = some ⟨g, off, none⟩ ∧ g < w.heap.size ∧ w.cell? ⟨g, off + k, none⟩ = some (.float .f64 x)
theorem FlAt.keep {w w' : World} {a : Option Addr} {l : List Nat} (h : FlAt w a l) (hb : Below w.heap.size w w') : FlAt w' a l := fun k x hx => by
  obtain ⟨h1, g, off, h2, h3, h4⟩ := h k x hx
  exact ⟨h1, g, off, h2, Nat.lt_of_lt_of_le h3 hb.size, (hb.cell (p := ⟨g, off + k, none⟩) h3).trans h4⟩
def fvs (l : List Nat) : List Value := l.map fun x => .float .f64 x
/-- A row of numbers with a point that is all of a slice. -/
def RowF (w : World) (g : Nat) (l : List Nat) : Prop := w.heap[g]? = some (.cells (fvs l).toArray 42 (0, 0))
section
variable {w : World} {g : Nat} {l : List Nat}
theorem RowF.fr (h : RowF w g l) (i : Nat) : w.frozen? ⟨g, i, none⟩ = false := row_frozen h i
theorem RowF.cell (h : RowF w g l) (i x : Nat) (hx : l[i]? = some x) : w.cell? ⟨g, i, none⟩ = some (.float .f64 x) := by
  rw [cell_of_row _ _ _ _ _ _ h, List.getElem?_toArray]; unfold fvs; rw [List.getElem?_map, hx]; rfl
theorem RowF.at (h : RowF w g l) (i : Nat) (hi : i < l.length) : ∃ u, w.cell? ⟨g, i, none⟩ = some u := ⟨_, h.cell i _ (List.getElem?_eq_getElem hi)⟩
theorem RowF.set (h : RowF w g l) (i x : Nat) : RowF (w.setCell ⟨g, i, none⟩ (.float .f64 x)) g (l.set i x) := by
  unfold RowF at *
  rw [World.setCell]
  simp only [Array.getElem?_modify, if_pos, h, Option.map_some]
  have e : (fvs l).toArray.setIfInBounds i (.float .f64 x) = (fvs (l.set i x)).toArray := by
    unfold fvs; rw [List.map_set]; simp
  simp [e]
theorem RowF.keep {S : Nat → Prop} {w' : World} (h : RowF w g l) (hk : Kept S w w') (hg : ¬ S g) : RowF w' g l := hk.heap h hg
theorem RowF.isAt (h : RowF w g l) (hl : ∀ x ∈ l, x < 18446744073709551616) : FlAt w (some ⟨g, 0, none⟩) l := fun k x hx => ⟨hl x (List.mem_of_getElem? hx), g, 0, rfl, (Array.getElem?_eq_some_iff.1 h).1, by rw [Nat.zero_add]; exact h.cell k x hx⟩
end
theorem infoF64 : (Tryd.prog.info? 42).map (fun i => (i.zero, i.size, i.bytes)) = some (some (.float .f64 0), 1, 8) := by kernel_rfl
theorem rowF_zeros {w : World} {B g q : Nat} (h : w.ownsRow B 42 1 (.slice (some ⟨g, 0, none⟩) q q) q (madeCells (Value.float .f64 0).cells (q * 1)).toList) : RowF w g (List.replicate q 0) := by
  have e : fvs (List.replicate q 0) = List.replicate q (.float .f64 0) := by unfold fvs; rw [List.map_replicate]
  rw [Nat.mul_one, show (Value.float .f64 0).cells = #[.float .f64 0] from rfl, toList_madeCells_one, ← e] at h
  rcases h.2 with ⟨h1, h2⟩ | ⟨g', cap', cur, h1, hb, hrow, -, -, hs, ht⟩
  · cases h1
  · cases h1
    unfold RowF
    rw [hrow]
    have hc : cur = (fvs (List.replicate q 0)).toArray := by
      apply Array.ext'
      rw [← ht, Nat.mul_one, List.take_of_length_le (by rw [Array.length_toList, hs]; omega)]
    rw [hc]
theorem run_store_flC (w : World) (a : Addr) (y : Nat) (u : Value) (hc : w.cell? a = some u) (hf : w.frozen? a = false) : (store a (.float .f64 y)).run Tryd.prog w = .ok () (w.setCell a (.float .f64 y)) := by
  rw [run_store Tryd.prog w a _ _ rfl]
  simp [stored, hc, hf]
/-- A number's bits as a number with a sign. -/
def rwI (b : Nat) : Int := IntKind.i64.wrap ((Fl.canon b : Nat) : Int)
theorem rwI_wf (b : Nat) : Wf64 (rwI b) := by unfold rwI Wf64; rw [IntKind.wrap_i64]; omega
def u64N (x : Int) : Nat := (IntKind.u64.wrap x).toNat
theorem rw_snoc (l : List Nat) (k b : Nat) (h : l[k]? = some b) : (l.map rwI).take (k + 1) = (l.map rwI).take k ++ [rwI b] := by
  rw [List.take_add_one, List.getElem?_map, h]; rfl
set_option maxHeartbeats 2000000 in
theorem reals_any (b : Option Addr) (n c : Nat) (l : List Nat) (hn : Hid (n = l.length)) (hn1 : n ≤ 4096) (W : World) (HL : Hid (FlAt W b l)) :
    Calls Tryd.prog 38 #[.slice b n c] W (Puts W.heap.size W (intsL (l.map rwI))) := by
  obtain ⟨iu, hiu, hz0, hz1, hz2⟩ := info_parts infoI64'
  have hzb : iu.bytes * n ≤ 281474976710656 := by rw [hz2]; omega
  have hnm : n ≤ maxLen := by unfold maxLen; omega
  have HLEN : Hid ((l.map rwI).length = n) := Lib.hid (by rw [List.length_map]; exact hn.out.symm)
  go_enter Tryd.func38, Tryd.ntmps38
  go_wp2_with (refine wpList_make_full _ rfl (.tmp 7) (.tmp 7) 74 rfl W.heap.size 2 iu (.int .i64 0) 1 Tryd.underlying74 hiu hz0 hz1 .i64 .i64 _ _ n rfl rfl rfl rfl hzb hnm (Nat.le_refl _) ?_; intro w1 own hgr; have HRI := Lib.hid (rowI_zeros own); have HB1 : Hid (Below W.heap.size W w1) := Lib.hid ((Below.refl _ W).grown hgr (Nat.le_refl _) (by intro k hk; cases hk)); clear own hgr)
  obtain ⟨L, hL⟩ : ∃ L, L = W.heap.size := ⟨_, rfl⟩
  rw [← hL] at HRI ⊢
  have HLE := Lib.hid hL
  clear hL
  go_loopw [11] (fun v wr => ∃ k : Nat, k ≤ n ∧ v = .int .i64 (k : Int) ∧ RowI wr L ((l.map rwI).take k ++ List.replicate (n - k) 0) ∧ Below L W wr) (fun v _ => n - (intOf v).toNat)
  case atStart => exact ⟨0, Nat.zero_le _, rfl, by simpa using HRI.out, by rw [HLE.out]; exact HB1.out⟩
  case round =>
    obtain ⟨k, hk, rfl, hrow, hb⟩ := hrel
    have HROW := Lib.hid hrow; have HB : Hid (Below W.heap.size W wr) := Lib.hid (HLE.out ▸ hb)
    clear hrow hb HRI HB1
    by_cases hlt : k < n
    · obtain ⟨x, hx⟩ : ∃ x, l[k]? = some x := ⟨l[k]'(by have := hn.out; omega), List.getElem?_eq_getElem _⟩
      obtain ⟨hx64, g, off, rfl, -, hcx⟩ := (HL.out.keep HB.out) k x hx
      have HSN := Lib.hid (rw_snoc l k x hx)
      have HBI := Lib.hid (bits_any x hx64)
      have f2 := HROW.out.fr k
      obtain ⟨u2, c2⟩ := HROW.out.at k (by rw [List.length_append, List.length_replicate, List.length_take]; have := HLEN.out; omega)
      have HSET := Lib.hid (fill_set ((l.map rwI).take k) n k (by rw [List.length_take]; have := HLEN.out; omega) hlt (rwI x))
      obtain ⟨y, hy⟩ : ∃ y, y = Fl.canon x := ⟨_, rfl⟩
      rw [← hy] at HBI
      have hyw : IntKind.i64.wrap (y : Int) = rwI x := by rw [hy]; rfl
      clear hx hy
      go_wp2_with (go_at_call 62; refine (HBI.out _).mono ?_; rintro e w2 ⟨rfl, rfl⟩)
      go_roundw
      case rel => exact ⟨k + 1, by omega, by go_num, by rw [HSN.out, ← HSET.out]; exact HROW.out.set k (rwI x), by rw [HLE.out]; exact HB.out.setCell (Nat.le_refl _) _⟩
      case measure => simp [intOf]; omega
    · obtain rfl : k = n := by omega
      have hr := HROW.out
      rw [Nat.sub_self, List.replicate_zero, List.append_nil, List.take_of_length_le (by have := HLEN.out; omega)] at hr
      have HO := Lib.hid (hr.own (B := L) (Nat.le_refl _) (fun x hx => by obtain ⟨y, -, rfl⟩ := List.mem_map.1 hx; exact rwI_wf y) (by rw [HLEN.out]; exact hnm))
      rw [HLEN.out] at HO
      have HI := Lib.hid (ints_any (some ⟨L, 0, none⟩) k k (l.map rwI) (Lib.hid HLEN.out.symm) (Nat.le_refl _) (by omega) (by omega) wr (Lib.hid HO.out.isAt))
      clear hr
      go_wp2_with (go_at_call 36; (with_reducible refine (HI.out).mono ?_); rintro e w2 ⟨A2, n2, c2, rfl, h1, h2, h3⟩; have HO2 := Lib.hid (h1.more HB.out.size); have HB2 := Lib.hid (below_to HB.out h2); clear h1 h2 h3)
      go_ret
      exact ⟨A2, n2, c2, rfl, HO2.out, HB2.out, HB2.out.size⟩
end Go.Proofs.YtenmjofbamihdaaDoor
