/-
  A slice of events that came in, opened: beside a tied card's frame. Made by gen_po.py out of event/XPk and event/XPe.
-/
import Derived.Test.YtifabkbdiiolfaaGreatDoorEeK
import Derived.Sort.LotA
import Derived.Sort.WalkA
import Derived.Shelf.SlSortCmp.KitK
import Derived.Deep.MidRow
import Derived.Laws.AppendOwnNone
import Derived.Laws.OwnMore
import Derived.Maps.AppendAt
import Derived.OwnWalk
import Derived.OwnWalkIn
import Derived.Test.YtifabkbdiiolfaaGreatDoorTie
import Derived.Test.YtifabkbdiiolfaaGreatDoorCards
import Derived.ProofKit
import Derived.Laws.Cover2
import Derived.WideKeyArgs
import Derived.Carry
import Derived.Deep.Slices
import Derived.LaidMore
import Derived.OpenShut
import Derived.Stop.Joined
import Derived.SevenTiedAt
import Derived.SizedLaws
import Derived.Test.YtifabkbdiiolfaaGreatDoorByK
import Derived.Test.YtifabkbdiiolfaaGreatDoorGcK
set_option linter.unusedSimpArgs false
set_option linter.unusedVariables false
namespace Go.Proofs.YtifabkbdiiolfaaGreatDoor
open Go.RowKit Go.Sort
theorem Grew.below {w w' : World} (h : Grew w w') : Below w.heap.size w w' := by
 obtain ⟨q, os, rfl⟩ := h
 have h : Below w.heap.size w (w.drewN q) := ⟨rfl, rfl, rfl, Nat.le_refl _, fun _ _ => rfl⟩
 exact below_grow h h.size os
def lessB (x y : Ev) : Bool := decide (evCmp x y < 0)
def formB (x : Ev) (p : Int) : Bool := decide (0 ≤ x.part) && decide (x.part < p) && decide (-1099511627776 ≤ x.time) && decide (x.time ≤ 1099511627776) && decide (x.key.size ≤ 32) && decide (x.off < 1099511627776)
set_option maxHeartbeats 1000000 in
theorem form_any (x : Ev) (p : Int) (w : World) : Calls Tryz.prog 65 #[.agg #[.int .u64 (x.off : Int), .int .i64 x.part, .int .i64 x.time, .string x.key, .float .f64 x.val], .int .i64 p] w fun e w' => e = .returned (.bool (formB x p)) ∧ Below w.heap.size w w' := by
 go_enter Tryz.func65, Tryz.ntmps65
 go_wp2
 all_goals
  go_ret
  refine ⟨ret_eq ?_, (Below.refl w.heap.size w).alloc (Nat.le_refl _) _⟩
  exact congrArg Value.bool (by unfold formB; rw [Bool.eq_iff_iff]; simp only [Bool.and_eq_true, decide_eq_true_eq, Bool.false_eq_true, false_iff]; omega)
set_option maxHeartbeats 1000000 in
theorem refForm_any (x : Ev) (p : Int) (w : World) : Calls Tryz.prog 33 #[.agg #[.int .u64 (x.off : Int), .int .i64 x.part, .int .i64 x.time, .string x.key, .float .f64 x.val], .int .i64 p] w fun e w' => e = .returned (.bool (formB x p)) ∧ Below w.heap.size w w' := by
 go_enter Tryz.func33, Tryz.ntmps33
 go_wp2
 all_goals
  go_ret
  refine ⟨ret_eq ?_, (Below.refl w.heap.size w).alloc (Nat.le_refl _) _⟩
  exact congrArg Value.bool (by unfold formB; rw [Bool.eq_iff_iff]; simp only [Bool.and_eq_true, decide_eq_true_eq, Bool.false_eq_true, false_iff]; omega)
def keqB (x y : Ev) : Bool := x.key.toList == y.key.toList
def sameB (x y : Ev) : Bool := decide ((x.off : Int) = (y.off : Int)) && decide (x.part = y.part) && decide (x.time = y.time) && keqB x y && decide (Fl.canon x.val = Fl.canon y.val)
def boxes2 (w : World) (x y : Ev) : World := (w.alloc (.cells #[.int .u64 (x.off : Int), .int .i64 x.part, .int .i64 x.time, .string x.key, .float .f64 x.val] 45)).alloc (.cells #[.int .u64 (y.off : Int), .int .i64 y.part, .int .i64 y.time, .string y.key, .float .f64 y.val] 45)
theorem boxes2_below (w : World) (x y : Ev) : Below w.heap.size w (boxes2 w x y) := ((Below.refl w.heap.size w).alloc (Nat.le_refl _) _).alloc (by simp) _
def parts4 (a b c d : Bool) (r s : Bool) : Prop := s = (a && b && c && d && r)
set_option maxHeartbeats 2000000 in
theorem refEvSame_any (x y : Ev) (hx : x.val < 18446744073709551616) (hy : y.val < 18446744073709551616) (w : World) : Calls Tryz.prog 51 #[.agg #[.int .u64 (x.off : Int), .int .i64 x.part, .int .i64 x.time, .string x.key, .float .f64 x.val], .agg #[.int .u64 (y.off : Int), .int .i64 y.part, .int .i64 y.time, .string y.key, .float .f64 y.val]] w fun e w' => e = .returned (.bool (sameB x y)) ∧ Below w.heap.size w w' := by
 have HB := Lib.hid (boxes2_below w x y)
 have HC := Lib.hid fun w => refSame_any x.val y.val hx hy w
 have hb : (x.key.toList == y.key.toList) = keqB x y := rfl
 have HS : Hid (parts4 (decide ((x.off : Int) = (y.off : Int))) (decide (x.part = y.part)) (decide (x.time = y.time)) (keqB x y) (decide (Fl.canon x.val = Fl.canon y.val)) (sameB x y)) := Lib.hid rfl
 generalize decide (Fl.canon x.val = Fl.canon y.val) = r at *
 generalize sameB x y = s at *
 clear hx hy
 generalize keqB x y = kb at *
 cases kb
 all_goals
  go_enter Tryz.func51, Tryz.ntmps51
  go_wp2_with (go_at_call 85; refine (HC.out _).mono ?_; rintro e w' ⟨rfl, rfl⟩)
  all_goals
   go_ret
   refine ⟨ret_eq ?_, ((Below.refl w.heap.size w).alloc (Nat.le_refl _) _).alloc (by simp) _⟩
   have h := HS.out
   unfold parts4 at h
   rw [h]
   exact congrArg Value.bool (by simp [*])
end Go.Proofs.YtifabkbdiiolfaaGreatDoor

namespace Go.Proofs.YtifabkbdiiolfaaGreatDoor
open Go.RowKit Go.Sort
section
variable {α : Type} (lt : α → α → Bool)
def insR (x : α) : List α → List α
 | [] => [x]
 | e :: r => if lt x e then e :: insR x r else x :: e :: r
def insB (x : α) (s : List α) : List α := (insR lt x s.reverse).reverse
variable {lt}
theorem insB_nil (x : α) : insB lt x [] = [x] := rfl
theorem insB_snoc (x e : α) (r : List α) : insB lt x (r ++ [e]) = if lt x e = true then insB lt x r ++ [e] else r ++ [e, x] := by
 unfold insB; rw [List.reverse_append]
 show (insR lt x (e :: r.reverse)).reverse = _
 rw [insR]; split <;> simp
/-- A stretch of a list. -/
def seg (l : List α) (a b : Nat) : List α := (l.drop a).take (b - a)
variable [Inhabited α]
end
end Go.Proofs.YtifabkbdiiolfaaGreatDoor

namespace Go.Proofs.YtifabkbdiiolfaaGreatDoor
open Go.RowKit Go.Sort
theorem ta_get (l : List Ev) (i : Nat) : l.toArray[i]! = l[i]! := by simp
/-- Two are exchanged. -/
def lswp (l : List Ev) (i j : Nat) : List Ev := (swp l.toArray i j).toList
theorem lswp_arr (l : List Ev) (i j : Nat) : swp l.toArray i j = (lswp l i j).toArray := by unfold lswp; simp
theorem lswp_len (l : List Ev) (i j : Nat) : (lswp l i j).length = l.length := by unfold lswp; rw [Array.length_toList, swp_size]; simp
theorem lswp_get (l : List Ev) {i j : Nat} (hi : i < l.length) (hj : j < l.length) (k : Nat) : (lswp l i j)[k]! = if k = j then l[i]! else if k = i then l[j]! else l[k]! := by
 have h := swp_get l.toArray (i := i) (j := j) (by simpa using hi) (by simpa using hj) k
 rw [lswp_arr, ta_get, ta_get, ta_get, ta_get] at h; exact h
end Go.Proofs.YtifabkbdiiolfaaGreatDoor

set_option maxRecDepth 8000
namespace Go.Proofs.YtifabkbdiiolfaaGreatDoor
open Go.RowKit Go.Sort
theorem uEvent : Tryz.prog.underlying 45 = some (.struct (Tryz.prog.fieldsOf 45)) := by kernel_rfl
theorem iEvent (x : Ev) : (Tryz.prog.info? 45).map (·.size) = some x.cells.length := by rw [cells_len]; kernel_rfl
section
variable {w0 w : World} {blk N : Nat} {l : List Ev}
end
/-- What swapRange leaves. -/
def SwapR (l : List Ev) (a b n : Nat) (m : List Ev) : Prop := m.length = l.length ∧ ∀ k, k < l.length → m[k]! = l[if a ≤ k ∧ k < a + n then b + (k - a) else if b ≤ k ∧ k < b + n then a + (k - b) else k]!
theorem SwapR.zero (l : List Ev) (a b : Nat) : SwapR l a b 0 l := ⟨rfl, fun k hk => by rw [if_neg (by omega), if_neg (by omega)]⟩
theorem SwapR.step {l m : List Ev} {a b i : Nat} (h : SwapR l a b i m) (hab : a + i < b) (hb : b + i < l.length) : SwapR l a b (i + 1) (lswp m (a + i) (b + i)) := by
 refine ⟨(lswp_len _ _ _).trans h.1, fun k hk => ?_⟩
 rw [lswp_get _ (by rw [h.1]; omega) (by rw [h.1]; omega), h.2 k hk, h.2 (a + i) (by omega), h.2 (b + i) (by omega)]
 by_cases h1 : k = b + i
 ·rw [if_pos h1, if_neg (by omega), if_neg (by omega), if_neg (by omega), if_pos (by omega), show a + (k - b) = a + i by omega]
 ·rw [if_neg h1]
  by_cases h2 : k = a + i
  ·rw [if_pos h2, if_neg (by omega), if_neg (by omega), if_pos (by omega), show b + (k - a) = b + i by omega]
  ·rw [if_neg h2]
   congr 1
   repeat' split
   all_goals omega
end Go.Proofs.YtifabkbdiiolfaaGreatDoor

namespace Go.Proofs.YtifabkbdiiolfaaGreatDoor
open Go.RowKit Go.Sort
theorem ro_slice {w : World} {B n : Nat} {v : Value} {xs : List Value} (h : w.ownsRow B 45 5 v n xs) : ∃ A cap, v = .slice A n cap ∧ n ≤ cap ∧ cap ≤ maxLen ∧ (A = none → cap = 0) := by
 rcases h.2 with ⟨e0, e1⟩ | ⟨g, cap', cur, e0, -, -, h1, h2, -⟩
 ·exact ⟨none, 0, by rw [e0, e1], by omega, Nat.zero_le _, fun _ => rfl⟩
 ·exact ⟨_, _, e0, h1, h2, fun h => by cases h⟩
theorem ro_base {w : World} {B n cap : Nat} {A : Option Addr} {l : List Ev} (h : OwnE w B A n cap l) : ∀ k, (Value.slice A n cap).ownBlock = some k → B ≤ k := by
 intro k hk
 rcases h.2 with ⟨e0, e1⟩ | ⟨g, cap', cur, e0, hb, -⟩
 ·rw [e0] at hk; cases hk
 ·rw [e0] at hk; cases hk; exact hb
/-- append of events, the source nil, empty or not. -/
theorem wpList_append_ev {w : World} {ops : Array Oper} {rest : List Oper} {o : Oper} {ac : Act} {Q : Exit → Act → World → Prop} (hgd : o.guard = none) (s x : Operand)
  (ho : o.op = .call { callee := .builtin .append, args := #[s, x], argTypes := #[22, 22] })
  (B : Nat) (A : Option Addr) (n cap : Nat) (l : List Ev) (hs : ac.eval s = .slice A n cap) (hown : OwnE w B A n cap l) (a : Option Addr) (m c : Nat) (l2 : List Ev) (hx : ac.eval x = .slice a m c) (hm : m = l2.length) (h2 : EvAt w a l2) (hnil : a = none → c = 0)
  (N : Nat) (hN : N = n + m) (hbytes : n + m ≤ 1000) (hbase : B ≤ w.heap.size)
  (h : ∀ A' cap' w', OwnE w' B A' N cap' (l ++ l2) → N ≤ cap' → cap' ≤ maxLen → (A' = none → cap' = 0) → Below B w w' → wpList Tryz.prog ops Q rest (ac.put o.dst (.slice A' N cap')) w') : wpList Tryz.prog ops Q (o :: rest) ac w := by
 subst hN
 obtain ⟨i0, hi, hz0, hz1, hz2⟩ := info_parts infoEv
 rcases a with _ | ad
 ·obtain rfl := hnil rfl
  have hl2 : l2 = [] := by
   rcases l2 with _ | ⟨x, r⟩
   ·rfl
   ·obtain ⟨g, off, e, -⟩ := h2 0 (.int .u64 (x.off : Int)) rfl; cases e
  subst hl2
  have h0 : m = 0 := hm
  subst h0
  obtain ⟨A1, c1, e1, e2, e3, e4⟩ := ro_slice hown
  injection e1 with b1 b2 b3
  subst b1; subst b3
  refine wpList_append_own_none hgd s x 22 ho B 45 i0 5 Tryz.underlying22 hi (.slice A n cap) n (evs l) hs hown hx ?_
  exact h A cap w (by rw [List.append_nil]; exact hown) e2 e3 e4 (Below.refl _ _)
 ·refine wpList_append_own_at w hgd s x 22 ho B 45 i0 _ 5 48 Tryz.underlying22 hi hz0 hz1 hz2 rfl (by decide) (.slice A n cap) n (evs l) hs hown ad m c (evs l2) hx (by rw [evs_length, hm]) (fun j u hu => by
   obtain ⟨g', off', e, -, hc⟩ := h2 j u hu
   injection e with e; subst e
   rw [Addr.add_lit]; exact hc) (evs_one l2) (by unfold maxLen; omega) (by omega) hbase ?_
  intro v' w2 hown2 hgr _ _
  have e : evs l ++ evs l2 = evs (l ++ l2) := by unfold evs; rw [List.flatMap_append]
  rw [e] at hown2
  obtain ⟨A1, c1, rfl, e2, e3, e4⟩ := ro_slice hown2
  exact h A1 c1 w2 hown2 e2 e3 e4 ((Below.refl _ w).grown hgr hbase (ro_base hown))
theorem evs_drop (l : List Ev) (k : Nat) (hk : k ≤ l.length) (j : Nat) : (evs (l.drop k))[j]? = (evs l)[k * 5 + j]? := by
 have e : evs l = evs (l.take k) ++ evs (l.drop k) := by unfold evs; rw [← List.flatMap_append, List.take_append_drop]
 have hl : (evs (l.take k)).length = k * 5 := by rw [evs_length, List.length_take, Nat.min_eq_left hk]
 rw [e, List.getElem?_append_right (by omega), hl, Nat.add_sub_cancel_left]
theorem ecut_from (a : Option Addr) (len cap k : Nat) (hk : k ≤ len) (hc : len ≤ cap) (hnil : a = none → cap = 0) :
  ∃ A C, (∀ w, (Instr.slice 22 (.slice a len cap) (some (.int .i64 (k : Int))) none none).run Tryz.prog w = .ok (.slice A (len - k) C) w) ∧ (A = none → C = 0) ∧ ∀ w l, len = l.length → EvAt w a l → EvAt w A (l.drop k) := by
 refine ⟨if cap = k then a else a.map (·.add (k * 5)), cap - k, fun w => ?_, fun h => ?_, fun w l hl h j x hx => ?_⟩
 ·rw [run_slice_l w 22 a len cap Tryz.underlying22 .i64 (k : Int) (by omega) (by omega)]
  rw [show (Go.sizeOf (Tryz.prog.elem 22)).run Tryz.prog w = .ok 5 w from by kernel_rfl]
  simp [Result.andThen, sliced]
 ·split at h
  ·omega
  ·rcases a with _ | a
   ·have := hnil rfl; omega
   ·cases h
 ·have hkl : k < l.length := by
   have := (List.getElem?_eq_some_iff.1 hx).1
   rw [evs_length, List.length_drop] at this; omega
  rw [evs_drop l k (by omega)] at hx
  obtain ⟨g, off, rfl, hg, hcell⟩ := h _ _ hx
  rw [if_neg (by omega)]
  exact ⟨g, off + k * 5, by simp [Addr.add_lit], hg, by rw [Nat.add_assoc]; exact hcell⟩
/-- The place of an insertion. -/
def InsAt (x : Ev) (s : List Ev) (k : Nat) : Prop := insB (ltOf evCmp) x s = insB (ltOf evCmp) x (s.take k) ++ s.drop k
theorem InsAt.start (x : Ev) (s : List Ev) (k : Nat) (hk : k = s.length) : InsAt x s k := by subst hk; unfold InsAt; simp
theorem InsAt.step {x y : Ev} {s : List Ev} {k : Nat} (h : InsAt x s (k + 1)) (hy : s[k]? = some y) (hl : lessB x y = true) : InsAt x s k := by
 unfold InsAt at *
 obtain ⟨hk, rfl⟩ := List.getElem?_eq_some_iff.1 hy
 have hl' : ltOf evCmp x s[k] = true := hl
 rw [h, List.take_succ_eq_append_getElem hk, insB_snoc, if_pos hl', List.append_assoc]
 congr 1
 rw [List.drop_eq_getElem_cons hk]; rfl
theorem InsAt.stop {x y : Ev} {s : List Ev} {k : Nat} (h : InsAt x s (k + 1)) (hy : s[k]? = some y) (hl : lessB x y = false) : insB (ltOf evCmp) x s = (s.take (k + 1) ++ [x]) ++ s.drop (k + 1) := by
 unfold InsAt at h
 obtain ⟨hk, rfl⟩ := List.getElem?_eq_some_iff.1 hy
 have hl' : ¬ ltOf evCmp x s[k] = true := by have e : ltOf evCmp x s[k] = false := hl; rw [e]; decide
 have e : s.take k ++ [s[k]] = s.take (k + 1) := (List.take_succ_eq_append_getElem hk).symm
 rw [h, ← e, insB_snoc, if_neg hl', List.append_assoc (s.take k) [s[k]] [x]]; rfl
theorem InsAt.zero {x : Ev} {s : List Ev} (h : InsAt x s 0) : insB (ltOf evCmp) x s = (s.take 0 ++ [x]) ++ s.drop 0 := by
 unfold InsAt at h; rw [h]; simp [insB_nil]
theorem OwnE.at' {w : World} {B n cap : Nat} {A : Option Addr} {l : List Ev} (h : OwnE w B A n cap l) : EvAt w A l := fun j v hv => by
 have hjl := (List.getElem?_eq_some_iff.1 hv).1
 rcases h.2 with ⟨e0, e1⟩ | ⟨g, cap', cur, e0, hb, hg, hn, hm, hs, ht⟩
 ·have := h.1; rw [e1, Nat.zero_mul] at this; omega
 ·injection e0 with a1 a2 a3
  subst a1
  refine ⟨g, 0, rfl, (Array.getElem?_eq_some_iff.1 hg).1, ?_⟩
  rw [cell_of_row _ _ _ _ _ _ hg, Nat.zero_add, ← Array.getElem?_toList]
  have := h.1
  rw [← ht, List.getElem?_take] at hv
  rw [if_pos (by omega)] at hv
  exact hv
theorem evr {w : World} {A : Option Addr} {l : List Ev} (h : EvAt w A l) (i : Nat) (x : Ev) (hx : l[i]? = some x) : ∃ g off, A = some ⟨g, off, none⟩ ∧ g < w.heap.size ∧ w.rangeAt g (off + i * 5) x.cells := by
 have h0 : (evs l)[i * 5 + 0]? = x.cells[0]? := by rw [evs_get l i 0 (by decide), hx]; rfl
 obtain ⟨g, off, e, hg, -⟩ := h (i * 5 + 0) (.int .u64 (x.off : Int)) (by rw [h0]; rfl)
 refine ⟨g, off, e, hg, fun j v hv => ?_⟩
 have hj : j < 5 := (List.getElem?_eq_some_iff.1 hv).1
 have h1 : (evs l)[i * 5 + j]? = some v := by rw [evs_get l i j hj, hx]; exact hv
 obtain ⟨g', off', e', -, hc⟩ := h _ _ h1
 rw [e] at e'; injection e' with e'; injection e' with b1 b2; subst b1; subst b2
 rw [Nat.add_assoc]; exact hc
theorem rkeep {w w' : World} {g o : Nat} {x : Ev} (h : w.rangeAt g o x.cells) (hg : g < w.heap.size) (hb : Below w.heap.size w w') : w'.rangeAt g o x.cells := fun j v hv => (hb.cell (p := ⟨g, o + j, none⟩) hg).trans (h j v hv)
theorem OwnE.less {w : World} {B B' n cap : Nat} {A : Option Addr} {l : List Ev} (h : OwnE w B A n cap l) (hB : B' ≤ B) : OwnE w B' A n cap l := by
 refine ⟨h.1, ?_⟩
 rcases h.2 with h1 | ⟨g, cap', cur, h1, hb, h2⟩
 ·exact .inl h1
 ·exact .inr ⟨g, cap', cur, h1, Nat.le_trans hB hb, h2⟩
end Go.Proofs.YtifabkbdiiolfaaGreatDoor

namespace Go.Proofs.YtifabkbdiiolfaaGreatDoor
open Go.ChangeShapes Go.WideShapes Go.ChangeAt Go.WideElems Go.RowKit
theorem Tryz.own : ownKnob Tryz.prog.godebug = none := by kernel_rfl
theorem Tryz.laidOut : laidOutB Tryz.prog = true := by kernel_rfl
section
variable {H : Type} {enc : TypeId × Value → H} {P : Program}
theorem trodAll_keep {W W' : World} {sp : Nat → Bool} (hl : laidOutB P = true) (hs : ∀ x : MemPlace, x.block < W.heap.size → W.sameAt W' x) : ∀ (ts : List TypeId) (vs : List Value) (ds : List (DataW H)) (ps : List MemPlace),
  (∀ t, t ∈ ts → P.readableRec t = true ∧ t < P.types.size) → DataW.TrodAll enc P W 0 (fun _ => true) true ts vs ds ps → (∀ x, x ∈ ps → x.block < W.heap.size) → (∀ x, x ∈ ps → sp x.block = true) →
  DataW.TrodAll enc P W' 0 sp true ts vs ds ps
 | [], [], [], _, _, h, _, _ => h
 | t :: ts, v :: vs, d :: ds, ps, hr, ⟨p, q, hd, hrest, he⟩, hlt, hsp => by
  subst he
  refine ⟨p, q, ?_, trodAll_keep hl hs ts vs ds q (fun t ht => hr t (by simp [ht])) hrest (fun x hx => hlt x (by simp [hx])) (fun x hx => hsp x (by simp [hx])), rfl⟩
  exact WideElems.Trod_stays hl (hr t (by simp)).1 (hr t (by simp)).2 hd (fun x hx => hs x (hlt x (by simp [hx]))) (fun x hx => hsp x (by simp [hx]))
 | [], [], _ :: _, _, _, h, _, _ => h.elim
 | [], _ :: _, _, _, _, h, _, _ => h.elim
 | _ :: _, [], _, _, _, h, _, _ => h.elim
 | _ :: _, _ :: _, [], _, _, h, _, _ => h.elim
theorem post_law {f : Func} {s : ChangeSpec} {W W' : World} {args : Array Value} {ds : List (DataW H)} {before : List MemPlace} {tb : TypeId} (hl : laidOutB P = true)
  (hv : s.vars = []) (hW : DataW.Whole enc P f.params.toList s.vars false W args.toList ds [] before)
  (hrec : ∀ t, t ∈ f.params.toList → P.readableRec t = true ∧ t < P.types.size)
  (hres : (s.fn H ds).results = [.lit (.bool true)]) (hargs : (s.fn H ds).args = ds) (hvs : (s.fn H ds).vars = [])
  (hrt : f.resultTypes = #[tb]) (htb : P.underlying tb = some .bool) (hb : Below W.heap.size W W') : s.post enc P f false true false false W args (.bool true) W' := by
 have hlt : ∀ x, x ∈ before → x.block < W.heap.size := fun x hx => hW.lt x hx
 have hW2 := hW
 obtain ⟨p, q, hA, hV, rfl, -, -⟩ := hW2
 have hq : q = [] := by rw [hv] at hV; exact hV
 subst hq
 refine ⟨ds, [], p ++ [], [], p, [], hW, ?_, ?_, ?_, hb.frame _, fun h => by cases h⟩
 ·rw [List.append_nil, hres, hrt]
  exact trodAll_mk1 (shut_bool htb true)
 ·rw [List.append_nil, hargs]
  exact trodAll_keep hl (fun x hx => hb.same hx) _ _ _ _ hrec hA (fun x hx => hlt x (by simp [hx])) (fun x hx => by simpa using hlt x (by simp [hx]))
 ·rw [List.append_nil, hv, hvs]; rfl
end
theorem gHalves : Tryz.prog.globalNamed "headrace/page.halves" = some 0 := by kernel_rfl
theorem tHalves : (Tryz.prog.globals[0]?).map (·.type) = some 161 := by kernel_rfl
def laidHalves {H : Type} : List (String × DataW H) := [("headrace/page.halves", Rows.laid_headrace_page_halves)]
theorem door_met (os : Os) (args : Array Value) : laidMetH Tryz.prog laidHalves ((World.doorLaid Tryz.prog 400 os).forCall (fun _ _ => 0) ⟨#[], args, []⟩).memory :=
 laidMetH_of_parts3 (fuel := 8) (laidMet_of_run' 8 (by kernel_rfl) (by kernel_rfl)) (by kernel_rfl) (by kernel_rfl)
theorem laid_parts (i : Nat) (hi : i < 16) : ∃ parts : List (DataW Unit), (Rows.laid_headrace_page_halves : DataW Unit) = .agg parts ∧ parts[i]? = some (.lit (.int .u32 (Pg.half i : Nat))) := by
 refine ⟨_, rfl, ?_⟩
 exact match i, hi with
 | 0, _ => rfl
 | 1, _ => rfl
 | 2, _ => rfl
 | 3, _ => rfl
 | 4, _ => rfl
 | 5, _ => rfl
 | 6, _ => rfl
 | 7, _ => rfl
 | 8, _ => rfl
 | 9, _ => rfl
 | 10, _ => rfl
 | 11, _ => rfl
 | 12, _ => rfl
 | 13, _ => rfl
 | 14, _ => rfl
 | 15, _ => rfl
 | n + 16, h => absurd h (by omega)
/-- What the condition gives the walks: the table's cells. -/
theorem of_laid {W : World} (h : laidMetH Tryz.prog laidHalves W) : HalvesAt W := by
 rw [MakeChecks.laidMetH_plain _ _ _ (by kernel_rfl)] at h
 obtain ⟨ps, ⟨g0, t0, cs0, f0, p0, q0, hg0, ht0, hv0, hd0, _, _⟩, _, _⟩ := h
 obtain rfl := Option.some.inj (gHalves.symm.trans hg0)
 obtain rfl := Option.some.inj (tHalves.symm.trans ht0)
 obtain ⟨xs, m1, rfl, hx1, hlen, hn3, hel⟩ := DataW.trod_array Tryz.underlying161 hd0
 have c3 : Tryz.prog.cellsOf 23 = 1 := by kernel_rfl
 intro i hi
 obtain ⟨parts, hp, hpi⟩ := laid_parts i hi
 rw [hp] at hx1
 simp only [Prod.mk.injEq, DataW.agg.injEq] at hx1
 have hxi : xs[i]? = some (xs[i]'(by omega)) := List.getElem?_eq_getElem (by omega)
 have hi1 := hel i hi
 rw [c3, Nat.mul_one, hxi] at hi1
 obtain ⟨k, e1, e2, _⟩ := DataW.trod_int Tryz.underlying23 hi1
 have hk : k = (Pg.half i : Nat) := by
  rw [hx1.1, List.getElem?_map, hxi] at hpi
  simp only [Option.map_some, Option.some.injEq] at hpi
  rw [e2] at hpi
  simpa using hpi
 subst hk
 have hc := World.var?_cell hg0 hv0 i
 rw [hc, ← Array.getElem?_toList]
 have h2 : (cs0.toList.drop i)[0]? = some (.int .u32 (Pg.half i : Nat)) := by
  have h3 : ((cs0.toList.drop i).take 1)[0]? = some (.int .u32 (Pg.half i : Nat)) := by rw [e1]; rfl
  rw [List.getElem?_take] at h3
  simpa using h3
 rw [List.getElem?_drop] at h2
 simpa using h2
end Go.Proofs.YtifabkbdiiolfaaGreatDoor

namespace Go.Proofs.YtifabkbdiiolfaaGreatDoor
open Go.ChangeShapes Go.WideShapes Go.ChangeAt Go.RowKit
section
variable {H : Type} {enc : TypeId × Value → H} {P : Program}
theorem trod_float' {w : World} {base : Nat} {spare : Nat → Bool} {held : Bool} {fuel : Nat} {cs : List Value} {x : DataW H × List MemPlace} {t : TypeId} (ht : P.underlying t = some (.float .f64)) (h : DataW.trod enc P w base spare held fuel t cs = some x) :
  ∃ b, cs = [.float .f64 b] ∧ (Lit.float .f64 b).wf = true := by
 cases fuel with
 | zero => simp [DataW.trod] at h
 | succ n =>
  unfold DataW.trod at h
  rw [ht] at h
  split at h <;> simp_all
end
section
variable {H : Type} {enc : TypeId × Value → H} {W : World} {base : Nat} {spare : Nat → Bool} {held : Bool}
/-- The cells of an event that came in. -/
theorem ev_cells {fuel : Nat} {cs : List Value} {y : DataW H × List MemPlace} (h : DataW.trod enc Tryz.prog W base spare held fuel 45 cs = some y) : ∃ x : Ev, cs = x.cells ∧ x.val < 18446744073709551616 := by
 obtain ⟨xs, n, -, -, hl, hxl, hg⟩ := DataW.trod_struct Tryz.underlying45 h
 have hC : Tryz.prog.cellsOf 45 = 5 := by kernel_rfl
 have hx5 : xs.length = 5 := hxl
 rw [hC] at hl
 have one : ∀ (i : Nat) (c : Value) (f : Field), cs[i]? = some c → i < 5 → f.offset = i → Tryz.prog.cellsOf f.type = 1 → DataW.trod enc Tryz.prog W base spare held n f.type ((cs.drop f.offset).take (Tryz.prog.cellsOf f.type)) = xs[i]? → ∃ y, DataW.trod enc Tryz.prog W base spare held n f.type [c] = some y := by
  intro i c f hc hi ho hk hf
  rw [ho, hk] at hf
  have e : (cs.drop i).take 1 = [c] := by
   obtain ⟨h1, h2⟩ := List.getElem?_eq_some_iff.1 hc
   rw [List.drop_eq_getElem_cons h1, h2]; rfl
  rw [e, List.getElem?_eq_getElem (by omega)] at hf
  exact ⟨_, hf⟩
 match cs, hl with
 | [c0, c1, c2, c3, c4], _ =>
  obtain ⟨y0, t0⟩ := one 0 c0 _ rfl (by decide) rfl (by kernel_rfl) (hg 0 _ rfl)
  obtain ⟨y1, t1⟩ := one 1 c1 _ rfl (by decide) rfl (by kernel_rfl) (hg 1 _ rfl)
  obtain ⟨y2, t2⟩ := one 2 c2 _ rfl (by decide) rfl (by kernel_rfl) (hg 2 _ rfl)
  obtain ⟨y3, t3⟩ := one 3 c3 _ rfl (by decide) rfl (by kernel_rfl) (hg 3 _ rfl)
  obtain ⟨y4, t4⟩ := one 4 c4 _ rfl (by decide) rfl (by kernel_rfl) (hg 4 _ rfl)
  obtain ⟨n0, e0, -, w0⟩ := DataW.trod_int (k := .u64) Tryz.underlying24 t0
  obtain ⟨n1, e1, -, -⟩ := DataW.trod_int (k := .i64) Tryz.underlying3 t1
  obtain ⟨n2, e2, -, -⟩ := DataW.trod_int (k := .i64) Tryz.underlying2 t2
  obtain ⟨s3, e3, -, -⟩ := DataW.trod_string Tryz.underlying9 t3
  obtain ⟨b4, e4, w4⟩ := trod_float' Tryz.underlying43 t4
  cases e0; cases e1; cases e2; cases e3; cases e4
  have h0 : 0 ≤ n0 := by
   have h : 0 ≤ n0 ∧ n0 ≤ 18446744073709551615 := by simpa [Lit.wf, IntKind.min, IntKind.max, IntKind.signed, IntKind.bits] using w0
   exact h.1
  refine ⟨⟨n0.toNat, n1, n2, s3, b4⟩, ?_, by simpa [Lit.wf] using w4⟩
  unfold Ev.cells
  rw [Int.toNat_of_nonneg h0]
end
section
variable {H : Type} {enc : TypeId × Value → H} {W : World}
theorem open_evs {b0 : Nat} {r : Reach} {v : Value} {d : DataW H} {ps : List MemPlace} (hok : Value.okWide Tryz.prog W r b0 22 v) (hd : DataW.Trod enc Tryz.prog W 0 (fun _ => true) true 22 v d ps) :
  ∃ (a : Option Addr) (l : List Ev) (cap : Nat), v = .slice a l.length cap ∧ l.length ≤ cap ∧ cap ≤ maxLen ∧ (a = none → l.length = 0 ∧ cap = 0) ∧ (∀ x, a = some x → x.spot = none) ∧ (∀ x ∈ l, x.val < 18446744073709551616) ∧ EvAt W a l := by
 have hu := Tryz.underlying22
 have hC : Tryz.prog.cellsOf 45 = 5 := by kernel_rfl
 obtain ⟨fuel, hf⟩ := hd
 obtain ⟨a, len, cap, rfl⟩ := okWide_slice hu hok
 rcases Deep.open_slice hu hf with ⟨hcs, -⟩ | ⟨a', len', cap', m, n, D, Pl, hcs, -, hl, hm, hmm, hx, hcell⟩
 ·simp [Value.cells] at hcs
  obtain ⟨rfl, rfl, rfl⟩ := hcs
  exact ⟨none, [], 0, rfl, Nat.le_refl _, by unfold maxLen; omega, fun _ => ⟨rfl, rfl⟩, fun x hx => (by cases hx), fun x hx => (by cases hx), fun k x hx => by simp [evs] at hx⟩
 ·simp [Value.cells] at hcs
  obtain ⟨rfl, rfl, rfl⟩ := hcs
  simp only [if_true] at hmm
  subst hmm
  have hspot : a'.spot = none := by
   simp only [Value.okWide, hu, Cell.okWide, Cell.ok] at hok
   exact hok.2.2.2.1
  obtain ⟨g, off, s⟩ := a'
  obtain rfl : s = none := hspot
  have hE : ∀ i, i < m → ∃ x : Ev, W.cells? 0 ((⟨g, off, none⟩ : Addr).add (i * 5)) 5 = some x.cells ∧ x.val < 18446744073709551616 := fun i hi => by
   obtain ⟨cs', h1, h2⟩ := hcell i hi
   rw [hC] at h1
   obtain ⟨x, rfl, hx⟩ := ev_cells h2
   exact ⟨x, h1, hx⟩
  obtain ⟨E, hE⟩ := Deep.choose_lt (α := Ev) (p := fun i x => W.cells? 0 ((⟨g, off, none⟩ : Addr).add (i * 5)) 5 = some x.cells ∧ x.val < 18446744073709551616) hE
  refine ⟨some ⟨g, off, none⟩, (List.range len).map E, m, by simp, by simpa using hl, hm, fun h => (by cases h), fun x hx => (by cases hx; rfl), fun x hx => ?_, fun k v hv => ?_⟩
  ·obtain ⟨i, hi, rfl⟩ := List.mem_map.1 hx
   exact (hE i (by have := List.mem_range.1 hi; omega)).2
  ·have hk : k < len * 5 := by
    have := (List.getElem?_eq_some_iff.1 hv).1
    rw [evs_length] at this; simpa using this
   have e := evs_get ((List.range len).map E) (k / 5) (k % 5) (by omega)
   rw [show k / 5 * 5 + k % 5 = k by omega, hv, List.getElem?_map, List.getElem?_range (by omega)] at e
   obtain ⟨h0, h1, h2⟩ := World.cells?_some (hE (k / 5) (by omega)).1
   have hg := World.cells?_block (hE (k / 5) (by omega)).1 (by decide)
   rw [Addr.add_lit] at hg
   refine ⟨g, off, rfl, hg, ?_⟩
   have h3 := h2 (k % 5) (by omega)
   rw [Addr.add_lit, Addr.add_lit, Nat.add_assoc, show k / 5 * 5 + k % 5 = k by omega] at h3
   rw [h3]; exact e.symm
end
end Go.Proofs.YtifabkbdiiolfaaGreatDoor
