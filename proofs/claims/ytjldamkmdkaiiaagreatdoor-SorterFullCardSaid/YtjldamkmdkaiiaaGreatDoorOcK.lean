/-
  Layer sorter: slices.Chunk of texts by any size.
-/
import Derived.Shelf.SlSortCmp.KitK
import Derived.Deep.MidRow
import Derived.Test.YtjldamkmdkaiiaaGreatDoorMaK
import Derived.Laws.AppendOwnNone
import Derived.Laws.OwnMore
import Derived.Maps.AppendAt
import Derived.OwnWalk
import Derived.OwnWalkIn
import Derived.Test.YtjldamkmdkaiiaaGreatDoorEfK
import Derived.RangeFuncNested
import Derived.RangeFuncBound
import Derived.RangeFuncCalls
import Derived.RangeFuncLeaves
import Derived.Shelf.Abstract
import Derived.Shelf.RegionOpen
import Derived.WalkKit
import Derived.TacticsInMore
import Derived.LoopNIn
import Derived.LoopIn
import Derived.Sort.QuietIn
set_option linter.unusedSimpArgs false
set_option linter.unusedVariables false
set_option maxRecDepth 8000
namespace Go.Proofs.YtjldamkmdkaiiaaGreatDoor
open Go.RowKit Go.Sort
theorem uEvent : Tryz.prog.underlying 51 = some (.struct (Tryz.prog.fieldsOf 51)) := by kernel_rfl
theorem iEvent (x : Ev) : (Tryz.prog.info? 51).map (·.size) = some x.cells.length := by rw [cells_len]; kernel_rfl
abbrev RowE (w0 : World) (blk N : Nat) : Prop := ∃ l0 : List Ev, l0.length = N ∧ RowK Ev.cells 5 w0 blk 0 l0.toArray
abbrev SWE (w0 : World) (blk : Nat) (l : List Ev) (w : World) : Prop := SWK Ev.cells 5 w0 blk 0 l.toArray w
section
variable {w0 w : World} {blk N : Nat} {l : List Ev}
end
def SwapR (l : List Ev) (a b n : Nat) (m : List Ev) : Prop := m.length = l.length ∧ ∀ k, k < l.length → m[k]! = l[if a ≤ k ∧ k < a + n then b + (k - a) else if b ≤ k ∧ k < b + n then a + (k - b) else k]!
theorem SwapR.zero (l : List Ev) (a b : Nat) : SwapR l a b 0 l := ⟨rfl, fun k hk => by rw [if_neg (by omega), if_neg (by omega)]⟩
theorem SwapR.step {l m : List Ev} {a b i : Nat} (h : SwapR l a b i m) (hab : a + i < b) (hb : b + i < l.length) : SwapR l a b (i + 1) (lswp m (a + i) (b + i)) := by
 refine ⟨(lswp_len _ _ _).trans h.1, fun k hk => ?_⟩
 rw [lswp_get _ (by rw [h.1]; omega) (by rw [h.1]; omega), h.2 k hk, h.2 (a + i) (by omega), h.2 (b + i) (by omega)]
 by_cases h1 : k = b + i
 ·rw [if_pos h1, if_neg (by omega), if_neg (by omega), if_neg (by omega), if_pos (by omega), show a + (k - b) = a + i by omega]
 ·rw [if_neg h1]
  by_cases h2 : k = a + i
  ·rw [if_pos h2, if_neg (by omega), if_neg (by omega), if_pos (by omega), show b + (k - a) = b + i by omega]
  ·rw [if_neg h2]
   congr 1
   repeat' split
   all_goals omega
theorem ro_slice {w : World} {B n : Nat} {v : Value} {xs : List Value} (h : w.ownsRow B 51 5 v n xs) : ∃ A cap, v = .slice A n cap ∧ n ≤ cap ∧ cap ≤ maxLen ∧ (A = none → cap = 0) := by
 rcases h.2 with ⟨e0, e1⟩ | ⟨g, cap', cur, e0, -, -, h1, h2, -⟩
 ·exact ⟨none, 0, by rw [e0, e1], by omega, Nat.zero_le _, fun _ => rfl⟩
 ·exact ⟨_, _, e0, h1, h2, fun h => by cases h⟩
theorem ro_base {w : World} {B n cap : Nat} {A : Option Addr} {l : List Ev} (h : OwnE w B A n cap l) : ∀ k, (Value.slice A n cap).ownBlock = some k → B ≤ k := by
 intro k hk
 rcases h.2 with ⟨e0, e1⟩ | ⟨g, cap', cur, e0, hb, -⟩
 ·rw [e0] at hk; cases hk
 ·rw [e0] at hk; cases hk; exact hb
theorem wpList_append_ev {w : World} {ops : Array Oper} {rest : List Oper} {o : Oper} {ac : Act} {Q : Exit → Act → World → Prop} (hgd : o.guard = none) (s x : Operand)
  (ho : o.op = .call { callee := .builtin .append, args := #[s, x], argTypes := #[22, 22] })
  (B : Nat) (A : Option Addr) (n cap : Nat) (l : List Ev) (hs : ac.eval s = .slice A n cap) (hown : OwnE w B A n cap l) (a : Option Addr) (m c : Nat) (l2 : List Ev) (hx : ac.eval x = .slice a m c) (hm : m = l2.length) (h2 : EvAt w a l2) (hnil : a = none → c = 0)
  (N : Nat) (hN : N = n + m) (hbytes : n + m ≤ 1000) (hbase : B ≤ w.heap.size)
  (h : ∀ A' cap' w', OwnE w' B A' N cap' (l ++ l2) → N ≤ cap' → cap' ≤ maxLen → (A' = none → cap' = 0) → Below B w w' → wpList Tryz.prog ops Q rest (ac.put o.dst (.slice A' N cap')) w') : wpList Tryz.prog ops Q (o :: rest) ac w := by
 subst hN
 obtain ⟨i0, hi, hz0, hz1, hz2⟩ := info_parts infoEv
 rcases a with _ | ad
 ·obtain rfl := hnil rfl
  have hl2 : l2 = [] := by
   rcases l2 with _ | ⟨x, r⟩
   ·rfl
   ·obtain ⟨g, off, e, -⟩ := h2 0 (.int .u64 (x.off : Int)) rfl; cases e
  subst hl2
  have h0 : m = 0 := hm
  subst h0
  obtain ⟨A1, c1, e1, e2, e3, e4⟩ := ro_slice hown
  injection e1 with b1 b2 b3
  subst b1; subst b3
  refine wpList_append_own_none hgd s x 22 ho B 51 i0 5 Tryz.underlying22 hi (.slice A n cap) n (evs l) hs hown hx ?_
  exact h A cap w (by rw [List.append_nil]; exact hown) e2 e3 e4 (Below.refl _ _)
 ·refine wpList_append_own_at w hgd s x 22 ho B 51 i0 _ 5 48 Tryz.underlying22 hi hz0 hz1 hz2 rfl (by decide) (.slice A n cap) n (evs l) hs hown ad m c (evs l2) hx (by rw [evs_length, hm]) (fun j u hu => by
   obtain ⟨g', off', e, -, hc⟩ := h2 j u hu
   injection e with e; subst e
   rw [Addr.add_lit]; exact hc) (evs_one l2) (by unfold maxLen; omega) (by omega) hbase ?_
  intro v' w2 hown2 hgr _ _
  have e : evs l ++ evs l2 = evs (l ++ l2) := by unfold evs; rw [List.flatMap_append]
  rw [e] at hown2
  obtain ⟨A1, c1, rfl, e2, e3, e4⟩ := ro_slice hown2
  exact h A1 c1 w2 hown2 e2 e3 e4 ((Below.refl _ w).grown hgr hbase (ro_base hown))
theorem evs_take (l : List Ev) (k j : Nat) (v : Value) (h : (evs (l.take k))[j]? = some v) : (evs l)[j]? = some v := by
 have e : evs l = evs (l.take k) ++ evs (l.drop k) := by unfold evs; rw [← List.flatMap_append, List.take_append_drop]
 rw [e, List.getElem?_append_left (List.getElem?_eq_some_iff.1 h).1, h]
theorem evs_drop (l : List Ev) (k : Nat) (hk : k ≤ l.length) (j : Nat) : (evs (l.drop k))[j]? = (evs l)[k * 5 + j]? := by
 have e : evs l = evs (l.take k) ++ evs (l.drop k) := by unfold evs; rw [← List.flatMap_append, List.take_append_drop]
 have hl : (evs (l.take k)).length = k * 5 := by rw [evs_length, List.length_take, Nat.min_eq_left hk]
 rw [e, List.getElem?_append_right (by omega), hl, Nat.add_sub_cancel_left]
theorem ecut_from (a : Option Addr) (len cap k : Nat) (hk : k ≤ len) (hc : len ≤ cap) (hnil : a = none → cap = 0) :
  ∃ A C, (∀ w, (Instr.slice 22 (.slice a len cap) (some (.int .i64 (k : Int))) none none).run Tryz.prog w = .ok (.slice A (len - k) C) w) ∧ (A = none → C = 0) ∧ ∀ w l, len = l.length → EvAt w a l → EvAt w A (l.drop k) := by
 refine ⟨if cap = k then a else a.map (·.add (k * 5)), cap - k, fun w => ?_, fun h => ?_, fun w l hl h j x hx => ?_⟩
 ·rw [run_slice_l w 22 a len cap Tryz.underlying22 .i64 (k : Int) (by omega) (by omega)]
  rw [show (Go.sizeOf (Tryz.prog.elem 22)).run Tryz.prog w = .ok 5 w from by kernel_rfl]
  simp [Result.andThen, sliced]
 ·split at h
  ·omega
  ·rcases a with _ | a
   ·have := hnil rfl; omega
   ·cases h
 ·have hkl : k < l.length := by
   have := (List.getElem?_eq_some_iff.1 hx).1
   rw [evs_length, List.length_drop] at this; omega
  rw [evs_drop l k (by omega)] at hx
  obtain ⟨g, off, rfl, hg, hcell⟩ := h _ _ hx
  rw [if_neg (by omega)]
  exact ⟨g, off + k * 5, by simp [Addr.add_lit], hg, by rw [Nat.add_assoc]; exact hcell⟩
theorem ecut_to (a : Option Addr) (len cap k : Nat) (hk : k ≤ len) (hc : len ≤ cap) (hnil : a = none → cap = 0) :
  ∃ A, (∀ w, (Instr.slice 22 (.slice a len cap) none (some (.int .i64 (k : Int))) none).run Tryz.prog w = .ok (.slice A k cap) w) ∧ (A = none → cap = 0) ∧ ∀ w l, len = l.length → EvAt w a l → EvAt w A (l.take k) := by
 refine ⟨if cap = 0 then a else a.map (·.add 0), fun w => ?_, fun h => ?_, fun w l hl h j x hx => ?_⟩
 ·rw [run_slice_h w 22 a len cap Tryz.underlying22 .i64 (k : Int) (by omega) (by omega)]
  rw [show (Go.sizeOf (Tryz.prog.elem 22)).run Tryz.prog w = .ok 5 w from by kernel_rfl]
  simp [Result.andThen, sliced]
 ·split at h
  ·omega
  ·rcases a with _ | a
   ·have := hnil rfl; omega
   ·cases h
 ·obtain ⟨g, off, rfl, hg, hcell⟩ := h _ _ (evs_take l k j x hx)
  exact ⟨g, off, by simp [Addr.add_lit], hg, hcell⟩
def InsAt (x : Ev) (s : List Ev) (k : Nat) : Prop := insB (ltOf evCmp) x s = insB (ltOf evCmp) x (s.take k) ++ s.drop k
theorem InsAt.start (x : Ev) (s : List Ev) (k : Nat) (hk : k = s.length) : InsAt x s k := by subst hk; unfold InsAt; simp
theorem InsAt.step {x y : Ev} {s : List Ev} {k : Nat} (h : InsAt x s (k + 1)) (hy : s[k]? = some y) (hl : lessB x y = true) : InsAt x s k := by
 unfold InsAt at *
 obtain ⟨hk, rfl⟩ := List.getElem?_eq_some_iff.1 hy
 have hl' : ltOf evCmp x s[k] = true := hl
 rw [h, List.take_succ_eq_append_getElem hk, insB_snoc, if_pos hl', List.append_assoc]
 congr 1
 rw [List.drop_eq_getElem_cons hk]; rfl
theorem InsAt.stop {x y : Ev} {s : List Ev} {k : Nat} (h : InsAt x s (k + 1)) (hy : s[k]? = some y) (hl : lessB x y = false) : insB (ltOf evCmp) x s = (s.take (k + 1) ++ [x]) ++ s.drop (k + 1) := by
 unfold InsAt at h
 obtain ⟨hk, rfl⟩ := List.getElem?_eq_some_iff.1 hy
 have hl' : ¬ ltOf evCmp x s[k] = true := by have e : ltOf evCmp x s[k] = false := hl; rw [e]; decide
 have e : s.take k ++ [s[k]] = s.take (k + 1) := (List.take_succ_eq_append_getElem hk).symm
 rw [h, ← e, insB_snoc, if_neg hl', List.append_assoc (s.take k) [s[k]] [x]]; rfl
theorem InsAt.zero {x : Ev} {s : List Ev} (h : InsAt x s 0) : insB (ltOf evCmp) x s = (s.take 0 ++ [x]) ++ s.drop 0 := by
 unfold InsAt at h; rw [h]; simp [insB_nil]
theorem isort_snoc (l : List Ev) (i : Nat) (x : Ev) (hx : l[i]? = some x) : isort (ltOf evCmp) (l.take (i + 1)) = insB (ltOf evCmp) x (isort (ltOf evCmp) (l.take i)) := by
 obtain ⟨hk, rfl⟩ := List.getElem?_eq_some_iff.1 hx
 unfold isort
 rw [List.take_succ_eq_append_getElem hk, sm_append]; rfl
theorem isort_length (l : List Ev) : (isort (ltOf evCmp) l).length = l.length := by unfold isort; rw [sm_len]; simp
theorem OwnE.at' {w : World} {B n cap : Nat} {A : Option Addr} {l : List Ev} (h : OwnE w B A n cap l) : EvAt w A l := fun j v hv => by
 have hjl := (List.getElem?_eq_some_iff.1 hv).1
 rcases h.2 with ⟨e0, e1⟩ | ⟨g, cap', cur, e0, hb, hg, hn, hm, hs, ht⟩
 ·have := h.1; rw [e1, Nat.zero_mul] at this; omega
 ·injection e0 with a1 a2 a3
  subst a1
  refine ⟨g, 0, rfl, (Array.getElem?_eq_some_iff.1 hg).1, ?_⟩
  rw [cell_of_row _ _ _ _ _ _ hg, Nat.zero_add, ← Array.getElem?_toList]
  have := h.1
  rw [← ht, List.getElem?_take] at hv
  rw [if_pos (by omega)] at hv
  exact hv
theorem evr {w : World} {A : Option Addr} {l : List Ev} (h : EvAt w A l) (i : Nat) (x : Ev) (hx : l[i]? = some x) : ∃ g off, A = some ⟨g, off, none⟩ ∧ g < w.heap.size ∧ w.rangeAt g (off + i * 5) x.cells := by
 have h0 : (evs l)[i * 5 + 0]? = x.cells[0]? := by rw [evs_get l i 0 (by decide), hx]; rfl
 obtain ⟨g, off, e, hg, -⟩ := h (i * 5 + 0) (.int .u64 (x.off : Int)) (by rw [h0]; rfl)
 refine ⟨g, off, e, hg, fun j v hv => ?_⟩
 have hj : j < 5 := (List.getElem?_eq_some_iff.1 hv).1
 have h1 : (evs l)[i * 5 + j]? = some v := by rw [evs_get l i j hj, hx]; exact hv
 obtain ⟨g', off', e', -, hc⟩ := h _ _ h1
 rw [e] at e'; injection e' with e'; injection e' with b1 b2; subst b1; subst b2
 rw [Nat.add_assoc]; exact hc
theorem bto {W w w' : World} (h : Below W.heap.size W w) (h' : Below w.heap.size w w') : Below W.heap.size W w' := h.trans (h'.mono h.size)
theorem rkeep {w w' : World} {g o : Nat} {x : Ev} (h : w.rangeAt g o x.cells) (hg : g < w.heap.size) (hb : Below w.heap.size w w') : w'.rangeAt g o x.cells := fun j v hv => (hb.cell (p := ⟨g, o + j, none⟩) hg).trans (h j v hv)
theorem OwnE.less {w : World} {B B' n cap : Nat} {A : Option Addr} {l : List Ev} (h : OwnE w B A n cap l) (hB : B' ≤ B) : OwnE w B' A n cap l := by
 refine ⟨h.1, ?_⟩
 rcases h.2 with h1 | ⟨g, cap', cur, h1, hb, h2⟩
 ·exact .inl h1
 ·exact .inr ⟨g, cap', cur, h1, Nat.le_trans hB hb, h2⟩
end Go.Proofs.YtjldamkmdkaiiaaGreatDoor
namespace Go.Proofs.YtjldamkmdkaiiaaGreatDoor
open Go.RowKit Go.Shelf
attribute [local go_sem] Oper.semAt_some
set_option maxHeartbeats 1000000 in
theorem chunkF_anyZ (Z : Nat) (hZ : 1 ≤ Z) (a : Option Addr) (len cap : Nat) (w : World) :
  Calls Tryz.prog 56 #[.slice a len cap, .int .i64 (Z : Int)] w fun e w' => e = .returned (.func (.func 66) #[] #[.pointer (some ⟨w.heap.size, 0, none⟩), .pointer (some ⟨w.heap.size + 1, 0, none⟩)]) ∧ (w.alloc (.cells #[.slice a len cap] 22)).alloc (.cells #[.int .i64 (Z : Int)] 3) = w' := by
 have hz1 : ¬ ((Z : Int) < 1) := by omega
 have hmf : ∀ (fn : Fn) (first cap : Array Value) (w : World), (Instr.makeFunc fn first cap).run Tryz.prog w = .ok (.func fn first cap) w := fun _ _ _ _ => rfl
 go_enter Tryz.func56, Tryz.ntmps56
 go_wp2
 go_ret
 exact ⟨rfl, rfl⟩
def stZ (Z len j : Nat) : Nat := if Z * j < len then Z * j else 0
def lnZ (Z len j : Nat) : Nat := min Z (len - stZ Z len j)
theorem stZ_lt {Z len j : Nat} (h : 0 < len) : stZ Z len j < len := by unfold stZ; split <;> omega
theorem lnZ_facts {Z len j : Nat} (hZ : 1 ≤ Z) (h : 0 < len) : 0 < lnZ Z len j ∧ lnZ Z len j ≤ Z ∧ stZ Z len j + lnZ Z len j ≤ len := by
 have := stZ_lt (Z := Z) (j := j) h
 unfold lnZ
 omega
def chZ (k : Nat) : List Nat := List.range k
theorem chZ_succ (k : Nat) : chZ (k + 1) = chZ k ++ [k] := by simp [chZ, List.range_succ]
theorem chZ_len (k : Nat) : (chZ k).length = k := by simp [chZ]
def encZ (Z b off len : Nat) (j : Nat) : Array Value := #[.slice (some ⟨b, off + stZ Z len j * 5, none⟩) (lnZ Z len j) (lnZ Z len j)]
theorem ecut3SZ (b off len cap lo m hi : Nat) (h1 : 0 < m) (h2 : hi = lo + m) (h3 : hi ≤ len) (h4 : len ≤ cap) : ∀ w, (Instr.slice 22 (.slice (some ⟨b, off, none⟩) len cap) (some (.int .i64 (lo : Int))) (some (.int .i64 (hi : Int))) (some (.int .i64 (hi : Int)))).run Tryz.prog w = .ok (.slice (some ⟨b, off + lo * 5, none⟩) m m) w := fun w => by
 rw [run_slice_lhm w 22 (some ⟨b, off, none⟩) len cap Tryz.underlying22 .i64 .i64 .i64 (lo : Int) (hi : Int) (hi : Int) (by omega) (by omega) (by omega) (by omega)]
 rw [show (Go.sizeOf (Tryz.prog.elem 22)).run Tryz.prog w = .ok 5 w from by kernel_rfl]
 have hm : hi - lo = m := by omega
 simp [Result.andThen, sliced, hm, Addr.add_lit]
 omega
theorem ecut1SZ (b off len cap lo : Nat) (h3 : lo ≤ len) (h4 : len ≤ cap) : ∃ A C, ∀ w, (Instr.slice 22 (.slice (some ⟨b, off, none⟩) len cap) (some (.int .i64 (lo : Int))) none none).run Tryz.prog w = .ok (.slice A (len - lo) C) w := by
 obtain ⟨A, C, h, -⟩ := ecut_from (some ⟨b, off, none⟩) len cap lo h3 h4 (fun h => by cases h)
 exact ⟨A, C, h⟩
def KpZ (Bs Bn : Nat) (W W' : World) : Prop := W'.cell? ⟨Bs, 0, none⟩ = W.cell? ⟨Bs, 0, none⟩ ∧ W'.cell? ⟨Bn, 0, none⟩ = W.cell? ⟨Bn, 0, none⟩
theorem KpZ.trans {Bs Bn : Nat} {A B C : World} (h : KpZ Bs Bn A B) (k : KpZ Bs Bn B C) : KpZ Bs Bn A C := ⟨k.1.trans h.1, k.2.trans h.2⟩
theorem KpZ.putObj {Bs Bn : Nat} (W : World) (l : Nat) (o' : Obj) (h1 : Bs ≠ l) (h2 : Bn ≠ l) : KpZ Bs Bn W (W.putObj l o') :=
 ⟨World.cell?_of_block (World.putObj_heap_other h1), World.cell?_of_block (World.putObj_heap_other h2)⟩
set_option maxRecDepth 100000 in
set_option maxHeartbeats 4000000 in
theorem chunkI_inZ (n : Nat) (hn : 1 ≤ n) (Z : Nat) (hZ : 1 ≤ Z) (hZ9 : Z ≤ 5000) (l Bs Bn b off len cap N : Nat) (hN : ∀ k, Z * k < len ↔ k < N) (hlen : len ≤ 2000) (hcap : len ≤ cap) (hcm : cap ≤ maxLen) (J Jx : List Nat → World → Prop)
  (hJd : ∀ s W k, J s W → J s (W.drewN k))
  (hY : ∀ pre x W, J pre W → pre.length < N → YieldAt Fence.wide (n - 1) Tryz.prog l (encZ Z b off len x) W fun e W' =>
   (e = .returned (.bool true) ∧ J (pre ++ [x]) W' ∧ KpZ Bs Bn W W') ∨ (e = .returned (.bool false) ∧ Jx (pre ++ [x]) W'))
  (W : World) (hBs : W.cell? ⟨Bs, 0, none⟩ = some (.slice (some ⟨b, off, none⟩) len cap)) (hBn : W.cell? ⟨Bn, 0, none⟩ = some (.int .i64 (Z : Int))) (h0 : J [] W) :
  CallsIn Fence.wide n Tryz.prog 66 #[.func (.yield l) #[] #[], .pointer (some ⟨Bs, 0, none⟩), .pointer (some ⟨Bn, 0, none⟩)] W fun e W' => (∃ v, e = .returned v) ∧
   ((∃ ys, ys = chZ N ∧ J ys W') ∨ (∃ pre, pre = chZ pre.length ∧ Jx pre W')) := by
 refine callsIn_of_wp Tryz.func66 rfl trivial ?_ rfl
 simp only [Tryz.ntmps66, List.size_toArray, List.length_cons, List.length_nil, Nat.reduceAdd, Nat.reduceSub, Array.replicate_succ, Array.replicate_zero, List.push_toArray, List.append_toArray, List.nil_append, List.cons_append]
 gi_wp2
 gi_loopw [4] (fun i wr => ∃ k : Nat, k ≤ N ∧ i = .int .i64 ((Z * k : Nat) : Int) ∧ J (chZ k) wr ∧ wr.cell? ⟨Bs, 0, none⟩ = some (.slice (some ⟨b, off, none⟩) len cap) ∧ wr.cell? ⟨Bn, 0, none⟩ = some (.int .i64 (Z : Int)))
  (fun i _ => len + Z - (intOf i).toNat)
 case atStart => exact ⟨0, Nat.zero_le _, rfl, h0, hBs, hBn⟩
 case round =>
  obtain ⟨k, hk, rfl, hJs, hs, hb⟩ := hrel
  obtain ⟨i, hi⟩ : ∃ i, i = Z * k := ⟨_, rfl⟩
  rw [← hi]
  by_cases hlt : i < len
  ·obtain ⟨m, hm⟩ : ∃ m, m = min Z (len - i) := ⟨_, rfl⟩
   obtain ⟨A1, C1, r1⟩ := ecut1SZ b off len cap i (by omega) hcap
   obtain ⟨q, hq⟩ : ∃ q, q = len - i := ⟨_, rfl⟩
   rw [← hq] at r1
   obtain ⟨hi2, hh⟩ : ∃ hi2, hi2 = i + m := ⟨_, rfl⟩
   have r2 := ecut3SZ b off len cap i m hi2 (by omega) hh (by omega) hcap
   have hlti : (i : Int) < (len : Int) := by omega
   have hmin : min (Z : Int) (q : Int) = (m : Int) := by rw [hm, ← hq]; omega
   have HH := Lib.hid hh
   have HIL : Hid (i + m ≤ len) := Lib.hid (by omega)
   have hkN : k < N := (hN k).1 (by rw [← hi]; exact hlt)
   have HKN := Lib.hid hkN
   have hnx : IntKind.i64.wrap ((i : Int) + (Z : Int)) = ((i + Z : Nat) : Int) := by rw [IntKind.wrap_i64]; omega
   have HNX : Hid (Z * (k + 1) = i + Z) := Lib.hid (by rw [Nat.mul_succ, hi])
   have HM : Hid (m = min Z (len - i) ∧ i = Z * k) := Lib.hid ⟨hm, hi⟩
   have hm0 : 0 < m := by omega
   clear hm hi hq hh hBs hBn hkN
   gi_wp2
   gi_quiet (fail)
   have hw64 : wrap64 ((i : Int) + (m : Int)) = (hi2 : Int) := by have := HH.out; have := HIL.out; unfold wrap64; omega
   rw [← hw64] at r2
   clear hw64
   have hJq := hJd _ _ nq hJs
   obtain ⟨fn, tmps, assign, body, hy, hR⟩ := hY _ k (wr.drewN nq) hJq (by rw [chZ_len]; exact HKN.out)
   have hst : stZ Z len k = i := by unfold stZ; rw [if_pos (by have := HM.out.2; have := HIL.out; omega), ← HM.out.2]
   have hln : lnZ Z len k = m := by unfold lnZ; rw [hst, HM.out.1]
   unfold encZ at hy
   rw [hst, hln] at hy
   clear hst hln
   try dsimp only at hy
   clear hmin hJs hJq
   gi_wp2
   refine hR.mono ?_
   rintro e W3 (⟨rfl, hJ3, hk3⟩ | ⟨rfl, hJx3⟩)
   ·have hb3 : W3.cell? ⟨Bn, 0, none⟩ = some (.int .i64 (Z : Int)) := hk3.2.trans hb
    have hs3 : W3.cell? ⟨Bs, 0, none⟩ = some (.slice (some ⟨b, off, none⟩) len cap) := hk3.1.trans hs
    have hJ4 : J (chZ (k + 1)) W3 := by rw [chZ_succ]; exact hJ3
    clear hJ3
    gi_wp2
    go_roundw
    case rel => exact ⟨k + 1, HKN.out, by rw [HNX.out]; first | rfl | (push_cast; rfl), hJ4, hs3, hb3⟩
    case measure => simp [intOf]; omega
   ·gi_wp2
    refine bodyPost_ret (results_none rfl _ _ _) rfl ?_
    exact ⟨⟨_, rfl⟩, .inr ⟨_, by rw [List.length_append, chZ_len, List.length_singleton, chZ_succ], hJx3⟩⟩
  ·have hkk : k = N := by have h9 : ¬ k < N := fun h => hlt (by rw [hi]; exact (hN k).2 h); omega
   have HKK := Lib.hid hkk
   have hge : ¬ (i : Int) < (len : Int) := by omega
   clear hkk hi hk
   gi_wp2
   go_end0
   rw [HKK.out] at hJs
   first | exact ⟨⟨_, rfl⟩, .inl ⟨_, rfl, hJs⟩⟩ | exact ⟨⟨_, rfl⟩, .inl hJs⟩ | exact ⟨trivial, .inl hJs⟩
theorem chunk_stopsZ (n : Nat) (hn : 1 ≤ n) (Z : Nat) (hZ : 1 ≤ Z) (hZ9 : Z ≤ 5000) (Bs Bn b off len cap N : Nat) (hN : ∀ k, Z * k < len ↔ k < N) (hlen : len ≤ 2000) (hcap : len ≤ cap) (hcm : cap ≤ maxLen) (w : World) (hBs : Bs < w.heap.size) (hBn : Bn < w.heap.size)
  (hcs : w.cell? ⟨Bs, 0, none⟩ = some (.slice (some ⟨b, off, none⟩) len cap)) (hcn : w.cell? ⟨Bn, 0, none⟩ = some (.int .i64 (Z : Int))) :
  SeqStopsK Fence.wide n Tryz.prog 66 #[.pointer (some ⟨Bs, 0, none⟩), .pointer (some ⟨Bn, 0, none⟩)] (encZ Z b off len) (KpZ Bs Bn) (fun ys => ys = chZ N) (fun pre => pre = chZ pre.length) N w := fun l J Jx W hW hJ hJx hY h0 =>
 chunkI_inZ n hn Z hZ hZ9 l Bs Bn b off len cap N hN hlen hcap hcm J Jx (fun s W' k hs => hJ s W' (W'.drewN k) none hs ⟨rfl, rfl, rfl, Nat.le_refl _, fun _ _ _ => rfl⟩ (fun r e => by cases e)) hY W
  ((hW.cell (p := ⟨Bs, 0, none⟩) hBs).trans hcs) ((hW.cell (p := ⟨Bn, 0, none⟩) hBn).trans hcn) h0
end Go.Proofs.YtjldamkmdkaiiaaGreatDoor
namespace Go.Proofs.YtjldamkmdkaiiaaGreatDoor
open Go.RowKit Go.Shelf
attribute [local go_sem] Oper.semAt_some
set_option maxHeartbeats 1000000 in
theorem chunkF_anyT (Z : Nat) (hZ : 1 ≤ Z) (a : Option Addr) (len cap : Nat) (w : World) :
  Calls Tryz.prog 59 #[.slice a len cap, .int .i64 (Z : Int)] w fun e w' => e = .returned (.func (.func 72) #[] #[.pointer (some ⟨w.heap.size, 0, none⟩), .pointer (some ⟨w.heap.size + 1, 0, none⟩)]) ∧ (w.alloc (.cells #[.slice a len cap] 37)).alloc (.cells #[.int .i64 (Z : Int)] 3) = w' := by
 have hz1 : ¬ ((Z : Int) < 1) := by omega
 have hmf : ∀ (fn : Fn) (first cap : Array Value) (w : World), (Instr.makeFunc fn first cap).run Tryz.prog w = .ok (.func fn first cap) w := fun _ _ _ _ => rfl
 go_enter Tryz.func59, Tryz.ntmps59
 go_wp2
 go_ret
 exact ⟨rfl, rfl⟩
def encZT (Z b off len : Nat) (j : Nat) : Array Value := #[.slice (some ⟨b, off + stZ Z len j, none⟩) (lnZ Z len j) (lnZ Z len j)]
theorem ecut3ST (b off len cap lo m hi : Nat) (h1 : 0 < m) (h2 : hi = lo + m) (h3 : hi ≤ len) (h4 : len ≤ cap) : ∀ w, (Instr.slice 37 (.slice (some ⟨b, off, none⟩) len cap) (some (.int .i64 (lo : Int))) (some (.int .i64 (hi : Int))) (some (.int .i64 (hi : Int)))).run Tryz.prog w = .ok (.slice (some ⟨b, off + lo, none⟩) m m) w := fun w => by
 rw [run_slice_lhm w 37 (some ⟨b, off, none⟩) len cap Tryz.underlying37 .i64 .i64 .i64 (lo : Int) (hi : Int) (hi : Int) (by omega) (by omega) (by omega) (by omega)]
 rw [show (Go.sizeOf (Tryz.prog.elem 37)).run Tryz.prog w = .ok 1 w from by kernel_rfl]
 have hm : hi - lo = m := by omega
 simp [Result.andThen, sliced, hm, Addr.add_lit]
 omega
theorem ecut1ST (b off len cap lo : Nat) (h3 : lo ≤ len) (h4 : len ≤ cap) : ∃ A C, ∀ w, (Instr.slice 37 (.slice (some ⟨b, off, none⟩) len cap) (some (.int .i64 (lo : Int))) none none).run Tryz.prog w = .ok (.slice A (len - lo) C) w := by
 refine ⟨if cap = lo then some ⟨b, off, none⟩ else (some (⟨b, off, none⟩ : Addr)).map (·.add (lo * 1)), cap - lo, fun w => ?_⟩
 rw [run_slice_l w 37 (some ⟨b, off, none⟩) len cap Tryz.underlying37 .i64 (lo : Int) (by omega) (by omega)]
 rw [show (Go.sizeOf (Tryz.prog.elem 37)).run Tryz.prog w = .ok 1 w from by kernel_rfl]
 simp [Result.andThen, sliced]
set_option maxRecDepth 100000 in
set_option maxHeartbeats 4000000 in
theorem chunkI_inT (n : Nat) (hn : 1 ≤ n) (Z : Nat) (hZ : 1 ≤ Z) (hZ9 : Z ≤ 5000) (l Bs Bn b off len cap N : Nat) (hN : ∀ k, Z * k < len ↔ k < N) (hlen : len ≤ 2000) (hcap : len ≤ cap) (hcm : cap ≤ maxLen) (J Jx : List Nat → World → Prop)
  (hJd : ∀ s W k, J s W → J s (W.drewN k))
  (hY : ∀ pre x W, J pre W → pre.length < N → YieldAt Fence.wide (n - 1) Tryz.prog l (encZT Z b off len x) W fun e W' =>
   (e = .returned (.bool true) ∧ J (pre ++ [x]) W' ∧ KpZ Bs Bn W W') ∨ (e = .returned (.bool false) ∧ Jx (pre ++ [x]) W'))
  (W : World) (hBs : W.cell? ⟨Bs, 0, none⟩ = some (.slice (some ⟨b, off, none⟩) len cap)) (hBn : W.cell? ⟨Bn, 0, none⟩ = some (.int .i64 (Z : Int))) (h0 : J [] W) :
  CallsIn Fence.wide n Tryz.prog 72 #[.func (.yield l) #[] #[], .pointer (some ⟨Bs, 0, none⟩), .pointer (some ⟨Bn, 0, none⟩)] W fun e W' => (∃ v, e = .returned v) ∧
   ((∃ ys, ys = chZ N ∧ J ys W') ∨ (∃ pre, pre = chZ pre.length ∧ Jx pre W')) := by
 refine callsIn_of_wp Tryz.func72 rfl trivial ?_ rfl
 simp only [Tryz.ntmps72, List.size_toArray, List.length_cons, List.length_nil, Nat.reduceAdd, Nat.reduceSub, Array.replicate_succ, Array.replicate_zero, List.push_toArray, List.append_toArray, List.nil_append, List.cons_append]
 gi_wp2
 gi_loopw [4] (fun i wr => ∃ k : Nat, k ≤ N ∧ i = .int .i64 ((Z * k : Nat) : Int) ∧ J (chZ k) wr ∧ wr.cell? ⟨Bs, 0, none⟩ = some (.slice (some ⟨b, off, none⟩) len cap) ∧ wr.cell? ⟨Bn, 0, none⟩ = some (.int .i64 (Z : Int)))
  (fun i _ => len + Z - (intOf i).toNat)
 case atStart => exact ⟨0, Nat.zero_le _, rfl, h0, hBs, hBn⟩
 case round =>
  obtain ⟨k, hk, rfl, hJs, hs, hb⟩ := hrel
  obtain ⟨i, hi⟩ : ∃ i, i = Z * k := ⟨_, rfl⟩
  rw [← hi]
  by_cases hlt : i < len
  ·obtain ⟨m, hm⟩ : ∃ m, m = min Z (len - i) := ⟨_, rfl⟩
   obtain ⟨A1, C1, r1⟩ := ecut1ST b off len cap i (by omega) hcap
   obtain ⟨q, hq⟩ : ∃ q, q = len - i := ⟨_, rfl⟩
   rw [← hq] at r1
   obtain ⟨hi2, hh⟩ : ∃ hi2, hi2 = i + m := ⟨_, rfl⟩
   have r2 := ecut3ST b off len cap i m hi2 (by omega) hh (by omega) hcap
   have hlti : (i : Int) < (len : Int) := by omega
   have hmin : min (Z : Int) (q : Int) = (m : Int) := by rw [hm, ← hq]; omega
   have HH := Lib.hid hh
   have HIL : Hid (i + m ≤ len) := Lib.hid (by omega)
   have hkN : k < N := (hN k).1 (by rw [← hi]; exact hlt)
   have HKN := Lib.hid hkN
   have hnx : IntKind.i64.wrap ((i : Int) + (Z : Int)) = ((i + Z : Nat) : Int) := by rw [IntKind.wrap_i64]; omega
   have HNX : Hid (Z * (k + 1) = i + Z) := Lib.hid (by rw [Nat.mul_succ, hi])
   have HM : Hid (m = min Z (len - i) ∧ i = Z * k) := Lib.hid ⟨hm, hi⟩
   have hm0 : 0 < m := by omega
   clear hm hi hq hh hBs hBn hkN
   gi_wp2
   gi_quiet (fail)
   have hw64 : wrap64 ((i : Int) + (m : Int)) = (hi2 : Int) := by have := HH.out; have := HIL.out; unfold wrap64; omega
   rw [← hw64] at r2
   clear hw64
   have hJq := hJd _ _ nq hJs
   obtain ⟨fn, tmps, assign, body, hy, hR⟩ := hY _ k (wr.drewN nq) hJq (by rw [chZ_len]; exact HKN.out)
   have hst : stZ Z len k = i := by unfold stZ; rw [if_pos (by have := HM.out.2; have := HIL.out; omega), ← HM.out.2]
   have hln : lnZ Z len k = m := by unfold lnZ; rw [hst, HM.out.1]
   unfold encZT at hy
   rw [hst, hln] at hy
   clear hst hln
   try dsimp only at hy
   clear hmin hJs hJq
   gi_wp2
   refine hR.mono ?_
   rintro e W3 (⟨rfl, hJ3, hk3⟩ | ⟨rfl, hJx3⟩)
   ·have hb3 : W3.cell? ⟨Bn, 0, none⟩ = some (.int .i64 (Z : Int)) := hk3.2.trans hb
    have hs3 : W3.cell? ⟨Bs, 0, none⟩ = some (.slice (some ⟨b, off, none⟩) len cap) := hk3.1.trans hs
    have hJ4 : J (chZ (k + 1)) W3 := by rw [chZ_succ]; exact hJ3
    clear hJ3
    gi_wp2
    go_roundw
    case rel => exact ⟨k + 1, HKN.out, by rw [HNX.out]; first | rfl | (push_cast; rfl), hJ4, hs3, hb3⟩
    case measure => simp [intOf]; omega
   ·gi_wp2
    refine bodyPost_ret (results_none rfl _ _ _) rfl ?_
    exact ⟨⟨_, rfl⟩, .inr ⟨_, by rw [List.length_append, chZ_len, List.length_singleton, chZ_succ], hJx3⟩⟩
  ·have hkk : k = N := by have h9 : ¬ k < N := fun h => hlt (by rw [hi]; exact (hN k).2 h); omega
   have HKK := Lib.hid hkk
   have hge : ¬ (i : Int) < (len : Int) := by omega
   clear hkk hi hk
   gi_wp2
   go_end0
   rw [HKK.out] at hJs
   first | exact ⟨⟨_, rfl⟩, .inl ⟨_, rfl, hJs⟩⟩ | exact ⟨⟨_, rfl⟩, .inl hJs⟩ | exact ⟨trivial, .inl hJs⟩
theorem chunk_stopsT (n : Nat) (hn : 1 ≤ n) (Z : Nat) (hZ : 1 ≤ Z) (hZ9 : Z ≤ 5000) (Bs Bn b off len cap N : Nat) (hN : ∀ k, Z * k < len ↔ k < N) (hlen : len ≤ 2000) (hcap : len ≤ cap) (hcm : cap ≤ maxLen) (w : World) (hBs : Bs < w.heap.size) (hBn : Bn < w.heap.size)
  (hcs : w.cell? ⟨Bs, 0, none⟩ = some (.slice (some ⟨b, off, none⟩) len cap)) (hcn : w.cell? ⟨Bn, 0, none⟩ = some (.int .i64 (Z : Int))) :
  SeqStopsK Fence.wide n Tryz.prog 72 #[.pointer (some ⟨Bs, 0, none⟩), .pointer (some ⟨Bn, 0, none⟩)] (encZT Z b off len) (KpZ Bs Bn) (fun ys => ys = chZ N) (fun pre => pre = chZ pre.length) N w := fun l J Jx W hW hJ hJx hY h0 =>
 chunkI_inT n hn Z hZ hZ9 l Bs Bn b off len cap N hN hlen hcap hcm J Jx (fun s W' k hs => hJ s W' (W'.drewN k) none hs ⟨rfl, rfl, rfl, Nat.le_refl _, fun _ _ _ => rfl⟩ (fun r e => by cases e)) hY W
  ((hW.cell (p := ⟨Bs, 0, none⟩) hBs).trans hcs) ((hW.cell (p := ⟨Bn, 0, none⟩) hBn).trans hcn) h0
end Go.Proofs.YtjldamkmdkaiiaaGreatDoor
namespace Go.Proofs.YtjldamkmdkaiiaaGreatDoor
open Go.RowKit Go.Sort
def SymGives (w0 : World) (blk cap N a m b : Nat) (l : List Ev) (w : World) : Prop :=
 Calls Tryz.prog 105 #[.slice (some ⟨blk, 0, none⟩) N cap, .int .i64 a, .int .i64 m, .int .i64 b, .func (.func 71) #[] #[]] w fun e w' => e = .returned (.tuple #[]) ∧ SWE w0 blk (mrg (ltOf evCmp) l a m b) w'
theorem SymGives.at {w0 w : World} {blk cap N a m b : Nat} {l : List Ev} (h : SymGives w0 blk cap N a m b l w) : Calls Tryz.prog 105 #[.slice (some ⟨blk, 0, none⟩) N cap, .int .i64 a, .int .i64 m, .int .i64 b, .func (.func 71) #[] #[]] w fun e w' => e = .returned (.tuple #[]) ∧ SWE w0 blk (mrg (ltOf evCmp) l a m b) w' := h
abbrev ltE : Ev → Ev → Bool := ltOf evCmp
def bsort (bs : Nat) : Nat → List Ev → List Ev
 | 0, _ => []
 | k + 1, s => isort ltE (s.take bs) ++ bsort bs k (s.drop bs)
def bsrt (bs : Nat) (s : List Ev) : List Ev := bsort bs (s.length + 1) s
theorem isort_nil : isort ltE [] = [] := rfl
theorem bsort_nil (bs k : Nat) : bsort bs k [] = [] := by
 induction k with
 | zero => rfl
 | succ k ih => rw [bsort, List.take_nil, List.drop_nil, isort_nil, ih]; rfl
theorem bsort_fuel (bs : Nat) (h : 0 < bs) : ∀ (k : Nat) (s : List Ev), s.length < k → bsort bs k s = bsrt bs s := by
 intro k
 induction k using Nat.strongRecOn with
 | _ k ih =>
  intro s hs
  rcases k with _ | k
  ·omega
  ·unfold bsrt
   rw [bsort, bsort]
   congr 1
   rcases s with _ | ⟨x, r⟩
   ·rw [List.drop_nil, bsort_nil, bsort_nil]
   ·have hl : ((x :: r).drop bs).length < k := by rw [List.length_drop]; simp at hs ⊢; omega
    rw [ih k (by omega) _ hl]
    by_cases hk : (x :: r).length < k + 1
    ·rw [ih (x :: r).length (by omega) _ (by rw [List.length_drop]; simp; omega)]
    ·omega
theorem bsrt_step (bs : Nat) (h : 0 < bs) (s : List Ev) : bsrt bs s = isort ltE (s.take bs) ++ bsrt bs (s.drop bs) := by
 conv => lhs; unfold bsrt
 rw [bsort]
 rcases s with _ | ⟨x, r⟩
 ·rw [List.drop_nil, bsort_nil]; unfold bsrt; rw [bsort_nil]
 ·rw [bsort_fuel bs h _ _ (by rw [List.length_drop]; simp; omega)]
theorem bsrt_small (bs : Nat) (h : 0 < bs) (s : List Ev) (hs : s.length ≤ bs) : bsrt bs s = isort ltE s := by
 rw [bsrt_step bs h, List.take_of_length_le hs, List.drop_of_length_le hs]
 unfold bsrt; rw [bsort_nil, List.append_nil]
theorem bsrt_len (bs : Nat) (h : 0 < bs) : ∀ (k : Nat) (s : List Ev), s.length ≤ k → (bsrt bs s).length = s.length := by
 intro k
 induction k with
 | zero => intro s hs; obtain rfl : s = [] := List.eq_nil_of_length_eq_zero (by omega); unfold bsrt; rw [bsort_nil]
 | succ k ih =>
  intro s hs
  rw [bsrt_step bs h, List.length_append, isort_len, ih (s.drop bs) (by rw [List.length_drop]; omega), List.length_take, List.length_drop]; omega
structure First (l lk : List Ev) (a : Nat) : Prop where
 ex : ∃ X, lk = X ++ l.drop a ∧ X.length = a ∧ X ++ bsrt 20 (l.drop a) = bsrt 20 l
 le : a ≤ l.length
theorem First.step {l lk : List Ev} {a : Nat} (h : First l lk a) (hb : a + 20 ≤ l.length) : First l (srt ltE lk a (a + 20)) (a + 20) := by
 obtain ⟨X, e1, e2, e3⟩ := h.ex
 subst e1
 have hl : (l.drop a).length = l.length - a := List.length_drop ..
 have es : X ++ l.drop a = X ++ ((l.drop a).take 20 ++ l.drop (a + 20)) := by rw [show l.drop (a + 20) = (l.drop a).drop 20 by rw [List.drop_drop], List.take_append_drop]
 refine ⟨⟨X ++ isort ltE ((l.drop a).take 20), ?_, ?_, ?_⟩, hb⟩
 ·unfold srt
  rw [es, seg_of X _ _ a (a + 20) e2 (by rw [e2, List.length_take]; omega), take_of X _ a e2, drop_of X _ _ (a + 20) (by rw [e2, List.length_take]; omega)]; simp
 ·rw [List.length_append, isort_len, List.length_take, e2]; omega
 ·rw [← e3, bsrt_step 20 (by decide) (l.drop a), List.drop_drop]; simp
theorem First.last {l lk : List Ev} {a n : Nat} (h : First l lk a) (hn : n = l.length) (hb : n < a + 20) : srt ltE lk a n = bsrt 20 l := by
 obtain ⟨X, e1, e2, e3⟩ := h.ex
 subst e1
 have hl : (l.drop a).length = l.length - a := List.length_drop ..
 have hle := h.le
 have es : X ++ l.drop a = X ++ (l.drop a ++ []) := by simp
 unfold srt
 rw [es, seg_of X _ _ a n e2 (by omega), take_of X _ a e2, drop_of X _ _ n (by omega), ← e3, bsrt_small 20 (by decide) (l.drop a) (by omega)]; simp
structure Pass (l lk : List Ev) (bs a : Nat) : Prop where
 ex : ∃ X, lk = X ++ bsrt bs (l.drop a) ∧ X.length = a ∧ X ++ bsrt (2 * bs) (l.drop a) = bsrt (2 * bs) l
 le : a ≤ l.length
theorem Pass.shape {l lk : List Ev} {bs a : Nat} (h : Pass l lk bs a) (hbs : 0 < bs) : ∃ X, X.length = a ∧ X ++ bsrt (2 * bs) (l.drop a) = bsrt (2 * bs) l ∧ lk = X ++ (isort ltE ((l.drop a).take bs) ++ (isort ltE ((l.drop (a + bs)).take bs) ++ bsrt bs (l.drop (a + 2 * bs)))) := by
 obtain ⟨X, e1, e2, e3⟩ := h.ex
 refine ⟨X, e2, e3, ?_⟩
 rw [e1, bsrt_step bs hbs (l.drop a), List.drop_drop, bsrt_step bs hbs (l.drop (a + bs)), List.drop_drop, show a + bs + bs = a + 2 * bs by omega]
theorem Pass.segs {l lk : List Ev} {bs a b : Nat} (h : Pass l lk bs a) (hbs : 0 < bs) (hm : a + bs ≤ l.length) (hb : b = (if a + 2 * bs ≤ l.length then a + 2 * bs else l.length)) :
  seg lk a (a + bs) = isort ltE ((l.drop a).take bs) ∧ seg lk (a + bs) b = isort ltE ((l.drop (a + bs)).take bs) ∧ lk.length = l.length := by
 obtain ⟨X, e2, e3, e4⟩ := h.shape hbs
 have g1 : (isort ltE ((l.drop a).take bs)).length = bs := by rw [isort_len, List.length_take, List.length_drop]; omega
 have g2 : (isort ltE ((l.drop (a + bs)).take bs)).length = b - (a + bs) := by rw [isort_len, List.length_take, List.length_drop]; split at hb <;> omega
 have hbb : a + bs ≤ b := by split at hb <;> omega
 refine ⟨?_, ?_, ?_⟩
 ·rw [e4]; exact seg_of _ _ _ _ _ e2 (by omega)
 ·rw [e4, ← List.append_assoc]; exact seg_of _ _ _ _ _ (by rw [List.length_append]; omega) (by rw [List.length_append]; omega)
 ·obtain ⟨X', f1, f2, f3⟩ := h.ex
  rw [f1, List.length_append, bsrt_len bs hbs _ _ (Nat.le_refl _), List.length_drop]; have := h.le; omega
theorem Pass.step {l lk : List Ev} {bs a b : Nat} (h : Pass l lk bs a) (hbs : 0 < bs) (hm : a + bs ≤ l.length) (hb : b = (if a + 2 * bs ≤ l.length then a + 2 * bs else l.length)) : Pass l (mrg ltE lk a (a + bs) b) bs b := by
 obtain ⟨s1, s2, s3⟩ := h.segs hbs hm hb
 obtain ⟨X, e2, e3, e4⟩ := h.shape hbs
 have g1 : (isort ltE ((l.drop a).take bs)).length = bs := by rw [isort_len, List.length_take, List.length_drop]; omega
 have g2 : (isort ltE ((l.drop (a + bs)).take bs)).length = b - (a + bs) := by rw [isort_len, List.length_take, List.length_drop]; split at hb <;> omega
 have hbb : a + bs ≤ b ∧ b ≤ l.length := by split at hb <;> omega
 have hd : l.drop b = l.drop (a + 2 * bs) := by
  split at hb
  ·rw [hb]
  ·rw [List.drop_of_length_le (by omega), List.drop_of_length_le (by omega)]
 have hj : smerge ltE (isort ltE ((l.drop a).take bs)) (isort ltE ((l.drop (a + bs)).take bs)) = isort ltE ((l.drop a).take (2 * bs)) := by
  rw [← isort_append wkE, show 2 * bs = bs + bs by omega, List.take_add, List.drop_drop]
 refine ⟨⟨X ++ isort ltE ((l.drop a).take (2 * bs)), ?_, ?_, ?_⟩, hbb.2⟩
 ·have d1 : lk.take a = X := by rw [e4]; exact take_of _ _ _ e2
  have d2 : lk.drop b = bsrt bs (l.drop (a + 2 * bs)) := by
   rw [e4, ← List.append_assoc, ← List.append_assoc, show (X ++ isort ltE ((l.drop a).take bs) ++ isort ltE ((l.drop (a + bs)).take bs) ++ bsrt bs (l.drop (a + 2 * bs))).drop b = _ from List.drop_left' (by simp only [List.length_append]; omega)]
  unfold mrg
  rw [s1, s2, hj, d1, d2, hd]; simp
 ·rw [List.length_append, isort_len, List.length_take, List.length_drop, e2]; split at hb <;> omega
 ·rw [← e3, bsrt_step (2 * bs) (by omega) (l.drop a), List.drop_drop, hd]; simp
theorem Pass.done {l lk : List Ev} {bs : Nat} (h : Pass l lk bs l.length) (hbs : 0 < bs) : lk = bsrt (2 * bs) l := by
 obtain ⟨X, e1, e2, e3⟩ := h.ex
 rw [List.drop_length] at e1 e3
 rw [← e3, e1]; unfold bsrt; rw [bsort_nil, bsort_nil]
theorem Pass.small {l lk : List Ev} {bs a : Nat} (h : Pass l lk bs a) (hbs : 0 < bs) (hs : l.length ≤ a + bs) : lk = bsrt (2 * bs) l := by
 obtain ⟨X, e1, e2, e3⟩ := h.ex
 rw [← e3, e1, bsrt_small bs hbs _ (by rw [List.length_drop]; omega), bsrt_small (2 * bs) (by omega) _ (by rw [List.length_drop]; omega)]
theorem first_start (l : List Ev) : First l l 0 := ⟨⟨[], by simp, rfl, by simp⟩, Nat.zero_le _⟩
theorem insE_any (blk cap a b N : Nat) (l : List Ev) (w0 w : World) (HR : Hid (RowE w0 blk N)) (hN : l.length = N) (HS : Hid (SWE w0 blk l w)) (hab : a ≤ b) (hb : b ≤ N) (hsz : N ≤ 1000000) :
  Calls Tryz.prog 104 #[.slice (some ⟨blk, 0, none⟩) N cap, .int .i64 a, .int .i64 b, .func (.func 71) #[] #[]] w fun e w' => e = .returned (.tuple #[]) ∧ SWE w0 blk (srt ltE l a b) w' := by
 obtain ⟨l0, e0, R⟩ := HR.out
 have hH := HS.out.holds R.hblk R.hH (by simp; omega)
 have h := ins_any blk cap a b l.toArray w hH (HS.out.lt R.hblk) hab (by simpa [hN] using hb) (by simp; omega)
 rw [show l.toArray.size = N by simpa using hN] at h
 refine h.mono ?_
 rintro e w' ⟨rfl, n, os, rfl⟩
 refine ⟨rfl, ?_⟩
 have h2 := HS.out.on R.hblk n (insertionSort (ltOf evCmp) l.toArray a b) os (by rw [ins_srt l a b hab (by omega)]; simp; exact srt_len l a b hab (by omega))
 rw [ins_srt l a b hab (by omega)] at h2 ⊢
 exact h2
def RF (w0 : World) (blk N : Nat) (l : List Ev) (u v : Value) (wr : World) : Prop := ∃ a : Nat, ∃ lk, u = .int .i64 a ∧ v = .int .i64 ((a : Int) + 20) ∧ First l lk a ∧ SWE w0 blk lk wr
def RO (w0 : World) (blk N : Nat) (l : List Ev) (t : Value) (wr : World) : Prop := ∃ bs : Nat, t = .int .i64 bs ∧ 20 ≤ bs ∧ bs ≤ 2 * N + 20 ∧ SWE w0 blk (bsrt bs l) wr
end Go.Proofs.YtjldamkmdkaiiaaGreatDoor
