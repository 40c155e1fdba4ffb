/-
  Layer segment: chunks as rows of cells; what is told of events, plain.
-/
import Derived.Laws.AppendOwnNone
import Derived.Laws.OwnMore
import Derived.Maps.AppendAt
import Derived.OwnWalk
import Derived.OwnWalkIn
import Derived.Test.YtifabkbdiiolfaaDoorEjK
import Derived.Test.YtifabkbdiiolfaaDoorJaK
set_option linter.unusedSimpArgs false
set_option linter.unusedVariables false
set_option maxRecDepth 8000
namespace Go.Proofs.YtifabkbdiiolfaaDoor
open Go.RowKit Go.Sort
theorem ro_slice {w : World} {B n : Nat} {v : Value} {xs : List Value} (h : w.ownsRow B 34 5 v n xs) : ∃ A cap, v = .slice A n cap ∧ n ≤ cap ∧ cap ≤ maxLen ∧ (A = none → cap = 0) := by
 rcases h.2 with ⟨e0, e1⟩ | ⟨g, cap', cur, e0, -, -, h1, h2, -⟩
 ·exact ⟨none, 0, by rw [e0, e1], by omega, Nat.zero_le _, fun _ => rfl⟩
 ·exact ⟨_, _, e0, h1, h2, fun h => by cases h⟩
theorem ro_base {w : World} {B n cap : Nat} {A : Option Addr} {l : List Ev} (h : OwnE w B A n cap l) : ∀ k, (Value.slice A n cap).ownBlock = some k → B ≤ k := by
 intro k hk
 rcases h.2 with ⟨e0, e1⟩ | ⟨g, cap', cur, e0, hb, -⟩
 ·rw [e0] at hk; cases hk
 ·rw [e0] at hk; cases hk; exact hb
/-- append of events, the source nil, empty or not. -/
theorem wpList_append_ev {w : World} {ops : Array Oper} {rest : List Oper} {o : Oper} {ac : Act} {Q : Exit → Act → World → Prop} (hgd : o.guard = none) (s x : Operand)
  (ho : o.op = .call { callee := .builtin .append, args := #[s, x], argTypes := #[22, 22] })
  (B : Nat) (A : Option Addr) (n cap : Nat) (l : List Ev) (hs : ac.eval s = .slice A n cap) (hown : OwnE w B A n cap l) (a : Option Addr) (m c : Nat) (l2 : List Ev) (hx : ac.eval x = .slice a m c) (hm : m = l2.length) (h2 : EvAt w a l2) (hnil : a = none → c = 0)
  (N : Nat) (hN : N = n + m) (hbytes : n + m ≤ 1000) (hbase : B ≤ w.heap.size)
  (h : ∀ A' cap' w', OwnE w' B A' N cap' (l ++ l2) → N ≤ cap' → cap' ≤ maxLen → (A' = none → cap' = 0) → Below B w w' → wpList Tryd.prog ops Q rest (ac.put o.dst (.slice A' N cap')) w') : wpList Tryd.prog ops Q (o :: rest) ac w := by
 subst hN
 obtain ⟨i0, hi, hz0, hz1, hz2⟩ := info_parts infoEv
 rcases a with _ | ad
 ·obtain rfl := hnil rfl
  have hl2 : l2 = [] := by
   rcases l2 with _ | ⟨x, r⟩
   ·rfl
   ·obtain ⟨g, off, e, -⟩ := h2 0 (.int .u64 (x.off : Int)) rfl; cases e
  subst hl2
  have h0 : m = 0 := hm
  subst h0
  obtain ⟨A1, c1, e1, e2, e3, e4⟩ := ro_slice hown
  injection e1 with b1 b2 b3
  subst b1; subst b3
  refine wpList_append_own_none hgd s x 22 ho B 34 i0 5 Tryd.underlying22 hi (.slice A n cap) n (evs l) hs hown hx ?_
  exact h A cap w (by rw [List.append_nil]; exact hown) e2 e3 e4 (Below.refl _ _)
 ·refine wpList_append_own_at w hgd s x 22 ho B 34 i0 _ 5 48 Tryd.underlying22 hi hz0 hz1 hz2 rfl (by decide) (.slice A n cap) n (evs l) hs hown ad m c (evs l2) hx (by rw [evs_length, hm]) (fun j u hu => by
   obtain ⟨g', off', e, -, hc⟩ := h2 j u hu
   injection e with e; subst e
   rw [Addr.add_lit]; exact hc) (evs_one l2) (by unfold maxLen; omega) (by omega) hbase ?_
  intro v' w2 hown2 hgr _ _
  have e : evs l ++ evs l2 = evs (l ++ l2) := by unfold evs; rw [List.flatMap_append]
  rw [e] at hown2
  obtain ⟨A1, c1, rfl, e2, e3, e4⟩ := ro_slice hown2
  exact h A1 c1 w2 hown2 e2 e3 e4 ((Below.refl _ w).grown hgr hbase (ro_base hown))
theorem evs_take (l : List Ev) (k j : Nat) (v : Value) (h : (evs (l.take k))[j]? = some v) : (evs l)[j]? = some v := by
 have e : evs l = evs (l.take k) ++ evs (l.drop k) := by unfold evs; rw [← List.flatMap_append, List.take_append_drop]
 rw [e, List.getElem?_append_left (List.getElem?_eq_some_iff.1 h).1, h]
theorem evs_drop (l : List Ev) (k : Nat) (hk : k ≤ l.length) (j : Nat) : (evs (l.drop k))[j]? = (evs l)[k * 5 + j]? := by
 have e : evs l = evs (l.take k) ++ evs (l.drop k) := by unfold evs; rw [← List.flatMap_append, List.take_append_drop]
 have hl : (evs (l.take k)).length = k * 5 := by rw [evs_length, List.length_take, Nat.min_eq_left hk]
 rw [e, List.getElem?_append_right (by omega), hl, Nat.add_sub_cancel_left]
theorem ecut_from (a : Option Addr) (len cap k : Nat) (hk : k ≤ len) (hc : len ≤ cap) (hnil : a = none → cap = 0) :
  ∃ A C, (∀ w, (Instr.slice 22 (.slice a len cap) (some (.int .i64 (k : Int))) none none).run Tryd.prog w = .ok (.slice A (len - k) C) w) ∧ (A = none → C = 0) ∧ ∀ w l, len = l.length → EvAt w a l → EvAt w A (l.drop k) := by
 refine ⟨if cap = k then a else a.map (·.add (k * 5)), cap - k, fun w => ?_, fun h => ?_, fun w l hl h j x hx => ?_⟩
 ·rw [run_slice_l w 22 a len cap Tryd.underlying22 .i64 (k : Int) (by omega) (by omega)]
  rw [show (Go.sizeOf (Tryd.prog.elem 22)).run Tryd.prog w = .ok 5 w from by kernel_rfl]
  simp [Result.andThen, sliced]
 ·split at h
  ·omega
  ·rcases a with _ | a
   ·have := hnil rfl; omega
   ·cases h
 ·have hkl : k < l.length := by
   have := (List.getElem?_eq_some_iff.1 hx).1
   rw [evs_length, List.length_drop] at this; omega
  rw [evs_drop l k (by omega)] at hx
  obtain ⟨g, off, rfl, hg, hcell⟩ := h _ _ hx
  rw [if_neg (by omega)]
  exact ⟨g, off + k * 5, by simp [Addr.add_lit], hg, by rw [Nat.add_assoc]; exact hcell⟩
theorem ecut_to (a : Option Addr) (len cap k : Nat) (hk : k ≤ len) (hc : len ≤ cap) (hnil : a = none → cap = 0) :
  ∃ A, (∀ w, (Instr.slice 22 (.slice a len cap) none (some (.int .i64 (k : Int))) none).run Tryd.prog w = .ok (.slice A k cap) w) ∧ (A = none → cap = 0) ∧ ∀ w l, len = l.length → EvAt w a l → EvAt w A (l.take k) := by
 refine ⟨if cap = 0 then a else a.map (·.add 0), fun w => ?_, fun h => ?_, fun w l hl h j x hx => ?_⟩
 ·rw [run_slice_h w 22 a len cap Tryd.underlying22 .i64 (k : Int) (by omega) (by omega)]
  rw [show (Go.sizeOf (Tryd.prog.elem 22)).run Tryd.prog w = .ok 5 w from by kernel_rfl]
  simp [Result.andThen, sliced]
 ·split at h
  ·omega
  ·rcases a with _ | a
   ·have := hnil rfl; omega
   ·cases h
 ·obtain ⟨g, off, rfl, hg, hcell⟩ := h _ _ (evs_take l k j x hx)
  exact ⟨g, off, by simp [Addr.add_lit], hg, hcell⟩
/-- The place of an insertion. -/
def InsAt (x : Ev) (s : List Ev) (k : Nat) : Prop := insB (ltOf evCmp) x s = insB (ltOf evCmp) x (s.take k) ++ s.drop k
theorem InsAt.start (x : Ev) (s : List Ev) (k : Nat) (hk : k = s.length) : InsAt x s k := by subst hk; unfold InsAt; simp
theorem InsAt.step {x y : Ev} {s : List Ev} {k : Nat} (h : InsAt x s (k + 1)) (hy : s[k]? = some y) (hl : lessB x y = true) : InsAt x s k := by
 unfold InsAt at *
 obtain ⟨hk, rfl⟩ := List.getElem?_eq_some_iff.1 hy
 have hl' : ltOf evCmp x s[k] = true := hl
 rw [h, List.take_succ_eq_append_getElem hk, insB_snoc, if_pos hl', List.append_assoc]
 congr 1
 rw [List.drop_eq_getElem_cons hk]; rfl
theorem InsAt.stop {x y : Ev} {s : List Ev} {k : Nat} (h : InsAt x s (k + 1)) (hy : s[k]? = some y) (hl : lessB x y = false) : insB (ltOf evCmp) x s = (s.take (k + 1) ++ [x]) ++ s.drop (k + 1) := by
 unfold InsAt at h
 obtain ⟨hk, rfl⟩ := List.getElem?_eq_some_iff.1 hy
 have hl' : ¬ ltOf evCmp x s[k] = true := by have e : ltOf evCmp x s[k] = false := hl; rw [e]; decide
 have e : s.take k ++ [s[k]] = s.take (k + 1) := (List.take_succ_eq_append_getElem hk).symm
 rw [h, ← e, insB_snoc, if_neg hl', List.append_assoc (s.take k) [s[k]] [x]]; rfl
theorem InsAt.zero {x : Ev} {s : List Ev} (h : InsAt x s 0) : insB (ltOf evCmp) x s = (s.take 0 ++ [x]) ++ s.drop 0 := by
 unfold InsAt at h; rw [h]; simp [insB_nil]
theorem OwnE.at' {w : World} {B n cap : Nat} {A : Option Addr} {l : List Ev} (h : OwnE w B A n cap l) : EvAt w A l := fun j v hv => by
 have hjl := (List.getElem?_eq_some_iff.1 hv).1
 rcases h.2 with ⟨e0, e1⟩ | ⟨g, cap', cur, e0, hb, hg, hn, hm, hs, ht⟩
 ·have := h.1; rw [e1, Nat.zero_mul] at this; omega
 ·injection e0 with a1 a2 a3
  subst a1
  refine ⟨g, 0, rfl, (Array.getElem?_eq_some_iff.1 hg).1, ?_⟩
  rw [cell_of_row _ _ _ _ _ _ hg, Nat.zero_add, ← Array.getElem?_toList]
  have := h.1
  rw [← ht, List.getElem?_take] at hv
  rw [if_pos (by omega)] at hv
  exact hv
theorem evr {w : World} {A : Option Addr} {l : List Ev} (h : EvAt w A l) (i : Nat) (x : Ev) (hx : l[i]? = some x) : ∃ g off, A = some ⟨g, off, none⟩ ∧ g < w.heap.size ∧ w.rangeAt g (off + i * 5) x.cells := by
 have h0 : (evs l)[i * 5 + 0]? = x.cells[0]? := by rw [evs_get l i 0 (by decide), hx]; rfl
 obtain ⟨g, off, e, hg, -⟩ := h (i * 5 + 0) (.int .u64 (x.off : Int)) (by rw [h0]; rfl)
 refine ⟨g, off, e, hg, fun j v hv => ?_⟩
 have hj : j < 5 := (List.getElem?_eq_some_iff.1 hv).1
 have h1 : (evs l)[i * 5 + j]? = some v := by rw [evs_get l i j hj, hx]; exact hv
 obtain ⟨g', off', e', -, hc⟩ := h _ _ h1
 rw [e] at e'; injection e' with e'; injection e' with b1 b2; subst b1; subst b2
 rw [Nat.add_assoc]; exact hc
theorem rkeep {w w' : World} {g o : Nat} {x : Ev} (h : w.rangeAt g o x.cells) (hg : g < w.heap.size) (hb : Below w.heap.size w w') : w'.rangeAt g o x.cells := fun j v hv => (hb.cell (p := ⟨g, o + j, none⟩) hg).trans (h j v hv)
theorem OwnE.less {w : World} {B B' n cap : Nat} {A : Option Addr} {l : List Ev} (h : OwnE w B A n cap l) (hB : B' ≤ B) : OwnE w B' A n cap l := by
 refine ⟨h.1, ?_⟩
 rcases h.2 with h1 | ⟨g, cap', cur, h1, hb, h2⟩
 ·exact .inl h1
 ·exact .inr ⟨g, cap', cur, h1, Nat.le_trans hB hb, h2⟩
end Go.Proofs.YtifabkbdiiolfaaDoor

namespace Go.Proofs.YtifabkbdiiolfaaDoor
open Go.RowKit Go.WideShapes
/-- What is told of a chunk. -/
structure Ck where
 rows : Nat
 pl : Nat
 oa : Nat
 ob : Nat
 ta : Int
 tz : Int
 ka : ByteArray
 kz : ByteArray
instance : Inhabited Ck := ⟨⟨0, 0, 0, 0, 0, 0, ByteArray.empty, ByteArray.empty⟩⟩
def Ck.cells (x : Ck) : List Value := [.int .i64 (x.rows : Int), .int .i64 (x.pl : Int), .int .u64 (x.oa : Int), .int .u64 (x.ob : Int), .int .i64 x.ta, .int .i64 x.tz, .string x.ka, .string x.kz]
theorem ckc_len (x : Ck) : x.cells.length = 8 := rfl
theorem ckc_one (x : Ck) : ∀ v ∈ x.cells, v.oneCell' = true := fun v hv => by
 simp only [Ck.cells, List.mem_cons, List.not_mem_nil, or_false] at hv
 rcases hv with rfl | rfl | rfl | rfl | rfl | rfl | rfl | rfl <;> rfl
def cks (l : List Ck) : List Value := l.flatMap Ck.cells
theorem cks_length (l : List Ck) : (cks l).length = l.length * 8 := by
 induction l with
 | nil => rfl
 | cons x r ih => unfold cks at *; rw [List.flatMap_cons, List.length_append, ih, ckc_len, List.length_cons]; omega
theorem cks_one (l : List Ck) : ∀ v ∈ cks l, v.oneCell' = true := fun v hv => by
 obtain ⟨x, -, hx⟩ := List.mem_flatMap.1 hv
 exact ckc_one x v hx
theorem cks_get (l : List Ck) (k j : Nat) (hj : j < 8) : (cks l)[k * 8 + j]? = (l[k]?).bind fun x => x.cells[j]? := by
 induction l generalizing k with
 | nil => simp [cks]
 | cons x r ih =>
  unfold cks at *
  rw [List.flatMap_cons]
  rcases k with _ | k
  ·rw [List.getElem?_append_left (by rw [ckc_len]; omega)]; simp
  ·rw [List.getElem?_append_right (by rw [ckc_len]; omega), ckc_len, show (k + 1) * 8 + j - 8 = k * 8 + j by omega, ih]; simp
/-- A slice value that holds some events, in a world. -/
def CkAt (w : World) (a : Option Addr) (l : List Ck) : Prop := ∀ (j : Nat) (v : Value), (cks l)[j]? = some v → ∃ g off, a = some ⟨g, off, none⟩ ∧ g < w.heap.size ∧ w.cell? ⟨g, off + j, none⟩ = some v
theorem CkAt.keep {w w' : World} {a : Option Addr} {l : List Ck} (h : CkAt w a l) (hb : Below w.heap.size w w') : CkAt w' a l := fun j v hv => by
 obtain ⟨g, off, h2, h3, h4⟩ := h j v hv
 exact ⟨g, off, h2, Nat.lt_of_lt_of_le h3 hb.size, (hb.cell (p := ⟨g, off + j, none⟩) h3).trans h4⟩
theorem infoCk : (Tryd.prog.info? 41).map (fun i => (i.zero, i.size, i.bytes)) = some (some (.agg #[.int .i64 0, .int .i64 0, .int .u64 0, .int .u64 0, .int .i64 0, .int .i64 0, .string ByteArray.empty, .string ByteArray.empty]), 8, 80) := by kernel_rfl
/-- Events that a call owns. -/
def OwnC (w : World) (B : Nat) (A : Option Addr) (n cap : Nat) (l : List Ck) : Prop := w.ownsRow B 41 8 (.slice A n cap) n (cks l)
theorem rc_slice {w : World} {B n : Nat} {v : Value} {xs : List Value} (h : w.ownsRow B 41 8 v n xs) : ∃ A cap, v = .slice A n cap ∧ n ≤ cap ∧ cap ≤ maxLen ∧ (A = none → cap = 0) := by
 rcases h.2 with ⟨e0, e1⟩ | ⟨g, cap', cur, e0, -, -, h1, h2, -⟩
 ·exact ⟨none, 0, by rw [e0, e1], by omega, Nat.zero_le _, fun _ => rfl⟩
 ·exact ⟨_, _, e0, h1, h2, fun h => by cases h⟩
theorem rc_base {w : World} {B n cap : Nat} {A : Option Addr} {l : List Ck} (h : OwnC w B A n cap l) : ∀ k, (Value.slice A n cap).ownBlock = some k → B ≤ k := by
 intro k hk
 rcases h.2 with ⟨e0, e1⟩ | ⟨g, cap', cur, e0, hb, -⟩
 ·rw [e0] at hk; cases hk
 ·rw [e0] at hk; cases hk; exact hb
/-- append of events, the source nil, empty or not. -/
theorem wpList_append_ck {w : World} {ops : Array Oper} {rest : List Oper} {o : Oper} {ac : Act} {Q : Exit → Act → World → Prop} (hgd : o.guard = none) (s x : Operand)
  (ho : o.op = .call { callee := .builtin .append, args := #[s, x], argTypes := #[38, 38] })
  (B : Nat) (A : Option Addr) (n cap : Nat) (l : List Ck) (hs : ac.eval s = .slice A n cap) (hown : OwnC w B A n cap l) (a : Option Addr) (m c : Nat) (l2 : List Ck) (hx : ac.eval x = .slice a m c) (hm : m = l2.length) (h2 : CkAt w a l2) (hnil : a = none → c = 0)
  (N : Nat) (hN : N = n + m) (hbytes : n + m ≤ 1000) (hbase : B ≤ w.heap.size)
  (h : ∀ A' cap' w', OwnC w' B A' N cap' (l ++ l2) → N ≤ cap' → cap' ≤ maxLen → (A' = none → cap' = 0) → Below B w w' → wpList Tryd.prog ops Q rest (ac.put o.dst (.slice A' N cap')) w') : wpList Tryd.prog ops Q (o :: rest) ac w := by
 subst hN
 obtain ⟨i0, hi, hz0, hz1, hz2⟩ := info_parts infoCk
 rcases a with _ | ad
 ·obtain rfl := hnil rfl
  have hl2 : l2 = [] := by
   rcases l2 with _ | ⟨x, r⟩
   ·rfl
   ·obtain ⟨g, off, e, -⟩ := h2 0 (.int .i64 (x.rows : Int)) rfl; cases e
  subst hl2
  have h0 : m = 0 := hm
  subst h0
  obtain ⟨A1, c1, e1, e2, e3, e4⟩ := rc_slice hown
  injection e1 with b1 b2 b3
  subst b1; subst b3
  refine wpList_append_own_none hgd s x 38 ho B 41 i0 8 Tryd.underlying38 hi (.slice A n cap) n (cks l) hs hown hx ?_
  exact h A cap w (by rw [List.append_nil]; exact hown) e2 e3 e4 (Below.refl _ _)
 ·refine wpList_append_own_at w hgd s x 38 ho B 41 i0 _ 8 80 Tryd.underlying38 hi hz0 hz1 hz2 rfl (by decide) (.slice A n cap) n (cks l) hs hown ad m c (cks l2) hx (by rw [cks_length, hm]) (fun j u hu => by
   obtain ⟨g', off', e, -, hc⟩ := h2 j u hu
   injection e with e; subst e
   rw [Addr.add_lit]; exact hc) (cks_one l2) (by unfold maxLen; omega) (by omega) hbase ?_
  intro v' w2 hown2 hgr _ _
  have e : cks l ++ cks l2 = cks (l ++ l2) := by unfold cks; rw [List.flatMap_append]
  rw [e] at hown2
  obtain ⟨A1, c1, rfl, e2, e3, e4⟩ := rc_slice hown2
  exact h A1 c1 w2 hown2 e2 e3 e4 ((Below.refl _ w).grown hgr hbase (rc_base hown))
theorem OwnC.at' {w : World} {B n cap : Nat} {A : Option Addr} {l : List Ck} (h : OwnC w B A n cap l) : CkAt w A l := fun j v hv => by
 have hjl := (List.getElem?_eq_some_iff.1 hv).1
 rcases h.2 with ⟨e0, e1⟩ | ⟨g, cap', cur, e0, hb, hg, hn, hm, hs, ht⟩
 ·have := h.1; rw [e1, Nat.zero_mul] at this; omega
 ·injection e0 with a1 a2 a3
  subst a1
  refine ⟨g, 0, rfl, (Array.getElem?_eq_some_iff.1 hg).1, ?_⟩
  rw [cell_of_row _ _ _ _ _ _ hg, Nat.zero_add, ← Array.getElem?_toList]
  have := h.1
  rw [← ht, List.getElem?_take] at hv
  rw [if_pos (by omega)] at hv
  exact hv
theorem ckr {w : World} {A : Option Addr} {l : List Ck} (h : CkAt w A l) (i : Nat) (x : Ck) (hx : l[i]? = some x) : ∃ g off, A = some ⟨g, off, none⟩ ∧ g < w.heap.size ∧ w.rangeAt g (off + i * 8) x.cells := by
 have h0 : (cks l)[i * 8 + 0]? = x.cells[0]? := by rw [cks_get l i 0 (by decide), hx]; rfl
 obtain ⟨g, off, e, hg, -⟩ := h (i * 8 + 0) (.int .i64 (x.rows : Int)) (by rw [h0]; rfl)
 refine ⟨g, off, e, hg, fun j v hv => ?_⟩
 have hj : j < 8 := (List.getElem?_eq_some_iff.1 hv).1
 have h1 : (cks l)[i * 8 + j]? = some v := by rw [cks_get l i j hj, hx]; exact hv
 obtain ⟨g', off', e', -, hc⟩ := h _ _ h1
 rw [e] at e'; injection e' with e'; injection e' with b1 b2; subst b1; subst b2
 rw [Nat.add_assoc]; exact hc
theorem OwnC.less {w : World} {B B' n cap : Nat} {A : Option Addr} {l : List Ck} (h : OwnC w B A n cap l) (hB : B' ≤ B) : OwnC w B' A n cap l := by
 refine ⟨h.1, ?_⟩
 rcases h.2 with h1 | ⟨g, cap', cur, h1, hb, h2⟩
 ·exact .inl h1
 ·exact .inr ⟨g, cap', cur, h1, Nat.le_trans hB hb, h2⟩
theorem ckAt_new (w : World) (l : List Ck) (cs : Array Value) (hcs : cs.toList = cks l) (t : TypeId) : CkAt (w.alloc (.cells cs t)) (some ⟨w.heap.size, 0, none⟩) l := fun j v hv => by
 refine ⟨w.heap.size, 0, rfl, by simp, ?_⟩
 rw [Nat.zero_add, cell_of_row _ _ _ _ _ _ (heap_new w _), ← Array.getElem?_toList, hcs]; exact hv
theorem OwnC.nil (w : World) (B : Nat) : OwnC w B none 0 0 [] := w.ownsRow_nil B _ 8
theorem OwnC.keep {w w' : World} {B n cap : Nat} {A : Option Addr} {l : List Ck} (h : OwnC w B A n cap l) (hb : Below w.heap.size w w') : OwnC w' B A n cap l :=
 World.ownsRow.kept (row := none) h ⟨hb.os, hb.tape, hb.output, hb.size, fun k hk _ => hb.block k hk⟩ (by rcases A with _ | a <;> simp [Value.ownBlock])
theorem uCk : Tryd.prog.underlying 41 = some (.struct (Tryd.prog.fieldsOf 41)) := by kernel_rfl
theorem iCk (x : Ck) : (Tryd.prog.info? 41).map (·.size) = some x.cells.length := by rw [ckc_len]; kernel_rfl
def zCk : Ck := ⟨0, 0, 0, 0, 0, 0, { data := #[] }, { data := #[] }⟩
/-! What is told of events. -/
def minI (a b : Int) : Int := if b < a then b else a
def maxI (a b : Int) : Int := if b > a then b else a
def minK (a b : ByteArray) : ByteArray := if (Op.bytesLess a.toList b.toList || a.toList == b.toList) = true then a else b
def maxK (a b : ByteArray) : ByteArray := if (!Op.bytesLess a.toList b.toList) = true then a else b
theorem run_minK (ts : Array TypeId) (ty : TypeId) (a b : ByteArray) (w : World) : (Builtin.min_ ts ty #[.string a, .string b]).run Tryd.prog w = .ok (.string (minK a b)) w := by
 unfold minK
 simp [Builtin.min_, Builtin.min2, Op.stringOp, asBool]
theorem run_maxK (ts : Array TypeId) (ty : TypeId) (a b : ByteArray) (w : World) : (Builtin.max_ ts ty #[.string a, .string b]).run Tryd.prog w = .ok (.string (maxK a b)) w := by
 unfold maxK
 simp [Builtin.max_, Builtin.max2, Op.stringOp, asBool]
def ckF (c : Ck) (e : Ev) : Ck := { c with ta := minI c.ta e.time, tz := maxI c.tz e.time, ka := minK c.ka e.key, kz := maxK c.kz e.key }
def ckS (l : List Ev) (p : Nat) : Ck := match l with
 | [] => { zCk with pl := p }
 | x :: r => ⟨(x :: r).length, p, x.off, ((x :: r).getLast (by simp)).off, x.time, x.time, x.key, x.key⟩
/-- What is told of events whose page stands at a place. -/
def ckOf (l : List Ev) (p : Nat) : Ck := l.foldl ckF (ckS l p)
end Go.Proofs.YtifabkbdiiolfaaDoor
