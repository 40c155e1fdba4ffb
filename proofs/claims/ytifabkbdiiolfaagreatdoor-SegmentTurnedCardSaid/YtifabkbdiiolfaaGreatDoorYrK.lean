/-
  Layer segment: does a chunk stand behind those that are read: (*Segment).follows.
-/
import Derived.RangeFuncFrom
import Derived.OrdersIn
import Derived.Test.YtifabkbdiiolfaaGreatDoorYkK
import Derived.Test.YtifabkbdiiolfaaGreatDoorYmK
import Derived.Test.YtifabkbdiiolfaaGreatDoorYqK
open List renaming getElem_toArray → qz0, getElem_cons_zero → qz1, getElem_cons_succ → qz2, setIfInBounds_toArray → qz3, set_cons_zero → qz4, set_cons_succ → qz5
set_option linter.unusedSimpArgs false
set_option linter.unusedVariables false
set_option maxRecDepth 8000
namespace Go.Proofs.YtifabkbdiiolfaaGreatDoor
open Go.RowKit Go.Shelf Go.WideShapes Col
/-- In a round an operation that is no defer statement is carried out as everywhere. -/
theorem oper_round {l n : Nat} {P : Program} {o : Oper} {a : Act} {w : World} {K : Act → World → Prop} {Q : Exit → Act → World → Prop} (hd : ∀ c, o.op ≠ .defer c) (h : o.wp P a w K Q) : o.wpIn (Fence.wide.inRound l) n P a w K Q := by
 unfold Oper.wpIn
 refine ⟨fun _ _ => trivial, ?_⟩
 rw [show (Fence.wide.inRound l).round = some l from rfl, Oper.semAt_some l _ _ hd]
 unfold Oper.wp at h
 generalize (execOp a.eval o).run P w = r at *
 cases r with
 | ok x w' =>
  cases x with
  | value v => exact h
  | skip => exact h
  | defer d => exact h
  | enter f args => exact ⟨(fun h => by cases h), CallsIn.inRound l (callsIn_wide.2 h)⟩
  | row row args => exact ⟨(fun h => by cases h), fun c cs _ => by
    obtain ⟨v, w2, hr, hs⟩ := h c cs
    exact ⟨v, w2, hr, by rw [fenced_inRound]; exact stepsIn_wide.2 hs⟩⟩
  | round => exact h.elim
  | _ => first | exact h.elim | exact h
 | halt x w' => cases x <;> first | exact h | exact h.elim
theorem wpOpIn_round {l n : Nat} {P : Program} {ops : Array Oper} {Q : Exit → Act → World → Prop} (hd : ∀ (i : Nat) (o : Oper) c, ops[i]? = some o → o.op ≠ .defer c) (hlo : ¬ LetsOut Q) {i : Nat} {K K' : Act → World → Prop} (hK : ∀ a w, K a w → K' a w) {a : Act} {w : World}
  (h : wpOp P ops Q i K a w) : wpOpIn (Fence.wide.inRound l) n P ops Q i K' a w := by
 refine wpOpIn_mono hK ?_
 unfold wpOp at h
 unfold wpOpIn
 rcases ho : ops[i]? with _ | o
 ·simp only [ho] at h ⊢; exact h
 ·simp only [ho] at h ⊢
  split
  ·rename_i hw
   simp only [hw, if_true] at h
   rcases h with h | h
   ·exact oper_round (fun c => hd i o c ho) h
   ·exact (hlo h.2).elim
  ·rename_i hw
   simp only [hw] at h
   exact ⟨fun _ _ => trivial, h⟩
theorem wpAnyIn_round {l n : Nat} {P : Program} {md : Region.Mode} {ops : Array Oper} {Q : Exit → Act → World → Prop} (hd : ∀ (i : Nat) (o : Oper) c, ops[i]? = some o → o.op ≠ .defer c) (hlo : ¬ LetsOut Q) :
  ∀ (fuel : Nat) (listed : Array Bool) (a : Act) (w : World), wpAny P md ops Q fuel listed a w → wpAnyIn (Fence.wide.inRound l) n P md ops Q fuel listed a w
 | 0, _, _, _, h => h
 | fuel + 1, _, _, _, h => ⟨h.1, fun i hi => wpOpIn_round hd hlo (fun a w h' => wpAnyIn_round hd hlo fuel _ a w h') (h.2 i hi)⟩
/-- A region that draws its order, in a round: as it is walked everywhere. -/
theorem wpIn_region_round {l n : Nat} {P : Program} {id : Nat} {ops : Array Oper} {Q : Exit → Act → World → Prop} {S : World → Prop} {a : Act} {w : World} (hm : P.follows .mixedOrders = true) (hd : ops.all (fun o => match o.op with | .defer _ => false | _ => true) = true) (hlo : ¬ LetsOut Q)
  (hS : S w.drew) (h : S w.drew → wpAnyH P .any ops Q S ops.size (Array.replicate ops.size false) a w.drew) : (Code.region id ops true).wpIn (Fence.wide.inRound l) n P Q a w :=
 wpIn_region_any hm (wpAnyIn_round (fun i o c ho e => by
  have h1 := Array.all_eq_true.1 hd i (Array.getElem?_eq_some_iff.1 ho).1
  rw [(Array.getElem?_eq_some_iff.1 ho).2, e] at h1
  cases h1) hlo _ _ _ _ (wpAny_of_held _ _ _ _ (h hS)))
theorem run_append_ck (w : World) (B : Nat) (A : Option Addr) (n cap : Nat) (l : List Ck) (hown : OwnC w B A n cap l) (ad : Addr) (m c : Nat) (l2 : List Ck) (hm : m = l2.length) (h2 : CkAt w (some ad) l2)
  (hbytes : n + m ≤ 1000000) (hbase : B ≤ w.heap.size) (ty : TypeId) :
  ∃ A' cap' w', (Builtin.append_ #[74, 74] ty #[.slice A n cap, .slice (some ad) m c]).run Tryz.prog w = .ok (.slice A' (n + m) cap') w' ∧ OwnC w' B A' (n + m) cap' (l ++ l2) ∧ w.grownBy w' (A.map (·.block)) ∧
   (A'.map (·.block) = A.map (·.block) ∨ A'.map (·.block) = some w.heap.size) := by
 obtain ⟨i0, hi, hz0, hz1, hz2⟩ := info_parts infoCk
 obtain ⟨v', w', hr, h3, h4, h5, h6⟩ := run_append_own_at (P := Tryz.prog) w B 74 ty 77 i0 _ 8 80 Tryz.underlying74 hi hz0 hz1 hz2 rfl (by decide) _ n (cks l) hown ad m c (cks l2) (by rw [cks_length, hm]) (fun j u hu => by
   obtain ⟨g', off', e, -, hc⟩ := h2 j u hu
   injection e with e; subst e
   rw [Addr.add_lit]; exact hc) (cks_one l2) (by unfold maxLen; omega) (by omega) hbase
 have e : cks l ++ cks l2 = cks (l ++ l2) := by unfold cks; rw [List.flatMap_append]
 rw [e] at h3
 obtain ⟨A1, c1, rfl, e2, e3, e4⟩ := rc_slice h3
 refine ⟨A1, c1, w', hr, h3, ?_, ?_⟩
 ·rcases A with _ | _ <;> exact h4
 ·rcases A with _ | _ <;> rcases A1 with _ | _ <;> first | exact h6 | (exact .inl rfl)
theorem wp_append_ck {o : Oper} {a : Act} {w : World} {K : Act → World → Prop} {Q : Exit → Act → World → Prop} (s x : Operand)
  (ho : o.op = .call { callee := .builtin .append, args := #[s, x], argTypes := #[74, 74] })
  (B : Nat) (A : Option Addr) (n cap : Nat) (l : List Ck) (hs : a.eval s = .slice A n cap) (hown : OwnC w B A n cap l) (ad : Addr) (m c : Nat) (l2 : List Ck) (hx : a.eval x = .slice (some ad) m c) (hm : m = l2.length) (h2 : CkAt w (some ad) l2)
  (hbytes : n + m ≤ 1000000) (hbase : B ≤ w.heap.size) (N : Nat) (hN : N = n + m)
  (h : ∀ A' cap' w', OwnC w' B A' N cap' (l ++ l2) → w.grownBy w' (A.map (·.block)) → (A'.map (·.block) = A.map (·.block) ∨ A'.map (·.block) = some w.heap.size) → K (a.put o.dst (.slice A' N cap')) w') : o.wp Tryz.prog a w K Q := by
 subst hN
 obtain ⟨A', cap', w', hr, h3, h4, h5⟩ := run_append_ck w B A n cap l hown ad m c l2 hm h2 hbytes hbase o.type
 unfold Oper.wp execOp
 simp only [ho, resolve, invoke, builtin, Sem.run_bind, Sem.run_pure, Result.andThen_ok, List.map_toArray, List.map_cons, List.map_nil, hs, hx, hr]
 exact h A' cap' w' h3 h4 h5
theorem lv_cksS (w : World) (g j : Nat) (v : Value) (h : w.cell? ⟨g, j, none⟩ = some v) : (loadVar 74 ⟨g, j, none⟩).run Tryz.prog w = .ok v w := by
 go_simp
theorem wp_ld_cksS {o : Oper} {a : Act} {w : World} {K : Act → World → Prop} {Q : Exit → Act → World → Prop} (x : Operand) (ho : o.op = .load 74 x) (g j : Nat) (hx : a.eval x = .pointer (some ⟨g, j, none⟩)) (v : Value) (hc : w.cell? ⟨g, j, none⟩ = some v)
  (h : K (a.put o.dst v) w) : o.wp Tryz.prog a w K Q := by
 unfold Oper.wp execOp
 simp only [ho, hx, Instr.loadAt, Instr.sureAddr, Sem.run_bind, Sem.run_pure, Result.andThen_ok, lv_cksS w g j v hc]
 exact h
theorem wp_st_cksS {o : Oper} {a : Act} {w : World} {K : Act → World → Prop} {Q : Exit → Act → World → Prop} (x y : Operand) (ho : o.op = .store 74 x y) (g j : Nat) (hx : a.eval x = .pointer (some ⟨g, j, none⟩)) (A : Option Addr) (n c : Nat) (hy : a.eval y = .slice A n c) {u : Value} (hc : w.cell? ⟨g, j, none⟩ = some u) (hf : w.frozen? ⟨g, j, none⟩ = false)
  (h : K (a.put o.dst undef) (w.setCell ⟨g, j, none⟩ (.slice A n c))) : o.wp Tryz.prog a w K Q := by
 have hr : (storeVar 74 ⟨g, j, none⟩ (.slice A n c)).run Tryz.prog w = .ok () (w.setCell ⟨g, j, none⟩ (.slice A n c)) := by go_simp
 unfold Oper.wp execOp
 simp only [ho, hx, hy, Instr.storeAt, Instr.sureAddr, Sem.run_bind, Sem.run_pure, Result.andThen_ok, hr]
 exact h
theorem yl_bysS {ops : Array Oper} {S : World → Prop} {op : Oper} {a : Act} (hw : Region.wanted op (yielded ops a.tmps) = true) (x : Operand) (ho : op.op = .load 29 x) (g j : Nat) (hx : a.eval x = .pointer (some ⟨g, j, none⟩)) (v : Value)
  (hc : ∀ w, S w → w.cell? ⟨g, j, none⟩ = some v) : YieldsIf Tryz.prog ops S op v a :=
 .inl ⟨hw, fun w hw' => by
  have hr : (loadVar 29 ⟨g, j, none⟩).run Tryz.prog w = .ok v w := by
   have hc9 := hc w hw'
   go_simp
  unfold execOp
  simp only [ho, hx, Instr.loadAt, Instr.sureAddr, Sem.run_bind, Sem.run_pure, Result.andThen_ok, hr]⟩
/-- The boxes of Write, and what they hold, some chunks having come. -/
structure WI (w1 : World) (s : Nat) (l : List Ev) (pre : List Nat) (W : World) (A : Option Addr) (m cap : Nat) (A2 : Option Addr) (m2 cap2 : Nat) : Prop where
 r0 : W.heap[s]? = some (.cells #[.slice A m cap] 29 (0, 0))
 r1 : W.heap[s + 1]? = some (.cells #[.slice A2 m2 cap2] 74 (0, 0))
 op : OwnS W (s + 4) A m cap (wrS l pre).1
 oc : OwnC W (s + 4) A2 m2 cap2 (wrS l pre).2
 below : Below s w1 W
 size : s + 4 ≤ W.heap.size
/-- Blocks that a round of Write may turn. -/
def WS (s : Nat) (A A2 : Option Addr) (k : Nat) : Prop := k = s ∨ k = s + 1 ∨ MineK A k ∨ MineK A2 k
theorem own_cells {W : World} {B n cap k : Nat} {A : Option Addr} {l : List Nat} (h : OwnS W B A n cap l) (hk : MineK A k) : ∃ cs t fr, W.heap[k]? = some (.cells cs t fr) ∧ B ≤ k := by
 rcases h.1.2 with ⟨e0, e1⟩ | ⟨g, cap', cur, e0, hb, hg, -⟩
 ·injection e0 with e0 _ _; rw [e0] at hk; cases hk
 ·injection e0 with e0 _ _; rw [e0] at hk; injection hk with hk; subst hk; exact ⟨_, _, _, hg, hb⟩
theorem ownC_cells {W : World} {B n cap k : Nat} {A : Option Addr} {l : List Ck} (h : OwnC W B A n cap l) (hk : MineK A k) : ∃ cs t fr, W.heap[k]? = some (.cells cs t fr) ∧ B ≤ k := by
 rcases h.2 with ⟨e0, e1⟩ | ⟨g, cap', cur, e0, hb, hg, -⟩
 ·injection e0 with e0 _ _; rw [e0] at hk; cases hk
 ·injection e0 with e0 _ _; rw [e0] at hk; injection hk with hk; subst hk; exact ⟨_, _, _, hg, hb⟩
theorem OwnS.keptW {w w' : World} {B n cap : Nat} {A : Option Addr} {l : List Nat} {S : Nat → Prop} (h : OwnS w B A n cap l) (hk : Kept S w w') (hn : ∀ k, MineK A k → ¬ S k) : OwnS w' B A n cap l := by
 refine ⟨⟨h.1.1, ?_⟩, h.2⟩
 rcases h.1.2 with h1 | ⟨g, cap', cur, e0, hb, hg, rest⟩
 ·exact .inl h1
 ·exact .inr ⟨g, cap', cur, e0, hb, hk.heap hg (hn g (by injection e0 with e0 _ _; rw [e0]; rfl)), rest⟩
theorem OwnC.keptW {w w' : World} {B n cap : Nat} {A : Option Addr} {l : List Ck} {S : Nat → Prop} (h : OwnC w B A n cap l) (hk : Kept S w w') (hn : ∀ k, MineK A k → ¬ S k) : OwnC w' B A n cap l := by
 refine ⟨h.1, ?_⟩
 rcases h.2 with h1 | ⟨g, cap', cur, e0, hb, hg, rest⟩
 ·exact .inl h1
 ·exact .inr ⟨g, cap', cur, e0, hb, hk.heap hg (hn g (by injection e0 with e0 _ _; rw [e0]; rfl)), rest⟩
section
variable {w1 W W' : World} {s : Nat} {l : List Ev} {pre : List Nat} {A A2 : Option Addr} {m cap m2 cap2 : Nat}
theorem WI.others (h : WI w1 s l pre W A m cap A2 m2 cap2) (hk : Kept (WS s A A2) W W') : KeepsOthers W W' := ⟨hk.size, fun k o ho hc => hk.heap ho fun hs => by
 rcases hs with e | e | e | e
 ·subst e; rw [h.r0] at ho; injection ho with ho; subst ho; cases hc
 ·subst e; rw [h.r1] at ho; injection ho with ho; subst ho; cases hc
 ·obtain ⟨cs, t, fr, h1, -⟩ := own_cells h.op e; rw [h1] at ho; injection ho with ho; subst ho; cases hc
 ·obtain ⟨cs, t, fr, h1, -⟩ := ownC_cells h.oc e; rw [h1] at ho; injection ho with ho; subst ho; cases hc⟩
theorem WI.kpc (h : WI w1 s l pre W A m cap A2 m2 cap2) (hk : Kept (WS s A A2) W W') : KpC (s + 2) (s + 3) W W' := by
 have hs := h.size
 have no : ∀ j, j = s + 2 ∨ j = s + 3 → ¬ WS s A A2 j := fun j hj hws => by
  rcases hws with e | e | e | e
  ·omega
  ·omega
  ·obtain ⟨_, _, _, _, h1⟩ := own_cells h.op e; omega
  ·obtain ⟨_, _, _, _, h1⟩ := ownC_cells h.oc e; omega
 exact ⟨hk.cell (p := ⟨s + 2, 0, none⟩) (by show s + 2 < _; omega) (no _ (.inl rfl)), hk.cell (p := ⟨s + 3, 0, none⟩) (by show s + 3 < _; omega) (no _ (.inr rfl))⟩
theorem WI.grown (h : WI w1 s l pre W A m cap A2 m2 cap2) (hs : w1.heap.size = s) {row : Option Nat} (hg : W.grownBy W' row) (hr : ∀ r, row = some r → s + 4 ≤ r ∧ ∃ o : Obj, W.heap[r]? = some o ∧ o.isCells = false) : WI w1 s l pre W' A m cap A2 m2 cap2 := by
 have hK : Kept (fun k => row = some k) W W' := ⟨hg.os, hg.tape, hg.output, hg.size, fun k hk hn => hg.block k hk (fun e => hn e.symm)⟩
 have no : ∀ k cs t fr, W.heap[k]? = some (.cells cs t fr) → ¬ row = some k := fun k cs t fr hk e => by
  obtain ⟨-, o, ho, hc⟩ := hr k e
  rw [hk] at ho; injection ho with ho; subst ho; cases hc
 refine ⟨hK.heap h.r0 (no _ _ _ _ h.r0), hK.heap h.r1 (no _ _ _ _ h.r1), ?_, ?_, ?_, Nat.le_trans h.size hg.size⟩
 ·exact h.op.keptW hK fun k hk => by obtain ⟨cs, t, fr, h1, -⟩ := own_cells h.op hk; exact no _ _ _ _ h1
 ·exact h.oc.keptW hK fun k hk => by obtain ⟨cs, t, fr, h1, -⟩ := ownC_cells h.oc hk; exact no _ _ _ _ h1
 ·exact h.below.grown hg (by have := h.size; omega) (fun k e => by have := (hr k e).1; omega)
end
end Go.Proofs.YtifabkbdiiolfaaGreatDoor

namespace Go.Proofs.YtifabkbdiiolfaaGreatDoor
open Go.RowKit Go.WideShapes Col
theorem flw_some {m : List Ck} {n q : Nat} {x c : Ck} (hn : n = m.length) (hq : n = q + 1) (hx : m[q]? = some x) : flw m c = (decide (x.pl < c.pl) && decide (c.oa = x.ob + 1)) := by
 unfold flw
 rw [List.getLast?_eq_getElem?, show m.length - 1 = q by omega, hx]
theorem flw_none {m : List Ck} {n : Nat} {c : Ck} (hn : n = m.length) (h0 : n = 0) : flw m c = decide (c.pl = 0) := by
 obtain rfl : m = [] := List.eq_nil_of_length_eq_zero (by omega)
 rfl
set_option maxHeartbeats 4000000 in
theorem follows_any (bs p foot : Nat) (vb : Value) (A : Option Addr) (n cap : Nat) (m : List Ck) (hn : Hid (n = m.length)) (hn9 : n ≤ 1000000) (hnc : n ≤ cap) (hcm : cap ≤ maxLen) (c : Ck) (hoa : Hid (∀ x ∈ m, x.ob ≤ 1099511627775)) (w : World)
  (HSG : Hid (w.heap[bs]? = some (.cells #[vb, .int .i64 (p : Int), .slice A n cap, .int .i64 (foot : Int)] 90 (0, 0)))) (HC : Hid (CkAt w A m)) :
  Calls Tryz.prog 82 #[.pointer (some ⟨bs, 0, none⟩), .agg #[.int .i64 (c.rows : Int), .int .i64 (c.pl : Int), .int .u64 (c.oa : Int), .int .u64 (c.ob : Int), .int .i64 c.ta, .int .i64 c.tz, .string c.ka, .string c.kz]] w fun e w' => e = .returned (.bool (flw m c)) ∧ Below w.heap.size w w' := by
 have HB0 : Hid (Below w.heap.size w (w.alloc (.cells #[.int .i64 (c.rows : Int), .int .i64 (c.pl : Int), .int .u64 (c.oa : Int), .int .u64 (c.ob : Int), .int .i64 c.ta, .int .i64 c.tz, .string c.ka, .string c.kz] 77))) := Lib.hid ((Below.refl _ _).alloc (Nat.le_refl _) _)
 have HC3 : Hid ((w.alloc (.cells #[.int .i64 (c.rows : Int), .int .i64 (c.pl : Int), .int .u64 (c.oa : Int), .int .u64 (c.ob : Int), .int .i64 c.ta, .int .i64 c.tz, .string c.ka, .string c.kz] 77)).heap[w.heap.size]? = some (.cells #[.int .i64 (c.rows : Int), .int .i64 (c.pl : Int), .int .u64 (c.oa : Int), .int .u64 (c.ob : Int), .int .i64 c.ta, .int .i64 c.tz, .string c.ka, .string c.kz] 77 (0, 0))) := Lib.hid (heap_alloc_new' w _)
 have HSG1 : Hid ((w.alloc (.cells #[.int .i64 (c.rows : Int), .int .i64 (c.pl : Int), .int .u64 (c.oa : Int), .int .u64 (c.ob : Int), .int .i64 c.ta, .int .i64 c.tz, .string c.ka, .string c.kz] 77)).heap[bs]? = some (.cells #[vb, .int .i64 (p : Int), .slice A n cap, .int .i64 (foot : Int)] 90 (0, 0))) := Lib.hid (row_keepS HSG.out HB0.out)
 have c2 : (w.alloc (.cells #[.int .i64 (c.rows : Int), .int .i64 (c.pl : Int), .int .u64 (c.oa : Int), .int .u64 (c.ob : Int), .int .i64 c.ta, .int .i64 c.tz, .string c.ka, .string c.kz] 77)).cell? ⟨bs, 2, none⟩ = some (.slice A n cap) := by rw [cell_of_row _ _ _ _ _ _ HSG1.out]; rfl
 by_cases h0 : n = 0
 ·have c31 : (w.alloc (.cells #[.int .i64 (c.rows : Int), .int .i64 (c.pl : Int), .int .u64 (c.oa : Int), .int .u64 (c.ob : Int), .int .i64 c.ta, .int .i64 c.tz, .string c.ka, .string c.kz] 77)).cell? ⟨w.heap.size, 1, none⟩ = some (.int .i64 (c.pl : Int)) := by rw [cell_of_row _ _ _ _ _ _ HC3.out]; rfl
  have HF := Lib.hid (flw_none (c := c) hn.out h0)
  have HZ : Hid (decide ((c.pl : Int) = 0) = decide (c.pl = 0)) := Lib.hid (by simp)
  rw [HF.out, ← HZ.out]
  have h0i : ((n : Int) == 0) = true := by subst h0; rfl
  go_enter Tryz.func82, Tryz.ntmps82
  go_wp2
  go_ret
  exact ⟨by first | rfl | (congr 2; simp; done) | (simp [beq_iff_eq]; done), HB0.out⟩
 ·obtain ⟨q, hq⟩ : ∃ q, n = q + 1 := ⟨n - 1, by omega⟩
  obtain ⟨x, hx⟩ : ∃ x, m[q]? = some x := ⟨_, List.getElem?_eq_getElem (by have := hn.out; omega)⟩
  obtain ⟨gc, off, rfl, hgc, hrg⟩ := ckr HC.out q x hx
  have HF := Lib.hid (flw_some (c := c) hn.out hq hx)
  have HXO : Hid (x.ob ≤ 1099511627775) := Lib.hid (hoa.out x (List.mem_of_getElem? hx))
  have h0i : ((n : Int) == 0) = false := by rw [beq_eq_false_iff_ne]; omega
  have HQ : Hid ((n : Int) - 1 = (q : Int) ∧ IntKind.i64.wrap (q : Int) = (q : Int) ∧ (q : Int) < (n : Int)) := Lib.hid ⟨by omega, by rw [IntKind.wrap_i64]; omega, by omega⟩
  have HRG : Hid (∀ v, Below (w.alloc (.cells #[.int .i64 (c.rows : Int), .int .i64 (c.pl : Int), .int .u64 (c.oa : Int), .int .u64 (c.ob : Int), .int .i64 c.ta, .int .i64 c.tz, .string c.ka, .string c.kz] 77)).heap.size (w.alloc (.cells #[.int .i64 (c.rows : Int), .int .i64 (c.pl : Int), .int .u64 (c.oa : Int), .int .u64 (c.ob : Int), .int .i64 c.ta, .int .i64 c.tz, .string c.ka, .string c.kz] 77)) v → v.rangeAt gc (off + q * 8) [.int .i64 (x.rows : Int), .int .i64 (x.pl : Int), .int .u64 (x.oa : Int), .int .u64 (x.ob : Int), .int .i64 x.ta, .int .i64 x.tz, .string x.ka, .string x.kz]) := Lib.hid fun v hb j u hu => (hb.cell (p := ⟨gc, off + q * 8 + j, none⟩) (Nat.lt_of_lt_of_le hgc HB0.out.size)).trans ((HB0.out.cell (p := ⟨gc, off + q * 8 + j, none⟩) hgc).trans (hrg j u hu))
  clear hx hrg h0 hq hoa
  obtain ⟨v1, hv1⟩ : ∃ v1, v1 = w.alloc (.cells #[.int .i64 (c.rows : Int), .int .i64 (c.pl : Int), .int .u64 (c.oa : Int), .int .u64 (c.ob : Int), .int .i64 c.ta, .int .i64 c.tz, .string c.ka, .string c.kz] 77) := ⟨_, rfl⟩
  rw [← hv1] at HB0 HC3 HSG1 HRG c2
  have HV1 := Lib.hid hv1
  obtain ⟨b3, hb3⟩ : ∃ b3, b3 = w.heap.size := ⟨_, rfl⟩
  have HB3 := Lib.hid hb3
  clear hv1 hb3
  have HOB : Hid (IntKind.u64.wrap ((x.ob : Int) + 1) = ((x.ob + 1 : Nat) : Int)) := Lib.hid (by have := HXO.out; rw [IntKind.wrap_u64]; omega)
  go_enter Tryz.func82, Tryz.ntmps82
  go_upto_region 1 with fail
  rw [← HV1.out, ← HB3.out]
  rw [← HB3.out] at HC3
  go_upto_region 3 with fail
  refine wp_region_held_drew (S := Below v1.heap.size v1) (by kernel_rfl) (Below.refl _ _).drew (fun hHeld => ?_)
  refine wpAnyH_take (i := 0) (v := .pointer (some ⟨bs, 0, none⟩)) rfl (by kernel_rfl) (by kernel_rfl) (by kernel_rfl) (fun _ _ _ h => h) (Or.inl ⟨by rfl, fun _ _ => rfl⟩) hHeld ?_
  try dsimp only
  try simp only [Act.put, qz0, qz1, qz2, qz3, qz4, qz5]
  refine wpAnyH_take (i := 1) (v := .pointer (some ⟨bs, 0, none⟩)) rfl (by kernel_rfl) (by kernel_rfl) (by kernel_rfl) (fun _ _ _ h => h) (Or.inl ⟨by rfl, fun w _ => by go_simp⟩) hHeld ?_
  try dsimp only
  try simp only [Act.put, qz0, qz1, qz2, qz3, qz4, qz5]
  refine wpAnyH_take (i := 2) (v := .pointer (some ⟨bs, 2, none⟩)) rfl (by kernel_rfl) (by kernel_rfl) (by kernel_rfl) (fun _ _ _ h => h) (Or.inl ⟨by rfl, fun w _ => by go_simp⟩) hHeld ?_
  try dsimp only
  try simp only [Act.put, qz0, qz1, qz2, qz3, qz4, qz5]
  refine wpAnyH_take (i := 3) (v := .slice (some ⟨gc, off, none⟩) n cap) rfl (by kernel_rfl) (by kernel_rfl) (by kernel_rfl) (fun _ _ _ h => h) (ylS lv_cksS rfl (.tmp 17) rfl bs 2 rfl _ (fun w hw => by rw [cell_of_row _ _ _ _ _ _ (row_keepS HSG1.out hw)]; rfl)) hHeld ?_
  try dsimp only
  try simp only [Act.put, qz0, qz1, qz2, qz3, qz4, qz5]
  refine wpAnyH_take (i := 4) (v := .pointer (some ⟨bs, 0, none⟩)) rfl (by kernel_rfl) (by kernel_rfl) (by kernel_rfl) (fun _ _ _ h => h) (Or.inl ⟨by rfl, fun _ _ => rfl⟩) hHeld ?_
  try dsimp only
  try simp only [Act.put, qz0, qz1, qz2, qz3, qz4, qz5]
  refine wpAnyH_take (i := 5) (v := .pointer (some ⟨bs, 0, none⟩)) rfl (by kernel_rfl) (by kernel_rfl) (by kernel_rfl) (fun _ _ _ h => h) (Or.inl ⟨by rfl, fun w _ => by go_simp⟩) hHeld ?_
  try dsimp only
  try simp only [Act.put, qz0, qz1, qz2, qz3, qz4, qz5]
  refine wpAnyH_take (i := 6) (v := .pointer (some ⟨bs, 2, none⟩)) rfl (by kernel_rfl) (by kernel_rfl) (by kernel_rfl) (fun _ _ _ h => h) (Or.inl ⟨by rfl, fun w _ => by go_simp⟩) hHeld ?_
  try dsimp only
  try simp only [Act.put, qz0, qz1, qz2, qz3, qz4, qz5]
  refine wpAnyH_take (i := 7) (v := .slice (some ⟨gc, off, none⟩) n cap) rfl (by kernel_rfl) (by kernel_rfl) (by kernel_rfl) (fun _ _ _ h => h) (ylS lv_cksS rfl (.tmp 21) rfl bs 2 rfl _ (fun w hw => by rw [cell_of_row _ _ _ _ _ _ (row_keepS HSG1.out hw)]; rfl)) hHeld ?_
  try dsimp only
  try simp only [Act.put, qz0, qz1, qz2, qz3, qz4, qz5]
  refine wpAnyH_take (i := 8) (v := .int .i64 (n : Int)) rfl (by kernel_rfl) (by kernel_rfl) (by kernel_rfl) (fun _ _ _ h => h) (Or.inl ⟨by rfl, fun w _ => by go_simp⟩) hHeld ?_
  try dsimp only
  try simp only [Act.put, qz0, qz1, qz2, qz3, qz4, qz5]
  refine wpAnyH_take (i := 9) (v := .int .i64 (q : Int)) rfl (by kernel_rfl) (by kernel_rfl) (by kernel_rfl) (fun _ _ _ h => h) (Or.inl ⟨by rfl, fun w _ => by have h9 := HQ.out.1; have h8 := HQ.out.2.1; go_simp⟩) hHeld ?_
  try dsimp only
  try simp only [Act.put, qz0, qz1, qz2, qz3, qz4, qz5]
  refine wpAnyH_take (i := 10) (v := .pointer (some ⟨gc, off + q * 8, none⟩)) rfl (by kernel_rfl) (by kernel_rfl) (by kernel_rfl) (fun _ _ _ h => h) (Or.inl ⟨by rfl, fun w _ => by have h9 := HQ.out.2.2; go_simp⟩) hHeld ?_
  try dsimp only
  try simp only [Act.put, qz0, qz1, qz2, qz3, qz4, qz5]
  refine wpAnyH_take (i := 11) (v := .agg #[.int .i64 (x.rows : Int), .int .i64 (x.pl : Int), .int .u64 (x.oa : Int), .int .u64 (x.ob : Int), .int .i64 x.ta, .int .i64 x.tz, .string x.ka, .string x.kz]) rfl (by kernel_rfl) (by kernel_rfl) (by kernel_rfl) (fun _ _ _ h => h) (yieldsIf_load_mid rfl 77 (.tmp 25) rfl gc (off + q * 8) rfl [.int .i64 (x.rows : Int), .int .i64 (x.pl : Int), .int .u64 (x.oa : Int), .int .u64 (x.ob : Int), .int .i64 x.ta, .int .i64 x.tz, .string x.ka, .string x.kz] _ (fun w hw => HRG.out w hw) uCk rfl (iCk x)) hHeld ?_
  try dsimp only
  try simp only [Act.put, qz0, qz1, qz2, qz3, qz4, qz5]
  refine wpAnyH_ready (rs := [12]) (by kernel_rfl) (by simp) (AllReadyH.cons rfl (fun K hK => ?_) AllReadyH.nil)
  go_simp
  refine hK.out _ _ (hHeld.alloc (Nat.le_refl _) _) (fun hHeld => ?_)
  clear hK K
  try dsimp only
  try simp only [Act.put, qz0, qz1, qz2, qz3, qz4, qz5]
  refine wpAnyH_ready (rs := [13]) (by kernel_rfl) (by simp) (AllReadyH.cons rfl (fun K hK => ?_) AllReadyH.nil)
  rw [if_pos (by rfl)]
  refine wp_store_row 77 (.tmp 5) (.tmp 26) rfl v1.heap.size #[.int .i64 (x.rows : Int), .int .i64 (x.pl : Int), .int .u64 (x.oa : Int), .int .u64 (x.ob : Int), .int .i64 x.ta, .int .i64 x.tz, .string x.ka, .string x.kz] rfl rfl _ _ (heap_alloc_new' v1.drew _) (iCkS x) (sizeCkS x) (oneCkS x) ?_
  have hb5 := below_setRowS hHeld (Nat.le_refl v1.heap.size) #[.int .i64 (x.rows : Int), .int .i64 (x.pl : Int), .int .u64 (x.oa : Int), .int .u64 (x.ob : Int), .int .i64 x.ta, .int .i64 x.tz, .string x.ka, .string x.kz]
  have hr5 : ((v1.alloc (.cells #[.int .i64 0, .int .i64 0, .int .u64 0, .int .u64 0, .int .i64 0, .int .i64 0, .string { data := #[] }, .string { data := #[] }] 77)).drew.setRow v1.heap.size #[.int .i64 (x.rows : Int), .int .i64 (x.pl : Int), .int .u64 (x.oa : Int), .int .u64 (x.ob : Int), .int .i64 x.ta, .int .i64 x.tz, .string x.ka, .string x.kz]).heap[v1.heap.size]? = some (.cells #[.int .i64 (x.rows : Int), .int .i64 (x.pl : Int), .int .u64 (x.oa : Int), .int .u64 (x.ob : Int), .int .i64 x.ta, .int .i64 x.tz, .string x.ka, .string x.kz] 77 (0, 0)) := setRow_heap _ _ _ #[.int .i64 (x.rows : Int), .int .i64 (x.pl : Int), .int .u64 (x.oa : Int), .int .u64 (x.ob : Int), .int .i64 x.ta, .int .i64 x.tz, .string x.ka, .string x.kz] _ _ (heap_alloc_new' v1 (.cells #[.int .i64 0, .int .i64 0, .int .u64 0, .int .u64 0, .int .i64 0, .int .i64 0, .string { data := #[] }, .string { data := #[] }] 77))
  refine hK.out _ _ hb5 (fun hHeld => ?_)
  clear hK K
  refine wpAnyH_done (by kernel_rfl) ?_ _
  clear hHeld
  have HB5 := Lib.hid hb5
  have HR5 := Lib.hid hr5
  clear hb5 hr5
  obtain ⟨v5, hv5⟩ : ∃ v5, v5 = ((v1.alloc (.cells #[.int .i64 0, .int .i64 0, .int .u64 0, .int .u64 0, .int .i64 0, .int .i64 0, .string { data := #[] }, .string { data := #[] }] 77)).drew.setRow v1.heap.size #[.int .i64 (x.rows : Int), .int .i64 (x.pl : Int), .int .u64 (x.oa : Int), .int .u64 (x.ob : Int), .int .i64 x.ta, .int .i64 x.tz, .string x.ka, .string x.kz]) := ⟨_, rfl⟩
  rw [← hv5] at HB5 HR5 ⊢
  clear hv5
  have c31 : v5.cell? ⟨b3, 1, none⟩ = some (.int .i64 (c.pl : Int)) := by rw [cell_of_row _ _ _ _ _ _ (row_keepS HC3.out HB5.out)]; rfl
  have c32 : v5.cell? ⟨b3, 2, none⟩ = some (.int .u64 (c.oa : Int)) := by rw [cell_of_row _ _ _ _ _ _ (row_keepS HC3.out HB5.out)]; rfl
  have c51 : v5.cell? ⟨v1.heap.size, 1, none⟩ = some (.int .i64 (x.pl : Int)) := by rw [cell_of_row _ _ _ _ _ _ HR5.out]; rfl
  have c53 : v5.cell? ⟨v1.heap.size, 3, none⟩ = some (.int .u64 (x.ob : Int)) := by rw [cell_of_row _ _ _ _ _ _ HR5.out]; rfl
  have HBE : Hid (Below w.heap.size w v5) := Lib.hid (below_to HB0.out HB5.out)
  clear c2 h0i
  by_cases h1 : x.pl < c.pl
  ·have h1i : (x.pl : Int) < (c.pl : Int) := by omega
   obtain ⟨y, hy⟩ : ∃ y, y = x.ob + 1 := ⟨_, rfl⟩
   have h9 := HOB.out
   rw [← hy] at h9 HF
   by_cases h2 : c.oa = y
   ·have h2i : (c.oa : Int) = (y : Int) := by omega
    have HR : Hid ((decide (x.pl < c.pl) && decide (c.oa = y)) = true) := Lib.hid (by simp [h1, h2])
    clear h1 h2 hy
    go_wp2
    go_ret
    exact ⟨by rw [HF.out, HR.out]; rfl, HBE.out⟩
   ·have h2i : ((c.oa : Int) == (y : Int)) = false := by rw [beq_eq_false_iff_ne]; omega
    have HR : Hid ((decide (x.pl < c.pl) && decide (c.oa = y)) = false) := Lib.hid (by simp [h2])
    clear h1 h2 hy
    go_wp2
    go_ret
    exact ⟨by rw [HF.out, HR.out]; rfl, HBE.out⟩
  ·have h1i : ¬ ((x.pl : Int) < (c.pl : Int)) := by omega
   have HR : Hid ((decide (x.pl < c.pl) && decide (c.oa = x.ob + 1)) = false) := Lib.hid (by simp [h1])
   clear h1
   go_wp2
   go_ret
   exact ⟨by rw [HF.out, HR.out]; rfl, HBE.out⟩
end Go.Proofs.YtifabkbdiiolfaaGreatDoor
