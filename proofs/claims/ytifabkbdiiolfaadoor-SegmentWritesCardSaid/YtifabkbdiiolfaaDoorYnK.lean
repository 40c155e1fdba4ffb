/-
  Layer segment: what the loop of Write keeps; a region that draws its order, in a round.
-/
import Derived.RangeFuncFrom
import Derived.OrdersIn
import Derived.Test.YtifabkbdiiolfaaDoorYkK
import Derived.Test.YtifabkbdiiolfaaDoorYmK
set_option linter.unusedSimpArgs false
set_option linter.unusedVariables false
set_option maxRecDepth 8000
namespace Go.Proofs.YtifabkbdiiolfaaDoor
open Go.RowKit Go.Shelf Go.WideShapes Col
/-- In a round an operation that is no defer statement is carried out as everywhere. -/
theorem oper_round {l n : Nat} {P : Program} {o : Oper} {a : Act} {w : World} {K : Act → World → Prop} {Q : Exit → Act → World → Prop} (hd : ∀ c, o.op ≠ .defer c) (h : o.wp P a w K Q) : o.wpIn (Fence.wide.inRound l) n P a w K Q := by
 unfold Oper.wpIn
 refine ⟨fun _ _ => trivial, ?_⟩
 rw [show (Fence.wide.inRound l).round = some l from rfl, Oper.semAt_some l _ _ hd]
 unfold Oper.wp at h
 generalize (execOp a.eval o).run P w = r at *
 cases r with
 | ok x w' =>
  cases x with
  | value v => exact h
  | skip => exact h
  | defer d => exact h
  | enter f args => exact ⟨(fun h => by cases h), CallsIn.inRound l (callsIn_wide.2 h)⟩
  | row row args => exact ⟨(fun h => by cases h), fun c cs _ => by
    obtain ⟨v, w2, hr, hs⟩ := h c cs
    exact ⟨v, w2, hr, by rw [fenced_inRound]; exact stepsIn_wide.2 hs⟩⟩
  | round => exact h.elim
  | _ => first | exact h.elim | exact h
 | halt x w' => cases x <;> first | exact h | exact h.elim
theorem wpOpIn_round {l n : Nat} {P : Program} {ops : Array Oper} {Q : Exit → Act → World → Prop} (hd : ∀ (i : Nat) (o : Oper) c, ops[i]? = some o → o.op ≠ .defer c) (hlo : ¬ LetsOut Q) {i : Nat} {K K' : Act → World → Prop} (hK : ∀ a w, K a w → K' a w) {a : Act} {w : World}
  (h : wpOp P ops Q i K a w) : wpOpIn (Fence.wide.inRound l) n P ops Q i K' a w := by
 refine wpOpIn_mono hK ?_
 unfold wpOp at h
 unfold wpOpIn
 rcases ho : ops[i]? with _ | o
 ·simp only [ho] at h ⊢; exact h
 ·simp only [ho] at h ⊢
  split
  ·rename_i hw
   simp only [hw, if_true] at h
   rcases h with h | h
   ·exact oper_round (fun c => hd i o c ho) h
   ·exact (hlo h.2).elim
  ·rename_i hw
   simp only [hw] at h
   exact ⟨fun _ _ => trivial, h⟩
theorem wpAnyIn_round {l n : Nat} {P : Program} {md : Region.Mode} {ops : Array Oper} {Q : Exit → Act → World → Prop} (hd : ∀ (i : Nat) (o : Oper) c, ops[i]? = some o → o.op ≠ .defer c) (hlo : ¬ LetsOut Q) :
  ∀ (fuel : Nat) (listed : Array Bool) (a : Act) (w : World), wpAny P md ops Q fuel listed a w → wpAnyIn (Fence.wide.inRound l) n P md ops Q fuel listed a w
 | 0, _, _, _, h => h
 | fuel + 1, _, _, _, h => ⟨h.1, fun i hi => wpOpIn_round hd hlo (fun a w h' => wpAnyIn_round hd hlo fuel _ a w h') (h.2 i hi)⟩
/-- A region that draws its order, in a round: as it is walked everywhere. -/
theorem wpIn_region_round {l n : Nat} {P : Program} {id : Nat} {ops : Array Oper} {Q : Exit → Act → World → Prop} {S : World → Prop} {a : Act} {w : World} (hm : P.follows .mixedOrders = true) (hd : ops.all (fun o => match o.op with | .defer _ => false | _ => true) = true) (hlo : ¬ LetsOut Q)
  (hS : S w.drew) (h : S w.drew → wpAnyH P .any ops Q S ops.size (Array.replicate ops.size false) a w.drew) : (Code.region id ops true).wpIn (Fence.wide.inRound l) n P Q a w :=
 wpIn_region_any hm (wpAnyIn_round (fun i o c ho e => by
  have h1 := Array.all_eq_true.1 hd i (Array.getElem?_eq_some_iff.1 ho).1
  rw [(Array.getElem?_eq_some_iff.1 ho).2, e] at h1
  cases h1) hlo _ _ _ _ (wpAny_of_held _ _ _ _ (h hS)))
theorem run_append_ck (w : World) (B : Nat) (A : Option Addr) (n cap : Nat) (l : List Ck) (hown : OwnC w B A n cap l) (ad : Addr) (m c : Nat) (l2 : List Ck) (hm : m = l2.length) (h2 : CkAt w (some ad) l2)
  (hbytes : n + m ≤ 1000000) (hbase : B ≤ w.heap.size) (ty : TypeId) :
  ∃ A' cap' w', (Builtin.append_ #[38, 38] ty #[.slice A n cap, .slice (some ad) m c]).run Tryd.prog w = .ok (.slice A' (n + m) cap') w' ∧ OwnC w' B A' (n + m) cap' (l ++ l2) ∧ w.grownBy w' (A.map (·.block)) ∧
   (A'.map (·.block) = A.map (·.block) ∨ A'.map (·.block) = some w.heap.size) := by
 obtain ⟨i0, hi, hz0, hz1, hz2⟩ := info_parts infoCk
 obtain ⟨v', w', hr, h3, h4, h5, h6⟩ := run_append_own_at (P := Tryd.prog) w B 38 ty 41 i0 _ 8 80 Tryd.underlying38 hi hz0 hz1 hz2 rfl (by decide) _ n (cks l) hown ad m c (cks l2) (by rw [cks_length, hm]) (fun j u hu => by
   obtain ⟨g', off', e, -, hc⟩ := h2 j u hu
   injection e with e; subst e
   rw [Addr.add_lit]; exact hc) (cks_one l2) (by unfold maxLen; omega) (by omega) hbase
 have e : cks l ++ cks l2 = cks (l ++ l2) := by unfold cks; rw [List.flatMap_append]
 rw [e] at h3
 obtain ⟨A1, c1, rfl, e2, e3, e4⟩ := rc_slice h3
 refine ⟨A1, c1, w', hr, h3, ?_, ?_⟩
 ·rcases A with _ | _ <;> exact h4
 ·rcases A with _ | _ <;> rcases A1 with _ | _ <;> first | exact h6 | (exact .inl rfl)
theorem wp_append_ck {o : Oper} {a : Act} {w : World} {K : Act → World → Prop} {Q : Exit → Act → World → Prop} (s x : Operand)
  (ho : o.op = .call { callee := .builtin .append, args := #[s, x], argTypes := #[38, 38] })
  (B : Nat) (A : Option Addr) (n cap : Nat) (l : List Ck) (hs : a.eval s = .slice A n cap) (hown : OwnC w B A n cap l) (ad : Addr) (m c : Nat) (l2 : List Ck) (hx : a.eval x = .slice (some ad) m c) (hm : m = l2.length) (h2 : CkAt w (some ad) l2)
  (hbytes : n + m ≤ 1000000) (hbase : B ≤ w.heap.size) (N : Nat) (hN : N = n + m)
  (h : ∀ A' cap' w', OwnC w' B A' N cap' (l ++ l2) → w.grownBy w' (A.map (·.block)) → (A'.map (·.block) = A.map (·.block) ∨ A'.map (·.block) = some w.heap.size) → K (a.put o.dst (.slice A' N cap')) w') : o.wp Tryd.prog a w K Q := by
 subst hN
 obtain ⟨A', cap', w', hr, h3, h4, h5⟩ := run_append_ck w B A n cap l hown ad m c l2 hm h2 hbytes hbase o.type
 unfold Oper.wp execOp
 simp only [ho, resolve, invoke, builtin, Sem.run_bind, Sem.run_pure, Result.andThen_ok, List.map_toArray, List.map_cons, List.map_nil, hs, hx, hr]
 exact h A' cap' w' h3 h4 h5
theorem lv_cksS (w : World) (g j : Nat) (v : Value) (h : w.cell? ⟨g, j, none⟩ = some v) : (loadVar 38 ⟨g, j, none⟩).run Tryd.prog w = .ok v w := by
 go_simp
theorem wp_ld_cksS {o : Oper} {a : Act} {w : World} {K : Act → World → Prop} {Q : Exit → Act → World → Prop} (x : Operand) (ho : o.op = .load 38 x) (g j : Nat) (hx : a.eval x = .pointer (some ⟨g, j, none⟩)) (v : Value) (hc : w.cell? ⟨g, j, none⟩ = some v)
  (h : K (a.put o.dst v) w) : o.wp Tryd.prog a w K Q := by
 unfold Oper.wp execOp
 simp only [ho, hx, Instr.loadAt, Instr.sureAddr, Sem.run_bind, Sem.run_pure, Result.andThen_ok, lv_cksS w g j v hc]
 exact h
theorem wp_st_cksS {o : Oper} {a : Act} {w : World} {K : Act → World → Prop} {Q : Exit → Act → World → Prop} (x y : Operand) (ho : o.op = .store 38 x y) (g j : Nat) (hx : a.eval x = .pointer (some ⟨g, j, none⟩)) (A : Option Addr) (n c : Nat) (hy : a.eval y = .slice A n c) {u : Value} (hc : w.cell? ⟨g, j, none⟩ = some u) (hf : w.frozen? ⟨g, j, none⟩ = false)
  (h : K (a.put o.dst undef) (w.setCell ⟨g, j, none⟩ (.slice A n c))) : o.wp Tryd.prog a w K Q := by
 have hr : (storeVar 38 ⟨g, j, none⟩ (.slice A n c)).run Tryd.prog w = .ok () (w.setCell ⟨g, j, none⟩ (.slice A n c)) := by go_simp
 unfold Oper.wp execOp
 simp only [ho, hx, hy, Instr.storeAt, Instr.sureAddr, Sem.run_bind, Sem.run_pure, Result.andThen_ok, hr]
 exact h
theorem yl_bysS {ops : Array Oper} {S : World → Prop} {op : Oper} {a : Act} (hw : Region.wanted op (yielded ops a.tmps) = true) (x : Operand) (ho : op.op = .load 24 x) (g j : Nat) (hx : a.eval x = .pointer (some ⟨g, j, none⟩)) (v : Value)
  (hc : ∀ w, S w → w.cell? ⟨g, j, none⟩ = some v) : YieldsIf Tryd.prog ops S op v a :=
 .inl ⟨hw, fun w hw' => by
  have hr : (loadVar 24 ⟨g, j, none⟩).run Tryd.prog w = .ok v w := by
   have hc9 := hc w hw'
   go_simp
  unfold execOp
  simp only [ho, hx, Instr.loadAt, Instr.sureAddr, Sem.run_bind, Sem.run_pure, Result.andThen_ok, hr]⟩
/-- The boxes of Write, and what they hold, some chunks having come. -/
structure WI (w1 : World) (s : Nat) (l : List Ev) (pre : List Nat) (W : World) (A : Option Addr) (m cap : Nat) (A2 : Option Addr) (m2 cap2 : Nat) : Prop where
 r0 : W.heap[s]? = some (.cells #[.slice A m cap] 24 (0, 0))
 r1 : W.heap[s + 1]? = some (.cells #[.slice A2 m2 cap2] 38 (0, 0))
 op : OwnS W (s + 4) A m cap (wrS l pre).1
 oc : OwnC W (s + 4) A2 m2 cap2 (wrS l pre).2
 below : Below s w1 W
 size : s + 4 ≤ W.heap.size
/-- Blocks that a round of Write may turn. -/
def WS (s : Nat) (A A2 : Option Addr) (k : Nat) : Prop := k = s ∨ k = s + 1 ∨ MineK A k ∨ MineK A2 k
theorem own_cells {W : World} {B n cap k : Nat} {A : Option Addr} {l : List Nat} (h : OwnS W B A n cap l) (hk : MineK A k) : ∃ cs t fr, W.heap[k]? = some (.cells cs t fr) ∧ B ≤ k := by
 rcases h.1.2 with ⟨e0, e1⟩ | ⟨g, cap', cur, e0, hb, hg, -⟩
 ·injection e0 with e0 _ _; rw [e0] at hk; cases hk
 ·injection e0 with e0 _ _; rw [e0] at hk; injection hk with hk; subst hk; exact ⟨_, _, _, hg, hb⟩
theorem ownC_cells {W : World} {B n cap k : Nat} {A : Option Addr} {l : List Ck} (h : OwnC W B A n cap l) (hk : MineK A k) : ∃ cs t fr, W.heap[k]? = some (.cells cs t fr) ∧ B ≤ k := by
 rcases h.2 with ⟨e0, e1⟩ | ⟨g, cap', cur, e0, hb, hg, -⟩
 ·injection e0 with e0 _ _; rw [e0] at hk; cases hk
 ·injection e0 with e0 _ _; rw [e0] at hk; injection hk with hk; subst hk; exact ⟨_, _, _, hg, hb⟩
theorem OwnS.keptW {w w' : World} {B n cap : Nat} {A : Option Addr} {l : List Nat} {S : Nat → Prop} (h : OwnS w B A n cap l) (hk : Kept S w w') (hn : ∀ k, MineK A k → ¬ S k) : OwnS w' B A n cap l := by
 refine ⟨⟨h.1.1, ?_⟩, h.2⟩
 rcases h.1.2 with h1 | ⟨g, cap', cur, e0, hb, hg, rest⟩
 ·exact .inl h1
 ·exact .inr ⟨g, cap', cur, e0, hb, hk.heap hg (hn g (by injection e0 with e0 _ _; rw [e0]; rfl)), rest⟩
theorem OwnC.keptW {w w' : World} {B n cap : Nat} {A : Option Addr} {l : List Ck} {S : Nat → Prop} (h : OwnC w B A n cap l) (hk : Kept S w w') (hn : ∀ k, MineK A k → ¬ S k) : OwnC w' B A n cap l := by
 refine ⟨h.1, ?_⟩
 rcases h.2 with h1 | ⟨g, cap', cur, e0, hb, hg, rest⟩
 ·exact .inl h1
 ·exact .inr ⟨g, cap', cur, e0, hb, hk.heap hg (hn g (by injection e0 with e0 _ _; rw [e0]; rfl)), rest⟩
section
variable {w1 W W' : World} {s : Nat} {l : List Ev} {pre : List Nat} {A A2 : Option Addr} {m cap m2 cap2 : Nat}
theorem WI.others (h : WI w1 s l pre W A m cap A2 m2 cap2) (hk : Kept (WS s A A2) W W') : KeepsOthers W W' := ⟨hk.size, fun k o ho hc => hk.heap ho fun hs => by
 rcases hs with e | e | e | e
 ·subst e; rw [h.r0] at ho; injection ho with ho; subst ho; cases hc
 ·subst e; rw [h.r1] at ho; injection ho with ho; subst ho; cases hc
 ·obtain ⟨cs, t, fr, h1, -⟩ := own_cells h.op e; rw [h1] at ho; injection ho with ho; subst ho; cases hc
 ·obtain ⟨cs, t, fr, h1, -⟩ := ownC_cells h.oc e; rw [h1] at ho; injection ho with ho; subst ho; cases hc⟩
theorem WI.kpc (h : WI w1 s l pre W A m cap A2 m2 cap2) (hk : Kept (WS s A A2) W W') : KpC (s + 2) (s + 3) W W' := by
 have hs := h.size
 have no : ∀ j, j = s + 2 ∨ j = s + 3 → ¬ WS s A A2 j := fun j hj hws => by
  rcases hws with e | e | e | e
  ·omega
  ·omega
  ·obtain ⟨_, _, _, _, h1⟩ := own_cells h.op e; omega
  ·obtain ⟨_, _, _, _, h1⟩ := ownC_cells h.oc e; omega
 exact ⟨hk.cell (p := ⟨s + 2, 0, none⟩) (by show s + 2 < _; omega) (no _ (.inl rfl)), hk.cell (p := ⟨s + 3, 0, none⟩) (by show s + 3 < _; omega) (no _ (.inr rfl))⟩
theorem WI.grown (h : WI w1 s l pre W A m cap A2 m2 cap2) (hs : w1.heap.size = s) {row : Option Nat} (hg : W.grownBy W' row) (hr : ∀ r, row = some r → s + 4 ≤ r ∧ ∃ o : Obj, W.heap[r]? = some o ∧ o.isCells = false) : WI w1 s l pre W' A m cap A2 m2 cap2 := by
 have hK : Kept (fun k => row = some k) W W' := ⟨hg.os, hg.tape, hg.output, hg.size, fun k hk hn => hg.block k hk (fun e => hn e.symm)⟩
 have no : ∀ k cs t fr, W.heap[k]? = some (.cells cs t fr) → ¬ row = some k := fun k cs t fr hk e => by
  obtain ⟨-, o, ho, hc⟩ := hr k e
  rw [hk] at ho; injection ho with ho; subst ho; cases hc
 refine ⟨hK.heap h.r0 (no _ _ _ _ h.r0), hK.heap h.r1 (no _ _ _ _ h.r1), ?_, ?_, ?_, Nat.le_trans h.size hg.size⟩
 ·exact h.op.keptW hK fun k hk => by obtain ⟨cs, t, fr, h1, -⟩ := own_cells h.op hk; exact no _ _ _ _ h1
 ·exact h.oc.keptW hK fun k hk => by obtain ⟨cs, t, fr, h1, -⟩ := ownC_cells h.oc hk; exact no _ _ _ _ h1
 ·exact h.below.grown hg (by have := h.size; omega) (fun k e => by have := (hr k e).1; omega)
end
end Go.Proofs.YtifabkbdiiolfaaDoor
