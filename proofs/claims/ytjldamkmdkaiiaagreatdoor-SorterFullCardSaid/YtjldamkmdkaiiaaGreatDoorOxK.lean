/-
  Layer sorter: begin: the walk.
-/
import Derived.Test.YtjldamkmdkaiiaaGreatDoorOuK
import Derived.RangeFuncFrom
import Derived.OrdersIn
import Derived.Sort.CutIn
import Derived.Test.YtjldamkmdkaiiaaGreatDoorOspK
set_option linter.unusedSimpArgs false
set_option linter.unusedVariables false
set_option maxRecDepth 8000
namespace Go.Proofs.YtjldamkmdkaiiaaGreatDoor
open Go.RowKit Go.WideShapes Col Go.Sort Go.Shelf
def EvR (w : World) (gl ol : Nat) (l : List Ev) : Prop := ∃ (cur : Array Value) (t : TypeId) (fr : Nat × Nat), w.heap[gl]? = some (.cells cur t fr) ∧ ¬ StT t ∧ ∀ (j : Nat) (v : Value), (evs l)[j]? = some v → cur[ol + j]? = some v
theorem EvR.at {w : World} {gl ol : Nat} {l : List Ev} (h : EvR w gl ol l) : EvAt w (some ⟨gl, ol, none⟩) l := fun j v hv => by
 obtain ⟨cur, t, fr, h1, -, h3⟩ := h
 exact ⟨gl, ol, rfl, (Array.getElem?_eq_some_iff.1 h1).1, by rw [cell_of_row _ _ _ _ _ _ h1]; exact h3 j v hv⟩
theorem EvR.kx {w w' : World} {b gl ol : Nat} {l : List Ev} (h : EvR w gl ol l) (hk : KX b w w') (hb : gl ≠ b) : EvR w' gl ol l := by
 obtain ⟨cur, t, fr, h1, h2, h3⟩ := h; exact ⟨cur, t, fr, hk.row hb h1 h2, h2, h3⟩
structure BegI (base : World) (g : Nat) (room : Int) (b : Nat) (parts : Int) (gl ol n c Z : Nat) (l : List Ev) (w : World) (s : Nat) (W : World) (xs : List Fil) (ops : Int) (A : Option Addr) (m cap : Nat) (names : List ByteArray) (k : Nat) : Prop where
 r0 : W.heap[s]? = some (.cells #[.pointer (some ⟨b, 0, none⟩)] 68 (0, 0))
 r1 : W.heap[s + 1]? = some (.cells #[.int .i64 0] 28 (0, 0))
 r2 : W.heap[s + 2]? = some (.cells #[.slice (some ⟨gl, ol, none⟩) n c] 22 (0, 0))
 r3 : W.heap[s + 3]? = some (.cells #[.int .i64 (Z : Int)] 3 (0, 0))
 own : OwnT W (s + 4) A m cap names
 sa : SA ⟨base, W⟩ g room false 0 ops xs W
 runs : RunsAt9 W b g parts A m cap k
 ev : EvR W gl ol l
 size : s + 4 ≤ W.heap.size
 kx : KX b w W
structure BegF (base w : World) (b gl s : Nat) : Prop where
 bs : base.heap.size ≤ s
 ws : w.heap.size ≤ s
 bb : base.heap.size ≤ b
 hb : b < w.heap.size
 hgl : gl ≠ b
 gl : gl < w.heap.size
section
variable {base : World} {g : Nat} {room : Int} {b : Nat} {parts : Int} {gl ol n c Z : Nat} {l : List Ev} {w : World} {s : Nat} {W W' : World} {xs : List Fil} {ops : Int} {A : Option Addr} {m cap : Nat} {names : List ByteArray} {k : Nat}
theorem BegI.grown (h : BegI base g room b parts gl ol n c Z l w s W xs ops A m cap names k) (hf : BegF base w b gl s) {row : Option Nat} (hg : W.grownBy W' row) (hr : ∀ r, row = some r → s + 4 ≤ r ∧ ∃ o : Obj, W.heap[r]? = some o ∧ o.isCells = false) :
  BegI base g room b parts gl ol n c Z l w s W' xs ops A m cap names k := by
 have no : ∀ k cs t fr, W.heap[k]? = some (.cells cs t fr) → ¬ row = some k := fun k cs t fr hk e => by
  obtain ⟨-, o, ho, hc⟩ := hr k e
  rw [hk] at ho; injection ho with ho; subst ho; cases hc
 have row' : ∀ (k : Nat) (cs : Array Value) (t : TypeId) (fr : Nat × Nat), W.heap[k]? = some (Obj.cells cs t fr) → W'.heap[k]? = some (Obj.cells cs t fr) := fun k cs t fr hk =>
  (hg.block k (Array.getElem?_eq_some_iff.1 hk).1 (fun e => no _ _ _ _ hk e.symm)).trans hk
 refine ⟨row' _ _ _ _ h.r0, row' _ _ _ _ h.r1, row' _ _ _ _ h.r2, row' _ _ _ _ h.r3, ?_, h.sa.grownN hg (fun r e => ⟨by have := (hr r e).1; have := hf.bs; show base.heap.size ≤ r; omega, (hr r e).2⟩), row' _ _ _ _ h.runs, ?_, Nat.le_trans h.size hg.size, ?_⟩
 ·refine ⟨h.own.1, ?_⟩
  rcases h.own.2 with h1 | ⟨a, cap', cur, h1, hb', hrow, hrest⟩
  ·exact .inl h1
  ·exact .inr ⟨a, cap', cur, h1, hb', row' _ _ _ _ hrow, hrest⟩
 ·obtain ⟨cur, t, fr, h1, h2, h3⟩ := h.ev; exact ⟨cur, t, fr, row' _ _ _ _ h1, h2, h3⟩
 ·refine ⟨Nat.le_trans h.kx.size hg.size, fun k o hk hb hn => ?_⟩
  have h1 := h.kx.kept k o hk hb hn
  have hlt := (Array.getElem?_eq_some_iff.1 hk).1
  exact (hg.block k (Array.getElem?_eq_some_iff.1 h1).1 (fun e => by have := (hr k e.symm).1; have := hf.ws; omega)).trans h1
theorem BegI.next (h : BegI base g room b parts gl ol n c Z l w s W xs ops A m cap names k) (hf : BegF base w b gl s) (hk : KX b W W') {ys : List Fil} {ops' : Int} {k' : Nat} (hs : SA ⟨base, W'⟩ g room false 0 ops' ys W') (hr : RunsAt9 W' b g parts A m cap k') :
  BegI base g room b parts gl ol n c Z l w s W' ys ops' A m cap names k' := by
 have h1 := hf.hb; have h2 := hf.ws
 exact ⟨hk.row (by omega) h.r0 (not_st (by decide) (by decide) (by decide)), hk.row (by omega) h.r1 (not_st (by decide) (by decide) (by decide)), hk.row (by omega) h.r2 (not_st (by decide) (by decide) (by decide)), hk.row (by omega) h.r3 (not_st (by decide) (by decide) (by decide)),
  h.own.kx hk (by omega), hs, hr, h.ev.kx hk hf.hgl, Nat.le_trans h.size hk.size, h.kx.trans hk⟩
theorem BegI.put (h : BegI base g room b parts gl ol n c Z l w s W xs ops A m cap names k) (hf : BegF base w b gl s) {t : ByteArray} {v : World} {A' : Option Addr} {cap' : Nat} (ho : OwnT v (s + 4) A' (m + 1) cap' (names ++ [t])) (hg : (W.alloc (.cells #[.string t] 9)).grownBy v (A.map (·.block))) :
  BegI base g room b parts gl ol n c Z l w s (v.setCell ⟨b, 2, none⟩ (.slice A' (m + 1) cap')) xs ops A' (m + 1) cap' (names ++ [t]) k ∧ (W.heap.size ≤ (v.setCell ⟨b, 2, none⟩ (.slice A' (m + 1) cap')).heap.size ∧ ∀ (j : Nat) (o : Obj), W.heap[j]? = some o → o.isCells = false → (v.setCell ⟨b, 2, none⟩ (.slice A' (m + 1) cap')).heap[j]? = some o) ∧ RunsAt9 v b g parts A m cap k := by
 have hsz := h.size
 have hA : ∀ r, A.map (·.block) = some r → s + 4 ≤ r ∧ ∃ cs fr, W.heap[r]? = some (.cells cs 9 fr) := fun r hr => by
  rcases h.own.2 with ⟨e0, e1⟩ | ⟨q, cap', cur, e0, hb, hq, -⟩
  ·injection e0 with e0 _ _; rw [e0] at hr; cases hr
  ·injection e0 with e0 _ _; rw [e0] at hr; injection hr with hr; subst hr; exact ⟨hb, _, _, hq⟩
 have hal : ∀ (j : Nat) (o : Obj), W.heap[j]? = some o → (W.alloc (.cells #[.string t] 9)).heap[j]? = some o := fun j o hj => by
  have := (Array.getElem?_eq_some_iff.1 hj).1
  show (W.heap.push _)[j]? = _
  rw [Array.getElem?_push, if_neg (by omega)]; exact hj
 have row' : ∀ (j : Nat) (o : Obj), W.heap[j]? = some o → A.map (·.block) ≠ some j → v.heap[j]? = some o := fun j o hj hn =>
  (hg.block j (Array.getElem?_eq_some_iff.1 (hal j o hj)).1 (fun e => hn e.symm)).trans (hal j o hj)
 have low : ∀ (j : Nat) (o : Obj), j < s + 4 → W.heap[j]? = some o → v.heap[j]? = some o := fun j o hj hk => row' j o hk (fun e => by have := (hA j e).1; omega)
 have typ : ∀ (j : Nat) (cs : Array Value) (ty : TypeId) (fr : Nat × Nat), ty ≠ 9 → W.heap[j]? = some (.cells cs ty fr) → v.heap[j]? = some (.cells cs ty fr) := fun j cs ty fr ht hk => row' j _ hk (fun e => by
  obtain ⟨-, cs', fr', h1⟩ := hA j e
  rw [hk] at h1; injection h1 with h1; injection h1 with _ h1 _; exact ht h1)
 have h1 := hf.hb; have h2 := hf.ws; have h3 := hf.bs
 have vr : v.heap[b]? = _ := low b _ (by omega) h.runs
 have hsa := ((h.sa.next ((Below.refl _ W).alloc (Nat.le_refl _) (.cells #[.string t] 9))).grownT hg (fun r hr => ⟨by have := (hA r hr).1; show base.heap.size ≤ r; omega, fun cs ty fr hk => by
  obtain ⟨-, cs', fr', h1⟩ := hA r hr
  rw [hal r _ h1] at hk; injection hk with hk; injection hk with _ hk _; rw [← hk]; exact not_st (by decide) (by decide) (by decide)⟩)).setB b 2 (.slice A' (m + 1) cap') vr (not_st (by decide) (by decide) (by decide)) (by show base.heap.size ≤ b; have := hf.bb; omega)
 have hsv : W.heap.size ≤ v.heap.size := by have := hg.size; simp at this; omega
 refine ⟨⟨row_far (by omega) (low s _ (by omega) h.r0), row_far (by omega) (low (s + 1) _ (by omega) h.r1), row_far (by omega) (low (s + 2) _ (by omega) h.r2), row_far (by omega) (low (s + 3) _ (by omega) h.r3), ?_, hsa, row_set vr 2 _, ?_, by rw [setCell_size]; omega, ⟨by rw [setCell_size]; have := h.kx.size; omega, fun j o hj hb hn => ?_⟩⟩, ⟨by rw [setCell_size]; exact hsv, fun j o hj hc => ?_⟩, vr⟩
 ·refine ⟨ho.1, ?_⟩
  rcases ho.2 with h1 | ⟨a, cap', cur, h1, hb', hrow, hrest⟩
  ·exact .inl h1
  ·exact .inr ⟨a, cap', cur, h1, hb', row_far (by omega) hrow, hrest⟩
 ·obtain ⟨cur, ty, fr, q1, q2, q3⟩ := h.ev
  have h4 := hf.gl
  have h5 := hf.hgl
  exact ⟨cur, ty, fr, row_far (Ne.symm h5) (low gl _ (by omega) q1), q2, q3⟩
 ·have hlt := (Array.getElem?_eq_some_iff.1 hj).1
  exact row_far (Ne.symm hb) (low j o (by omega) (h.kx.kept j o hj hb hn))
 ·have hne : b ≠ j := fun e => by subst e; rw [h.runs] at hj; injection hj with hj; subst hj; cases hc
  exact row_far hne (row' j o hj (fun e => by
   obtain ⟨-, cs', fr', q1⟩ := hA j e
   rw [hj] at q1; injection q1 with q1; subst q1; cases hc))
end
theorem oper_round {l n : Nat} {P : Program} {o : Oper} {a : Act} {w : World} {K : Act → World → Prop} {Q : Exit → Act → World → Prop} (hd : ∀ c, o.op ≠ .defer c) (h : o.wp P a w K Q) : o.wpIn (Fence.wide.inRound l) n P a w K Q := by
 unfold Oper.wpIn
 refine ⟨fun _ _ => trivial, ?_⟩
 rw [show (Fence.wide.inRound l).round = some l from rfl, Oper.semAt_some l _ _ hd]
 unfold Oper.wp at h
 generalize (execOp a.eval o).run P w = r at *
 cases r with
 | ok x w' =>
  cases x with
  | value v => exact h
  | skip => exact h
  | defer d => exact h
  | enter f args => exact ⟨(fun h => by cases h), CallsIn.inRound l (callsIn_wide.2 h)⟩
  | row row args => exact ⟨(fun h => by cases h), fun c cs _ => by
    obtain ⟨v, w2, hr, hs⟩ := h c cs
    exact ⟨v, w2, hr, by rw [fenced_inRound]; exact stepsIn_wide.2 hs⟩⟩
  | round => exact h.elim
  | _ => first | exact h.elim | exact h
 | halt x w' => cases x <;> first | exact h | exact h.elim
theorem wpOpIn_round {l n : Nat} {P : Program} {ops : Array Oper} {Q : Exit → Act → World → Prop} (hd : ∀ (i : Nat) (o : Oper) c, ops[i]? = some o → o.op ≠ .defer c) (hlo : ¬ LetsOut Q) {i : Nat} {K K' : Act → World → Prop} (hK : ∀ a w, K a w → K' a w) {a : Act} {w : World}
  (h : wpOp P ops Q i K a w) : wpOpIn (Fence.wide.inRound l) n P ops Q i K' a w := by
 refine wpOpIn_mono hK ?_
 unfold wpOp at h
 unfold wpOpIn
 rcases ho : ops[i]? with _ | o
 ·simp only [ho] at h ⊢; exact h
 ·simp only [ho] at h ⊢
  split
  ·rename_i hw
   simp only [hw, if_true] at h
   rcases h with h | h
   ·exact oper_round (fun c => hd i o c ho) h
   ·exact (hlo h.2).elim
  ·rename_i hw
   simp only [hw] at h
   exact ⟨fun _ _ => trivial, h⟩
theorem wpAnyIn_round {l n : Nat} {P : Program} {md : Region.Mode} {ops : Array Oper} {Q : Exit → Act → World → Prop} (hd : ∀ (i : Nat) (o : Oper) c, ops[i]? = some o → o.op ≠ .defer c) (hlo : ¬ LetsOut Q) :
  ∀ (fuel : Nat) (listed : Array Bool) (a : Act) (w : World), wpAny P md ops Q fuel listed a w → wpAnyIn (Fence.wide.inRound l) n P md ops Q fuel listed a w
 | 0, _, _, _, h => h
 | fuel + 1, _, _, _, h => ⟨h.1, fun i hi => wpOpIn_round hd hlo (fun a w h' => wpAnyIn_round hd hlo fuel _ a w h') (h.2 i hi)⟩
theorem wpIn_region_round {l n : Nat} {P : Program} {id : Nat} {ops : Array Oper} {Q : Exit → Act → World → Prop} {S : World → Prop} {a : Act} {w : World} (hm : P.follows .mixedOrders = true) (hd : ops.all (fun o => match o.op with | .defer _ => false | _ => true) = true) (hlo : ¬ LetsOut Q)
  (hS : S w.drew) (h : S w.drew → wpAnyH P .any ops Q S ops.size (Array.replicate ops.size false) a w.drew) : (Code.region id ops true).wpIn (Fence.wide.inRound l) n P Q a w :=
 wpIn_region_any hm (wpAnyIn_round (fun i o c ho e => by
  have h1 := Array.all_eq_true.1 hd i (Array.getElem?_eq_some_iff.1 ho).1
  rw [(Array.getElem?_eq_some_iff.1 ho).2, e] at h1
  cases h1) hlo _ _ _ _ (wpAny_of_held _ _ _ _ (h hS)))
theorem wp_append_T {o : Oper} {ac : Act} {w : World} {K : Act → World → Prop} {Q : Exit → Act → World → Prop} (s x : Operand)
  (ho : o.op = .call { callee := .builtin .append, args := #[s, x], argTypes := #[37, 37] })
  (B : Nat) (A : Option Addr) (n cap : Nat) (l : List ByteArray) (hs : ac.eval s = .slice A n cap) (hown : OwnT w B A n cap l) (aq ao : Nat) (t : ByteArray) (hx : ac.eval x = .slice (some ⟨aq, ao, none⟩) 1 1) (h2 : w.cell? ⟨aq, ao, none⟩ = some (.string t))
  (hbytes : n ≤ 1000) (hbase : B ≤ w.heap.size)
  (h : ∀ A' cap' w', OwnT w' B A' (n + 1) cap' (l ++ [t]) → w.grownBy w' (A.map (·.block)) → K (ac.put o.dst (.slice A' (n + 1) cap')) w') : o.wp Tryz.prog ac w K Q := by
 obtain ⟨i0, hi, hz0, hz1, hz2⟩ := info_parts infoStrF
 obtain ⟨v', w', hr, hown2, hgr, h5, h6⟩ := run_append_own_at (P := Tryz.prog) w B 37 o.type 9 i0 _ 1 16 Tryz.underlying37 hi hz0 hz1 hz2 rfl (by decide) (.slice A n cap) n (tvT l) hown ⟨aq, ao, none⟩ 1 1 (tvT [t]) rfl (fun j u hu => by
  rcases j with _ | j
  ·injection hu with hu; subst hu
   rw [Addr.add_lit, Nat.add_zero]; exact h2
  ·cases hu) (fun u hu => by obtain ⟨y, -, rfl⟩ := List.mem_map.1 hu; rfl) (by unfold maxLen; omega) (by omega) hbase
 have e : tvT l ++ tvT [t] = tvT (l ++ [t]) := by unfold tvT; rw [List.map_append]
 rw [e] at hown2
 obtain ⟨A1, c1, rfl⟩ : ∃ A1 c1, v' = .slice A1 (n + 1) c1 := by
  rcases hown2.2 with ⟨h1, h3⟩ | ⟨g, cap', cur, h1, -⟩
  ·omega
  ·exact ⟨_, _, h1⟩
 unfold Oper.wp execOp
 simp only [ho, resolve, invoke, builtin, Sem.run_bind, Sem.run_pure, Result.andThen_ok, List.map_toArray, List.map_cons, List.map_nil, hs, hx, hr]
 exact h A1 c1 w' hown2 (by rcases A with _ | a <;> exact hgr)
theorem lv_txsO (w : World) (g j : Nat) (v : Value) (h : w.cell? ⟨g, j, none⟩ = some v) : (loadVar 37 ⟨g, j, none⟩).run Tryz.prog w = .ok v w := by go_simp
theorem lv_rnsO (w : World) (g j : Nat) (v : Value) (h : w.cell? ⟨g, j, none⟩ = some v) : (loadVar 68 ⟨g, j, none⟩).run Tryz.prog w = .ok v w := by go_simp
theorem wp_st_txsO {o : Oper} {a : Act} {w : World} {K : Act → World → Prop} {Q : Exit → Act → World → Prop} (x y : Operand) (ho : o.op = .store 37 x y) (g j : Nat) (hx : a.eval x = .pointer (some ⟨g, j, none⟩)) (A : Option Addr) (n c : Nat) (hy : a.eval y = .slice A n c) {u : Value} (hc : w.cell? ⟨g, j, none⟩ = some u) (hf : w.frozen? ⟨g, j, none⟩ = false)
  (h : K (a.put o.dst undef) (w.setCell ⟨g, j, none⟩ (.slice A n c))) : o.wp Tryz.prog a w K Q := by
 have hr : (storeVar 37 ⟨g, j, none⟩ (.slice A n c)).run Tryz.prog w = .ok () (w.setCell ⟨g, j, none⟩ (.slice A n c)) := by go_simp
 unfold Oper.wp execOp
 simp only [ho, hx, hy, Instr.storeAt, Instr.sureAddr, Sem.run_bind, Sem.run_pure, Result.andThen_ok, hr]
 exact h
theorem EvR.chunk {w : World} {gl ol Z : Nat} {l : List Ev} (h : EvR w gl ol l) (h0 : 0 < l.length) (x : Nat) : EvAt w (some ⟨gl, ol + stZ Z l.length x * 5, none⟩) (bgc Z l x) := fun j v hv => by
 have hst := stZ_lt (Z := Z) (len := l.length) (j := x) h0
 unfold bgc at hv
 have h1 := evs_take _ _ _ _ hv
 rw [evs_drop _ _ (by omega)] at h1
 obtain ⟨g, off, e, h3, h4⟩ := h.at _ _ h1
 injection e with e; injection e with e1 e2 e3; subst e1; subst e2
 exact ⟨gl, _, rfl, h3, by rw [Nat.add_assoc]; exact h4⟩
attribute [local go_sem] Oper.semAt_some
structure BegG (TT : Nat) (dgs : Nat → ByteArray) (base w : World) (g : Nat) (room : Int) (b gl nb bb Z : Nat) (parts : Int) (l : List Ev) (N : Nat) (ops0 : Int) (s : Nat) : Prop where
 nmr : Namer dgs
 f : BegF base w b gl s
 hz : 1 ≤ Z ∧ Z ≤ 4096
 hn : ∀ k, Z * k < l.length ↔ k < N
 hpos : 0 < l.length
 hbig : l.length ≤ 320 ∧ N * min Z l.length ≤ min TT 320
 fine : ∀ x ∈ l, FineE x
 form : ∀ x ∈ l, formB x parts = true
 hops : 0 ≤ ops0 ∧ ops0 < 600000000
 hg : TabsAt base
 hgg : base.heap.size ≤ g
 hnb : nb < 100
 hroom : room ≤ 16777216
 hfit : ((bb + 700 * TT : Nat) : Int) ≤ room
theorem BegG.Nle {TT : Nat} {dgs : Nat → ByteArray} {base w : World} {g : Nat} {room : Int} {b gl nb bb Z : Nat} {parts : Int} {l : List Ev} {N : Nat} {ops0 : Int} {s : Nat} (h : BegG TT dgs base w g room b gl nb bb Z parts l N ops0 s) : N ≤ l.length ∧ N ≤ 320 := by
 have hb := h.hbig.1
 by_cases h0 : N = 0
 ·omega
 ·have h1 := (h.hn (N - 1)).2 (by omega)
  have h2 : 1 * (N - 1) ≤ Z * (N - 1) := Nat.mul_le_mul_right _ h.hz.1
  omega
theorem BegG.mz {TT : Nat} {dgs : Nat → ByteArray} {base w : World} {g : Nat} {room : Int} {b gl nb bb Z : Nat} {parts : Int} {l : List Ev} {N : Nat} {ops0 : Int} {s : Nat} (h : BegG TT dgs base w g room b gl nb bb Z parts l N ops0 s) : min Z l.length ≤ min TT 320 := by
 have h1 := (h.hn 0).1 (by have := h.hpos; omega)
 exact Nat.le_trans (Nat.le_mul_of_pos_left _ h1) h.hbig.2
theorem beg_fit {TT : Nat} {dgs : Nat → ByteArray} {parts room : Int} {nb bb : Nat} {xs : List Fil} {ps : List (Nat × List Ev)} {k m n : Nat} (h : RS TT dgs parts nb bb xs ps k) (hm : m ≤ 331 * n) (hn : n ≤ min TT 320) (hf : ((bb + 700 * TT : Nat) : Int) ≤ room) : (m : Int) ≤ room - (sumN xs : Nat) := by
 have h1 := h.sum
 have h2 := runsLen_good (evP ps) (fun l hl => by obtain ⟨p, hp, rfl⟩ := List.mem_map.1 hl; exact h.good p hp) (by have := h.tot; omega)
 have h3 := h.tot
 omega
structure BegW (w : World) (s b gl ol n c Z : Nat) (W4 : World) : Prop where
 r0 : W4.heap[s]? = some (.cells #[.pointer (some ⟨b, 0, none⟩)] 68 (0, 0))
 r1 : W4.heap[s + 1]? = some (.cells #[.int .i64 0] 28 (0, 0))
 r2 : W4.heap[s + 2]? = some (.cells #[.slice (some ⟨gl, ol, none⟩) n c] 22 (0, 0))
 r3 : W4.heap[s + 3]? = some (.cells #[.int .i64 (Z : Int)] 3 (0, 0))
 size : W4.heap.size = s + 4
 below : Below s w W4
theorem bw_new (w : World) (b gl ol n c Z : Nat) : BegW w w.heap.size b gl ol n c Z ((((w.alloc (.cells #[.pointer (some ⟨b, 0, none⟩)] 68)).alloc (.cells #[.int .i64 0] 28)).alloc (.cells #[.slice (some ⟨gl, ol, none⟩) n c] 22)).alloc (.cells #[.int .i64 (Z : Int)] 3)) := by
 have e0 : ∀ (w : World) (o : Obj), (w.alloc o).heap = w.heap.push o := fun _ _ => rfl
 refine ⟨?_, ?_, ?_, ?_, ?_, ?_⟩
 ·simp only [e0, Array.getElem?_push, Array.size_push]; rw [if_neg (by omega), if_neg (by omega), if_neg (by omega)]; simp
 ·simp only [e0, Array.getElem?_push, Array.size_push]; rw [if_neg (by omega), if_neg (by omega)]; simp
 ·simp only [e0, Array.getElem?_push, Array.size_push]; rw [if_neg (by omega)]; simp
 ·simp only [e0, Array.getElem?_push, Array.size_push]; simp
 ·simp [e0]
 ·exact ((((Below.refl _ _).alloc (Nat.le_refl _) _).alloc (by simp) _).alloc (by simp; omega) _).alloc (by simp; omega) _
theorem wp_ld_txsO {o : Oper} {a : Act} {w : World} {K : Act → World → Prop} {Q : Exit → Act → World → Prop} (x : Operand) (ho : o.op = .load 37 x) (g j : Nat) (hx : a.eval x = .pointer (some ⟨g, j, none⟩)) (v : Value) (hc : w.cell? ⟨g, j, none⟩ = some v)
  (h : K (a.put o.dst v) w) : o.wp Tryz.prog a w K Q := by
 unfold Oper.wp execOp
 simp only [ho, hx, Instr.loadAt, Instr.sureAddr, Sem.run_bind, Sem.run_pure, Result.andThen_ok, lv_txsO w g j v hc]
 exact h
section
variable {TT : Nat} {dgs : Nat → ByteArray} {W : Bs} {w : World} {g : Nat} {room : Int} {b gl ol c nb bb Z : Nat} {parts : Int} {l : List Ev} {N : Nat} {ops0 : Int} {xs : List Fil}
end
end Go.Proofs.YtjldamkmdkaiiaaGreatDoor
namespace Go.Proofs.YtjldamkmdkaiiaaGreatDoor
open Go.RowKit Go.WideShapes Col Go.Sort Go.Shelf
structure BegIZ (base : World) (g : Nat) (room : Int) (pz : Bool) (b : Nat) (parts : Int) (gl ol n c Z : Nat) (l : List Ev) (w : World) (s : Nat) (W : World) (xs : List Fil) (ops : Int) (A : Option Addr) (m cap : Nat) (names : List ByteArray) (k : Nat) : Prop where
 r0 : W.heap[s]? = some (.cells #[.pointer (some ⟨b, 0, none⟩)] 68 (0, 0))
 r1 : W.heap[s + 1]? = some (.cells #[.int .i64 0] 28 (0, 0))
 r2 : W.heap[s + 2]? = some (.cells #[.slice (some ⟨gl, ol, none⟩) n c] 22 (0, 0))
 r3 : W.heap[s + 3]? = some (.cells #[.int .i64 (Z : Int)] 3 (0, 0))
 own : OwnT W (s + 4) A m cap names
 sa : SZ ⟨base, W⟩ g room pz ops xs W
 runs : RunsAt9 W b g parts A m cap k
 ev : EvR W gl ol l
 size : s + 4 ≤ W.heap.size
 kx : KX b w W
section
variable {base : World} {g : Nat} {room : Int} {pz : Bool} {b : Nat} {parts : Int} {gl ol n c Z : Nat} {l : List Ev} {w : World} {s : Nat} {W W' : World} {xs : List Fil} {ops : Int} {A : Option Addr} {m cap : Nat} {names : List ByteArray} {k : Nat}
theorem BegIZ.grown (h : BegIZ base g room pz b parts gl ol n c Z l w s W xs ops A m cap names k) (hf : BegF base w b gl s) {row : Option Nat} (hg : W.grownBy W' row) (hr : ∀ r, row = some r → s + 4 ≤ r ∧ ∃ o : Obj, W.heap[r]? = some o ∧ o.isCells = false) :
  BegIZ base g room pz b parts gl ol n c Z l w s W' xs ops A m cap names k := by
 have no : ∀ k cs t fr, W.heap[k]? = some (.cells cs t fr) → ¬ row = some k := fun k cs t fr hk e => by
  obtain ⟨-, o, ho, hc⟩ := hr k e
  rw [hk] at ho; injection ho with ho; subst ho; cases hc
 have row' : ∀ (k : Nat) (cs : Array Value) (t : TypeId) (fr : Nat × Nat), W.heap[k]? = some (Obj.cells cs t fr) → W'.heap[k]? = some (Obj.cells cs t fr) := fun k cs t fr hk =>
  (hg.block k (Array.getElem?_eq_some_iff.1 hk).1 (fun e => no _ _ _ _ hk e.symm)).trans hk
 refine ⟨row' _ _ _ _ h.r0, row' _ _ _ _ h.r1, row' _ _ _ _ h.r2, row' _ _ _ _ h.r3, ?_, h.sa.grownN hg (fun r e => ⟨by have := (hr r e).1; have := hf.bs; show base.heap.size ≤ r; omega, (hr r e).2⟩), row' _ _ _ _ h.runs, ?_, Nat.le_trans h.size hg.size, ?_⟩
 ·refine ⟨h.own.1, ?_⟩
  rcases h.own.2 with h1 | ⟨a, cap', cur, h1, hb', hrow, hrest⟩
  ·exact .inl h1
  ·exact .inr ⟨a, cap', cur, h1, hb', row' _ _ _ _ hrow, hrest⟩
 ·obtain ⟨cur, t, fr, h1, h2, h3⟩ := h.ev; exact ⟨cur, t, fr, row' _ _ _ _ h1, h2, h3⟩
 ·refine ⟨Nat.le_trans h.kx.size hg.size, fun k o hk hb hn => ?_⟩
  have h1 := h.kx.kept k o hk hb hn
  have hlt := (Array.getElem?_eq_some_iff.1 hk).1
  exact (hg.block k (Array.getElem?_eq_some_iff.1 h1).1 (fun e => by have := (hr k e.symm).1; have := hf.ws; omega)).trans h1
theorem BegIZ.next (h : BegIZ base g room pz b parts gl ol n c Z l w s W xs ops A m cap names k) (hf : BegF base w b gl s) (hk : KX b W W') {ys : List Fil} {ops' : Int} {k' : Nat} (hs : SZ ⟨base, W'⟩ g room pz ops' ys W') (hr : RunsAt9 W' b g parts A m cap k') :
  BegIZ base g room pz b parts gl ol n c Z l w s W' ys ops' A m cap names k' := by
 have h1 := hf.hb; have h2 := hf.ws
 exact ⟨hk.row (by omega) h.r0 (not_st (by decide) (by decide) (by decide)), hk.row (by omega) h.r1 (not_st (by decide) (by decide) (by decide)), hk.row (by omega) h.r2 (not_st (by decide) (by decide) (by decide)), hk.row (by omega) h.r3 (not_st (by decide) (by decide) (by decide)),
  h.own.kx hk (by omega), hs, hr, h.ev.kx hk hf.hgl, Nat.le_trans h.size hk.size, h.kx.trans hk⟩
theorem BegIZ.put (h : BegIZ base g room pz b parts gl ol n c Z l w s W xs ops A m cap names k) (hf : BegF base w b gl s) {t : ByteArray} {v : World} {A' : Option Addr} {cap' : Nat} (ho : OwnT v (s + 4) A' (m + 1) cap' (names ++ [t])) (hg : (W.alloc (.cells #[.string t] 9)).grownBy v (A.map (·.block))) :
  BegIZ base g room pz b parts gl ol n c Z l w s (v.setCell ⟨b, 2, none⟩ (.slice A' (m + 1) cap')) xs ops A' (m + 1) cap' (names ++ [t]) k ∧ (W.heap.size ≤ (v.setCell ⟨b, 2, none⟩ (.slice A' (m + 1) cap')).heap.size ∧ ∀ (j : Nat) (o : Obj), W.heap[j]? = some o → o.isCells = false → (v.setCell ⟨b, 2, none⟩ (.slice A' (m + 1) cap')).heap[j]? = some o) ∧ RunsAt9 v b g parts A m cap k := by
 have hsz := h.size
 have hA : ∀ r, A.map (·.block) = some r → s + 4 ≤ r ∧ ∃ cs fr, W.heap[r]? = some (.cells cs 9 fr) := fun r hr => by
  rcases h.own.2 with ⟨e0, e1⟩ | ⟨q, cap', cur, e0, hb, hq, -⟩
  ·injection e0 with e0 _ _; rw [e0] at hr; cases hr
  ·injection e0 with e0 _ _; rw [e0] at hr; injection hr with hr; subst hr; exact ⟨hb, _, _, hq⟩
 have hal : ∀ (j : Nat) (o : Obj), W.heap[j]? = some o → (W.alloc (.cells #[.string t] 9)).heap[j]? = some o := fun j o hj => by
  have := (Array.getElem?_eq_some_iff.1 hj).1
  show (W.heap.push _)[j]? = _
  rw [Array.getElem?_push, if_neg (by omega)]; exact hj
 have row' : ∀ (j : Nat) (o : Obj), W.heap[j]? = some o → A.map (·.block) ≠ some j → v.heap[j]? = some o := fun j o hj hn =>
  (hg.block j (Array.getElem?_eq_some_iff.1 (hal j o hj)).1 (fun e => hn e.symm)).trans (hal j o hj)
 have low : ∀ (j : Nat) (o : Obj), j < s + 4 → W.heap[j]? = some o → v.heap[j]? = some o := fun j o hj hk => row' j o hk (fun e => by have := (hA j e).1; omega)
 have typ : ∀ (j : Nat) (cs : Array Value) (ty : TypeId) (fr : Nat × Nat), ty ≠ 9 → W.heap[j]? = some (.cells cs ty fr) → v.heap[j]? = some (.cells cs ty fr) := fun j cs ty fr ht hk => row' j _ hk (fun e => by
  obtain ⟨-, cs', fr', h1⟩ := hA j e
  rw [hk] at h1; injection h1 with h1; injection h1 with _ h1 _; exact ht h1)
 have h1 := hf.hb; have h2 := hf.ws; have h3 := hf.bs
 have vr : v.heap[b]? = _ := low b _ (by omega) h.runs
 have hsa := ((h.sa.next ((Below.refl _ W).alloc (Nat.le_refl _) (.cells #[.string t] 9))).grownT hg (fun r hr => ⟨by have := (hA r hr).1; show base.heap.size ≤ r; omega, fun cs ty fr hk => by
  obtain ⟨-, cs', fr', h1⟩ := hA r hr
  rw [hal r _ h1] at hk; injection hk with hk; injection hk with _ hk _; rw [← hk]; exact not_st (by decide) (by decide) (by decide)⟩)).setB b 2 (.slice A' (m + 1) cap') vr (not_st (by decide) (by decide) (by decide)) (by show base.heap.size ≤ b; have := hf.bb; omega)
 have hsv : W.heap.size ≤ v.heap.size := by have := hg.size; simp at this; omega
 refine ⟨⟨row_far (by omega) (low s _ (by omega) h.r0), row_far (by omega) (low (s + 1) _ (by omega) h.r1), row_far (by omega) (low (s + 2) _ (by omega) h.r2), row_far (by omega) (low (s + 3) _ (by omega) h.r3), ?_, hsa, row_set vr 2 _, ?_, by rw [setCell_size]; omega, ⟨by rw [setCell_size]; have := h.kx.size; omega, fun j o hj hb hn => ?_⟩⟩, ⟨by rw [setCell_size]; exact hsv, fun j o hj hc => ?_⟩, vr⟩
 ·refine ⟨ho.1, ?_⟩
  rcases ho.2 with h1 | ⟨a, cap', cur, h1, hb', hrow, hrest⟩
  ·exact .inl h1
  ·exact .inr ⟨a, cap', cur, h1, hb', row_far (by omega) hrow, hrest⟩
 ·obtain ⟨cur, ty, fr, q1, q2, q3⟩ := h.ev
  have h4 := hf.gl
  have h5 := hf.hgl
  exact ⟨cur, ty, fr, row_far (Ne.symm h5) (low gl _ (by omega) q1), q2, q3⟩
 ·have hlt := (Array.getElem?_eq_some_iff.1 hj).1
  exact row_far (Ne.symm hb) (low j o (by omega) (h.kx.kept j o hj hb hn))
 ·have hne : b ≠ j := fun e => by subst e; rw [h.runs] at hj; injection hj with hj; subst hj; cases hc
  exact row_far hne (row' j o hj (fun e => by
   obtain ⟨-, cs', fr', q1⟩ := hA j e
   rw [hj] at q1; injection q1 with q1; subst q1; cases hc))
end
def BegX (F : Prop) (base : World) (g : Nat) (room : Int) (pz : Bool) (b : Nat) (w : World) (s : Nat) (V : World) : Prop :=
 ∃ y : Int, V.heap[s + 1]? = some (.cells #[.int .i64 y] 28 (0, 0)) ∧ KX b w V ∧ Bad base g room pz F y V ∧ s + 4 ≤ V.heap.size
theorem BegX.grown {F : Prop} {base : World} {g : Nat} {room : Int} {pz : Bool} {b gl : Nat} {w : World} {s : Nat} {V V' : World} (h : BegX F base g room pz b w s V) (hf : BegF base w b gl s) {row : Option Nat} (hg : V.grownBy V' row) (hr : ∀ r, row = some r → s + 4 ≤ r ∧ ∃ o : Obj, V.heap[r]? = some o ∧ o.isCells = false) : BegX F base g room pz b w s V' := by
 obtain ⟨y, h1, h2, h3, h4⟩ := h
 have hws := hf.ws; have hbs := hf.bs
 refine ⟨y, (hg.block (s + 1) (Array.getElem?_eq_some_iff.1 h1).1 (fun e => by have := (hr _ e.symm).1; omega)).trans h1, ⟨Nat.le_trans h2.size hg.size, fun k o hk hb hn => ?_⟩, h3.grownN hg (fun r e => ⟨by have := (hr r e).1; omega, (hr r e).2⟩), Nat.le_trans h4 hg.size⟩
 have h5 := h2.kept k o hk hb hn
 have hlt := (Array.getElem?_eq_some_iff.1 hk).1
 exact (hg.block k (Array.getElem?_eq_some_iff.1 h5).1 (fun e => by have := (hr k e.symm).1; omega)).trans h5
end Go.Proofs.YtjldamkmdkaiiaaGreatDoor
