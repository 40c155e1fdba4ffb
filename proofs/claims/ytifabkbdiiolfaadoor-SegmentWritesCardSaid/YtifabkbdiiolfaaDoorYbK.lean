/-
  Layer segment: the contract of chunkOf.
-/
import Derived.BigRegion
import Derived.Deep.CutBlock
import Derived.Deep.DeepCutAuto
import Derived.Test.YtifabkbdiiolfaaDoorYfK
open List renaming getElem_toArray → qz0, getElem_cons_zero → qz1, getElem_cons_succ → qz2, setIfInBounds_toArray → qz3, set_cons_zero → qz4, set_cons_succ → qz5
set_option linter.unusedSimpArgs false
set_option linter.unusedVariables false
set_option maxRecDepth 8000
namespace Go.Proofs.YtifabkbdiiolfaaDoor
open Go.RowKit Go.WideShapes
theorem ckS_eq {l : List Ev} {x z : Ev} {n m p : Nat} (hn : n = l.length) (hm : n = m + 1) (hx : l[0]? = some x) (hz : l[m]? = some z) : ckS l p = ⟨n, p, x.off, z.off, x.time, x.time, x.key, x.key⟩ := by
 rcases l with _ | ⟨y, r⟩
 ·cases hx
 ·injection hx with hx
  subst hx
  have e : (y :: r).getLast (by simp) = z := by
   rw [List.getLast_eq_getElem]
   have hm' : (y :: r).length - 1 = m := by omega
   obtain ⟨h1, h2⟩ := List.getElem?_eq_some_iff.1 hz
   simp only [hm']
   exact h2
  show Ck.mk _ _ _ _ _ _ _ _ = _
  rw [e, ← hn]
theorem ckF_snoc (l : List Ev) (c : Ck) (k : Nat) (x : Ev) (h : l[k]? = some x) : (l.take (k + 1)).foldl ckF c = ckF ((l.take k).foldl ckF c) x := by
 rw [List.take_add_one, h]; simp
/-- While chunkOf reckons: the result's block, what is told so far. -/
structure CO (W : World) (b7 : Nat) (k : Ck) (w : World) : Prop where
 below : Below W.heap.size W w
 r4 : w.heap[W.heap.size]? = some (.cells #[.int .i64 0, .int .i64 0, .int .u64 0, .int .u64 0, .int .i64 0, .int .i64 0, .string { data := #[] }, .string { data := #[] }] 41 (0, 0))
 r7 : w.heap[b7]? = some (.cells #[.int .i64 (k.rows : Int), .int .i64 (k.pl : Int), .int .u64 (k.oa : Int), .int .u64 (k.ob : Int), .int .i64 k.ta, .int .i64 k.tz, .string k.ka, .string k.kz] 41 (0, 0))
 gt : W.heap.size < b7
section
variable {W w w' : World} {b7 : Nat} {k : Ck}
theorem CO.next (h : CO W b7 k w) (hb : Below w.heap.size w w') : CO W b7 k w' := ⟨below_to h.below hb, row_keepS h.r4 hb, row_keepS h.r7 hb, h.gt⟩
end
structure CF (W : World) (x z : Ev) (b5 b6 : Nat) (w : World) : Prop where
 below : Below W.heap.size W w
 r4 : w.heap[W.heap.size]? = some (.cells #[.int .i64 0, .int .i64 0, .int .u64 0, .int .u64 0, .int .i64 0, .int .i64 0, .string { data := #[] }, .string { data := #[] }] 41 (0, 0))
 r5 : w.heap[b5]? = some (.cells #[.int .u64 (x.off : Int), .int .i64 x.part, .int .i64 x.time, .string x.key, .float .f64 x.val] 34 (0, 0))
 r6 : w.heap[b6]? = some (.cells #[.int .u64 (z.off : Int), .int .i64 z.part, .int .i64 z.time, .string z.key, .float .f64 z.val] 34 (0, 0))
theorem oneCkS (x : Ck) : (#[.int .i64 (x.rows : Int), .int .i64 (x.pl : Int), .int .u64 (x.oa : Int), .int .u64 (x.ob : Int), .int .i64 x.ta, .int .i64 x.tz, .string x.ka, .string x.kz] : Array Value).all (·.oneCell') = true := by simp [Value.oneCell']
theorem iCkS (x : Ck) : (Tryd.prog.info? 41).map (·.size) = some (#[.int .i64 (x.rows : Int), .int .i64 (x.pl : Int), .int .u64 (x.oa : Int), .int .u64 (x.ob : Int), .int .i64 x.ta, .int .i64 x.tz, .string x.ka, .string x.kz] : Array Value).size := by kernel_rfl
theorem sizeCkS (x : Ck) : (#[.int .i64 0, .int .i64 0, .int .u64 0, .int .u64 0, .int .i64 0, .int .i64 0, .string { data := #[] }, .string { data := #[] }] : Array Value).size = (#[.int .i64 (x.rows : Int), .int .i64 (x.pl : Int), .int .u64 (x.oa : Int), .int .u64 (x.ob : Int), .int .i64 x.ta, .int .i64 x.tz, .string x.ka, .string x.kz] : Array Value).size := rfl
theorem post_rowS {P : Program} {fn : Func} {R : Ending → World → Prop} {a : Act} {w : World} (p : Tmp) (ty : TypeId) (h : fn.results = #[.cell p ty]) (hd : a.defers = []) (g : Nat) (t : TypeId) (cs : Array Value) (fr : Nat × Nat) (d : TypeDesc)
  (hp : a.tmps.getD p undef = .pointer (some ⟨g, 0, none⟩)) (hg : w.heap[g]? = some (.cells cs t fr))
  (hu : P.underlying ty = some d) (hr : (match d with | .struct _ | .array _ _ => true | _ => false) = true) (hi : (P.info? ty).map (·.size) = some cs.size)
  (hR : R (.returned (.agg cs)) w) : bodyPost P fn R .ret a w := ⟨hd, _, results_cell_row h a.tmps w g t cs fr d hp hg hu hr hi, hR⟩
theorem run_minI (ts : Array TypeId) (ty : TypeId) (a b : Int) (w : World) : (Builtin.min_ ts ty #[.int .i64 a, .int .i64 b]).run Tryd.prog w = .ok (.int .i64 (minI a b)) w := by
 unfold minI; simp [Builtin.min_, Builtin.min2]
theorem run_maxI (ts : Array TypeId) (ty : TypeId) (a b : Int) (w : World) : (Builtin.max_ ts ty #[.int .i64 a, .int .i64 b]).run Tryd.prog w = .ok (.int .i64 (maxI a b)) w := by
 unfold maxI; simp [Builtin.max_, Builtin.max2]
theorem yb_min2 {ops : Array Oper} {S : World → Prop} {op : Oper} {a : Act} (hw : Region.wanted op (yielded ops a.tmps) = true) (x y : Operand) (ts : Array TypeId) (ho : op.op = .call { callee := .builtin .min, args := #[x, y], argTypes := ts }) (v1 v2 u : Value) (hx : a.eval x = v1) (hy : a.eval y = v2)
  (h : ∀ w ty, (Builtin.min_ ts ty #[v1, v2]).run Tryd.prog w = .ok u w) : YieldsIf Tryd.prog ops S op u a :=
 .inl ⟨hw, fun w _ => by
  unfold execOp
  simp only [ho, resolve, invoke, builtin, Sem.run_bind, Sem.run_pure, Result.andThen_ok, List.map_toArray, List.map_cons, List.map_nil, hx, hy, h w]⟩
theorem yb_max2 {ops : Array Oper} {S : World → Prop} {op : Oper} {a : Act} (hw : Region.wanted op (yielded ops a.tmps) = true) (x y : Operand) (ts : Array TypeId) (ho : op.op = .call { callee := .builtin .max, args := #[x, y], argTypes := ts }) (v1 v2 u : Value) (hx : a.eval x = v1) (hy : a.eval y = v2)
  (h : ∀ w ty, (Builtin.max_ ts ty #[v1, v2]).run Tryd.prog w = .ok u w) : YieldsIf Tryd.prog ops S op u a :=
 .inl ⟨hw, fun w _ => by
  unfold execOp
  simp only [ho, resolve, invoke, builtin, Sem.run_bind, Sem.run_pure, Result.andThen_ok, List.map_toArray, List.map_cons, List.map_nil, hx, hy, h w]⟩
theorem lv_i64S (w : World) (g j : Nat) (v : Value) (h : w.cell? ⟨g, j, none⟩ = some v) : (loadVar 2 ⟨g, j, none⟩).run Tryd.prog w = .ok v w := by
 go_simp
theorem yl_i64S {ops : Array Oper} {S : World → Prop} {op : Oper} {a : Act} (hw : Region.wanted op (yielded ops a.tmps) = true) (x : Operand) (ho : op.op = .load 2 x) (g j : Nat) (hx : a.eval x = .pointer (some ⟨g, j, none⟩)) (v : Value)
  (hS : ∀ w, S w → w.cell? ⟨g, j, none⟩ = some v) : YieldsIf Tryd.prog ops S op v a :=
 .inl ⟨hw, fun w hw' => by
  unfold execOp
  simp only [ho, hx, Instr.loadAt, Instr.sureAddr, Sem.run_bind, Sem.run_pure, Result.andThen_ok, lv_i64S w g j v (hS w hw')]⟩
theorem wp_ld_i64S {o : Oper} {a : Act} {w : World} {K : Act → World → Prop} {Q : Exit → Act → World → Prop} (x : Operand) (ho : o.op = .load 2 x) (g j : Nat) (hx : a.eval x = .pointer (some ⟨g, j, none⟩)) (v : Value) (hc : w.cell? ⟨g, j, none⟩ = some v)
  (h : K (a.put o.dst v) w) : o.wp Tryd.prog a w K Q := by
 unfold Oper.wp execOp
 simp only [ho, hx, Instr.loadAt, Instr.sureAddr, Sem.run_bind, Sem.run_pure, Result.andThen_ok, lv_i64S w g j v hc]
 exact h
theorem lv_strS (w : World) (g j : Nat) (v : Value) (h : w.cell? ⟨g, j, none⟩ = some v) : (loadVar 9 ⟨g, j, none⟩).run Tryd.prog w = .ok v w := by
 go_simp
theorem yl_strS {ops : Array Oper} {S : World → Prop} {op : Oper} {a : Act} (hw : Region.wanted op (yielded ops a.tmps) = true) (x : Operand) (ho : op.op = .load 9 x) (g j : Nat) (hx : a.eval x = .pointer (some ⟨g, j, none⟩)) (v : Value)
  (hS : ∀ w, S w → w.cell? ⟨g, j, none⟩ = some v) : YieldsIf Tryd.prog ops S op v a :=
 .inl ⟨hw, fun w hw' => by
  unfold execOp
  simp only [ho, hx, Instr.loadAt, Instr.sureAddr, Sem.run_bind, Sem.run_pure, Result.andThen_ok, lv_strS w g j v (hS w hw')]⟩
theorem wp_ld_strS {o : Oper} {a : Act} {w : World} {K : Act → World → Prop} {Q : Exit → Act → World → Prop} (x : Operand) (ho : o.op = .load 9 x) (g j : Nat) (hx : a.eval x = .pointer (some ⟨g, j, none⟩)) (v : Value) (hc : w.cell? ⟨g, j, none⟩ = some v)
  (h : K (a.put o.dst v) w) : o.wp Tryd.prog a w K Q := by
 unfold Oper.wp execOp
 simp only [ho, hx, Instr.loadAt, Instr.sureAddr, Sem.run_bind, Sem.run_pure, Result.andThen_ok, lv_strS w g j v hc]
 exact h
theorem row_setS {w : World} {g : Nat} {cs : Array Value} {t : TypeId} {fr : Nat × Nat} (h : w.heap[g]? = some (.cells cs t fr)) (i : Nat) (u : Value) : (w.setCell ⟨g, i, none⟩ u).heap[g]? = some (.cells (cs.setIfInBounds i u) t fr) := by
 rw [World.setCell]; simp [Array.getElem?_modify, h]
theorem below_setS {B b7 : Nat} {a w : World} (h : Below B a w) (hg : B ≤ b7) (j : Nat) (v : Value) : Below B a (w.setCell ⟨b7, j, none⟩ v) := h.setCell (by exact hg) _
theorem wp_st_i64S {o : Oper} {a : Act} {w : World} {K : Act → World → Prop} {Q : Exit → Act → World → Prop} (x y : Operand) (ho : o.op = .store 2 x y) (g j : Nat) (hx : a.eval x = .pointer (some ⟨g, j, none⟩)) (v : Int) (hy : a.eval y = .int .i64 v) {u : Value} (hc : w.cell? ⟨g, j, none⟩ = some u) (hf : w.frozen? ⟨g, j, none⟩ = false)
  (h : K (a.put o.dst undef) (w.setCell ⟨g, j, none⟩ (.int .i64 v))) : o.wp Tryd.prog a w K Q := by
 unfold Oper.wp execOp
 simp only [ho, hx, hy]
 go_simp
 exact h
theorem wp_st_strS {o : Oper} {a : Act} {w : World} {K : Act → World → Prop} {Q : Exit → Act → World → Prop} (x y : Operand) (ho : o.op = .store 9 x y) (g j : Nat) (hx : a.eval x = .pointer (some ⟨g, j, none⟩)) (v : ByteArray) (hy : a.eval y = .string v) {u : Value} (hc : w.cell? ⟨g, j, none⟩ = some u) (hf : w.frozen? ⟨g, j, none⟩ = false)
  (h : K (a.put o.dst undef) (w.setCell ⟨g, j, none⟩ (.string v))) : o.wp Tryd.prog a w K Q := by
 unfold Oper.wp execOp
 simp only [ho, hx, hy]
 go_simp
 exact h
set_option maxHeartbeats 4000000 in
theorem chunkOf_any (a : Option Addr) (n c : Nat) (l : List Ev) (hn : Hid (n = l.length)) (h0 : 0 < n) (hn9 : n ≤ 1100) (p : Nat) (W : World) (HE : Hid (EvAt W a l)) :
  Calls Tryd.prog 11 #[.slice a n c, .int .i64 (p : Int)] W fun e w' => e = .returned (.agg #[.int .i64 ((ckOf l p).rows : Int), .int .i64 ((ckOf l p).pl : Int), .int .u64 ((ckOf l p).oa : Int), .int .u64 ((ckOf l p).ob : Int), .int .i64 (ckOf l p).ta, .int .i64 (ckOf l p).tz, .string (ckOf l p).ka, .string (ckOf l p).kz]) ∧ Below W.heap.size W w' := by
 obtain ⟨m, hnm1⟩ : ∃ m, n = m + 1 := ⟨n - 1, by omega⟩
 obtain ⟨x, hx⟩ : ∃ x, l[0]? = some x := ⟨l[0]'(by have := hn.out; omega), List.getElem?_eq_getElem _⟩
 obtain ⟨z, hz⟩ : ∃ z, l[m]? = some z := ⟨l[m]'(by have := hn.out; omega), List.getElem?_eq_getElem _⟩
 obtain ⟨g, off, rfl, hg0, -⟩ := evr HE.out 0 x hx
 have HCS := Lib.hid (ckS_eq (p := p) hn.out hnm1 hx hz)
 have hnm : (n : Int) - 1 = (m : Int) := by omega
 have hwm : IntKind.i64.wrap (m : Int) = (m : Int) := by rw [IntKind.wrap_i64]; omega
 have hmn : (m : Int) < (n : Int) := by omega
 have HW0 : Hid (Below W.heap.size W (W.alloc (.cells #[.int .i64 0, .int .i64 0, .int .u64 0, .int .u64 0, .int .i64 0, .int .i64 0, .string { data := #[] }, .string { data := #[] }] 41))) := Lib.hid ((Below.refl _ _).alloc (Nat.le_refl _) _)
 have HR0 : Hid ((W.alloc (.cells #[.int .i64 0, .int .i64 0, .int .u64 0, .int .u64 0, .int .i64 0, .int .i64 0, .string { data := #[] }, .string { data := #[] }] 41)).heap[W.heap.size]? = some (.cells #[.int .i64 0, .int .i64 0, .int .u64 0, .int .u64 0, .int .i64 0, .int .i64 0, .string { data := #[] }, .string { data := #[] }] 41 (0, 0))) := Lib.hid (heap_alloc_new' W _)
 clear hnm1
 have hn0 : ((n : Int) == 0) = false := by rw [beq_eq_false_iff_ne]; omega
 go_enter Tryd.func11, Tryd.ntmps11
 go_upto_region 3 with fail
 go_cut [5, 6] (fun s5 s6 wx => ∃ b5 b6, s5 = .pointer (some ⟨b5, 0, none⟩) ∧ s6 = .pointer (some ⟨b6, 0, none⟩) ∧ Hid (CF W x z b5 b6 wx))
 case first =>
  obtain ⟨w1, hw1⟩ : ∃ w1, w1 = (W.alloc (.cells #[.int .i64 0, .int .i64 0, .int .u64 0, .int .u64 0, .int .i64 0, .int .i64 0, .string { data := #[] }, .string { data := #[] }] 41)).drew := ⟨_, rfl⟩
  have HW1 : Hid (Below W.heap.size W w1) := Lib.hid (by rw [hw1]; exact HW0.out.drew)
  have HR4 : Hid (w1.heap[W.heap.size]? = some (.cells #[.int .i64 0, .int .i64 0, .int .u64 0, .int .u64 0, .int .i64 0, .int .i64 0, .string { data := #[] }, .string { data := #[] }] 41 (0, 0))) := Lib.hid (by rw [hw1]; exact HR0.out)
  have HX : Hid (w1.rangeAt g off x.cells) := Lib.hid (by obtain ⟨g', o', e, -, h⟩ := evr (HE.out.keep HW1.out) 0 x hx; injection e with e; injection e with e1 e2; subst e1; subst e2; simpa using h)
  have HZ : Hid (w1.rangeAt g (off + m * 5) z.cells) := Lib.hid (by obtain ⟨g', o', e, -, h⟩ := evr (HE.out.keep HW1.out) m z hz; injection e with e; injection e with e1 e2; subst e1; subst e2; exact h)
  have hg : g < w1.heap.size := Nat.lt_of_lt_of_le hg0 HW1.out.size
  refine wp_region_held_drew (S := Below w1.heap.size w1) (by kernel_rfl) (by rw [← hw1]; exact Below.refl _ _) (fun hHeld => ?_)
  rw [← hw1] at hHeld ⊢
  clear hw1 HW0 HR0 hx hz
  obtain ⟨w2, hw2⟩ : ∃ w2, w2 = (w1.alloc (.cells #[.int .u64 0, .int .i64 0, .int .i64 0, .string { data := #[] }, .float .f64 0] 34)).alloc (.cells #[.int .u64 0, .int .i64 0, .int .i64 0, .string { data := #[] }, .float .f64 0] 34) := ⟨_, rfl⟩
  have RA : w2.heap[w1.heap.size]? = some (.cells #[.int .u64 0, .int .i64 0, .int .i64 0, .string { data := #[] }, .float .f64 0] 34 (0, 0)) := by rw [hw2]; exact heap_alloc2_old w1 _ _
  have RB : w2.heap[w1.heap.size + 1]? = some (.cells #[.int .u64 0, .int .i64 0, .int .i64 0, .string { data := #[] }, .float .f64 0] 34 (0, 0)) := by rw [hw2]; exact heap_alloc2_new w1 _ _
  refine wpAnyH_take (i := 0) (v := .slice (some ⟨g, off, none⟩) n c) rfl (by kernel_rfl) (by kernel_rfl) (by kernel_rfl) (fun _ _ _ h => h) (Or.inl ⟨by rfl, fun w _ => by first | rfl | go_simp⟩) hHeld ?_
  try dsimp only
  try simp only [Act.put, qz0, qz1, qz2, qz3, qz4, qz5]
  refine wpAnyH_take (i := 1) (v := .pointer (some ⟨g, off, none⟩)) rfl (by kernel_rfl) (by kernel_rfl) (by kernel_rfl) (fun _ _ _ h => h) (Or.inl ⟨by rfl, fun w _ => by first | rfl | go_simp⟩) hHeld ?_
  try dsimp only
  try simp only [Act.put, qz0, qz1, qz2, qz3, qz4, qz5]
  refine wpAnyH_take (i := 2) (v := .agg #[.int .u64 (x.off : Int), .int .i64 x.part, .int .i64 x.time, .string x.key, .float .f64 x.val]) rfl (by kernel_rfl) (by kernel_rfl) (by kernel_rfl) (fun _ _ _ h => h) (yieldsIf_load_mid rfl 34 (.tmp 16) rfl g off rfl x.cells _ (fun w hw => rkeep HX.out hg hw) uEvent rfl (iEvent x)) hHeld ?_
  try dsimp only
  try simp only [Act.put, qz0, qz1, qz2, qz3, qz4, qz5]
  refine wpAnyH_take (i := 3) (v := .slice (some ⟨g, off, none⟩) n c) rfl (by kernel_rfl) (by kernel_rfl) (by kernel_rfl) (fun _ _ _ h => h) (Or.inl ⟨by rfl, fun w _ => by first | rfl | go_simp⟩) hHeld ?_
  try dsimp only
  try simp only [Act.put, qz0, qz1, qz2, qz3, qz4, qz5]
  refine wpAnyH_take (i := 4) (v := .slice (some ⟨g, off, none⟩) n c) rfl (by kernel_rfl) (by kernel_rfl) (by kernel_rfl) (fun _ _ _ h => h) (Or.inl ⟨by rfl, fun w _ => by first | rfl | go_simp⟩) hHeld ?_
  try dsimp only
  try simp only [Act.put, qz0, qz1, qz2, qz3, qz4, qz5]
  refine wpAnyH_take (i := 5) (v := .int .i64 (n : Int)) rfl (by kernel_rfl) (by kernel_rfl) (by kernel_rfl) (fun _ _ _ h => h) (Or.inl ⟨by rfl, fun w _ => by first | rfl | go_simp⟩) hHeld ?_
  try dsimp only
  try simp only [Act.put, qz0, qz1, qz2, qz3, qz4, qz5]
  refine wpAnyH_take (i := 6) (v := .int .i64 ((m : Nat) : Int)) rfl (by kernel_rfl) (by kernel_rfl) (by kernel_rfl) (fun _ _ _ h => h) (Or.inl ⟨by rfl, fun w _ => by have := hnm; have := hwm; go_simp⟩) hHeld ?_
  try dsimp only
  try simp only [Act.put, qz0, qz1, qz2, qz3, qz4, qz5]
  refine wpAnyH_take (i := 7) (v := .pointer (some ⟨g, off + m * 5, none⟩)) rfl (by kernel_rfl) (by kernel_rfl) (by kernel_rfl) (fun _ _ _ h => h) (Or.inl ⟨by rfl, fun w _ => by have := hmn; go_simp⟩) hHeld ?_
  try dsimp only
  try simp only [Act.put, qz0, qz1, qz2, qz3, qz4, qz5]
  refine wpAnyH_take (i := 8) (v := .agg #[.int .u64 (z.off : Int), .int .i64 z.part, .int .i64 z.time, .string z.key, .float .f64 z.val]) rfl (by kernel_rfl) (by kernel_rfl) (by kernel_rfl) (fun _ _ _ h => h) (yieldsIf_load_mid rfl 34 (.tmp 22) rfl g (off + m * 5) rfl z.cells _ (fun w hw => rkeep HZ.out hg hw) uEvent rfl (iEvent z)) hHeld ?_
  try dsimp only
  try simp only [Act.put, qz0, qz1, qz2, qz3, qz4, qz5]
  refine wpAnyH_ready (rs := [9, 10]) (by kernel_rfl) (by simp) (AllReadyH.cons rfl (fun K hK => ?_) (AllReadyH.cons rfl (fun K hK => ?_) AllReadyH.nil))
  ·skip
   go_simp
   refine hK.out _ _ ((Below.refl _ _).alloc (Nat.le_refl _) _) (fun hHeld => ?_)
   clear hK K
   try dsimp only
   try simp only [Act.put, qz0, qz1, qz2, qz3, qz4, qz5]
   refine wpAnyH_ready (rs := [10]) (by kernel_rfl) (by simp) (AllReadyH.cons rfl (fun K hK => ?_) AllReadyH.nil)
   go_simp
   refine hK.out _ _ (hHeld.alloc (by simp) _) (fun hHeld => ?_)
   clear hK K
   try dsimp only
   try simp only [Act.put, qz0, qz1, qz2, qz3, qz4, qz5]
   rw [← hw2] at hHeld ⊢
   have R5 := RA; have R6 := RB
   refine wpAnyH_ready (rs := [11]) (by kernel_rfl) (by simp) (AllReadyH.cons rfl (fun K hK => ?_) AllReadyH.nil)
   rw [if_pos (by rfl)]
   refine wp_store_row 34 (.tmp 5) (.tmp 17) rfl w1.heap.size #[.int .u64 (x.off : Int), .int .i64 x.part, .int .i64 x.time, .string x.key, .float .f64 x.val] rfl rfl _ _ R5 (iEvS x) (sizeEvB x) (oneEvS x) ?_
   have hb11 := below_setRowS hHeld (show w1.heap.size ≤ w1.heap.size by omega) #[.int .u64 (x.off : Int), .int .i64 x.part, .int .i64 x.time, .string x.key, .float .f64 x.val]
   replace R6 := (setRow_other w2 w1.heap.size (w1.heap.size + 1) #[.int .u64 (x.off : Int), .int .i64 x.part, .int .i64 x.time, .string x.key, .float .f64 x.val] (by omega)).trans R6
   replace R5 := setRow_heap _ _ _ #[.int .u64 (x.off : Int), .int .i64 x.part, .int .i64 x.time, .string x.key, .float .f64 x.val] _ _ R5
   refine hK.out _ _ hb11 (fun hHeld => ?_)
   clear hK K
   try dsimp only
   try simp only [Act.put, qz0, qz1, qz2, qz3, qz4, qz5]
   refine wpAnyH_ready (rs := [12]) (by kernel_rfl) (by simp) (AllReadyH.cons rfl (fun K hK => ?_) AllReadyH.nil)
   rw [if_pos (by rfl)]
   refine wp_store_row 34 (.tmp 6) (.tmp 23) rfl (w1.heap.size + 1) #[.int .u64 (z.off : Int), .int .i64 z.part, .int .i64 z.time, .string z.key, .float .f64 z.val] rfl rfl _ _ R6 (iEvS z) (sizeEvB z) (oneEvS z) ?_
   have hb12 := below_setRowS hHeld (show w1.heap.size ≤ (w1.heap.size + 1) by omega) #[.int .u64 (z.off : Int), .int .i64 z.part, .int .i64 z.time, .string z.key, .float .f64 z.val]
   replace R5 := (setRow_other (w2.setRow w1.heap.size #[.int .u64 (x.off : Int), .int .i64 x.part, .int .i64 x.time, .string x.key, .float .f64 x.val]) (w1.heap.size + 1) w1.heap.size #[.int .u64 (z.off : Int), .int .i64 z.part, .int .i64 z.time, .string z.key, .float .f64 z.val] (by omega)).trans R5
   replace R6 := setRow_heap _ _ _ #[.int .u64 (z.off : Int), .int .i64 z.part, .int .i64 z.time, .string z.key, .float .f64 z.val] _ _ R6
   refine hK.out _ _ hb12 (fun hHeld => ?_)
   clear hK K
   refine wpAnyH_done (by kernel_rfl) ?_ _
   go_wp2_with fail
   go_meet
   case rel => exact ⟨w1.heap.size, (w1.heap.size + 1), rfl, rfl, Lib.hid ⟨HW1.out.trans (hb12.mono HW1.out.size), row_keepS HR4.out hb12, R5, R6⟩⟩
  ·skip
   go_simp
   refine hK.out _ _ ((Below.refl _ _).alloc (Nat.le_refl _) _) (fun hHeld => ?_)
   clear hK K
   try dsimp only
   try simp only [Act.put, qz0, qz1, qz2, qz3, qz4, qz5]
   refine wpAnyH_ready (rs := [9]) (by kernel_rfl) (by simp) (AllReadyH.cons rfl (fun K hK => ?_) AllReadyH.nil)
   go_simp
   refine hK.out _ _ (hHeld.alloc (by simp) _) (fun hHeld => ?_)
   clear hK K
   try dsimp only
   try simp only [Act.put, qz0, qz1, qz2, qz3, qz4, qz5]
   rw [← hw2] at hHeld ⊢
   have R6 := RA; have R5 := RB
   refine wpAnyH_ready (rs := [11]) (by kernel_rfl) (by simp) (AllReadyH.cons rfl (fun K hK => ?_) AllReadyH.nil)
   rw [if_pos (by rfl)]
   refine wp_store_row 34 (.tmp 5) (.tmp 17) rfl (w1.heap.size + 1) #[.int .u64 (x.off : Int), .int .i64 x.part, .int .i64 x.time, .string x.key, .float .f64 x.val] rfl rfl _ _ R5 (iEvS x) (sizeEvB x) (oneEvS x) ?_
   have hb11 := below_setRowS hHeld (show w1.heap.size ≤ (w1.heap.size + 1) by omega) #[.int .u64 (x.off : Int), .int .i64 x.part, .int .i64 x.time, .string x.key, .float .f64 x.val]
   replace R6 := (setRow_other w2 (w1.heap.size + 1) w1.heap.size #[.int .u64 (x.off : Int), .int .i64 x.part, .int .i64 x.time, .string x.key, .float .f64 x.val] (by omega)).trans R6
   replace R5 := setRow_heap _ _ _ #[.int .u64 (x.off : Int), .int .i64 x.part, .int .i64 x.time, .string x.key, .float .f64 x.val] _ _ R5
   refine hK.out _ _ hb11 (fun hHeld => ?_)
   clear hK K
   try dsimp only
   try simp only [Act.put, qz0, qz1, qz2, qz3, qz4, qz5]
   refine wpAnyH_ready (rs := [12]) (by kernel_rfl) (by simp) (AllReadyH.cons rfl (fun K hK => ?_) AllReadyH.nil)
   rw [if_pos (by rfl)]
   refine wp_store_row 34 (.tmp 6) (.tmp 23) rfl w1.heap.size #[.int .u64 (z.off : Int), .int .i64 z.part, .int .i64 z.time, .string z.key, .float .f64 z.val] rfl rfl _ _ R6 (iEvS z) (sizeEvB z) (oneEvS z) ?_
   have hb12 := below_setRowS hHeld (show w1.heap.size ≤ w1.heap.size by omega) #[.int .u64 (z.off : Int), .int .i64 z.part, .int .i64 z.time, .string z.key, .float .f64 z.val]
   replace R5 := (setRow_other (w2.setRow (w1.heap.size + 1) #[.int .u64 (x.off : Int), .int .i64 x.part, .int .i64 x.time, .string x.key, .float .f64 x.val]) w1.heap.size (w1.heap.size + 1) #[.int .u64 (z.off : Int), .int .i64 z.part, .int .i64 z.time, .string z.key, .float .f64 z.val] (by omega)).trans R5
   replace R6 := setRow_heap _ _ _ #[.int .u64 (z.off : Int), .int .i64 z.part, .int .i64 z.time, .string z.key, .float .f64 z.val] _ _ R6
   refine hK.out _ _ hb12 (fun hHeld => ?_)
   clear hK K
   refine wpAnyH_done (by kernel_rfl) ?_ _
   go_wp2_with fail
   go_meet
   case rel => exact ⟨(w1.heap.size + 1), w1.heap.size, rfl, rfl, Lib.hid ⟨HW1.out.trans (hb12.mono HW1.out.size), row_keepS HR4.out hb12, R5, R6⟩⟩
 case rest =>
  obtain ⟨b5, b6, rfl, rfl, HC⟩ := hcut
  have HX0 := Lib.hid hx
  have HZ0 := Lib.hid hz
  clear hx hz HW0 HR0
  obtain ⟨c50, -, c52, c53, -⟩ := evA_row HC.out.r5
  obtain ⟨c60, -, -, -, -⟩ := evA_row HC.out.r6
  have HB7 : Hid (CO W wc.heap.size ⟨n, p, x.off, z.off, x.time, x.time, x.key, x.key⟩ (wc.alloc (.cells #[.int .i64 (n : Int), .int .i64 (p : Int), .int .u64 (x.off : Int), .int .u64 (z.off : Int), .int .i64 x.time, .int .i64 x.time, .string x.key, .string x.key] 41))) := Lib.hid ⟨HC.out.below.alloc HC.out.below.size _, row_keepS HC.out.r4 ((Below.refl _ _).alloc (Nat.le_refl _) _), heap_alloc_new' wc _, (Array.getElem?_eq_some_iff.1 HC.out.r4).1⟩
  go_wp2_with (refine wpList_store_row rfl 41 (.tmp 7) (.tmp 39) rfl wc.heap.size #[.int .i64 (n : Int), .int .i64 (p : Int), .int .u64 (x.off : Int), .int .u64 (z.off : Int), .int .i64 x.time, .int .i64 x.time, .string x.key, .string x.key] rfl rfl _ _ (heap_alloc_new' _ _) (iCkS ⟨n, p, x.off, z.off, x.time, x.time, x.key, x.key⟩) (sizeCkS ⟨n, p, x.off, z.off, x.time, x.time, x.key, x.key⟩) (oneCkS ⟨n, p, x.off, z.off, x.time, x.time, x.key, x.key⟩) ?_; rw [World.setRow_alloc_new])
  rw [← HCS.out] at HB7
  obtain ⟨b7, hb7⟩ : ∃ b7, b7 = wc.heap.size := ⟨_, rfl⟩
  rw [← hb7] at HB7 ⊢
  clear hb7 c50 c52 c53 c60 HC
  go_loopw [42] (fun i wr => ∃ k : Nat, k ≤ n ∧ i = .int .i64 (k : Int) ∧ Hid (CO W b7 ((l.take k).foldl ckF (ckS l p)) wr)) (fun i _ => n - (intOf i).toNat)
  case atStart => exact ⟨0, by omega, rfl, HB7⟩
  case round =>
   obtain ⟨k, hk, rfl, HO⟩ := hrel
   by_cases hlt : k < n
   ·obtain ⟨e, he⟩ : ∃ e, l[k]? = some e := ⟨l[k]'(by have := hn.out; omega), List.getElem?_eq_getElem _⟩
    have HSN := Lib.hid (ckF_snoc l (ckS l p) k e he)
    obtain ⟨ck, hck⟩ : ∃ ck, ck = (l.take k).foldl ckF (ckS l p) := ⟨_, rfl⟩
    rw [← hck] at HO HSN
    have HE2 : Hid (wr.rangeAt g (off + k * 5) e.cells) := Lib.hid (by obtain ⟨g', o', e1, -, h⟩ := evr (HE.out.keep HO.out.below) k e he; injection e1 with e1; injection e1 with e1 e2; subst e1; subst e2; exact h)
    clear hck he
    have hkn : (k : Int) < (n : Int) := by omega
    go_upto_region 8 with (first
     | (refine wpList_load_mid rfl 34 (.tmp 44) rfl g (off + k * 5) rfl [.int .u64 (e.off : Int), .int .i64 e.part, .int .i64 e.time, .string e.key, .float .f64 e.val] _ HE2.out uEvent rfl (iEvent e) ?_)
     | (refine wpList_store_row rfl 34 (.tmp 9) (.tmp 45) rfl wr.heap.size #[.int .u64 (e.off : Int), .int .i64 e.part, .int .i64 e.time, .string e.key, .float .f64 e.val] rfl rfl _ _ (heap_alloc_new' _ _) (iEvS e) (sizeEvB e) (oneEvS e) ?_; rw [World.setRow_alloc_new]))
    obtain ⟨b9, hb9⟩ : ∃ b9, b9 = wr.heap.size := ⟨_, rfl⟩
    obtain ⟨w8, hw8⟩ : ∃ w8, w8 = wr.alloc (.cells #[.int .u64 (e.off : Int), .int .i64 e.part, .int .i64 e.time, .string e.key, .float .f64 e.val] 34) := ⟨_, rfl⟩
    have hb8 : Below wr.heap.size wr w8 := by rw [hw8]; exact (Below.refl _ _).alloc (Nat.le_refl _) _
    have HO8 := Lib.hid (HO.out.next hb8)
    have HR9 : Hid (w8.heap[b9]? = some (.cells #[.int .u64 (e.off : Int), .int .i64 e.part, .int .i64 e.time, .string e.key, .float .f64 e.val] 34 (0, 0))) := Lib.hid (by rw [hw8, hb9]; exact heap_alloc_new' wr _)
    have hn79 : ¬ b7 = b9 := by have := (Array.getElem?_eq_some_iff.1 HO.out.r7).1; omega
    have hn97 : ¬ b9 = b7 := fun h => hn79 h.symm
    rw [← hb9, ← hw8]
    clear hb8 hw8 hb9 HO
    have HGE : Hid (W.heap.size ≤ b7) := Lib.hid (Nat.le_of_lt HO8.out.gt)
    have HGT := Lib.hid HO8.out.gt
    have hn47 : W.heap.size ≠ b7 := by have := HO8.out.gt; omega
    obtain ⟨wd, hwd⟩ : ∃ wd, wd = w8.drew := ⟨_, rfl⟩
    have R9 : wd.heap[b9]? = some (.cells #[.int .u64 (e.off : Int), .int .i64 e.part, .int .i64 e.time, .string e.key, .float .f64 e.val] 34 (0, 0)) := by rw [hwd]; exact HR9.out
    have R7 : wd.heap[b7]? = some (.cells #[.int .i64 (ck.rows : Int), .int .i64 (ck.pl : Int), .int .u64 (ck.oa : Int), .int .u64 (ck.ob : Int), .int .i64 ck.ta, .int .i64 ck.tz, .string ck.ka, .string ck.kz] 41 (0, 0)) := by rw [hwd]; exact HO8.out.r7
    have R4 : wd.heap[W.heap.size]? = some (.cells #[.int .i64 0, .int .i64 0, .int .u64 0, .int .u64 0, .int .i64 0, .int .i64 0, .string { data := #[] }, .string { data := #[] }] 41 (0, 0)) := by rw [hwd]; exact HO8.out.r4
    have HB : Below W.heap.size W wd := by rw [hwd]; exact HO8.out.below.drew
    refine wp_region_held_drew (S := fun w => w.heap[b9]? = some (.cells #[.int .u64 (e.off : Int), .int .i64 e.part, .int .i64 e.time, .string e.key, .float .f64 e.val] 34 (0, 0))) (by kernel_rfl) (by rw [← hwd]; exact R9) (fun hHeld => ?_)
    rw [← hwd] at hHeld ⊢
    clear hwd
    refine wpAnyH_take (i := 0) (v := .pointer (some ⟨b7, 4, none⟩)) rfl (by kernel_rfl) (by kernel_rfl) (by kernel_rfl) (fun _ _ _ h => h) (Or.inl ⟨by rfl, fun _ _ => rfl⟩) hHeld ?_
    try dsimp only
    try simp only [Act.put, qz0, qz1, qz2, qz3, qz4, qz5]
    refine wpAnyH_take (i := 2) (v := .pointer (some ⟨b9, 2, none⟩)) rfl (by kernel_rfl) (by kernel_rfl) (by kernel_rfl) (fun _ _ _ h => h) (Or.inl ⟨by rfl, fun _ _ => rfl⟩) hHeld ?_
    try dsimp only
    try simp only [Act.put, qz0, qz1, qz2, qz3, qz4, qz5]
    refine wpAnyH_take (i := 5) (v := .pointer (some ⟨b7, 5, none⟩)) rfl (by kernel_rfl) (by kernel_rfl) (by kernel_rfl) (fun _ _ _ h => h) (Or.inl ⟨by rfl, fun _ _ => rfl⟩) hHeld ?_
    try dsimp only
    try simp only [Act.put, qz0, qz1, qz2, qz3, qz4, qz5]
    refine wpAnyH_take (i := 7) (v := .pointer (some ⟨b9, 2, none⟩)) rfl (by kernel_rfl) (by kernel_rfl) (by kernel_rfl) (fun _ _ _ h => h) (Or.inl ⟨by rfl, fun _ _ => rfl⟩) hHeld ?_
    try dsimp only
    try simp only [Act.put, qz0, qz1, qz2, qz3, qz4, qz5]
    refine wpAnyH_take (i := 3) (v := .int .i64 e.time) rfl (by kernel_rfl) (by kernel_rfl) (by kernel_rfl) (fun _ _ _ h => h) (yl_i64S rfl (.tmp 48) rfl b9 2 rfl _ (fun w hw => by rw [cell_of_row _ _ _ _ _ _ hw]; rfl)) hHeld ?_
    try dsimp only
    try simp only [Act.put, qz0, qz1, qz2, qz3, qz4, qz5]
    refine wpAnyH_take (i := 8) (v := .int .i64 e.time) rfl (by kernel_rfl) (by kernel_rfl) (by kernel_rfl) (fun _ _ _ h => h) (yl_i64S rfl (.tmp 53) rfl b9 2 rfl _ (fun w hw => by rw [cell_of_row _ _ _ _ _ _ hw]; rfl)) hHeld ?_
    try dsimp only
    try simp only [Act.put, qz0, qz1, qz2, qz3, qz4, qz5]
    refine wpAnyH_ready (rs := [1, 6]) (by kernel_rfl) (by simp) (AllReadyH.cons rfl (fun K hK => ?_) (AllReadyH.cons rfl (fun K hK => ?_) AllReadyH.nil))
    ·skip
     rw [if_pos (by rfl)]
     refine wp_ld_i64S (.tmp 46) rfl b7 4 rfl _ (by rw [cell_of_row _ _ _ _ _ _ R7]; rfl) ?_
     refine hK.out _ _ R9 (fun hHeld => ?_)
     clear hK K
     try dsimp only
     try simp only [Act.put, qz0, qz1, qz2, qz3, qz4, qz5]
     refine wpAnyH_take (i := 4) (v := .int .i64 (minI ck.ta e.time)) rfl (by kernel_rfl) (by kernel_rfl) (by kernel_rfl) (fun _ _ _ h => h) (yb_min2 rfl _ _ _ rfl _ _ _ rfl rfl (fun w ty => run_minI _ ty _ _ w)) hHeld ?_
     try dsimp only
     try simp only [Act.put, qz0, qz1, qz2, qz3, qz4, qz5]
     refine wpAnyH_ready (rs := [6]) (by kernel_rfl) (by simp) (AllReadyH.cons rfl (fun K hK => ?_) AllReadyH.nil)
     rw [if_pos (by rfl)]
     refine wp_ld_i64S (.tmp 51) rfl b7 5 rfl _ (by rw [cell_of_row _ _ _ _ _ _ R7]; rfl) ?_
     refine hK.out _ _ R9 (fun hHeld => ?_)
     clear hK K
     try dsimp only
     try simp only [Act.put, qz0, qz1, qz2, qz3, qz4, qz5]
     refine wpAnyH_take (i := 9) (v := .int .i64 (maxI ck.tz e.time)) rfl (by kernel_rfl) (by kernel_rfl) (by kernel_rfl) (fun _ _ _ h => h) (yb_max2 rfl _ _ _ rfl _ _ _ rfl rfl (fun w ty => run_maxI _ ty _ _ w)) hHeld ?_
     try dsimp only
     try simp only [Act.put, qz0, qz1, qz2, qz3, qz4, qz5]
     refine wpAnyH_take (i := 10) (v := .pointer (some ⟨b7, 4, none⟩)) rfl (by kernel_rfl) (by kernel_rfl) (by kernel_rfl) (fun _ _ _ h => h) (Or.inl ⟨by rfl, fun _ _ => rfl⟩) hHeld ?_
     try dsimp only
     try simp only [Act.put, qz0, qz1, qz2, qz3, qz4, qz5]
     refine wpAnyH_ready (rs := [11]) (by kernel_rfl) (by simp) (AllReadyH.cons rfl (fun K hK => ?_) AllReadyH.nil)
     rw [if_pos (by rfl)]
     refine wp_st_i64S _ _ rfl b7 4 rfl _ rfl (by rw [cell_of_row _ _ _ _ _ _ R7]; rfl) (row_frozen R7 4) ?_
     replace R9 := (Below.heap_setCell _ ⟨b7, 4, none⟩ (.int .i64 (minI ck.ta e.time)) _ hn97).trans R9
     replace HB := below_setS HB HGE.out 4 (.int .i64 (minI ck.ta e.time))
     replace R4 := (Below.heap_setCell _ ⟨b7, 4, none⟩ (.int .i64 (minI ck.ta e.time)) _ hn47).trans R4
     replace R7 := row_setS R7 4 (.int .i64 (minI ck.ta e.time))
     refine hK.out _ _ R9 (fun hHeld => ?_)
     clear hK K
     try dsimp only
     try simp only [Act.put, qz0, qz1, qz2, qz3, qz4, qz5]
     refine wpAnyH_take (i := 12) (v := .pointer (some ⟨b7, 5, none⟩)) rfl (by kernel_rfl) (by kernel_rfl) (by kernel_rfl) (fun _ _ _ h => h) (Or.inl ⟨by rfl, fun _ _ => rfl⟩) hHeld ?_
     try dsimp only
     try simp only [Act.put, qz0, qz1, qz2, qz3, qz4, qz5]
     refine wpAnyH_ready (rs := [13]) (by kernel_rfl) (by simp) (AllReadyH.cons rfl (fun K hK => ?_) AllReadyH.nil)
     rw [if_pos (by rfl)]
     refine wp_st_i64S _ _ rfl b7 5 rfl _ rfl (by rw [cell_of_row _ _ _ _ _ _ R7]; rfl) (row_frozen R7 5) ?_
     replace R9 := (Below.heap_setCell _ ⟨b7, 5, none⟩ (.int .i64 (maxI ck.tz e.time)) _ hn97).trans R9
     replace HB := below_setS HB HGE.out 5 (.int .i64 (maxI ck.tz e.time))
     replace R4 := (Below.heap_setCell _ ⟨b7, 5, none⟩ (.int .i64 (maxI ck.tz e.time)) _ hn47).trans R4
     replace R7 := row_setS R7 5 (.int .i64 (maxI ck.tz e.time))
     refine hK.out _ _ R9 (fun hHeld => ?_)
     clear hK K
     refine wpAnyH_done (by kernel_rfl) ?_ _
     clear hHeld
     go_upto_region 9 with fail
     obtain ⟨we, hwe⟩ : ∃ we, we = ((wd.setCell ⟨b7, 4, none⟩ (.int .i64 (minI ck.ta e.time))).setCell ⟨b7, 5, none⟩ (.int .i64 (maxI ck.tz e.time))).drew := ⟨_, rfl⟩
     replace HB := HB.drew
     rw [← hwe] at HB
     replace R9 : we.heap[b9]? = some (.cells #[.int .u64 (e.off : Int), .int .i64 e.part, .int .i64 e.time, .string e.key, .float .f64 e.val] 34 (0, 0)) := by rw [hwe]; exact R9
     replace R7 : we.heap[b7]? = some (.cells ((#[.int .i64 (ck.rows : Int), .int .i64 (ck.pl : Int), .int .u64 (ck.oa : Int), .int .u64 (ck.ob : Int), .int .i64 ck.ta, .int .i64 ck.tz, .string ck.ka, .string ck.kz].setIfInBounds 4 (.int .i64 (minI ck.ta e.time))).setIfInBounds 5 (.int .i64 (maxI ck.tz e.time))) 41 (0, 0)) := by rw [hwe]; exact R7
     replace R4 : we.heap[W.heap.size]? = some (.cells #[.int .i64 0, .int .i64 0, .int .u64 0, .int .u64 0, .int .i64 0, .int .i64 0, .string { data := #[] }, .string { data := #[] }] 41 (0, 0)) := by rw [hwe]; exact R4
     refine wp_region_held_drew (S := fun w => w.heap[b9]? = some (.cells #[.int .u64 (e.off : Int), .int .i64 e.part, .int .i64 e.time, .string e.key, .float .f64 e.val] 34 (0, 0))) (by kernel_rfl) (by rw [← hwe]; exact R9) (fun hHeld => ?_)
     rw [← hwe] at hHeld ⊢
     clear hwe
     refine wpAnyH_take (i := 0) (v := .pointer (some ⟨b7, 6, none⟩)) rfl (by kernel_rfl) (by kernel_rfl) (by kernel_rfl) (fun _ _ _ h => h) (Or.inl ⟨by rfl, fun _ _ => rfl⟩) hHeld ?_
     try dsimp only
     try simp only [Act.put, qz0, qz1, qz2, qz3, qz4, qz5]
     refine wpAnyH_take (i := 2) (v := .pointer (some ⟨b9, 3, none⟩)) rfl (by kernel_rfl) (by kernel_rfl) (by kernel_rfl) (fun _ _ _ h => h) (Or.inl ⟨by rfl, fun _ _ => rfl⟩) hHeld ?_
     try dsimp only
     try simp only [Act.put, qz0, qz1, qz2, qz3, qz4, qz5]
     refine wpAnyH_take (i := 5) (v := .pointer (some ⟨b7, 7, none⟩)) rfl (by kernel_rfl) (by kernel_rfl) (by kernel_rfl) (fun _ _ _ h => h) (Or.inl ⟨by rfl, fun _ _ => rfl⟩) hHeld ?_
     try dsimp only
     try simp only [Act.put, qz0, qz1, qz2, qz3, qz4, qz5]
     refine wpAnyH_take (i := 7) (v := .pointer (some ⟨b9, 3, none⟩)) rfl (by kernel_rfl) (by kernel_rfl) (by kernel_rfl) (fun _ _ _ h => h) (Or.inl ⟨by rfl, fun _ _ => rfl⟩) hHeld ?_
     try dsimp only
     try simp only [Act.put, qz0, qz1, qz2, qz3, qz4, qz5]
     refine wpAnyH_take (i := 3) (v := .string e.key) rfl (by kernel_rfl) (by kernel_rfl) (by kernel_rfl) (fun _ _ _ h => h) (yl_strS rfl (.tmp 60) rfl b9 3 rfl _ (fun w hw => by rw [cell_of_row _ _ _ _ _ _ hw]; rfl)) hHeld ?_
     try dsimp only
     try simp only [Act.put, qz0, qz1, qz2, qz3, qz4, qz5]
     refine wpAnyH_take (i := 8) (v := .string e.key) rfl (by kernel_rfl) (by kernel_rfl) (by kernel_rfl) (fun _ _ _ h => h) (yl_strS rfl (.tmp 65) rfl b9 3 rfl _ (fun w hw => by rw [cell_of_row _ _ _ _ _ _ hw]; rfl)) hHeld ?_
     try dsimp only
     try simp only [Act.put, qz0, qz1, qz2, qz3, qz4, qz5]
     refine wpAnyH_ready (rs := [1, 6]) (by kernel_rfl) (by simp) (AllReadyH.cons rfl (fun K hK => ?_) (AllReadyH.cons rfl (fun K hK => ?_) AllReadyH.nil))
     ·skip
      rw [if_pos (by rfl)]
      refine wp_ld_strS (.tmp 58) rfl b7 6 rfl _ (by rw [cell_of_row _ _ _ _ _ _ R7]; rfl) ?_
      refine hK.out _ _ R9 (fun hHeld => ?_)
      clear hK K
      try dsimp only
      try simp only [Act.put, qz0, qz1, qz2, qz3, qz4, qz5]
      refine wpAnyH_take (i := 4) (v := .string (minK ck.ka e.key)) rfl (by kernel_rfl) (by kernel_rfl) (by kernel_rfl) (fun _ _ _ h => h) (yb_min2 rfl _ _ _ rfl _ _ _ rfl rfl (fun w ty => run_minK _ ty _ _ w)) hHeld ?_
      try dsimp only
      try simp only [Act.put, qz0, qz1, qz2, qz3, qz4, qz5]
      refine wpAnyH_ready (rs := [6]) (by kernel_rfl) (by simp) (AllReadyH.cons rfl (fun K hK => ?_) AllReadyH.nil)
      rw [if_pos (by rfl)]
      refine wp_ld_strS (.tmp 63) rfl b7 7 rfl _ (by rw [cell_of_row _ _ _ _ _ _ R7]; rfl) ?_
      refine hK.out _ _ R9 (fun hHeld => ?_)
      clear hK K
      try dsimp only
      try simp only [Act.put, qz0, qz1, qz2, qz3, qz4, qz5]
      refine wpAnyH_take (i := 9) (v := .string (maxK ck.kz e.key)) rfl (by kernel_rfl) (by kernel_rfl) (by kernel_rfl) (fun _ _ _ h => h) (yb_max2 rfl _ _ _ rfl _ _ _ rfl rfl (fun w ty => run_maxK _ ty _ _ w)) hHeld ?_
      try dsimp only
      try simp only [Act.put, qz0, qz1, qz2, qz3, qz4, qz5]
      refine wpAnyH_take (i := 10) (v := .pointer (some ⟨b7, 6, none⟩)) rfl (by kernel_rfl) (by kernel_rfl) (by kernel_rfl) (fun _ _ _ h => h) (Or.inl ⟨by rfl, fun _ _ => rfl⟩) hHeld ?_
      try dsimp only
      try simp only [Act.put, qz0, qz1, qz2, qz3, qz4, qz5]
      refine wpAnyH_ready (rs := [11]) (by kernel_rfl) (by simp) (AllReadyH.cons rfl (fun K hK => ?_) AllReadyH.nil)
      rw [if_pos (by rfl)]
      refine wp_st_strS _ _ rfl b7 6 rfl _ rfl (by rw [cell_of_row _ _ _ _ _ _ R7]; rfl) (row_frozen R7 6) ?_
      replace R9 := (Below.heap_setCell _ ⟨b7, 6, none⟩ (.string (minK ck.ka e.key)) _ hn97).trans R9
      replace HB := below_setS HB HGE.out 6 (.string (minK ck.ka e.key))
      replace R4 := (Below.heap_setCell _ ⟨b7, 6, none⟩ (.string (minK ck.ka e.key)) _ hn47).trans R4
      replace R7 := row_setS R7 6 (.string (minK ck.ka e.key))
      refine hK.out _ _ R9 (fun hHeld => ?_)
      clear hK K
      try dsimp only
      try simp only [Act.put, qz0, qz1, qz2, qz3, qz4, qz5]
      refine wpAnyH_take (i := 12) (v := .pointer (some ⟨b7, 7, none⟩)) rfl (by kernel_rfl) (by kernel_rfl) (by kernel_rfl) (fun _ _ _ h => h) (Or.inl ⟨by rfl, fun _ _ => rfl⟩) hHeld ?_
      try dsimp only
      try simp only [Act.put, qz0, qz1, qz2, qz3, qz4, qz5]
      refine wpAnyH_ready (rs := [13]) (by kernel_rfl) (by simp) (AllReadyH.cons rfl (fun K hK => ?_) AllReadyH.nil)
      rw [if_pos (by rfl)]
      refine wp_st_strS _ _ rfl b7 7 rfl _ rfl (by rw [cell_of_row _ _ _ _ _ _ R7]; rfl) (row_frozen R7 7) ?_
      replace R9 := (Below.heap_setCell _ ⟨b7, 7, none⟩ (.string (maxK ck.kz e.key)) _ hn97).trans R9
      replace HB := below_setS HB HGE.out 7 (.string (maxK ck.kz e.key))
      replace R4 := (Below.heap_setCell _ ⟨b7, 7, none⟩ (.string (maxK ck.kz e.key)) _ hn47).trans R4
      replace R7 := row_setS R7 7 (.string (maxK ck.kz e.key))
      refine hK.out _ _ R9 (fun hHeld => ?_)
      clear hK K
      refine wpAnyH_done (by kernel_rfl) ?_ _
      clear hHeld
      go_wp2
      go_roundw
      case rel => exact ⟨k + 1, by omega, by go_num, by rw [HSN.out]; exact Lib.hid ⟨HB, R4, R7, HGT.out⟩⟩
      case measure => simp [intOf]; omega
     ·skip
      rw [if_pos (by rfl)]
      refine wp_ld_strS (.tmp 63) rfl b7 7 rfl _ (by rw [cell_of_row _ _ _ _ _ _ R7]; rfl) ?_
      refine hK.out _ _ R9 (fun hHeld => ?_)
      clear hK K
      try dsimp only
      try simp only [Act.put, qz0, qz1, qz2, qz3, qz4, qz5]
      refine wpAnyH_take (i := 9) (v := .string (maxK ck.kz e.key)) rfl (by kernel_rfl) (by kernel_rfl) (by kernel_rfl) (fun _ _ _ h => h) (yb_max2 rfl _ _ _ rfl _ _ _ rfl rfl (fun w ty => run_maxK _ ty _ _ w)) hHeld ?_
      try dsimp only
      try simp only [Act.put, qz0, qz1, qz2, qz3, qz4, qz5]
      refine wpAnyH_ready (rs := [1]) (by kernel_rfl) (by simp) (AllReadyH.cons rfl (fun K hK => ?_) AllReadyH.nil)
      rw [if_pos (by rfl)]
      refine wp_ld_strS (.tmp 58) rfl b7 6 rfl _ (by rw [cell_of_row _ _ _ _ _ _ R7]; rfl) ?_
      refine hK.out _ _ R9 (fun hHeld => ?_)
      clear hK K
      try dsimp only
      try simp only [Act.put, qz0, qz1, qz2, qz3, qz4, qz5]
      refine wpAnyH_take (i := 4) (v := .string (minK ck.ka e.key)) rfl (by kernel_rfl) (by kernel_rfl) (by kernel_rfl) (fun _ _ _ h => h) (yb_min2 rfl _ _ _ rfl _ _ _ rfl rfl (fun w ty => run_minK _ ty _ _ w)) hHeld ?_
      try dsimp only
      try simp only [Act.put, qz0, qz1, qz2, qz3, qz4, qz5]
      refine wpAnyH_take (i := 10) (v := .pointer (some ⟨b7, 6, none⟩)) rfl (by kernel_rfl) (by kernel_rfl) (by kernel_rfl) (fun _ _ _ h => h) (Or.inl ⟨by rfl, fun _ _ => rfl⟩) hHeld ?_
      try dsimp only
      try simp only [Act.put, qz0, qz1, qz2, qz3, qz4, qz5]
      refine wpAnyH_ready (rs := [11]) (by kernel_rfl) (by simp) (AllReadyH.cons rfl (fun K hK => ?_) AllReadyH.nil)
      rw [if_pos (by rfl)]
      refine wp_st_strS _ _ rfl b7 6 rfl _ rfl (by rw [cell_of_row _ _ _ _ _ _ R7]; rfl) (row_frozen R7 6) ?_
      replace R9 := (Below.heap_setCell _ ⟨b7, 6, none⟩ (.string (minK ck.ka e.key)) _ hn97).trans R9
      replace HB := below_setS HB HGE.out 6 (.string (minK ck.ka e.key))
      replace R4 := (Below.heap_setCell _ ⟨b7, 6, none⟩ (.string (minK ck.ka e.key)) _ hn47).trans R4
      replace R7 := row_setS R7 6 (.string (minK ck.ka e.key))
      refine hK.out _ _ R9 (fun hHeld => ?_)
      clear hK K
      try dsimp only
      try simp only [Act.put, qz0, qz1, qz2, qz3, qz4, qz5]
      refine wpAnyH_take (i := 12) (v := .pointer (some ⟨b7, 7, none⟩)) rfl (by kernel_rfl) (by kernel_rfl) (by kernel_rfl) (fun _ _ _ h => h) (Or.inl ⟨by rfl, fun _ _ => rfl⟩) hHeld ?_
      try dsimp only
      try simp only [Act.put, qz0, qz1, qz2, qz3, qz4, qz5]
      refine wpAnyH_ready (rs := [13]) (by kernel_rfl) (by simp) (AllReadyH.cons rfl (fun K hK => ?_) AllReadyH.nil)
      rw [if_pos (by rfl)]
      refine wp_st_strS _ _ rfl b7 7 rfl _ rfl (by rw [cell_of_row _ _ _ _ _ _ R7]; rfl) (row_frozen R7 7) ?_
      replace R9 := (Below.heap_setCell _ ⟨b7, 7, none⟩ (.string (maxK ck.kz e.key)) _ hn97).trans R9
      replace HB := below_setS HB HGE.out 7 (.string (maxK ck.kz e.key))
      replace R4 := (Below.heap_setCell _ ⟨b7, 7, none⟩ (.string (maxK ck.kz e.key)) _ hn47).trans R4
      replace R7 := row_setS R7 7 (.string (maxK ck.kz e.key))
      refine hK.out _ _ R9 (fun hHeld => ?_)
      clear hK K
      refine wpAnyH_done (by kernel_rfl) ?_ _
      clear hHeld
      go_wp2
      go_roundw
      case rel => exact ⟨k + 1, by omega, by go_num, by rw [HSN.out]; exact Lib.hid ⟨HB, R4, R7, HGT.out⟩⟩
      case measure => simp [intOf]; omega
    ·skip
     rw [if_pos (by rfl)]
     refine wp_ld_i64S (.tmp 51) rfl b7 5 rfl _ (by rw [cell_of_row _ _ _ _ _ _ R7]; rfl) ?_
     refine hK.out _ _ R9 (fun hHeld => ?_)
     clear hK K
     try dsimp only
     try simp only [Act.put, qz0, qz1, qz2, qz3, qz4, qz5]
     refine wpAnyH_take (i := 9) (v := .int .i64 (maxI ck.tz e.time)) rfl (by kernel_rfl) (by kernel_rfl) (by kernel_rfl) (fun _ _ _ h => h) (yb_max2 rfl _ _ _ rfl _ _ _ rfl rfl (fun w ty => run_maxI _ ty _ _ w)) hHeld ?_
     try dsimp only
     try simp only [Act.put, qz0, qz1, qz2, qz3, qz4, qz5]
     refine wpAnyH_ready (rs := [1]) (by kernel_rfl) (by simp) (AllReadyH.cons rfl (fun K hK => ?_) AllReadyH.nil)
     rw [if_pos (by rfl)]
     refine wp_ld_i64S (.tmp 46) rfl b7 4 rfl _ (by rw [cell_of_row _ _ _ _ _ _ R7]; rfl) ?_
     refine hK.out _ _ R9 (fun hHeld => ?_)
     clear hK K
     try dsimp only
     try simp only [Act.put, qz0, qz1, qz2, qz3, qz4, qz5]
     refine wpAnyH_take (i := 4) (v := .int .i64 (minI ck.ta e.time)) rfl (by kernel_rfl) (by kernel_rfl) (by kernel_rfl) (fun _ _ _ h => h) (yb_min2 rfl _ _ _ rfl _ _ _ rfl rfl (fun w ty => run_minI _ ty _ _ w)) hHeld ?_
     try dsimp only
     try simp only [Act.put, qz0, qz1, qz2, qz3, qz4, qz5]
     refine wpAnyH_take (i := 10) (v := .pointer (some ⟨b7, 4, none⟩)) rfl (by kernel_rfl) (by kernel_rfl) (by kernel_rfl) (fun _ _ _ h => h) (Or.inl ⟨by rfl, fun _ _ => rfl⟩) hHeld ?_
     try dsimp only
     try simp only [Act.put, qz0, qz1, qz2, qz3, qz4, qz5]
     refine wpAnyH_ready (rs := [11]) (by kernel_rfl) (by simp) (AllReadyH.cons rfl (fun K hK => ?_) AllReadyH.nil)
     rw [if_pos (by rfl)]
     refine wp_st_i64S _ _ rfl b7 4 rfl _ rfl (by rw [cell_of_row _ _ _ _ _ _ R7]; rfl) (row_frozen R7 4) ?_
     replace R9 := (Below.heap_setCell _ ⟨b7, 4, none⟩ (.int .i64 (minI ck.ta e.time)) _ hn97).trans R9
     replace HB := below_setS HB HGE.out 4 (.int .i64 (minI ck.ta e.time))
     replace R4 := (Below.heap_setCell _ ⟨b7, 4, none⟩ (.int .i64 (minI ck.ta e.time)) _ hn47).trans R4
     replace R7 := row_setS R7 4 (.int .i64 (minI ck.ta e.time))
     refine hK.out _ _ R9 (fun hHeld => ?_)
     clear hK K
     try dsimp only
     try simp only [Act.put, qz0, qz1, qz2, qz3, qz4, qz5]
     refine wpAnyH_take (i := 12) (v := .pointer (some ⟨b7, 5, none⟩)) rfl (by kernel_rfl) (by kernel_rfl) (by kernel_rfl) (fun _ _ _ h => h) (Or.inl ⟨by rfl, fun _ _ => rfl⟩) hHeld ?_
     try dsimp only
     try simp only [Act.put, qz0, qz1, qz2, qz3, qz4, qz5]
     refine wpAnyH_ready (rs := [13]) (by kernel_rfl) (by simp) (AllReadyH.cons rfl (fun K hK => ?_) AllReadyH.nil)
     rw [if_pos (by rfl)]
     refine wp_st_i64S _ _ rfl b7 5 rfl _ rfl (by rw [cell_of_row _ _ _ _ _ _ R7]; rfl) (row_frozen R7 5) ?_
     replace R9 := (Below.heap_setCell _ ⟨b7, 5, none⟩ (.int .i64 (maxI ck.tz e.time)) _ hn97).trans R9
     replace HB := below_setS HB HGE.out 5 (.int .i64 (maxI ck.tz e.time))
     replace R4 := (Below.heap_setCell _ ⟨b7, 5, none⟩ (.int .i64 (maxI ck.tz e.time)) _ hn47).trans R4
     replace R7 := row_setS R7 5 (.int .i64 (maxI ck.tz e.time))
     refine hK.out _ _ R9 (fun hHeld => ?_)
     clear hK K
     refine wpAnyH_done (by kernel_rfl) ?_ _
     clear hHeld
     go_upto_region 9 with fail
     obtain ⟨we, hwe⟩ : ∃ we, we = ((wd.setCell ⟨b7, 4, none⟩ (.int .i64 (minI ck.ta e.time))).setCell ⟨b7, 5, none⟩ (.int .i64 (maxI ck.tz e.time))).drew := ⟨_, rfl⟩
     replace HB := HB.drew
     rw [← hwe] at HB
     replace R9 : we.heap[b9]? = some (.cells #[.int .u64 (e.off : Int), .int .i64 e.part, .int .i64 e.time, .string e.key, .float .f64 e.val] 34 (0, 0)) := by rw [hwe]; exact R9
     replace R7 : we.heap[b7]? = some (.cells ((#[.int .i64 (ck.rows : Int), .int .i64 (ck.pl : Int), .int .u64 (ck.oa : Int), .int .u64 (ck.ob : Int), .int .i64 ck.ta, .int .i64 ck.tz, .string ck.ka, .string ck.kz].setIfInBounds 4 (.int .i64 (minI ck.ta e.time))).setIfInBounds 5 (.int .i64 (maxI ck.tz e.time))) 41 (0, 0)) := by rw [hwe]; exact R7
     replace R4 : we.heap[W.heap.size]? = some (.cells #[.int .i64 0, .int .i64 0, .int .u64 0, .int .u64 0, .int .i64 0, .int .i64 0, .string { data := #[] }, .string { data := #[] }] 41 (0, 0)) := by rw [hwe]; exact R4
     refine wp_region_held_drew (S := fun w => w.heap[b9]? = some (.cells #[.int .u64 (e.off : Int), .int .i64 e.part, .int .i64 e.time, .string e.key, .float .f64 e.val] 34 (0, 0))) (by kernel_rfl) (by rw [← hwe]; exact R9) (fun hHeld => ?_)
     rw [← hwe] at hHeld ⊢
     clear hwe
     refine wpAnyH_take (i := 0) (v := .pointer (some ⟨b7, 6, none⟩)) rfl (by kernel_rfl) (by kernel_rfl) (by kernel_rfl) (fun _ _ _ h => h) (Or.inl ⟨by rfl, fun _ _ => rfl⟩) hHeld ?_
     try dsimp only
     try simp only [Act.put, qz0, qz1, qz2, qz3, qz4, qz5]
     refine wpAnyH_take (i := 2) (v := .pointer (some ⟨b9, 3, none⟩)) rfl (by kernel_rfl) (by kernel_rfl) (by kernel_rfl) (fun _ _ _ h => h) (Or.inl ⟨by rfl, fun _ _ => rfl⟩) hHeld ?_
     try dsimp only
     try simp only [Act.put, qz0, qz1, qz2, qz3, qz4, qz5]
     refine wpAnyH_take (i := 5) (v := .pointer (some ⟨b7, 7, none⟩)) rfl (by kernel_rfl) (by kernel_rfl) (by kernel_rfl) (fun _ _ _ h => h) (Or.inl ⟨by rfl, fun _ _ => rfl⟩) hHeld ?_
     try dsimp only
     try simp only [Act.put, qz0, qz1, qz2, qz3, qz4, qz5]
     refine wpAnyH_take (i := 7) (v := .pointer (some ⟨b9, 3, none⟩)) rfl (by kernel_rfl) (by kernel_rfl) (by kernel_rfl) (fun _ _ _ h => h) (Or.inl ⟨by rfl, fun _ _ => rfl⟩) hHeld ?_
     try dsimp only
     try simp only [Act.put, qz0, qz1, qz2, qz3, qz4, qz5]
     refine wpAnyH_take (i := 3) (v := .string e.key) rfl (by kernel_rfl) (by kernel_rfl) (by kernel_rfl) (fun _ _ _ h => h) (yl_strS rfl (.tmp 60) rfl b9 3 rfl _ (fun w hw => by rw [cell_of_row _ _ _ _ _ _ hw]; rfl)) hHeld ?_
     try dsimp only
     try simp only [Act.put, qz0, qz1, qz2, qz3, qz4, qz5]
     refine wpAnyH_take (i := 8) (v := .string e.key) rfl (by kernel_rfl) (by kernel_rfl) (by kernel_rfl) (fun _ _ _ h => h) (yl_strS rfl (.tmp 65) rfl b9 3 rfl _ (fun w hw => by rw [cell_of_row _ _ _ _ _ _ hw]; rfl)) hHeld ?_
     try dsimp only
     try simp only [Act.put, qz0, qz1, qz2, qz3, qz4, qz5]
     refine wpAnyH_ready (rs := [1, 6]) (by kernel_rfl) (by simp) (AllReadyH.cons rfl (fun K hK => ?_) (AllReadyH.cons rfl (fun K hK => ?_) AllReadyH.nil))
     ·skip
      rw [if_pos (by rfl)]
      refine wp_ld_strS (.tmp 58) rfl b7 6 rfl _ (by rw [cell_of_row _ _ _ _ _ _ R7]; rfl) ?_
      refine hK.out _ _ R9 (fun hHeld => ?_)
      clear hK K
      try dsimp only
      try simp only [Act.put, qz0, qz1, qz2, qz3, qz4, qz5]
      refine wpAnyH_take (i := 4) (v := .string (minK ck.ka e.key)) rfl (by kernel_rfl) (by kernel_rfl) (by kernel_rfl) (fun _ _ _ h => h) (yb_min2 rfl _ _ _ rfl _ _ _ rfl rfl (fun w ty => run_minK _ ty _ _ w)) hHeld ?_
      try dsimp only
      try simp only [Act.put, qz0, qz1, qz2, qz3, qz4, qz5]
      refine wpAnyH_ready (rs := [6]) (by kernel_rfl) (by simp) (AllReadyH.cons rfl (fun K hK => ?_) AllReadyH.nil)
      rw [if_pos (by rfl)]
      refine wp_ld_strS (.tmp 63) rfl b7 7 rfl _ (by rw [cell_of_row _ _ _ _ _ _ R7]; rfl) ?_
      refine hK.out _ _ R9 (fun hHeld => ?_)
      clear hK K
      try dsimp only
      try simp only [Act.put, qz0, qz1, qz2, qz3, qz4, qz5]
      refine wpAnyH_take (i := 9) (v := .string (maxK ck.kz e.key)) rfl (by kernel_rfl) (by kernel_rfl) (by kernel_rfl) (fun _ _ _ h => h) (yb_max2 rfl _ _ _ rfl _ _ _ rfl rfl (fun w ty => run_maxK _ ty _ _ w)) hHeld ?_
      try dsimp only
      try simp only [Act.put, qz0, qz1, qz2, qz3, qz4, qz5]
      refine wpAnyH_take (i := 10) (v := .pointer (some ⟨b7, 6, none⟩)) rfl (by kernel_rfl) (by kernel_rfl) (by kernel_rfl) (fun _ _ _ h => h) (Or.inl ⟨by rfl, fun _ _ => rfl⟩) hHeld ?_
      try dsimp only
      try simp only [Act.put, qz0, qz1, qz2, qz3, qz4, qz5]
      refine wpAnyH_ready (rs := [11]) (by kernel_rfl) (by simp) (AllReadyH.cons rfl (fun K hK => ?_) AllReadyH.nil)
      rw [if_pos (by rfl)]
      refine wp_st_strS _ _ rfl b7 6 rfl _ rfl (by rw [cell_of_row _ _ _ _ _ _ R7]; rfl) (row_frozen R7 6) ?_
      replace R9 := (Below.heap_setCell _ ⟨b7, 6, none⟩ (.string (minK ck.ka e.key)) _ hn97).trans R9
      replace HB := below_setS HB HGE.out 6 (.string (minK ck.ka e.key))
      replace R4 := (Below.heap_setCell _ ⟨b7, 6, none⟩ (.string (minK ck.ka e.key)) _ hn47).trans R4
      replace R7 := row_setS R7 6 (.string (minK ck.ka e.key))
      refine hK.out _ _ R9 (fun hHeld => ?_)
      clear hK K
      try dsimp only
      try simp only [Act.put, qz0, qz1, qz2, qz3, qz4, qz5]
      refine wpAnyH_take (i := 12) (v := .pointer (some ⟨b7, 7, none⟩)) rfl (by kernel_rfl) (by kernel_rfl) (by kernel_rfl) (fun _ _ _ h => h) (Or.inl ⟨by rfl, fun _ _ => rfl⟩) hHeld ?_
      try dsimp only
      try simp only [Act.put, qz0, qz1, qz2, qz3, qz4, qz5]
      refine wpAnyH_ready (rs := [13]) (by kernel_rfl) (by simp) (AllReadyH.cons rfl (fun K hK => ?_) AllReadyH.nil)
      rw [if_pos (by rfl)]
      refine wp_st_strS _ _ rfl b7 7 rfl _ rfl (by rw [cell_of_row _ _ _ _ _ _ R7]; rfl) (row_frozen R7 7) ?_
      replace R9 := (Below.heap_setCell _ ⟨b7, 7, none⟩ (.string (maxK ck.kz e.key)) _ hn97).trans R9
      replace HB := below_setS HB HGE.out 7 (.string (maxK ck.kz e.key))
      replace R4 := (Below.heap_setCell _ ⟨b7, 7, none⟩ (.string (maxK ck.kz e.key)) _ hn47).trans R4
      replace R7 := row_setS R7 7 (.string (maxK ck.kz e.key))
      refine hK.out _ _ R9 (fun hHeld => ?_)
      clear hK K
      refine wpAnyH_done (by kernel_rfl) ?_ _
      clear hHeld
      go_wp2
      go_roundw
      case rel => exact ⟨k + 1, by omega, by go_num, by rw [HSN.out]; exact Lib.hid ⟨HB, R4, R7, HGT.out⟩⟩
      case measure => simp [intOf]; omega
     ·skip
      rw [if_pos (by rfl)]
      refine wp_ld_strS (.tmp 63) rfl b7 7 rfl _ (by rw [cell_of_row _ _ _ _ _ _ R7]; rfl) ?_
      refine hK.out _ _ R9 (fun hHeld => ?_)
      clear hK K
      try dsimp only
      try simp only [Act.put, qz0, qz1, qz2, qz3, qz4, qz5]
      refine wpAnyH_take (i := 9) (v := .string (maxK ck.kz e.key)) rfl (by kernel_rfl) (by kernel_rfl) (by kernel_rfl) (fun _ _ _ h => h) (yb_max2 rfl _ _ _ rfl _ _ _ rfl rfl (fun w ty => run_maxK _ ty _ _ w)) hHeld ?_
      try dsimp only
      try simp only [Act.put, qz0, qz1, qz2, qz3, qz4, qz5]
      refine wpAnyH_ready (rs := [1]) (by kernel_rfl) (by simp) (AllReadyH.cons rfl (fun K hK => ?_) AllReadyH.nil)
      rw [if_pos (by rfl)]
      refine wp_ld_strS (.tmp 58) rfl b7 6 rfl _ (by rw [cell_of_row _ _ _ _ _ _ R7]; rfl) ?_
      refine hK.out _ _ R9 (fun hHeld => ?_)
      clear hK K
      try dsimp only
      try simp only [Act.put, qz0, qz1, qz2, qz3, qz4, qz5]
      refine wpAnyH_take (i := 4) (v := .string (minK ck.ka e.key)) rfl (by kernel_rfl) (by kernel_rfl) (by kernel_rfl) (fun _ _ _ h => h) (yb_min2 rfl _ _ _ rfl _ _ _ rfl rfl (fun w ty => run_minK _ ty _ _ w)) hHeld ?_
      try dsimp only
      try simp only [Act.put, qz0, qz1, qz2, qz3, qz4, qz5]
      refine wpAnyH_take (i := 10) (v := .pointer (some ⟨b7, 6, none⟩)) rfl (by kernel_rfl) (by kernel_rfl) (by kernel_rfl) (fun _ _ _ h => h) (Or.inl ⟨by rfl, fun _ _ => rfl⟩) hHeld ?_
      try dsimp only
      try simp only [Act.put, qz0, qz1, qz2, qz3, qz4, qz5]
      refine wpAnyH_ready (rs := [11]) (by kernel_rfl) (by simp) (AllReadyH.cons rfl (fun K hK => ?_) AllReadyH.nil)
      rw [if_pos (by rfl)]
      refine wp_st_strS _ _ rfl b7 6 rfl _ rfl (by rw [cell_of_row _ _ _ _ _ _ R7]; rfl) (row_frozen R7 6) ?_
      replace R9 := (Below.heap_setCell _ ⟨b7, 6, none⟩ (.string (minK ck.ka e.key)) _ hn97).trans R9
      replace HB := below_setS HB HGE.out 6 (.string (minK ck.ka e.key))
      replace R4 := (Below.heap_setCell _ ⟨b7, 6, none⟩ (.string (minK ck.ka e.key)) _ hn47).trans R4
      replace R7 := row_setS R7 6 (.string (minK ck.ka e.key))
      refine hK.out _ _ R9 (fun hHeld => ?_)
      clear hK K
      try dsimp only
      try simp only [Act.put, qz0, qz1, qz2, qz3, qz4, qz5]
      refine wpAnyH_take (i := 12) (v := .pointer (some ⟨b7, 7, none⟩)) rfl (by kernel_rfl) (by kernel_rfl) (by kernel_rfl) (fun _ _ _ h => h) (Or.inl ⟨by rfl, fun _ _ => rfl⟩) hHeld ?_
      try dsimp only
      try simp only [Act.put, qz0, qz1, qz2, qz3, qz4, qz5]
      refine wpAnyH_ready (rs := [13]) (by kernel_rfl) (by simp) (AllReadyH.cons rfl (fun K hK => ?_) AllReadyH.nil)
      rw [if_pos (by rfl)]
      refine wp_st_strS _ _ rfl b7 7 rfl _ rfl (by rw [cell_of_row _ _ _ _ _ _ R7]; rfl) (row_frozen R7 7) ?_
      replace R9 := (Below.heap_setCell _ ⟨b7, 7, none⟩ (.string (maxK ck.kz e.key)) _ hn97).trans R9
      replace HB := below_setS HB HGE.out 7 (.string (maxK ck.kz e.key))
      replace R4 := (Below.heap_setCell _ ⟨b7, 7, none⟩ (.string (maxK ck.kz e.key)) _ hn47).trans R4
      replace R7 := row_setS R7 7 (.string (maxK ck.kz e.key))
      refine hK.out _ _ R9 (fun hHeld => ?_)
      clear hK K
      refine wpAnyH_done (by kernel_rfl) ?_ _
      clear hHeld
      go_wp2
      go_roundw
      case rel => exact ⟨k + 1, by omega, by go_num, by rw [HSN.out]; exact Lib.hid ⟨HB, R4, R7, HGT.out⟩⟩
      case measure => simp [intOf]; omega
   ·obtain rfl : k = n := by omega
    have HF : Hid (CO W b7 (ckOf l p) wr) := Lib.hid (by have := HO.out; rwa [List.take_of_length_le (by have := hn.out; omega)] at this)
    clear HO
    go_wp2_with (first
     | (refine wpList_load_row rfl 41 (.tmp 7) rfl b7 rfl _ #[.int .i64 ((ckOf l p).rows : Int), .int .i64 ((ckOf l p).pl : Int), .int .u64 ((ckOf l p).oa : Int), .int .u64 ((ckOf l p).ob : Int), .int .i64 (ckOf l p).ta, .int .i64 (ckOf l p).tz, .string (ckOf l p).ka, .string (ckOf l p).kz] (0, 0) _ HF.out.r7 uCk rfl (iCkS (ckOf l p)) ?_)
     | (refine wpList_store_row rfl 41 (.tmp 4) (.tmp 71) rfl W.heap.size #[.int .i64 ((ckOf l p).rows : Int), .int .i64 ((ckOf l p).pl : Int), .int .u64 ((ckOf l p).oa : Int), .int .u64 ((ckOf l p).ob : Int), .int .i64 (ckOf l p).ta, .int .i64 (ckOf l p).tz, .string (ckOf l p).ka, .string (ckOf l p).kz] rfl rfl _ _ HF.out.r4 (iCkS (ckOf l p)) (sizeCkS (ckOf l p)) (oneCkS (ckOf l p)) ?_))
    exact post_rowS 4 41 Tryd.results11 rfl W.heap.size 41 _ (0, 0) _ rfl (setRow_heap _ _ _ _ _ _ HF.out.r4) uCk rfl (iCkS (ckOf l p)) ⟨rfl, below_setRowS HF.out.below (Nat.le_refl _) _⟩
end Go.Proofs.YtifabkbdiiolfaaDoor
