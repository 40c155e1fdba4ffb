/-
  Layer segment: the contract of Write.
-/
import Derived.Sort.CutIn
import Derived.Test.YtifabkbdiiolfaaDoorYnK
import Derived.Test.YtifabkbdiiolfaaDoorYeK
open List renaming getElem_toArray → qz0, getElem_cons_zero → qz1, getElem_cons_succ → qz2, setIfInBounds_toArray → qz3, set_cons_zero → qz4, set_cons_succ → qz5
set_option linter.unusedSimpArgs false
set_option linter.unusedVariables false
set_option maxRecDepth 8000
namespace Go.Proofs.YtifabkbdiiolfaaDoor
open Go.RowKit Go.Shelf Go.WideShapes Col
attribute [local go_sem] Oper.semAt_some
theorem wp_ld_bysS {o : Oper} {a : Act} {w : World} {K : Act → World → Prop} {Q : Exit → Act → World → Prop} (x : Operand) (ho : o.op = .load 24 x) (g j : Nat) (hx : a.eval x = .pointer (some ⟨g, j, none⟩)) (v : Value) (hc : w.cell? ⟨g, j, none⟩ = some v)
  (h : K (a.put o.dst v) w) : o.wp Tryd.prog a w K Q := by
 have hr : (loadVar 24 ⟨g, j, none⟩).run Tryd.prog w = .ok v w := by go_simp
 unfold Oper.wp execOp
 simp only [ho, hx, Instr.loadAt, Instr.sureAddr, Sem.run_bind, Sem.run_pure, Result.andThen_ok, hr]
 exact h
theorem wp_st_bysS {o : Oper} {a : Act} {w : World} {K : Act → World → Prop} {Q : Exit → Act → World → Prop} (x y : Operand) (ho : o.op = .store 24 x y) (g j : Nat) (hx : a.eval x = .pointer (some ⟨g, j, none⟩)) (A : Option Addr) (n c : Nat) (hy : a.eval y = .slice A n c) {u : Value} (hc : w.cell? ⟨g, j, none⟩ = some u) (hf : w.frozen? ⟨g, j, none⟩ = false)
  (h : K (a.put o.dst undef) (w.setCell ⟨g, j, none⟩ (.slice A n c))) : o.wp Tryd.prog a w K Q := by
 have hr : (storeVar 24 ⟨g, j, none⟩ (.slice A n c)).run Tryd.prog w = .ok () (w.setCell ⟨g, j, none⟩ (.slice A n c)) := by go_simp
 unfold Oper.wp execOp
 simp only [ho, hx, hy, Instr.storeAt, Instr.sureAddr, Sem.run_bind, Sem.run_pure, Result.andThen_ok, hr]
 exact h
theorem yl_cksS {ops : Array Oper} {S : World → Prop} {op : Oper} {a : Act} (hw : Region.wanted op (yielded ops a.tmps) = true) (x : Operand) (ho : op.op = .load 38 x) (g j : Nat) (hx : a.eval x = .pointer (some ⟨g, j, none⟩)) (v : Value)
  (hc : ∀ w, S w → w.cell? ⟨g, j, none⟩ = some v) : YieldsIf Tryd.prog ops S op v a :=
 .inl ⟨hw, fun w hw' => by
  unfold execOp
  simp only [ho, hx, Instr.loadAt, Instr.sureAddr, Sem.run_bind, Sem.run_pure, Result.andThen_ok, lv_cksS w g j v (hc w hw')]⟩
/-- A way out without a panic. -/
def noPanic (Q : Exit → Act → World → Prop) : Exit → Act → World → Prop
 | .panic _, _, _ => False
 | e, a, w => Q e a w
theorem noPanic_imp (Q : Exit → Act → World → Prop) : ∀ e a w, noPanic Q e a w → Q e a w := fun e a w h => by cases e <;> first | exact h | exact h.elim
theorem kept_putObj (w : World) (D : Nat) (o : Obj) : Kept (fun k => k = D) w (w.putObj D o) := ⟨rfl, rfl, rfl, by simp [World.putObj], fun k _ hn => World.putObj_heap_other (fun e => hn e)⟩
theorem results_tmp2S {fn : Func} {t u : Tmp} (h : fn.results = #[.tmp t, .tmp u]) (tmps : Array Value) (P : Program) (w : World) :
  (results fn tmps).run P w = .ok (.tuple #[tmps.getD t undef, tmps.getD u undef]) w := by simp [results, h]
/-- What lies where the loop of Write begins. -/
structure W0 (w1 : World) (s g off n c : Nat) (W4 : World) : Prop where
 r0 : W4.heap[s]? = some (.cells #[.slice none 0 0] 24 (0, 0))
 r1 : W4.heap[s + 1]? = some (.cells #[.slice none 0 0] 38 (0, 0))
 c2 : W4.cell? ⟨s + 2, 0, none⟩ = some (.slice (some ⟨g, off, none⟩) n c)
 c3 : W4.cell? ⟨s + 3, 0, none⟩ = some (.int .i64 64)
 size : W4.heap.size = s + 4
 below : Below s w1 W4
theorem w0_new (w1 : World) (g off n c : Nat) : W0 w1 w1.heap.size g off n c ((((w1.alloc (.cells #[.slice none 0 0] 24)).alloc (.cells #[.slice none 0 0] 38)).alloc (.cells #[.slice (some ⟨g, off, none⟩) n c] 22)).alloc (.cells #[.int .i64 64] 3)) := by
 have e0 : ∀ (w : World) (o : Obj), (w.alloc o).heap = w.heap.push o := fun _ _ => rfl
 refine ⟨?_, ?_, ?_, ?_, ?_, ?_⟩
 ·simp only [e0, Array.getElem?_push, Array.size_push]; rw [if_neg (by omega), if_neg (by omega), if_neg (by omega)]; simp
 ·simp only [e0, Array.getElem?_push, Array.size_push]; rw [if_neg (by omega), if_neg (by omega)]; simp
 ·rw [cell_of_row (fr := (0, 0)) (t := 22) (cs := #[.slice (some ⟨g, off, none⟩) n c]) (hg := by simp only [e0, Array.getElem?_push, Array.size_push]; rw [if_neg (by omega)]; simp)]; rfl
 ·rw [cell_of_row (fr := (0, 0)) (t := 3) (cs := #[.int .i64 64]) (hg := by simp only [e0, Array.getElem?_push, Array.size_push]; simp)]; rfl
 ·simp [e0]
 ·exact ((((Below.refl _ _).alloc (Nat.le_refl _) _).alloc (by simp) _).alloc (by simp; omega) _).alloc (by simp; omega) _
theorem write_round {w1 W v4 v5 : World} {s : Nat} {l : List Ev} {pre : List Nat} {x : Nat} {A A2 A3 A5 : Option Addr} {m cap m2 cap2 cap3 m5 cap5 : Nat} {ck : Ck} {P5 : List Nat}
  (HI : Hid (WI w1 s l pre W A m cap A2 m2 cap2)) (HK4 : Hid (Kept (fun k => k = s + 1 ∨ MineK A2 k) W v4)) (R14 : Hid (v4.heap[s + 1]? = some (.cells #[.slice A3 (m2 + 1) cap3] 38 (0, 0))))
  (HO4 : Hid (OwnC v4 (s + 4) A3 (m2 + 1) cap3 ((wrS l pre).2 ++ [ck]))) (HC4 : Hid (v4.cell? ⟨s, 0, none⟩ = some (.slice A m cap))) (HOP4 : Hid (OwnS v4 (s + 4) A m cap (wrS l pre).1)) (HB4 : Hid (Below s w1 v4))
  (HO5 : Hid (OwnS v5 (s + 4) A5 m5 cap5 P5)) (HK5 : Hid (Kept (MineK A) v4 v5)) (HR5 : Hid (∀ k, MineK A5 k → MineK A k ∨ v4.heap.size ≤ k)) (HR3 : Hid (∀ k, MineK A3 k → MineK A2 k ∨ W.heap.size ≤ k))
  (H05 : Hid (v5.heap[s]? = some (.cells [.slice A m cap].toArray 24 (0, 0)))) (HEQ : Hid (wrS l (pre ++ [x]) = (P5, (wrS l pre).2 ++ [ck]))) :
  KeepsOthers W (v5.setCell ⟨s, 0, none⟩ (.slice A5 m5 cap5)) ∧ KpC (s + 2) (s + 3) W (v5.setCell ⟨s, 0, none⟩ (.slice A5 m5 cap5)) ∧
   ∃ A m cap A2 m2 cap2, WI w1 s l (pre ++ [x]) (v5.setCell ⟨s, 0, none⟩ (.slice A5 m5 cap5)) A m cap A2 m2 cap2 := by
 have hne : ∀ k, MineK A3 k → ¬ MineK A k := fun k h3 h => by
  rcases HO4.out.2 with ⟨e0, e1⟩ | ⟨g', cap', cur, e0, hb', hg', -⟩
  ·injection e0 with e0 _ _; rw [e0] at h3; cases h3
  ·injection e0 with e0 _ _; rw [e0] at h3; injection h3 with h3; subst h3; exact own_ne HOP4.out hg' (by decide) h
 have K : Kept (WS s A A2) W (v5.setCell ⟨s, 0, none⟩ (.slice A5 m5 cap5)) := ((HK4.out.mono (S' := WS s A A2) (fun k h => .inl (h.elim (fun h => .inr (.inl h)) (fun h => .inr (.inr (.inr h)))))).trans' (HK5.out) (fun k h => .inl (.inr (.inr (.inl h))))).setCell _ _ (.inl (.inl rfl))
 have hs4 : s + 4 ≤ v4.heap.size := Nat.le_trans HI.out.size HK4.out.size
 have KS : Kept (fun k => k = s) v5 (v5.setCell ⟨s, 0, none⟩ (.slice A5 m5 cap5)) := (Kept.refl _ _).setCell _ _ (.inl rfl)
 refine ⟨HI.out.others K, HI.out.kpc K, A5, m5, cap5, A3, m2 + 1, cap3, ?_, ?_, ?_, ?_, ?_, ?_⟩
 ·exact row_set H05.out 0 _
 ·exact KS.heap (HK5.out.heap R14.out (fun e => by obtain ⟨_, _, _, _, h1⟩ := own_cells HOP4.out e; omega)) (by omega)
 ·rw [HEQ.out]
  exact HO5.out.keptW KS fun k hk e => by obtain ⟨_, _, _, _, h1⟩ := own_cells HO5.out hk; omega
 ·rw [HEQ.out]
  exact (HO4.out.keptW HK5.out fun k hk => hne k hk).keptW KS fun k hk e => by
   have e : k = s := e
   obtain ⟨_, _, _, _, h1⟩ := ownC_cells HO4.out hk; omega
 ·exact HB4.out.trans ((HK5.out.below (B := s) (by omega) (fun k hk => by obtain ⟨_, _, _, _, h1⟩ := own_cells HOP4.out hk; omega)).setCell (Nat.le_refl _) _)
 ·rw [setCell_size]; exact Nat.le_trans hs4 HK5.out.size
set_option maxHeartbeats 16000000 in
theorem write_any (g off n c : Nat) (l : List Ev) (hn : Hid (n = l.length)) (h0 : 0 < n) (hn9 : n ≤ 1024) (hnc : n ≤ c) (hcm : c ≤ maxLen) (p : Nat) (hp1 : 1 ≤ p) (hp : p ≤ 8) (hck : Hid (chkL (p : Int) none l = 0)) (hfin : Hid (∀ x ∈ l, FineE x)) (W : World) (HE : Hid (EvAt W (some ⟨g, off, none⟩) l)) (HG : Hid (HalvesAt W)) :
  Calls Tryd.prog 5 #[.slice (some ⟨g, off, none⟩) n c, .int .i64 (p : Int)] W fun e w' => ∃ A m cap, e = .returned (.tuple #[.slice A m cap, .int .i64 0]) ∧ OwnS w' W.heap.size A m cap (segB p l) ∧ Below W.heap.size W w' := by
 have hn0 : ((n : Int) == 0) = false := by rw [beq_eq_false_iff_ne]; omega
 have HCK : Hid (∀ w, EvAt w (some ⟨g, off, none⟩) l → Calls Tryd.prog 9 #[.slice (some ⟨g, off, none⟩) n c, .int .i64 (p : Int)] w fun e w' => e = .returned (.int .i64 0) ∧ Below w.heap.size w w') := Lib.hid fun w h => by
  have h := chk_any (some ⟨g, off, none⟩) n c l hn (by omega) (p : Int) w (Lib.hid h)
  rwa [hck.out] at h
 have hd1 : ¬ ((p : Int) < 1) := by omega
 have hd2 : ¬ ((8 : Int) < (p : Int)) := by omega
 have hd3 : ¬ ((1024 : Int) < (n : Int)) := by omega
 refine (callsIn_wide (n := 5)).1 ?_
 refine callsIn_of_wp_marks Tryd.func5 rfl trivial ?_ rfl
 refine wpIn_wide.2 (wp_mono ?_ (noPanic_imp _))
 simp only [Tryd.ntmps5, List.size_toArray, List.length_cons, List.length_nil, Nat.reduceAdd, Nat.reduceSub, Array.replicate_succ, Array.replicate_zero, List.push_toArray, List.append_toArray, List.nil_append, List.cons_append]
 go_wp2_with (first
  | (go_at_call 9; (with_reducible refine (HCK.out _ HE.out).mono ?_); rintro e w1 ⟨rfl, hb⟩; have HB1 := Lib.hid hb; clear hb)
  | (go_at_call 10; (with_reducible refine (chunkF_any _ n c _).mono ?_); rintro e w2 ⟨rfl, rfl⟩))
 have H0 := w0_new w1 g off n c
 have HGS : Hid (0 < W.heap.size) := Lib.hid (World.block_lt_of_cell? W _ (HG.out 0 (by decide)))
 have HSW1 : Hid (W.heap.size ≤ w1.heap.size) := Lib.hid HB1.out.size
 have HHG : Hid (∀ w, Below w1.heap.size w1 w → HalvesAt w) := Lib.hid fun w hb => (HG.out.keep HB1.out).keep hb
 have HEW : Hid (∀ w, Below w1.heap.size w1 w → EvAt w (some ⟨g, off, none⟩) l) := Lib.hid fun w hb => (HE.out.keep HB1.out).keep hb
 generalize ((((w1.alloc (Obj.cells #[Value.slice none 0 0] 24)).alloc (Obj.cells #[Value.slice none 0 0] 38)).alloc (Obj.cells #[Value.slice (some { block := g, off := off, spot := none }) n c] 22)).alloc (Obj.cells #[Value.int IntKind.i64 64] 3)) = W4 at *
 obtain ⟨s, hs⟩ : ∃ s, s = w1.heap.size := ⟨_, rfl⟩
 rw [← hs] at H0 HSW1 HHG HEW ⊢
 have HS := Lib.hid hs
 have HW0 := Lib.hid H0
 have HS4 := Lib.hid H0.size
 clear hs H0 hd1 hd2 hd3 hn0 HCK
 refine wpIn_wide (n := 5).1 ?_
 refine wpIn_rangeFunc_ownF rfl (by decide) (gf := 30) (lb := #[.pointer (some ⟨s + 2, 0, none⟩), .pointer (some ⟨s + 3, 0, none⟩)]) rfl trivial (enters_of Tryd.func30 (by kernel_rfl) rfl)
  (chunk_stops (5 - 1) (by decide) (s + 2) (s + 3) g off n c (by omega) hnc hcm W4 (by have := HS4.out; omega) (by have := HS4.out; omega) HW0.out.c2 HW0.out.c3) KpC.trans (fun W l o o' hl _ _ _ => KpC.putObj W l o' (by have := HS4.out; omega) (by have := HS4.out; omega)) (Below.refl _ _) (fun _ => rfl)
  (fun pre W => ∃ A m cap A2 m2 cap2, WI w1 s l pre W A m cap A2 m2 cap2) (fun _ _ _ => False)
  (fun pre A B row h hg hr => by
   obtain ⟨A1, m, cap, A2, m2, cap2, h⟩ := h
   exact ⟨A1, m, cap, A2, m2, cap2, h.grown HS.out.symm hg (fun r e => ⟨by have := (hr r e).1; have := HS4.out; omega, (hr r e).2⟩)⟩)
  (fun _ _ _ _ _ hs _ _ => hs)
  ⟨none, 0, 0, none, 0, 0, HW0.out.r0, HW0.out.r1, OwnS.nil _ _, OwnC.nil _ _, HW0.out.below, by rw [HS4.out]; exact Nat.le_refl _⟩
  ?a1 ?assign ?body ?done ?stop
 case assign =>
  intro l x W K hK
  unfold encC
  try simp only [List.zip_toArray, List.zip_cons_cons, List.zip_nil_right, List.zip_nil_left, List.foldl_toArray, List.foldl_cons, List.foldl_nil, List.setIfInBounds_toArray, List.set_cons_succ, List.set_cons_zero]
  gi_wp2
  exact hK
 case stop =>
  rintro D c pre W _ _ h _
  exact h.elim
 case body =>
  rintro lp pre x W ⟨A, m, cap, A2, m2, cap2, hwi⟩ hlt
  have HI := Lib.hid hwi
  have hnl : l.length = n := hn.out.symm
  have hlf := lnC_facts (len := n) (j := x) h0
  have HLF : Hid (lnC n x ≤ 64 ∧ 0 < lnC n x) := Lib.hid ⟨hlf.2.1, hlf.1⟩
  have HPL : Hid (lnC n x = (pcs l x).length) := Lib.hid (by rw [pcs_len (by omega), hnl])
  have HFP : Hid (∀ y ∈ pcs l x, FineE y) := Lib.hid fun y hy => hfin.out y (pcs_mem hy)
  have HEP : Hid (∀ w, Below s w1 w → EvAt w (some ⟨g, off + stC n x * 5, none⟩) (pcs l x)) := Lib.hid fun w hb => by
   have h := evAt_pcs (HEW.out w hb) x
   rwa [hnl] at h
  have HM9 : Hid (m ≤ 9281 * 16 ∧ m2 ≤ 16) := Lib.hid (by
   have h1 := wrS_len l (by omega) hfin.out pre
   have h2 := hwi.op.len
   have h3 : m2 = (wrS l pre).2.length := by have h4 := hwi.oc.1; rw [cks_length] at h4; omega
   omega)
  have HSW : Hid (s + 4 ≤ W.heap.size) := Lib.hid hwi.size
  have HM2 : Hid (m2 + 1 ≤ 1000000) := Lib.hid (by have := HM9.out; omega)
  have C0 : Hid (W.cell? ⟨s, 0, none⟩ = some (.slice A m cap)) := Lib.hid (by rw [cell_of_row _ _ _ _ _ _ hwi.r0]; rfl)
  have C1 : Hid (W.cell? ⟨s + 1, 0, none⟩ = some (.slice A2 m2 cap2)) := Lib.hid (by rw [cell_of_row _ _ _ _ _ _ hwi.r1]; rfl)
  have HS0 : Hid (s < W.heap.size) := Lib.hid (by have := hwi.size; omega)
  have HS1 : Hid (s + 1 < W.heap.size) := Lib.hid (by have := hwi.size; omega)
  have HOC := Lib.hid hwi.oc
  have HML : Hid (m = (wrS l pre).1.length) := Lib.hid hwi.op.len
  have HN2 : Hid (∀ k, k = s ∨ k = s + 1 → ¬ MineK A2 k) := Lib.hid fun k hk e => by obtain ⟨_, _, _, _, h1⟩ := ownC_cells hwi.oc e; omega
  have HN4 : Hid (∀ k, k = s → ¬ (k = s + 1 ∨ MineK A2 k)) := Lib.hid fun k hk e => e.elim (fun e => by omega) (fun e => by obtain ⟨_, _, _, _, h1⟩ := ownC_cells hwi.oc e; omega)
  obtain ⟨o1, ho1⟩ : ∃ o1, o1 = off + stC n x * 5 := ⟨_, rfl⟩
  obtain ⟨k1, hk1⟩ : ∃ k1, k1 = lnC n x := ⟨_, rfl⟩
  rw [← ho1] at HEP ⊢
  rw [← hk1] at HLF HPL ⊢
  obtain ⟨ck, hck2⟩ : ∃ ck, ck = ckOf (pcs l x) m := ⟨_, rfl⟩
  have HEQ : Hid (wrS l (pre ++ [x]) = ((wrS l pre).1 ++ pgE (pcs l x), (wrS l pre).2 ++ [ck])) := Lib.hid (by rw [wrS_snoc, hck2, HML.out])
  have HCO : Hid (∀ w, Below W.heap.size W w → Calls Tryd.prog 11 #[.slice (some ⟨g, o1, none⟩) k1 k1, .int .i64 (m : Int)] w fun e w' => e = .returned (.agg #[.int .i64 (ck.rows : Int), .int .i64 (ck.pl : Int), .int .u64 (ck.oa : Int), .int .u64 (ck.ob : Int), .int .i64 ck.ta, .int .i64 ck.tz, .string ck.ka, .string ck.kz]) ∧ Below w.heap.size w w') := Lib.hid fun w hb => by
   rw [hck2]
   exact chunkOf_any (some ⟨g, o1, none⟩) k1 k1 (pcs l x) HPL (by have := HLF.out; omega) (by have := HLF.out; omega) m w (Lib.hid (HEP.out w (HI.out.below.trans (hb.mono (by have := HSW.out; omega)))))
  obtain ⟨CL, hCL⟩ : ∃ CL, CL = (wrS l pre).2 := ⟨_, rfl⟩
  rw [← hCL] at HOC
  have HCL := Lib.hid hCL
  clear hwi hlf ho1 hk1 hck2 hlt hnl hCL
  gi_upto_region 12 with fail
  refine wpIn_region_round (S := fun w => w.cell? ⟨s, 0, none⟩ = some (.slice A m cap)) (by kernel_rfl) (by simp) (fun ⟨_, _, h⟩ => h) C0.out (fun hHeld => ?_)
  have HBd : Hid (Below W.heap.size W W.drew) := Lib.hid (Below.refl _ _).drew
  refine wpAnyH_take (i := 1) (v := .slice (some ⟨g, o1, none⟩) k1 k1) rfl (by kernel_rfl) (by kernel_rfl) (by kernel_rfl) (fun _ _ _ h => h) (Or.inl ⟨by rfl, fun _ _ => rfl⟩) hHeld ?_
  try dsimp only
  try simp only [Act.put, qz0, qz1, qz2, qz3, qz4, qz5]
  refine wpAnyH_take (i := 2) (v := .slice A m cap) rfl (by kernel_rfl) (by kernel_rfl) (by kernel_rfl) (fun _ _ _ h => h) (yl_bysS rfl (.tmp 7) rfl s 0 rfl _ (fun w h => h)) hHeld ?_
  try dsimp only
  try simp only [Act.put, qz0, qz1, qz2, qz3, qz4, qz5]
  refine wpAnyH_take (i := 3) (v := .int .i64 (m : Int)) rfl (by kernel_rfl) (by kernel_rfl) (by kernel_rfl) (fun _ _ _ h => h) (Or.inl ⟨by rfl, fun w _ => by go_simp⟩) hHeld ?_
  try dsimp only
  try simp only [Act.put, qz0, qz1, qz2, qz3, qz4, qz5]
  refine wpAnyH_ready (rs := [0, 4]) (by kernel_rfl) (by simp) (AllReadyH.cons rfl (fun K hK => ?_) (AllReadyH.cons rfl (fun K hK => ?_) AllReadyH.nil))
  ·skip
   rw [if_pos (by rfl)]
   refine wp_ld_cksS (.tmp 8) rfl (s + 1) 0 rfl (.slice A2 m2 cap2) ((HBd.out.cell (p := ⟨s + 1, 0, none⟩) HS1.out).trans C1.out) ?_
   refine hK.out _ _ ((HBd.out.cell (p := ⟨s, 0, none⟩) HS0.out).trans C0.out) (fun hHeld => ?_)
   clear hK K
   try dsimp only
   try simp only [Act.put, qz0, qz1, qz2, qz3, qz4, qz5]
   refine wpAnyH_ready (rs := [4]) (by kernel_rfl) (by simp) (AllReadyH.cons rfl (fun K hK => ?_) AllReadyH.nil)
   go_simp
   refine (HCO.out _ HBd.out).mono ?_
   rintro e v1 ⟨rfl, hb⟩
   have HB1v : Hid (Below W.heap.size W v1) := Lib.hid (below_to HBd.out hb)
   clear hb
   refine hK.out _ _ ((HB1v.out.cell (p := ⟨s, 0, none⟩) HS0.out).trans C0.out) (fun hHeld => ?_)
   clear hK K
   try dsimp only
   try simp only [Act.put, qz0, qz1, qz2, qz3, qz4, qz5]
   refine wpAnyH_ready (rs := [5]) (by kernel_rfl) (by simp) (AllReadyH.cons rfl (fun K hK => ?_) AllReadyH.nil)
   go_simp
   have HB2v : Hid (Below W.heap.size W (v1.alloc (.cells #[.int .i64 (ck.rows : Int), .int .i64 (ck.pl : Int), .int .u64 (ck.oa : Int), .int .u64 (ck.ob : Int), .int .i64 ck.ta, .int .i64 ck.tz, .string ck.ka, .string ck.kz] 41))) := Lib.hid (HB1v.out.alloc HB1v.out.size _)
   refine hK.out _ _ ((HB2v.out.cell (p := ⟨s, 0, none⟩) HS0.out).trans C0.out) (fun hHeld => ?_)
   clear hK K
   try dsimp only
   try simp only [Act.put, qz0, qz1, qz2, qz3, qz4, qz5]
   refine wpAnyH_ready (rs := [6]) (by kernel_rfl) (by simp) (AllReadyH.cons rfl (fun K hK => ?_) AllReadyH.nil)
   rw [if_pos (by rfl)]
   refine wp_append_ck (.tmp 34) (.tmp 39) rfl (s + 4) A2 m2 cap2 CL rfl (HOC.out.keep HB2v.out) ⟨v1.heap.size, 0, none⟩ 1 1 [ck] rfl rfl (ckAt_new v1 [ck] _ rfl _) HM2.out (Nat.le_trans HSW.out HB2v.out.size) (m2 + 1) rfl ?_
   intro A3 cap3 v3 ho3 hg3 hr3
   have HK3 : Hid (Kept (MineK A2) W v3) := Lib.hid ((Kept.of_below HB2v.out).trans ⟨hg3.os, hg3.tape, hg3.output, hg3.size, fun k hk hn => hg3.block k hk (fun e => hn e.symm)⟩)
   have HR3 : Hid (∀ k, MineK A3 k → MineK A2 k ∨ W.heap.size ≤ k) := Lib.hid (mine_next (A := A2) (w := v1.alloc (.cells #[.int .i64 (ck.rows : Int), .int .i64 (ck.pl : Int), .int .u64 (ck.oa : Int), .int .u64 (ck.ob : Int), .int .i64 ck.ta, .int .i64 ck.tz, .string ck.ka, .string ck.kz] 41)) (fun k hk => .inl hk) HB2v.out.size hr3)
   have HO3 := Lib.hid ho3
   clear ho3 hg3 hr3
   have C03 : v3.cell? ⟨s, 0, none⟩ = some (.slice A m cap) := (HK3.out.cell (p := ⟨s, 0, none⟩) HS0.out (HN2.out s (.inl rfl))).trans C0.out
   refine hK.out _ _ C03 (fun hHeld => ?_)
   clear hK K
   try dsimp only
   try simp only [Act.put, qz0, qz1, qz2, qz3, qz4, qz5]
   refine wpAnyH_ready (rs := [7]) (by kernel_rfl) (by simp) (AllReadyH.cons rfl (fun K hK => ?_) AllReadyH.nil)
   rw [if_pos (by rfl)]
   have R13 : v3.heap[s + 1]? = some (.cells [.slice A2 m2 cap2].toArray 38 (0, 0)) := HK3.out.heap HI.out.r1 (HN2.out (s + 1) (.inr rfl))
   refine wp_st_cksS (.tmp 8) (.tmp 40) rfl (s + 1) 0 rfl A3 (m2 + 1) cap3 rfl (u := .slice A2 m2 cap2) (by rw [cell_of_row _ _ _ _ _ _ R13]; rfl) (row_frozen R13 0) ?_
   have HK4 : Hid (Kept (fun k => k = s + 1 ∨ MineK A2 k) W (v3.setCell ⟨s + 1, 0, none⟩ (.slice A3 (m2 + 1) cap3))) := Lib.hid ((HK3.out.mono fun k h => .inl (.inr h)).setCell _ _ (.inl (.inl rfl)))
   have R14 : Hid ((v3.setCell ⟨s + 1, 0, none⟩ (.slice A3 (m2 + 1) cap3)).heap[s + 1]? = some (.cells #[.slice A3 (m2 + 1) cap3] 38 (0, 0))) := Lib.hid (row_set R13 0 _)
   have HO4 : Hid (OwnC (v3.setCell ⟨s + 1, 0, none⟩ (.slice A3 (m2 + 1) cap3)) (s + 4) A3 (m2 + 1) cap3 (CL ++ [ck])) := Lib.hid (HO3.out.keptW ((Kept.refl (fun k => k = s + 1) _).setCell _ _ (.inl rfl)) fun k hk e => by obtain ⟨_, _, _, _, h1⟩ := ownC_cells HO3.out hk; omega)
   generalize v3.setCell _ _ = v4 at *
   have HC4 : Hid (v4.cell? ⟨s, 0, none⟩ = some (.slice A m cap)) := Lib.hid ((HK4.out.cell (p := ⟨s, 0, none⟩) HS0.out (HN4.out s rfl)).trans C0.out)
   refine hK.out _ _ HC4.out (fun hHeld => ?_)
   clear hK K R13 C03 HK3 HO3
   refine wpAnyH_done (by kernel_rfl) ?_ _
   clear hHeld
   have c04 := HC4.out
   have HOP4 : Hid (OwnS v4 (s + 4) A m cap (wrS l pre).1) := Lib.hid (HI.out.op.keptW HK4.out fun k hk h => h.elim (fun e => by obtain ⟨_, _, _, _, h1⟩ := own_cells HI.out.op hk; omega) (fun e => by
    obtain ⟨cs, t, fr, h1, -⟩ := ownC_cells HI.out.oc e
    rcases HI.out.oc.2 with ⟨e0, e1⟩ | ⟨g', cap', cur, e0, hb', hg', -⟩
    ·injection e0 with e0 _ _; rw [e0] at e; cases e
    ·injection e0 with e0 _ _; rw [e0] at e; injection e with e; subst e; exact own_ne HI.out.op hg' (by decide) hk))
   have HB4 : Hid (Below s w1 v4) := Lib.hid (HI.out.below.trans (HK4.out.below (Nat.le_trans (Nat.le_add_right _ _) HI.out.size) fun k hk => by
    rcases hk with e | e
    ·omega
    ·obtain ⟨_, _, _, _, h1⟩ := ownC_cells HI.out.oc e; omega))
   have HLY4 : Hid (Calls Tryd.prog 12 #[.slice A m cap, .slice (some ⟨g, o1, none⟩) k1 k1] v4 (RetLK v4 (s + 4) A (m + 5 + (evY (pcs l x)).length + 4) ((wrS l pre).1 ++ pgE (pcs l x)))) := Lib.hid
    (evLayK_any (s + 4) A m cap (wrS l pre).1 (some ⟨g, o1, none⟩) k1 k1 (pcs l x) HPL (by have := HLF.out; omega) (by have := HM9.out; omega) HFP v4 HOP4 (Lib.hid (HEP.out v4 HB4.out)) (Lib.hid (HHG.out v4 HB4.out)) (Nat.le_trans HSW.out HK4.out.size) (by have := HGS.out; omega))
   have H04 : Hid (v4.heap[s]? = some (.cells [.slice A m cap].toArray 24 (0, 0))) := Lib.hid (HK4.out.heap HI.out.r0 (HN4.out s rfl))
   gi_wp2_with (first
    | (gi_at_call 12; refine (CallsIn.inRound lp (callsIn_wide.2 HLY4.out)).mono ?_; rintro e v5 ⟨A5, cap5, rfl, h1, h2, h3⟩; have HO5 := Lib.hid h1; have HK5 := Lib.hid h2; have HR5 := Lib.hid h3; have R05 : v5.heap[s]? = some (.cells [.slice A m cap].toArray 24 (0, 0)) := HK5.out.heap H04.out (fun e => by obtain ⟨_, _, _, _, h1⟩ := own_cells HOP4.out e; omega); have H05 := Lib.hid R05; have c05 : v5.cell? ⟨s, 0, none⟩ = some (.slice A m cap) := (by rw [cell_of_row _ _ _ _ _ _ R05]; rfl); have f05 : v5.frozen? ⟨s, 0, none⟩ = false := row_frozen R05 0; clear R05 h1 h2 h3)
    | (refine ⟨trivial, ?_⟩; gi_at_call 12; refine (CallsIn.inRound lp (callsIn_wide.2 HLY4.out)).mono ?_; rintro e v5 ⟨A5, cap5, rfl, h1, h2, h3⟩; have HO5 := Lib.hid h1; have HK5 := Lib.hid h2; have HR5 := Lib.hid h3; have R05 : v5.heap[s]? = some (.cells [.slice A m cap].toArray 24 (0, 0)) := HK5.out.heap H04.out (fun e => by obtain ⟨_, _, _, _, h1⟩ := own_cells HOP4.out e; omega); have H05 := Lib.hid R05; have c05 : v5.cell? ⟨s, 0, none⟩ = some (.slice A m cap) := (by rw [cell_of_row _ _ _ _ _ _ R05]; rfl); have f05 : v5.frozen? ⟨s, 0, none⟩ = false := row_frozen R05 0; clear R05 h1 h2 h3))
   rw [HCL.out] at HO4
   exact write_round HI HK4 R14 HO4 HC4 HOP4 HB4 HO5 HK5 HR5 HR3 H05 HEQ
  ·skip
   go_simp
   refine (HCO.out _ HBd.out).mono ?_
   rintro e v1 ⟨rfl, hb⟩
   have HB1v : Hid (Below W.heap.size W v1) := Lib.hid (below_to HBd.out hb)
   clear hb
   refine hK.out _ _ ((HB1v.out.cell (p := ⟨s, 0, none⟩) HS0.out).trans C0.out) (fun hHeld => ?_)
   clear hK K
   try dsimp only
   try simp only [Act.put, qz0, qz1, qz2, qz3, qz4, qz5]
   refine wpAnyH_ready (rs := [0, 5]) (by kernel_rfl) (by simp) (AllReadyH.cons rfl (fun K hK => ?_) (AllReadyH.cons rfl (fun K hK => ?_) AllReadyH.nil))
   ·skip
    rw [if_pos (by rfl)]
    refine wp_ld_cksS (.tmp 8) rfl (s + 1) 0 rfl (.slice A2 m2 cap2) ((HB1v.out.cell (p := ⟨s + 1, 0, none⟩) HS1.out).trans C1.out) ?_
    refine hK.out _ _ ((HB1v.out.cell (p := ⟨s, 0, none⟩) HS0.out).trans C0.out) (fun hHeld => ?_)
    clear hK K
    try dsimp only
    try simp only [Act.put, qz0, qz1, qz2, qz3, qz4, qz5]
    refine wpAnyH_ready (rs := [5]) (by kernel_rfl) (by simp) (AllReadyH.cons rfl (fun K hK => ?_) AllReadyH.nil)
    go_simp
    have HB2v : Hid (Below W.heap.size W (v1.alloc (.cells #[.int .i64 (ck.rows : Int), .int .i64 (ck.pl : Int), .int .u64 (ck.oa : Int), .int .u64 (ck.ob : Int), .int .i64 ck.ta, .int .i64 ck.tz, .string ck.ka, .string ck.kz] 41))) := Lib.hid (HB1v.out.alloc HB1v.out.size _)
    refine hK.out _ _ ((HB2v.out.cell (p := ⟨s, 0, none⟩) HS0.out).trans C0.out) (fun hHeld => ?_)
    clear hK K
    try dsimp only
    try simp only [Act.put, qz0, qz1, qz2, qz3, qz4, qz5]
    refine wpAnyH_ready (rs := [6]) (by kernel_rfl) (by simp) (AllReadyH.cons rfl (fun K hK => ?_) AllReadyH.nil)
    rw [if_pos (by rfl)]
    refine wp_append_ck (.tmp 34) (.tmp 39) rfl (s + 4) A2 m2 cap2 CL rfl (HOC.out.keep HB2v.out) ⟨v1.heap.size, 0, none⟩ 1 1 [ck] rfl rfl (ckAt_new v1 [ck] _ rfl _) HM2.out (Nat.le_trans HSW.out HB2v.out.size) (m2 + 1) rfl ?_
    intro A3 cap3 v3 ho3 hg3 hr3
    have HK3 : Hid (Kept (MineK A2) W v3) := Lib.hid ((Kept.of_below HB2v.out).trans ⟨hg3.os, hg3.tape, hg3.output, hg3.size, fun k hk hn => hg3.block k hk (fun e => hn e.symm)⟩)
    have HR3 : Hid (∀ k, MineK A3 k → MineK A2 k ∨ W.heap.size ≤ k) := Lib.hid (mine_next (A := A2) (w := v1.alloc (.cells #[.int .i64 (ck.rows : Int), .int .i64 (ck.pl : Int), .int .u64 (ck.oa : Int), .int .u64 (ck.ob : Int), .int .i64 ck.ta, .int .i64 ck.tz, .string ck.ka, .string ck.kz] 41)) (fun k hk => .inl hk) HB2v.out.size hr3)
    have HO3 := Lib.hid ho3
    clear ho3 hg3 hr3
    have C03 : v3.cell? ⟨s, 0, none⟩ = some (.slice A m cap) := (HK3.out.cell (p := ⟨s, 0, none⟩) HS0.out (HN2.out s (.inl rfl))).trans C0.out
    refine hK.out _ _ C03 (fun hHeld => ?_)
    clear hK K
    try dsimp only
    try simp only [Act.put, qz0, qz1, qz2, qz3, qz4, qz5]
    refine wpAnyH_ready (rs := [7]) (by kernel_rfl) (by simp) (AllReadyH.cons rfl (fun K hK => ?_) AllReadyH.nil)
    rw [if_pos (by rfl)]
    have R13 : v3.heap[s + 1]? = some (.cells [.slice A2 m2 cap2].toArray 38 (0, 0)) := HK3.out.heap HI.out.r1 (HN2.out (s + 1) (.inr rfl))
    refine wp_st_cksS (.tmp 8) (.tmp 40) rfl (s + 1) 0 rfl A3 (m2 + 1) cap3 rfl (u := .slice A2 m2 cap2) (by rw [cell_of_row _ _ _ _ _ _ R13]; rfl) (row_frozen R13 0) ?_
    have HK4 : Hid (Kept (fun k => k = s + 1 ∨ MineK A2 k) W (v3.setCell ⟨s + 1, 0, none⟩ (.slice A3 (m2 + 1) cap3))) := Lib.hid ((HK3.out.mono fun k h => .inl (.inr h)).setCell _ _ (.inl (.inl rfl)))
    have R14 : Hid ((v3.setCell ⟨s + 1, 0, none⟩ (.slice A3 (m2 + 1) cap3)).heap[s + 1]? = some (.cells #[.slice A3 (m2 + 1) cap3] 38 (0, 0))) := Lib.hid (row_set R13 0 _)
    have HO4 : Hid (OwnC (v3.setCell ⟨s + 1, 0, none⟩ (.slice A3 (m2 + 1) cap3)) (s + 4) A3 (m2 + 1) cap3 (CL ++ [ck])) := Lib.hid (HO3.out.keptW ((Kept.refl (fun k => k = s + 1) _).setCell _ _ (.inl rfl)) fun k hk e => by obtain ⟨_, _, _, _, h1⟩ := ownC_cells HO3.out hk; omega)
    generalize v3.setCell _ _ = v4 at *
    have HC4 : Hid (v4.cell? ⟨s, 0, none⟩ = some (.slice A m cap)) := Lib.hid ((HK4.out.cell (p := ⟨s, 0, none⟩) HS0.out (HN4.out s rfl)).trans C0.out)
    refine hK.out _ _ HC4.out (fun hHeld => ?_)
    clear hK K R13 C03 HK3 HO3
    refine wpAnyH_done (by kernel_rfl) ?_ _
    clear hHeld
    have c04 := HC4.out
    have HOP4 : Hid (OwnS v4 (s + 4) A m cap (wrS l pre).1) := Lib.hid (HI.out.op.keptW HK4.out fun k hk h => h.elim (fun e => by obtain ⟨_, _, _, _, h1⟩ := own_cells HI.out.op hk; omega) (fun e => by
     obtain ⟨cs, t, fr, h1, -⟩ := ownC_cells HI.out.oc e
     rcases HI.out.oc.2 with ⟨e0, e1⟩ | ⟨g', cap', cur, e0, hb', hg', -⟩
     ·injection e0 with e0 _ _; rw [e0] at e; cases e
     ·injection e0 with e0 _ _; rw [e0] at e; injection e with e; subst e; exact own_ne HI.out.op hg' (by decide) hk))
    have HB4 : Hid (Below s w1 v4) := Lib.hid (HI.out.below.trans (HK4.out.below (Nat.le_trans (Nat.le_add_right _ _) HI.out.size) fun k hk => by
     rcases hk with e | e
     ·omega
     ·obtain ⟨_, _, _, _, h1⟩ := ownC_cells HI.out.oc e; omega))
    have HLY4 : Hid (Calls Tryd.prog 12 #[.slice A m cap, .slice (some ⟨g, o1, none⟩) k1 k1] v4 (RetLK v4 (s + 4) A (m + 5 + (evY (pcs l x)).length + 4) ((wrS l pre).1 ++ pgE (pcs l x)))) := Lib.hid
     (evLayK_any (s + 4) A m cap (wrS l pre).1 (some ⟨g, o1, none⟩) k1 k1 (pcs l x) HPL (by have := HLF.out; omega) (by have := HM9.out; omega) HFP v4 HOP4 (Lib.hid (HEP.out v4 HB4.out)) (Lib.hid (HHG.out v4 HB4.out)) (Nat.le_trans HSW.out HK4.out.size) (by have := HGS.out; omega))
    have H04 : Hid (v4.heap[s]? = some (.cells [.slice A m cap].toArray 24 (0, 0))) := Lib.hid (HK4.out.heap HI.out.r0 (HN4.out s rfl))
    gi_wp2_with (first
     | (gi_at_call 12; refine (CallsIn.inRound lp (callsIn_wide.2 HLY4.out)).mono ?_; rintro e v5 ⟨A5, cap5, rfl, h1, h2, h3⟩; have HO5 := Lib.hid h1; have HK5 := Lib.hid h2; have HR5 := Lib.hid h3; have R05 : v5.heap[s]? = some (.cells [.slice A m cap].toArray 24 (0, 0)) := HK5.out.heap H04.out (fun e => by obtain ⟨_, _, _, _, h1⟩ := own_cells HOP4.out e; omega); have H05 := Lib.hid R05; have c05 : v5.cell? ⟨s, 0, none⟩ = some (.slice A m cap) := (by rw [cell_of_row _ _ _ _ _ _ R05]; rfl); have f05 : v5.frozen? ⟨s, 0, none⟩ = false := row_frozen R05 0; clear R05 h1 h2 h3)
     | (refine ⟨trivial, ?_⟩; gi_at_call 12; refine (CallsIn.inRound lp (callsIn_wide.2 HLY4.out)).mono ?_; rintro e v5 ⟨A5, cap5, rfl, h1, h2, h3⟩; have HO5 := Lib.hid h1; have HK5 := Lib.hid h2; have HR5 := Lib.hid h3; have R05 : v5.heap[s]? = some (.cells [.slice A m cap].toArray 24 (0, 0)) := HK5.out.heap H04.out (fun e => by obtain ⟨_, _, _, _, h1⟩ := own_cells HOP4.out e; omega); have H05 := Lib.hid R05; have c05 : v5.cell? ⟨s, 0, none⟩ = some (.slice A m cap) := (by rw [cell_of_row _ _ _ _ _ _ R05]; rfl); have f05 : v5.frozen? ⟨s, 0, none⟩ = false := row_frozen R05 0; clear R05 h1 h2 h3))
    rw [HCL.out] at HO4
    exact write_round HI HK4 R14 HO4 HC4 HOP4 HB4 HO5 HK5 HR5 HR3 H05 HEQ
   ·skip
    go_simp
    have HB2v : Hid (Below W.heap.size W (v1.alloc (.cells #[.int .i64 (ck.rows : Int), .int .i64 (ck.pl : Int), .int .u64 (ck.oa : Int), .int .u64 (ck.ob : Int), .int .i64 ck.ta, .int .i64 ck.tz, .string ck.ka, .string ck.kz] 41))) := Lib.hid (HB1v.out.alloc HB1v.out.size _)
    refine hK.out _ _ ((HB2v.out.cell (p := ⟨s, 0, none⟩) HS0.out).trans C0.out) (fun hHeld => ?_)
    clear hK K
    try dsimp only
    try simp only [Act.put, qz0, qz1, qz2, qz3, qz4, qz5]
    refine wpAnyH_ready (rs := [0]) (by kernel_rfl) (by simp) (AllReadyH.cons rfl (fun K hK => ?_) AllReadyH.nil)
    rw [if_pos (by rfl)]
    refine wp_ld_cksS (.tmp 8) rfl (s + 1) 0 rfl (.slice A2 m2 cap2) ((HB2v.out.cell (p := ⟨s + 1, 0, none⟩) HS1.out).trans C1.out) ?_
    refine hK.out _ _ ((HB2v.out.cell (p := ⟨s, 0, none⟩) HS0.out).trans C0.out) (fun hHeld => ?_)
    clear hK K
    try dsimp only
    try simp only [Act.put, qz0, qz1, qz2, qz3, qz4, qz5]
    refine wpAnyH_ready (rs := [6]) (by kernel_rfl) (by simp) (AllReadyH.cons rfl (fun K hK => ?_) AllReadyH.nil)
    rw [if_pos (by rfl)]
    refine wp_append_ck (.tmp 34) (.tmp 39) rfl (s + 4) A2 m2 cap2 CL rfl (HOC.out.keep HB2v.out) ⟨v1.heap.size, 0, none⟩ 1 1 [ck] rfl rfl (ckAt_new v1 [ck] _ rfl _) HM2.out (Nat.le_trans HSW.out HB2v.out.size) (m2 + 1) rfl ?_
    intro A3 cap3 v3 ho3 hg3 hr3
    have HK3 : Hid (Kept (MineK A2) W v3) := Lib.hid ((Kept.of_below HB2v.out).trans ⟨hg3.os, hg3.tape, hg3.output, hg3.size, fun k hk hn => hg3.block k hk (fun e => hn e.symm)⟩)
    have HR3 : Hid (∀ k, MineK A3 k → MineK A2 k ∨ W.heap.size ≤ k) := Lib.hid (mine_next (A := A2) (w := v1.alloc (.cells #[.int .i64 (ck.rows : Int), .int .i64 (ck.pl : Int), .int .u64 (ck.oa : Int), .int .u64 (ck.ob : Int), .int .i64 ck.ta, .int .i64 ck.tz, .string ck.ka, .string ck.kz] 41)) (fun k hk => .inl hk) HB2v.out.size hr3)
    have HO3 := Lib.hid ho3
    clear ho3 hg3 hr3
    have C03 : v3.cell? ⟨s, 0, none⟩ = some (.slice A m cap) := (HK3.out.cell (p := ⟨s, 0, none⟩) HS0.out (HN2.out s (.inl rfl))).trans C0.out
    refine hK.out _ _ C03 (fun hHeld => ?_)
    clear hK K
    try dsimp only
    try simp only [Act.put, qz0, qz1, qz2, qz3, qz4, qz5]
    refine wpAnyH_ready (rs := [7]) (by kernel_rfl) (by simp) (AllReadyH.cons rfl (fun K hK => ?_) AllReadyH.nil)
    rw [if_pos (by rfl)]
    have R13 : v3.heap[s + 1]? = some (.cells [.slice A2 m2 cap2].toArray 38 (0, 0)) := HK3.out.heap HI.out.r1 (HN2.out (s + 1) (.inr rfl))
    refine wp_st_cksS (.tmp 8) (.tmp 40) rfl (s + 1) 0 rfl A3 (m2 + 1) cap3 rfl (u := .slice A2 m2 cap2) (by rw [cell_of_row _ _ _ _ _ _ R13]; rfl) (row_frozen R13 0) ?_
    have HK4 : Hid (Kept (fun k => k = s + 1 ∨ MineK A2 k) W (v3.setCell ⟨s + 1, 0, none⟩ (.slice A3 (m2 + 1) cap3))) := Lib.hid ((HK3.out.mono fun k h => .inl (.inr h)).setCell _ _ (.inl (.inl rfl)))
    have R14 : Hid ((v3.setCell ⟨s + 1, 0, none⟩ (.slice A3 (m2 + 1) cap3)).heap[s + 1]? = some (.cells #[.slice A3 (m2 + 1) cap3] 38 (0, 0))) := Lib.hid (row_set R13 0 _)
    have HO4 : Hid (OwnC (v3.setCell ⟨s + 1, 0, none⟩ (.slice A3 (m2 + 1) cap3)) (s + 4) A3 (m2 + 1) cap3 (CL ++ [ck])) := Lib.hid (HO3.out.keptW ((Kept.refl (fun k => k = s + 1) _).setCell _ _ (.inl rfl)) fun k hk e => by obtain ⟨_, _, _, _, h1⟩ := ownC_cells HO3.out hk; omega)
    generalize v3.setCell _ _ = v4 at *
    have HC4 : Hid (v4.cell? ⟨s, 0, none⟩ = some (.slice A m cap)) := Lib.hid ((HK4.out.cell (p := ⟨s, 0, none⟩) HS0.out (HN4.out s rfl)).trans C0.out)
    refine hK.out _ _ HC4.out (fun hHeld => ?_)
    clear hK K R13 C03 HK3 HO3
    refine wpAnyH_done (by kernel_rfl) ?_ _
    clear hHeld
    have c04 := HC4.out
    have HOP4 : Hid (OwnS v4 (s + 4) A m cap (wrS l pre).1) := Lib.hid (HI.out.op.keptW HK4.out fun k hk h => h.elim (fun e => by obtain ⟨_, _, _, _, h1⟩ := own_cells HI.out.op hk; omega) (fun e => by
     obtain ⟨cs, t, fr, h1, -⟩ := ownC_cells HI.out.oc e
     rcases HI.out.oc.2 with ⟨e0, e1⟩ | ⟨g', cap', cur, e0, hb', hg', -⟩
     ·injection e0 with e0 _ _; rw [e0] at e; cases e
     ·injection e0 with e0 _ _; rw [e0] at e; injection e with e; subst e; exact own_ne HI.out.op hg' (by decide) hk))
    have HB4 : Hid (Below s w1 v4) := Lib.hid (HI.out.below.trans (HK4.out.below (Nat.le_trans (Nat.le_add_right _ _) HI.out.size) fun k hk => by
     rcases hk with e | e
     ·omega
     ·obtain ⟨_, _, _, _, h1⟩ := ownC_cells HI.out.oc e; omega))
    have HLY4 : Hid (Calls Tryd.prog 12 #[.slice A m cap, .slice (some ⟨g, o1, none⟩) k1 k1] v4 (RetLK v4 (s + 4) A (m + 5 + (evY (pcs l x)).length + 4) ((wrS l pre).1 ++ pgE (pcs l x)))) := Lib.hid
     (evLayK_any (s + 4) A m cap (wrS l pre).1 (some ⟨g, o1, none⟩) k1 k1 (pcs l x) HPL (by have := HLF.out; omega) (by have := HM9.out; omega) HFP v4 HOP4 (Lib.hid (HEP.out v4 HB4.out)) (Lib.hid (HHG.out v4 HB4.out)) (Nat.le_trans HSW.out HK4.out.size) (by have := HGS.out; omega))
    have H04 : Hid (v4.heap[s]? = some (.cells [.slice A m cap].toArray 24 (0, 0))) := Lib.hid (HK4.out.heap HI.out.r0 (HN4.out s rfl))
    gi_wp2_with (first
     | (gi_at_call 12; refine (CallsIn.inRound lp (callsIn_wide.2 HLY4.out)).mono ?_; rintro e v5 ⟨A5, cap5, rfl, h1, h2, h3⟩; have HO5 := Lib.hid h1; have HK5 := Lib.hid h2; have HR5 := Lib.hid h3; have R05 : v5.heap[s]? = some (.cells [.slice A m cap].toArray 24 (0, 0)) := HK5.out.heap H04.out (fun e => by obtain ⟨_, _, _, _, h1⟩ := own_cells HOP4.out e; omega); have H05 := Lib.hid R05; have c05 : v5.cell? ⟨s, 0, none⟩ = some (.slice A m cap) := (by rw [cell_of_row _ _ _ _ _ _ R05]; rfl); have f05 : v5.frozen? ⟨s, 0, none⟩ = false := row_frozen R05 0; clear R05 h1 h2 h3)
     | (refine ⟨trivial, ?_⟩; gi_at_call 12; refine (CallsIn.inRound lp (callsIn_wide.2 HLY4.out)).mono ?_; rintro e v5 ⟨A5, cap5, rfl, h1, h2, h3⟩; have HO5 := Lib.hid h1; have HK5 := Lib.hid h2; have HR5 := Lib.hid h3; have R05 : v5.heap[s]? = some (.cells [.slice A m cap].toArray 24 (0, 0)) := HK5.out.heap H04.out (fun e => by obtain ⟨_, _, _, _, h1⟩ := own_cells HOP4.out e; omega); have H05 := Lib.hid R05; have c05 : v5.cell? ⟨s, 0, none⟩ = some (.slice A m cap) := (by rw [cell_of_row _ _ _ _ _ _ R05]; rfl); have f05 : v5.frozen? ⟨s, 0, none⟩ = false := row_frozen R05 0; clear R05 h1 h2 h3))
    rw [HCL.out] at HO4
    exact write_round HI HK4 R14 HO4 HC4 HOP4 HB4 HO5 HK5 HR5 HR3 H05 HEQ
 case done =>
  rintro D xs W5 hD rfl ⟨A, m, cap, A2, m2, cap2, hwi⟩ hKD
  have HI := Lib.hid hwi
  have HD := Lib.hid hKD
  have hseg : (n + 63) / 64 = segN l := by unfold segN; rw [← hn.out]
  rw [hseg] at HI hwi
  have HLS := Lib.hid (wrS_len l (by have := hn.out; omega) hfin.out (chP (segN l)))
  have HSG : Hid (segN l ≤ 16) := Lib.hid (by rw [← hseg]; omega)
  have HOK : Hid (∀ x ∈ segCk l, CkOk x) := Lib.hid (wrS_ok l (by have := hn.out; omega) hfin.out _ (by rw [chP_len]; have := HSG.out; omega))
  have HM9 : Hid (m ≤ 9281 * 16 ∧ m2 ≤ 16) := Lib.hid (by
   have h1 := HLS.out
   rw [chP_len] at h1
   have h2 := hwi.op.len
   have h3 : m2 = (wrS l (chP (segN l))).2.length := by have h4 := hwi.oc.1; rw [cks_length] at h4; omega
   have := HSG.out
   omega)
  have HML : Hid (m = (segPg l).length) := Lib.hid hwi.op.len
  have HM2L : Hid (m2 = (segCk l).length) := Lib.hid (by have h4 := hwi.oc.1; rw [cks_length] at h4; show m2 = (wrS l (chP (segN l))).2.length; omega)
  have HOP : Hid (OwnS W5 (s + 4) A m cap (segPg l)) := Lib.hid hwi.op
  have HOC : Hid (OwnC W5 (s + 4) A2 m2 cap2 (segCk l)) := Lib.hid hwi.oc
  have HB5 := Lib.hid hwi.below
  have HSW : Hid (s + 4 ≤ W5.heap.size) := Lib.hid hwi.size
  have c0 : W5.cell? ⟨s, 0, none⟩ = some (.slice A m cap) := by rw [cell_of_row _ _ _ _ _ _ hwi.r0]; rfl
  have c1 : W5.cell? ⟨s + 1, 0, none⟩ = some (.slice A2 m2 cap2) := by rw [cell_of_row _ _ _ _ _ _ hwi.r1]; rfl
  have C0 := Lib.hid c0
  have C1 := Lib.hid c1
  have HR0 := Lib.hid hwi.r0
  have HDS : Hid (s + 4 ≤ D) := Lib.hid (by have := HS4.out; omega)
  clear hwi hKD hseg hD HI HW0
  have R05 : Hid (W5.heap[s]? = some (.cells [.slice A m cap].toArray 24 (0, 0))) := Lib.hid HR0.out
  have HS0 : Hid (s < W5.heap.size) := Lib.hid (by have := HSW.out; omega)
  have HS1 : Hid (s + 1 < W5.heap.size) := Lib.hid (by have := HSW.out; omega)
  have HFL : Hid ((footB p (segCk l)).length ≤ 3000) := Lib.hid (by
   have h1 := cksB_len HOK.out
   have h2 : (segCk l).length ≤ 16 := by have := HM2L.out; have := HM9.out; omega
   have h3 := nsB_len (ns := [p, (segCk l).length]) (fun x hx => by simp only [List.mem_cons, List.not_mem_nil, or_false] at hx; omega)
   have h4 : [p, (segCk l).length].length = 2 := rfl
   unfold footB
   rw [List.length_append]
   omega)
  have HLF : Hid (∀ w, Below W5.heap.size W5 w → Calls Tryd.prog 14 #[.int .i64 (p : Int), .slice A2 m2 cap2] w fun e w' => ∃ A6 m6 c6, e = .returned (.slice A6 m6 c6) ∧ OwnS w' w.heap.size A6 m6 c6 (footB p (segCk l)) ∧ Below w.heap.size w w') := Lib.hid fun w hb =>
   layFoot_any p hp A2 m2 cap2 (segCk l) HM2L (by have := HM9.out; omega) HOK w (Lib.hid (HOC.out.at'.keep hb))
  dsimp only
  go_upto_region 15 with fail
  clear c0 c1
  refine wp_region_held_drew (S := fun w => w.cell? ⟨s + 1, 0, none⟩ = some (.slice A2 m2 cap2)) (by kernel_rfl) C1.out (fun hHeld => ?_)
  have HBd : Hid (Below W5.heap.size W5 W5.drew) := Lib.hid (Below.refl _ _).drew
  refine wpAnyH_take (i := 1) (v := .int .i64 (p : Int)) rfl (by kernel_rfl) (by kernel_rfl) (by kernel_rfl) (fun _ _ _ h => h) (Or.inl ⟨by rfl, fun _ _ => rfl⟩) hHeld ?_
  try dsimp only
  try simp only [Act.put, qz0, qz1, qz2, qz3, qz4, qz5]
  refine wpAnyH_take (i := 2) (v := .slice A2 m2 cap2) rfl (by kernel_rfl) (by kernel_rfl) (by kernel_rfl) (fun _ _ _ h => h) (yl_cksS rfl (.tmp 8) rfl (s + 1) 0 rfl _ (fun w h => h)) hHeld ?_
  try dsimp only
  try simp only [Act.put, qz0, qz1, qz2, qz3, qz4, qz5]
  refine wpAnyH_ready (rs := [0, 3]) (by kernel_rfl) (by simp) (AllReadyH.cons rfl (fun K hK => ?_) (AllReadyH.cons rfl (fun K hK => ?_) AllReadyH.nil))
  ·skip
   rw [if_pos (by rfl)]
   refine wp_ld_bysS (.tmp 7) rfl s 0 rfl (.slice A m cap) ((HBd.out.cell (p := ⟨s, 0, none⟩) HS0.out).trans C0.out) ?_
   refine hK.out _ _ ((HBd.out.cell (p := ⟨s + 1, 0, none⟩) HS1.out).trans C1.out) (fun hHeld => ?_)
   clear hK K
   try dsimp only
   try simp only [Act.put, qz0, qz1, qz2, qz3, qz4, qz5]
   refine wpAnyH_ready (rs := [3]) (by kernel_rfl) (by simp) (AllReadyH.cons rfl (fun K hK => ?_) AllReadyH.nil)
   go_simp
   refine (HLF.out _ HBd.out).mono ?_
   rintro e v1 ⟨A6, m6, c6, rfl, ho6, hb6⟩
   have HB1v : Hid (Below W5.heap.size W5 v1) := Lib.hid (below_to HBd.out hb6)
   have HO6 := Lib.hid ho6
   have HM6 := Lib.hid ho6.len
   clear ho6 hb6
   refine hK.out _ _ ((HB1v.out.cell (p := ⟨s + 1, 0, none⟩) HS1.out).trans C1.out) (fun hHeld => ?_)
   clear hK K
   try dsimp only
   try simp only [Act.put, qz0, qz1, qz2, qz3, qz4, qz5]
   refine wpAnyH_ready (rs := [4]) (by kernel_rfl) (by simp) (AllReadyH.cons rfl (fun K hK => ?_) AllReadyH.nil)
   go_simp
   have hly := layK_any A m cap (segPg l) 102 A6 m6 c6 (footB p (segCk l)) (s + 4) v1 (Lib.hid (HOP.out.keep HB1v.out)) HM6 (by have := HM6.out; have := HFL.out; have := HM9.out; omega) (by decide) (Lib.hid HO6.out.byAt) (Lib.hid (HHG.out v1 (HB5.out.trans (HB1v.out.mono (by have := HSW.out; omega))))) (Nat.le_trans HSW.out HB1v.out.size) (by have := HGS.out; have := HSW1.out; omega)
   rw [show ((102 : Nat) : Int) = 102 from rfl] at hly
   refine hly.mono ?_
   rintro e v2 ⟨A7, cap7, rfl, ho7, hk7, hr7⟩
   clear hly
   have HO7 := Lib.hid ho7; have HK7 := Lib.hid hk7; clear ho7 hk7 hr7
   have HOV : Hid (OwnS v1 (s + 4) A m cap (segPg l)) := Lib.hid (HOP.out.keep HB1v.out)
   have HNA : Hid (∀ k, k < s + 4 → ¬ MineK A k) := Lib.hid fun k hk e => by obtain ⟨_, _, _, _, h1⟩ := own_cells HOV.out e; omega
   refine hK.out _ _ ((HK7.out.cell (p := ⟨s + 1, 0, none⟩) (Nat.lt_of_lt_of_le HS1.out HB1v.out.size) (HNA.out _ (by show s + 1 < s + 4; omega))).trans ((HB1v.out.cell (p := ⟨s + 1, 0, none⟩) HS1.out).trans C1.out)) (fun hHeld => ?_)
   clear hK K
   try dsimp only
   try simp only [Act.put, qz0, qz1, qz2, qz3, qz4, qz5]
   refine wpAnyH_ready (rs := [5]) (by kernel_rfl) (by simp) (AllReadyH.cons rfl (fun K hK => ?_) AllReadyH.nil)
   rw [if_pos (by rfl)]
   have R02 : v2.heap[s]? = some (.cells [.slice A m cap].toArray 24 (0, 0)) := HK7.out.heap ((HB1v.out.block s HS0.out).trans R05.out) (HNA.out s (by omega))
   refine wp_st_bysS (.tmp 7) (.tmp 50) rfl s 0 rfl A7 (m + 5 + m6 + 4) cap7 rfl (u := .slice A m cap) (by rw [cell_of_row _ _ _ _ _ _ R02]; rfl) (row_frozen R02 0) ?_
   have KS : Kept (fun k => k = s) v2 (v2.setCell ⟨s, 0, none⟩ (.slice A7 (m + 5 + m6 + 4) cap7)) := (Kept.refl _ _).setCell _ _ (.inl rfl)
   have H03 : Hid ((v2.setCell ⟨s, 0, none⟩ (.slice A7 (m + 5 + m6 + 4) cap7)).heap[s]? = some (.cells #[.slice A7 (m + 5 + m6 + 4) cap7] 24 (0, 0))) := Lib.hid (row_set R02 0 _)
   have HO3 : Hid (OwnS (v2.setCell ⟨s, 0, none⟩ (.slice A7 (m + 5 + m6 + 4) cap7)) (s + 4) A7 (m + 5 + m6 + 4) cap7 (segPg l ++ Pg.lay 102 (footB p (segCk l)))) := Lib.hid (HO7.out.keptW KS fun k hk e => by obtain ⟨_, _, _, _, h1⟩ := own_cells HO7.out hk; omega)
   have HD1 : v1.heap[D]? = some (.deferred (some [])) := (HB1v.out.block D (Array.getElem?_eq_some_iff.1 HD.out).1).trans HD.out
   have HD3 : Hid ((v2.setCell ⟨s, 0, none⟩ (.slice A7 (m + 5 + m6 + 4) cap7)).heap[D]? = some (.deferred (some []))) := Lib.hid (KS.heap (HK7.out.heap HD1 (fun e => by obtain ⟨_, _, _, h0, _⟩ := own_cells HOV.out e; rw [HD1] at h0; cases h0)) (fun e => by have e : D = s := e; have := HDS.out; omega))
   have HB3 : Hid (Below s w1 (v2.setCell ⟨s, 0, none⟩ (.slice A7 (m + 5 + m6 + 4) cap7))) := Lib.hid (((HB5.out.trans (HB1v.out.mono (by have := HSW.out; omega))).trans (HK7.out.below (B := s) (Nat.le_trans (by omega) (Nat.le_trans HSW.out HB1v.out.size)) (fun k hk => by obtain ⟨_, _, _, _, h1⟩ := own_cells HOV.out hk; omega))).setCell (Nat.le_refl _) _)
   have HS3 : Hid (s + 4 ≤ (v2.setCell ⟨s, 0, none⟩ (.slice A7 (m + 5 + m6 + 4) cap7)).heap.size) := Lib.hid (by rw [setCell_size]; exact Nat.le_trans HSW.out (Nat.le_trans HB1v.out.size HK7.out.size))
   have C13 : (v2.setCell ⟨s, 0, none⟩ (.slice A7 (m + 5 + m6 + 4) cap7)).cell? ⟨s + 1, 0, none⟩ = some (.slice A2 m2 cap2) := (KS.cell (p := ⟨s + 1, 0, none⟩) (by show s + 1 < v2.heap.size; have := HSW.out; have := HB1v.out.size; have := HK7.out.size; omega) (by show ¬ (s + 1 = s); omega)).trans ((HK7.out.cell (p := ⟨s + 1, 0, none⟩) (Nat.lt_of_lt_of_le HS1.out HB1v.out.size) (HNA.out _ (by show s + 1 < s + 4; omega))).trans ((HB1v.out.cell (p := ⟨s + 1, 0, none⟩) HS1.out).trans C1.out))
   clear KS R02 HD1
   have HN7 : Hid (m6 ≤ 3000) := Lib.hid (by have := HM6.out; have := HFL.out; omega)
   generalize v2.setCell _ _ = v3 at *
   refine hK.out _ _ C13 (fun hHeld => ?_)
   clear hK K C13
   refine wpAnyH_done (by kernel_rfl) ?_ _
   clear hHeld HK7 HO7 HOV HNA HB1v HO6
   generalize hN7 : m + 5 + m6 + 4 = N7 at *
   have HL7 : Hid (N7 = m + 5 + m6 + 4) := Lib.hid hN7.symm
   clear hN7
   go_upto_region 16 with fail
   have c03 : v3.cell? ⟨s, 0, none⟩ = some (.slice A7 N7 cap7) := by rw [cell_of_row _ _ _ _ _ _ H03.out]; rfl
   refine wp_region_held_drew (S := fun w => w.cell? ⟨s, 0, none⟩ = some (.slice A7 N7 cap7)) (by kernel_rfl) c03 (fun hHeld => ?_)
   refine wpAnyH_take (i := 0) (v := .slice A7 N7 cap7) rfl (by kernel_rfl) (by kernel_rfl) (by kernel_rfl) (fun _ _ _ h => h) (yl_bysS rfl (.tmp 7) rfl s 0 rfl _ (fun w h => h)) hHeld ?_
   try dsimp only
   try simp only [Act.put, qz0, qz1, qz2, qz3, qz4, qz5]
   refine wpAnyH_take (i := 1) (v := .int .i64 (m : Int)) rfl (by kernel_rfl) (by kernel_rfl) (by kernel_rfl) (fun _ _ _ h => h) (Or.inl ⟨by rfl, fun _ _ => rfl⟩) hHeld ?_
   try dsimp only
   try simp only [Act.put, qz0, qz1, qz2, qz3, qz4, qz5]
   refine wpAnyH_ready (rs := [2]) (by kernel_rfl) (by simp) (AllReadyH.cons rfl (fun K hK => ?_) AllReadyH.nil)
   go_simp
   refine (layPlace_any m (by have := HM9.out; omega) _).mono ?_
   rintro e v4 ⟨rfl, rfl⟩
   have HB4 : Hid (Below v3.heap.size v3 (v3.drew.alloc (.cells (fourC m) 5))) := Lib.hid ((Below.refl _ _).drew.alloc (Nat.le_refl _) _)
   have HY4 := Lib.hid (by_four v3.drew m)
   have cS4 : (v3.drew.alloc (.cells (fourC m) 5)).cell? ⟨s, 0, none⟩ = some (.slice A7 N7 cap7) := (HB4.out.cell (p := ⟨s, 0, none⟩) (by show s < v3.heap.size; have := HS3.out; omega)).trans c03
   generalize hsz3 : v3.drew.heap.size = z3 at *
   generalize v3.drew.alloc (.cells (fourC m) 5) = v4 at *
   refine hK.out _ _ cS4 (fun hHeld => ?_)
   clear hK K
   try dsimp only
   try simp only [Act.put, qz0, qz1, qz2, qz3, qz4, qz5]
   refine wpAnyH_ready (rs := [3]) (by kernel_rfl) (by simp) (AllReadyH.cons rfl (fun K hK => ?_) AllReadyH.nil)
   go_simp
   have hly := layK_any A7 N7 cap7 (segPg l ++ Pg.lay 102 (footB p (segCk l))) 116 (some ⟨z3, 0, none⟩) 4 4 (Pg.four m) (s + 4) v4 (Lib.hid (HO3.out.keep HB4.out)) (Lib.hid rfl) (by have := HL7.out; have := HN7.out; have := HM9.out; omega) (by decide) HY4 (Lib.hid (HHG.out v4 (HB3.out.trans (HB4.out.mono (by have := HS3.out; omega))))) (Nat.le_trans HS3.out HB4.out.size) (by have := HGS.out; have := HSW1.out; omega)
   rw [show ((116 : Nat) : Int) = 116 from rfl] at hly
   refine hly.mono ?_
   rintro e v5 ⟨A9, cap9, rfl, ho9, hk9, hr9⟩
   clear hly
   have HO9 := Lib.hid ho9; have HK9 := Lib.hid hk9; clear ho9 hk9 hr9
   have HOV4 : Hid (OwnS v4 (s + 4) A7 N7 cap7 (segPg l ++ Pg.lay 102 (footB p (segCk l)))) := Lib.hid (HO3.out.keep HB4.out)
   refine hK.out _ _ ((HK9.out.cell (p := ⟨s, 0, none⟩) (by show s < v4.heap.size; have := HS3.out; have := HB4.out.size; omega) (fun e => by obtain ⟨_, _, _, _, h1⟩ := own_cells HOV4.out e; have h1 : s + 4 ≤ s := h1; omega)).trans cS4) (fun hHeld => ?_)
   clear hK K
   try dsimp only
   try simp only [Act.put, qz0, qz1, qz2, qz3, qz4, qz5]
   refine wpAnyH_take (i := 4) (v := .slice A9 (N7 + 5 + 4 + 4) cap9) rfl (by kernel_rfl) (by kernel_rfl) (by kernel_rfl) (fun _ _ _ h => h) (Or.inl ⟨by rfl, fun _ _ => rfl⟩) hHeld ?_
   try dsimp only
   try simp only [Act.put, qz0, qz1, qz2, qz3, qz4, qz5]
   refine wpAnyH_take (i := 5) (v := .int .i64 0) rfl (by kernel_rfl) (by kernel_rfl) (by kernel_rfl) (fun _ _ _ h => h) (Or.inl ⟨by rfl, fun _ _ => rfl⟩) hHeld ?_
   try dsimp only
   try simp only [Act.put, qz0, qz1, qz2, qz3, qz4, qz5]
   refine wpAnyH_done (by kernel_rfl) ?_ _
   clear hHeld cS4 c03
   go_wp2_with fail
   have HD4 : v4.heap[D]? = some (.deferred (some [])) := (HB4.out.block D (Array.getElem?_eq_some_iff.1 HD3.out).1).trans HD3.out
   have HD9 : v5.heap[D]? = some (.deferred (some [])) := HK9.out.heap HD4 (fun e => by obtain ⟨_, _, _, h0, _⟩ := own_cells HOV4.out e; rw [HD4] at h0; cases h0)
   try dsimp only [noPanic, bodyPostM]
   refine ⟨by simp, .inl ⟨_, _, rfl, run_takeDeferred HD9, ?_⟩⟩
   refine ⟨_, results_tmp2S rfl _ _ _, A9, _, cap9, rfl, ?_, ?_⟩
   ·have h := HO9.out
    rw [HML.out] at h
    exact (h.keptW (S := fun k => k = D) (kept_putObj v5 D _) (fun k hk e => by obtain ⟨_, _, _, h0, _⟩ := own_cells HO9.out hk; subst e; rw [HD9] at h0; cases h0)).more (by have := HSW1.out; omega)
   ·have hb9 : Below W.heap.size W v5 := HB1.out.trans ((((HB3.out.trans (HB4.out.mono (by have := HS3.out; omega))).trans (HK9.out.below (B := s) (by have := HS3.out; have := HB4.out.size; omega) (fun k hk => by obtain ⟨_, _, _, _, h1⟩ := own_cells HOV4.out hk; omega)))).mono HSW1.out)
    exact hb9.trans ((kept_putObj v5 D _).below (B := W.heap.size) hb9.size (fun k hk => by have hk : k = D := hk; have := HDS.out; have := HSW1.out; omega))
  ·skip
   go_simp
   refine (HLF.out _ HBd.out).mono ?_
   rintro e v1 ⟨A6, m6, c6, rfl, ho6, hb6⟩
   have HB1v : Hid (Below W5.heap.size W5 v1) := Lib.hid (below_to HBd.out hb6)
   have HO6 := Lib.hid ho6
   have HM6 := Lib.hid ho6.len
   clear ho6 hb6
   refine hK.out _ _ ((HB1v.out.cell (p := ⟨s + 1, 0, none⟩) HS1.out).trans C1.out) (fun hHeld => ?_)
   clear hK K
   try dsimp only
   try simp only [Act.put, qz0, qz1, qz2, qz3, qz4, qz5]
   refine wpAnyH_ready (rs := [0]) (by kernel_rfl) (by simp) (AllReadyH.cons rfl (fun K hK => ?_) AllReadyH.nil)
   rw [if_pos (by rfl)]
   refine wp_ld_bysS (.tmp 7) rfl s 0 rfl (.slice A m cap) ((HB1v.out.cell (p := ⟨s, 0, none⟩) HS0.out).trans C0.out) ?_
   refine hK.out _ _ ((HB1v.out.cell (p := ⟨s + 1, 0, none⟩) HS1.out).trans C1.out) (fun hHeld => ?_)
   clear hK K
   try dsimp only
   try simp only [Act.put, qz0, qz1, qz2, qz3, qz4, qz5]
   refine wpAnyH_ready (rs := [4]) (by kernel_rfl) (by simp) (AllReadyH.cons rfl (fun K hK => ?_) AllReadyH.nil)
   go_simp
   have hly := layK_any A m cap (segPg l) 102 A6 m6 c6 (footB p (segCk l)) (s + 4) v1 (Lib.hid (HOP.out.keep HB1v.out)) HM6 (by have := HM6.out; have := HFL.out; have := HM9.out; omega) (by decide) (Lib.hid HO6.out.byAt) (Lib.hid (HHG.out v1 (HB5.out.trans (HB1v.out.mono (by have := HSW.out; omega))))) (Nat.le_trans HSW.out HB1v.out.size) (by have := HGS.out; have := HSW1.out; omega)
   rw [show ((102 : Nat) : Int) = 102 from rfl] at hly
   refine hly.mono ?_
   rintro e v2 ⟨A7, cap7, rfl, ho7, hk7, hr7⟩
   clear hly
   have HO7 := Lib.hid ho7; have HK7 := Lib.hid hk7; clear ho7 hk7 hr7
   have HOV : Hid (OwnS v1 (s + 4) A m cap (segPg l)) := Lib.hid (HOP.out.keep HB1v.out)
   have HNA : Hid (∀ k, k < s + 4 → ¬ MineK A k) := Lib.hid fun k hk e => by obtain ⟨_, _, _, _, h1⟩ := own_cells HOV.out e; omega
   refine hK.out _ _ ((HK7.out.cell (p := ⟨s + 1, 0, none⟩) (Nat.lt_of_lt_of_le HS1.out HB1v.out.size) (HNA.out _ (by show s + 1 < s + 4; omega))).trans ((HB1v.out.cell (p := ⟨s + 1, 0, none⟩) HS1.out).trans C1.out)) (fun hHeld => ?_)
   clear hK K
   try dsimp only
   try simp only [Act.put, qz0, qz1, qz2, qz3, qz4, qz5]
   refine wpAnyH_ready (rs := [5]) (by kernel_rfl) (by simp) (AllReadyH.cons rfl (fun K hK => ?_) AllReadyH.nil)
   rw [if_pos (by rfl)]
   have R02 : v2.heap[s]? = some (.cells [.slice A m cap].toArray 24 (0, 0)) := HK7.out.heap ((HB1v.out.block s HS0.out).trans R05.out) (HNA.out s (by omega))
   refine wp_st_bysS (.tmp 7) (.tmp 50) rfl s 0 rfl A7 (m + 5 + m6 + 4) cap7 rfl (u := .slice A m cap) (by rw [cell_of_row _ _ _ _ _ _ R02]; rfl) (row_frozen R02 0) ?_
   have KS : Kept (fun k => k = s) v2 (v2.setCell ⟨s, 0, none⟩ (.slice A7 (m + 5 + m6 + 4) cap7)) := (Kept.refl _ _).setCell _ _ (.inl rfl)
   have H03 : Hid ((v2.setCell ⟨s, 0, none⟩ (.slice A7 (m + 5 + m6 + 4) cap7)).heap[s]? = some (.cells #[.slice A7 (m + 5 + m6 + 4) cap7] 24 (0, 0))) := Lib.hid (row_set R02 0 _)
   have HO3 : Hid (OwnS (v2.setCell ⟨s, 0, none⟩ (.slice A7 (m + 5 + m6 + 4) cap7)) (s + 4) A7 (m + 5 + m6 + 4) cap7 (segPg l ++ Pg.lay 102 (footB p (segCk l)))) := Lib.hid (HO7.out.keptW KS fun k hk e => by obtain ⟨_, _, _, _, h1⟩ := own_cells HO7.out hk; omega)
   have HD1 : v1.heap[D]? = some (.deferred (some [])) := (HB1v.out.block D (Array.getElem?_eq_some_iff.1 HD.out).1).trans HD.out
   have HD3 : Hid ((v2.setCell ⟨s, 0, none⟩ (.slice A7 (m + 5 + m6 + 4) cap7)).heap[D]? = some (.deferred (some []))) := Lib.hid (KS.heap (HK7.out.heap HD1 (fun e => by obtain ⟨_, _, _, h0, _⟩ := own_cells HOV.out e; rw [HD1] at h0; cases h0)) (fun e => by have e : D = s := e; have := HDS.out; omega))
   have HB3 : Hid (Below s w1 (v2.setCell ⟨s, 0, none⟩ (.slice A7 (m + 5 + m6 + 4) cap7))) := Lib.hid (((HB5.out.trans (HB1v.out.mono (by have := HSW.out; omega))).trans (HK7.out.below (B := s) (Nat.le_trans (by omega) (Nat.le_trans HSW.out HB1v.out.size)) (fun k hk => by obtain ⟨_, _, _, _, h1⟩ := own_cells HOV.out hk; omega))).setCell (Nat.le_refl _) _)
   have HS3 : Hid (s + 4 ≤ (v2.setCell ⟨s, 0, none⟩ (.slice A7 (m + 5 + m6 + 4) cap7)).heap.size) := Lib.hid (by rw [setCell_size]; exact Nat.le_trans HSW.out (Nat.le_trans HB1v.out.size HK7.out.size))
   have C13 : (v2.setCell ⟨s, 0, none⟩ (.slice A7 (m + 5 + m6 + 4) cap7)).cell? ⟨s + 1, 0, none⟩ = some (.slice A2 m2 cap2) := (KS.cell (p := ⟨s + 1, 0, none⟩) (by show s + 1 < v2.heap.size; have := HSW.out; have := HB1v.out.size; have := HK7.out.size; omega) (by show ¬ (s + 1 = s); omega)).trans ((HK7.out.cell (p := ⟨s + 1, 0, none⟩) (Nat.lt_of_lt_of_le HS1.out HB1v.out.size) (HNA.out _ (by show s + 1 < s + 4; omega))).trans ((HB1v.out.cell (p := ⟨s + 1, 0, none⟩) HS1.out).trans C1.out))
   clear KS R02 HD1
   have HN7 : Hid (m6 ≤ 3000) := Lib.hid (by have := HM6.out; have := HFL.out; omega)
   generalize v2.setCell _ _ = v3 at *
   refine hK.out _ _ C13 (fun hHeld => ?_)
   clear hK K C13
   refine wpAnyH_done (by kernel_rfl) ?_ _
   clear hHeld HK7 HO7 HOV HNA HB1v HO6
   generalize hN7 : m + 5 + m6 + 4 = N7 at *
   have HL7 : Hid (N7 = m + 5 + m6 + 4) := Lib.hid hN7.symm
   clear hN7
   go_upto_region 16 with fail
   have c03 : v3.cell? ⟨s, 0, none⟩ = some (.slice A7 N7 cap7) := by rw [cell_of_row _ _ _ _ _ _ H03.out]; rfl
   refine wp_region_held_drew (S := fun w => w.cell? ⟨s, 0, none⟩ = some (.slice A7 N7 cap7)) (by kernel_rfl) c03 (fun hHeld => ?_)
   refine wpAnyH_take (i := 0) (v := .slice A7 N7 cap7) rfl (by kernel_rfl) (by kernel_rfl) (by kernel_rfl) (fun _ _ _ h => h) (yl_bysS rfl (.tmp 7) rfl s 0 rfl _ (fun w h => h)) hHeld ?_
   try dsimp only
   try simp only [Act.put, qz0, qz1, qz2, qz3, qz4, qz5]
   refine wpAnyH_take (i := 1) (v := .int .i64 (m : Int)) rfl (by kernel_rfl) (by kernel_rfl) (by kernel_rfl) (fun _ _ _ h => h) (Or.inl ⟨by rfl, fun _ _ => rfl⟩) hHeld ?_
   try dsimp only
   try simp only [Act.put, qz0, qz1, qz2, qz3, qz4, qz5]
   refine wpAnyH_ready (rs := [2]) (by kernel_rfl) (by simp) (AllReadyH.cons rfl (fun K hK => ?_) AllReadyH.nil)
   go_simp
   refine (layPlace_any m (by have := HM9.out; omega) _).mono ?_
   rintro e v4 ⟨rfl, rfl⟩
   have HB4 : Hid (Below v3.heap.size v3 (v3.drew.alloc (.cells (fourC m) 5))) := Lib.hid ((Below.refl _ _).drew.alloc (Nat.le_refl _) _)
   have HY4 := Lib.hid (by_four v3.drew m)
   have cS4 : (v3.drew.alloc (.cells (fourC m) 5)).cell? ⟨s, 0, none⟩ = some (.slice A7 N7 cap7) := (HB4.out.cell (p := ⟨s, 0, none⟩) (by show s < v3.heap.size; have := HS3.out; omega)).trans c03
   generalize hsz3 : v3.drew.heap.size = z3 at *
   generalize v3.drew.alloc (.cells (fourC m) 5) = v4 at *
   refine hK.out _ _ cS4 (fun hHeld => ?_)
   clear hK K
   try dsimp only
   try simp only [Act.put, qz0, qz1, qz2, qz3, qz4, qz5]
   refine wpAnyH_ready (rs := [3]) (by kernel_rfl) (by simp) (AllReadyH.cons rfl (fun K hK => ?_) AllReadyH.nil)
   go_simp
   have hly := layK_any A7 N7 cap7 (segPg l ++ Pg.lay 102 (footB p (segCk l))) 116 (some ⟨z3, 0, none⟩) 4 4 (Pg.four m) (s + 4) v4 (Lib.hid (HO3.out.keep HB4.out)) (Lib.hid rfl) (by have := HL7.out; have := HN7.out; have := HM9.out; omega) (by decide) HY4 (Lib.hid (HHG.out v4 (HB3.out.trans (HB4.out.mono (by have := HS3.out; omega))))) (Nat.le_trans HS3.out HB4.out.size) (by have := HGS.out; have := HSW1.out; omega)
   rw [show ((116 : Nat) : Int) = 116 from rfl] at hly
   refine hly.mono ?_
   rintro e v5 ⟨A9, cap9, rfl, ho9, hk9, hr9⟩
   clear hly
   have HO9 := Lib.hid ho9; have HK9 := Lib.hid hk9; clear ho9 hk9 hr9
   have HOV4 : Hid (OwnS v4 (s + 4) A7 N7 cap7 (segPg l ++ Pg.lay 102 (footB p (segCk l)))) := Lib.hid (HO3.out.keep HB4.out)
   refine hK.out _ _ ((HK9.out.cell (p := ⟨s, 0, none⟩) (by show s < v4.heap.size; have := HS3.out; have := HB4.out.size; omega) (fun e => by obtain ⟨_, _, _, _, h1⟩ := own_cells HOV4.out e; have h1 : s + 4 ≤ s := h1; omega)).trans cS4) (fun hHeld => ?_)
   clear hK K
   try dsimp only
   try simp only [Act.put, qz0, qz1, qz2, qz3, qz4, qz5]
   refine wpAnyH_take (i := 4) (v := .slice A9 (N7 + 5 + 4 + 4) cap9) rfl (by kernel_rfl) (by kernel_rfl) (by kernel_rfl) (fun _ _ _ h => h) (Or.inl ⟨by rfl, fun _ _ => rfl⟩) hHeld ?_
   try dsimp only
   try simp only [Act.put, qz0, qz1, qz2, qz3, qz4, qz5]
   refine wpAnyH_take (i := 5) (v := .int .i64 0) rfl (by kernel_rfl) (by kernel_rfl) (by kernel_rfl) (fun _ _ _ h => h) (Or.inl ⟨by rfl, fun _ _ => rfl⟩) hHeld ?_
   try dsimp only
   try simp only [Act.put, qz0, qz1, qz2, qz3, qz4, qz5]
   refine wpAnyH_done (by kernel_rfl) ?_ _
   clear hHeld cS4 c03
   go_wp2_with fail
   have HD4 : v4.heap[D]? = some (.deferred (some [])) := (HB4.out.block D (Array.getElem?_eq_some_iff.1 HD3.out).1).trans HD3.out
   have HD9 : v5.heap[D]? = some (.deferred (some [])) := HK9.out.heap HD4 (fun e => by obtain ⟨_, _, _, h0, _⟩ := own_cells HOV4.out e; rw [HD4] at h0; cases h0)
   try dsimp only [noPanic, bodyPostM]
   refine ⟨by simp, .inl ⟨_, _, rfl, run_takeDeferred HD9, ?_⟩⟩
   refine ⟨_, results_tmp2S rfl _ _ _, A9, _, cap9, rfl, ?_, ?_⟩
   ·have h := HO9.out
    rw [HML.out] at h
    exact (h.keptW (S := fun k => k = D) (kept_putObj v5 D _) (fun k hk e => by obtain ⟨_, _, _, h0, _⟩ := own_cells HO9.out hk; subst e; rw [HD9] at h0; cases h0)).more (by have := HSW1.out; omega)
   ·have hb9 : Below W.heap.size W v5 := HB1.out.trans ((((HB3.out.trans (HB4.out.mono (by have := HS3.out; omega))).trans (HK9.out.below (B := s) (by have := HS3.out; have := HB4.out.size; omega) (fun k hk => by obtain ⟨_, _, _, _, h1⟩ := own_cells HOV4.out hk; omega)))).mono HSW1.out)
    exact hb9.trans ((kept_putObj v5 D _).below (B := W.heap.size) hb9.size (fun k hk => by have hk : k = D := hk; have := HDS.out; have := HSW1.out; omega))
end Go.Proofs.YtifabkbdiiolfaaDoor
