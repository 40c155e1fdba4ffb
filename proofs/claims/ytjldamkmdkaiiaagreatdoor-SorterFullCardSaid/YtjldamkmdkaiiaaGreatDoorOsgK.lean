/-
  Layer sorter: lay: a file of a run, where the power may go off, or there may be no room.
-/
import Derived.RangeFuncFrom
import Derived.OrdersIn
import Derived.Sort.CutIn
import Derived.Test.YtjldamkmdkaiiaaGreatDoorOsfK
import Derived.Test.YtjldamkmdkaiiaaGreatDoorOcK
import Derived.Test.YtjldamkmdkaiiaaGreatDoorTkK
set_option linter.unusedSimpArgs false
set_option linter.unusedVariables false
set_option maxRecDepth 8000
namespace Go.Proofs.YtjldamkmdkaiiaaGreatDoor
open Go.RowKit Go.Shelf Go.WideShapes Col
attribute [local go_sem] Oper.semAt_some
def noPanicO (Q : Exit → Act → World → Prop) : Exit → Act → World → Prop
 | .panic _, _, _ => False
 | e, a, w => Q e a w
theorem noPanicO_imp (Q : Exit → Act → World → Prop) : ∀ e a w, noPanicO Q e a w → Q e a w := fun e a w h => by cases e <;> first | exact h | exact h.elim
theorem lv_stpO (w : World) (g j : Nat) (v : Value) (h : w.cell? ⟨g, j, none⟩ = some v) : (loadVar 27 ⟨g, j, none⟩).run Tryz.prog w = .ok v w := by go_simp
theorem lv_bysO (w : World) (g j : Nat) (v : Value) (h : w.cell? ⟨g, j, none⟩ = some v) : (loadVar 32 ⟨g, j, none⟩).run Tryz.prog w = .ok v w := by go_simp
theorem ylO {T : TypeId} (hlv : ∀ (w : World) (g j : Nat) (v : Value), w.cell? ⟨g, j, none⟩ = some v → (loadVar T ⟨g, j, none⟩).run Tryz.prog w = .ok v w) {ops : Array Oper} {S : World → Prop} {op : Oper} {a : Act} (hw : Region.wanted op (yielded ops a.tmps) = true) (x : Operand) (ho : op.op = .load T x) (g j : Nat) (hx : a.eval x = .pointer (some ⟨g, j, none⟩)) (v : Value)
  (hc : ∀ w, S w → w.cell? ⟨g, j, none⟩ = some v) : YieldsIf Tryz.prog ops S op v a :=
 .inl ⟨hw, fun w hw' => by
  unfold execOp
  simp only [ho, hx, Instr.loadAt, Instr.sureAddr, Sem.run_bind, Sem.run_pure, Result.andThen_ok, hlv w g j v (hc w hw')]⟩
theorem KF.putD {v w : World} (h : KF v w) (D : Nat) (o : Obj) (hD : v.heap.size ≤ D) : KF v (w.putObj D o) := ⟨by simpa [World.putObj] using h.size, fun k o' hk hn => by
 have hlt := (Array.getElem?_eq_some_iff.1 hk).1
 rw [World.putObj_heap_other (by omega)]; exact h.kept k o' hk hn⟩
theorem SA.putD {W : Bs} {g : Nat} {room armed ops : Int} {off : Bool} {xs : List Fil} {w : World} (h : SA W g room off armed ops xs w) (D : Nat) (o : Obj) {q : Option (List Deferred)} (hD : w.heap[D]? = some (.deferred q)) (hb : W.b.heap.size ≤ D) (hv : W.v.heap.size ≤ D) : SA W g room off armed ops xs (w.putObj D o) := by
 have ne : ∀ k cs t fr, w.heap[k]? = some (.cells cs t fr) → D ≠ k := fun k cs t fr hk e => by subst e; rw [hD] at hk; cases hk
 have hB : W.grownBy w (some g) → W.grownBy (w.putObj D o) (some g) := fun h => ⟨⟨h.gb.os, h.gb.tape, h.gb.output, by simpa [World.putObj] using h.gb.size, fun k hk hn => by
  rw [World.putObj_heap_other (by omega)]; exact h.gb.block k hk hn⟩, h.kf.putD D o hv⟩
 have row : ∀ (k : Nat) (cs : Array Value) (t : TypeId) (fr : Nat × Nat), w.heap[k]? = some (Obj.cells cs t fr) → (w.putObj D o).heap[k]? = some (Obj.cells cs t fr) := fun k cs t fr hk => by
  rw [World.putObj_heap_other (ne k cs t fr hk).symm]; exact hk
 rcases h with ⟨e, h⟩ | ⟨f, fcap, r, h⟩
 ·exact .inl ⟨e, hB h.below, row _ _ _ _ h.st⟩
 ·refine .inr ⟨f, fcap, r, hB h.below, h.fbase, h.ne, row _ _ _ _ h.st, row _ _ _ _ h.fl, h.fc, fun k x hx => ?_, h.sg, h.sf, h.ap⟩
  have ho := h.own k x hx
  refine ⟨⟨ho.1.1, ?_⟩, ho.2⟩
  rcases ho.1.2 with h1 | ⟨a, cap', cur, h1, hb', hrow, hrest⟩
  ·exact .inl h1
  ·exact .inr ⟨a, cap', cur, h1, hb', row _ _ _ _ hrow, hrest⟩
theorem SA.setB {W : Bs} {g : Nat} {room armed ops : Int} {off : Bool} {xs : List Fil} {w : World} (h : SA W g room off armed ops xs w) (b i : Nat) (v : Value) {cs : Array Value} {t : TypeId} {fr : Nat × Nat} (hrow : w.heap[b]? = some (.cells cs t fr)) (ht : ¬ StT t) (hb : W.b.heap.size ≤ b) : SA ⟨W.b, w.setCell ⟨b, i, none⟩ v⟩ g room off armed ops xs (w.setCell ⟨b, i, none⟩ v) := by
 have ne : ∀ (k : Nat) (cs' : Array Value) (t' : TypeId) (fr' : Nat × Nat), w.heap[k]? = some (Obj.cells cs' t' fr') → StT t' → b ≠ k := fun k cs' t' fr' hk h' e => by
  subst e; rw [hrow] at hk; injection hk with hk; injection hk with _ e2 _; subst e2; exact ht h'
 have hB : W.grownBy w (some g) → Bs.grownBy ⟨W.b, w.setCell ⟨b, i, none⟩ v⟩ (w.setCell ⟨b, i, none⟩ v) (some g) := fun h => ⟨⟨h.gb.os, h.gb.tape, h.gb.output, by simpa [World.setCell] using h.gb.size, fun k hk hn => by
  have hk' : k < W.b.heap.size := hk
  have hne : b ≠ k := by omega
  rw [← h.gb.block k hk' hn]
  simp [World.setCell, Array.getElem?_modify, hne]⟩, KF.refl _⟩
 rcases h with ⟨e, h⟩ | ⟨f, fcap, r, h⟩
 ·exact .inl ⟨e, hB h.below, row_far (ne _ _ _ _ h.st (.inl rfl)) h.st⟩
 ·refine .inr ⟨f, fcap, r, hB h.below, h.fbase, h.ne, row_far (ne _ _ _ _ h.st (.inl rfl)) h.st, row_far (ne _ _ _ _ h.fl (.inr (.inl rfl))) h.fl, h.fc, fun k x hx => own_far (h.own k x hx) fun e => ?_, h.sg, h.sf, h.ap⟩
  obtain ⟨cs', t', fr', h1, h2⟩ := isT_own (h.own k x hx) b e
  exact ne b cs' t' fr' h1 h2 rfl
structure LW (w : World) (s gl ol n c : Nat) (W4 : World) : Prop where
 r0 : W4.heap[s]? = some (.cells #[.slice none 0 0] 32 (0, 0))
 c1 : W4.cell? ⟨s + 1, 0, none⟩ = some (.slice (some ⟨gl, ol, none⟩) n c)
 c2 : W4.cell? ⟨s + 2, 0, none⟩ = some (.int .i64 4096)
 size : W4.heap.size = s + 3
 below : Below s w W4
theorem lw_new (w : World) (gl ol n c : Nat) : LW w w.heap.size gl ol n c (((w.alloc (.cells #[.slice none 0 0] 32)).alloc (.cells #[.slice (some ⟨gl, ol, none⟩) n c] 22)).alloc (.cells #[.int .i64 4096] 3)) := by
 have e0 : ∀ (w : World) (o : Obj), (w.alloc o).heap = w.heap.push o := fun _ _ => rfl
 refine ⟨?_, ?_, ?_, ?_, ?_⟩
 ·simp only [e0, Array.getElem?_push, Array.size_push]; rw [if_neg (by omega), if_neg (by omega)]; simp
 ·rw [cell_of_row (fr := (0, 0)) (t := 22) (cs := #[.slice (some ⟨gl, ol, none⟩) n c]) (hg := by simp only [e0, Array.getElem?_push, Array.size_push]; rw [if_neg (by omega)]; simp)]; rfl
 ·rw [cell_of_row (fr := (0, 0)) (t := 3) (cs := #[.int .i64 4096]) (hg := by simp only [e0, Array.getElem?_push, Array.size_push]; simp)]; rfl
 ·simp [e0]
 ·exact (((Below.refl _ _).alloc (Nat.le_refl _) _).alloc (by simp) _).alloc (by simp; omega) _
structure LI (w : World) (s : Nat) (l : List Ev) (pre : List Nat) (W : World) (A : Option Addr) (m cap : Nat) : Prop where
 r0 : W.heap[s]? = some (.cells #[.slice A m cap] 32 (0, 0))
 op : OwnS W (s + 3) A m cap (if pre = [] then [] else runB l)
 nil : pre = [] → A = none ∧ m = 0 ∧ cap = 0
 below : Below s w W
 size : s + 3 ≤ W.heap.size
theorem LI.grown {w W W' : World} {s m cap : Nat} {l : List Ev} {pre : List Nat} {A : Option Addr} (h : LI w s l pre W A m cap) {row : Option Nat} (hg : W.grownBy W' row) (hr : ∀ r, row = some r → s + 3 ≤ r ∧ ∃ o : Obj, W.heap[r]? = some o ∧ o.isCells = false) : LI w s l pre W' A m cap := by
 have no : ∀ k cs t fr, W.heap[k]? = some (.cells cs t fr) → ¬ row = some k := fun k cs t fr hk e => by
  obtain ⟨-, o, ho, hc⟩ := hr k e
  rw [hk] at ho; injection ho with ho; subst ho; cases hc
 refine ⟨(hg.block s (Array.getElem?_eq_some_iff.1 h.r0).1 (fun e => no _ _ _ _ h.r0 e.symm)).trans h.r0, ?_, h.nil, ?_, Nat.le_trans h.size hg.size⟩
 ·refine ⟨⟨h.op.1.1, ?_⟩, h.op.2⟩
  rcases h.op.1.2 with h1 | ⟨a, cap', cur, h1, hb, hrow, hrest⟩
  ·exact .inl h1
  ·exact .inr ⟨a, cap', cur, h1, hb, (hg.block a (Array.getElem?_eq_some_iff.1 hrow).1 (fun e => no _ _ _ _ hrow e.symm)).trans hrow, hrest⟩
 ·exact h.below.grown hg (by have := h.size; omega) (fun k e => by have := (hr k e).1; omega)
theorem cell_far {w : World} {b j : Nat} (h : j ≠ b) (i q : Nat) (v : Value) : (w.setCell ⟨b, i, none⟩ v).cell? ⟨j, q, none⟩ = w.cell? ⟨j, q, none⟩ :=
 World.cell?_of_block (by simp [World.setCell, Array.getElem?_modify, Ne.symm h])
theorem KF.set {a c : World} (hb : Below a.heap.size a c) (b i : Nat) (v : Value) (hlt : b < a.heap.size) : KF (a.setCell ⟨b, i, none⟩ v) (c.setCell ⟨b, i, none⟩ v) := by
 refine ⟨by simpa [World.setCell] using hb.size, fun k o hk _ => ?_⟩
 have hs : (a.setCell ⟨b, i, none⟩ v).heap.size = a.heap.size := by simp [World.setCell]
 have hka : k < a.heap.size := by have := (Array.getElem?_eq_some_iff.1 hk).1; omega
 have h := hb.block k hka
 simp only [World.setCell, Array.getElem?_modify] at hk ⊢
 rw [h]; exact hk
section
variable {W : Bs} {g : Nat} {room ops : Int} {xs : List Fil}
set_option maxHeartbeats 8000000 in
theorem lay_run {nm dg : ByteArray} (b : Nat) (parts : Int) (N : Option Addr) (nn cn k : Nat) (gl ol n c : Nat) (l : List Ev) (hn : Hid (n = l.length)) (h0 : 0 < n) (hn6 : n ≤ 320) (hnc : n ≤ c) (hcm : c ≤ maxLen) (hfin : Hid (∀ x ∈ l, FineE x)) (w : World) (HE : Hid (EvAt w (some ⟨gl, ol, none⟩) l))
  (hs : Hid (SA W g room false 0 ops xs w)) (h : Hid (0 ≤ ops ∧ ops < 1000000000)) (HR : Hid (RunsAt9 w b g parts N nn cn k)) (hk : k < 1000000000) (HG : Hid (TabsAt W.b)) (hg : W.heap.size ≤ g) (hbW : W.b.heap.size ≤ b)
  (HIT : Hid (∀ w', PowAt w' → Calls Tryz.prog 68 #[.int .i64 (k : Int)] w' fun e w2 => e = .returned (.string dg) ∧ Below w'.heap.size w' w2)) (hdg : dg.size ≤ 20) (hnm : Hid (nm = { data := #[114, 117, 110, 46] } ++ dg))
  (hform : formK nm = true) (hr : Rises xs) (hx5 : xs.length < 500) (hroom : room ≤ 16777216) (hr0 : 0 ≤ room) (hfit : Hid (((runB l).length : Int) ≤ room - (sumN xs : Nat))) :
  Calls Tryz.prog 57 #[.pointer (some ⟨b, 0, none⟩), .slice (some ⟨gl, ol, none⟩) n c] w fun e w' => e = .returned (.tuple #[.string nm, .int .i64 0]) ∧ KF (w.setCell ⟨b, 3, none⟩ (.int .i64 ((k + 1 : Nat) : Int))) w' ∧ ∃ ys, AppRel xs nm (runB l) ys ∧ SA ⟨W.b, w'⟩ g room false 0 (ops + 1) ys w' := by
 have hch := chunkF_anyZ 4096 (by decide) (some ⟨gl, ol, none⟩) n c
 rw [show ((4096 : Nat) : Int) = 4096 from rfl] at hch
 have HCH := Lib.hid hch
 clear hch
 have hGlt : 2 < W.b.heap.size := World.block_lt_of_cell? W.b _ (HG.out.1 0 (by decide))
 have hbs : W.b.heap.size ≤ w.heap.size := hs.out.below.gb.size
 refine (callsIn_wide (n := 5)).1 ?_
 refine callsIn_of_wp_marks Tryz.func57 rfl trivial ?_ rfl
 refine wpIn_wide.2 (wp_mono ?_ (noPanicO_imp _))
 simp only [Tryz.ntmps57, List.size_toArray, List.length_cons, List.length_nil, Nat.reduceAdd, Nat.reduceSub, Array.replicate_succ, Array.replicate_zero, List.push_toArray, List.append_toArray, List.nil_append, List.cons_append]
 go_wp2_with (go_at_call 56; (with_reducible refine (HCH.out _).mono ?_); rintro e w2 ⟨rfl, rfl⟩)
 have H0 := lw_new w gl ol n c
 generalize ((w.alloc (Obj.cells #[Value.slice none 0 0] 32)).alloc (Obj.cells #[Value.slice (some { block := gl, off := ol, spot := none }) n c] 22)).alloc (Obj.cells #[Value.int IntKind.i64 4096] 3) = W4 at *
 obtain ⟨s, hss⟩ : ∃ s, s = w.heap.size := ⟨_, rfl⟩
 rw [← hss] at H0 ⊢
 have HS := Lib.hid hss
 have HW0 := Lib.hid H0
 have HS4 := Lib.hid H0.size
 have HBS : Hid (W.b.heap.size ≤ s) := Lib.hid (by rw [hss]; exact hbs)
 have HGL := Lib.hid hGlt
 have HEW : Hid (∀ w', Below s w w' → EvAt w' (some ⟨gl, ol, none⟩) l) := Lib.hid fun w' hb => HE.out.keep (by rw [← hss]; exact hb)
 have HHG : Hid (∀ w', Below s w w' → HalvesAt w') := Lib.hid fun w' hb => (halves_sa HG.out hg hs.out).keep (by rw [← hss]; exact hb)
 clear hss H0 hbs hGlt HCH
 refine wpIn_wide (n := 5).1 ?_
 refine wpIn_rangeFunc_ownF rfl (by decide) (gf := 66) (lb := #[.pointer (some ⟨s + 1, 0, none⟩), .pointer (some ⟨s + 2, 0, none⟩)]) rfl trivial (enters_of Tryz.func66 (by kernel_rfl) rfl)
  (chunk_stopsZ (5 - 1) (by decide) 4096 (by decide) (by decide) (s + 1) (s + 2) gl ol n c 1 (by intro j; omega) (by omega) hnc hcm W4 (by have := HS4.out; omega) (by have := HS4.out; omega) HW0.out.c1 HW0.out.c2) KpZ.trans (fun W l o o' hl _ _ _ => KpZ.putObj W l o' (by have := HS4.out; omega) (by have := HS4.out; omega)) (Below.refl _ _) (fun _ => rfl)
  (fun pre W => ∃ A m cap, LI w s l pre W A m cap) (fun _ _ _ => False)
  (fun pre A B row h hg hr => by
   obtain ⟨A1, m, cap, h⟩ := h
   exact ⟨A1, m, cap, h.grown hg (fun r e => ⟨by have := (hr r e).1; have := HS4.out; omega, (hr r e).2⟩)⟩)
  (fun _ _ _ _ _ hs _ _ => hs)
  ⟨none, 0, 0, HW0.out.r0, OwnS.nil _ _, fun _ => ⟨rfl, rfl, rfl⟩, HW0.out.below, by rw [HS4.out]; exact Nat.le_refl _⟩
  ?a1 ?assign ?body ?done ?stop
 case assign =>
  intro l x W K hK
  unfold encZ
  try simp only [List.zip_toArray, List.zip_cons_cons, List.zip_nil_right, List.zip_nil_left, List.foldl_toArray, List.foldl_cons, List.foldl_nil, List.setIfInBounds_toArray, List.set_cons_succ, List.set_cons_zero]
  gi_wp2
  exact hK
 case stop =>
  rintro D c pre W _ _ h _
  exact h.elim
 case body =>
  rintro lp pre x W6 ⟨A, m, cap, hli⟩ hlt
  obtain rfl : pre = [] := List.eq_nil_of_length_eq_zero (by omega)
  obtain ⟨rfl, rfl, rfl⟩ := hli.nil rfl
  have HI := Lib.hid hli
  have hst : stZ 4096 n x = 0 := by unfold stZ; split <;> omega
  have hln : lnZ 4096 n x = n := by unfold lnZ; rw [hst]; omega
  have c0 : W6.cell? ⟨s, 0, none⟩ = some (.slice none 0 0) := by rw [cell_of_row _ _ _ _ _ _ hli.r0]; rfl
  have HLY : Hid (Calls Tryz.prog 67 #[.slice none 0 0, .slice (some ⟨gl, ol, none⟩) n n] W6 (RetL W6 W6.heap.size (0 + 5 + (evY l).length + 4) (runB l))) := Lib.hid (by
   have h := evLay_any W6.heap.size none 0 0 [] (some ⟨gl, ol, none⟩) n n l hn hn6 (by omega) hfin W6 (Lib.hid (OwnS.nil _ _)) (Lib.hid (HEW.out W6 hli.below)) (Lib.hid (HHG.out W6 hli.below)) (Nat.le_refl _) (by have := HGL.out; have := HBS.out; have := hli.size; omega)
   rwa [List.nil_append] at h)
  rw [hst, hln]
  clear hst hln hlt hli
  try rw [Nat.zero_mul]
  try rw [Nat.add_zero]
  gi_wp2_with (first
   | (gi_at_call 67; refine (CallsIn.inRound lp (callsIn_wide.2 HLY.out)).mono ?_; rintro e v5 ⟨A5, cap5, rfl, h1, h2⟩; have HO5 := Lib.hid h1; have HB5 := Lib.hid h2; have R05 : v5.heap[s]? = some (.cells #[.slice none 0 0] 32 (0, 0)) := row_kept HI.out.r0 h2; have H05 := Lib.hid R05; have c05 : v5.cell? ⟨s, 0, none⟩ = some (.slice none 0 0) := (by rw [cell_of_row _ _ _ _ _ _ R05]; rfl); have f05 : v5.frozen? ⟨s, 0, none⟩ = false := row_frozen R05 0; clear R05 h1 h2)
   | (refine ⟨trivial, ?_⟩; gi_at_call 67; refine (CallsIn.inRound lp (callsIn_wide.2 HLY.out)).mono ?_; rintro e v5 ⟨A5, cap5, rfl, h1, h2⟩; have HO5 := Lib.hid h1; have HB5 := Lib.hid h2; have R05 : v5.heap[s]? = some (.cells #[.slice none 0 0] 32 (0, 0)) := row_kept HI.out.r0 h2; have H05 := Lib.hid R05; have c05 : v5.cell? ⟨s, 0, none⟩ = some (.slice none 0 0) := (by rw [cell_of_row _ _ _ _ _ _ R05]; rfl); have f05 : v5.frozen? ⟨s, 0, none⟩ = false := row_frozen R05 0; clear R05 h1 h2))
  have hev : 0 + 5 + (evY l).length + 4 = 5 + (evY l).length + 4 := by omega
  rw [hev] at HO5
  have hs5 := HI.out.size
  have hss5 : s < W6.heap.size := by omega
  refine ⟨⟨by simpa [World.setCell] using HB5.out.size, fun j o ho hc => ?_⟩, ⟨?_, ?_⟩, A5, _, cap5, row_set H05.out 0 _, ?_, (fun e => by cases e), ?_, ?_⟩
  ·have hj : j ≠ s := fun e => by subst e; rw [HI.out.r0] at ho; injection ho with ho; subst ho; cases hc
   have h1 := row_kept ho HB5.out
   exact row_far (Ne.symm hj) h1
  ·have h1 : v5.cell? ⟨s + 1, 0, none⟩ = W6.cell? ⟨s + 1, 0, none⟩ := HB5.out.cell (p := ⟨s + 1, 0, none⟩) (by show s + 1 < _; omega)
   rw [← h1]; exact cell_far (by omega) _ _ _
  ·have h1 : v5.cell? ⟨s + 2, 0, none⟩ = W6.cell? ⟨s + 2, 0, none⟩ := HB5.out.cell (p := ⟨s + 2, 0, none⟩) (by show s + 2 < _; omega)
   rw [← h1]; exact cell_far (by omega) _ _ _
  ·have h1 := own_far (i := 0) (u := .slice A5 (5 + (evY l).length + 4) cap5) (HO5.out.more (B' := s + 3) hs5) (fun e => by have := HO5.out.base s e; omega)
   simpa using h1
  ·exact (HI.out.below.trans (HB5.out.mono (by omega))).setCell (Nat.le_refl _) _
  ·rw [setCell_size]; exact Nat.le_trans hs5 HB5.out.size
 case done =>
  rintro D ps W5 hD rfl ⟨A, m, cap, hli⟩ hKD
  have hop : OwnS W5 (s + 3) A m cap (runB l) := by
   have h := hli.op
   rwa [if_neg (by simp [chZ])] at h
  have hb5 : Below w.heap.size w W5 := by have h := hli.below; rwa [HS.out] at h
  have HOP := Lib.hid hop
  have HB5 := Lib.hid hb5
  have HD5 := Lib.hid hKD
  have HDS : Hid (s + 3 ≤ D) := Lib.hid (by have := HS4.out; omega)
  have HR5 := Lib.hid (HR.out.keep hb5)
  have HS5 := Lib.hid (hs.out.next hb5)
  have H0r := Lib.hid hli.r0
  have hbl : b < w.heap.size := (Array.getElem?_eq_some_iff.1 HR.out).1
  have HBL := Lib.hid hbl
  have cb5 : W5.cell? ⟨b, 3, none⟩ = some (.int .i64 (k : Int)) := by rw [cell_of_row _ _ _ _ _ _ HR5.out]; rfl
  have hk1 : IntKind.i64.wrap ((k : Int) + 1) = ((k + 1 : Nat) : Int) := by rw [IntKind.wrap_i64]; omega
  have hadd : ∀ w, (Op.stringOp .add { data := #[114, 117, 110, 46] } dg).run Tryz.prog w = .ok (.string nm) w := fun w => by
   rw [run_string_add_sum (P := Tryz.prog) (w := w) _ _ (by have h4 : ({ data := #[114, 117, 110, 46] } : ByteArray).size = 4 := rfl; rw [h4]; omega), hnm.out]
  clear hli hop hb5 hKD hD hbl
  dsimp only
  have HIT5 := Lib.hid (HIT.out W5 (tabs_sa HG.out hg HS5.out).2)
  go_upto_region 6 with (go_at_call 68; (with_reducible refine HIT5.out.mono ?_); rintro e v6 ⟨rfl, hb⟩; have HB6 := Lib.hid hb; clear hb)
  have HR6 := Lib.hid (HR5.out.keep HB6.out)
  have c6 : v6.cell? ⟨b, 3, none⟩ = some (.int .i64 (k : Int)) := by rw [cell_of_row _ _ _ _ _ _ HR6.out]; rfl
  have f6 : v6.frozen? ⟨b, 3, none⟩ = false := row_frozen HR6.out 3
  go_upto_region 7 with fail
  generalize hw7 : World.setCell v6 { block := b, off := 3, spot := none } _ = w7
  have HW7 : Hid (w7 = v6.setCell ⟨b, 3, none⟩ (.int .i64 ((k + 1 : Nat) : Int))) := Lib.hid (by rw [← hw7]; push_cast; rfl)
  clear hw7
  have hbs : b ≠ s := fun e => by have := HBL.out; have := HS.out; omega
  have hsW : s < W5.heap.size := (Array.getElem?_eq_some_iff.1 H0r.out).1
  have h06 : v6.heap[s]? = some (.cells #[.slice A m cap] 32 (0, 0)) := row_kept H0r.out HB6.out
  have H07 : Hid (w7.drew.heap[s]? = some (.cells #[.slice A m cap] 32 (0, 0))) := Lib.hid (by rw [HW7.out]; exact row_far hbs h06)
  have HR7 : Hid (RunsAt9 w7.drew b g parts N nn cn (k + 1)) := Lib.hid (by rw [HW7.out]; exact row_set HR6.out 3 _)
  have HS7 : Hid (SA ⟨W.b, w7⟩ g room false 0 ops xs w7.drew) := Lib.hid (by
   have h1 := (HS5.out.next HB6.out).setB b 3 (.int .i64 ((k + 1 : Nat) : Int)) HR6.out (not_st (by decide) (by decide) (by decide)) hbW
   rw [← HW7.out] at h1
   exact h1.next (Below.refl _ _).drew)
  have HO7 : Hid (OwnS w7.drew (s + 3) A m cap (runB l)) := Lib.hid (by
   have h1 := own_far (g := b) (i := 3) (u := .int .i64 ((k + 1 : Nat) : Int)) (HOP.out.keep HB6.out) (fun e => by have := HOP.out.base b e; have := HBL.out; have := HS.out; omega)
   rw [← HW7.out] at h1
   exact h1.keep (Below.refl _ _).drew)
  have HK7 : Hid (KF (w.setCell ⟨b, 3, none⟩ (.int .i64 ((k + 1 : Nat) : Int))) w7.drew) := Lib.hid (by
   have h1 := KF.set (below_to HB5.out HB6.out) b 3 (.int .i64 ((k + 1 : Nat) : Int)) HBL.out
   rw [← HW7.out] at h1
   exact h1.below (Below.refl _ _).drew)
  have HD7 : Hid (w7.drew.heap[D]? = some (.deferred (some []))) := Lib.hid (by
   rw [HW7.out]
   exact row_far (fun e => by have := HDS.out; have := HBL.out; have := HS.out; omega) (row_kept HD5.out HB6.out))
  have cb7 : w7.drew.cell? ⟨b, 0, none⟩ = some (.pointer (some ⟨g, 0, none⟩)) := by rw [cell_of_row _ _ _ _ _ _ HR7.out]; rfl
  have cs7 : w7.drew.cell? ⟨s, 0, none⟩ = some (.slice A m cap) := by rw [cell_of_row _ _ _ _ _ _ H07.out]; rfl
  have HAP := Lib.hid (append_K (W := ⟨W.b, w7⟩) (t := nm) (e := 0) (armed' := 0) (off' := false) (by have h4 : ({ data := #[114, 117, 110, 46] } : ByteArray).size = 4 := rfl; have h5 : nm.size = 4 + dg.size := (by rw [hnm.out, ByteArray.size_append, h4]); omega) hform hr hx5 w7.drew HS7 (Lib.hid ⟨.inl ⟨rfl, rfl, rfl, rfl⟩⟩) h (Lib.hid (by omega)) (s + 3) A m cap (runB l) HO7 hroom (by have := HO7.out.len; have := hfit.out; omega) hr0)
  clear c6 f6 cb5 h06 hadd hk1
  refine wp_region_held_drew (S := fun w => w.cell? ⟨b, 0, none⟩ = some (.pointer (some ⟨g, 0, none⟩)) ∧ w.cell? ⟨s, 0, none⟩ = some (.slice A m cap)) (by kernel_rfl) ⟨cb7, cs7⟩ (fun hHeld => ?_)
  refine tkm 0 (.string nm) rfl hHeld ?_
  try simp only [qz]
  refine tkm 1 (.pointer (some ⟨b, 0, none⟩)) rfl hHeld ?_
  try simp only [qz]
  refine tks 2 (.pointer (some ⟨b, 0, none⟩)) rfl hHeld ?_
  try simp only [qz]
  refine tks 3 (.pointer (some ⟨b, 0, none⟩)) rfl hHeld ?_
  try simp only [qz]
  refine tk 4 (.pointer (some ⟨g, 0, none⟩)) rfl (ylO lv_stpO rfl (.tmp 31) rfl b 0 rfl _ (fun w hw => hw.1)) hHeld ?_
  try simp only [qz]
  refine tkm 5 (.string nm) rfl hHeld ?_
  try simp only [qz]
  refine tk 6 (.slice A m cap) rfl (ylO lv_bysO rfl (.tmp 6) rfl s 0 rfl _ (fun w hw => hw.2)) hHeld ?_
  try simp only [qz]
  refine rd1 7 rfl (fun K hK => ?_)
  go_simp
  refine (HAP.out.mono ?_)
  rintro e v8 ⟨rfl, hk8, ys, ha8, hs8⟩
  have HK8 : Hid (KF w7.drew v8) := Lib.hid hk8; have HA8 := Lib.hid ha8; have HS8 := Lib.hid hs8
  have cb8 : v8.cell? ⟨b, 0, none⟩ = some (.pointer (some ⟨g, 0, none⟩)) := by rw [cell_of_row _ _ _ _ _ _ (HR7.out.kf hk8)]; rfl
  have cs8 : v8.cell? ⟨s, 0, none⟩ = some (.slice A m cap) := by rw [cell_of_row _ _ _ _ _ _ (hk8.row H07.out (not_st (by decide) (by decide) (by decide)))]; rfl
  clear hk8 ha8 hs8
  refine hK.out _ _ ⟨cb8, cs8⟩ (fun hHeld => ?_)
  clear hK K cb8 cs8
  try simp only [qz]
  refine tkm 8 (.string nm) rfl hHeld ?_
  try simp only [qz]
  refine tkm 9 (.int .i64 0) rfl hHeld ?_
  try simp only [qz]
  refine wpAnyH_done (by kernel_rfl) ?_ _
  clear hHeld
  go_wp2_with fail
  have HD8 : v8.heap[D]? = some (.deferred (some [])) := HK8.out.kept D _ HD7.out (fun cs t fr e => by cases e)
  try dsimp only [noPanicO, bodyPostM]
  refine ⟨by simp, .inl ⟨_, _, rfl, run_takeDeferred HD8, ?_⟩⟩
  have hwD : (w.setCell ⟨b, 3, none⟩ (.int .i64 ((k + 1 : Nat) : Int))).heap.size ≤ D := by rw [setCell_size]; have := HDS.out; have := HS.out; omega
  refine ⟨_, results_tmp2O rfl _ _ _, rfl, (HK7.out.trans HK8.out).putD D _ hwD, ys, HA8.out, ?_⟩
  have h1 := HS8.out.seen { v8 with heap := #[] } ⟨Nat.zero_le _, fun j o hj => by simp at hj⟩
  exact (h1.putD D _ HD8 (by have := HBS.out; have := HDS.out; show W.b.heap.size ≤ D; omega) (Nat.zero_le _)).now
end
end Go.Proofs.YtjldamkmdkaiiaaGreatDoor
namespace Go.Proofs.YtjldamkmdkaiiaaGreatDoor
open Go.RowKit Go.Shelf Go.WideShapes Col
attribute [local go_sem] Oper.semAt_some
theorem runT_pre (d : ByteArray) : runT (({ data := #[114, 117, 110, 46] } : ByteArray) ++ d) = true := by
 unfold runT
 rw [ByteArray.data_append, Array.toList_append]
 unfold Lib.hasPrefix
 rw [List.isPrefixOf_iff_prefix]
 exact List.prefix_append _ _
theorem SA.seen0 {W : Bs} {g : Nat} {room armed ops : Int} {off : Bool} {xs : List Fil} {w : World} (h : SA W g room off armed ops xs w) : SA ⟨W.b, { w with heap := #[] }⟩ g room off armed ops xs w :=
 h.seen { w with heap := #[] } ⟨Nat.zero_le _, fun j o hj => by simp at hj⟩
section
variable {W : Bs} {g : Nat} {room ops : Int} {pz : Bool} {xs : List Fil} {w : World}
theorem SZ.setB (h : SZ W g room pz ops xs w) (b i : Nat) (v : Value) {cs : Array Value} {t : TypeId} {fr : Nat × Nat} (hrow : w.heap[b]? = some (.cells cs t fr)) (ht : ¬ StT t) (hb : W.b.heap.size ≤ b) : SZ ⟨W.b, w.setCell ⟨b, i, none⟩ v⟩ g room pz ops xs (w.setCell ⟨b, i, none⟩ v) := by
 obtain ⟨a, ha, h⟩ := h
 exact ⟨a, ha, h.setB b i v hrow ht hb⟩
theorem SZ.putD (h : SZ W g room pz ops xs w) (D : Nat) (o : Obj) {q : Option (List Deferred)} (hD : w.heap[D]? = some (.deferred q)) (hb : W.b.heap.size ≤ D) : SZ ⟨W.b, w.putObj D o⟩ g room pz ops xs (w.putObj D o) := by
 obtain ⟨a, ha, h⟩ := h
 exact ⟨a, ha, (h.seen0.putD D o hD hb (Nat.zero_le _)).now⟩
theorem Bad.putD {Wb : World} {F : Prop} {e : Int} (h : Bad Wb g room pz F e w) (D : Nat) (o : Obj) {q : Option (List Deferred)} (hD : w.heap[D]? = some (.deferred q)) (hb : Wb.heap.size ≤ D) : Bad Wb g room pz F e (w.putObj D o) := by
 obtain ⟨off, a, o', ys, h1, h2, h3, h4, h⟩ := h
 exact ⟨off, a, o', ys, h1, h2, h3, h4, (h.seen0.putD D o hD hb (Nat.zero_le _)).now⟩
set_option maxHeartbeats 8000000 in
theorem lay_Z {nm dg : ByteArray} (b : Nat) (parts : Int) (N : Option Addr) (nn cn k : Nat) (gl ol n c : Nat) (l : List Ev) (hn : Hid (n = l.length)) (h0 : 0 < n) (hn6 : n ≤ 320) (hnc : n ≤ c) (hcm : c ≤ maxLen) (hfin : Hid (∀ x ∈ l, FineE x)) (w : World) (HE : Hid (EvAt w (some ⟨gl, ol, none⟩) l))
  (hs : Hid (SZ W g room pz ops xs w)) (h : Hid (0 ≤ ops ∧ ops < 850000000)) (HR : Hid (RunsAt9 w b g parts N nn cn k)) (hk : k < 1000000000) (HG : Hid (TabsAt W.b)) (hg : W.heap.size ≤ g) (hbW : W.b.heap.size ≤ b)
  (HIT : Hid (∀ w', PowAt w' → Calls Tryz.prog 68 #[.int .i64 (k : Int)] w' fun e w2 => e = .returned (.string dg) ∧ Below w'.heap.size w' w2)) (hdg : dg.size ≤ 20) (hnm : Hid (nm = { data := #[114, 117, 110, 46] } ++ dg))
  (hform : formK nm = true) (hN : Hid (Nms xs)) (hx5 : xs.length < 500) (hroom : room ≤ 16777216) (hr0 : 0 ≤ room) (hsum : (sumN xs : Int) ≤ room) (F : Prop) (hF : F → ((runB l).length : Int) ≤ room - (sumN xs : Nat)) :
  Calls Tryz.prog 57 #[.pointer (some ⟨b, 0, none⟩), .slice (some ⟨gl, ol, none⟩) n c] w fun e w' => ∃ x : Int, e = .returned (.tuple #[.string nm, .int .i64 x]) ∧ KF (w.setCell ⟨b, 3, none⟩ (.int .i64 ((k + 1 : Nat) : Int))) w' ∧ ((x = 0 ∧ ((runB l).length : Int) ≤ room - (sumN xs : Nat) ∧ ∃ ys, AppRel xs nm (runB l) ys ∧ SZ ⟨W.b, w'⟩ g room pz (ops + 1) ys w') ∨ Bad W.b g room pz F x w') := by
 have HF := Lib.hid hF
 clear hF
 have hch := chunkF_anyZ 4096 (by decide) (some ⟨gl, ol, none⟩) n c
 rw [show ((4096 : Nat) : Int) = 4096 from rfl] at hch
 have HCH := Lib.hid hch
 clear hch
 have hGlt : 2 < W.b.heap.size := World.block_lt_of_cell? W.b _ (HG.out.1 0 (by decide))
 have hbs : W.b.heap.size ≤ w.heap.size := hs.out.below.gb.size
 refine (callsIn_wide (n := 5)).1 ?_
 refine callsIn_of_wp_marks Tryz.func57 rfl trivial ?_ rfl
 refine wpIn_wide.2 (wp_mono ?_ (noPanicO_imp _))
 simp only [Tryz.ntmps57, List.size_toArray, List.length_cons, List.length_nil, Nat.reduceAdd, Nat.reduceSub, Array.replicate_succ, Array.replicate_zero, List.push_toArray, List.append_toArray, List.nil_append, List.cons_append]
 go_wp2_with (go_at_call 56; (with_reducible refine (HCH.out _).mono ?_); rintro e w2 ⟨rfl, rfl⟩)
 have H0 := lw_new w gl ol n c
 generalize ((w.alloc (Obj.cells #[Value.slice none 0 0] 32)).alloc (Obj.cells #[Value.slice (some { block := gl, off := ol, spot := none }) n c] 22)).alloc (Obj.cells #[Value.int IntKind.i64 4096] 3) = W4 at *
 obtain ⟨s, hss⟩ : ∃ s, s = w.heap.size := ⟨_, rfl⟩
 rw [← hss] at H0 ⊢
 have HS := Lib.hid hss
 have HW0 := Lib.hid H0
 have HS4 := Lib.hid H0.size
 have HBS : Hid (W.b.heap.size ≤ s) := Lib.hid (by rw [hss]; exact hbs)
 have HGL := Lib.hid hGlt
 have HEW : Hid (∀ w', Below s w w' → EvAt w' (some ⟨gl, ol, none⟩) l) := Lib.hid fun w' hb => HE.out.keep (by rw [← hss]; exact hb)
 have HHG : Hid (∀ w', Below s w w' → HalvesAt w') := Lib.hid fun w' hb => ((tabs_sz HG.out hg hs.out).1).keep (by rw [← hss]; exact hb)
 clear hss H0 hbs hGlt HCH
 refine wpIn_wide (n := 5).1 ?_
 refine wpIn_rangeFunc_ownF rfl (by decide) (gf := 66) (lb := #[.pointer (some ⟨s + 1, 0, none⟩), .pointer (some ⟨s + 2, 0, none⟩)]) rfl trivial (enters_of Tryz.func66 (by kernel_rfl) rfl)
  (chunk_stopsZ (5 - 1) (by decide) 4096 (by decide) (by decide) (s + 1) (s + 2) gl ol n c 1 (by intro j; omega) (by omega) hnc hcm W4 (by have := HS4.out; omega) (by have := HS4.out; omega) HW0.out.c1 HW0.out.c2) KpZ.trans (fun W l o o' hl _ _ _ => KpZ.putObj W l o' (by have := HS4.out; omega) (by have := HS4.out; omega)) (Below.refl _ _) (fun _ => rfl)
  (fun pre W => ∃ A m cap, LI w s l pre W A m cap) (fun _ _ _ => False)
  (fun pre A B row h hg hr => by
   obtain ⟨A1, m, cap, h⟩ := h
   exact ⟨A1, m, cap, h.grown hg (fun r e => ⟨by have := (hr r e).1; have := HS4.out; omega, (hr r e).2⟩)⟩)
  (fun _ _ _ _ _ hs _ _ => hs)
  ⟨none, 0, 0, HW0.out.r0, OwnS.nil _ _, fun _ => ⟨rfl, rfl, rfl⟩, HW0.out.below, by rw [HS4.out]; exact Nat.le_refl _⟩
  ?a1 ?assign ?body ?done ?stop
 case assign =>
  intro l x W K hK
  unfold encZ
  try simp only [List.zip_toArray, List.zip_cons_cons, List.zip_nil_right, List.zip_nil_left, List.foldl_toArray, List.foldl_cons, List.foldl_nil, List.setIfInBounds_toArray, List.set_cons_succ, List.set_cons_zero]
  gi_wp2
  exact hK
 case stop =>
  rintro D c pre W _ _ h _
  exact h.elim
 case body =>
  rintro lp pre x W6 ⟨A, m, cap, hli⟩ hlt
  obtain rfl : pre = [] := List.eq_nil_of_length_eq_zero (by omega)
  obtain ⟨rfl, rfl, rfl⟩ := hli.nil rfl
  have HI := Lib.hid hli
  have hst : stZ 4096 n x = 0 := by unfold stZ; split <;> omega
  have hln : lnZ 4096 n x = n := by unfold lnZ; rw [hst]; omega
  have c0 : W6.cell? ⟨s, 0, none⟩ = some (.slice none 0 0) := by rw [cell_of_row _ _ _ _ _ _ hli.r0]; rfl
  have HLY : Hid (Calls Tryz.prog 67 #[.slice none 0 0, .slice (some ⟨gl, ol, none⟩) n n] W6 (RetL W6 W6.heap.size (0 + 5 + (evY l).length + 4) (runB l))) := Lib.hid (by
   have h := evLay_any W6.heap.size none 0 0 [] (some ⟨gl, ol, none⟩) n n l hn hn6 (by omega) hfin W6 (Lib.hid (OwnS.nil _ _)) (Lib.hid (HEW.out W6 hli.below)) (Lib.hid (HHG.out W6 hli.below)) (Nat.le_refl _) (by have := HGL.out; have := HBS.out; have := hli.size; omega)
   rwa [List.nil_append] at h)
  rw [hst, hln]
  clear hst hln hlt hli
  try rw [Nat.zero_mul]
  try rw [Nat.add_zero]
  gi_wp2_with (first
   | (gi_at_call 67; refine (CallsIn.inRound lp (callsIn_wide.2 HLY.out)).mono ?_; rintro e v5 ⟨A5, cap5, rfl, h1, h2⟩; have HO5 := Lib.hid h1; have HB5 := Lib.hid h2; have R05 : v5.heap[s]? = some (.cells #[.slice none 0 0] 32 (0, 0)) := row_kept HI.out.r0 h2; have H05 := Lib.hid R05; have c05 : v5.cell? ⟨s, 0, none⟩ = some (.slice none 0 0) := (by rw [cell_of_row _ _ _ _ _ _ R05]; rfl); have f05 : v5.frozen? ⟨s, 0, none⟩ = false := row_frozen R05 0; clear R05 h1 h2)
   | (refine ⟨trivial, ?_⟩; gi_at_call 67; refine (CallsIn.inRound lp (callsIn_wide.2 HLY.out)).mono ?_; rintro e v5 ⟨A5, cap5, rfl, h1, h2⟩; have HO5 := Lib.hid h1; have HB5 := Lib.hid h2; have R05 : v5.heap[s]? = some (.cells #[.slice none 0 0] 32 (0, 0)) := row_kept HI.out.r0 h2; have H05 := Lib.hid R05; have c05 : v5.cell? ⟨s, 0, none⟩ = some (.slice none 0 0) := (by rw [cell_of_row _ _ _ _ _ _ R05]; rfl); have f05 : v5.frozen? ⟨s, 0, none⟩ = false := row_frozen R05 0; clear R05 h1 h2))
  have hev : 0 + 5 + (evY l).length + 4 = 5 + (evY l).length + 4 := by omega
  rw [hev] at HO5
  have hs5 := HI.out.size
  have hss5 : s < W6.heap.size := by omega
  refine ⟨⟨by simpa [World.setCell] using HB5.out.size, fun j o ho hc => ?_⟩, ⟨?_, ?_⟩, A5, _, cap5, row_set H05.out 0 _, ?_, (fun e => by cases e), ?_, ?_⟩
  ·have hj : j ≠ s := fun e => by subst e; rw [HI.out.r0] at ho; injection ho with ho; subst ho; cases hc
   have h1 := row_kept ho HB5.out
   exact row_far (Ne.symm hj) h1
  ·have h1 : v5.cell? ⟨s + 1, 0, none⟩ = W6.cell? ⟨s + 1, 0, none⟩ := HB5.out.cell (p := ⟨s + 1, 0, none⟩) (by show s + 1 < _; omega)
   rw [← h1]; exact cell_far (by omega) _ _ _
  ·have h1 : v5.cell? ⟨s + 2, 0, none⟩ = W6.cell? ⟨s + 2, 0, none⟩ := HB5.out.cell (p := ⟨s + 2, 0, none⟩) (by show s + 2 < _; omega)
   rw [← h1]; exact cell_far (by omega) _ _ _
  ·have h1 := own_far (i := 0) (u := .slice A5 (5 + (evY l).length + 4) cap5) (HO5.out.more (B' := s + 3) hs5) (fun e => by have := HO5.out.base s e; omega)
   simpa using h1
  ·exact (HI.out.below.trans (HB5.out.mono (by omega))).setCell (Nat.le_refl _) _
  ·rw [setCell_size]; exact Nat.le_trans hs5 HB5.out.size
 case done =>
  rintro D ps W5 hD rfl ⟨A, m, cap, hli⟩ hKD
  have hop : OwnS W5 (s + 3) A m cap (runB l) := by
   have h := hli.op
   rwa [if_neg (by simp [chZ])] at h
  have hb5 : Below w.heap.size w W5 := by have h := hli.below; rwa [HS.out] at h
  have HOP := Lib.hid hop
  have HB5 := Lib.hid hb5
  have HD5 := Lib.hid hKD
  have HDS : Hid (s + 3 ≤ D) := Lib.hid (by have := HS4.out; omega)
  have HR5 := Lib.hid (HR.out.keep hb5)
  have HS5 := Lib.hid (hs.out.next hb5)
  have H0r := Lib.hid hli.r0
  have hbl : b < w.heap.size := (Array.getElem?_eq_some_iff.1 HR.out).1
  have HBL := Lib.hid hbl
  have cb5 : W5.cell? ⟨b, 3, none⟩ = some (.int .i64 (k : Int)) := by rw [cell_of_row _ _ _ _ _ _ HR5.out]; rfl
  have hk1 : IntKind.i64.wrap ((k : Int) + 1) = ((k + 1 : Nat) : Int) := by rw [IntKind.wrap_i64]; omega
  have hadd : ∀ w, (Op.stringOp .add { data := #[114, 117, 110, 46] } dg).run Tryz.prog w = .ok (.string nm) w := fun w => by
   rw [run_string_add_sum (P := Tryz.prog) (w := w) _ _ (by have h4 : ({ data := #[114, 117, 110, 46] } : ByteArray).size = 4 := rfl; rw [h4]; omega), hnm.out]
  clear hli hop hb5 hKD hD hbl
  dsimp only
  have HIT5 := Lib.hid (HIT.out W5 (tabs_sz HG.out hg HS5.out).2)
  go_upto_region 6 with (go_at_call 68; (with_reducible refine HIT5.out.mono ?_); rintro e v6 ⟨rfl, hb⟩; have HB6 := Lib.hid hb; clear hb)
  have HR6 := Lib.hid (HR5.out.keep HB6.out)
  have c6 : v6.cell? ⟨b, 3, none⟩ = some (.int .i64 (k : Int)) := by rw [cell_of_row _ _ _ _ _ _ HR6.out]; rfl
  have f6 : v6.frozen? ⟨b, 3, none⟩ = false := row_frozen HR6.out 3
  go_upto_region 7 with fail
  generalize hw7 : World.setCell v6 { block := b, off := 3, spot := none } _ = w7
  have HW7 : Hid (w7 = v6.setCell ⟨b, 3, none⟩ (.int .i64 ((k + 1 : Nat) : Int))) := Lib.hid (by rw [← hw7]; push_cast; rfl)
  clear hw7
  have hbs : b ≠ s := fun e => by have := HBL.out; have := HS.out; omega
  have hsW : s < W5.heap.size := (Array.getElem?_eq_some_iff.1 H0r.out).1
  have h06 : v6.heap[s]? = some (.cells #[.slice A m cap] 32 (0, 0)) := row_kept H0r.out HB6.out
  have H07 : Hid (w7.drew.heap[s]? = some (.cells #[.slice A m cap] 32 (0, 0))) := Lib.hid (by rw [HW7.out]; exact row_far hbs h06)
  have HR7 : Hid (RunsAt9 w7.drew b g parts N nn cn (k + 1)) := Lib.hid (by rw [HW7.out]; exact row_set HR6.out 3 _)
  have HS7 : Hid (SZ ⟨W.b, w7⟩ g room pz ops xs w7.drew) := Lib.hid (by
   have h1 := (HS5.out.next HB6.out).setB b 3 (.int .i64 ((k + 1 : Nat) : Int)) HR6.out (not_st (by decide) (by decide) (by decide)) hbW
   rw [← HW7.out] at h1
   exact h1.next (Below.refl _ _).drew)
  have HO7 : Hid (OwnS w7.drew (s + 3) A m cap (runB l)) := Lib.hid (by
   have h1 := own_far (g := b) (i := 3) (u := .int .i64 ((k + 1 : Nat) : Int)) (HOP.out.keep HB6.out) (fun e => by have := HOP.out.base b e; have := HBL.out; have := HS.out; omega)
   rw [← HW7.out] at h1
   exact h1.keep (Below.refl _ _).drew)
  have HK7 : Hid (KF (w.setCell ⟨b, 3, none⟩ (.int .i64 ((k + 1 : Nat) : Int))) w7.drew) := Lib.hid (by
   have h1 := KF.set (below_to HB5.out HB6.out) b 3 (.int .i64 ((k + 1 : Nat) : Int)) HBL.out
   rw [← HW7.out] at h1
   exact h1.below (Below.refl _ _).drew)
  have HD7 : Hid (w7.drew.heap[D]? = some (.deferred (some []))) := Lib.hid (by
   rw [HW7.out]
   exact row_far (fun e => by have := HDS.out; have := HBL.out; have := HS.out; omega) (row_kept HD5.out HB6.out))
  have cb7 : w7.drew.cell? ⟨b, 0, none⟩ = some (.pointer (some ⟨g, 0, none⟩)) := by rw [cell_of_row _ _ _ _ _ _ HR7.out]; rfl
  have cs7 : w7.drew.cell? ⟨s, 0, none⟩ = some (.slice A m cap) := by rw [cell_of_row _ _ _ _ _ _ H07.out]; rfl
  have HM7 : Hid (m = (runB l).length) := Lib.hid HO7.out.len
  have HAP := Lib.hid (append_Z (W := ⟨W.b, w7⟩) (t := nm) F hN hx5 (Lib.hid ⟨by rw [hnm.out]; exact runT_pre dg, by have h4 : ({ data := #[114, 117, 110, 46] } : ByteArray).size = 4 := rfl; have h5 : nm.size = 4 + dg.size := (by rw [hnm.out, ByteArray.size_append, h4]); omega, hform⟩) w7.drew HS7 h (s + 3) A m cap (runB l) HO7 hroom hr0 (by omega) (fun hh => by have := HF.out hh; have := HM7.out; omega))
  clear c6 f6 cb5 h06 hadd hk1
  refine wp_region_held_drew (S := fun w => w.cell? ⟨b, 0, none⟩ = some (.pointer (some ⟨g, 0, none⟩)) ∧ w.cell? ⟨s, 0, none⟩ = some (.slice A m cap)) (by kernel_rfl) ⟨cb7, cs7⟩ (fun hHeld => ?_)
  refine tkm 0 (.string nm) rfl hHeld ?_
  try simp only [qz]
  refine tkm 1 (.pointer (some ⟨b, 0, none⟩)) rfl hHeld ?_
  try simp only [qz]
  refine tks 2 (.pointer (some ⟨b, 0, none⟩)) rfl hHeld ?_
  try simp only [qz]
  refine tks 3 (.pointer (some ⟨b, 0, none⟩)) rfl hHeld ?_
  try simp only [qz]
  refine tk 4 (.pointer (some ⟨g, 0, none⟩)) rfl (ylO lv_stpO rfl (.tmp 31) rfl b 0 rfl _ (fun w hw => hw.1)) hHeld ?_
  try simp only [qz]
  refine tkm 5 (.string nm) rfl hHeld ?_
  try simp only [qz]
  refine tk 6 (.slice A m cap) rfl (ylO lv_bysO rfl (.tmp 6) rfl s 0 rfl _ (fun w hw => hw.2)) hHeld ?_
  try simp only [qz]
  refine rd1 7 rfl (fun K hK => ?_)
  go_simp
  refine (HAP.out.mono ?_)
  rintro v v8 ⟨e, rfl, hk8, ha8⟩
  have HK8 : Hid (KF w7.drew v8) := Lib.hid hk8; have HA8 := Lib.hid ha8
  have cb8 : v8.cell? ⟨b, 0, none⟩ = some (.pointer (some ⟨g, 0, none⟩)) := by rw [cell_of_row _ _ _ _ _ _ (HR7.out.kf hk8)]; rfl
  have cs8 : v8.cell? ⟨s, 0, none⟩ = some (.slice A m cap) := by rw [cell_of_row _ _ _ _ _ _ (hk8.row H07.out (not_st (by decide) (by decide) (by decide)))]; rfl
  clear hk8 ha8
  refine hK.out _ _ ⟨cb8, cs8⟩ (fun hHeld => ?_)
  clear hK K cb8 cs8
  try simp only [qz]
  refine tkm 8 (.string nm) rfl hHeld ?_
  try simp only [qz]
  refine tkm 9 (.int .i64 e) rfl hHeld ?_
  try simp only [qz]
  refine wpAnyH_done (by kernel_rfl) ?_ _
  clear hHeld
  go_wp2_with fail
  have HD8 : v8.heap[D]? = some (.deferred (some [])) := HK8.out.kept D _ HD7.out (fun cs t fr e => by cases e)
  try dsimp only [noPanicO, bodyPostM]
  refine ⟨by simp, .inl ⟨_, _, rfl, run_takeDeferred HD8, ?_⟩⟩
  have hwD : (w.setCell ⟨b, 3, none⟩ (.int .i64 ((k + 1 : Nat) : Int))).heap.size ≤ D := by rw [setCell_size]; have := HDS.out; have := HS.out; omega
  refine ⟨_, results_tmp2O rfl _ _ _, e, rfl, (HK7.out.trans HK8.out).putD D _ hwD, ?_⟩
  have hbD : W.b.heap.size ≤ D := by have := HBS.out; have := HDS.out; omega
  refine HA8.out.imp (fun h => ⟨h.1, by rw [← HM7.out]; exact h.2.1, ?_⟩) (fun h => h.putD D _ HD8 hbD)
  obtain ⟨ys, h1, h2⟩ := h.2.2
  exact ⟨ys, h1, h2.putD D _ HD8 hbD⟩
end
end Go.Proofs.YtjldamkmdkaiiaaGreatDoor
