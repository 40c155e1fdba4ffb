/-
  Layer mark: the contracts of Of, New.
-/
import Derived.Test.YtgoibcolehcgcaaKa
import Derived.Laws.Rows
import Derived.Laws.Externs
import Derived.Outline
import Derived.Deep.WholeRow
import Derived.Lib.Hide
import Derived.RegionTactic
import Derived.StillTailTactics
set_option linter.unusedSimpArgs false
set_option linter.unusedVariables false
set_option maxRecDepth 8000
namespace Go.Proofs.Ytgoibcolehcgcaa
open Go.RowKit Go.WideShapes Mk
theorem post_rowK {P : Program} {fn : Func} {R : Ending → World → Prop} {a : Act} {w : World} (p : Tmp) (ty : TypeId) (h : fn.results = #[.cell p ty]) (hd : a.defers = []) (g : Nat) (t : TypeId) (cs : Array Value) (fr : Nat × Nat) (d : TypeDesc)
    (hp : a.tmps.getD p undef = .pointer (some ⟨g, 0, none⟩)) (hg : w.heap[g]? = some (.cells cs t fr))
    (hu : P.underlying ty = some d) (hr : (match d with | .struct _ | .array _ _ => true | _ => false) = true) (hi : (P.info? ty).map (·.size) = some cs.size)
    (hR : R (.returned (.agg cs)) w) : bodyPost P fn R .ret a w := ⟨hd, _, results_cell_row h a.tmps w g t cs fr d hp hg hu hr hi, hR⟩
theorem below_setRowK {B : Nat} {a w : World} (h : Below B a w) {g : Nat} (hg : B ≤ g) (cs : Array Value) : Below B a (w.setRow g cs) :=
  h.trans ⟨rfl, rfl, rfl, by simp, fun k hk => setRow_other w g k cs (by omega)⟩
theorem row_keep {w w' : World} {g : Nat} {o : Obj} (h : w.heap[g]? = some o) (hb : Below w.heap.size w w') : w'.heap[g]? = some o := (hb.block g (Array.getElem?_eq_some_iff.1 h).1).trans h
theorem uM : Try.prog.underlying 28 = some (.struct (Try.prog.fieldsOf 28)) := by kernel_rfl
theorem iM0 : (Try.prog.info? 28).map (·.size) = some 17 := by kernel_rfl
theorem iM (n : Int) (g : Nat → Option Int) : (Try.prog.info? 28).map (·.size) = some (MC n g).size := by rw [MC_size]; exact iM0
theorem zerosM : (#[Value.int .i64 0, .bool false, .int .i64 0, .bool false, .int .i64 0, .bool false, .int .i64 0, .bool false, .int .i64 0, .bool false, .int .i64 0, .bool false, .int .i64 0, .bool false, .int .i64 0, .bool false, .int .i64 0] : Array Value) = MC 0 (fun _ => none) := by
  unfold MC; rfl
/-- What is told of a partition: its time, and whether there is one. -/
def OfEnds (w : World) (o : Option Int) (e : Ending) (w' : World) : Prop := e = .returned (.tuple #[.int .i64 (o.getD 0), .bool o.isSome]) ∧ Below w.heap.size w w'
set_option maxHeartbeats 1000000 in
theorem ofM_out (n p : Int) (g : Nat → Option Int) (hp : p < 0 ∨ n ≤ p) (w : World) :
    Calls Try.prog 11 #[.agg (MC n g), .int .i64 p] w (OfEnds w none) := by
  have h0 := MC_n n g
  rcases hp with hp | hp
  · go_enter Try.func11, Try.ntmps11
    go_wp2
    go_ret2
    exact ⟨rfl, (Below.refl _ _).alloc (Nat.le_refl _) _⟩
  · by_cases h : p < 0
    · go_enter Try.func11, Try.ntmps11
      go_wp2
      go_ret2
      exact ⟨rfl, (Below.refl _ _).alloc (Nat.le_refl _) _⟩
    · go_enter Try.func11, Try.ntmps11
      go_wp2
      go_ret2
      exact ⟨rfl, (Below.refl _ _).alloc (Nat.le_refl _) _⟩
set_option maxHeartbeats 1000000 in
theorem ofM_in (n : Int) (p : Nat) (g : Nat → Option Int) (hp : (p : Int) < n) (h8 : p < 8) (w : World) :
    Calls Try.prog 11 #[.agg (MC n g), .int .i64 (p : Int)] w (OfEnds w (g p)) := by
  have h0 := MC_n n g
  have h1 := MC_seen n g p h8
  have h2 := MC_time n g p h8
  go_enter Try.func11, Try.ntmps11
  go_wp2
  go_region
  go_wp2
  go_ret2
  exact ⟨rfl, ((Below.refl _ _).alloc (Nat.le_refl _) _).drew⟩
theorem ofM_any (n p : Int) (g : Nat → Option Int) (hn : n ≤ 8) (o : Option Int) (ho : Hid (o = if 0 ≤ p ∧ p < n then g p.toNat else none)) (w : World) :
    Calls Try.prog 11 #[.agg (MC n g), .int .i64 p] w (OfEnds w o) := by
  have ho := ho.out
  by_cases h : 0 ≤ p ∧ p < n
  · obtain ⟨k, rfl⟩ : ∃ k : Nat, p = (k : Int) := ⟨p.toNat, by omega⟩
    rw [if_pos h] at ho
    subst ho
    exact ofM_in n k g h.2 (by omega) w
  · rw [if_neg h] at ho
    subst ho
    exact ofM_out n p g (by omega) w
theorem results_cell_tmpK {P : Program} {fn : Func} {p q : Tmp} {ty : TypeId} (h : fn.results = #[.cell p ty, .tmp q]) (tmps : Array Value) (w : World) (g : Nat) (t : TypeId) (cs : Array Value) (fr : Nat × Nat) (d : TypeDesc) (hp : tmps.getD p undef = .pointer (some ⟨g, 0, none⟩)) (hg : w.heap[g]? = some (.cells cs t fr))
    (hu : P.underlying ty = some d) (hr : (match d with | .struct _ | .array _ _ => true | _ => false) = true) (hi : (P.info? ty).map (·.size) = some cs.size) : (results fn tmps).run P w = .ok (.tuple #[.agg cs, tmps.getD q undef]) w := by
  have hp' : tmps[p]?.getD undef = .pointer (some ⟨g, 0, none⟩) := by simpa using hp
  simp [results, h, hp', asAddr, run_loadVar_row w g t ty cs fr d hg hu hr hi]
theorem post_row2K {P : Program} {fn : Func} {R : Ending → World → Prop} {a : Act} {w : World} (p q : Tmp) (ty : TypeId) (h : fn.results = #[.cell p ty, .tmp q]) (hd : a.defers = []) (g : Nat) (t : TypeId) (cs : Array Value) (fr : Nat × Nat) (d : TypeDesc)
    (hp : a.tmps.getD p undef = .pointer (some ⟨g, 0, none⟩)) (hg : w.heap[g]? = some (.cells cs t fr))
    (hu : P.underlying ty = some d) (hr : (match d with | .struct _ | .array _ _ => true | _ => false) = true) (hi : (P.info? ty).map (·.size) = some cs.size)
    (hR : R (.returned (.tuple #[.agg cs, a.tmps.getD q undef])) w) : bodyPost P fn R .ret a w := ⟨hd, _, results_cell_tmpK h a.tmps w g t cs fr d hp hg hu hr hi, hR⟩
theorem builtM (n : Int) : Try.prog.built 28 [(0, .int .i64 n)] = some (MC n (fun _ => none)) := by
  have e : MC n (fun _ => none) = #[Value.int .i64 n, .bool false, .int .i64 0, .bool false, .int .i64 0, .bool false, .int .i64 0, .bool false, .int .i64 0, .bool false, .int .i64 0, .bool false, .int .i64 0, .bool false, .int .i64 0, .bool false, .int .i64 0] := by unfold MC; rfl
  refine Eq.trans ?_ (congrArg some e.symm)
  kernel_rfl
theorem builtM0 : Try.prog.built 28 [] = some (MC 0 (fun _ => none)) := by
  rw [← zerosM]
  kernel_rfl
theorem wpList_buildM {ops : Array Oper} {rest : List Oper} {o : Oper} {a : Act} {w : World} {Q : Exit → Act → World → Prop} (hgd : o.guard = none) (x0 : Operand) (ho : o.op = .build 28 #[(0, x0)])
    (n : Int) (e0 : a.eval x0 = .int .i64 n) (hh : wpList Try.prog ops Q rest (a.put o.dst (.agg (MC n (fun _ => none)))) w) : wpList Try.prog ops Q (o :: rest) a w := by
  have e : (#[(0, x0)] : Array (Nat × Operand)).map (fun (i, x) => (i, a.eval x)) = #[(0, .int .i64 n)] := by simp [e0]
  refine wpList_build hgd _ _ ho ?_ ?_
  · rw [e]
    show (Try.prog.built 28 [(0, .int .i64 n)]).isSome = true
    rw [builtM]; rfl
  · rw [e]
    show wpList _ _ _ _ (a.put o.dst (.agg ((Try.prog.built 28 [(0, .int .i64 n)]).getD #[]))) w
    rw [builtM, Option.getD_some]
    exact hh
theorem wpList_buildM0 {ops : Array Oper} {rest : List Oper} {o : Oper} {a : Act} {w : World} {Q : Exit → Act → World → Prop} (hgd : o.guard = none) (ho : o.op = .build 28 #[])
    (hh : wpList Try.prog ops Q rest (a.put o.dst (.agg (MC 0 (fun _ => none)))) w) : wpList Try.prog ops Q (o :: rest) a w := by
  have e : (#[] : Array (Nat × Operand)).map (fun (i, x) => (i, a.eval x)) = #[] := by simp
  refine wpList_build hgd _ _ ho ?_ ?_
  · rw [e]
    show (Try.prog.built 28 []).isSome = true
    rw [builtM0]; rfl
  · rw [e]
    show wpList _ _ _ _ (a.put o.dst (.agg ((Try.prog.built 28 []).getD #[]))) w
    rw [builtM0, Option.getD_some]
    exact hh
/-- What New ends with. -/
def NewM (w : World) (n : Int) (err : Int) (e : Ending) (w' : World) : Prop := e = .returned (.tuple #[.agg (MC n (fun _ => none)), .int .i64 err]) ∧ Below w.heap.size w w'
set_option maxHeartbeats 1000000 in
theorem newM_yes (n : Int) (h1 : 1 ≤ n) (h8 : n ≤ 8) (w : World) : Calls Try.prog 7 #[.int .i64 n] w (NewM w n 0) := by
  have HR := Lib.hid (heap_alloc_new' w (.cells (MC 0 (fun _ => none)) 28))
  go_enter Try.func7, Try.ntmps7
  go_wp2_with (first
    | (refine wpList_buildM rfl (.tmp 11) rfl n rfl ?_)
    | (rw [zerosM]; refine wpList_store_row rfl 28 (.tmp 2) (.tmp 12) rfl w.heap.size (MC n (fun _ => none)) rfl rfl _ _ HR.out (iM _ _) (by rw [MC_size, MC_size]) (MC_one _ _) ?_))
  exact post_row2K 2 3 28 Try.results7 rfl w.heap.size 28 _ (0, 0) _ rfl (setRow_heap _ _ _ _ _ _ HR.out) uM rfl (iM _ _) ⟨rfl, below_setRowK ((Below.refl _ _).alloc (Nat.le_refl _) _) (Nat.le_refl _) _⟩
set_option maxHeartbeats 1000000 in
theorem newM_no (n : Int) (h : n < 1 ∨ 8 < n) (w : World) : Calls Try.prog 7 #[.int .i64 n] w (NewM w 0 1) := by
  have HR := Lib.hid (heap_alloc_new' w (.cells (MC 0 (fun _ => none)) 28))
  by_cases h1 : n < 1
  · go_enter Try.func7, Try.ntmps7
    go_wp2_with (first
      | (refine wpList_buildM0 rfl rfl ?_)
      | (rw [zerosM]; refine wpList_store_row rfl 28 (.tmp 2) (.tmp 10) rfl w.heap.size (MC 0 (fun _ => none)) rfl rfl _ _ HR.out (iM _ _) rfl (MC_one _ _) ?_))
    exact post_row2K 2 3 28 Try.results7 rfl w.heap.size 28 _ (0, 0) _ rfl (setRow_heap _ _ _ _ _ _ HR.out) uM rfl (iM _ _) ⟨rfl, below_setRowK ((Below.refl _ _).alloc (Nat.le_refl _) _) (Nat.le_refl _) _⟩
  · have h2 : 8 < n := by omega
    go_enter Try.func7, Try.ntmps7
    go_wp2_with (first
      | (refine wpList_buildM0 rfl rfl ?_)
      | (rw [zerosM]; refine wpList_store_row rfl 28 (.tmp 2) (.tmp 10) rfl w.heap.size (MC 0 (fun _ => none)) rfl rfl _ _ HR.out (iM _ _) rfl (MC_one _ _) ?_))
    exact post_row2K 2 3 28 Try.results7 rfl w.heap.size 28 _ (0, 0) _ rfl (setRow_heap _ _ _ _ _ _ HR.out) uM rfl (iM _ _) ⟨rfl, below_setRowK ((Below.refl _ _).alloc (Nat.le_refl _) _) (Nat.le_refl _) _⟩
end Go.Proofs.Ytgoibcolehcgcaa
