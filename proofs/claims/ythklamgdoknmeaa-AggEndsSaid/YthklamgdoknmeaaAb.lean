/-
  Layer agg: a state as a struct of 39 cells: what lies where, and how it is built.
-/
import Derived.Test.YthklamgdoknmeaaSk
import Derived.Test.YthklamgdoknmeaaLc
import Derived.Deep.RegionHeld
import Derived.Deep.MidRow
set_option linter.unusedSimpArgs false
set_option linter.unusedVariables false
set_option maxRecDepth 8000
namespace Go.Proofs.Ythklamgdoknmeaa.Sm
/-- A state's cells: how many, the sum, the least, the greatest. -/
def T39 (n : Nat) (f : Nat → Nat) (h lo hi : Nat) : Array Value := #[.int .u64 (n : Int)] ++ P36 f h ++ #[.int .u64 (lo : Int), .int .u64 (hi : Int)]
section
variable (n : Nat) (f : Nat → Nat) (h lo hi : Nat)
theorem T39_size : (T39 n f h lo hi).size = 39 := by unfold T39; simp [P36_size]
theorem T39_n : (T39 n f h lo hi)[0]? = some (.int .u64 (n : Int)) := by
  unfold T39; simp [Array.getElem?_append, P36_size]
theorem T39_sum (i : Nat) (hi' : i < 36) : (T39 n f h lo hi)[1 + i]? = (P36 f h)[i]? := by
  unfold T39
  rw [Array.getElem?_append_left (by simp [P36_size]; omega), Array.getElem?_append_right (by simp)]
  simp
theorem T39_lo : (T39 n f h lo hi)[37]? = some (.int .u64 (lo : Int)) := by
  unfold T39
  rw [Array.getElem?_append_right (by simp [P36_size])]
  simp [P36_size]
theorem T39_hi : (T39 n f h lo hi)[38]? = some (.int .u64 (hi : Int)) := by
  unfold T39
  rw [Array.getElem?_append_right (by simp [P36_size])]
  simp [P36_size]
theorem one39 : (T39 n f h lo hi).all (·.oneCell') = true := by
  unfold T39
  rw [Array.all_append, Array.all_append, one36]; simp [Value.oneCell']
theorem T39_ext {a : Array Value} (hs : a.size = 39) (h0 : a[0]? = some (.int .u64 (n : Int))) (h1 : ∀ i, i < 36 → a[1 + i]? = (P36 f h)[i]?) (h2 : a[37]? = some (.int .u64 (lo : Int))) (h3 : a[38]? = some (.int .u64 (hi : Int))) : a = T39 n f h lo hi := by
  apply Array.ext_getElem?
  intro i
  by_cases e0 : i = 0
  · subst e0; rw [h0, T39_n]
  by_cases e1 : i < 37
  · obtain ⟨j, rfl⟩ : ∃ j, i = 1 + j := ⟨i - 1, by omega⟩
    rw [h1 j (by omega), T39_sum _ _ _ _ _ j (by omega)]
  by_cases e2 : i = 37
  · subst e2; rw [h2, T39_lo]
  by_cases e3 : i = 38
  · subst e3; rw [h3, T39_hi]
  rw [Array.getElem?_eq_none (by omega), Array.getElem?_eq_none (by rw [T39_size]; omega)]
end
theorem zeros39 : (#[Value.int .u64 0, .int .u64 0, .int .u64 0, .int .u64 0, .int .u64 0, .int .u64 0, .int .u64 0, .int .u64 0, .int .u64 0, .int .u64 0, .int .u64 0, .int .u64 0, .int .u64 0, .int .u64 0, .int .u64 0, .int .u64 0, .int .u64 0, .int .u64 0, .int .u64 0, .int .u64 0, .int .u64 0, .int .u64 0, .int .u64 0, .int .u64 0, .int .u64 0, .int .u64 0, .int .u64 0, .int .u64 0, .int .u64 0, .int .u64 0, .int .u64 0, .int .u64 0, .int .u64 0, .int .u64 0, .int .u64 0, .int .u64 0, .int .u8 0, .int .u64 0, .int .u64 0] : Array Value) = T39 0 (fun _ => 0) 0 0 0 := by
  unfold T39; rw [← zeros36]; rfl
/-- Parts put into cells, as a list. -/
theorem zfold (off : Nat) : ∀ (l : List Value) (k : Nat) (cs : Array Value), (l.zipIdx k).foldl (fun cs (p : Value × Nat) => cs.setIfInBounds (off + p.2) p.1) cs = putAll cs (off + k) l
  | [], k, cs => rfl
  | v :: l, k, cs => by
    rw [List.zipIdx_cons, List.foldl_cons, zfold off l (k + 1), putAll]; rfl
theorem putAll_size : ∀ (vs : List Value) (cur : Array Value) (i : Nat), (putAll cur i vs).size = cur.size
  | [], cur, i => rfl
  | v :: r, cur, i => by rw [putAll, putAll_size r]; simp
attribute [irreducible] T39
end Go.Proofs.Ythklamgdoknmeaa.Sm
namespace Go.Proofs.Ythklamgdoknmeaa
open Go.RowKit Sm
theorem uT : Try.prog.underlying 40 = some (.struct (Try.prog.fieldsOf 40)) := by kernel_rfl
theorem iT (n : Nat) (f : Nat → Nat) (h lo hi : Nat) : (Try.prog.info? 40).map (·.size) = some (T39 n f h lo hi).size := by rw [T39_size]; kernel_rfl
theorem zeroT : ((Try.prog.info? 40).bind (·.zero)).map (·.cells) = some (T39 0 (fun _ => 0) 0 0 0) := by rw [← zeros39]; kernel_rfl
theorem placesT : ((Try.prog.fieldsOf 40).toList.mapM fun f => (Try.prog.info? f.type).map fun i => (f.offset, i.size)) = some [(0, 1), (1, 36), (37, 1), (38, 1)] := by kernel_rfl
theorem aggCells (cs : Array Value) : (Value.agg cs).cells = cs := rfl
theorem fill_one (place : Nat → Option (Nat × Nat)) (cells : Array Value) (i : Nat) (v : Value) (off size : Nat) (rest : List (Nat × Value)) (hp : place i = some (off, size)) (cs : Array Value) (hv : v.cells = cs) (hs : cs.size = size) (hl : off + cs.size ≤ cells.size) :
    Instr.fill place cells ((i, v) :: rest) = Instr.fill place (putAll cells off cs.toList) rest := by
  have e : cs.zipIdx.foldl (fun cs (p : Value × Nat) => cs.setIfInBounds (off + p.2) p.1) cells = putAll cells off cs.toList := by
    rw [← Array.foldl_toList, Array.toList_zipIdx, zfold]; rfl
  rw [Instr.fill, hp]
  dsimp only
  rw [hv]
  have hc : (decide (cs.size ≠ size) || decide (off + cs.size > cells.size)) = false := by simp [hs]; omega
  rw [if_neg (by rw [Bool.or_eq_true, decide_eq_true_eq, decide_eq_true_eq]; omega)]
  exact congrArg (fun c => Instr.fill place c rest) e
theorem built39 (n : Nat) (f : Nat → Nat) (h lo hi : Nat) : Try.prog.built 40 [(0, .int .u64 (n : Int)), (1, .agg (P36 f h)), (2, .int .u64 (lo : Int)), (3, .int .u64 (hi : Int))] = some (T39 n f h lo hi) := by
  have hz := zeroT
  have hp := placesT
  unfold Program.built
  cases hi1 : Try.prog.info? 40 with
  | none => rw [hi1] at hz; cases hz
  | some it =>
    rw [hi1] at hz
    cases hz1 : it.zero with
    | none => simp [hz1] at hz
    | some z =>
      have hzc : z.cells = T39 0 (fun _ => 0) 0 0 0 := by simpa [hz1] using hz
      rw [uT]
      dsimp only
      rw [hz1, hp]
      dsimp only
      rw [hzc]
      have hs := T39_size 0 (fun _ => 0) 0 0 0
      have hP : (P36 f h).toList.length = 36 := by simp [P36_size]
      rw [fill_one _ _ 0 _ 0 1 _ rfl #[.int .u64 (n : Int)] rfl rfl (by rw [hs]; simp),
        fill_one _ _ 1 _ 1 36 _ rfl (P36 f h) rfl (P36_size f h) (by rw [putAll_size, hs, P36_size]; omega),
        fill_one _ _ 2 _ 37 1 _ rfl #[.int .u64 (lo : Int)] rfl rfl (by rw [putAll_size, putAll_size, hs]; simp),
        fill_one _ _ 3 _ 38 1 _ rfl #[.int .u64 (hi : Int)] rfl rfl (by rw [putAll_size, putAll_size, putAll_size, hs]; simp)]
      show some _ = some _
      congr 1
      simp only [putAll, List.toList_toArray]
      refine T39_ext _ _ _ _ _ ?_ ?_ (fun i hi => ?_) ?_ ?_
      · simp [putAll_size, hs]
      · rw [Array.getElem?_setIfInBounds_ne (by omega), Array.getElem?_setIfInBounds_ne (by omega), putAll_get _ _ _ _ (by simp [hP, hs]), if_neg (by omega)]
        simp [hs]
      · rw [Array.getElem?_setIfInBounds_ne (by omega), Array.getElem?_setIfInBounds_ne (by omega), putAll_get _ _ _ _ (by simp [hP, hs]), if_pos (by omega)]
        simp
      · rw [Array.getElem?_setIfInBounds_ne (by omega)]; simp [putAll_size, hs]
      · simp [putAll_size, hs]
theorem wpList_build39 {ops : Array Oper} {rest : List Oper} {o : Oper} {a : Act} {w : World} {Q : Exit → Act → World → Prop} (hgd : o.guard = none) (x0 x1 x2 x3 : Operand) (ho : o.op = .build 40 #[(0, x0), (1, x1), (2, x2), (3, x3)])
    (n : Nat) (f : Nat → Nat) (h lo hi : Nat) (e0 : a.eval x0 = .int .u64 (n : Int)) (e1 : a.eval x1 = .agg (P36 f h)) (e2 : a.eval x2 = .int .u64 (lo : Int)) (e3 : a.eval x3 = .int .u64 (hi : Int))
    (hh : wpList Try.prog ops Q rest (a.put o.dst (.agg (T39 n f h lo hi))) w) : wpList Try.prog ops Q (o :: rest) a w := by
  have e : (#[(0, x0), (1, x1), (2, x2), (3, x3)] : Array (Nat × Operand)).map (fun (i, x) => (i, a.eval x)) = #[(0, .int .u64 (n : Int)), (1, .agg (P36 f h)), (2, .int .u64 (lo : Int)), (3, .int .u64 (hi : Int))] := by simp [e0, e1, e2, e3]
  refine wpList_build hgd _ _ ho ?_ ?_
  · rw [e]
    show (Try.prog.built 40 [(0, .int .u64 (n : Int)), (1, .agg (P36 f h)), (2, .int .u64 (lo : Int)), (3, .int .u64 (hi : Int))]).isSome = true
    rw [built39]; rfl
  · rw [e]
    show wpList _ _ _ _ (a.put o.dst (.agg ((Try.prog.built 40 [(0, .int .u64 (n : Int)), (1, .agg (P36 f h)), (2, .int .u64 (lo : Int)), (3, .int .u64 (hi : Int))]).getD #[]))) w
    rw [built39, Option.getD_some]
    exact hh
/-- In a region that draws its order the built state is a plain value. -/
theorem yb_build39 {ops : Array Oper} {S : World → Prop} {op : Oper} {a : Act} (hw : Region.wanted op (yielded ops a.tmps) = true) (x0 x1 x2 x3 : Operand) (ho : op.op = .build 40 #[(0, x0), (1, x1), (2, x2), (3, x3)])
    (n : Nat) (f : Nat → Nat) (h lo hi : Nat) (e0 : a.eval x0 = .int .u64 (n : Int)) (e1 : a.eval x1 = .agg (P36 f h)) (e2 : a.eval x2 = .int .u64 (lo : Int)) (e3 : a.eval x3 = .int .u64 (hi : Int)) : YieldsIf Try.prog ops S op (.agg (T39 n f h lo hi)) a :=
  .inl ⟨hw, fun w _ => by
    have e : (#[(0, x0), (1, x1), (2, x2), (3, x3)] : Array (Nat × Operand)).map (fun (i, x) => (i, a.eval x)) = #[(0, .int .u64 (n : Int)), (1, .agg (P36 f h)), (2, .int .u64 (lo : Int)), (3, .int .u64 (hi : Int))] := by simp [e0, e1, e2, e3]
    have hb := run_build (P := Try.prog) w 40 #[(0, .int .u64 (n : Int)), (1, .agg (P36 f h)), (2, .int .u64 (lo : Int)), (3, .int .u64 (hi : Int))] _ (built39 n f h lo hi)
    unfold execOp
    simp only [ho, e, Sem.run_bind, Sem.run_pure, hb, Result.andThen_ok]⟩
/-- A state that lies in a block. -/
def StAt (w : World) (g : Nat) (n : Nat) (f : Nat → Nat) (h lo hi : Nat) : Prop := w.heap[g]? = some (.cells (T39 n f h lo hi) 40 (0, 0))
section
variable {w w' : World} {g n h lo hi : Nat} {f : Nat → Nat}
theorem StAt.c0 (H : StAt w g n f h lo hi) : w.cell? ⟨g, 0, none⟩ = some (.int .u64 (n : Int)) := by rw [cell_of_row _ _ _ _ _ _ H, T39_n]
theorem StAt.c2 (H : StAt w g n f h lo hi) : w.cell? ⟨g, 37, none⟩ = some (.int .u64 (lo : Int)) := by rw [cell_of_row _ _ _ _ _ _ H, T39_lo]
theorem StAt.c3 (H : StAt w g n f h lo hi) : w.cell? ⟨g, 38, none⟩ = some (.int .u64 (hi : Int)) := by rw [cell_of_row _ _ _ _ _ _ H, T39_hi]
theorem StAt.mid (H : StAt w g n f h lo hi) : w.rangeAt g 1 (P36 f h).toList := fun j v hv => by
  have hj : j < 36 := by have := (List.getElem?_eq_some_iff.1 hv).1; simpa [P36_size] using this
  rw [cell_of_row _ _ _ _ _ _ H, T39_sum _ _ _ _ _ j hj, ← hv, Array.getElem?_toList]
theorem StAt.keep (H : StAt w g n f h lo hi) (hb : Below w.heap.size w w') : StAt w' g n f h lo hi := row_keep H hb
theorem iP (f : Nat → Nat) (h : Nat) : (Try.prog.info? 27).map (·.size) = some (P36 f h).toList.length := by rw [Array.length_toList]; exact i36 f h
end
end Go.Proofs.Ythklamgdoknmeaa
