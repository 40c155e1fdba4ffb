/-
  Layer agg: a state as a struct of 39 cells: what lies where, and how it is built.
-/
import Derived.Deep.RegionHeld
import Derived.Deep.MidRow
import Derived.Test.YtbimfopbilcdgaaQZy1
import Derived.Test.YtbimfopbilcdgaaQZy2
import Derived.Test.YtbimfopbilcdgaaRows
import Derived.WalkKit
import Derived.WalkSpells
import Derived.WalkLawsBesides
import Derived.Lib.Hide
import Derived.Deep.QuietTactic
import Derived.BigQuiet
import Derived.Deep.AppendLies
import Derived.Laws.CopyOwn
import Derived.Maps.AppendAt
import Derived.Deep.RegionHeld3
import Derived.Deep.Draws
import Derived.Laws.BytesArg
import Derived.Lib.SlBytesConst
import Derived.Test.YtbimfopbilcdgaaQZy0
set_option linter.unusedSimpArgs false
set_option linter.unusedVariables false
set_option maxRecDepth 8000
namespace Go.Proofs.Ytbimfopbilcdgaa.Sm
/-- A state's cells: how many, the sum, the least, the greatest. -/
def T39 (n : Nat) (f : Nat → Nat) (h lo hi : Nat) : Array Value := #[.int .u64 (n : Int)] ++ P36 f h ++ #[.int .u64 (lo : Int), .int .u64 (hi : Int)]
section
variable (n : Nat) (f : Nat → Nat) (h lo hi : Nat)
theorem T39_size : (T39 n f h lo hi).size = 39 := by unfold T39; simp [P36_size]
theorem T39_n : (T39 n f h lo hi)[0]? = some (.int .u64 (n : Int)) := by
  unfold T39; simp [Array.getElem?_append, P36_size]
theorem T39_sum (i : Nat) (hi' : i < 36) : (T39 n f h lo hi)[1 + i]? = (P36 f h)[i]? := by
  unfold T39
  rw [Array.getElem?_append_left (by simp [P36_size]; omega), Array.getElem?_append_right (by simp)]
  simp
theorem T39_lo : (T39 n f h lo hi)[37]? = some (.int .u64 (lo : Int)) := by
  unfold T39
  rw [Array.getElem?_append_right (by simp [P36_size])]
  simp [P36_size]
theorem T39_hi : (T39 n f h lo hi)[38]? = some (.int .u64 (hi : Int)) := by
  unfold T39
  rw [Array.getElem?_append_right (by simp [P36_size])]
  simp [P36_size]
theorem one39 : (T39 n f h lo hi).all (·.oneCell') = true := by
  unfold T39
  rw [Array.all_append, Array.all_append, one36]; simp [Value.oneCell']
theorem T39_ext {a : Array Value} (hs : a.size = 39) (h0 : a[0]? = some (.int .u64 (n : Int))) (h1 : ∀ i, i < 36 → a[1 + i]? = (P36 f h)[i]?) (h2 : a[37]? = some (.int .u64 (lo : Int))) (h3 : a[38]? = some (.int .u64 (hi : Int))) : a = T39 n f h lo hi := by
  apply Array.ext_getElem?
  intro i
  by_cases e0 : i = 0
  · subst e0; rw [h0, T39_n]
  by_cases e1 : i < 37
  · obtain ⟨j, rfl⟩ : ∃ j, i = 1 + j := ⟨i - 1, by omega⟩
    rw [h1 j (by omega), T39_sum _ _ _ _ _ j (by omega)]
  by_cases e2 : i = 37
  · subst e2; rw [h2, T39_lo]
  by_cases e3 : i = 38
  · subst e3; rw [h3, T39_hi]
  rw [Array.getElem?_eq_none (by omega), Array.getElem?_eq_none (by rw [T39_size]; omega)]
end
theorem zeros39 : (#[Value.int .u64 0, .int .u64 0, .int .u64 0, .int .u64 0, .int .u64 0, .int .u64 0, .int .u64 0, .int .u64 0, .int .u64 0, .int .u64 0, .int .u64 0, .int .u64 0, .int .u64 0, .int .u64 0, .int .u64 0, .int .u64 0, .int .u64 0, .int .u64 0, .int .u64 0, .int .u64 0, .int .u64 0, .int .u64 0, .int .u64 0, .int .u64 0, .int .u64 0, .int .u64 0, .int .u64 0, .int .u64 0, .int .u64 0, .int .u64 0, .int .u64 0, .int .u64 0, .int .u64 0, .int .u64 0, .int .u64 0, .int .u64 0, .int .u8 0, .int .u64 0, .int .u64 0] : Array Value) = T39 0 (fun _ => 0) 0 0 0 := by
  unfold T39; rw [← zeros36]; rfl
/-- Parts put into cells, as a list. -/
theorem zfold (off : Nat) : ∀ (l : List Value) (k : Nat) (cs : Array Value), (l.zipIdx k).foldl (fun cs (p : Value × Nat) => cs.setIfInBounds (off + p.2) p.1) cs = putAll cs (off + k) l
  | [], k, cs => rfl
  | v :: l, k, cs => by
    rw [List.zipIdx_cons, List.foldl_cons, zfold off l (k + 1), putAll]; rfl
theorem putAll_size : ∀ (vs : List Value) (cur : Array Value) (i : Nat), (putAll cur i vs).size = cur.size
  | [], cur, i => rfl
  | v :: r, cur, i => by rw [putAll, putAll_size r]; simp
attribute [irreducible] T39
end Go.Proofs.Ytbimfopbilcdgaa.Sm
namespace Go.Proofs.Ytbimfopbilcdgaa
open Go.RowKit Sm
theorem uT : Try.prog.underlying 89 = some (.struct (Try.prog.fieldsOf 89)) := by kernel_rfl
theorem iT (n : Nat) (f : Nat → Nat) (h lo hi : Nat) : (Try.prog.info? 89).map (·.size) = some (T39 n f h lo hi).size := by rw [T39_size]; kernel_rfl
theorem zeroT : ((Try.prog.info? 89).bind (·.zero)).map (·.cells) = some (T39 0 (fun _ => 0) 0 0 0) := by rw [← zeros39]; kernel_rfl
theorem placesT : ((Try.prog.fieldsOf 89).toList.mapM fun f => (Try.prog.info? f.type).map fun i => (f.offset, i.size)) = some [(0, 1), (1, 36), (37, 1), (38, 1)] := by kernel_rfl
theorem aggCells (cs : Array Value) : (Value.agg cs).cells = cs := rfl
theorem fill_one (place : Nat → Option (Nat × Nat)) (cells : Array Value) (i : Nat) (v : Value) (off size : Nat) (rest : List (Nat × Value)) (hp : place i = some (off, size)) (cs : Array Value) (hv : v.cells = cs) (hs : cs.size = size) (hl : off + cs.size ≤ cells.size) :
    Instr.fill place cells ((i, v) :: rest) = Instr.fill place (putAll cells off cs.toList) rest := by
  have e : cs.zipIdx.foldl (fun cs (p : Value × Nat) => cs.setIfInBounds (off + p.2) p.1) cells = putAll cells off cs.toList := by
    rw [← Array.foldl_toList, Array.toList_zipIdx, zfold]; rfl
  rw [Instr.fill, hp]
  dsimp only
  rw [hv]
  have hc : (decide (cs.size ≠ size) || decide (off + cs.size > cells.size)) = false := by simp [hs]; omega
  rw [if_neg (by rw [Bool.or_eq_true, decide_eq_true_eq, decide_eq_true_eq]; omega)]
  exact congrArg (fun c => Instr.fill place c rest) e
theorem built39 (n : Nat) (f : Nat → Nat) (h lo hi : Nat) : Try.prog.built 89 [(0, .int .u64 (n : Int)), (1, .agg (P36 f h)), (2, .int .u64 (lo : Int)), (3, .int .u64 (hi : Int))] = some (T39 n f h lo hi) := by
  have hz := zeroT
  have hp := placesT
  unfold Program.built
  cases hi1 : Try.prog.info? 89 with
  | none => rw [hi1] at hz; cases hz
  | some it =>
    rw [hi1] at hz
    cases hz1 : it.zero with
    | none => simp [hz1] at hz
    | some z =>
      have hzc : z.cells = T39 0 (fun _ => 0) 0 0 0 := by simpa [hz1] using hz
      rw [uT]
      dsimp only
      rw [hz1, hp]
      dsimp only
      rw [hzc]
      have hs := T39_size 0 (fun _ => 0) 0 0 0
      have hP : (P36 f h).toList.length = 36 := by simp [P36_size]
      rw [fill_one _ _ 0 _ 0 1 _ rfl #[.int .u64 (n : Int)] rfl rfl (by rw [hs]; simp),
        fill_one _ _ 1 _ 1 36 _ rfl (P36 f h) rfl (P36_size f h) (by rw [putAll_size, hs, P36_size]; omega),
        fill_one _ _ 2 _ 37 1 _ rfl #[.int .u64 (lo : Int)] rfl rfl (by rw [putAll_size, putAll_size, hs]; simp),
        fill_one _ _ 3 _ 38 1 _ rfl #[.int .u64 (hi : Int)] rfl rfl (by rw [putAll_size, putAll_size, putAll_size, hs]; simp)]
      show some _ = some _
      congr 1
      simp only [putAll, List.toList_toArray]
      refine T39_ext _ _ _ _ _ ?_ ?_ (fun i hi => ?_) ?_ ?_
      · simp [putAll_size, hs]
      · rw [Array.getElem?_setIfInBounds_ne (by omega), Array.getElem?_setIfInBounds_ne (by omega), putAll_get _ _ _ _ (by simp [hP, hs]), if_neg (by omega)]
        simp [hs]
      · rw [Array.getElem?_setIfInBounds_ne (by omega), Array.getElem?_setIfInBounds_ne (by omega), putAll_get _ _ _ _ (by simp [hP, hs]), if_pos (by omega)]
        simp
      · rw [Array.getElem?_setIfInBounds_ne (by omega)]; simp [putAll_size, hs]
      · simp [putAll_size, hs]
theorem wpList_build39 {ops : Array Oper} {rest : List Oper} {o : Oper} {a : Act} {w : World} {Q : Exit → Act → World → Prop} (hgd : o.guard = none) (x0 x1 x2 x3 : Operand) (ho : o.op = .build 89 #[(0, x0), (1, x1), (2, x2), (3, x3)])
    (n : Nat) (f : Nat → Nat) (h lo hi : Nat) (e0 : a.eval x0 = .int .u64 (n : Int)) (e1 : a.eval x1 = .agg (P36 f h)) (e2 : a.eval x2 = .int .u64 (lo : Int)) (e3 : a.eval x3 = .int .u64 (hi : Int))
    (hh : wpList Try.prog ops Q rest (a.put o.dst (.agg (T39 n f h lo hi))) w) : wpList Try.prog ops Q (o :: rest) a w := by
  have e : (#[(0, x0), (1, x1), (2, x2), (3, x3)] : Array (Nat × Operand)).map (fun (i, x) => (i, a.eval x)) = #[(0, .int .u64 (n : Int)), (1, .agg (P36 f h)), (2, .int .u64 (lo : Int)), (3, .int .u64 (hi : Int))] := by simp [e0, e1, e2, e3]
  refine wpList_build hgd _ _ ho ?_ ?_
  · rw [e]
    show (Try.prog.built 89 [(0, .int .u64 (n : Int)), (1, .agg (P36 f h)), (2, .int .u64 (lo : Int)), (3, .int .u64 (hi : Int))]).isSome = true
    rw [built39]; rfl
  · rw [e]
    show wpList _ _ _ _ (a.put o.dst (.agg ((Try.prog.built 89 [(0, .int .u64 (n : Int)), (1, .agg (P36 f h)), (2, .int .u64 (lo : Int)), (3, .int .u64 (hi : Int))]).getD #[]))) w
    rw [built39, Option.getD_some]
    exact hh
/-- In a region that draws its order the built state is a plain value. -/
theorem yb_build39 {ops : Array Oper} {S : World → Prop} {op : Oper} {a : Act} (hw : Region.wanted op (yielded ops a.tmps) = true) (x0 x1 x2 x3 : Operand) (ho : op.op = .build 89 #[(0, x0), (1, x1), (2, x2), (3, x3)])
    (n : Nat) (f : Nat → Nat) (h lo hi : Nat) (e0 : a.eval x0 = .int .u64 (n : Int)) (e1 : a.eval x1 = .agg (P36 f h)) (e2 : a.eval x2 = .int .u64 (lo : Int)) (e3 : a.eval x3 = .int .u64 (hi : Int)) : YieldsIf Try.prog ops S op (.agg (T39 n f h lo hi)) a :=
  .inl ⟨hw, fun w _ => by
    have e : (#[(0, x0), (1, x1), (2, x2), (3, x3)] : Array (Nat × Operand)).map (fun (i, x) => (i, a.eval x)) = #[(0, .int .u64 (n : Int)), (1, .agg (P36 f h)), (2, .int .u64 (lo : Int)), (3, .int .u64 (hi : Int))] := by simp [e0, e1, e2, e3]
    have hb := run_build (P := Try.prog) w 89 #[(0, .int .u64 (n : Int)), (1, .agg (P36 f h)), (2, .int .u64 (lo : Int)), (3, .int .u64 (hi : Int))] _ (built39 n f h lo hi)
    unfold execOp
    simp only [ho, e, Sem.run_bind, Sem.run_pure, hb, Result.andThen_ok]⟩
/-- A state that lies in a block. -/
def StAt (w : World) (g : Nat) (n : Nat) (f : Nat → Nat) (h lo hi : Nat) : Prop := w.heap[g]? = some (.cells (T39 n f h lo hi) 89 (0, 0))
section
variable {w w' : World} {g n h lo hi : Nat} {f : Nat → Nat}
theorem StAt.c0 (H : StAt w g n f h lo hi) : w.cell? ⟨g, 0, none⟩ = some (.int .u64 (n : Int)) := by rw [cell_of_row _ _ _ _ _ _ H, T39_n]
theorem StAt.c2 (H : StAt w g n f h lo hi) : w.cell? ⟨g, 37, none⟩ = some (.int .u64 (lo : Int)) := by rw [cell_of_row _ _ _ _ _ _ H, T39_lo]
theorem StAt.c3 (H : StAt w g n f h lo hi) : w.cell? ⟨g, 38, none⟩ = some (.int .u64 (hi : Int)) := by rw [cell_of_row _ _ _ _ _ _ H, T39_hi]
theorem StAt.mid (H : StAt w g n f h lo hi) : w.rangeAt g 1 (P36 f h).toList := fun j v hv => by
  have hj : j < 36 := by have := (List.getElem?_eq_some_iff.1 hv).1; simpa [P36_size] using this
  rw [cell_of_row _ _ _ _ _ _ H, T39_sum _ _ _ _ _ j hj, ← hv, Array.getElem?_toList]
theorem StAt.keep (H : StAt w g n f h lo hi) (hb : Below w.heap.size w w') : StAt w' g n f h lo hi := row_keep H hb
theorem iP (f : Nat → Nat) (h : Nat) : (Try.prog.info? 87).map (·.size) = some (P36 f h).toList.length := by rw [Array.length_toList]; exact i36 f h
end
end Go.Proofs.Ytbimfopbilcdgaa

set_option linter.unusedSimpArgs false
set_option linter.unusedVariables false
set_option maxRecDepth 8000
namespace Go.Proofs.Ytbimfopbilcdgaa
open Go.RowKit Go.WideShapes

/-- A slice value that holds some bytes, in a world. -/
def ByAt (w : World) (a : Option Addr) (l : List Nat) : Prop := ∀ (k x : Nat), l[k]? = some x → x < 256 ∧ ∃ g off, a = some ⟨g, off, none⟩ ∧ g < w.heap.size ∧ w.cell? ⟨g, off + k, none⟩ = some (.int .u8 (x : Int))
theorem ByAt.keep {w w' : World} {a : Option Addr} {l : List Nat} (h : ByAt w a l) (hb : Below w.heap.size w w') : ByAt w' a l := fun k x hx => by
  obtain ⟨h1, g, off, h2, h3, h4⟩ := h k x hx
  exact ⟨h1, g, off, h2, Nat.lt_of_lt_of_le h3 hb.size, (hb.cell (p := ⟨g, off + k, none⟩) h3).trans h4⟩
theorem ByAt.lt {w : World} {a : Option Addr} {l : List Nat} (h : ByAt w a l) : ∀ x ∈ l, x < 256 := fun x hx => by
  obtain ⟨k, hk⟩ := List.getElem?_of_mem hx
  exact (h k x hk).1
theorem ByAt.nil (w : World) (a : Option Addr) : ByAt w a [] := fun k x hx => by simp at hx
def bv (x : Nat) : Value := .int .u8 (x : Int)
def bys (l : List Nat) : List Value := l.map bv
theorem bys_length (l : List Nat) : (bys l).length = l.length := List.length_map ..
/-- A block of bytes that is known whole. -/
theorem ByAt.of_row {w : World} {g : Nat} {cs : Array Value} {t : TypeId} {fr : Nat × Nat} (l : List Nat) (hl : ∀ x ∈ l, x < 256) (hrow : w.heap[g]? = some (.cells cs t fr)) (hcs : (bys l).IsPrefix cs.toList) : ByAt w (some ⟨g, 0, none⟩) l := fun k x hx => by
  refine ⟨hl x (List.mem_of_getElem? hx), g, 0, rfl, (Array.getElem?_eq_some_iff.1 hrow).1, ?_⟩
  rw [cell_of_row w g (0 + k) cs t fr hrow, Nat.zero_add, ← Array.getElem?_toList]
  obtain ⟨r, hr⟩ := hcs
  have hk : k < (bys l).length := by rw [bys_length]; exact (List.getElem?_eq_some_iff.1 hx).1
  rw [← hr, List.getElem?_append_left hk]
  unfold bys; rw [List.getElem?_map, hx]; rfl
theorem heap_alloc_new' (w : World) (o : Obj) : (w.alloc o).heap[w.heap.size]? = some o := by show (w.heap.push o)[w.heap.size]? = _; simp
theorem ByAt.at {w w' : World} {a : Option Addr} {l : List Nat} (h : Hid (ByAt w a l)) (hb : Below w.heap.size w w') : Hid (ByAt w' a l) := h.out.keep hb
theorem alloc_eq (w : World) {c c' : Array Value} {t : TypeId} (h : c = c') : w.alloc (.cells c t) = w.alloc (.cells c' t) := by rw [h]
/-- The bytes of a list, all at one place. -/
theorem ByAt.spot {w : World} {a : Option Addr} {l : List Nat} (h : ByAt w a l) (h0 : 0 < l.length) : ∃ g off, a = some ⟨g, off, none⟩ ∧ g < w.heap.size ∧ ∀ (k x : Nat), l[k]? = some x → w.cell? ⟨g, off + k, none⟩ = some (.int .u8 (x : Int)) := by
  obtain ⟨-, g, off, rfl, hg, -⟩ := h 0 l[0] (List.getElem?_eq_getElem h0)
  refine ⟨g, off, rfl, hg, fun k x hx => ?_⟩
  obtain ⟨-, g', off', h2, -, hc⟩ := h k x hx
  cases h2
  exact hc
/-- A slice of bytes that the call owns: its block lies from B on. -/
def OwnS (w : World) (B : Nat) (A : Option Addr) (n cap : Nat) (l : List Nat) : Prop := w.ownsRow B 5 1 (.slice A n cap) n (bys l) ∧ ∀ x ∈ l, x < 256
theorem OwnS.len {w : World} {B n cap : Nat} {A : Option Addr} {l : List Nat} (h : OwnS w B A n cap l) : n = l.length := by have := h.1.1; rw [bys_length] at this; omega
theorem OwnS.caps {w : World} {B n cap : Nat} {A : Option Addr} {l : List Nat} (h : OwnS w B A n cap l) : n ≤ cap ∧ cap ≤ maxLen := by
  rcases h.1.2 with ⟨h1, h2⟩ | ⟨g, cap', cur, h1, -, -, h2, h3, -⟩
  · cases h1; exact ⟨Nat.le_refl _, Nat.zero_le _⟩
  · cases h1; exact ⟨h2, h3⟩
theorem OwnS.byAt {w : World} {B n cap : Nat} {A : Option Addr} {l : List Nat} (h : OwnS w B A n cap l) : ByAt w A l := by
  rcases h.1.2 with ⟨h1, h2⟩ | ⟨g, cap', cur, h1, hb, hrow, -, -, hs, ht⟩
  · have := h.len
    have hl : l = [] := List.eq_nil_of_length_eq_zero (by omega)
    subst hl; exact ByAt.nil _ _
  · cases h1
    exact ByAt.of_row l h.2 hrow ⟨cur.toList.drop (n * 1), by rw [← ht, List.take_append_drop]⟩
theorem OwnS.nil (w : World) (B : Nat) : OwnS w B none 0 0 [] := ⟨w.ownsRow_nil B _ 1, fun x hx => by cases hx⟩
theorem OwnS.keep {w w' : World} {B n cap : Nat} {A : Option Addr} {l : List Nat} (h : OwnS w B A n cap l) (hb : Below w.heap.size w w') : OwnS w' B A n cap l :=
  ⟨h.1.kept (row := none) ⟨hb.os, hb.tape, hb.output, hb.size, fun k hk _ => hb.block k hk⟩ (by rcases A with _ | a <;> simp [Value.ownBlock]), h.2⟩
theorem OwnS.more {w : World} {B n cap : Nat} {A : Option Addr} {l : List Nat} {B' : Nat} (h : OwnS w B A n cap l) (hB : B' ≤ B) : OwnS w B' A n cap l := by
  refine ⟨⟨h.1.1, ?_⟩, h.2⟩
  rcases h.1.2 with h1 | ⟨g, cap', cur, h1, hb, h2⟩
  · exact .inl h1
  · exact .inr ⟨g, cap', cur, h1, Nat.le_trans hB hb, h2⟩
theorem infoU8 : (Try.prog.info? 5).map (fun i => (i.zero, i.size, i.bytes)) = some (some (.int .u8 0), 1, 1) := by kernel_rfl
theorem bys_one (l : List Nat) : ∀ u ∈ bys l, u.oneCell' = true := fun u hu => by
  obtain ⟨x, -, rfl⟩ := List.mem_map.1 hu; rfl
theorem addr_add (g off j : Nat) : (⟨g, off, none⟩ : Addr).add j = ⟨g, off + j, none⟩ := by unfold Addr.add; split <;> simp_all
theorem bys_append (l m : List Nat) : bys (l ++ m) = bys l ++ bys m := List.map_append ..
theorem bys_at {w : World} {a : Addr} {l : List Nat} (h : ByAt w (some a) l) (j : Nat) (u : Value) (hu : (bys l)[j]? = some u) : w.cell? (a.add j) = some u := by
  unfold bys at hu
  rw [List.getElem?_map] at hu
  rcases hx : l[j]? with _ | x
  · rw [hx] at hu; cases hu
  · rw [hx] at hu
    obtain ⟨-, g, off, e, -, hc⟩ := h j x hx
    cases e
    rw [addr_add, hc]; exact hu
/-- append of bytes, the source nil, empty or not. -/
theorem run_append_by (w : World) (B : Nat) (A : Option Addr) (n cap : Nat) (l : List Nat) (hown : OwnS w B A n cap l) (a : Option Addr) (m c : Nat) (l2 : List Nat) (hm : m = l2.length) (h2 : ByAt w a l2)
    (hbytes : n + m ≤ 140737488355328) (hbase : B ≤ w.heap.size) (ty : TypeId) :
    ∃ A' cap' w', (Builtin.append_ #[32, 32] ty #[.slice A n cap, .slice a m c]).run Try.prog w = .ok (.slice A' (n + m) cap') w' ∧ OwnS w' B A' (n + m) cap' (l ++ l2) ∧ w.grownBy w' (A.map (·.block)) ∧
      (A'.map (·.block) = A.map (·.block) ∨ A'.map (·.block) = some w.heap.size) := by
  obtain ⟨i0, hi, hz0, hz1, hz2⟩ := info_parts infoU8
  have hlt : ∀ x ∈ l ++ l2, x < 256 := fun x hx => by
    rcases List.mem_append.1 hx with h | h
    · exact hown.2 x h
    · exact h2.lt x h
  rcases a with _ | ad
  · have hl2 : l2 = [] := by
      rcases l2 with _ | ⟨x, r⟩
      · rfl
      · obtain ⟨-, g, off, e, -⟩ := h2 0 x rfl; cases e
    subst hl2
    have h0 : m = 0 := hm
    subst h0
    refine ⟨A, cap, w, ?_, by rw [Nat.add_zero, List.append_nil]; exact hown, World.grownBy.refl w _, .inl rfl⟩
    rcases hown.1.2 with ⟨h1, h3⟩ | ⟨g, cap', cur, h1, _, _, hnc, _⟩
    · cases h1
      simp [Builtin.append_, run_underlying Try.underlying32, Go.sizeOf, typeInfo, hi, Builtin.lenOf, Builtin.firstCells]
    · cases h1
      simp [Builtin.append_, run_underlying Try.underlying32, Go.sizeOf, typeInfo, hi, Builtin.lenOf, Builtin.firstCells, hnc, storeCells]
  · obtain ⟨v', w', hr, h3, h4, h5, h6⟩ := run_append_own_at (P := Try.prog) w B 32 ty 5 i0 (.int .u8 0) 1 1 Try.underlying32 hi hz0 hz1 hz2 rfl (by decide) _ n (bys l) hown.1 ad m c (bys l2) (by rw [bys_length, hm, Nat.mul_one]) (bys_at h2) (bys_one l2) (by unfold maxLen; omega) (by omega) hbase
    rw [← bys_append] at h3
    rcases h3.2 with ⟨rfl, h0⟩ | ⟨g, cap', cur, rfl, hb, hrest⟩
    · have hn0 : n = 0 := by omega
      have hm0 : m = 0 := by omega
      subst hn0; subst hm0
      exact ⟨none, 0, w', hr, ⟨h3, hlt⟩, by rcases A with _ | _ <;> exact h4, by
        rcases A with _ | _
        · exact .inl rfl
        · exact h6⟩
    · exact ⟨_, _, w', hr, ⟨h3, hlt⟩, by rcases A with _ | _ <;> exact h4, by
        rcases A with _ | _ <;> exact h6⟩
theorem wpList_append_by {w : World} {ops : Array Oper} {rest : List Oper} {o : Oper} {a : Act} {Q : Exit → Act → World → Prop} (hgd : o.guard = none) (s x : Operand)
    (ho : o.op = .call { callee := .builtin .append, args := #[s, x], argTypes := #[32, 32] })
    (B : Nat) (A : Option Addr) (n cap : Nat) (l : List Nat) (hs : a.eval s = .slice A n cap) (hown : OwnS w B A n cap l) (b : Option Addr) (m c : Nat) (l2 : List Nat) (hx : a.eval x = .slice b m c) (hm : m = l2.length) (h2 : ByAt w b l2)
    (hbytes : n + m ≤ 140737488355328) (hbase : B ≤ w.heap.size)
    (h : ∀ A' cap' w', OwnS w' B A' (n + m) cap' (l ++ l2) → w.grownBy w' (A.map (·.block)) → (A'.map (·.block) = A.map (·.block) ∨ A'.map (·.block) = some w.heap.size) → wpList Try.prog ops Q rest (a.put o.dst (.slice A' (n + m) cap')) w') : wpList Try.prog ops Q (o :: rest) a w := by
  refine wpList_plain hgd fun K hK => ?_
  obtain ⟨A', cap', w', hr, h3, h4, h5⟩ := run_append_by w B A n cap l hown b m c l2 hm h2 hbytes hbase o.type
  unfold Oper.wp execOp
  simp only [ho, resolve, invoke, builtin, Sem.run_bind, Sem.run_pure, Result.andThen_ok, List.map_toArray, List.map_cons, List.map_nil, hs, hx, hr]
  exact hK _ _ (h A' cap' w' h3 h4 h5)
/-- A call that returns bytes of its own. -/
def RetS (w : World) (l : List Nat) (e : Ending) (w' : World) : Prop := ∃ A cap, e = .returned (.slice A l.length cap) ∧ OwnS w' w.heap.size A l.length cap l ∧ Below w.heap.size w w'
theorem cut_from (a : Option Addr) (len cap k : Nat) (hk : k ≤ len) (hc : len ≤ cap) :
    ∃ A C, (∀ w, (Instr.slice 32 (.slice a len cap) (some (.int .i64 (k : Int))) none none).run Try.prog w = .ok (.slice A (len - k) C) w) ∧ len - k ≤ C ∧ C ≤ cap ∧ ∀ w l, len = l.length → ByAt w a l → ByAt w A (l.drop k) := by
  refine ⟨if cap = k then a else a.map (·.add k), cap - k, fun w => ?_, by omega, by omega, fun w l hl h j x hx => ?_⟩
  · rw [run_slice_l w 32 a len cap Try.underlying32 .i64 (k : Int) (by omega) (by omega)]
    rw [show (Go.sizeOf (Try.prog.elem 32)).run Try.prog w = .ok 1 w from by kernel_rfl]
    simp [Result.andThen, sliced]
  · rw [List.getElem?_drop] at hx
    obtain ⟨h1, g, off, rfl, hg, hcell⟩ := h _ _ hx
    have hkl := (List.getElem?_eq_some_iff.1 hx).1
    rw [if_neg (by omega)]
    exact ⟨h1, g, off + k, by simp [addr_add], hg, by rw [Nat.add_assoc]; exact hcell⟩
theorem cut_to (a : Option Addr) (len cap k : Nat) (hk : k ≤ len) (hc : len ≤ cap) :
    ∃ A, (∀ w, (Instr.slice 32 (.slice a len cap) none (some (.int .i64 (k : Int))) none).run Try.prog w = .ok (.slice A k cap) w) ∧ ∀ w l, len = l.length → ByAt w a l → ByAt w A (l.take k) := by
  refine ⟨if cap = 0 then a else a.map (·.add 0), fun w => ?_, fun w l hl h j x hx => ?_⟩
  · rw [run_slice_h w 32 a len cap Try.underlying32 .i64 (k : Int) (by omega) (by omega)]
    rw [show (Go.sizeOf (Try.prog.elem 32)).run Try.prog w = .ok 1 w from by kernel_rfl]
    simp [Result.andThen, sliced]
  · rw [List.getElem?_take] at hx
    split at hx
    · obtain ⟨h1, g, off, rfl, hg, hcell⟩ := h _ _ hx
      exact ⟨h1, g, off, by simp [addr_add], hg, hcell⟩
    · cases hx
theorem cut_mid (a : Option Addr) (len cap i j : Nat) (hi : i ≤ j) (hj : j ≤ len) (hc : len ≤ cap) :
    ∃ A C, (∀ w, (Instr.slice 32 (.slice a len cap) (some (.int .i64 (i : Int))) (some (.int .i64 (j : Int))) none).run Try.prog w = .ok (.slice A (j - i) C) w) ∧ j - i ≤ C ∧ C ≤ cap ∧ ∀ w l, len = l.length → ByAt w a l → ByAt w A ((l.drop i).take (j - i)) := by
  refine ⟨if cap = i then a else a.map (·.add i), cap - i, fun w => ?_, by omega, by omega, fun w l hl h m x hx => ?_⟩
  · rw [run_slice_lh w 32 a len cap Try.underlying32 .i64 .i64 (i : Int) (j : Int) (by omega) (by omega) (by omega)]
    rw [show (Go.sizeOf (Try.prog.elem 32)).run Try.prog w = .ok 1 w from by kernel_rfl]
    simp [Result.andThen, sliced]
  · rw [List.getElem?_take] at hx
    split at hx
    · rw [List.getElem?_drop] at hx
      obtain ⟨h1, g, off, rfl, hg, hcell⟩ := h _ _ hx
      have hkl := (List.getElem?_eq_some_iff.1 hx).1
      rw [if_neg (by omega)]
      exact ⟨h1, g, off + i, by simp [addr_add], hg, by rw [Nat.add_assoc]; exact hcell⟩
    · cases hx
theorem below_drewN {B : Nat} {a w : World} (h : Below B a w) (n : Nat) : Below B a (w.drewN n) := ⟨h.os, h.tape, h.output, h.size, h.block⟩
theorem results_tmp4 {fn : Func} {t u v x : Tmp} (h : fn.results = #[.tmp t, .tmp u, .tmp v, .tmp x]) (tmps : Array Value) (P : Program) (w : World) :
    (results fn tmps).run P w = .ok (.tuple #[tmps.getD t undef, tmps.getD u undef, tmps.getD v undef, tmps.getD x undef]) w := by simp [results, h]
theorem drewN_by {w : World} {a : Option Addr} {l : List Nat} (h : Hid (ByAt w a l)) (n : Nat) : Hid (ByAt (w.drewN n) a l) := Lib.hid (h.out.keep (below_drewN (Below.refl _ _) n))
/-- Bytes as a string. -/
def strB (l : List Nat) : ByteArray := strOfNums (l.map Int.ofNat)
theorem strB_inj {l m : List Nat} (hl : ∀ x ∈ l, x < 256) (hm : ∀ x ∈ m, x < 256) (h : strB l = strB m) : l = m := by
  have h1 := congrArg (fun s : ByteArray => s.data.toList) h
  simp only [strB, strOfNums_data, List.map_map] at h1
  have h2 := congrArg (List.map UInt8.toNat) h1
  have key : ∀ r : List Nat, (∀ x ∈ r, x < 256) → (r.map ((fun n : Int => UInt8.ofNat n.toNat) ∘ Int.ofNat)).map UInt8.toNat = r := by
    intro r hr
    rw [List.map_map]
    conv => rhs; rw [← List.map_id r]
    apply List.map_congr_left
    intro x hx
    have := hr x hx
    simp [Function.comp]; omega
  rwa [key l hl, key m hm] at h2
theorem conv_by {w : World} {A : Option Addr} {l : List Nat} (n C : Nat) (h : ByAt w A l) (hn : n = l.length) : (convert 32 9 (.slice A n C)).run Try.prog w = .ok (.string (strB l)) w := by
  rcases l with _ | ⟨x, r⟩
  · subst hn
    rcases A with _ | ad
    · exact run_convert_bytes_nil w 32 5 Try.underlying32 Try.underlying5 _ _ 9 Try.underlying9
    · rw [run_convert_bytes_string w 32 9 5 _ _ C Try.underlying32 Try.underlying5 Try.underlying9]
      rw [run_bytesToString w ad _ C [] (by simpa using run_loadCells_list (P := Try.prog) w ad [] (fun j v hj => by simp at hj))]
      rfl
  · obtain ⟨g, off, rfl, -, hc⟩ := h.spot (by simp)
    refine run_convert_bytes_arg w 32 5 Try.underlying32 Try.underlying5 g off n C ((x :: r).map Int.ofNat) (by rw [List.length_map, hn]) (fun i hi => ?_) 9 Try.underlying9
    have hil : i < (x :: r).length := by omega
    rw [hc i ((x :: r)[i]) (List.getElem?_eq_getElem hil)]
    simp only [List.getD_eq_getElem?_getD, List.getElem?_map, List.getElem?_eq_getElem hil]; rfl
theorem beq_strB {l m : List Nat} (hl : ∀ x ∈ l, x < 256) (hm : ∀ x ∈ m, x < 256) : ((strB l).toList == (strB m).toList) = decide (l = m) := by
  rw [Bool.eq_iff_iff, beq_iff_eq, decide_eq_true_eq]
  constructor
  · intro h
    rw [ByteArray.toList_eq, ByteArray.toList_eq] at h
    exact strB_inj hl hm (bytes_inj h)
  · intro h; rw [h]
/-- A row of bytes that is known whole, with room behind. -/
structure Roomy (w : World) (B g n cap : Nat) (cs : List Value) (l : List Nat) : Prop where
  row : w.heap[g]? = some (.cells cs.toArray 5 (0, 0))
  size : cs.length = cap
  cap : cap ≤ maxLen
  first : cs.take n = bys l
  base : B ≤ g
  lt : ∀ x ∈ l, x < 256
theorem OwnS.of_row {w : World} {B g n cap : Nat} {cs : List Value} {l : List Nat} (hrow : w.heap[g]? = some (.cells cs.toArray 5 (0, 0))) (hs : cs.length = cap) (hc : cap ≤ maxLen) (hn : n = l.length) (hf : cs.take n = bys l) (hb : B ≤ g) (hl : ∀ x ∈ l, x < 256) : OwnS w B (some ⟨g, 0, none⟩) n cap l := by
  have hnc : n ≤ cap := by
    have := congrArg List.length hf
    rw [List.length_take, bys_length] at this
    omega
  exact ⟨⟨by rw [bys_length, hn]; omega, .inr ⟨g, cap, cs.toArray, rfl, hb, hrow, hnc, hc, by rw [List.size_toArray, hs, Nat.mul_one], by rw [Nat.mul_one]; exact hf⟩⟩, hl⟩
theorem row_set {w : World} {g : Nat} {cs : List Value} {t : TypeId} (h : w.heap[g]? = some (.cells cs.toArray t (0, 0))) (i : Nat) (u : Value) : (w.setCell ⟨g, i, none⟩ u).heap[g]? = some (.cells (cs.set i u).toArray t (0, 0)) := by
  simp [World.setCell, Array.getElem?_modify, h]
theorem row_cell {w : World} {g : Nat} {cs : List Value} {t : TypeId} (h : w.heap[g]? = some (.cells cs.toArray t (0, 0))) (i : Nat) (hi : i < cs.length) : w.cell? ⟨g, i, none⟩ = some cs[i] := by
  rw [cell_of_row w g i cs.toArray t (0, 0) h]
  simp [hi]
theorem row_frozen {w : World} {g : Nat} {cs : Array Value} {t : TypeId} (h : w.heap[g]? = some (.cells cs t (0, 0))) (i : Nat) : w.frozen? ⟨g, i, none⟩ = false := by simp [World.frozen?, h]
theorem ByAt.shift {w : World} {g n : Nat} {l m : List Nat} (h : ByAt w (some ⟨g, 0, none⟩) (l ++ m)) (hn : n = l.length) : ByAt w (some ⟨g, n, none⟩) m := fun k x hx => by
  obtain ⟨h1, g', off, e, hg, hc⟩ := h (n + k) x (by rw [List.getElem?_append_right (by omega), hn, Nat.add_sub_cancel_left]; exact hx)
  cases e
  exact ⟨h1, g, n, rfl, hg, by rw [Nat.zero_add] at hc; exact hc⟩
/-- Cuts of a row that is known whole. -/
theorem row_to (g n cap k : Nat) (hk : k ≤ cap) : ∀ w, (Instr.slice 32 (.slice (some ⟨g, 0, none⟩) n cap) none (some (.int .i64 (k : Int))) none).run Try.prog w = .ok (.slice (some ⟨g, 0, none⟩) k cap) w := fun w => by
  rw [run_slice_h w 32 _ n cap Try.underlying32 .i64 (k : Int) (by omega) (by omega)]
  rw [show (Go.sizeOf (Try.prog.elem 32)).run Try.prog w = .ok 1 w from by kernel_rfl]
  simp [Result.andThen, sliced, Addr.add]
theorem row_from (g n cap k : Nat) (hk : k ≤ n) (hc : k < cap) : ∀ w, (Instr.slice 32 (.slice (some ⟨g, 0, none⟩) n cap) (some (.int .i64 (k : Int))) none none).run Try.prog w = .ok (.slice (some ⟨g, k, none⟩) (n - k) (cap - k)) w := fun w => by
  rw [run_slice_l w 32 _ n cap Try.underlying32 .i64 (k : Int) (by omega) (by omega)]
  rw [show (Go.sizeOf (Try.prog.elem 32)).run Try.prog w = .ok 1 w from by kernel_rfl]
  simp only [Result.andThen, sliced, Int.toNat_natCast]
  rw [if_neg (by omega)]
  simp [addr_add]
theorem row_from' (g n cap k j : Nat) (hk : n = k + j) (hc : k < cap) : ∀ w, (Instr.slice 32 (.slice (some ⟨g, 0, none⟩) n cap) (some (.int .i64 (k : Int))) none none).run Try.prog w = .ok (.slice (some ⟨g, k, none⟩) j (cap - k)) w := fun w => by
  have h := row_from g n cap k (by omega) hc w
  rwa [show n - k = j by omega] at h
theorem sizeU8 : (Try.prog.info? 5).map (·.size) = some 1 := by kernel_rfl
theorem copy_src {w w1 : World} {b dp : Option Addr} {ad : Addr} {body : List Nat} (hd : dp = some ad) (HB : Hid (ByAt w b body)) (hb : Below w.heap.size w w1) (h0 : 0 < (bys body).length) : dp = some ad ∧ ∃ ad, b = some ad ∧ ∀ j v, (bys body)[j]? = some v → w1.cell? (ad.add j) = some v := by
  refine ⟨hd, ?_⟩
  have h := HB.out.keep hb
  rcases b with _ | ad
  · rw [bys_length] at h0
    obtain ⟨-, g, off, e, -⟩ := h 0 body[0] (List.getElem?_eq_getElem h0)
    cases e
  · exact ⟨ad, rfl, fun j v hj => bys_at h j v hj⟩
theorem row_new {w : World} {g : Nat} {o o' : Obj} (h : Hid (w.heap[g]? = some o)) : (w.alloc o').drew.heap[g]? = some o := (Below.heap_alloc w o' g (Array.getElem?_eq_some_iff.1 h.out).1).trans h.out
theorem splice_len {α : Type} (L cs : List α) (i : Nat) (h : i + cs.length ≤ L.length) : (splice L i cs).length = L.length := length_splice L i cs h
theorem setCell_size (w : World) (a : Addr) (u : Value) : (w.setCell a u).heap.size = w.heap.size := by simp [World.setCell]
theorem by_size {w : World} {B : Nat} {o : Obj} (h : Hid (B ≤ w.heap.size)) : B ≤ (w.alloc o).heap.size := by simp; exact Nat.le_succ_of_le h.out
/-- A row of the call's own, whole. -/
theorem OwnS.row {w : World} {B n cap : Nat} {A : Option Addr} {l : List Nat} (h : OwnS w B A n cap l) (hn : 0 < n) : ∃ g cs, A = some ⟨g, 0, none⟩ ∧ Roomy w B g n cap cs l := by
  rcases h.1.2 with ⟨h1, h2⟩ | ⟨g, cap', cur, h1, hb, hrow, -, hc, hs, ht⟩
  · omega
  · cases h1
    exact ⟨g, cur.toList, rfl, hrow, by rw [Array.length_toList, hs, Nat.mul_one], hc, by rw [← ht, Nat.mul_one], hb, h.2⟩
theorem Roomy.lt_heap {w : World} {B g n cap : Nat} {cs : List Value} {l : List Nat} (h : Roomy w B g n cap cs l) : g < w.heap.size := (Array.getElem?_eq_some_iff.1 h.row).1
theorem bys_set (l : List Nat) (i x : Nat) : bys (l.set i x) = (bys l).set i (bv x) := by unfold bys; rw [List.map_set]
/-- A byte is written. -/
theorem Roomy.set {w : World} {B g n cap : Nat} {cs : List Value} {l : List Nat} (h : Roomy w B g n cap cs l) (i x : Nat) (hx : x < 256) : Roomy (w.setCell ⟨g, i, none⟩ (.int .u8 (x : Int))) B g n cap (cs.set i (bv x)) (l.set i x) :=
  ⟨row_set h.row i _, by rw [List.length_set, h.size], h.cap, by rw [List.take_set, h.first, bys_set], h.base, fun y hy => by
    rcases List.mem_or_eq_of_mem_set hy with h1 | h1
    · exact h.lt y h1
    · omega⟩
theorem Roomy.own {w : World} {B g n cap : Nat} {cs : List Value} {l : List Nat} (h : Roomy w B g n cap cs l) (hn : n = l.length) : OwnS w B (some ⟨g, 0, none⟩) n cap l := OwnS.of_row h.row h.size h.cap hn h.first h.base h.lt
theorem Roomy.cell {w : World} {B g n cap : Nat} {cs : List Value} {l : List Nat} (h : Roomy w B g n cap cs l) (i x : Nat) (hx : l[i]? = some x) (hi : i < n) : w.cell? ⟨g, i, none⟩ = some (.int .u8 (x : Int)) ∧ w.frozen? ⟨g, i, none⟩ = false := by
  refine ⟨?_, row_frozen h.row i⟩
  rw [cell_of_row w g i cs.toArray _ (0, 0) h.row]
  have h1 : (cs.take n)[i]? = some (bv x) := by rw [h.first]; unfold bys; rw [List.getElem?_map, hx]; rfl
  rw [List.getElem?_take, if_pos hi] at h1
  rw [List.getElem?_toArray]; exact h1
theorem Roomy.le {w : World} {B g n cap : Nat} {cs : List Value} {l : List Nat} (h : Roomy w B g n cap cs l) (hn : n = l.length) : n ≤ cap := by
  have := congrArg List.length h.first
  rw [List.length_take, bys_length, h.size] at this
  omega
theorem conv_at {w w' : World} {A : Option Addr} {l : List Nat} (n C : Nat) (h : Hid (ByAt w A l)) (hb : Below w.heap.size w w') (hn : n = l.length) : (convert 32 9 (.slice A n C)).run Try.prog w' = .ok (.string (strB l)) w' := conv_by n C (h.out.keep hb) hn
theorem below_to {W w w' : World} (h : Below W.heap.size W w) (h' : Below w.heap.size w w') : Below W.heap.size W w' := h.trans (h'.mono h.size)
theorem Roomy.drew {w : World} {B g n cap : Nat} {cs : List Value} {l : List Nat} (h : Roomy w B g n cap cs l) : Roomy w.drew B g n cap cs l := ⟨h.row, h.size, h.cap, h.first, h.base, h.lt⟩
theorem by_one (w : World) (x : Nat) (hx : x < 256) : ByAt (w.alloc (.cells #[.int .u8 (x : Int)] 5)) (some ⟨w.heap.size, 0, none⟩) [x] :=
  ByAt.of_row _ (fun y hy => by simp at hy; omega) (heap_alloc_new' w _) ⟨[], rfl⟩
theorem OwnS.base {w : World} {B n cap : Nat} {A : Option Addr} {l : List Nat} (h : OwnS w B A n cap l) : ∀ k, A.map (·.block) = some k → B ≤ k := fun k hk => by
  rcases h.1.2 with ⟨h1, h2⟩ | ⟨g, cap', cur, h1, hb, _⟩
  · cases h1; cases hk
  · cases h1; simp at hk; omega
theorem strB_size (l : List Nat) : (strB l).size = l.length := by unfold strB; rw [strOfNums_size, List.length_map]
theorem strB_append (l m : List Nat) : strB l ++ strB m = strB (l ++ m) := by
  apply bytes_inj
  unfold strB
  rw [ByteArray.data_append, Array.toList_append, strOfNums_data, strOfNums_data, strOfNums_data, List.map_append, List.map_append]
end Go.Proofs.Ytbimfopbilcdgaa

set_option linter.unusedSimpArgs false
set_option linter.unusedVariables false
set_option maxRecDepth 8000
namespace Go.Proofs.Ytbimfopbilcdgaa
open Go.RowKit
/-- A telling: how many, their sum (its bits), is it over, the least, the greatest. -/
structure Tel where
  c : Nat
  s : Nat
  o : Bool
  lo : Nat
  hi : Nat
structure Tel.Ok (t : Tel) : Prop where
  c : t.c < 18446744073709551616
  s : t.s < 18446744073709551616
  lo : t.lo < 18446744073709551616
  hi : t.hi < 18446744073709551616
def telB (a b : Tel) : Bool := decide ((a.c : Int) = (b.c : Int)) && decide (a.o = b.o) && decide (Fl.canon a.s = Fl.canon b.s) && decide (Fl.canon a.lo = Fl.canon b.lo) && decide (Fl.canon a.hi = Fl.canon b.hi)
def parts5 (c o r1 r2 r3 s : Bool) : Prop := s = (c && o && r1 && r2 && r3)
theorem parts5' {c o r1 r2 r3 s : Bool} (h : parts5 c o r1 r2 r3 s) : s = (c && r1 && o && r2 && r3) := by
  unfold parts5 at h; subst h; cases c <;> cases o <;> cases r1 <;> rfl
def telBoxes (w : World) (x y : Tel) : World := (w.alloc (.cells #[.int .u64 (x.c : Int), .float .f64 x.s, .bool x.o, .float .f64 x.lo, .float .f64 x.hi] 95)).alloc (.cells #[.int .u64 (y.c : Int), .float .f64 y.s, .bool y.o, .float .f64 y.lo, .float .f64 y.hi] 95)
theorem telBoxes_below (w : World) (x y : Tel) : Below w.heap.size w (telBoxes w x y) := ((Below.refl w.heap.size w).alloc (Nat.le_refl _) _).alloc (by simp) _

set_option maxHeartbeats 4000000 in
theorem refAggSame_any (x y : Tel) (hx : x.Ok) (hy : y.Ok) (w : World) : Calls Try.prog 51 #[.agg #[.int .u64 (x.c : Int), .float .f64 x.s, .bool x.o, .float .f64 x.lo, .float .f64 x.hi], .agg #[.int .u64 (y.c : Int), .float .f64 y.s, .bool y.o, .float .f64 y.lo, .float .f64 y.hi]] w fun e w' => e = .returned (.bool (telB x y)) ∧ Below w.heap.size w w' := by
  have HB := Lib.hid (telBoxes_below w x y)
  have H1 := Lib.hid fun w => refSame_any x.s y.s hx.s hy.s w
  have H2 := Lib.hid fun w => refSame_any x.lo y.lo hx.lo hy.lo w
  have H3 := Lib.hid fun w => refSame_any x.hi y.hi hx.hi hy.hi w
  have HS : Hid (parts5 (decide ((x.c : Int) = (y.c : Int))) (decide (x.o = y.o)) (decide (Fl.canon x.s = Fl.canon y.s)) (decide (Fl.canon x.lo = Fl.canon y.lo)) (decide (Fl.canon x.hi = Fl.canon y.hi)) (telB x y)) := Lib.hid rfl
  generalize decide (Fl.canon x.s = Fl.canon y.s) = r1 at *
  generalize decide (Fl.canon x.lo = Fl.canon y.lo) = r2 at *
  generalize decide (Fl.canon x.hi = Fl.canon y.hi) = r3 at *
  generalize telB x y = s at *
  clear hx hy
  obtain ⟨xc, xs, xo, xlo, xhi⟩ := x
  obtain ⟨yc, ys, yo, ylo, yhi⟩ := y
  cases xo <;> cases yo <;> cases r1 <;> cases r2
  all_goals
    go_enter Try.func51, Try.ntmps51
    go_wp2_with (go_at_call 83; first
      | (with_reducible refine (H1.out _).mono ?_; rintro e w' ⟨rfl, rfl⟩)
      | (with_reducible refine (H2.out _).mono ?_; rintro e w' ⟨rfl, rfl⟩)
      | (with_reducible refine (H3.out _).mono ?_; rintro e w' ⟨rfl, rfl⟩))
    all_goals
      go_ret
      refine ⟨ret_eq ?_, ((Below.refl w.heap.size w).alloc (Nat.le_refl _) _).alloc (by simp) _⟩
      have h := HS.out
      replace h := parts5' h
      rw [h]
      exact congrArg Value.bool (by simp [*])

end Go.Proofs.Ytbimfopbilcdgaa

set_option linter.unusedSimpArgs false
set_option linter.unusedVariables false
set_option maxRecDepth 8000
namespace Go.Proofs.Ytbimfopbilcdgaa
open Go.RowKit Sm
/-- A load of the sum in a state that lies in a block. -/
theorem wpList_load_sum {ops : Array Oper} {rest : List Oper} {o : Oper} {a : Act} {w : World} {Q : Exit → Act → World → Prop} (hgd : o.guard = none) (x : Operand) (ho : o.op = .load 87 x) (g : Nat) (hx : a.eval x = .pointer (some ⟨g, 1, none⟩))
    (n : Nat) (f : Nat → Nat) (h lo hi : Nat) (H : StAt w g n f h lo hi) (hh : wpList Try.prog ops Q rest (a.put o.dst (.agg (P36 f h))) w) : wpList Try.prog ops Q (o :: rest) a w :=
  wpList_load_mid hgd 87 x ho g 1 hx _ _ H.mid u27 rfl (iP f h) (by rw [Array.toArray_toList]; exact hh)
theorem yb_load_sum {ops : Array Oper} {S : World → Prop} {op : Oper} {a : Act} (hw : Region.wanted op (yielded ops a.tmps) = true) (x : Operand) (ho : op.op = .load 87 x) (g : Nat) (hx : a.eval x = .pointer (some ⟨g, 1, none⟩))
    (n : Nat) (f : Nat → Nat) (h lo hi : Nat) (H : ∀ w, S w → StAt w g n f h lo hi) : YieldsIf Try.prog ops S op (.agg (P36 f h)) a := by
  have := yieldsIf_load_mid (P := Try.prog) (ops := ops) (S := S) hw 87 x ho g 1 hx (P36 f h).toList _ (fun w hS => (H w hS).mid) u27 rfl (iP f h)
  rwa [Array.toArray_toList] at this
theorem lv_u64 (w : World) (g j : Nat) (v : Value) (h : w.cell? ⟨g, j, none⟩ = some v) : (loadVar 62 ⟨g, j, none⟩).run Try.prog w = .ok v w := by
  go_simp
theorem yb_u64 {ops : Array Oper} {S : World → Prop} {op : Oper} {a : Act} (hw : Region.wanted op (yielded ops a.tmps) = true) (x : Operand) (ho : op.op = .load 62 x) (g j : Nat) (hx : a.eval x = .pointer (some ⟨g, j, none⟩)) (v : Value)
    (hS : ∀ w, S w → w.cell? ⟨g, j, none⟩ = some v) : YieldsIf Try.prog ops S op v a :=
  .inl ⟨hw, fun w hw' => by
    unfold execOp
    simp only [ho, hx, Instr.loadAt, Instr.sureAddr, Sem.run_bind, Sem.run_pure, Result.andThen_ok, lv_u64 w g j v (hS w hw')]⟩
theorem yb_bin {ops : Array Oper} {S : World → Prop} {op : Oper} {a : Act} (hw : Region.wanted op (yielded ops a.tmps) = true) (o : BinOp) (t t2 : TypeId) (x y : Operand) (ho : op.op = .binOp o t x y t2) (v1 v2 u : Value) (hx : a.eval x = v1) (hy : a.eval y = v2)
    (he : ∀ w, (eqGuard o t x y v1 v2).run Try.prog w = .ok () w) (h : ∀ w, (binOp o t v1 v2).run Try.prog w = .ok u w) : YieldsIf Try.prog ops S op u a :=
  .inl ⟨hw, fun w _ => by
    unfold execOp
    simp only [ho, hx, hy, Sem.run_bind, Sem.run_pure, he w, h w, Result.andThen_ok]⟩
/-- Three states in memory. -/
structure J3 (w0 : World) (c1 c2 c3 : Array Value) (w : World) : Prop where
  below : Below w0.heap.size w0 w
  r1 : w.heap[w0.heap.size]? = some (.cells c1 89 (0, 0))
  r2 : w.heap[w0.heap.size + 1]? = some (.cells c2 89 (0, 0))
  r3 : w.heap[w0.heap.size + 2]? = some (.cells c3 89 (0, 0))
theorem J3.start (w : World) (c1 c2 c3 : Array Value) : J3 w c1 c2 c3 (((w.alloc (.cells c1 89)).alloc (.cells c2 89)).alloc (.cells c3 89)) := by
  have e1 : (w.alloc (.cells c1 89)).heap.size = w.heap.size + 1 := by simp
  have e2 : ((w.alloc (.cells c1 89)).alloc (.cells c2 89)).heap.size = w.heap.size + 2 := by simp
  refine ⟨(((Below.refl _ _).alloc (Nat.le_refl _) _).alloc (by rw [e1]; omega) _).alloc (by rw [e2]; omega) _, ?_, ?_, ?_⟩
  · rw [Below.heap_alloc _ _ _ (by rw [e2]; omega)]; exact heap_alloc2_old w _ _
  · rw [Below.heap_alloc _ _ _ (by rw [e2]; omega)]; exact heap_alloc2_new w _ _
  · have h := heap_alloc_new ((w.alloc (.cells c1 89)).alloc (.cells c2 89)) (.cells c3 89)
    rwa [e2] at h
theorem J3.next {w0 w w' : World} {c1 c2 c3 : Array Value} (h : J3 w0 c1 c2 c3 w) (hb : Below w.heap.size w w') : J3 w0 c1 c2 c3 w' :=
  ⟨h.below.trans (hb.mono h.below.size), row_keep h.r1 hb, row_keep h.r2 hb, row_keep h.r3 hb⟩
structure J2 (w0 : World) (c1 c2 : Array Value) (w : World) : Prop where
  below : Below w0.heap.size w0 w
  r1 : w.heap[w0.heap.size]? = some (.cells c1 89 (0, 0))
  r2 : w.heap[w0.heap.size + 1]? = some (.cells c2 89 (0, 0))
theorem J2.next {w0 w w' : World} {c1 c2 : Array Value} (h : J2 w0 c1 c2 w) (hb : Below w.heap.size w w') : J2 w0 c1 c2 w' :=
  ⟨h.below.trans (hb.mono h.below.size), row_keep h.r1 hb, row_keep h.r2 hb⟩
theorem J3.drew {w0 w : World} {c1 c2 c3 : Array Value} (h : J3 w0 c1 c2 c3 w) : J3 w0 c1 c2 c3 w.drew := ⟨h.below.drew, h.r1, h.r2, h.r3⟩
theorem J3.put3 {w0 w : World} {c1 c2 c3 : Array Value} (h : J3 w0 c1 c2 c3 w) (c : Array Value) : Below w0.heap.size w0 (w.setRow (w0.heap.size + 2) c) ∧ (w.setRow (w0.heap.size + 2) c).heap[w0.heap.size + 2]? = some (.cells c 89 (0, 0)) :=
  ⟨below_setRow h.below (by omega) _, setRow_heap _ _ _ _ _ _ h.r3⟩
/-- What a call ends with that answers a state. -/
def StEnds (w : World) (n s h lo hi : Nat) (e : Ending) (w' : World) : Prop := e = .returned (.agg (T39 n (wd s) h lo hi)) ∧ Below w.heap.size w w'

theorem join_at0 : ∀ w : World, True := fun _ => trivial
set_option maxHeartbeats 4000000 in
theorem joinS_l (n1 s1 h1 lo1 hi1 n2 s2 h2 lo2 hi2 : Nat) (hA1 : (bits .and .u8 (h1 : Int) 8 != 0) = false) (w : World) :
    Calls Try.prog 105 #[.agg (T39 n1 (wd s1) h1 lo1 hi1), .agg (T39 n2 (wd s2) h2 lo2 hi2)] w (StEnds w n2 s2 h2 lo2 hi2) := by
  have HJ := Lib.hid (J3.start w (T39 n1 (wd s1) h1 lo1 hi1) (T39 n2 (wd s2) h2 lo2 hi2) (T39 0 (fun _ => 0) 0 0 0))
  go_enter Try.func105, Try.ntmps105
  go_wp2_with (first
    | (rw [zeros39]; refine wpList_load_sum rfl (.tmp 5) rfl w.heap.size rfl n1 (wd s1) h1 lo1 hi1 HJ.out.r1 ?_)
    | (go_at_call 131; (with_reducible refine (any_any s1 h1 _).mono ?_); rintro e w' ⟨rfl, hb⟩; rw [hA1]; have HK := Lib.hid (HJ.out.next hb); clear hb)
    | (refine wpList_load_row rfl 89 (.tmp 3) rfl (w.heap.size + 1) rfl _ (T39 n2 (wd s2) h2 lo2 hi2) (0, 0) _ HK.out.r2 uT rfl (iT _ _ _ _ _) ?_)
    | (refine wpList_store_row rfl 89 (.tmp 4) (.tmp 9) rfl (w.heap.size + 2) (T39 n2 (wd s2) h2 lo2 hi2) rfl rfl _ _ HK.out.r3 (iT _ _ _ _ _) (by rw [T39_size, T39_size]) (one39 _ _ _ _ _) ?_))
  have hp := HK.out.put3 (T39 n2 (wd s2) h2 lo2 hi2)
  exact post_row 4 89 Try.results105 rfl (w.heap.size + 2) 89 _ (0, 0) _ rfl hp.2 uT rfl (iT _ _ _ _ _) ⟨rfl, hp.1⟩
set_option maxHeartbeats 4000000 in
theorem joinS_r (n1 s1 h1 lo1 hi1 n2 s2 h2 lo2 hi2 : Nat) (hA1 : (bits .and .u8 (h1 : Int) 8 != 0) = true) (hA2 : (bits .and .u8 (h2 : Int) 8 != 0) = false) (w : World) :
    Calls Try.prog 105 #[.agg (T39 n1 (wd s1) h1 lo1 hi1), .agg (T39 n2 (wd s2) h2 lo2 hi2)] w (StEnds w n1 s1 h1 lo1 hi1) := by
  have HJ := Lib.hid (J3.start w (T39 n1 (wd s1) h1 lo1 hi1) (T39 n2 (wd s2) h2 lo2 hi2) (T39 0 (fun _ => 0) 0 0 0))
  go_enter Try.func105, Try.ntmps105
  go_wp2_with (first
    | (rw [zeros39]; refine wpList_load_sum rfl (.tmp 5) rfl w.heap.size rfl n1 (wd s1) h1 lo1 hi1 HJ.out.r1 ?_)
    | (refine wpList_load_sum rfl (.tmp 10) rfl (w.heap.size + 1) rfl n2 (wd s2) h2 lo2 hi2 HK.out.r2 ?_)
    | (go_at_call 131; (with_reducible refine (any_any s1 h1 _).mono ?_); rintro e w' ⟨rfl, hb⟩; rw [hA1]; have HK := Lib.hid (HJ.out.next hb); clear hb)
    | (go_at_call 131; (with_reducible refine (any_any s2 h2 _).mono ?_); rintro e w' ⟨rfl, hb⟩; rw [hA2]; have HL := Lib.hid (HK.out.next hb); clear hb)
    | (refine wpList_load_row rfl 89 (.tmp 2) rfl w.heap.size rfl _ (T39 n1 (wd s1) h1 lo1 hi1) (0, 0) _ HL.out.r1 uT rfl (iT _ _ _ _ _) ?_)
    | (refine wpList_store_row rfl 89 (.tmp 4) (.tmp 14) rfl (w.heap.size + 2) (T39 n1 (wd s1) h1 lo1 hi1) rfl rfl _ _ HL.out.r3 (iT _ _ _ _ _) (by rw [T39_size, T39_size]) (one39 _ _ _ _ _) ?_))
  have hp := HL.out.put3 (T39 n1 (wd s1) h1 lo1 hi1)
  exact post_row 4 89 Try.results105 rfl (w.heap.size + 2) 89 _ (0, 0) _ rfl hp.2 uT rfl (iT _ _ _ _ _) ⟨rfl, hp.1⟩

def minC (a b : Nat) : Nat := Fl.canon (Fl.minv (Fl.canon a) (Fl.canon b))
def maxC (a b : Nat) : Nat := Fl.canon (Fl.maxv (Fl.canon a) (Fl.canon b))
theorem minv_lt {a b : Nat} (ha : a < 18446744073709551616) (hb : b < 18446744073709551616) : Fl.minv (Fl.canon a) (Fl.canon b) < 18446744073709551616 := by
  unfold Fl.minv; split <;> exact Fl.canon_lt _ (Fl.canon_lt _ (by assumption))
theorem maxv_lt {a b : Nat} (ha : a < 18446744073709551616) (hb : b < 18446744073709551616) : Fl.maxv (Fl.canon a) (Fl.canon b) < 18446744073709551616 := by
  unfold Fl.maxv; split <;> exact Fl.canon_lt _ (Fl.canon_lt _ (by assumption))
theorem minC_eq (a b : Nat) : minC a b = Fl.canon (Fl.minv (Fl.canon a) (Fl.canon b)) := rfl
theorem maxC_eq (a b : Nat) : maxC a b = Fl.canon (Fl.maxv (Fl.canon a) (Fl.canon b)) := rfl
theorem bitsMin {a b : Nat} (ha : a < 18446744073709551616) (hb : b < 18446744073709551616) (w : World) : Calls Try.prog 104 #[.float .f64 (Fl.minv (Fl.canon a) (Fl.canon b))] w fun e w' => e = .returned (.int .u64 (minC a b : Nat)) ∧ w = w' := bits_any _ (minv_lt ha hb) w
theorem bitsMax {a b : Nat} (ha : a < 18446744073709551616) (hb : b < 18446744073709551616) (w : World) : Calls Try.prog 104 #[.float .f64 (Fl.maxv (Fl.canon a) (Fl.canon b))] w fun e w' => e = .returned (.int .u64 (maxC a b : Nat)) ∧ w = w' := bits_any _ (maxv_lt ha hb) w
attribute [irreducible] minC maxC
set_option maxHeartbeats 8000000 in
theorem joinS_b (n1 s1 h1 lo1 hi1 n2 s2 h2 lo2 hi2 : Nat) (k0 : n1 + n2 < 18446744073709551616) (k1 : lo1 < 18446744073709551616) (k2 : lo2 < 18446744073709551616) (k3 : hi1 < 18446744073709551616) (k4 : hi2 < 18446744073709551616) (q1 : h1 < 256) (q2 : h2 < 256)
    (hA1 : (bits .and .u8 (h1 : Int) 8 != 0) = true) (hA2 : (bits .and .u8 (h2 : Int) 8 != 0) = true) (w : World) :
    Calls Try.prog 105 #[.agg (T39 n1 (wd s1) h1 lo1 hi1), .agg (T39 n2 (wd s2) h2 lo2 hi2)] w (StEnds w (n1 + n2) ((s1 + s2) % top) (h1 ||| h2) (minC lo1 lo2) (maxC hi1 hi2)) := by
  have hadd : ∀ w : World, (binOp .add 62 (.int .u64 (n1 : Int)) (.int .u64 (n2 : Int))).run Try.prog w = .ok (.int .u64 ((n1 + n2 : Nat) : Int)) w := fun w => by
    have e : IntKind.u64.wrap ((n1 : Int) + (n2 : Int)) = ((n1 + n2 : Nat) : Int) := by rw [IntKind.wrap_u64]; omega
    rw [← e]; rfl
  have HJ := Lib.hid (J3.start w (T39 n1 (wd s1) h1 lo1 hi1) (T39 n2 (wd s2) h2 lo2 hi2) (T39 0 (fun _ => 0) 0 0 0))
  go_enter Try.func105, Try.ntmps105
  go_wp2_with (first
    | (rw [zeros39]; refine wpList_load_sum rfl (.tmp 5) rfl w.heap.size rfl n1 (wd s1) h1 lo1 hi1 HJ.out.r1 ?_)
    | (refine wpList_load_sum rfl (.tmp 10) rfl (w.heap.size + 1) rfl n2 (wd s2) h2 lo2 hi2 HK.out.r2 ?_)
    | (go_at_call 131; (with_reducible refine (any_any s1 h1 _).mono ?_); rintro e w' ⟨rfl, hb⟩; rw [hA1]; have HK := Lib.hid (HJ.out.next hb); clear hb)
    | (go_at_call 131; (with_reducible refine (any_any s2 h2 _).mono ?_); rintro e w' ⟨rfl, hb⟩; rw [hA2]; have HL := Lib.hid (HK.out.next hb); clear hb))
  refine wp_region_held_drew (S := J2 w (T39 n1 (wd s1) h1 lo1 hi1) (T39 n2 (wd s2) h2 lo2 hi2)) (by kernel_rfl) ⟨HL.out.drew.below, HL.out.drew.r1, HL.out.drew.r2⟩ (fun hHeld => ?_)
  have HR3 := HL.out.drew.r3
  refine wpAnyH_take (i := 0) (v := .pointer (some ⟨w.heap.size, 0, none⟩)) rfl (by kernel_rfl) (by kernel_rfl) (by kernel_rfl) (fun _ _ _ h => h) (Or.inl ⟨by rfl, fun w _ => by first | rfl | go_simp⟩) hHeld ?_
  try dsimp only
  try simp only [Act.put, List.getElem_toArray, List.getElem_cons_zero, List.getElem_cons_succ, List.setIfInBounds_toArray, List.set_cons_zero, List.set_cons_succ]
  refine wpAnyH_take (i := 1) (v := .int .u64 (n1 : Int)) rfl (by kernel_rfl) (by kernel_rfl) (by kernel_rfl) (fun _ _ _ h => h) (yb_u64 rfl (.tmp 15) rfl w.heap.size 0 rfl _ (fun w' hw' => StAt.c0 hw'.r1)) hHeld ?_
  try dsimp only
  try simp only [Act.put, List.getElem_toArray, List.getElem_cons_zero, List.getElem_cons_succ, List.setIfInBounds_toArray, List.set_cons_zero, List.set_cons_succ]
  refine wpAnyH_take (i := 2) (v := .pointer (some ⟨w.heap.size + 1, 0, none⟩)) rfl (by kernel_rfl) (by kernel_rfl) (by kernel_rfl) (fun _ _ _ h => h) (Or.inl ⟨by rfl, fun w _ => by first | rfl | go_simp⟩) hHeld ?_
  try dsimp only
  try simp only [Act.put, List.getElem_toArray, List.getElem_cons_zero, List.getElem_cons_succ, List.setIfInBounds_toArray, List.set_cons_zero, List.set_cons_succ]
  refine wpAnyH_take (i := 3) (v := .int .u64 (n2 : Int)) rfl (by kernel_rfl) (by kernel_rfl) (by kernel_rfl) (fun _ _ _ h => h) (yb_u64 rfl (.tmp 17) rfl (w.heap.size + 1) 0 rfl _ (fun w' hw' => StAt.c0 hw'.r2)) hHeld ?_
  try dsimp only
  try simp only [Act.put, List.getElem_toArray, List.getElem_cons_zero, List.getElem_cons_succ, List.setIfInBounds_toArray, List.set_cons_zero, List.set_cons_succ]
  refine wpAnyH_take (i := 4) (v := .int .u64 ((n1 + n2 : Nat) : Int)) rfl (by kernel_rfl) (by kernel_rfl) (by kernel_rfl) (fun _ _ _ h => h) (yb_bin rfl .add _ _ _ _ rfl _ _ _ rfl rfl (fun _ => rfl) hadd) hHeld ?_
  try dsimp only
  try simp only [Act.put, List.getElem_toArray, List.getElem_cons_zero, List.getElem_cons_succ, List.setIfInBounds_toArray, List.set_cons_zero, List.set_cons_succ]
  refine wpAnyH_take (i := 5) (v := .pointer (some ⟨w.heap.size, 1, none⟩)) rfl (by kernel_rfl) (by kernel_rfl) (by kernel_rfl) (fun _ _ _ h => h) (Or.inl ⟨by rfl, fun w _ => by first | rfl | go_simp⟩) hHeld ?_
  try dsimp only
  try simp only [Act.put, List.getElem_toArray, List.getElem_cons_zero, List.getElem_cons_succ, List.setIfInBounds_toArray, List.set_cons_zero, List.set_cons_succ]
  refine wpAnyH_take (i := 6) (v := .agg (P36 (wd s1) h1)) rfl (by kernel_rfl) (by kernel_rfl) (by kernel_rfl) (fun _ _ _ h => h) (yb_load_sum rfl (.tmp 20) rfl w.heap.size rfl n1 (wd s1) h1 lo1 hi1 (fun w' hw' => hw'.r1)) hHeld ?_
  try dsimp only
  try simp only [Act.put, List.getElem_toArray, List.getElem_cons_zero, List.getElem_cons_succ, List.setIfInBounds_toArray, List.set_cons_zero, List.set_cons_succ]
  refine wpAnyH_take (i := 7) (v := .pointer (some ⟨w.heap.size + 1, 1, none⟩)) rfl (by kernel_rfl) (by kernel_rfl) (by kernel_rfl) (fun _ _ _ h => h) (Or.inl ⟨by rfl, fun w _ => by first | rfl | go_simp⟩) hHeld ?_
  try dsimp only
  try simp only [Act.put, List.getElem_toArray, List.getElem_cons_zero, List.getElem_cons_succ, List.setIfInBounds_toArray, List.set_cons_zero, List.set_cons_succ]
  refine wpAnyH_take (i := 8) (v := .agg (P36 (wd s2) h2)) rfl (by kernel_rfl) (by kernel_rfl) (by kernel_rfl) (fun _ _ _ h => h) (yb_load_sum rfl (.tmp 22) rfl (w.heap.size + 1) rfl n2 (wd s2) h2 lo2 hi2 (fun w' hw' => hw'.r2)) hHeld ?_
  try dsimp only
  try simp only [Act.put, List.getElem_toArray, List.getElem_cons_zero, List.getElem_cons_succ, List.setIfInBounds_toArray, List.set_cons_zero, List.set_cons_succ]
  refine wpAnyH_take (i := 10) (v := .pointer (some ⟨w.heap.size, 37, none⟩)) rfl (by kernel_rfl) (by kernel_rfl) (by kernel_rfl) (fun _ _ _ h => h) (Or.inl ⟨by rfl, fun w _ => by first | rfl | go_simp⟩) hHeld ?_
  try dsimp only
  try simp only [Act.put, List.getElem_toArray, List.getElem_cons_zero, List.getElem_cons_succ, List.setIfInBounds_toArray, List.set_cons_zero, List.set_cons_succ]
  refine wpAnyH_take (i := 11) (v := .int .u64 (lo1 : Int)) rfl (by kernel_rfl) (by kernel_rfl) (by kernel_rfl) (fun _ _ _ h => h) (yb_u64 rfl (.tmp 25) rfl w.heap.size 37 rfl _ (fun w' hw' => StAt.c2 hw'.r1)) hHeld ?_
  try dsimp only
  try simp only [Act.put, List.getElem_toArray, List.getElem_cons_zero, List.getElem_cons_succ, List.setIfInBounds_toArray, List.set_cons_zero, List.set_cons_succ]
  refine wpAnyH_take (i := 13) (v := .pointer (some ⟨w.heap.size + 1, 37, none⟩)) rfl (by kernel_rfl) (by kernel_rfl) (by kernel_rfl) (fun _ _ _ h => h) (Or.inl ⟨by rfl, fun w _ => by first | rfl | go_simp⟩) hHeld ?_
  try dsimp only
  try simp only [Act.put, List.getElem_toArray, List.getElem_cons_zero, List.getElem_cons_succ, List.setIfInBounds_toArray, List.set_cons_zero, List.set_cons_succ]
  refine wpAnyH_take (i := 14) (v := .int .u64 (lo2 : Int)) rfl (by kernel_rfl) (by kernel_rfl) (by kernel_rfl) (fun _ _ _ h => h) (yb_u64 rfl (.tmp 28) rfl (w.heap.size + 1) 37 rfl _ (fun w' hw' => StAt.c2 hw'.r2)) hHeld ?_
  try dsimp only
  try simp only [Act.put, List.getElem_toArray, List.getElem_cons_zero, List.getElem_cons_succ, List.setIfInBounds_toArray, List.set_cons_zero, List.set_cons_succ]
  refine wpAnyH_take (i := 18) (v := .pointer (some ⟨w.heap.size, 38, none⟩)) rfl (by kernel_rfl) (by kernel_rfl) (by kernel_rfl) (fun _ _ _ h => h) (Or.inl ⟨by rfl, fun w _ => by first | rfl | go_simp⟩) hHeld ?_
  try dsimp only
  try simp only [Act.put, List.getElem_toArray, List.getElem_cons_zero, List.getElem_cons_succ, List.setIfInBounds_toArray, List.set_cons_zero, List.set_cons_succ]
  refine wpAnyH_take (i := 19) (v := .int .u64 (hi1 : Int)) rfl (by kernel_rfl) (by kernel_rfl) (by kernel_rfl) (fun _ _ _ h => h) (yb_u64 rfl (.tmp 33) rfl w.heap.size 38 rfl _ (fun w' hw' => StAt.c3 hw'.r1)) hHeld ?_
  try dsimp only
  try simp only [Act.put, List.getElem_toArray, List.getElem_cons_zero, List.getElem_cons_succ, List.setIfInBounds_toArray, List.set_cons_zero, List.set_cons_succ]
  refine wpAnyH_take (i := 21) (v := .pointer (some ⟨w.heap.size + 1, 38, none⟩)) rfl (by kernel_rfl) (by kernel_rfl) (by kernel_rfl) (fun _ _ _ h => h) (Or.inl ⟨by rfl, fun w _ => by first | rfl | go_simp⟩) hHeld ?_
  try dsimp only
  try simp only [Act.put, List.getElem_toArray, List.getElem_cons_zero, List.getElem_cons_succ, List.setIfInBounds_toArray, List.set_cons_zero, List.set_cons_succ]
  refine wpAnyH_take (i := 22) (v := .int .u64 (hi2 : Int)) rfl (by kernel_rfl) (by kernel_rfl) (by kernel_rfl) (fun _ _ _ h => h) (yb_u64 rfl (.tmp 36) rfl (w.heap.size + 1) 38 rfl _ (fun w' hw' => StAt.c3 hw'.r2)) hHeld ?_
  try dsimp only
  try simp only [Act.put, List.getElem_toArray, List.getElem_cons_zero, List.getElem_cons_succ, List.setIfInBounds_toArray, List.set_cons_zero, List.set_cons_succ]
  refine wpAnyH_ready (rs := [9]) (by kernel_rfl) (by simp) (AllReadyH.cons rfl (fun K hK => ?_) AllReadyH.nil)
  go_simp
  refine (join_any s1 s2 h1 h2 q1 q2 _).mono ?_
  rintro e w9 ⟨rfl, hb9⟩
  replace hHeld := hHeld.next hb9
  replace HR3 := row_keep HR3 hb9
  refine hK.out _ _ hHeld (fun hHeld => ?_)
  clear hK K
  try dsimp only
  try simp only [Act.put, List.getElem_toArray, List.getElem_cons_zero, List.getElem_cons_succ, List.setIfInBounds_toArray, List.set_cons_zero, List.set_cons_succ]
  refine wpAnyH_ready (rs := [12]) (by kernel_rfl) (by simp) (AllReadyH.cons rfl (fun K hK => ?_) AllReadyH.nil)
  go_simp
  refine (of_any lo1 k1 _).mono ?_
  rintro e w' ⟨rfl, rfl⟩
  refine hK.out _ _ hHeld (fun hHeld => ?_)
  clear hK K
  try dsimp only
  try simp only [Act.put, List.getElem_toArray, List.getElem_cons_zero, List.getElem_cons_succ, List.setIfInBounds_toArray, List.set_cons_zero, List.set_cons_succ]
  refine wpAnyH_ready (rs := [15]) (by kernel_rfl) (by simp) (AllReadyH.cons rfl (fun K hK => ?_) AllReadyH.nil)
  go_simp
  refine (of_any lo2 k2 _).mono ?_
  rintro e w' ⟨rfl, rfl⟩
  refine hK.out _ _ hHeld (fun hHeld => ?_)
  clear hK K
  try dsimp only
  try simp only [Act.put, List.getElem_toArray, List.getElem_cons_zero, List.getElem_cons_succ, List.setIfInBounds_toArray, List.set_cons_zero, List.set_cons_succ]
  refine wpAnyH_ready (rs := [16]) (by kernel_rfl) (by simp) (AllReadyH.cons rfl (fun K hK => ?_) AllReadyH.nil)
  go_simp
  refine (min_any _ _ (Fl.canon_lt _ k1) (Fl.canon_lt _ k2) _).mono ?_
  rintro e w' ⟨rfl, rfl⟩
  refine hK.out _ _ hHeld (fun hHeld => ?_)
  clear hK K
  try dsimp only
  try simp only [Act.put, List.getElem_toArray, List.getElem_cons_zero, List.getElem_cons_succ, List.setIfInBounds_toArray, List.set_cons_zero, List.set_cons_succ]
  refine wpAnyH_ready (rs := [17]) (by kernel_rfl) (by simp) (AllReadyH.cons rfl (fun K hK => ?_) AllReadyH.nil)
  go_simp
  refine (bitsMin k1 k2 _).mono ?_
  rintro e w' ⟨rfl, rfl⟩
  refine hK.out _ _ hHeld (fun hHeld => ?_)
  clear hK K
  try dsimp only
  try simp only [Act.put, List.getElem_toArray, List.getElem_cons_zero, List.getElem_cons_succ, List.setIfInBounds_toArray, List.set_cons_zero, List.set_cons_succ]
  refine wpAnyH_ready (rs := [20]) (by kernel_rfl) (by simp) (AllReadyH.cons rfl (fun K hK => ?_) AllReadyH.nil)
  go_simp
  refine (of_any hi1 k3 _).mono ?_
  rintro e w' ⟨rfl, rfl⟩
  refine hK.out _ _ hHeld (fun hHeld => ?_)
  clear hK K
  try dsimp only
  try simp only [Act.put, List.getElem_toArray, List.getElem_cons_zero, List.getElem_cons_succ, List.setIfInBounds_toArray, List.set_cons_zero, List.set_cons_succ]
  refine wpAnyH_ready (rs := [23]) (by kernel_rfl) (by simp) (AllReadyH.cons rfl (fun K hK => ?_) AllReadyH.nil)
  go_simp
  refine (of_any hi2 k4 _).mono ?_
  rintro e w' ⟨rfl, rfl⟩
  refine hK.out _ _ hHeld (fun hHeld => ?_)
  clear hK K
  try dsimp only
  try simp only [Act.put, List.getElem_toArray, List.getElem_cons_zero, List.getElem_cons_succ, List.setIfInBounds_toArray, List.set_cons_zero, List.set_cons_succ]
  refine wpAnyH_ready (rs := [24]) (by kernel_rfl) (by simp) (AllReadyH.cons rfl (fun K hK => ?_) AllReadyH.nil)
  go_simp
  refine (max_any _ _ (Fl.canon_lt _ k3) (Fl.canon_lt _ k4) _).mono ?_
  rintro e w' ⟨rfl, rfl⟩
  refine hK.out _ _ hHeld (fun hHeld => ?_)
  clear hK K
  try dsimp only
  try simp only [Act.put, List.getElem_toArray, List.getElem_cons_zero, List.getElem_cons_succ, List.setIfInBounds_toArray, List.set_cons_zero, List.set_cons_succ]
  refine wpAnyH_ready (rs := [25]) (by kernel_rfl) (by simp) (AllReadyH.cons rfl (fun K hK => ?_) AllReadyH.nil)
  go_simp
  refine (bitsMax k3 k4 _).mono ?_
  rintro e w' ⟨rfl, rfl⟩
  refine hK.out _ _ hHeld (fun hHeld => ?_)
  clear hK K
  try dsimp only
  try simp only [Act.put, List.getElem_toArray, List.getElem_cons_zero, List.getElem_cons_succ, List.setIfInBounds_toArray, List.set_cons_zero, List.set_cons_succ]
  refine wpAnyH_take (i := 26) (v := .agg (T39 (n1 + n2) (wd ((s1 + s2) % top)) (h1 ||| h2) (minC lo1 lo2) (maxC hi1 hi2))) rfl (by kernel_rfl) (by kernel_rfl) (by kernel_rfl) (fun _ _ _ h => h) (yb_build39 rfl _ _ _ _ rfl (n1 + n2) (wd ((s1 + s2) % top)) (h1 ||| h2) (minC lo1 lo2) (maxC hi1 hi2) rfl rfl rfl rfl) hHeld ?_
  try dsimp only
  try simp only [Act.put, List.getElem_toArray, List.getElem_cons_zero, List.getElem_cons_succ, List.setIfInBounds_toArray, List.set_cons_zero, List.set_cons_succ]
  refine wpAnyH_ready (rs := [27]) (by kernel_rfl) (by simp) (AllReadyH.cons rfl (fun K hK => ?_) AllReadyH.nil)
  rw [if_pos (by rfl)]
  have hp := J3.put3 ⟨hHeld.below, hHeld.r1, hHeld.r2, HR3⟩ (T39 (n1 + n2) (wd ((s1 + s2) % top)) (h1 ||| h2) (minC lo1 lo2) (maxC hi1 hi2))
  refine wp_store_row 89 (.tmp 4) (.tmp 41) rfl (w.heap.size + 2) (T39 (n1 + n2) (wd ((s1 + s2) % top)) (h1 ||| h2) (minC lo1 lo2) (maxC hi1 hi2)) rfl rfl _ _ HR3 (iT _ _ _ _ _) (by rw [T39_size, T39_size]) (one39 _ _ _ _ _) ?_
  refine hK.out _ _ ?_ (fun _ => ?_)
  · exact ⟨hp.1, (setRow_other _ _ _ _ (by omega)).trans hHeld.r1, (setRow_other _ _ _ _ (by omega)).trans hHeld.r2⟩
  clear hK K
  refine wpAnyH_done (by kernel_rfl) ?_ _
  go_wp2
  exact post_row 4 89 Try.results105 rfl (w.heap.size + 2) 89 _ (0, 0) _ rfl hp.2 uT rfl (iT _ _ _ _ _) ⟨rfl, hp.1⟩

end Go.Proofs.Ytbimfopbilcdgaa

set_option linter.unusedSimpArgs false
set_option linter.unusedVariables false
set_option maxRecDepth 8000
namespace Go.Proofs.Ytbimfopbilcdgaa
open Go.RowKit Sm
def anyH (h : Nat) : Bool := bits .and .u8 (h : Int) 8 != 0
theorem anyH_tests : ∀ h k : _root_.Fin 32, anyH (h.val ||| k.val) = (anyH h.val || anyH k.val) := by decide +kernel
theorem anyH_or (h k : Nat) (hh : h < 32) (hk : k < 32) : anyH (h ||| k) = (anyH h || anyH k) := anyH_tests ⟨h, hh⟩ ⟨k, hk⟩
theorem anyH_kind (b : Nat) : anyH (kindB b) = true := by
  unfold kindB
  repeat' split
  all_goals decide
theorem anyH_zero : anyH 0 = false := by decide
theorem P36_none : P36 (fun _ => 0) 0 = P36 (wd 0) 0 := P36_congr 0 (A35_congr fun i _ => by unfold wd; simp)
/-- The least, the greatest of some numbers' bits. -/
def accLo : List Nat → Nat
  | [] => 0
  | x :: r => r.foldl minC (Fl.canon x)
def accHi : List Nat → Nat
  | [] => 0
  | x :: r => r.foldl maxC (Fl.canon x)
theorem accLo_one (b : Nat) : accLo [b] = Fl.canon b := rfl
theorem accHi_one (b : Nat) : accHi [b] = Fl.canon b := rfl
theorem accLo_snoc (l : List Nat) (b : Nat) (h : l ≠ []) : accLo (l ++ [b]) = minC (accLo l) b := by
  cases l with
  | nil => exact absurd rfl h
  | cons x r => show (r ++ [b]).foldl minC (Fl.canon x) = _; rw [List.foldl_append]; rfl
theorem accHi_snoc (l : List Nat) (b : Nat) (h : l ≠ []) : accHi (l ++ [b]) = maxC (accHi l) b := by
  cases l with
  | nil => exact absurd rfl h
  | cons x r => show (r ++ [b]).foldl maxC (Fl.canon x) = _; rw [List.foldl_append]; rfl
theorem minC_canon (a b : Nat) : minC a (Fl.canon b) = minC a b := by rw [minC_eq, minC_eq, Fl.canon_canon]
theorem maxC_canon (a b : Nat) : maxC a (Fl.canon b) = maxC a b := by rw [maxC_eq, maxC_eq, Fl.canon_canon]
theorem minC_lt (a b : Nat) (ha : a < 18446744073709551616) (hb : b < 18446744073709551616) : minC a b < 18446744073709551616 := by rw [minC_eq]; exact Fl.canon_lt _ (minv_lt ha hb)
theorem maxC_lt (a b : Nat) (ha : a < 18446744073709551616) (hb : b < 18446744073709551616) : maxC a b < 18446744073709551616 := by rw [maxC_eq]; exact Fl.canon_lt _ (maxv_lt ha hb)
theorem accLo_lt (l : List Nat) (hl : ∀ x ∈ l, x < 18446744073709551616) : accLo l < 18446744073709551616 := by
  revert hl
  refine list_snoc (p := fun l => (∀ x ∈ l, x < 18446744073709551616) → accLo l < 18446744073709551616) (fun _ => by decide) (fun l b ih hl => ?_) l
  have hb := hl b (by simp)
  by_cases h : l = []
  · subst h; exact Fl.canon_lt _ hb
  · rw [accLo_snoc l b h]; exact minC_lt _ _ (ih fun x hx => hl x (by simp [hx])) hb
theorem accHi_lt (l : List Nat) (hl : ∀ x ∈ l, x < 18446744073709551616) : accHi l < 18446744073709551616 := by
  revert hl
  refine list_snoc (p := fun l => (∀ x ∈ l, x < 18446744073709551616) → accHi l < 18446744073709551616) (fun _ => by decide) (fun l b ih hl => ?_) l
  have hb := hl b (by simp)
  by_cases h : l = []
  · subst h; exact Fl.canon_lt _ hb
  · rw [accHi_snoc l b h]; exact maxC_lt _ _ (ih fun x hx => hl x (by simp [hx])) hb
theorem anyH_acc (l : List Nat) : anyH (accH l) = !l.isEmpty := by
  refine list_snoc (p := fun l => anyH (accH l) = !l.isEmpty) rfl (fun l b _ => ?_) l
  rw [accH_snoc, anyH_or _ _ (accH_lt l) (kindB_lt b), anyH_kind]
  simp
/-- The state of some values. -/
abbrev TL (l : List Nat) : Array Value := T39 l.length (wd (accN l)) (accH l) (accLo l) (accHi l)
attribute [irreducible] accLo accHi

theorem lenS_any (n : Nat) (f : Nat → Nat) (h lo hi : Nat) (w : World) : Calls Try.prog 46 #[.agg (T39 n f h lo hi)] w fun e w' => e = .returned (.int .u64 (n : Int)) ∧ Below w.heap.size w w' := by
  have hc := StAt.c0 (w := w.alloc (.cells (T39 n f h lo hi) 89)) (g := w.heap.size) (n := n) (f := f) (h := h) (lo := lo) (hi := hi) (heap_alloc_new' w _)
  go_enter Try.func46, Try.ntmps46
  go_wp2
  go_ret
  exact ⟨rfl, (Below.refl _ _).alloc (Nat.le_refl _) _⟩

theorem uA : Try.prog.underlying 95 = some (.struct (Try.prog.fieldsOf 95)) := by kernel_rfl
theorem iA (a b c d e : Value) : (Try.prog.info? 95).map (·.size) = some (#[a, b, c, d, e] : Array Value).size := by kernel_rfl
/-- What a call ends with that answers a telling. -/
def TelEnds (w : World) (t : Tel) (e : Ending) (w' : World) : Prop := e = .returned (.agg #[.int .u64 (t.c : Int), .float .f64 t.s, .bool t.o, .float .f64 t.lo, .float .f64 t.hi]) ∧ Below w.heap.size w w'
set_option maxHeartbeats 4000000 in
theorem valueS_core (n N h lo hi V : Nat) (o : Bool) (hv : VaGives N h V o) (kv : V < 18446744073709551616) (k1 : lo < 18446744073709551616) (k2 : hi < 18446744073709551616) (w : World) :
    Calls Try.prog 69 #[.agg (T39 n (wd N) h lo hi)] w (TelEnds w ⟨n, Fl.canon V, o, Fl.canon lo, Fl.canon hi⟩) := by
  have HJ := Lib.hid (Kp2.start w (T39 n (wd N) h lo hi) #[.int .u64 0, .float .f64 0, .bool false, .float .f64 0, .float .f64 0] 89 95)
  have H1 : Hid (StAt ((w.alloc (.cells (T39 n (wd N) h lo hi) 89)).alloc (.cells #[.int .u64 0, .float .f64 0, .bool false, .float .f64 0, .float .f64 0] 95)) w.heap.size n (wd N) h lo hi) := Lib.hid HJ.out.row1
  go_enter Try.func69, Try.ntmps69
  go_wp2_with (first
    | (refine wpList_load_sum rfl (.tmp 6) rfl w.heap.size rfl n (wd N) h lo hi H1.out ?_)
    | (go_at_call 89; (with_reducible refine (hv.at _).mono ?_); rintro e w' ⟨rfl, hb⟩; have HK : Hid (Kp2 w w.heap.size (T39 n (wd N) h lo hi) 89 (w.heap.size + 1) #[.int .u64 0, .float .f64 0, .bool false, .float .f64 0, .float .f64 0] 95 w') := Lib.hid (Kp2.next (w := (w.alloc (.cells (T39 n (wd N) h lo hi) 89)).alloc (.cells #[.int .u64 0, .float .f64 0, .bool false, .float .f64 0, .float .f64 0] 95)) ⟨((Below.refl _ _).alloc (Nat.le_refl _) _).alloc (by simp) _, HJ.out.row1, HJ.out.row2⟩ hb); clear hb))
  refine wp_region_held_drew (S := Kp w w.heap.size (T39 n (wd N) h lo hi) 89) (by kernel_rfl) ⟨HK.out.below.drew, HK.out.row1⟩ (fun hHeld => ?_)
  have HR := HK.out.drew.row2
  refine wpAnyH_take (i := 0) (v := .pointer (some ⟨w.heap.size, 0, none⟩)) rfl (by kernel_rfl) (by kernel_rfl) (by kernel_rfl) (fun _ _ _ h => h) (Or.inl ⟨by rfl, fun w _ => by first | rfl | go_simp⟩) hHeld ?_
  try dsimp only
  try simp only [Act.put, List.getElem_toArray, List.getElem_cons_zero, List.getElem_cons_succ, List.setIfInBounds_toArray, List.set_cons_zero, List.set_cons_succ]
  refine wpAnyH_take (i := 1) (v := .int .u64 (n : Int)) rfl (by kernel_rfl) (by kernel_rfl) (by kernel_rfl) (fun _ _ _ h => h) (yb_u64 rfl (.tmp 11) rfl w.heap.size 0 rfl _ (fun w' hw' => StAt.c0 hw'.row)) hHeld ?_
  try dsimp only
  try simp only [Act.put, List.getElem_toArray, List.getElem_cons_zero, List.getElem_cons_succ, List.setIfInBounds_toArray, List.set_cons_zero, List.set_cons_succ]
  refine wpAnyH_take (i := 2) (v := .float .f64 V) rfl (by kernel_rfl) (by kernel_rfl) (by kernel_rfl) (fun _ _ _ h => h) (Or.inl ⟨by rfl, fun _ _ => rfl⟩) hHeld ?_
  try dsimp only
  try simp only [Act.put, List.getElem_toArray, List.getElem_cons_zero, List.getElem_cons_succ, List.setIfInBounds_toArray, List.set_cons_zero, List.set_cons_succ]
  refine wpAnyH_take (i := 4) (v := .bool o) rfl (by kernel_rfl) (by kernel_rfl) (by kernel_rfl) (fun _ _ _ h => h) (Or.inl ⟨by rfl, fun _ _ => rfl⟩) hHeld ?_
  try dsimp only
  try simp only [Act.put, List.getElem_toArray, List.getElem_cons_zero, List.getElem_cons_succ, List.setIfInBounds_toArray, List.set_cons_zero, List.set_cons_succ]
  refine wpAnyH_take (i := 5) (v := .pointer (some ⟨w.heap.size, 37, none⟩)) rfl (by kernel_rfl) (by kernel_rfl) (by kernel_rfl) (fun _ _ _ h => h) (Or.inl ⟨by rfl, fun w _ => by first | rfl | go_simp⟩) hHeld ?_
  try dsimp only
  try simp only [Act.put, List.getElem_toArray, List.getElem_cons_zero, List.getElem_cons_succ, List.setIfInBounds_toArray, List.set_cons_zero, List.set_cons_succ]
  refine wpAnyH_take (i := 6) (v := .int .u64 (lo : Int)) rfl (by kernel_rfl) (by kernel_rfl) (by kernel_rfl) (fun _ _ _ h => h) (yb_u64 rfl (.tmp 16) rfl w.heap.size 37 rfl _ (fun w' hw' => StAt.c2 hw'.row)) hHeld ?_
  try dsimp only
  try simp only [Act.put, List.getElem_toArray, List.getElem_cons_zero, List.getElem_cons_succ, List.setIfInBounds_toArray, List.set_cons_zero, List.set_cons_succ]
  refine wpAnyH_take (i := 8) (v := .pointer (some ⟨w.heap.size, 38, none⟩)) rfl (by kernel_rfl) (by kernel_rfl) (by kernel_rfl) (fun _ _ _ h => h) (Or.inl ⟨by rfl, fun w _ => by first | rfl | go_simp⟩) hHeld ?_
  try dsimp only
  try simp only [Act.put, List.getElem_toArray, List.getElem_cons_zero, List.getElem_cons_succ, List.setIfInBounds_toArray, List.set_cons_zero, List.set_cons_succ]
  refine wpAnyH_take (i := 9) (v := .int .u64 (hi : Int)) rfl (by kernel_rfl) (by kernel_rfl) (by kernel_rfl) (fun _ _ _ h => h) (yb_u64 rfl (.tmp 19) rfl w.heap.size 38 rfl _ (fun w' hw' => StAt.c3 hw'.row)) hHeld ?_
  try dsimp only
  try simp only [Act.put, List.getElem_toArray, List.getElem_cons_zero, List.getElem_cons_succ, List.setIfInBounds_toArray, List.set_cons_zero, List.set_cons_succ]
  refine wpAnyH_ready (rs := [3]) (by kernel_rfl) (by simp) (AllReadyH.cons rfl (fun K hK => ?_) AllReadyH.nil)
  go_simp
  refine (canon_any V kv _).mono ?_
  rintro e w' ⟨rfl, rfl⟩
  refine hK.out _ _ hHeld (fun hHeld => ?_)
  clear hK K
  try dsimp only
  try simp only [Act.put, List.getElem_toArray, List.getElem_cons_zero, List.getElem_cons_succ, List.setIfInBounds_toArray, List.set_cons_zero, List.set_cons_succ]
  refine wpAnyH_ready (rs := [7]) (by kernel_rfl) (by simp) (AllReadyH.cons rfl (fun K hK => ?_) AllReadyH.nil)
  go_simp
  refine (of_any lo k1 _).mono ?_
  rintro e w' ⟨rfl, rfl⟩
  refine hK.out _ _ hHeld (fun hHeld => ?_)
  clear hK K
  try dsimp only
  try simp only [Act.put, List.getElem_toArray, List.getElem_cons_zero, List.getElem_cons_succ, List.setIfInBounds_toArray, List.set_cons_zero, List.set_cons_succ]
  refine wpAnyH_ready (rs := [10]) (by kernel_rfl) (by simp) (AllReadyH.cons rfl (fun K hK => ?_) AllReadyH.nil)
  go_simp
  refine (of_any hi k2 _).mono ?_
  rintro e w' ⟨rfl, rfl⟩
  refine hK.out _ _ hHeld (fun hHeld => ?_)
  clear hK K
  try dsimp only
  try simp only [Act.put, List.getElem_toArray, List.getElem_cons_zero, List.getElem_cons_succ, List.setIfInBounds_toArray, List.set_cons_zero, List.set_cons_succ]
  refine wpAnyH_take (i := 11) (v := .agg #[.int .u64 (n : Int), .float .f64 (Fl.canon V), .bool o, .float .f64 (Fl.canon lo), .float .f64 (Fl.canon hi)]) rfl (by kernel_rfl) (by kernel_rfl) (by kernel_rfl) (fun _ _ _ h => h) (Or.inl ⟨by rfl, fun w _ => by go_simp⟩) hHeld ?_
  try dsimp only
  try simp only [Act.put, List.getElem_toArray, List.getElem_cons_zero, List.getElem_cons_succ, List.setIfInBounds_toArray, List.set_cons_zero, List.set_cons_succ]
  refine wpAnyH_ready (rs := [12]) (by kernel_rfl) (by simp) (AllReadyH.cons rfl (fun K hK => ?_) AllReadyH.nil)
  rw [if_pos (by rfl)]
  refine wp_store_row 95 (.tmp 2) (.tmp 22) rfl (w.heap.size + 1) #[.int .u64 (n : Int), .float .f64 (Fl.canon V), .bool o, .float .f64 (Fl.canon lo), .float .f64 (Fl.canon hi)] rfl rfl _ _ HR (iA _ _ _ _ _) rfl (by simp [Value.oneCell']) ?_
  have hp := setRow_heap _ _ _ #[.int .u64 (n : Int), .float .f64 (Fl.canon V), .bool o, .float .f64 (Fl.canon lo), .float .f64 (Fl.canon hi)] _ _ HR
  refine hK.out _ _ ?_ (fun _ => ?_)
  · exact ⟨below_setRow hHeld.below (by omega) _, (setRow_other _ _ _ _ (by omega)).trans hHeld.row⟩
  clear hK K
  refine wpAnyH_done (by kernel_rfl) ?_ _
  go_wp2
  exact post_row 2 95 Try.results69 rfl (w.heap.size + 1) 95 _ (0, 0) _ rfl hp uA rfl (iA _ _ _ _ _) ⟨rfl, below_setRow hHeld.below (by omega) _⟩

structure Ad3 (w0 : World) (c1 c3 : Array Value) (w : World) : Prop where
  below : Below w0.heap.size w0 w
  r1 : w.heap[w0.heap.size]? = some (.cells c1 89 (0, 0))
  r3 : w.heap[w0.heap.size + 2]? = some (.cells c3 87 (0, 0))
theorem Ad3.next {w0 w w' : World} {c1 c3 : Array Value} (h : Ad3 w0 c1 c3 w) (hb : Below w.heap.size w w') : Ad3 w0 c1 c3 w' := ⟨below_to h.below hb, row_keep h.r1 hb, row_keep h.r3 hb⟩
def JnGives (n N h lo hi m M k lo2 hi2 n' N' h' lo' hi' : Nat) : Prop := ∀ w, Calls Try.prog 105 #[.agg (T39 n (wd N) h lo hi), .agg (T39 m (wd M) k lo2 hi2)] w (StEnds w n' N' h' lo' hi')
theorem JnGives.at {n N h lo hi m M k lo2 hi2 n' N' h' lo' hi' : Nat} (H : JnGives n N h lo hi m M k lo2 hi2 n' N' h' lo' hi') (w : World) : Calls Try.prog 105 #[.agg (T39 n (wd N) h lo hi), .agg (T39 m (wd M) k lo2 hi2)] w (StEnds w n' N' h' lo' hi') := H w
theorem ad3_start (w : World) (c1 c2 c3 : Array Value) : Ad3 w c1 c3 (((w.alloc (.cells c1 89)).alloc (.cells c2 89)).alloc (.cells c3 87)).drew ∧ (((w.alloc (.cells c1 89)).alloc (.cells c2 89)).alloc (.cells c3 87)).drew.heap[w.heap.size + 1]? = some (.cells c2 89 (0, 0)) := by
  have e1 : (w.alloc (.cells c1 89)).heap.size = w.heap.size + 1 := by simp
  have e2 : ((w.alloc (.cells c1 89)).alloc (.cells c2 89)).heap.size = w.heap.size + 2 := by simp
  refine ⟨⟨((((Below.refl _ _).alloc (Nat.le_refl _) _).alloc (by rw [e1]; omega) _).alloc (by rw [e2]; omega) _).drew, ?_, ?_⟩, ?_⟩
  · show (((w.alloc _).alloc _).alloc _).heap[_]? = _
    rw [Below.heap_alloc _ _ _ (by rw [e2]; omega)]; exact heap_alloc2_old w _ _
  · have h := heap_alloc_new ((w.alloc (.cells c1 89)).alloc (.cells c2 89)) (.cells c3 87)
    rwa [e2] at h
  · show (((w.alloc _).alloc _).alloc _).heap[_]? = _
    rw [Below.heap_alloc _ _ _ (by rw [e2]; omega)]; exact heap_alloc2_new w _ _
set_option maxHeartbeats 4000000 in
theorem addS_core (n N h lo hi x n' N' h' lo' hi' : Nat) (kx : x < 18446744073709551616) (HJN : JnGives n N h lo hi 1 (unit x) (kindB x) (Fl.canon x) (Fl.canon x) n' N' h' lo' hi') (w : World) :
    Calls Try.prog 76 #[.agg (T39 n (wd N) h lo hi), .float .f64 x] w (StEnds w n' N' h' lo' hi') := by
  have HS := Lib.hid (ad3_start w (T39 n (wd N) h lo hi) (T39 0 (fun _ => 0) 0 0 0) (P36 (wd 0) 0))
  go_enter Try.func76, Try.ntmps76
  go_wp2_with (go_at_call 104; (with_reducible refine (bits_any x kx _).mono ?_); rintro e w' ⟨rfl, rfl⟩)
  rw [zeros39, zeros36, P36_none]
  refine wp_region_held_drew (S := Ad3 w (T39 n (wd N) h lo hi) (P36 (wd 0) 0)) (by kernel_rfl) HS.out.1 (fun hHeld => ?_)
  have HR := HS.out.2
  refine wpAnyH_take (i := 0) (v := .agg (T39 n (wd N) h lo hi)) rfl (by kernel_rfl) (by kernel_rfl) (by kernel_rfl) (fun _ _ _ h => h) (yieldsIf_row rfl 89 (.tmp 2) rfl w.heap.size rfl _ _ _ _ (fun w' hw' => hw'.r1) uT rfl (iT _ _ _ _ _)) hHeld ?_
  try dsimp only
  try simp only [Act.put, List.getElem_toArray, List.getElem_cons_zero, List.getElem_cons_succ, List.setIfInBounds_toArray, List.set_cons_zero, List.set_cons_succ]
  refine wpAnyH_take (i := 1) (v := .agg (P36 (wd 0) 0)) rfl (by kernel_rfl) (by kernel_rfl) (by kernel_rfl) (fun _ _ _ h => h) (yieldsIf_row rfl 87 (.tmp 5) rfl (w.heap.size + 2) rfl _ _ _ _ (fun w' hw' => hw'.r3) u27 rfl (i36 _ _)) hHeld ?_
  try dsimp only
  try simp only [Act.put, List.getElem_toArray, List.getElem_cons_zero, List.getElem_cons_succ, List.setIfInBounds_toArray, List.set_cons_zero, List.set_cons_succ]
  refine wpAnyH_take (i := 2) (v := .float .f64 x) rfl (by kernel_rfl) (by kernel_rfl) (by kernel_rfl) (fun _ _ _ h => h) (Or.inl ⟨by rfl, fun _ _ => rfl⟩) hHeld ?_
  try dsimp only
  try simp only [Act.put, List.getElem_toArray, List.getElem_cons_zero, List.getElem_cons_succ, List.setIfInBounds_toArray, List.set_cons_zero, List.set_cons_succ]
  refine wpAnyH_take (i := 4) (v := .int .u64 (Fl.canon x : Nat)) rfl (by kernel_rfl) (by kernel_rfl) (by kernel_rfl) (fun _ _ _ h => h) (Or.inl ⟨by rfl, fun _ _ => rfl⟩) hHeld ?_
  try dsimp only
  try simp only [Act.put, List.getElem_toArray, List.getElem_cons_zero, List.getElem_cons_succ, List.setIfInBounds_toArray, List.set_cons_zero, List.set_cons_succ]
  refine wpAnyH_take (i := 5) (v := .int .u64 (Fl.canon x : Nat)) rfl (by kernel_rfl) (by kernel_rfl) (by kernel_rfl) (fun _ _ _ h => h) (Or.inl ⟨by rfl, fun _ _ => rfl⟩) hHeld ?_
  try dsimp only
  try simp only [Act.put, List.getElem_toArray, List.getElem_cons_zero, List.getElem_cons_succ, List.setIfInBounds_toArray, List.set_cons_zero, List.set_cons_succ]
  refine wpAnyH_ready (rs := [3]) (by kernel_rfl) (by simp) (AllReadyH.cons rfl (fun K hK => ?_) AllReadyH.nil)
  go_simp
  refine (add_any 0 0 x (by decide) kx _).mono ?_
  rintro e w9 ⟨rfl, hb9⟩
  replace hHeld := hHeld.next hb9
  replace HR := row_keep HR hb9
  rw [Nat.zero_or, Nat.zero_add, Nat.mod_eq_of_lt (unit_lt x)]
  refine hK.out _ _ hHeld (fun hHeld => ?_)
  clear hK K
  try dsimp only
  try simp only [Act.put, List.getElem_toArray, List.getElem_cons_zero, List.getElem_cons_succ, List.setIfInBounds_toArray, List.set_cons_zero, List.set_cons_succ]
  refine wpAnyH_take (i := 6) (v := .agg (T39 1 (wd (unit x)) (kindB x) (Fl.canon x) (Fl.canon x))) rfl (by kernel_rfl) (by kernel_rfl) (by kernel_rfl) (fun _ _ _ h => h) (yb_build39 rfl _ _ _ _ rfl 1 (wd (unit x)) (kindB x) (Fl.canon x) (Fl.canon x) rfl rfl rfl rfl) hHeld ?_
  try dsimp only
  try simp only [Act.put, List.getElem_toArray, List.getElem_cons_zero, List.getElem_cons_succ, List.setIfInBounds_toArray, List.set_cons_zero, List.set_cons_succ]
  refine wpAnyH_ready (rs := [7]) (by kernel_rfl) (by simp) (AllReadyH.cons rfl (fun K hK => ?_) AllReadyH.nil)
  go_simp
  refine (HJN.at _).mono ?_
  rintro e wA ⟨rfl, hbA⟩
  replace hHeld := hHeld.next hbA
  replace HR := row_keep HR hbA
  refine hK.out _ _ hHeld (fun hHeld => ?_)
  clear hK K
  try dsimp only
  try simp only [Act.put, List.getElem_toArray, List.getElem_cons_zero, List.getElem_cons_succ, List.setIfInBounds_toArray, List.set_cons_zero, List.set_cons_succ]
  refine wpAnyH_ready (rs := [8]) (by kernel_rfl) (by simp) (AllReadyH.cons rfl (fun K hK => ?_) AllReadyH.nil)
  rw [if_pos (by rfl)]
  refine wp_store_row 89 (.tmp 4) (.tmp 16) rfl (w.heap.size + 1) (T39 n' (wd N') h' lo' hi') rfl rfl _ _ HR (iT _ _ _ _ _) (by rw [T39_size, T39_size]) (one39 _ _ _ _ _) ?_
  have hp := setRow_heap _ _ _ (T39 n' (wd N') h' lo' hi') _ _ HR
  refine hK.out _ _ ?_ (fun _ => ?_)
  · exact ⟨below_setRow hHeld.below (by omega) _, (setRow_other _ _ _ _ (by omega)).trans hHeld.r1, (setRow_other _ _ _ _ (by omega)).trans hHeld.r3⟩
  clear hK K
  refine wpAnyH_done (by kernel_rfl) ?_ _
  go_wp2
  exact post_row 4 89 Try.results76 rfl (w.heap.size + 1) 89 _ (0, 0) _ rfl hp uT rfl (iT _ _ _ _ _) ⟨rfl, below_setRow hHeld.below (by omega) _⟩

end Go.Proofs.Ytbimfopbilcdgaa

set_option linter.unusedSimpArgs false
set_option linter.unusedVariables false
set_option maxRecDepth 8000
namespace Go.Proofs.Ytbimfopbilcdgaa
open Go.RowKit Sm
theorem kind256 (b : Nat) : kindB b < 256 := Nat.lt_trans (kindB_lt b) (by decide)
theorem acc256 (l : List Nat) : accH l < 256 := Nat.lt_trans (accH_lt l) (by decide)
theorem addTL (l : List Nat) (x : Nat) (hl : ∀ y ∈ l, y < 18446744073709551616) (hx : x < 18446744073709551616) (hn : l.length < 1099511627776) (w : World) :
    Calls Try.prog 76 #[.agg (TL l), .float .f64 x] w fun e w' => e = .returned (.agg (TL (l ++ [x]))) ∧ Below w.heap.size w w' := by
  have ha := anyH_acc l
  have hk := anyH_kind x
  have kc := Fl.canon_lt x hx
  unfold anyH at ha hk
  unfold TL
  by_cases h : l = []
  · subst h
    refine addS_core _ _ _ _ _ x _ _ _ _ _ hx (fun w => joinS_l _ _ _ _ _ _ _ _ _ _ ha w) w |>.mono ?_
    rintro e w' ⟨he, hb⟩
    refine ⟨he.trans ?_, hb⟩
    rw [accN_snoc, accH_snoc, List.nil_append, accLo_one, accHi_one]
    show _ = Ending.returned (Value.agg (T39 1 (wd ((0 + unit x) % top)) (0 ||| kindB x) (Fl.canon x) (Fl.canon x)))
    rw [Nat.zero_or, Nat.zero_add, Nat.mod_eq_of_lt (unit_lt x)]
  · have ht : (!l.isEmpty) = true := by cases l <;> simp_all
    rw [ht] at ha
    refine addS_core _ _ _ _ _ x _ _ _ _ _ hx (fun w => joinS_b _ _ _ _ _ _ _ _ _ _ (by omega) (accLo_lt l hl) kc (accHi_lt l hl) kc (acc256 l) (kind256 x) ha hk w) w |>.mono ?_
    rintro e w' ⟨he, hb⟩
    refine ⟨he.trans ?_, hb⟩
    rw [accN_snoc, accH_snoc, accLo_snoc l x h, accHi_snoc l x h, minC_canon, maxC_canon, List.length_append]; rfl
theorem TL_nil : TL [] = T39 0 (fun _ => 0) 0 0 0 := by
  have e1 : accLo [] = 0 := by unfold accLo; rfl
  have e2 : accHi [] = 0 := by unfold accHi; rfl
  show T39 0 (wd 0) 0 (accLo []) (accHi []) = _
  rw [e1, e2]
  refine (T39_ext _ _ _ _ _ (T39_size ..) (T39_n ..) (fun i hi => ?_) (T39_lo ..) (T39_hi ..)).symm
  rw [T39_sum _ _ _ _ _ i hi, P36_none]
theorem of_take {l : List Nat} {k : Nat} (h : k < l.length) : l.take (k + 1) = l.take k ++ [l[k]] := List.take_succ_eq_append_getElem h

/-- What is told of some values. -/
def telL (l : List Nat) : Tel := ⟨l.length, Fl.canon (valW (accN l) (accH l)), valO (accN l) (accH l), Fl.canon (accLo l), Fl.canon (accHi l)⟩
theorem valW_lt (n h : Nat) : valW n h < 18446744073709551616 := by
  unfold valW
  split
  · decide
  · split
    · decide
    · split
      · decide
      · split
        · decide
        · exact (nearest_word _ _).2.1
theorem telL_ok (l : List Nat) (hl : ∀ x ∈ l, x < 18446744073709551616) (hn : l.length ≤ 1000000) : (telL l).Ok :=
  ⟨by show l.length < _; omega, Fl.canon_lt _ (valW_lt _ _), Fl.canon_lt _ (accLo_lt l hl), Fl.canon_lt _ (accHi_lt l hl)⟩
theorem valueTL (l : List Nat) (hl : ∀ x ∈ l, x < 18446744073709551616) (w : World) :
    Calls Try.prog 69 #[.agg (TL l)] w (TelEnds w (telL l)) :=
  valueS_core _ _ _ _ _ _ _ (fun w => value_any _ _ (accN_lt l) (accH_lt l) w) (valW_lt _ _) (accLo_lt l hl) (accHi_lt l hl) w
theorem aw12 : telB (telL [4613937818241073152, 4607182418800017408, 4611686018427387904]) ⟨3, 4618441417868443648, false, 4607182418800017408, 4613937818241073152⟩ = true := by
  unfold telL telB accLo accHi
  simp only [List.foldl, minC_eq, maxC_eq]
  decide +kernel
end Go.Proofs.Ytbimfopbilcdgaa

set_option linter.unusedSimpArgs false
set_option linter.unusedVariables false
set_option maxRecDepth 8000
namespace Go.Proofs.Ytbimfopbilcdgaa
open Go.RowKit Sm

theorem accN_sum (l : List Nat) : accN l = (l.map unit).sum % top :=
  list_snoc (p := fun l => accN l = (l.map unit).sum % top) (by simp [accN]) (fun l b ih => by
    rw [accN_snoc, ih, List.map_append, List.sum_append, List.map_singleton, List.sum_singleton, Nat.mod_add_mod]) l
theorem accN_perm {l m : List Nat} (h : List.Perm l m) : accN l = accN m := by
  rw [accN_sum, accN_sum, List.Perm.sum_nat (h.map unit)]
theorem accH_foldr (l : List Nat) : accH l = (l.map kindB).foldr (· ||| ·) 0 :=
  list_snoc (p := fun l => accH l = (l.map kindB).foldr (· ||| ·) 0) (by simp [accH]) (fun l b ih => by
    have key : ∀ (q : List Nat) (x : Nat), q.foldr (· ||| ·) x = q.foldr (· ||| ·) 0 ||| x := by
      intro q x
      induction q with
      | nil => simp
      | cons y r i => rw [List.foldr_cons, List.foldr_cons, i, Nat.or_assoc]
    rw [accH_snoc, ih, List.map_append, List.foldr_append, List.map_singleton, List.foldr_cons, List.foldr_nil, Nat.or_zero, key _ (kindB b)]) l
theorem accH_perm {l m : List Nat} (h : List.Perm l m) : accH l = accH m := by
  rw [accH_foldr, accH_foldr]
  exact (h.map kindB).foldr_eq' (fun x _ y _ z => by rw [← Nat.or_assoc, ← Nat.or_assoc, Nat.or_comm y x]) 0
theorem accN_append (p q : List Nat) : accN (p ++ q) = (accN p + accN q) % top := by
  rw [accN_sum, accN_sum, accN_sum, List.map_append, List.sum_append, Nat.add_mod]
theorem accH_append (p q : List Nat) : accH (p ++ q) = accH p ||| accH q := by
  rw [accH_foldr, accH_foldr, accH_foldr, List.map_append, List.foldr_append]
  induction p.map kindB with
  | nil => simp
  | cons y r i => rw [List.foldr_cons, List.foldr_cons, i, Nat.or_assoc]
/-- Two places changed about. -/
def swap0 (l : List Nat) (k : Nat) : List Nat := (l.set k (l.getD 0 0)).set 0 (l.getD k 0)
theorem swap0_len (l : List Nat) (k : Nat) : (swap0 l k).length = l.length := by unfold swap0; simp
theorem swap0_perm (l : List Nat) (k : Nat) (h : k < l.length) : List.Perm (swap0 l k) l := by
  unfold swap0
  have h0 : 0 < l.length := by omega
  rw [List.getD_eq_getElem?_getD, List.getD_eq_getElem?_getD, List.getElem?_eq_getElem h0, List.getElem?_eq_getElem h]
  exact List.set_set_perm h h0
theorem split_sums (l m : List Nat) (k : Nat) (h : List.Perm m l) : (accN (m.take k) + accN (m.drop k)) % top = accN l ∧ accH (m.take k) ||| accH (m.drop k) = accH l := by
  rw [← accN_append, ← accH_append, List.take_append_drop]
  exact ⟨accN_perm h, accH_perm h⟩
end Go.Proofs.Ytbimfopbilcdgaa
