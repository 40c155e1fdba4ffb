/-
  Lists of whole numbers (int64) in a world: for any layer.
-/
import Derived.Test.YtifabkbdiiolfaaDoorByK
set_option linter.unusedSimpArgs false
set_option linter.unusedVariables false
set_option maxRecDepth 8000
namespace Go.Proofs.YtifabkbdiiolfaaDoor
open Go.RowKit Go.WideShapes
def Wf64 (x : Int) : Prop := -9223372036854775808 ≤ x ∧ x ≤ 9223372036854775807
/-- A slice value that holds some whole numbers, in a world. -/
def IsAt (w : World) (a : Option Addr) (l : List Int) : Prop := ∀ (k : Nat) (x : Int), l[k]? = some x → Wf64 x ∧ ∃ g off, a = some ⟨g, off, none⟩ ∧ g < w.heap.size ∧ w.cell? ⟨g, off + k, none⟩ = some (.int .i64 x)
theorem IsAt.keep {w w' : World} {a : Option Addr} {l : List Int} (h : IsAt w a l) (hb : Below w.heap.size w w') : IsAt w' a l := fun k x hx => by
 obtain ⟨h1, g, off, h2, h3, h4⟩ := h k x hx
 exact ⟨h1, g, off, h2, Nat.lt_of_lt_of_le h3 hb.size, (hb.cell (p := ⟨g, off + k, none⟩) h3).trans h4⟩
theorem IsAt.wf {w : World} {a : Option Addr} {l : List Int} (h : IsAt w a l) : ∀ x ∈ l, Wf64 x := fun x hx => by
 obtain ⟨k, hk⟩ := List.getElem?_of_mem hx
 exact (h k x hk).1
theorem IsAt.nil (w : World) (a : Option Addr) : IsAt w a [] := fun k x hx => by simp at hx
theorem IsAt.at {w w' : World} {a : Option Addr} {l : List Int} (h : Hid (IsAt w a l)) (hb : Below w.heap.size w w') : Hid (IsAt w' a l) := h.out.keep hb
theorem IsAt.spot {w : World} {a : Option Addr} {l : List Int} (h : IsAt w a l) (h0 : 0 < l.length) : ∃ g off, a = some ⟨g, off, none⟩ ∧ g < w.heap.size ∧ ∀ (k : Nat) (x : Int), l[k]? = some x → w.cell? ⟨g, off + k, none⟩ = some (.int .i64 x) := by
 obtain ⟨-, g, off, rfl, hg, -⟩ := h 0 l[0] (List.getElem?_eq_getElem h0)
 refine ⟨g, off, rfl, hg, fun k x hx => ?_⟩
 obtain ⟨-, g', off', h2, -, hc⟩ := h k x hx
 cases h2
 exact hc
def iv (x : Int) : Value := .int .i64 x
def ivs (l : List Int) : List Value := l.map iv
theorem ivs_length (l : List Int) : (ivs l).length = l.length := List.length_map ..
theorem ivs_append (l m : List Int) : ivs (l ++ m) = ivs l ++ ivs m := List.map_append ..
theorem ivs_one (l : List Int) : ∀ u ∈ ivs l, u.oneCell' = true := fun u hu => by
 obtain ⟨x, -, rfl⟩ := List.mem_map.1 hu; rfl
theorem IsAt.of_row {w : World} {g : Nat} {cs : Array Value} {t : TypeId} {fr : Nat × Nat} (l : List Int) (hl : ∀ x ∈ l, Wf64 x) (hrow : w.heap[g]? = some (.cells cs t fr)) (hcs : (ivs l).IsPrefix cs.toList) : IsAt w (some ⟨g, 0, none⟩) l := fun k x hx => by
 refine ⟨hl x (List.mem_of_getElem? hx), g, 0, rfl, (Array.getElem?_eq_some_iff.1 hrow).1, ?_⟩
 rw [cell_of_row w g (0 + k) cs t fr hrow, Nat.zero_add, ← Array.getElem?_toList]
 obtain ⟨r, hr⟩ := hcs
 have hk : k < (ivs l).length := by rw [ivs_length]; exact (List.getElem?_eq_some_iff.1 hx).1
 rw [← hr, List.getElem?_append_left hk]
 unfold ivs; rw [List.getElem?_map, hx]; rfl
theorem infoI64 : (Tryd.prog.info? 2).map (fun i => (i.zero, i.size, i.bytes)) = some (some (.int .i64 0), 1, 8) := by kernel_rfl
/-- A slice of whole numbers that the call owns: its block lies from B on. -/
def OwnI (w : World) (B : Nat) (A : Option Addr) (n cap : Nat) (l : List Int) : Prop := w.ownsRow B 2 1 (.slice A n cap) n (ivs l) ∧ ∀ x ∈ l, Wf64 x
theorem OwnI.len {w : World} {B n cap : Nat} {A : Option Addr} {l : List Int} (h : OwnI w B A n cap l) : n = l.length := by have := h.1.1; rw [ivs_length] at this; omega
theorem OwnI.caps {w : World} {B n cap : Nat} {A : Option Addr} {l : List Int} (h : OwnI w B A n cap l) : n ≤ cap ∧ cap ≤ maxLen := by
 rcases h.1.2 with ⟨h1, h2⟩ | ⟨g, cap', cur, h1, -, -, h2, h3, -⟩
 ·cases h1; exact ⟨Nat.le_refl _, Nat.zero_le _⟩
 ·cases h1; exact ⟨h2, h3⟩
theorem OwnI.isAt {w : World} {B n cap : Nat} {A : Option Addr} {l : List Int} (h : OwnI w B A n cap l) : IsAt w A l := by
 rcases h.1.2 with ⟨h1, h2⟩ | ⟨g, cap', cur, h1, hb, hrow, -, -, hs, ht⟩
 ·have := h.len
  have hl : l = [] := List.eq_nil_of_length_eq_zero (by omega)
  subst hl; exact IsAt.nil _ _
 ·cases h1
  exact IsAt.of_row l h.2 hrow ⟨cur.toList.drop (n * 1), by rw [← ht, List.take_append_drop]⟩
theorem OwnI.nil (w : World) (B : Nat) : OwnI w B none 0 0 [] := ⟨w.ownsRow_nil B _ 1, fun x hx => by cases hx⟩
theorem OwnI.keep {w w' : World} {B n cap : Nat} {A : Option Addr} {l : List Int} (h : OwnI w B A n cap l) (hb : Below w.heap.size w w') : OwnI w' B A n cap l :=
 ⟨h.1.kept (row := none) ⟨hb.os, hb.tape, hb.output, hb.size, fun k hk _ => hb.block k hk⟩ (by rcases A with _ | a <;> simp [Value.ownBlock]), h.2⟩
theorem OwnI.base {w : World} {B n cap : Nat} {A : Option Addr} {l : List Int} (h : OwnI w B A n cap l) : ∀ k, A.map (·.block) = some k → B ≤ k := fun k hk => by
 rcases h.1.2 with ⟨h1, h2⟩ | ⟨g, cap', cur, h1, hb, _⟩
 ·cases h1; cases hk
 ·cases h1; simp at hk; omega
theorem is_at {w : World} {a : Addr} {l : List Int} (h : IsAt w (some a) l) (j : Nat) (u : Value) (hu : (ivs l)[j]? = some u) : w.cell? (a.add j) = some u := by
 unfold ivs at hu
 rw [List.getElem?_map] at hu
 rcases hx : l[j]? with _ | x
 ·rw [hx] at hu; cases hu
 ·rw [hx] at hu
  obtain ⟨-, g, off, e, -, hc⟩ := h j x hx
  cases e
  rw [addr_add, hc]; exact hu
/-- append of whole numbers that are some, the source nil, empty or not. -/
theorem run_append_is (w : World) (B : Nat) (A : Option Addr) (n cap : Nat) (l : List Int) (hown : OwnI w B A n cap l) (a : Addr) (m c : Nat) (l2 : List Int) (hm : m = l2.length) (h2 : IsAt w (some a) l2)
  (hbytes : (n + m) * 8 ≤ 140737488355328) (hbase : B ≤ w.heap.size) (ty : TypeId) :
  ∃ A' cap' w', (Builtin.append_ #[68, 68] ty #[.slice A n cap, .slice (some a) m c]).run Tryd.prog w = .ok (.slice A' (n + m) cap') w' ∧ OwnI w' B A' (n + m) cap' (l ++ l2) ∧ w.grownBy w' (A.map (·.block)) := by
 obtain ⟨i0, hi, hz0, hz1, hz2⟩ := info_parts infoI64
 have hlt : ∀ x ∈ l ++ l2, Wf64 x := fun x hx => by
  rcases List.mem_append.1 hx with h | h
  ·exact hown.2 x h
  ·exact h2.wf x h
 obtain ⟨v', w', hr, h3, h4, h5, h6⟩ := run_append_own_at (P := Tryd.prog) w B 68 ty 2 i0 (.int .i64 0) 1 8 Tryd.underlying68 hi hz0 hz1 hz2 rfl (by decide) _ n (ivs l) hown.1 a m c (ivs l2) (by rw [ivs_length, hm, Nat.mul_one]) (is_at h2) (ivs_one l2) (by unfold maxLen; omega) (by omega) hbase
 rw [← ivs_append] at h3
 rcases h3.2 with ⟨rfl, h0⟩ | ⟨g, cap', cur, rfl, hb, hrest⟩
 ·have hn0 : n = 0 := by omega
  have hm0 : m = 0 := by omega
  subst hn0; subst hm0
  exact ⟨none, 0, w', hr, ⟨h3, hlt⟩, by rcases A with _ | _ <;> exact h4⟩
 ·exact ⟨_, _, w', hr, ⟨h3, hlt⟩, by rcases A with _ | _ <;> exact h4⟩
theorem wpList_append_is {w : World} {ops : Array Oper} {rest : List Oper} {o : Oper} {a : Act} {Q : Exit → Act → World → Prop} (hgd : o.guard = none) (s x : Operand)
  (ho : o.op = .call { callee := .builtin .append, args := #[s, x], argTypes := #[68, 68] })
  (B : Nat) (A : Option Addr) (n cap : Nat) (l : List Int) (hs : a.eval s = .slice A n cap) (hown : OwnI w B A n cap l) (b : Addr) (m c : Nat) (l2 : List Int) (hx : a.eval x = .slice (some b) m c) (hm : m = l2.length) (h2 : IsAt w (some b) l2)
  (hbytes : (n + m) * 8 ≤ 140737488355328) (hbase : B ≤ w.heap.size)
  (h : ∀ A' cap' w', OwnI w' B A' (n + m) cap' (l ++ l2) → w.grownBy w' (A.map (·.block)) → wpList Tryd.prog ops Q rest (a.put o.dst (.slice A' (n + m) cap')) w') : wpList Tryd.prog ops Q (o :: rest) a w := by
 refine wpList_plain hgd fun K hK => ?_
 obtain ⟨A', cap', w', hr, h3, h4⟩ := run_append_is w B A n cap l hown b m c l2 hm h2 hbytes hbase o.type
 unfold Oper.wp execOp
 simp only [ho, resolve, invoke, builtin, Sem.run_bind, Sem.run_pure, Result.andThen_ok, List.map_toArray, List.map_cons, List.map_nil, hs, hx, hr]
 exact hK _ _ (h A' cap' w' h3 h4)
theorem is_one (w : World) (x : Int) (hx : Wf64 x) : IsAt (w.alloc (.cells #[.int .i64 x] 2)) (some ⟨w.heap.size, 0, none⟩) [x] :=
 IsAt.of_row _ (fun y hy => by simp at hy; subst hy; exact hx) (heap_alloc_new' w _) ⟨[], rfl⟩
end Go.Proofs.YtifabkbdiiolfaaDoor
