/-
  Layer column: texts that a call owns; appends of them; rows of texts; times of texts.
-/
import Derived.Test.YtifabkbdiiolfaaDoorDaK
import Derived.Test.YtifabkbdiiolfaaDoorCdK
set_option linter.unusedSimpArgs false
set_option linter.unusedVariables false
set_option maxRecDepth 8000
namespace Go.Proofs.YtifabkbdiiolfaaDoor
open Go.RowKit Go.WideShapes Col
theorem IsAt.kept {S : Nat → Prop} {w w' : World} {a : Option Addr} {l : List Int} (h : IsAt w a l) (hk : Kept S w w') (ho : ∀ b, a = some b → ¬ S b.block) : IsAt w' a l := fun k x hx => by
 obtain ⟨h1, g, off, h2, h3, h4⟩ := h k x hx
 have e := ho _ h2
 exact ⟨h1, g, off, h2, Nat.lt_of_lt_of_le h3 hk.size, (hk.cell (p := ⟨g, off + k, none⟩) h3 e).trans h4⟩
theorem fill_setN (xs : List Nat) (n k : Nat) (hx : xs.length = k) (hk : k < n) (x : Nat) : (xs ++ List.replicate (n - k) 0).set k x = (xs ++ [x]) ++ List.replicate (n - (k + 1)) 0 := by
 obtain ⟨m, rfl⟩ : ∃ m, n = k + 1 + m := ⟨n - k - 1, by omega⟩
 rw [show k + 1 + m - k = m + 1 by omega, show k + 1 + m - (k + 1) = m by omega, List.replicate_succ, List.set_append_right _ _ (by omega), hx, Nat.sub_self, List.set_cons_zero, List.append_assoc]; rfl
end Go.Proofs.YtifabkbdiiolfaaDoor

namespace Go.Proofs.YtifabkbdiiolfaaDoor
open Go.RowKit Go.WideShapes Col
namespace Col
/-- Is each of some numbers the one form of a number with a point? -/
def okF (xs : List Int) : Bool := xs.all fun x => decide (Fl.canon (u64N x) = u64N x)
/-- Numbers with a point read: the words, and the rest. -/
def rF (q : List Nat) : Option (List Nat × List Nat) := match rI q with
 | some p => if okF p.1 then some (p.1.map u64N, p.2) else none
 | none => none
end Col
end Go.Proofs.YtifabkbdiiolfaaDoor

namespace Go.Proofs.YtifabkbdiiolfaaDoor
open Go.RowKit Go.WideShapes Col
namespace Col
/-- Numbers with a point that are all of some bytes. -/
def rFL (q : List Nat) : Option (List Nat) := match rF q with
 | some (us, []) => some us
 | _ => none
end Col
/-- What the list's cell holds behind the reading. -/
def RdFA (q : List Nat) (cl B : Nat) (b : Bool) (w : World) : Prop := match b with
 | true => ∃ L n us, rFL q = some us ∧ n = us.length ∧ w.heap[cl]? = some (.cells #[.slice (some ⟨L, 0, none⟩) n n] 70 (0, 0)) ∧ RowF w L us ∧ B ≤ L
 | false => rFL q = none
theorem RdFA.keep {q : List Nat} {cl B B' g : Nat} {b : Bool} {w w' : World} (h : RdFA q cl B b w) (hk : Kept (Only g) w w') (h1 : cl ≠ g) (h2 : g < B) (hB : B' ≤ B) : RdFA q cl B' b w' := by
 cases b with
 | false => exact h
 | true =>
  obtain ⟨L, n, us, e1, e2, hrow, hrf, hl⟩ := h
  exact ⟨L, n, us, e1, e2, hk.heap hrow fun e => h1 e, hrf.keep hk (fun e => by have e : L = g := e; omega), by omega⟩
end Go.Proofs.YtifabkbdiiolfaaDoor

namespace Go.Proofs.YtifabkbdiiolfaaDoor
open Go.RowKit Go.WideShapes Col
theorem FlAt.wf {w : World} {a : Option Addr} {l : List Nat} (h : FlAt w a l) : ∀ x ∈ l, x < 18446744073709551616 := fun x hx => by
 obtain ⟨k, hk⟩ := List.getElem?_of_mem hx
 exact (h k x hk).1
theorem FlAt.nil (w : World) (a : Option Addr) : FlAt w a [] := fun k x hx => by simp at hx
theorem FlAt.at' {w w' : World} {a : Option Addr} {l : List Nat} (h : Hid (FlAt w a l)) (hb : Below w.heap.size w w') : Hid (FlAt w' a l) := h.out.keep hb
theorem FlAt.spot {w : World} {a : Option Addr} {l : List Nat} (h : FlAt w a l) (h0 : 0 < l.length) : ∃ g off, a = some ⟨g, off, none⟩ ∧ g < w.heap.size ∧ ∀ (k : Nat) (x : Nat), l[k]? = some x → w.cell? ⟨g, off + k, none⟩ = some (.float .f64 x) := by
 obtain ⟨-, g, off, rfl, hg, -⟩ := h 0 l[0] (List.getElem?_eq_getElem h0)
 refine ⟨g, off, rfl, hg, fun k x hx => ?_⟩
 obtain ⟨-, g', off', h2, -, hc⟩ := h k x hx
 cases h2
 exact hc
theorem fvs_length (l : List Nat) : (fvs l).length = l.length := List.length_map ..
theorem FlAt.of_row {w : World} {g : Nat} {cs : Array Value} {t : TypeId} {fr : Nat × Nat} (l : List Nat) (hl : ∀ x ∈ l, x < 18446744073709551616) (hrow : w.heap[g]? = some (.cells cs t fr)) (hcs : (fvs l).IsPrefix cs.toList) : FlAt w (some ⟨g, 0, none⟩) l := fun k x hx => by
 refine ⟨hl x (List.mem_of_getElem? hx), g, 0, rfl, (Array.getElem?_eq_some_iff.1 hrow).1, ?_⟩
 rw [cell_of_row w g (0 + k) cs t fr hrow, Nat.zero_add, ← Array.getElem?_toList]
 obtain ⟨r, hr⟩ := hcs
 have hk : k < (fvs l).length := by rw [fvs_length]; exact (List.getElem?_eq_some_iff.1 hx).1
 rw [← hr, List.getElem?_append_left hk]
 unfold fvs; rw [List.getElem?_map, hx]; rfl
/-- A slice of whole numbers that the call owns: its block lies from B on. -/
def OwnF (w : World) (B : Nat) (A : Option Addr) (n cap : Nat) (l : List Nat) : Prop := w.ownsRow B 32 1 (.slice A n cap) n (fvs l) ∧ ∀ x ∈ l, x < 18446744073709551616
theorem OwnF.len {w : World} {B n cap : Nat} {A : Option Addr} {l : List Nat} (h : OwnF w B A n cap l) : n = l.length := by have := h.1.1; rw [fvs_length] at this; omega
theorem OwnF.caps {w : World} {B n cap : Nat} {A : Option Addr} {l : List Nat} (h : OwnF w B A n cap l) : n ≤ cap ∧ cap ≤ maxLen := by
 rcases h.1.2 with ⟨h1, h2⟩ | ⟨g, cap', cur, h1, -, -, h2, h3, -⟩
 ·cases h1; exact ⟨Nat.le_refl _, Nat.zero_le _⟩
 ·cases h1; exact ⟨h2, h3⟩
theorem OwnF.isAt {w : World} {B n cap : Nat} {A : Option Addr} {l : List Nat} (h : OwnF w B A n cap l) : FlAt w A l := by
 rcases h.1.2 with ⟨h1, h2⟩ | ⟨g, cap', cur, h1, hb, hrow, -, -, hs, ht⟩
 ·have := h.len
  have hl : l = [] := List.eq_nil_of_length_eq_zero (by omega)
  subst hl; exact FlAt.nil _ _
 ·cases h1
  exact FlAt.of_row l h.2 hrow ⟨cur.toList.drop (n * 1), by rw [← ht, List.take_append_drop]⟩
theorem OwnF.nil (w : World) (B : Nat) : OwnF w B none 0 0 [] := ⟨w.ownsRow_nil B _ 1, fun x hx => by cases hx⟩
theorem OwnF.keep {w w' : World} {B n cap : Nat} {A : Option Addr} {l : List Nat} (h : OwnF w B A n cap l) (hb : Below w.heap.size w w') : OwnF w' B A n cap l :=
 ⟨h.1.kept (row := none) ⟨hb.os, hb.tape, hb.output, hb.size, fun k hk _ => hb.block k hk⟩ (by rcases A with _ | a <;> simp [Value.ownBlock]), h.2⟩
theorem OwnF.base {w : World} {B n cap : Nat} {A : Option Addr} {l : List Nat} (h : OwnF w B A n cap l) : ∀ k, A.map (·.block) = some k → B ≤ k := fun k hk => by
 rcases h.1.2 with ⟨h1, h2⟩ | ⟨g, cap', cur, h1, hb, _⟩
 ·cases h1; cases hk
 ·cases h1; simp at hk; omega
end Go.Proofs.YtifabkbdiiolfaaDoor

namespace Go.Proofs.YtifabkbdiiolfaaDoor
open Go.RowKit Go.WideShapes Col
theorem OwnF.more {w : World} {B n cap : Nat} {A : Option Addr} {l : List Nat} {B' : Nat} (h : OwnF w B A n cap l) (hB : B' ≤ B) : OwnF w B' A n cap l := by
 refine ⟨⟨h.1.1, ?_⟩, h.2⟩
 rcases h.1.2 with h1 | ⟨g, cap', cur, h1, hb, h2⟩
 ·exact .inl h1
 ·exact .inr ⟨g, cap', cur, h1, Nat.le_trans hB hb, h2⟩
end Go.Proofs.YtifabkbdiiolfaaDoor

namespace Go.Proofs.YtifabkbdiiolfaaDoor
open Go.RowKit Go.WideShapes Col
def WfT (x : List Nat) : Prop := ∀ c ∈ x, c < 256
/-- A slice value that holds some whole numbers, in a world. -/
def TxAt (w : World) (a : Option Addr) (l : List (List Nat)) : Prop := ∀ (k : Nat) (x : List Nat), l[k]? = some x → WfT x ∧ ∃ g off, a = some ⟨g, off, none⟩ ∧ g < w.heap.size ∧ w.cell? ⟨g, off + k, none⟩ = some (.string (strB x))
theorem TxAt.keep {w w' : World} {a : Option Addr} {l : List (List Nat)} (h : TxAt w a l) (hb : Below w.heap.size w w') : TxAt w' a l := fun k x hx => by
 obtain ⟨h1, g, off, h2, h3, h4⟩ := h k x hx
 exact ⟨h1, g, off, h2, Nat.lt_of_lt_of_le h3 hb.size, (hb.cell (p := ⟨g, off + k, none⟩) h3).trans h4⟩
theorem TxAt.wf {w : World} {a : Option Addr} {l : List (List Nat)} (h : TxAt w a l) : ∀ x ∈ l, WfT x := fun x hx => by
 obtain ⟨k, hk⟩ := List.getElem?_of_mem hx
 exact (h k x hk).1
theorem TxAt.nil (w : World) (a : Option Addr) : TxAt w a [] := fun k x hx => by simp at hx
theorem TxAt.at' {w w' : World} {a : Option Addr} {l : List (List Nat)} (h : Hid (TxAt w a l)) (hb : Below w.heap.size w w') : Hid (TxAt w' a l) := h.out.keep hb
theorem TxAt.spot {w : World} {a : Option Addr} {l : List (List Nat)} (h : TxAt w a l) (h0 : 0 < l.length) : ∃ g off, a = some ⟨g, off, none⟩ ∧ g < w.heap.size ∧ ∀ (k : Nat) (x : List Nat), l[k]? = some x → w.cell? ⟨g, off + k, none⟩ = some (.string (strB x)) := by
 obtain ⟨-, g, off, rfl, hg, -⟩ := h 0 l[0] (List.getElem?_eq_getElem h0)
 refine ⟨g, off, rfl, hg, fun k x hx => ?_⟩
 obtain ⟨-, g', off', h2, -, hc⟩ := h k x hx
 cases h2
 exact hc
def tv (x : List Nat) : Value := .string (strB x)
def tvs (l : List (List Nat)) : List Value := l.map tv
theorem tvs_length (l : List (List Nat)) : (tvs l).length = l.length := List.length_map ..
theorem tvs_append (l m : List (List Nat)) : tvs (l ++ m) = tvs l ++ tvs m := List.map_append ..
theorem tvs_one (l : List (List Nat)) : ∀ u ∈ tvs l, u.oneCell' = true := fun u hu => by
 obtain ⟨x, -, rfl⟩ := List.mem_map.1 hu; rfl
theorem TxAt.of_row {w : World} {g : Nat} {cs : Array Value} {t : TypeId} {fr : Nat × Nat} (l : List (List Nat)) (hl : ∀ x ∈ l, WfT x) (hrow : w.heap[g]? = some (.cells cs t fr)) (hcs : (tvs l).IsPrefix cs.toList) : TxAt w (some ⟨g, 0, none⟩) l := fun k x hx => by
 refine ⟨hl x (List.mem_of_getElem? hx), g, 0, rfl, (Array.getElem?_eq_some_iff.1 hrow).1, ?_⟩
 rw [cell_of_row w g (0 + k) cs t fr hrow, Nat.zero_add, ← Array.getElem?_toList]
 obtain ⟨r, hr⟩ := hcs
 have hk : k < (tvs l).length := by rw [tvs_length]; exact (List.getElem?_eq_some_iff.1 hx).1
 rw [← hr, List.getElem?_append_left hk]
 unfold tvs; rw [List.getElem?_map, hx]; rfl
theorem infoStr : (Tryd.prog.info? 9).map (fun i => (i.zero, i.size, i.bytes)) = some (some (.string { data := #[] }), 1, 16) := by kernel_rfl
/-- A slice of whole numbers that the call owns: its block lies from B on. -/
def OwnX (w : World) (B : Nat) (A : Option Addr) (n cap : Nat) (l : List (List Nat)) : Prop := w.ownsRow B 9 1 (.slice A n cap) n (tvs l) ∧ ∀ x ∈ l, WfT x
theorem OwnX.len {w : World} {B n cap : Nat} {A : Option Addr} {l : List (List Nat)} (h : OwnX w B A n cap l) : n = l.length := by have := h.1.1; rw [tvs_length] at this; omega
theorem OwnX.caps {w : World} {B n cap : Nat} {A : Option Addr} {l : List (List Nat)} (h : OwnX w B A n cap l) : n ≤ cap ∧ cap ≤ maxLen := by
 rcases h.1.2 with ⟨h1, h2⟩ | ⟨g, cap', cur, h1, -, -, h2, h3, -⟩
 ·cases h1; exact ⟨Nat.le_refl _, Nat.zero_le _⟩
 ·cases h1; exact ⟨h2, h3⟩
theorem OwnX.isAt {w : World} {B n cap : Nat} {A : Option Addr} {l : List (List Nat)} (h : OwnX w B A n cap l) : TxAt w A l := by
 rcases h.1.2 with ⟨h1, h2⟩ | ⟨g, cap', cur, h1, hb, hrow, -, -, hs, ht⟩
 ·have := h.len
  have hl : l = [] := List.eq_nil_of_length_eq_zero (by omega)
  subst hl; exact TxAt.nil _ _
 ·cases h1
  exact TxAt.of_row l h.2 hrow ⟨cur.toList.drop (n * 1), by rw [← ht, List.take_append_drop]⟩
theorem OwnX.nil (w : World) (B : Nat) : OwnX w B none 0 0 [] := ⟨w.ownsRow_nil B _ 1, fun x hx => by cases hx⟩
theorem OwnX.keep {w w' : World} {B n cap : Nat} {A : Option Addr} {l : List (List Nat)} (h : OwnX w B A n cap l) (hb : Below w.heap.size w w') : OwnX w' B A n cap l :=
 ⟨h.1.kept (row := none) ⟨hb.os, hb.tape, hb.output, hb.size, fun k hk _ => hb.block k hk⟩ (by rcases A with _ | a <;> simp [Value.ownBlock]), h.2⟩
theorem OwnX.base {w : World} {B n cap : Nat} {A : Option Addr} {l : List (List Nat)} (h : OwnX w B A n cap l) : ∀ k, A.map (·.block) = some k → B ≤ k := fun k hk => by
 rcases h.1.2 with ⟨h1, h2⟩ | ⟨g, cap', cur, h1, hb, _⟩
 ·cases h1; cases hk
 ·cases h1; simp at hk; omega
theorem tx_at {w : World} {a : Addr} {l : List (List Nat)} (h : TxAt w (some a) l) (j : Nat) (u : Value) (hu : (tvs l)[j]? = some u) : w.cell? (a.add j) = some u := by
 unfold tvs at hu
 rw [List.getElem?_map] at hu
 rcases hx : l[j]? with _ | x
 ·rw [hx] at hu; cases hu
 ·rw [hx] at hu
  obtain ⟨-, g, off, e, -, hc⟩ := h j x hx
  cases e
  rw [addr_add, hc]; exact hu
/-- append of whole numbers that are some, the source nil, empty or not. -/
theorem run_append_tx (w : World) (B : Nat) (A : Option Addr) (n cap : Nat) (l : List (List Nat)) (hown : OwnX w B A n cap l) (a : Addr) (m c : Nat) (l2 : List (List Nat)) (hm : m = l2.length) (h2 : TxAt w (some a) l2)
  (hbytes : (n + m) * 16 ≤ 140737488355328) (hbase : B ≤ w.heap.size) (ty : TypeId) :
  ∃ A' cap' w', (Builtin.append_ #[69, 69] ty #[.slice A n cap, .slice (some a) m c]).run Tryd.prog w = .ok (.slice A' (n + m) cap') w' ∧ OwnX w' B A' (n + m) cap' (l ++ l2) ∧ w.grownBy w' (A.map (·.block)) := by
 obtain ⟨i0, hi, hz0, hz1, hz2⟩ := info_parts infoStr
 have hlt : ∀ x ∈ l ++ l2, WfT x := fun x hx => by
  rcases List.mem_append.1 hx with h | h
  ·exact hown.2 x h
  ·exact h2.wf x h
 obtain ⟨v', w', hr, h3, h4, h5, h6⟩ := run_append_own_at (P := Tryd.prog) w B 69 ty 9 i0 (.string { data := #[] }) 1 16 Tryd.underlying69 hi hz0 hz1 hz2 rfl (by decide) _ n (tvs l) hown.1 a m c (tvs l2) (by rw [tvs_length, hm, Nat.mul_one]) (tx_at h2) (tvs_one l2) (by unfold maxLen; omega) (by omega) hbase
 rw [← tvs_append] at h3
 rcases h3.2 with ⟨rfl, h0⟩ | ⟨g, cap', cur, rfl, hb, hrest⟩
 ·have hn0 : n = 0 := by omega
  have hm0 : m = 0 := by omega
  subst hn0; subst hm0
  exact ⟨none, 0, w', hr, ⟨h3, hlt⟩, by rcases A with _ | _ <;> exact h4⟩
 ·exact ⟨_, _, w', hr, ⟨h3, hlt⟩, by rcases A with _ | _ <;> exact h4⟩
theorem wpList_append_tx {w : World} {ops : Array Oper} {rest : List Oper} {o : Oper} {a : Act} {Q : Exit → Act → World → Prop} (hgd : o.guard = none) (s x : Operand)
  (ho : o.op = .call { callee := .builtin .append, args := #[s, x], argTypes := #[69, 69] })
  (B : Nat) (A : Option Addr) (n cap : Nat) (l : List (List Nat)) (hs : a.eval s = .slice A n cap) (hown : OwnX w B A n cap l) (b : Addr) (m c : Nat) (l2 : List (List Nat)) (hx : a.eval x = .slice (some b) m c) (hm : m = l2.length) (h2 : TxAt w (some b) l2)
  (hbytes : (n + m) * 16 ≤ 140737488355328) (hbase : B ≤ w.heap.size)
  (h : ∀ A' cap' w', OwnX w' B A' (n + m) cap' (l ++ l2) → w.grownBy w' (A.map (·.block)) → wpList Tryd.prog ops Q rest (a.put o.dst (.slice A' (n + m) cap')) w') : wpList Tryd.prog ops Q (o :: rest) a w := by
 refine wpList_plain hgd fun K hK => ?_
 obtain ⟨A', cap', w', hr, h3, h4⟩ := run_append_tx w B A n cap l hown b m c l2 hm h2 hbytes hbase o.type
 unfold Oper.wp execOp
 simp only [ho, resolve, invoke, builtin, Sem.run_bind, Sem.run_pure, Result.andThen_ok, List.map_toArray, List.map_cons, List.map_nil, hs, hx, hr]
 exact hK _ _ (h A' cap' w' h3 h4)
theorem tx_one (w : World) (x : List Nat) (hx : WfT x) : TxAt (w.alloc (.cells #[.string (strB x)] 9)) (some ⟨w.heap.size, 0, none⟩) [x] :=
 TxAt.of_row _ (fun y hy => by simp at hy; subst hy; exact hx) (heap_alloc_new' w _) ⟨[], rfl⟩
/-- A row of whole numbers that is all of a slice. -/
def RowT (w : World) (g : Nat) (l : List (List Nat)) : Prop := w.heap[g]? = some (.cells (tvs l).toArray 9 (0, 0))
section
variable {w : World} {g : Nat} {l : List (List Nat)}
theorem RowT.fr (h : RowT w g l) (i : Nat) : w.frozen? ⟨g, i, none⟩ = false := row_frozen h i
theorem RowT.at (h : RowT w g l) (i : Nat) (hi : i < l.length) : ∃ u, w.cell? ⟨g, i, none⟩ = some u := by
 rw [cell_of_row _ _ _ _ _ _ h, List.getElem?_toArray]
 exact ⟨_, List.getElem?_eq_getElem (by rw [tvs_length]; exact hi)⟩
theorem RowT.set (h : RowT w g l) (i : Nat) (x : List Nat) : RowT (w.setCell ⟨g, i, none⟩ (.string (strB x))) g (l.set i x) := by
 unfold RowT at *
 rw [World.setCell]
 simp only [Array.getElem?_modify, if_pos, h, Option.map_some]
 have e : (tvs l).toArray.setIfInBounds i (.string (strB x)) = (tvs (l.set i x)).toArray := by
  unfold tvs; rw [List.map_set]; simp; rfl
 simp [e]
theorem RowT.keep {S : Nat → Prop} {w' : World} (h : RowT w g l) (hk : Kept S w w') (hg : ¬ S g) : RowT w' g l := hk.heap h hg
theorem RowT.own {B : Nat} (h : RowT w g l) (hB : B ≤ g) (hl : ∀ x ∈ l, WfT x) (hm : l.length ≤ maxLen) : OwnX w B (some ⟨g, 0, none⟩) l.length l.length l := by
 refine ⟨⟨by rw [tvs_length]; omega, .inr ⟨g, l.length, _, rfl, hB, h, Nat.le_refl _, hm, by simp [tvs_length], by rw [Nat.mul_one]; simp [tvs_length, List.take_of_length_le]⟩⟩, hl⟩
end
theorem rowT_zeros {w : World} {B g q : Nat} (h : w.ownsRow B 9 1 (.slice (some ⟨g, 0, none⟩) q q) q (madeCells (Value.string { data := #[] }).cells (q * 1)).toList) : RowT w g (List.replicate q []) := by
 have e : tvs (List.replicate q []) = List.replicate q (.string { data := #[] }) := by unfold tvs; rw [List.map_replicate]; rfl
 rw [Nat.mul_one, show (Value.string { data := #[] }).cells = #[.string { data := #[] }] from rfl, toList_madeCells_one, ← e] at h
 rcases h.2 with ⟨h1, h2⟩ | ⟨g', cap', cur, h1, hb, hrow, -, -, hs, ht⟩
 ·cases h1
 ·cases h1
  unfold RowT
  rw [hrow]
  have hc : cur = (tvs (List.replicate q [])).toArray := by
   apply Array.ext'
   rw [← ht, Nat.mul_one, List.take_of_length_le (by rw [Array.length_toList, hs]; omega)]
  rw [hc]
theorem fill_setT (xs : List (List Nat)) (n k : Nat) (hx : xs.length = k) (hk : k < n) (x : List Nat) : (xs ++ List.replicate (n - k) []).set k x = (xs ++ [x]) ++ List.replicate (n - (k + 1)) [] := by
 obtain ⟨m, rfl⟩ : ∃ m, n = k + 1 + m := ⟨n - k - 1, by omega⟩
 rw [show k + 1 + m - k = m + 1 by omega, show k + 1 + m - (k + 1) = m by omega, List.replicate_succ, List.set_append_right _ _ (by omega), hx, Nat.sub_self, List.set_cons_zero, List.append_assoc]; rfl
end Go.Proofs.YtifabkbdiiolfaaDoor
