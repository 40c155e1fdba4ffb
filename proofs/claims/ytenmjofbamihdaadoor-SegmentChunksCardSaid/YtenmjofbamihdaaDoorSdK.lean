/-
  Layer column: the document's own reader: whole numbers laid packed.
-/
import Derived.Test.YtenmjofbamihdaaDoorCdK
set_option linter.unusedSimpArgs false
set_option linter.unusedVariables false
set_option maxRecDepth 8000
namespace Go.Proofs.YtenmjofbamihdaaDoor
open Go.RowKit Go.WideShapes Col
namespace Col
/-- The number of some bytes. -/
def vlb : List Nat → Nat
  | [] => 0
  | b :: r => b + 256 * vlb r
/-- w bits from a place on. -/
def bitsAt (V at' w : Nat) : Nat := V / 2 ^ at' % 2 ^ w
end Col

end Go.Proofs.YtenmjofbamihdaaDoor

set_option linter.unusedSimpArgs false
set_option linter.unusedVariables false
set_option maxRecDepth 8000
namespace Go.Proofs.YtenmjofbamihdaaDoor
open Go.RowKit Go.WideShapes Col
namespace Col
def dstep (s : Int × List Nat) : Option (Int × (Int × List Nat)) := (zP s.2).map fun p => (wrap64 (s.1 + p.1), (wrap64 (s.1 + p.1), p.2))
end Col
theorem Rd.high {w w' : World} {g : Nat} {q : List Nat} {S : Nat → Prop} (h : Rd w g q) (hk : Kept S w w') (hS : ∀ k, S k → g < k) : Rd w' g q := by
  obtain ⟨A, C, h⟩ := h
  exact ⟨A, C, h.keep hk (fun e => by have := hS g e; omega) fun a ha h0 hs => by have := h.low a ha h0; have := hS _ hs; omega⟩
theorem Rd.glt {w : World} {g : Nat} {q : List Nat} (h : Rd w g q) : g < w.heap.size := by obtain ⟨A, C, h⟩ := h; exact h.lt
/-- A reader, and how many bytes are left at most. -/
def RdM (g : Nat) (q : List Nat) (w : World) : Prop := Rd w g q ∧ q.length ≤ 1099511627776
/-- What readDelta's function stands on. -/
structure DS (g ah bx : Nat) (s : Int × List Nat) (w : World) : Prop where
  rd : RdM g s.2 w
  ahead : w.heap[ah]? = some (.cells #[.int .i64 s.1] 2 (0, 0))
  box : w.heap[bx]? = some (.cells #[.pointer (some ⟨g, 0, none⟩)] 87 (0, 0))
  n1 : g < ah
  n2 : g < bx
  n3 : ah ≠ bx
theorem DS.keep {g ah bx : Nat} {s : Int × List Nat} {w w' : World} {S : Nat → Prop} (h : DS g ah bx s w) (hk : Kept S w w') (hS : ∀ k, S k → w.heap.size ≤ k ∨ (g < k ∧ k ≠ ah ∧ k ≠ bx)) : DS g ah bx s w' := by
  have hg := h.rd.1.glt
  have ha := (Array.getElem?_eq_some_iff.1 h.ahead).1
  have hb := (Array.getElem?_eq_some_iff.1 h.box).1
  exact ⟨⟨h.rd.1.high hk fun k hs => by have := hS k hs; omega, h.rd.2⟩, hk.heap h.ahead fun e => by have := hS _ e; omega, hk.heap h.box fun e => by have := hS _ e; omega, h.n1, h.n2, h.n3⟩
abbrev Two (g ah : Nat) : Nat → Prop := fun k => k = g ∨ k = ah
theorem one_two {g ah : Nat} {w w' : World} (h : Kept (Only g) w w') : Kept (Two g ah) w w' := h.mono fun k hk => .inl (.inl hk)
theorem DS.c0 {g ah bx : Nat} {s : Int × List Nat} {w : World} (h : DS g ah bx s w) : w.cell? ⟨ah, 0, none⟩ = some (.int .i64 s.1) := by rw [cell_of_row _ _ _ _ _ _ h.ahead]; rfl
theorem DS.drew {g ah bx : Nat} {s : Int × List Nat} {w : World} (h : DS g ah bx s w) : DS g ah bx s w.drew := h.keep (S := fun _ => False) ((Kept.refl _ _).drew) fun k hk => hk.elim
/-- Behind the reading, and the writing. -/
theorem DS.step {g ah bx : Nat} {a x : Int} {q r : List Nat} {w w1 : World} (h : DS g ah bx (a, q) w) (hr : Rd w1 g r) (hl : r.length ≤ q.length) (hk : Kept (Only g) w w1) : DS g ah bx (x, r) (w1.setCell ⟨ah, 0, none⟩ (.int .i64 x)) ∧ Kept (Two g ah) w (w1.setCell ⟨ah, 0, none⟩ (.int .i64 x)) := by
  have hka : Kept (fun k => k = ah) w1 (w1.setCell ⟨ah, 0, none⟩ (.int .i64 x)) := (Kept.refl _ _).setCell _ _ (.inl rfl)
  refine ⟨⟨⟨hr.high hka fun k hk => by have hk : k = ah := hk; have := h.n1; omega, Nat.le_trans hl h.rd.2⟩, ?_, (hka.heap (hk.heap h.box fun e => by have e : bx = g := e; have := h.n2; omega) fun e => h.n3 e.symm), h.n1, h.n2, h.n3⟩, (one_two hk).setCell _ _ (.inl (.inr rfl))⟩
  have h1 := hk.heap h.ahead fun e => by have e : ah = g := e; have := h.n1; omega
  rw [World.setCell]; simp [Array.getElem?_modify, h1]
end Go.Proofs.YtenmjofbamihdaaDoor

set_option linter.unusedSimpArgs false
set_option linter.unusedVariables false
set_option maxRecDepth 8000
namespace Go.Proofs.YtenmjofbamihdaaDoor
open Go.RowKit Go.WideShapes Col
namespace Col
def rdDelta (n : Nat) (q : List Nat) : Option (List Int × List Nat) := (runS dstep n (0, q)).map fun p => (p.1, p.2.2)
/-- Numbers read by their runs. -/
def rruns : Nat → List Nat → Option (List Int × List Nat)
  | 0, q => some ([], q)
  | m + 1, q => (zP q).bind fun p => (uP m p.2).bind fun r => (rruns (m - r.1) r.2).map fun t => (List.replicate (r.1 + 1) p.1 ++ t.1, t.2)
termination_by m => m
decreasing_by omega
end Col
theorem OwnI.more {w : World} {B n cap : Nat} {A : Option Addr} {l : List Int} {B' : Nat} (h : OwnI w B A n cap l) (hB : B' ≤ B) : OwnI w B' A n cap l := by
  refine ⟨⟨h.1.1, ?_⟩, h.2⟩
  rcases h.1.2 with h1 | ⟨g, cap', cur, h1, hb, h2⟩
  · exact .inl h1
  · exact .inr ⟨g, cap', cur, h1, Nat.le_trans hB hb, h2⟩
theorem ListEnds.lift {σ : Type} {g : Nat} {Sw : Nat → Prop} {St : σ → World → Prop} {o : Option (List Int × σ)} {w w2 w' : World} {e : Ending} (h : ListEnds g Sw St o w2 e w') (hb : Kept (Only g) w w2) (f : σ → List Nat) (hSt : ∀ s w', St s w' → RdM g (f s) w') (hS : ∀ k, Sw k → k = g ∨ w.heap.size ≤ k) :
    ListEnds g (Only g) (RdM g) (o.map fun p => (p.1, f p.2)) w e w' := by
  rcases o with _ | p
  · obtain ⟨h1, h2, h3⟩ := h
    exact ⟨h1, h2, hb.trans' h3 hS⟩
  · obtain ⟨⟨A, n, cap, he, ho⟩, h2, h3⟩ := h
    exact ⟨⟨A, n, cap, he, ho.more hb.size⟩, hSt _ _ h2, hb.trans' h3 hS⟩
theorem RdM.high {g : Nat} {q : List Nat} {w w' : World} {S : Nat → Prop} (h : RdM g q w) (hk : Kept S w w') (hS : ∀ k, S k → g < k) : RdM g q w' := ⟨h.1.high hk hS, h.2⟩
end Go.Proofs.YtenmjofbamihdaaDoor

set_option linter.unusedSimpArgs false
set_option linter.unusedVariables false
set_option maxRecDepth 8000
namespace Go.Proofs.YtenmjofbamihdaaDoor
open Go.RowKit Go.WideShapes Col
namespace Col
def atI (i W : Nat) : Int := (i : Int) * (W : Int) - (W : Int)
theorem atI_next (i W : Nat) : atI (i + 1) W = ((i * W : Nat) : Int) := by unfold atI; rw [Int.natCast_mul, Int.natCast_add, Int.add_mul]; simp
/-- The i-th of some packed numbers. -/
def pval (W V : Nat) (mn : Int) (i : Nat) : Int := wrap64 (mn + IntKind.i64.wrap ((bitsAt V (i * W) W : Nat) : Int))
end Col
attribute [irreducible] atI
structure PS (g ca cw cl cp W K C V : Nat) (A : Option Addr) (mn : Int) (s : Nat × List Nat) (w : World) : Prop where
  rd : RdM g s.2 w
  ra : w.heap[ca]? = some (.cells #[.int .i64 (atI s.1 W)] 3 (0, 0))
  rw : w.heap[cw]? = some (.cells #[.int .i64 (W : Int)] 3 (0, 0))
  rl : w.heap[cl]? = some (.cells #[.int .i64 mn] 2 (0, 0))
  rp : w.heap[cp]? = some (.cells #[.slice A K C] 24 (0, 0))
  bytes : ByAt w A (leb K V)
  low : ∀ a, A = some a → 0 < (leb K V).length → a.block < g
  n1 : g < ca
  n2 : g < cw
  n3 : g < cl
  n4 : g < cp
  n5 : ca ≠ cw
  n6 : ca ≠ cl
  n7 : ca ≠ cp
section
variable {g ca cw cl cp W K C V : Nat} {A : Option Addr} {mn : Int} {s : Nat × List Nat} {w w' : World}
theorem PS.keep {S : Nat → Prop} (h : PS g ca cw cl cp W K C V A mn s w) (hk : Kept S w w') (hS : ∀ k, S k → g < k ∧ k ≠ ca ∧ k ≠ cw ∧ k ≠ cl ∧ k ≠ cp) : PS g ca cw cl cp W K C V A mn s w' :=
  ⟨h.rd.high hk fun k hs => (hS k hs).1, hk.heap h.ra fun e => (hS _ e).2.1 rfl, hk.heap h.rw fun e => (hS _ e).2.2.1 rfl, hk.heap h.rl fun e => (hS _ e).2.2.2.1 rfl, hk.heap h.rp fun e => (hS _ e).2.2.2.2 rfl,
    h.bytes.kept hk fun a ha h0 hs => by have := h.low a ha h0; have := (hS _ hs).1; omega, h.low, h.n1, h.n2, h.n3, h.n4, h.n5, h.n6, h.n7⟩
theorem PS.put {i : Nat} {r : List Nat} (h : PS g ca cw cl cp W K C V A mn (i, r) w) : PS g ca cw cl cp W K C V A mn (i + 1, r) (w.setCell ⟨ca, 0, none⟩ (.int .i64 ((i * W : Nat) : Int))) := by
  have hk : Kept (fun k => k = ca) w (w.setCell ⟨ca, 0, none⟩ (.int .i64 ((i * W : Nat) : Int))) := (Kept.refl _ _).setCell _ _ (.inl rfl)
  refine ⟨h.rd.high hk fun k hs => by have hs : k = ca := hs; have := h.n1; omega, ?_, hk.heap h.rw fun e => h.n5 e.symm, hk.heap h.rl fun e => h.n6 e.symm, hk.heap h.rp fun e => h.n7 e.symm, h.bytes.kept hk fun a ha h0 hs => by have := h.low a ha h0; have := h.n1; have hs : a.block = ca := hs; omega, h.low, h.n1, h.n2, h.n3, h.n4, h.n5, h.n6, h.n7⟩
  have h1 := h.ra
  rw [World.setCell, atI_next]; simp [Array.getElem?_modify, h1]
end
end Go.Proofs.YtenmjofbamihdaaDoor

set_option linter.unusedSimpArgs false
set_option linter.unusedVariables false
set_option maxRecDepth 8000
namespace Go.Proofs.YtenmjofbamihdaaDoor
open Go.RowKit Go.WideShapes Col
namespace Col
/-- Packed numbers read. -/
def rpk2 (n : Nat) (mn : Int) : List Nat → Option (List Int × List Nat)
  | [] => none
  | W :: r => if W ≤ 64 ∧ (n * W + 7) / 8 ≤ r.length ∧ vlb (r.take ((n * W + 7) / 8)) < 2 ^ (n * W) then some ((List.range n).map (pval W (vlb (r.take ((n * W + 7) / 8))) mn), r.drop ((n * W + 7) / 8)) else none
def rpk (n : Nat) (q : List Nat) : Option (List Int × List Nat) := if n = 0 then some ([], q) else (zP q).bind fun p => rpk2 n p.1 p.2
end Col
end Go.Proofs.YtenmjofbamihdaaDoor

set_option linter.unusedSimpArgs false
set_option linter.unusedVariables false
set_option maxRecDepth 8000
namespace Go.Proofs.YtenmjofbamihdaaDoor
open Go.RowKit Go.WideShapes Col
namespace Col
def rW (way n : Nat) (q : List Nat) : Option (List Int × List Nat) := if way = 0 then runS zP n q else if way = 1 then rdDelta n q else if way = 2 then rruns n q else if way = 3 then rpk n q else none
/-- Whole numbers read, in whatever way they were laid. -/
def rI : List Nat → Option (List Int × List Nat)
  | [] => none
  | way :: q => (uP 4096 q).bind fun p => rW way p.1 p.2
end Col
theorem ListEnds.up {g : Nat} {o : Option (List Int × List Nat)} {w w2 w' : World} {e : Ending} (h : ListEnds g (Only g) (RdM g) o w2 e w') (hb : Kept (Only g) w w2) : ListEnds g (Only g) (RdM g) o w e w' := by
  have := h.lift hb (fun s => s) (fun s w' h => h) (fun k hk => .inl hk)
  rcases o with _ | p <;> exact this
/-- The reading of a list, all of it. -/
def riL (q : List Nat) : Option (List Int) := match rI q with
  | some (l, []) => some l
  | _ => none
theorem OwnI.keptG {w w' : World} {B n cap g : Nat} {A : Option Addr} {l : List Int} (h : OwnI w B A n cap l) (hk : Kept (Only g) w w') (hne : g < B) : OwnI w' B A n cap l :=
  ⟨h.1.kept (row := some g) ⟨hk.os, hk.tape, hk.output, hk.size, fun k hk' hn => hk.block k hk' (fun e => hn (by rw [show k = g from e]))⟩ (by
    have hb := h.base
    rcases A with _ | a
    · simp [Value.ownBlock]
    · have := hb a.block rfl
      simp [Value.ownBlock]; omega), h.2⟩
/-- What the list's cell holds behind the reading. -/
def RdL (q : List Nat) (cl B : Nat) (b : Bool) (w : World) : Prop := match b with
  | true => ∃ A n cap l, riL q = some l ∧ w.heap[cl]? = some (.cells #[.slice A n cap] 74 (0, 0)) ∧ OwnI w B A n cap l
  | false => riL q = none
theorem RdL.keep {q : List Nat} {cl B g : Nat} {b : Bool} {w w' : World} (h : RdL q cl B b w) (hk : Kept (Only g) w w') (h1 : cl ≠ g) (h2 : g < B) : RdL q cl B b w' := by
  cases b with
  | false => exact h
  | true =>
    obtain ⟨A, n, cap, l, e, hr, ho⟩ := h
    exact ⟨A, n, cap, l, e, hk.heap hr fun e => h1 e, ho.keptG hk h2⟩
theorem RdL.less {q : List Nat} {cl B B' : Nat} {b : Bool} {w : World} (h : RdL q cl B b w) (hB : B' ≤ B) : RdL q cl B' b w := by
  cases b with
  | false => exact h
  | true =>
    obtain ⟨A, n, cap, l, e, hr, ho⟩ := h
    exact ⟨A, n, cap, l, e, hr, ho.more hB⟩
end Go.Proofs.YtenmjofbamihdaaDoor

set_option linter.unusedSimpArgs false
set_option linter.unusedVariables false
set_option maxRecDepth 8000
namespace Go.Proofs.YtenmjofbamihdaaDoor
open Go.RowKit Go.WideShapes Col
namespace Col
theorem grp_back (n : Nat) (hn : n < 18446744073709551616) (r : List Nat) : grp 0 (ub n ++ r) = some (n, r) := grp_ub r n 0 ⟨by omega, hn⟩ (.inr rfl)
theorem uP_back {most n : Nat} (hn : n ≤ most) (h : n < 18446744073709551616) (r : List Nat) : uP most (ub n ++ r) = some (n, r) := by
  unfold uP; rw [grp_back n h r]; simp [hn]
theorem zP_back {x : Int} (h : Wf64 x) (r : List Nat) : zP (ub (zz x) ++ r) = some (x, r) := by
  unfold zP; rw [grp_back _ (zz_lt h) r]; simp [uz_zz]
theorem pick_le (b p : List Nat) : (pickL b p).length ≤ b.length ∧ (pickL b p).length ≤ p.length := by unfold pickL; split <;> omega
theorem best_le (k : Nat) (l : List Int) : ∀ way, way ≤ k → (bestL k l).length ≤ (asL way l).length := by
  induction k with
  | zero => intro way h; rw [show way = 0 by omega]; exact Nat.le_refl _
  | succ k ih =>
    intro way h
    show (pickL (bestL k l) (asL (k + 1) l)).length ≤ _
    obtain ⟨h1, h2⟩ := pick_le (bestL k l) (asL (k + 1) l)
    by_cases e : way = k + 1
    · rw [e]; exact h2
    · exact Nat.le_trans h1 (ih way (by omega))
end Col
end Go.Proofs.YtenmjofbamihdaaDoor

set_option linter.unusedSimpArgs false
set_option linter.unusedVariables false
set_option maxRecDepth 8000
namespace Go.Proofs.YtenmjofbamihdaaDoor
open Go.RowKit Go.WideShapes Col
theorem Puts.at {B : Nat} {w w' : World} {l : List Nat} {e : Ending} (h : Puts B w l e w') : ∃ A n cap, e = .returned (.slice A n cap) ∧ Hid (OwnS w' B A n cap l) ∧ Hid (Below B w w') ∧ n = l.length := by
  obtain ⟨A, n, cap, he, ho, hb, -⟩ := h
  exact ⟨A, n, cap, he, ho, hb, ho.len⟩
end Go.Proofs.YtenmjofbamihdaaDoor

set_option linter.unusedSimpArgs false
set_option linter.unusedVariables false
set_option maxRecDepth 20000
namespace Go.Proofs.YtenmjofbamihdaaDoor
open Go.RowKit Go.WideShapes Col
theorem yb_bin {ops : Array Oper} {S : World → Prop} {op : Oper} {a : Act} (hw : Region.wanted op (yielded ops a.tmps) = true) (o : BinOp) (t t2 : TypeId) (x y : Operand) (ho : op.op = .binOp o t x y t2) (v1 v2 u : Value) (hx : a.eval x = v1) (hy : a.eval y = v2)
    (he : ∀ w, (eqGuard o t x y v1 v2).run Tryd.prog w = .ok () w) (h : ∀ w, (binOp o t v1 v2).run Tryd.prog w = .ok u w) : YieldsIf Tryd.prog ops S op u a :=
  .inl ⟨hw, fun w _ => by
    unfold execOp
    simp only [ho, hx, hy, Sem.run_bind, Sem.run_pure, he w, h w, Result.andThen_ok]⟩
end Go.Proofs.YtenmjofbamihdaaDoor

set_option linter.unusedSimpArgs false
set_option linter.unusedVariables false
set_option maxRecDepth 8000
namespace Go.Proofs.YtenmjofbamihdaaDoor
open Go.RowKit Go.WideShapes Col
namespace Col
theorem map_snoc (W V : Nat) (mn : Int) (i : Nat) : (List.range (i + 1)).map (pval W V mn) = (List.range i).map (pval W V mn) ++ [pval W V mn i] := by rw [List.range_succ, List.map_append]; rfl
end Col
end Go.Proofs.YtenmjofbamihdaaDoor
