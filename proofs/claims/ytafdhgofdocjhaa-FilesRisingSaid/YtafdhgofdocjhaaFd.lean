/-
  Layer files: what a store of one file is in memory, and how it changes.
-/
import Derived.Test.YtafdhgofdocjhaaFc
set_option linter.unusedSimpArgs false
set_option linter.unusedVariables false
namespace Go.Proofs.Ytafdhgofdocjhaa
open Go.RowKit Go.WideShapes

def stC (room : Int) (F : Option Addr) (n fcap : Nat) (off : Bool) (armed ops : Int) : List Value := [.int .i64 room, .slice F n fcap, .bool off, .int .i64 armed, .int .i64 ops]
def flC (A : Option Addr) (n cap : Nat) (du : Int) : List Value := [.string { data := #[97] }, .slice A n cap, .int .i64 du]
theorem gb_below {W w w' : World} {g : Nat} (h : W.grownBy w (some g)) (hb : Below w.heap.size w w') : W.grownBy w' (some g) :=
  ⟨hb.os.trans h.os, hb.tape.trans h.tape, hb.output.trans h.output, Nat.le_trans h.size hb.size, fun k hk hn => (hb.block k (Nat.lt_of_lt_of_le hk h.size)).trans (h.block k hk hn)⟩
theorem gb_set {W w : World} {g b : Nat} (h : W.grownBy w (some g)) (hb : b = g ∨ W.heap.size ≤ b) (i : Nat) (u : Value) : W.grownBy (w.setCell ⟨b, i, none⟩ u) (some g) :=
  ⟨h.os, h.tape, h.output, by simpa [World.setCell] using h.size, fun k hk hn => by
    rw [← h.block k hk hn]
    have hne : b ≠ k := by
      rcases hb with rfl | hb
      · exact fun e => hn (by rw [e])
      · omega
    simp [World.setCell, Array.getElem?_modify, hne]⟩
theorem gb_grown {W w w' : World} {g : Nat} {row : Option Nat} (h : W.grownBy w (some g)) (hg : w.grownBy w' row) (hr : ∀ k, row = some k → W.heap.size ≤ k) : W.grownBy w' (some g) :=
  ⟨hg.os.trans h.os, hg.tape.trans h.tape, hg.output.trans h.output, Nat.le_trans h.size hg.size, fun k hk hn => (hg.block k (Nat.lt_of_lt_of_le hk h.size) (fun e => by have := hr k e.symm; omega)).trans (h.block k hk hn)⟩
theorem gb_new {W w : World} {g : Nat} (h : W.grownBy w (some g)) (hg : W.heap.size ≤ g) : Below W.heap.size W w :=
  ⟨h.os, h.tape, h.output, h.size, fun k hk => h.block k hk (fun e => by injection e; omega)⟩
/-- A store without files. -/
structure S0 (W : World) (g : Nat) (room : Int) (off : Bool) (armed ops : Int) (w : World) : Prop where
  below : W.grownBy w (some g)
  st : w.heap[g]? = some (.cells (stC room none 0 0 off armed ops).toArray 68 (0, 0))
/-- A store with one file, of the name a. -/
structure S1 (W : World) (g : Nat) (room : Int) (off : Bool) (armed ops : Int) (f fcap : Nat) (r : List Value) (A : Option Addr) (cap : Nat) (l : List Nat) (du : Int) (w : World) : Prop where
  below : W.grownBy w (some g)
  fbase : W.heap.size ≤ f
  ne : g ≠ f
  st : w.heap[g]? = some (.cells (stC room (some ⟨f, 0, none⟩) 1 fcap off armed ops).toArray 68 (0, 0))
  fl : w.heap[f]? = some (.cells (flC A l.length cap du ++ r).toArray 74 (0, 0))
  fc : r.length + 3 = fcap * 3 ∧ fcap ≤ maxLen
  own : OwnS w W.heap.size A l.length cap l
  sg : A.map (·.block) ≠ some g
  sf : A.map (·.block) ≠ some f
theorem row_cells {w : World} {g : Nat} {cs : List Value} {t : TypeId} (h : w.heap[g]? = some (.cells cs.toArray t (0, 0))) (i : Nat) (v : Value) (hi : cs[i]? = some v) : w.cell? ⟨g, i, none⟩ = some v := by
  rw [cell_of_row w g i cs.toArray t (0, 0) h, ← hi]; simp
theorem row_far {w : World} {g f i : Nat} {u : Value} {o : Obj} (hne : g ≠ f) (h : w.heap[f]? = some o) : (w.setCell ⟨g, i, none⟩ u).heap[f]? = some o := by
  simp [World.setCell, Array.getElem?_modify, h, hne]
theorem below_setCell1 {B g : Nat} {w0 w : World} (h : Below B w0 w) (hg : B ≤ g) (i : Nat) (u : Value) : Below B w0 (w.setCell ⟨g, i, none⟩ u) := h.setCell (by exact hg) u
theorem own_far {w : World} {B g i n cap : Nat} {A : Option Addr} {l : List Nat} {u : Value} (h : OwnS w B A n cap l) (hne : A.map (·.block) ≠ some g) : OwnS (w.setCell ⟨g, i, none⟩ u) B A n cap l := by
  refine ⟨⟨h.1.1, ?_⟩, h.2⟩
  rcases h.1.2 with h1 | ⟨a, cap', cur, h1, hb, hrow, hrest⟩
  · exact .inl h1
  · cases h1
    exact .inr ⟨a, cap, cur, rfl, hb, row_far (fun e => hne (by simp [e])) hrow, hrest⟩
theorem own_grown {w w' : World} {B n cap : Nat} {A : Option Addr} {l : List Nat} {row : Option Nat} (h : OwnS w B A n cap l) (hg : w.grownBy w' row) (hne : ∀ k, A.map (·.block) = some k → row ≠ some k) : OwnS w' B A n cap l := by
  refine ⟨⟨h.1.1, ?_⟩, h.2⟩
  rcases h.1.2 with h1 | ⟨a, cap', cur, h1, hb, hrow, hrest⟩
  · exact .inl h1
  · cases h1
    refine .inr ⟨a, cap, cur, rfl, hb, ?_, hrest⟩
    rw [hg.block a (Array.getElem?_eq_some_iff.1 hrow).1 (fun e => hne a rfl e.symm)]
    exact hrow
theorem row_kept {w w' : World} {g : Nat} {o : Obj} (h : w.heap[g]? = some o) (hb : Below w.heap.size w w') : w'.heap[g]? = some o := (hb.block g (Array.getElem?_eq_some_iff.1 h).1).trans h
section
variable {W : World} {g f fcap cap : Nat} {room armed ops du : Int} {off : Bool} {r : List Value} {A : Option Addr} {l : List Nat} {w w' : World}
theorem S0.next (h : S0 W g room off armed ops w) (hb : Below w.heap.size w w') : S0 W g room off armed ops w' := ⟨gb_below h.below hb, row_kept h.st hb⟩
theorem S0.drew (h : S0 W g room off armed ops w) : S0 W g room off armed ops w.drew := ⟨gb_below h.below (Below.refl _ _).drew, h.st⟩
theorem S1.next (h : S1 W g room off armed ops f fcap r A cap l du w) (hb : Below w.heap.size w w') : S1 W g room off armed ops f fcap r A cap l du w' :=
  ⟨gb_below h.below hb, h.fbase, h.ne, row_kept h.st hb, row_kept h.fl hb, h.fc, h.own.keep hb, h.sg, h.sf⟩
theorem S1.drew (h : S1 W g room off armed ops f fcap r A cap l du w) : S1 W g room off armed ops f fcap r A cap l du w.drew := h.next (Below.refl _ _).drew
theorem S1.putOps (h : S1 W g room off armed ops f fcap r A cap l du w) (v : Int) : S1 W g room off armed v f fcap r A cap l du (w.setCell ⟨g, 4, none⟩ (.int .i64 v)) :=
  ⟨gb_set h.below (.inl rfl) _ _, h.fbase, h.ne, row_set h.st 4 _, row_far h.ne h.fl, h.fc, own_far h.own h.sg, h.sg, h.sf⟩
theorem S1.putArmed (h : S1 W g room off armed ops f fcap r A cap l du w) (v : Int) : S1 W g room off v ops f fcap r A cap l du (w.setCell ⟨g, 3, none⟩ (.int .i64 v)) :=
  ⟨gb_set h.below (.inl rfl) _ _, h.fbase, h.ne, row_set h.st 3 _, row_far h.ne h.fl, h.fc, own_far h.own h.sg, h.sg, h.sf⟩
theorem S1.putOff (h : S1 W g room off armed ops f fcap r A cap l du w) (v : Bool) : S1 W g room v armed ops f fcap r A cap l du (w.setCell ⟨g, 2, none⟩ (.bool v)) :=
  ⟨gb_set h.below (.inl rfl) _ _, h.fbase, h.ne, row_set h.st 2 _, row_far h.ne h.fl, h.fc, own_far h.own h.sg, h.sg, h.sf⟩
theorem S1.putDu (h : S1 W g room off armed ops f fcap r A cap l du w) (v : Int) : S1 W g room off armed ops f fcap r A cap l v (w.setCell ⟨f, 2, none⟩ (.int .i64 v)) :=
  ⟨gb_set h.below (.inr h.fbase) _ _, h.fbase, h.ne, row_far (Ne.symm h.ne) h.st, row_set h.fl 2 _, h.fc, own_far h.own h.sf, h.sg, h.sf⟩
theorem S0.putOps (h : S0 W g room off armed ops w) (v : Int) : S0 W g room off armed v (w.setCell ⟨g, 4, none⟩ (.int .i64 v)) :=
  ⟨gb_set h.below (.inl rfl) _ _, row_set h.st 4 _⟩
theorem S1.g0 (h : S1 W g room off armed ops f fcap r A cap l du w) : w.cell? ⟨g, 0, none⟩ = some (.int .i64 room) := row_cells h.st 0 _ rfl
theorem S1.g1 (h : S1 W g room off armed ops f fcap r A cap l du w) : w.cell? ⟨g, 1, none⟩ = some (.slice (some ⟨f, 0, none⟩) 1 fcap) := row_cells h.st 1 _ rfl
theorem S1.g2 (h : S1 W g room off armed ops f fcap r A cap l du w) : w.cell? ⟨g, 2, none⟩ = some (.bool off) := row_cells h.st 2 _ rfl
theorem S1.g3 (h : S1 W g room off armed ops f fcap r A cap l du w) : w.cell? ⟨g, 3, none⟩ = some (.int .i64 armed) := row_cells h.st 3 _ rfl
theorem S1.g4 (h : S1 W g room off armed ops f fcap r A cap l du w) : w.cell? ⟨g, 4, none⟩ = some (.int .i64 ops) := row_cells h.st 4 _ rfl
theorem S1.gf (h : S1 W g room off armed ops f fcap r A cap l du w) (i : Nat) : w.frozen? ⟨g, i, none⟩ = false := row_frozen h.st i
theorem S1.f0 (h : S1 W g room off armed ops f fcap r A cap l du w) : w.cell? ⟨f, 0, none⟩ = some (.string { data := #[97] }) := row_cells h.fl 0 _ rfl
theorem S1.f1 (h : S1 W g room off armed ops f fcap r A cap l du w) : w.cell? ⟨f, 1, none⟩ = some (.slice A l.length cap) := row_cells h.fl 1 _ rfl
theorem S1.f2 (h : S1 W g room off armed ops f fcap r A cap l du w) : w.cell? ⟨f, 2, none⟩ = some (.int .i64 du) := row_cells h.fl 2 _ rfl
theorem S1.ff (h : S1 W g room off armed ops f fcap r A cap l du w) (i : Nat) : w.frozen? ⟨f, i, none⟩ = false := row_frozen h.fl i
theorem S0.g0 (h : S0 W g room off armed ops w) : w.cell? ⟨g, 0, none⟩ = some (.int .i64 room) := row_cells h.st 0 _ rfl
theorem S0.g1 (h : S0 W g room off armed ops w) : w.cell? ⟨g, 1, none⟩ = some (.slice none 0 0) := row_cells h.st 1 _ rfl
theorem S0.g2 (h : S0 W g room off armed ops w) : w.cell? ⟨g, 2, none⟩ = some (.bool off) := row_cells h.st 2 _ rfl
theorem S0.g3 (h : S0 W g room off armed ops w) : w.cell? ⟨g, 3, none⟩ = some (.int .i64 armed) := row_cells h.st 3 _ rfl
theorem S0.g4 (h : S0 W g room off armed ops w) : w.cell? ⟨g, 4, none⟩ = some (.int .i64 ops) := row_cells h.st 4 _ rfl
theorem S0.gf (h : S0 W g room off armed ops w) (i : Nat) : w.frozen? ⟨g, i, none⟩ = false := row_frozen h.st i
theorem S0.rebase (h : S0 W g room off armed ops w) : S0 w g room off armed ops w := ⟨World.grownBy.refl _ _, h.st⟩
theorem S0.grown (h : S0 W g room off armed ops w) (hg : w.grownBy w' none) : S0 W g room off armed ops w' := ⟨gb_grown h.below hg (fun k hk => by cases hk), (hg.block g (Array.getElem?_eq_some_iff.1 h.st).1 (fun e => by cases e)).trans h.st⟩
theorem S1.aside (h : S1 W g room off armed ops f fcap r A cap l du w) (b i : Nat) (u : Value) (h1 : g ≠ b) (h2 : f ≠ b) (h3 : A.map (·.block) ≠ some b) (h4 : b = g ∨ W.heap.size ≤ b) : S1 W g room off armed ops f fcap r A cap l du (w.setCell ⟨b, i, none⟩ u) :=
  ⟨gb_set h.below h4 _ _, h.fbase, h.ne, row_far (Ne.symm h1) h.st, row_far (Ne.symm h2) h.fl, h.fc, own_far h.own h3, h.sg, h.sf⟩
/-- Seen from a later world: what was made since may be anything. -/
theorem S1.lt (h : S1 W g room off armed ops f fcap r A cap l du w) : g < w.heap.size ∧ f < w.heap.size ∧ ∀ k, A.map (·.block) = some k → k < w.heap.size :=
  ⟨(Array.getElem?_eq_some_iff.1 h.st).1, (Array.getElem?_eq_some_iff.1 h.fl).1, fun k hk => by
    rcases h.own.1.2 with ⟨h1, _⟩ | ⟨a, cap', cur, h1, hb, hrow, -⟩
    · injection h1 with e1 e2 e3; rw [e1] at hk; cases hk
    · injection h1 with e1 e2 e3; rw [e1] at hk; simp at hk; subst hk; exact (Array.getElem?_eq_some_iff.1 hrow).1⟩
/-- The bytes of the file are others: what an append leaves. -/
theorem S1.grown (h : S1 W g room off armed ops f fcap r A cap l du w) {A' : Option Addr} {cap' : Nat} {l' : List Nat} (hg : w.grownBy w' (A.map (·.block))) (hA : A'.map (·.block) = A.map (·.block) ∨ A'.map (·.block) = some w.heap.size) (own : OwnS w' W.heap.size A' l'.length cap' l') :
    S1 W g room off armed ops f fcap r A' cap' l' du (w'.setCell ⟨f, 1, none⟩ (.slice A' l'.length cap')) := by
  have hgl := (Array.getElem?_eq_some_iff.1 h.st).1
  have hfl := (Array.getElem?_eq_some_iff.1 h.fl).1
  have e1 : w'.heap[g]? = _ := (hg.block g hgl (fun e => h.sg e.symm)).trans h.st
  have e2 : w'.heap[f]? = _ := (hg.block f hfl (fun e => h.sf e.symm)).trans h.fl
  have n1 : A'.map (·.block) ≠ some g := by
    rcases hA with hA | hA
    · rw [hA]; exact h.sg
    · rw [hA]; intro e; injection e; omega
  have n2 : A'.map (·.block) ≠ some f := by
    rcases hA with hA | hA
    · rw [hA]; exact h.sf
    · rw [hA]; intro e; injection e; omega
  exact ⟨gb_set (gb_grown h.below hg (fun k hk => h.own.base k hk)) (.inr h.fbase) _ _, h.fbase, h.ne, row_far (Ne.symm h.ne) e1, row_set e2 1 _, h.fc, own_far own n2, n1, n2⟩
end
end Go.Proofs.Ytafdhgofdocjhaa
