/-
  Layer ledger: the document's View.
-/
import Derived.Test.YtbimfopbilcdgaaDoorNnK
set_option linter.unusedSimpArgs false
set_option linter.unusedVariables false
set_option maxRecDepth 8000
namespace Go.Proofs.YtbimfopbilcdgaaDoor
open Go.RowKit Go.Sort

/-- One pane of the older ones is looked at. -/
noncomputable def rvS (c : Chg) (st : List Pw × Bool) (y : Pw) : List Pw × Bool := if y.p = c.p then st else if (!st.2 && plB c.p y.p) = true then ((st.1 ++ [c.pw]) ++ [y], true) else (st.1 ++ [y], st.2)
noncomputable def insP (c : Chg) (os : List Pw) : List Pw := if (os.foldl (rvS c) ([], !c.put)).2 = true then (os.foldl (rvS c) ([], !c.put)).1 else (os.foldl (rvS c) ([], !c.put)).1 ++ [c.pw]
/-- The document's view. -/
noncomputable def rvL (l : List Chg) : List Pw := l.foldl (fun os c => insP c os) []
theorem rvS_len (c : Chg) (os : List Pw) : ∀ st, (os.foldl (rvS c) st).1.length + (if (os.foldl (rvS c) st).2 then 0 else 1) ≤ st.1.length + os.length + (if st.2 then 0 else 1) := by
  induction os with
  | nil => intro st; cases h : st.2 <;> simp [h]
  | cons y r ih =>
    intro st
    rw [List.foldl_cons]
    refine Nat.le_trans (ih _) ?_
    rw [List.length_cons]
    unfold rvS
    split
    · omega
    · split
      · rename_i h
        simp only [Bool.and_eq_true, Bool.not_eq_true'] at h
        simp [h.1]; omega
      · simp; omega
theorem insP_len (c : Chg) (os : List Pw) : (insP c os).length ≤ os.length + 1 := by
  have h := rvS_len c os ([], !c.put)
  have h9 : (if (!c.put) = true then 0 else 1) ≤ 1 := by split <;> omega
  unfold insP
  split
  · rename_i h2; rw [if_pos h2] at h; simp only [List.length_nil] at h; omega
  · rename_i h2; rw [if_neg h2] at h; simp only [List.length_nil] at h; rw [List.length_append]; simp only [List.length_singleton]; omega
theorem rvL_snoc (l : List Chg) (c : Chg) : rvL (l ++ [c]) = insP c (rvL l) := by unfold rvL; rw [List.foldl_append]; rfl
theorem rvL_len (l : List Chg) : (rvL l).length ≤ l.length := by
  refine snoc_ind (P := fun l => (rvL l).length ≤ l.length) (Nat.le_refl _) (fun l c ih => ?_) l
  rw [rvL_snoc, List.length_append, List.length_singleton]
  have := insP_len c (rvL l)
  omega
/-- What the document's View ends with. -/
def RvEnd (W : World) (l : List Pw) (e : Ending) (w' : World) : Prop := ∃ (A : Option Addr) (cap : Nat), e = .returned (.slice A l.length cap) ∧ OwnPw w' W.heap.size A l.length cap l ∧ Below W.heap.size W w'
def RVO (W : World) (l : List Chg) (u v : Value) (wr : World) : Prop := ∃ (i : Nat) (A : Option Addr) (cap : Nat) (os : List Pw), i ≤ l.length ∧ v = .int .i64 i ∧ os = rvL (l.take i) ∧ u = .slice A os.length cap ∧ OwnPw wr W.heap.size A os.length cap os ∧ Below W.heap.size W wr
def RVI (w0 : World) (cc : Chg) (os : List Pw) (u d v : Value) (wr : World) : Prop := ∃ (k : Nat) (B : Option Addr) (M cap2 : Nat) (nx : List Pw) (dn : Bool), k ≤ os.length ∧ v = .int .i64 k ∧ d = .bool dn ∧ (os.take k).foldl (rvS cc) ([], !cc.put) = (nx, dn) ∧ M = nx.length ∧ u = .slice B M cap2 ∧ OwnPw wr w0.heap.size B M cap2 nx ∧ Below w0.heap.size w0 wr
theorem rvS_take (cc : Chg) (os : List Pw) (k : Nat) (y : Pw) (hy : os[k]? = some y) (st : List Pw × Bool) : (os.take (k + 1)).foldl (rvS cc) st = rvS cc ((os.take k).foldl (rvS cc) st) y := by
  obtain ⟨hk, rfl⟩ := List.getElem?_eq_some_iff.1 hy
  rw [List.take_succ_eq_append_getElem hk, List.foldl_append]; rfl
end Go.Proofs.YtbimfopbilcdgaaDoor
