/-
  Layer column: texts that rise, each once: plain facts.
-/
import Derived.Test.YtenmjofbamihdaaGreatDoorTeK
import Derived.Test.YtenmjofbamihdaaGreatDoorDaK
import Derived.Sort.Walk0
set_option linter.unusedSimpArgs false
set_option linter.unusedVariables false
set_option maxRecDepth 8000
namespace Go.Proofs.YtenmjofbamihdaaGreatDoor
open Go.RowKit Go.WideShapes Col
namespace Col
/-- Does one text stand ahead of another? -/
def tls (s t : List Nat) : Bool := Op.bytesLess (strB s).toList (strB t).toList
/-- Texts that rise, the first k of them. -/
def rising : List (List Nat) → Bool
  | [] => true
  | [_] => true
  | s :: t :: r => tls s t && rising (t :: r)
/-- The texts that there are. -/
def rU (q : List Nat) : Option (List (List Nat) × List Nat) := (uP 4096 q).bind fun p => (runS (tP 32) p.1 p.2).bind fun r => if rising r.1 = true then some r else none
end Col
/-- What readUnlike's function stands on. -/
structure US (g bx : Nat) (q : List Nat) (w : World) : Prop where
  rd : RdM g q w
  box : w.heap[bx]? = some (.cells #[.pointer (some ⟨g, 0, none⟩)] 95 (0, 0))
  n2 : g < bx
theorem US.keep {g bx : Nat} {q : List Nat} {w w' : World} {S : Nat → Prop} (h : US g bx q w) (hk : Kept S w w') (hS : ∀ k, S k → w.heap.size ≤ k ∨ (g < k ∧ k ≠ bx)) : US g bx q w' := by
  have hg := h.rd.1.glt
  have hb := (Array.getElem?_eq_some_iff.1 h.box).1
  exact ⟨⟨h.rd.1.high hk fun k hs => by have := hS k hs; omega, h.rd.2⟩, hk.heap h.box fun e => by have := hS _ e; omega, h.n2⟩
theorem OwnX.more {w : World} {B n cap : Nat} {A : Option Addr} {l : List (List Nat)} {B' : Nat} (h : OwnX w B A n cap l) (hB : B' ≤ B) : OwnX w B' A n cap l := by
  refine ⟨⟨h.1.1, ?_⟩, h.2⟩
  rcases h.1.2 with h1 | ⟨g, cap', cur, h1, hb, h2⟩
  · exact .inl h1
  · exact .inr ⟨g, cap', cur, h1, Nat.le_trans hB hb, h2⟩
end Go.Proofs.YtenmjofbamihdaaGreatDoor

set_option linter.unusedSimpArgs false
set_option linter.unusedVariables false
set_option maxRecDepth 8000
namespace Go.Proofs.YtenmjofbamihdaaGreatDoor
open Go.RowKit Go.WideShapes Col

theorem tls_dec (s t : List Nat) : tls s t = decide ((strB s).toList < (strB t).toList) := bytesLess_eq _ _
theorem tls_irr (s : List Nat) : tls s s = false := by rw [tls_dec, decide_eq_false_iff_not]; exact List.lt_irrefl _
theorem tls_tr {s t u : List Nat} (h1 : tls s t = true) (h2 : tls t u = true) : tls s u = true := by
  rw [tls_dec, decide_eq_true_eq] at h1 h2 ⊢
  exact List.lt_trans h1 h2
theorem tls_asy {s t : List Nat} (h : tls s t = true) : tls t s = false := by
  rcases h2 : tls t s with _ | _
  · rfl
  · have := tls_tr h h2; rw [tls_irr] at this; cases this
theorem tls_tot {s t : List Nat} (hs : WfT s) (ht : WfT t) (h1 : tls s t = false) (h2 : tls t s = false) : s = t := by
  rw [tls_dec, decide_eq_false_iff_not] at h1 h2
  have e : (strB s).toList = (strB t).toList := List.le_antisymm (List.not_lt.1 h2) (List.not_lt.1 h1)
  refine strB_inj hs ht ?_
  rw [Lib.toList_data, Lib.toList_data] at e
  exact ByteArray.ext (Array.ext' e)
/-- Texts that rise. -/
def Rise (l : List (List Nat)) : Prop := l.Pairwise fun s t => tls s t = true
theorem rise_ext {l m : List (List Nat)} (hl : Rise l) (hm : Rise m) (h : ∀ y, y ∈ l ↔ y ∈ m) : l = m := by
  induction l generalizing m with
  | nil =>
    rcases m with _ | ⟨b, m⟩
    · rfl
    · have := (h b).2 (by simp); cases this
  | cons a l ih =>
    rcases m with _ | ⟨b, m⟩
    · have := (h a).1 (by simp); cases this
    · rw [Rise, List.pairwise_cons] at hl hm
      have hab : a = b := by
        rcases List.mem_cons.1 ((h a).1 (by simp)) with e | e
        · exact e
        · rcases List.mem_cons.1 ((h b).2 (by simp)) with e2 | e2
          · exact e2.symm
          · have h1 := hm.1 a e; have h2 := hl.1 b e2
            have := tls_tr h1 h2; rw [tls_irr] at this; cases this
      subst hab
      rw [ih hl.2 hm.2 fun y => ?_]
      constructor
      · intro hy
        rcases List.mem_cons.1 ((h y).1 (by simp [hy])) with e | e
        · subst e; have := hl.1 y hy; rw [tls_irr] at this; cases this
        · exact e
      · intro hy
        rcases List.mem_cons.1 ((h y).2 (by simp [hy])) with e | e
        · subst e; have := hm.1 y hy; rw [tls_irr] at this; cases this
        · exact e
/-- A text put into its place among texts that rise. -/
def insU (x : List Nat) (all : List (List Nat)) : List (List Nat) := all.filter (fun a => tls a x) ++ x :: all.filter (fun a => tls x a)
theorem insU_rise {x : List Nat} {all : List (List Nat)} (h : Rise all) : Rise (insU x all) := by
  unfold insU
  refine List.pairwise_append.2 ⟨h.filter _, List.pairwise_cons.2 ⟨fun a ha => (List.mem_filter.1 ha).2, h.filter _⟩, fun a ha b hb => ?_⟩
  have h1 := (List.mem_filter.1 ha).2
  rcases List.mem_cons.1 hb with e | e
  · subst e; exact h1
  · exact tls_tr h1 (List.mem_filter.1 e).2
theorem insU_mem {x y : List Nat} {all : List (List Nat)} (hx : WfT x) (hw : ∀ a ∈ all, WfT a) : y ∈ insU x all ↔ y = x ∨ y ∈ all := by
  unfold insU
  rw [List.mem_append, List.mem_cons, List.mem_filter, List.mem_filter]
  constructor
  · rintro (h | h | h)
    · exact .inr h.1
    · exact .inl h
    · exact .inr h.1
  · rintro (h | h)
    · exact .inr (.inl h)
    · rcases h1 : tls y x with _ | _
      · rcases h2 : tls x y with _ | _
        · exact .inr (.inl (tls_tot (hw y h) hx h1 h2))
        · exact .inr (.inr ⟨h, rfl⟩)
      · exact .inl ⟨h, rfl⟩
theorem snoc_ind {α : Type} {Q : List α → Prop} (nil : Q []) (append_singleton : ∀ (l : List α) (x : α), Q l → Q (l ++ [x])) (l : List α) : Q l := by
  have h : ∀ m : List α, Q m.reverse := by
    intro m
    induction m with
    | nil => exact nil
    | cons a r ih => rw [List.reverse_cons]; exact append_singleton _ a ih
  have := h l.reverse
  rwa [List.reverse_reverse] at this
/-- The texts that there are, rising, each once. -/
def uqL (l : List (List Nat)) : List (List Nat) := l.foldl (fun all x => insU x all) []
theorem uqL_snoc (l : List (List Nat)) (x : List Nat) : uqL (l ++ [x]) = insU x (uqL l) := by unfold uqL; rw [List.foldl_append]; rfl
theorem uqL_facts (l : List (List Nat)) (hw : ∀ x ∈ l, WfT x) : Rise (uqL l) ∧ (∀ y, y ∈ uqL l ↔ y ∈ l) := by
  induction l using snoc_ind with
  | nil => exact ⟨List.Pairwise.nil, fun y => Iff.rfl⟩
  | append_singleton l x ih =>
    obtain ⟨h1, h2⟩ := ih fun y hy => hw y (by simp [hy])
    rw [uqL_snoc]
    refine ⟨insU_rise h1, fun y => ?_⟩
    rw [insU_mem (hw x (by simp)) (fun a ha => hw a (by simp [(h2 a).1 ha])), List.mem_append, List.mem_singleton, h2]
    constructor <;> (rintro (h | h) <;> simp [h])
theorem uqL_wf {l : List (List Nat)} (hw : ∀ x ∈ l, WfT x) : ∀ x ∈ uqL l, WfT x := fun x hx => hw x (((uqL_facts l hw).2 x).1 hx)
theorem uqL_len (l : List (List Nat)) : (uqL l).length ≤ l.length := by
  induction l using snoc_ind with
  | nil => exact Nat.le_refl _
  | append_singleton l x ih =>
    rw [uqL_snoc, List.length_append, List.length_singleton]
    unfold insU
    rw [List.length_append, List.length_cons]
    have : ((uqL l).filter (fun a => tls a x)).length + ((uqL l).filter (fun a => tls x a)).length ≤ (uqL l).length := by
      generalize uqL l = m
      induction m with
      | nil => exact Nat.le_refl _
      | cons a m ih2 =>
        rw [List.filter_cons, List.filter_cons]
        rcases h1 : tls a x with _ | _
        · rcases h2 : tls x a with _ | _ <;> simp <;> omega
        · rw [tls_asy h1]; simp; omega
    omega
end Go.Proofs.YtenmjofbamihdaaGreatDoor

set_option linter.unusedSimpArgs false
set_option linter.unusedVariables false
set_option maxRecDepth 8000
namespace Go.Proofs.YtenmjofbamihdaaGreatDoor
open Go.RowKit Go.WideShapes Col
def bvs (l : List Bool) : List Value := l.map Value.bool
theorem bvs_length (l : List Bool) : (bvs l).length = l.length := List.length_map ..
/-- A row of whole numbers that is all of a slice. -/
def RowBo (w : World) (g : Nat) (l : List Bool) : Prop := w.heap[g]? = some (.cells (bvs l).toArray 4 (0, 0))
section
variable {w : World} {g : Nat} {l : List Bool}
theorem RowBo.fr (h : RowBo w g l) (i : Nat) : w.frozen? ⟨g, i, none⟩ = false := row_frozen h i
theorem RowBo.at (h : RowBo w g l) (i : Nat) (hi : i < l.length) : ∃ u, w.cell? ⟨g, i, none⟩ = some u := by
  rw [cell_of_row _ _ _ _ _ _ h, List.getElem?_toArray]
  exact ⟨_, List.getElem?_eq_getElem (by rw [bvs_length]; exact hi)⟩
theorem RowBo.set (h : RowBo w g l) (i : Nat) (x : Bool) : RowBo (w.setCell ⟨g, i, none⟩ (.bool x)) g (l.set i x) := by
  unfold RowBo at *
  rw [World.setCell]
  simp only [Array.getElem?_modify, if_pos, h, Option.map_some]
  have e : (bvs l).toArray.setIfInBounds i (.bool x) = (bvs (l.set i x)).toArray := by
    unfold bvs; rw [List.map_set]; simp
  simp [e]
theorem RowBo.keep {S : Nat → Prop} {w' : World} (h : RowBo w g l) (hk : Kept S w w') (hg : ¬ S g) : RowBo w' g l := hk.heap h hg
end
theorem RowBo.cell {w : World} {g : Nat} {l : List Bool} (h : RowBo w g l) (i : Nat) (b : Bool) (hb : l[i]? = some b) : w.cell? ⟨g, i, none⟩ = some (.bool b) := by
  rw [cell_of_row _ _ _ _ _ _ h, List.getElem?_toArray]; unfold bvs; rw [List.getElem?_map, hb]; rfl
namespace Col
/-- Which places are told. -/
def usedL (n : Nat) (xs : List Int) : List Bool := (List.range n).map fun (i : Nat) => xs.contains (i : Int)
def pickT (ts : List (List Nat)) (x : Int) : List Nat := ts.getD x.toNat []
def okT (ts : List (List Nat)) (xs : List Int) : Bool := (xs.all fun x => decide (0 ≤ x) && decide (x < (ts.length : Int))) && !(usedL ts.length xs).contains false
def rT (q : List Nat) : Option (List (List Nat) × List Nat) := (rU q).bind fun u => (rI u.2).bind fun p => if okT u.1 p.1 = true then some (p.1.map (pickT u.1), p.2) else none
end Col
end Go.Proofs.YtenmjofbamihdaaGreatDoor
