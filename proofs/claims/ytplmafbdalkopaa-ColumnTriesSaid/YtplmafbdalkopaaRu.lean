/-
  Layer column: what ColumnTries hands to Try.
-/
import Derived.Test.YtplmafbdalkopaaRt
set_option linter.unusedSimpArgs false
set_option linter.unusedVariables false
set_option maxRecDepth 8000
namespace Go.Proofs.Ytplmafbdalkopaa
open Go.RowKit Go.WideShapes Col
/-- Bytes don't lie in a row that has none. -/
theorem off_row {w : World} {b : Nat} {cs : Array Value} {ty : TypeId} {A : Option Addr} {q : List Nat} (h : ByAt w A q) (hr : w.heap[b]? = some (.cells cs ty (0, 0))) (hno : ∀ (i : Nat) (x : Int), cs[i]? ≠ some (.int .u8 x)) : Off (fun k => k = b) A q := fun a ha hl hs => by
  obtain ⟨b', off, e, hb, hc⟩ := h.spot hl
  rw [e] at ha; injection ha with ha; subst ha
  have hc0 := hc 0 q[0] (List.getElem?_eq_getElem hl)
  have hs : b' = b := hs
  subst hs
  rw [cell_of_row _ _ _ _ _ _ hr] at hc0
  exact hno _ _ hc0
theorem no1 {v : Value} (h : ∀ x, v ≠ .int .u8 x) : ∀ (i : Nat) (x : Int), (#[v] : Array Value)[i]? ≠ some (.int .u8 x) := fun i x e => by
  have hi : i < 1 := (Array.getElem?_eq_some_iff.1 e).1
  obtain rfl : i = 0 := by omega
  simp at e; exact h x e
theorem no2 {v u : Value} (h : ∀ x, v ≠ .int .u8 x) (h2 : ∀ x, u ≠ .int .u8 x) : ∀ (i : Nat) (x : Int), (#[v, u] : Array Value)[i]? ≠ some (.int .u8 x) := fun i x e => by
  have hi : i < 2 := (Array.getElem?_eq_some_iff.1 e).1
  rcases (by omega : i = 0 ∨ i = 1) with rfl | rfl
  · simp at e; exact h x e
  · simp at e; exact h2 x e
structure TB (m ba bm br bn bc : Nat) (A : Option Addr) (C : Nat) (p : List Nat) (Aa : Option Addr) (na Ca : Nat) (asks : List Nat) (chk : Bool) (i : Nat) (s : Option (List Nat)) (w : World) : Prop where
  ra : w.heap[ba]? = some (.cells #[.slice Aa na Ca] 24 (0, 0))
  rm : w.heap[bm]? = some (.cells #[.pointer (some ⟨m, 0, none⟩)] 52 (0, 0))
  rr : w.heap[br]? = some (.cells #[.bool true] 4 (0, 0))
  rn : w.heap[bn]? = some (.cells #[.int .i64 (i : Int)] 3 (0, 0))
  rc : w.heap[bc]? = some (.cells #[.bool chk] 4 (0, 0))
  ref : RRA w m A C p s
  asks : ByAt w Aa asks
  ord : ba < bc ∧ bc < m ∧ m < bm ∧ bm < br ∧ br < bn
section
variable {m ba bm br bn bc C na Ca i : Nat} {A Aa : Option Addr} {p asks : List Nat} {chk : Bool} {s : Option (List Nat)} {w w' : World} {g : Nat}
theorem TB.keep {S : Nat → Prop} (h : TB m ba bm br bn bc A C p Aa na Ca asks chk i s w) (hk : Kept S w w') (hS : ∀ k, S k → k ≠ ba ∧ k ≠ bm ∧ k ≠ br ∧ k ≠ bn ∧ k ≠ bc ∧ k ≠ m) (ho : Off S A p) (ha : Off S Aa asks) : TB m ba bm br bn bc A C p Aa na Ca asks chk i s w' :=
  ⟨hk.heap h.ra fun e => (hS _ e).1 rfl, hk.heap h.rm fun e => (hS _ e).2.1 rfl, hk.heap h.rr fun e => (hS _ e).2.2.1 rfl, hk.heap h.rn fun e => (hS _ e).2.2.2.1 rfl, hk.heap h.rc fun e => (hS _ e).2.2.2.2.1 rfl, h.ref.keep hk (fun e => (hS _ e).2.2.2.2.2 rfl) ho, h.asks.kept hk ha, h.ord⟩
theorem TB.drew (h : TB m ba bm br bn bc A C p Aa na Ca asks chk i s w) : TB m ba bm br bn bc A C p Aa na Ca asks chk i s w.drew := h.keep (S := fun _ => False) ((Kept.refl _ _).drew) (fun k e => e.elim) (fun _ _ _ e => e) (fun _ _ _ e => e)
theorem gone_off {A : Option Addr} {q : List Nat} (h : ByAt w A q) (hg : Gone w g) (hx : ∀ x y z, w.heap[g]? = some (.cells #[x, .bool y, .bool z] 89 (0, 0)) → ∀ u, x ≠ .int .u8 u) : Off (Only g) A q := by
  obtain ⟨x, y, z, hr⟩ := hg
  refine off_row h hr fun i u e => ?_
  have hi : i < 3 := (Array.getElem?_eq_some_iff.1 e).1
  rcases (by omega : i = 0 ∨ i = 1 ∨ i = 2) with rfl | rfl | rfl
  · simp at e; exact hx x y z hr u e
  · simp at e
  · simp at e
theorem rd_off {q q2 : List Nat} {A2 : Option Addr} (hr : Rd w g q) (h : ByAt w A2 q2) : Off (Only g) A2 q2 := by
  obtain ⟨A', C', hA⟩ := hr
  exact gone_off h hA.gone fun x y z hr2 u e => by
    rw [hA.row] at hr2
    injection hr2 with hr2; injection hr2 with h1
    have := congrArg (fun a : Array Value => a[0]?) h1
    simp at this; rw [← this] at e; cases e
/-- Behind the program's reading. -/
theorem TB.prog {q : List Nat} (h : TB m ba bm br bn bc A C p Aa na Ca asks chk i s w) (hr : Rd w g q) (hk : Kept (Only g) w w') (hg : bn < g) : TB m ba bm br bn bc A C p Aa na Ca asks chk i s w' := by
  have ho := h.ord
  exact h.keep hk (fun k e => by have e : k = g := e; omega) (rd_off hr h.ref.bytes) (rd_off hr h.asks)
/-- Behind the document's. -/
theorem TB.doc {s2 : Option (List Nat)} (h : TB m ba bm br bn bc A C p Aa na Ca asks chk i s w) (hr : RRA w' m A C p s2) (hk : Kept (Only m) w w') : TB m ba bm br bn bc A C p Aa na Ca asks chk i s2 w' := by
  have ho := h.ord
  have hoff : Off (Only m) Aa asks := off_row h.asks h.ref.row (no2 (fun x e => by cases e) (fun x e => by cases e))
  exact ⟨hk.heap h.ra fun e => by have e : ba = m := e; omega, hk.heap h.rm fun e => by have e : bm = m := e; omega, hk.heap h.rr fun e => by have e : br = m := e; omega, hk.heap h.rn fun e => by have e : bn = m := e; omega, hk.heap h.rc fun e => by have e : bc = m := e; omega, hr, h.asks.kept hk hoff, h.ord⟩
theorem Rd.doc {q : List Nat} (hr : Rd w g q) (h : TB m ba bm br bn bc A C p Aa na Ca asks chk i s w) (hk : Kept (Only m) w w') (hg : bn < g) : Rd w' g q :=
  hr.high' hk (fun k e => by have := h.ord; have e : k = m := e; omega) fun A' C' hA => off_row hA.bytes h.ref.row (no2 (fun x e => by cases e) (fun x e => by cases e))
theorem Gone.keep {S : Nat → Prop} (hr : Gone w g) (hk : Kept S w w') (hS : ¬ S g) : Gone w' g := by
  obtain ⟨x, y, z, h⟩ := hr
  exact ⟨x, y, z, hk.heap h hS⟩
theorem setCell_same_row {b : Nat} {v : Value} {ty : TypeId} (h : w.heap[b]? = some (.cells #[v] ty (0, 0))) (u : Value) : (w.setCell ⟨b, 0, none⟩ u).heap[b]? = some (.cells #[u] ty (0, 0)) := by
  rw [World.setCell]; simp [Array.getElem?_modify, h]
/-- Behind the writing of what was right. -/
theorem TB.right {q : List Nat} (h : TB m ba bm br bn bc A C p Aa na Ca asks chk i s w) (hr : Rd w g q) (hg : bn < g) : TB m ba bm br bn bc A C p Aa na Ca asks chk i s (w.setCell ⟨br, 0, none⟩ (.bool true)) ∧ Rd (w.setCell ⟨br, 0, none⟩ (.bool true)) g q ∧ Kept (fun k => k = br) w (w.setCell ⟨br, 0, none⟩ (.bool true)) := by
  have ho := h.ord
  have hk : Kept (fun k => k = br) w (w.setCell ⟨br, 0, none⟩ (.bool true)) := (Kept.refl _ _).setCell _ _ (.inl rfl)
  have n1 := no1 (v := .bool true) (fun x e => by cases e)
  exact ⟨⟨hk.heap h.ra fun e => by have e : ba = br := e; omega, hk.heap h.rm fun e => by have e : bm = br := e; omega, setCell_same_row h.rr _, hk.heap h.rn fun e => by have e : bn = br := e; omega, hk.heap h.rc fun e => by have e : bc = br := e; omega, h.ref.keep hk (fun e => by have e : m = br := e; omega) (off_row h.ref.bytes h.rr n1), h.asks.kept hk (off_row h.asks h.rr n1), h.ord⟩,
    hr.high' hk (fun k e => by have e : k = br := e; omega) (fun A' C' hA => off_row hA.bytes h.rr n1), hk⟩
theorem TB.count {q : List Nat} (h : TB m ba bm br bn bc A C p Aa na Ca asks chk i s w) (hr : Rd w g q) (hg : bn < g) : TB m ba bm br bn bc A C p Aa na Ca asks chk (i + 1) s (w.setCell ⟨bn, 0, none⟩ (.int .i64 ((i + 1 : Nat) : Int))) ∧ Rd (w.setCell ⟨bn, 0, none⟩ (.int .i64 ((i + 1 : Nat) : Int))) g q ∧ Kept (fun k => k = bn) w (w.setCell ⟨bn, 0, none⟩ (.int .i64 ((i + 1 : Nat) : Int))) := by
  have ho := h.ord
  have hk : Kept (fun k => k = bn) w (w.setCell ⟨bn, 0, none⟩ (.int .i64 ((i + 1 : Nat) : Int))) := (Kept.refl _ _).setCell _ _ (.inl rfl)
  have n1 := no1 (v := .int .i64 (i : Int)) (fun x e => by cases e)
  exact ⟨⟨hk.heap h.ra fun e => by have e : ba = bn := e; omega, hk.heap h.rm fun e => by have e : bm = bn := e; omega, hk.heap h.rr fun e => by have e : br = bn := e; omega, setCell_same_row h.rn _, hk.heap h.rc fun e => by have e : bc = bn := e; omega, h.ref.keep hk (fun e => by have e : m = bn := e; omega) (off_row h.ref.bytes h.rn n1), h.asks.kept hk (off_row h.asks h.rn n1), h.ord⟩,
    hr.high' hk (fun k e => by have e : k = bn := e; omega) (fun A' C' hA => off_row hA.bytes h.rn n1), hk⟩
end
/-- One ask. -/
def presT (k : Nat) (q : List Nat) : Option (Value × List Nat) :=
  if k % 4 = 0 then (uP (k * k) q).map fun t => (.int .u64 (t.1 : Int), t.2) else if k % 4 = 1 then (zP q).map fun t => (.int .i64 t.1, t.2) else if k % 4 = 2 then (tP k q).map fun t => (.string (strB t.1), t.2) else match q with
    | b :: r => some (.int .u8 (b : Int), r)
    | [] => none
/-- What the document's reader has behind one ask. -/
def refT (k : Nat) (s : Option (List Nat)) : Option (List Nat) := if k % 4 = 0 then (uintS (k * k) s).2 else if k % 4 = 1 then (intS s).2 else if k % 4 = 2 then (textS k s).2 else (byteS s).2
theorem refT_none (k : Nat) : refT k none = none := by unfold refT; repeat (first | rfl | split)
theorem refT_fail {k : Nat} {q : List Nat} (h : presT k q = none) : refT k (some q) = none := by
  unfold presT at h
  unfold refT
  by_cases h0 : k % 4 = 0
  · rw [if_pos h0] at h ⊢
    rcases hu : uP (k * k) q with _ | t
    · rw [uintS_none hu]
    · rw [hu] at h; cases h
  · rw [if_neg h0] at h ⊢
    by_cases h1 : k % 4 = 1
    · rw [if_pos h1] at h ⊢
      rcases hu : zP q with _ | t
      · rw [intS_none hu]
      · rw [hu] at h; cases h
    · rw [if_neg h1] at h ⊢
      by_cases h2 : k % 4 = 2
      · rw [if_pos h2] at h ⊢
        rcases hu : tP k q with _ | t
        · rw [textS_none hu]
        · rw [hu] at h; cases h
      · rw [if_neg h2] at h ⊢
        rcases q with _ | ⟨b, r⟩
        · rfl
        · cases h
/-- What was handed to Try leaves: at a fault the number of the ask, and the document's reader ahead of, or behind its own fault. -/
def RTr (m ba bm br bn bc : Nat) (A : Option Addr) (C : Nat) (p : List Nat) (Aa : Option Addr) (na Ca : Nat) (asks : List Nat) (chk : Bool) (b : Bool) (w : World) : Prop :=
  (∃ (i k : Nat) (s : Option (List Nat)), i < na ∧ asks[i]? = some k ∧ b = false ∧ refT k s = none ∧ TB m ba bm br bn bc A C p Aa na Ca asks chk i s w) ∨
  (∃ q, b = (chk && decide (q = [])) ∧ TB m ba bm br bn bc A C p Aa na Ca asks chk na (some q) w)
abbrev Four (m br bn : Nat) : Nat → Prop := fun k => k = m ∨ k = br ∨ k = bn
end Go.Proofs.Ytplmafbdalkopaa
