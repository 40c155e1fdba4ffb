/-
  Layer files: what a store of many files is in memory, and how it changes.
-/
import Derived.Test.YtafdhgofdocjhaaFy
set_option linter.unusedSimpArgs false
set_option linter.unusedVariables false
namespace Go.Proofs.Ytafdhgofdocjhaa
open Go.RowKit Go.WideShapes

def flC3 (x : Fil) : List Value := [.string x.name, .slice x.A x.l.length x.cap, .int .i64 (x.du : Nat)]
def flat : List Fil → List Value
  | [] => []
  | x :: r => flC3 x ++ flat r
theorem flat_len (xs : List Fil) : (flat xs).length = xs.length * 3 := by
  induction xs with
  | nil => rfl
  | cons x r ih => simp only [flat, List.length_append, ih, List.length_cons, flC3]; simp; omega
theorem flat_get (xs : List Fil) (r : List Value) (k : Nat) (x : Fil) (h : xs[k]? = some x) (j : Nat) (hj : j < 3) : (flat xs ++ r)[k * 3 + j]? = (flC3 x)[j]? := by
  induction xs generalizing k with
  | nil => simp at h
  | cons y s ih =>
    rw [flat, List.append_assoc]
    rcases k with _ | k
    · simp at h; subst h
      rw [Nat.zero_mul, Nat.zero_add, List.getElem?_append_left (by simp [flC3]; omega)]
    · rw [List.getElem?_append_right (by simp [flC3]; omega), show (k + 1) * 3 + j - (flC3 y).length = k * 3 + j by simp [flC3]; omega]
      exact ih k (by simpa using h)
/-- A store with a row of files. -/
structure SN (W : World) (g : Nat) (room : Int) (off : Bool) (armed ops : Int) (f fcap : Nat) (r : List Value) (xs : List Fil) (w : World) : Prop where
  below : W.grownBy w (some g)
  fbase : W.heap.size ≤ f
  ne : g ≠ f
  st : w.heap[g]? = some (.cells (stC room (some ⟨f, 0, none⟩) xs.length fcap off armed ops).toArray 68 (0, 0))
  fl : w.heap[f]? = some (.cells (flat xs ++ r).toArray 74 (0, 0))
  fc : r.length + xs.length * 3 = fcap * 3 ∧ fcap ≤ maxLen
  own : ∀ (k : Nat) (x : Fil), xs[k]? = some x → OwnS w W.heap.size x.A x.l.length x.cap x.l
  sg : ∀ (k : Nat) (x : Fil), xs[k]? = some x → x.A.map (·.block) ≠ some g
  sf : ∀ (k : Nat) (x : Fil), xs[k]? = some x → x.A.map (·.block) ≠ some f
  ap : ∀ (j k : Nat) (x y : Fil), j ≠ k → xs[j]? = some x → xs[k]? = some y → ∀ b, x.A.map (·.block) = some b → y.A.map (·.block) ≠ some b
section
variable {W : World} {g f fcap : Nat} {room armed ops : Int} {off : Bool} {r : List Value} {xs : List Fil} {w w' : World}
theorem SN.files (h : SN W g room off armed ops f fcap r xs w) : FilesAt w f xs := fun k x hx =>
  ⟨(Array.getElem?_eq_some_iff.1 h.fl).1, row_cells h.fl (k * 3) _ (flat_get xs r k x hx 0 (by decide)), row_cells h.fl (k * 3 + 1) _ (flat_get xs r k x hx 1 (by decide)), row_cells h.fl (k * 3 + 2) _ (flat_get xs r k x hx 2 (by decide))⟩
theorem SN.next (h : SN W g room off armed ops f fcap r xs w) (hb : Below w.heap.size w w') : SN W g room off armed ops f fcap r xs w' :=
  ⟨gb_below h.below hb, h.fbase, h.ne, row_kept h.st hb, row_kept h.fl hb, h.fc, fun k x hx => (h.own k x hx).keep hb, h.sg, h.sf, h.ap⟩
theorem SN.drew (h : SN W g room off armed ops f fcap r xs w) : SN W g room off armed ops f fcap r xs w.drew := h.next (Below.refl _ _).drew
theorem SN.putOps (h : SN W g room off armed ops f fcap r xs w) (v : Int) : SN W g room off armed v f fcap r xs (w.setCell ⟨g, 4, none⟩ (.int .i64 v)) :=
  ⟨gb_set h.below (.inl rfl) _ _, h.fbase, h.ne, row_set h.st 4 _, row_far h.ne h.fl, h.fc, fun k x hx => own_far (h.own k x hx) (h.sg k x hx), h.sg, h.sf, h.ap⟩
theorem SN.putArmed (h : SN W g room off armed ops f fcap r xs w) (v : Int) : SN W g room off v ops f fcap r xs (w.setCell ⟨g, 3, none⟩ (.int .i64 v)) :=
  ⟨gb_set h.below (.inl rfl) _ _, h.fbase, h.ne, row_set h.st 3 _, row_far h.ne h.fl, h.fc, fun k x hx => own_far (h.own k x hx) (h.sg k x hx), h.sg, h.sf, h.ap⟩
theorem SN.putOff (h : SN W g room off armed ops f fcap r xs w) (v : Bool) : SN W g room v armed ops f fcap r xs (w.setCell ⟨g, 2, none⟩ (.bool v)) :=
  ⟨gb_set h.below (.inl rfl) _ _, h.fbase, h.ne, row_set h.st 2 _, row_far h.ne h.fl, h.fc, fun k x hx => own_far (h.own k x hx) (h.sg k x hx), h.sg, h.sf, h.ap⟩
theorem SN.g0 (h : SN W g room off armed ops f fcap r xs w) : w.cell? ⟨g, 0, none⟩ = some (.int .i64 room) := row_cells h.st 0 _ rfl
theorem SN.g1 (h : SN W g room off armed ops f fcap r xs w) : w.cell? ⟨g, 1, none⟩ = some (.slice (some ⟨f, 0, none⟩) xs.length fcap) := row_cells h.st 1 _ rfl
theorem SN.g2 (h : SN W g room off armed ops f fcap r xs w) : w.cell? ⟨g, 2, none⟩ = some (.bool off) := row_cells h.st 2 _ rfl
theorem SN.g3 (h : SN W g room off armed ops f fcap r xs w) : w.cell? ⟨g, 3, none⟩ = some (.int .i64 armed) := row_cells h.st 3 _ rfl
theorem SN.g4 (h : SN W g room off armed ops f fcap r xs w) : w.cell? ⟨g, 4, none⟩ = some (.int .i64 ops) := row_cells h.st 4 _ rfl
theorem SN.gf (h : SN W g room off armed ops f fcap r xs w) (i : Nat) : w.frozen? ⟨g, i, none⟩ = false := row_frozen h.st i
theorem SN.ff (h : SN W g room off armed ops f fcap r xs w) (i : Nat) : w.frozen? ⟨f, i, none⟩ = false := row_frozen h.fl i
theorem SN.of1 {cap : Nat} {A : Option Addr} {l : List Nat} {du : Nat} (h : S1 W g room off armed ops f fcap r A cap l du w) : SN W g room off armed ops f fcap r [⟨{ data := #[97] }, A, cap, l, du⟩] w := by
  have one : ∀ {k : Nat} {x : Fil}, [(⟨{ data := #[97] }, A, cap, l, du⟩ : Fil)][k]? = some x → k = 0 ∧ x = ⟨{ data := #[97] }, A, cap, l, du⟩ := fun {k x} hx => by
    rcases k with _ | k
    · exact ⟨rfl, by simpa using hx.symm⟩
    · simp at hx
  refine ⟨h.below, h.fbase, h.ne, h.st, h.fl, by simpa using h.fc, fun k x hx => ?_, fun k x hx => ?_, fun k x hx => ?_, fun j k x y hjk hx hy => ?_⟩
  · obtain ⟨-, rfl⟩ := one hx; exact h.own
  · obtain ⟨-, rfl⟩ := one hx; exact h.sg
  · obtain ⟨-, rfl⟩ := one hx; exact h.sf
  · exact absurd ((one hx).1.trans (one hy).1.symm) hjk
theorem SN.to1 {x : Fil} (hx : x.name = { data := #[97] }) (h : SN W g room off armed ops f fcap r [x] w) : S1 W g room off armed ops f fcap r x.A x.cap x.l x.du w := by
  have e : flat [x] = flC x.A x.l.length x.cap x.du := by simp [flat, flC3, flC, hx]
  exact ⟨h.below, h.fbase, h.ne, h.st, by rw [← e]; exact h.fl, by simpa using h.fc, h.own 0 x rfl, h.sg 0 x rfl, h.sf 0 x rfl⟩
end
end Go.Proofs.Ytafdhgofdocjhaa
