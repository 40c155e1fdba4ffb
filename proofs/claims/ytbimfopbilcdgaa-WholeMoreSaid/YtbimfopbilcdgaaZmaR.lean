/-
  Layer whole: one event more: what stays as it was. Plain facts (towards WholeMore).
-/
import Derived.Test.YtbimfopbilcdgaaZqeR
set_option linter.unusedSimpArgs false
set_option linter.unusedVariables false
set_option maxRecDepth 8000
namespace Go.Proofs.Ytbimfopbilcdgaa
open Go.RowKit Go.Sort Sm

/-- A group that was there, or one into whose window the event falls. -/
def OldOr (c : Cf) (l : List Ev) (e : Ev) (g : Grp) : Prop := (∃ h ∈ grps c l, h.p = g.p ∧ h.vs.Perm g.vs) ∨ (g.p.key = e.key ∧ g.p.s ≤ e.time ∧ e.time < g.p.e)
theorem map_mem {α β : Type} {f : α → β} {l m : List α} (h : l.map f = m.map f) (x : α) (hx : x ∈ l) : ∃ y ∈ m, f y = f x := by
  have h1 : f x ∈ m.map f := by rw [← h]; exact List.mem_map.2 ⟨x, hx, rfl⟩
  exact List.mem_map.1 h1
theorem lk_not (t : List Grp) (q : ZP) (h : ∀ x ∈ t, x.p ≠ q) : lk t q = [] := by
  induction t with
  | nil => rfl
  | cons a r ih =>
    rw [lk_cons, if_neg (fun e => h a (by simp) ((z_zero _ _).1 e).symm), ih (fun x hx => h x (by simp [hx]))]; rfl
theorem more_grid {c : Cf} (h : c.Ok) (hk : c.kind ≠ 2) (l : List Ev) (e : Ev) : ∀ g ∈ grps c (l ++ [e]), OldOr c l e g := fun g hg => by
  obtain ⟨m1, v1⟩ := grid_doc hk (l ++ [e]) _ (List.Perm.refl (itsL c (l ++ [e])))
  obtain ⟨m0, v0⟩ := grid_doc hk l _ (List.Perm.refl (itsL c l))
  obtain ⟨a1, a2, a3, a4⟩ := addA_is (itsL c (l ++ [e]))
  obtain ⟨b1, b2, b3, b4⟩ := addA_is (itsL c l)
  have hsplit : itsL c (l ++ [e]) = itsL c l ++ itE c e := by rw [itsL_append]; congr 1; unfold itsL; simp
  obtain ⟨y, hy, ey⟩ := map_mem m1 g hg
  by_cases hin : ∃ x ∈ itE c e, x.p = y.p
  · obtain ⟨x, hx, ex⟩ := hin
    refine .inr ?_
    unfold itE at hx
    obtain ⟨w, hw, rfl⟩ := List.mem_map.1 hx
    have h3 := wOf_in h e.time w hw
    rw [← ey, ← ex]
    exact ⟨rfl, h3.2.1, h3.2.2⟩
  · refine .inl ?_
    obtain ⟨z, hz, ez⟩ := a3 y hy
    rw [hsplit] at hz
    have hz : z ∈ itsL c l := by
      rcases List.mem_append.1 hz with hz | hz
      · exact hz
      · exact absurd ⟨z, hz, ez.symm⟩ hin
    obtain ⟨x, hx, ex⟩ := b4 z hz
    obtain ⟨g0, hg0, eg⟩ := map_mem m0.symm x hx
    have hp : g0.p = g.p := eg.trans (ex.trans (ez.symm.trans ey))
    refine ⟨g0, hg0, hp, ?_⟩
    have hv : x.vs = y.vs := by
      rw [← lk_at b1 x hx, ← lk_at a1 y hy, a2, b2, hsplit, lk_append, lk_not (itE c e) y.p (fun x' hx' e' => hin ⟨x', hx', e'⟩), List.append_nil, ex, ez]
    have h1 := v0 g0 hg0 x hx eg
    have h2 := v1 g hg y hy ey.symm
    rw [hv] at h1
    exact h1.trans h2.symm
theorem more_ses {c : Cf} (h : c.Ok) (hk : c.kind = 2) (l : List Ev) (e : Ev) : ∀ g ∈ grps c (l ++ [e]), OldOr c l e g := fun g hg => by
  by_cases hin : g.p.key = e.key ∧ g.p.s ≤ e.time ∧ e.time < g.p.e
  · exact .inr hin
  · refine .inl ?_
    have hs1 := h.size1
    have ht := tight_grps h hk _ g hg
    have hs := shut_grps h hk _ g hg
    have hse := hs e (by simp)
    have ht' : Tight c.size l g.p := fun m h1 h2 => by
      obtain ⟨x, hx, ek, h3, h4⟩ := ht m h1 h2
      rcases List.mem_append.1 hx with hx | hx
      · exact ⟨x, hx, ek, h3, h4⟩
      · simp at hx; subst hx
        have hse := hse ek
        exact absurd ⟨ek.symm, by omega, by omega⟩ hin
    have hs' : Shut c.size l g.p := fun x hx => hs x (by simp [hx])
    obtain ⟨⟨x, hx, xk, xs⟩, -⟩ := ses_st h hk _ g hg
    have hpos := (ses_grps h hk _).pos g hg
    have hx : x ∈ l := by
      rcases List.mem_append.1 hx with hx | hx
      · exact hx
      · simp at hx; subst hx
        exact absurd ⟨xk.symm, by omega, by omega⟩ hin
    have hsx := hs x (by simp [hx]) xk
    obtain ⟨g0, hg0, eg⟩ := ses_win h hk l x hx g.p ht' hs' xk.symm (by omega) (by omega)
    refine ⟨g0, hg0, eg, ?_⟩
    have h1 := ses_vals h hk l g0 hg0
    have h2 := ses_vals h hk _ g hg
    have h3 : vIn c.size (l ++ [e]) g.p = vIn c.size l g.p := by
      unfold vIn
      rw [List.filter_append, List.filter_cons_of_neg (fun hb => by
        obtain ⟨k1, k2, k3⟩ := (inB_iff _ _ _).1 hb
        exact hin ⟨k1.symm, k2, by omega⟩), List.filter_nil, List.append_nil]
    rw [h3] at h2
    rw [eg] at h1
    exact h1.trans h2.symm
theorem more_any {c : Cf} (h : c.Ok) (l : List Ev) (e : Ev) : ∀ g ∈ grps c (l ++ [e]), OldOr c l e g := by
  by_cases hk : c.kind = 2
  · exact more_ses h hk l e
  · exact more_grid h hk l e
theorem putF_more (gs : List Grp) (g : Grp) : gs.length ≤ (putF gs g).length := by
  induction gs with
  | nil => simp
  | cons a t ih => rw [putF]; split <;> (try split) <;> simp; exact ih
theorem foldF_more : ∀ (its gs : List Grp), gs.length ≤ (its.foldl putF gs).length
  | [], _ => Nat.le_refl _
  | g :: r, gs => Nat.le_trans (putF_more gs g) (foldF_more r _)
theorem more_len {c : Cf} (hk : c.kind ≠ 2) (l : List Ev) (e : Ev) : (grps c l).length ≤ (grps c (l ++ [e])).length := by
  have m1 := congrArg List.length (grid_doc hk (l ++ [e]) _ (List.Perm.refl (itsL c (l ++ [e])))).1
  have m0 := congrArg List.length (grid_doc hk l _ (List.Perm.refl (itsL c l))).1
  rw [List.length_map, List.length_map] at m0 m1
  rw [m0, m1, itsL_append]
  unfold addA
  rw [List.foldl_append]
  exact foldF_more _ _
end Go.Proofs.Ytbimfopbilcdgaa
