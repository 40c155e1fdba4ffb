/-
  Layer whole: the sessions of the program are shut: each event lies inside of one of its key's. Plain facts (towards WholePanes).
-/
import Derived.Test.YtbimfopbilcdgaaZqbR
set_option linter.unusedSimpArgs false
set_option linter.unusedVariables false
set_option maxRecDepth 8000
namespace Go.Proofs.Ytbimfopbilcdgaa
open Go.RowKit Go.Sort Sm

/-- A place lies inside of one of a row's. -/
def Inn (gs : List Grp) (p : ZP) : Prop := ∃ x ∈ gs, x.p.key = p.key ∧ x.p.s ≤ p.s ∧ p.e ≤ x.p.e
theorem inn_putL (ses : Bool) (gs : List Grp) (g : Grp) (p : ZP) (h : Inn gs p ∨ p = g.p) : Inn (putL ses gs g) p := by
  rcases hb : lastB ses gs g.p with _ | _
  · rw [putL_F _ _ _ hb]
    rcases h with ⟨y, hy, h1, h2, h3⟩ | rfl
    · obtain ⟨x, hx, e⟩ := putF_old gs g y hy
      exact ⟨x, hx, by rw [e]; exact h1, by rw [e]; exact h2, by rw [e]; exact h3⟩
    · obtain ⟨x, hx, e⟩ := putF_new gs g
      exact ⟨x, hx, by rw [e], by rw [e]; exact Int.le_refl _, by rw [e]; exact Int.le_refl _⟩
  · rcases snoc_cases gs with rfl | ⟨r, y, rfl⟩
    · cases hb
    · rw [putL_last _ _ _ _ hb]
      rw [lastB_snoc, Bool.and_eq_true, Bool.and_eq_true] at hb
      have hk := (keyZ_iff _ _).1 hb.1.2
      have hin : ∀ q : ZP, (q.key = y.p.key ∧ ((y.p.s ≤ q.s ∧ q.e ≤ y.p.e) ∨ (g.p.s ≤ q.s ∧ q.e ≤ g.p.e))) → Inn (r ++ [joinG y g]) q := fun q hq => by
        refine ⟨joinG y g, by simp, hq.1.symm, ?_, ?_⟩
        · show min y.p.s g.p.s ≤ q.s; omega
        · show q.e ≤ max y.p.e g.p.e; omega
      rcases h with ⟨z, hz, h1, h2, h3⟩ | rfl
      · rcases List.mem_append.1 hz with hz | hz
        · exact ⟨z, by simp [hz], h1, h2, h3⟩
        · simp at hz; subst hz
          exact hin p ⟨h1.symm, .inl ⟨h2, h3⟩⟩
      · exact hin g.p ⟨hk.symm, .inr ⟨Int.le_refl _, Int.le_refl _⟩⟩
theorem inn_putA (ses : Bool) (p : ZP) : ∀ (its gs : List Grp), (Inn gs p ∨ ∃ g ∈ its, p = g.p) → Inn (putA ses gs its) p
  | [], gs, h => by
    rcases h with h | ⟨g, hg, -⟩
    · exact h
    · cases hg
  | g :: r, gs, h => by
    rw [putA_cons]
    refine inn_putA ses p r _ ?_
    rcases h with h | ⟨x, hx, e⟩
    · exact .inl (inn_putL ses gs g p (.inl h))
    · rcases List.mem_cons.1 hx with rfl | hx
      · exact .inl (inn_putL ses gs x p (.inr e))
      · exact .inr ⟨x, hx, e⟩
/-- A session's event has one window: its own. -/
theorem w0_ses {c : Cf} (h : c.Ok) (hk : c.kind = 2) (t : Int) : (⟨t, t + c.size⟩ : Wd) ∈ wOf c t := by
  have ha : c.a t = t := by unfold Cf.a; rw [if_pos hk]
  refine (wOf_mem c t _).2 ⟨0, h.n1 t, ?_⟩
  unfold Cf.w
  rw [ha, Int.natCast_zero, Int.zero_mul, Int.sub_zero]
/-- Each event lies inside of one of its key's sessions. -/
theorem ses_cover {c : Cf} (h : c.Ok) (hk : c.kind = 2) (l : List Ev) (x : Ev) (hx : x ∈ l) : Inn (grps c l) ⟨x.key, x.time, x.time + c.size⟩ := by
  unfold grps grpsS
  refine inn_putA _ _ _ [] (.inr ⟨⟨⟨x.key, x.time, x.time + c.size⟩, [x.val]⟩, ?_, rfl⟩)
  refine List.mem_flatMap.2 ⟨x, (zisort_perm l).mem_iff.2 hx, ?_⟩
  unfold itE
  exact List.mem_map.2 ⟨_, w0_ses h hk x.time, rfl⟩
/-- The sessions of some events are shut. -/
theorem shut_grps {c : Cf} (h : c.Ok) (hk : c.kind = 2) (l : List Ev) (g : Grp) (hg : g ∈ grps c l) : Shut c.size l g.p := fun x hx e => by
  obtain ⟨y, hy, e1, e2, e3⟩ := ses_cover h hk l x hx
  have e1 : y.p.key = x.key := e1
  have e2 : y.p.s ≤ x.time := e2
  have e3 : x.time + c.size ≤ y.p.e := e3
  obtain ⟨i, hi⟩ := List.mem_iff_getElem?.1 hg
  obtain ⟨j, hj⟩ := List.mem_iff_getElem?.1 hy
  have hi' := List.getElem?_eq_some_iff.1 hi
  have hj' := List.getElem?_eq_some_iff.1 hj
  have hs := (ses_grps h hk l).sep
  rcases Nat.lt_trichotomy i j with hij | hij | hij
  · have h4 := List.pairwise_iff_getElem.1 hs i j hi'.1 hj'.1 hij
    rw [hi'.2, hj'.2] at h4
    have h5 := h4 (e.symm.trans e1.symm)
    exact .inr (.inl (by omega))
  · subst hij
    rw [hi] at hj
    injection hj with hj
    subst hj
    exact .inr (.inr ⟨e2, e3⟩)
  · have h4 := List.pairwise_iff_getElem.1 hs j i hj'.1 hi'.1 hij
    rw [hi'.2, hj'.2] at h4
    have h5 := h4 (e1.trans e)
    exact .inl (by omega)
/-- The window of an event's session: any that is tight, shut, and holds it. -/
theorem ses_win {c : Cf} (h : c.Ok) (hk : c.kind = 2) (l : List Ev) (x : Ev) (hx : x ∈ l) (q : ZP) (hq : Tight c.size l q) (sq : Shut c.size l q) (hqk : q.key = x.key) (h1 : q.s ≤ x.time) (h2 : x.time + c.size ≤ q.e) : ∃ g ∈ grps c l, g.p = q := by
  obtain ⟨g, hg, e1, e2, e3⟩ := ses_cover h hk l x hx
  have e1 : g.p.key = x.key := e1
  have e2 : g.p.s ≤ x.time := e2
  have e3 : x.time + c.size ≤ g.p.e := e3
  have hs1 := h.size1
  exact ⟨g, hg, tight_one (tight_grps h hk l g hg) (shut_grps h hk l g hg) hq sq (e1.trans hqk.symm) (by omega) (by omega) (by omega) (by omega)⟩
end Go.Proofs.Ytbimfopbilcdgaa
