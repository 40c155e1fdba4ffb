/-
  Layer whole: what sessions are: plain facts.
-/
import Derived.Test.YtbimfopbilcdgaaZwpR
set_option linter.unusedSimpArgs false
set_option linter.unusedVariables false
set_option maxRecDepth 8000
namespace Go.Proofs.Ytbimfopbilcdgaa
open Go.RowKit Go.Sort Sm

theorem putF_end (gs : List Grp) (g : Grp) (h : ∀ x ∈ gs, ZL x.p g.p) : putF gs g = gs ++ [g] := by
  induction gs with
  | nil => rfl
  | cons a t ih =>
    rw [putF, if_pos ((z_pos _ _).2 (h a (by simp))), ih (fun x hx => h x (by simp [hx]))]; rfl
/-- What is so of the sessions of some events. -/
structure SesInv (size : Int) (gs : List Grp) (done : List Ev) : Prop where
  srt : Srt gs
  pos : ∀ g ∈ gs, g.p.s < g.p.e
  st : ∀ g ∈ gs, ∃ e ∈ done, e.key = g.p.key ∧ e.time = g.p.s
  en : ∀ g ∈ gs, ∃ e ∈ done, e.key = g.p.key ∧ e.time + size = g.p.e
  sep : gs.Pairwise fun a b => a.p.key = b.p.key → a.p.e ≤ b.p.s
theorem SesInv.nil (size : Int) : SesInv size [] [] := ⟨List.Pairwise.nil, (fun g hg => by cases hg), (fun g hg => by cases hg), (fun g hg => by cases hg), List.Pairwise.nil⟩
theorem SesInv.bef {size : Int} {gs : List Grp} {done : List Ev} (h : SesInv size gs done) (x : Ev) (hx : ∀ e ∈ done, LeE e x) : Bef gs ⟨x.key, x.time, x.time + size⟩ := fun g hg => by
  obtain ⟨e, he, ek, et⟩ := h.st g hg
  rcases hx e he with h1 | ⟨h1, h2⟩
  · exact .inl (by rw [← ek]; exact h1)
  · exact .inr ⟨ek.symm.trans h1, by show g.p.s ≤ x.time; omega⟩
theorem SesInv.step {size : Int} (hs : 1 ≤ size) {gs : List Grp} {done : List Ev} (h : SesInv size gs done) (x : Ev) (hx : ∀ e ∈ done, LeE e x) : SesInv size (putL true gs ⟨⟨x.key, x.time, x.time + size⟩, [x.val]⟩) (done ++ [x]) := by
  have hb := h.bef x hx
  have hsrt := putL_srt true gs ⟨⟨x.key, x.time, x.time + size⟩, [x.val]⟩ h.srt (fun _ => hb)
  rcases hl : lastB true gs ⟨x.key, x.time, x.time + size⟩ with _ | _
  · have key : ∀ a ∈ gs, a.p.key = x.key → a.p.e ≤ x.time := by
      rcases snoc_cases gs with rfl | ⟨r, y, rfl⟩
      · intro a ha; cases ha
      · have hy : y.p.key = x.key → y.p.e ≤ x.time := fun hk => by
          rw [lastB_snoc] at hl
          have hk2 : keyZ y.p.key x.key = true := (keyZ_iff _ _).2 hk
          simp only [hk2, Bool.true_and, Bool.and_true] at hl
          unfold meetP at hl
          rw [Bool.and_eq_false_iff, decide_eq_false_iff_not, decide_eq_false_iff_not] at hl
          rcases hb y (by simp) with h1 | ⟨-, h1⟩
          · rw [hk, ek_self] at h1; omega
          · simp only at h1 hl; omega
        intro a ha hk
        rcases List.mem_append.1 ha with har | ha
        · have h1 : ZL a.p y.p := by
            have h2 := h.srt
            unfold Srt at h2
            rw [List.pairwise_append] at h2
            exact h2.2.2 a har y (by simp)
          have h2 := hb y (by simp)
          have hyk : a.p.key = y.p.key := by
            rcases h1 with h1 | ⟨h1, -⟩
            · rcases h2 with h2 | ⟨h2, -⟩
              · have h3 : cmpK y.p.key x.key < 0 := h2
                have h4 := kb_trans _ _ _ h1 h3
                have h5 : cmpK a.p.key x.key < 0 := h4
                rw [hk, ek_self] at h5; omega
              · have h3 : y.p.key = x.key := h2
                have h5 : cmpK a.p.key x.key < 0 := by rw [← h3]; exact h1
                rw [hk, ek_self] at h5; omega
            · exact h1
          have h3 : a.p.e ≤ y.p.s := by
            have h4 := h.sep
            rw [List.pairwise_append] at h4
            exact h4.2.2 a har y (by simp) hyk
          have h4 := h.pos y (by simp)
          have h5 := hy (hyk ▸ hk)
          omega
        · simp at ha; subst ha; exact hy hk
    have hz : ∀ a ∈ gs, ZL a.p ⟨x.key, x.time, x.time + size⟩ := fun a ha => by
      rcases hb a ha with h1 | ⟨h1, h2⟩
      · exact .inl h1
      · have h3 := key a ha h1
        have h4 := h.pos a ha
        exact .inr ⟨h1, .inl (by show a.p.s < x.time; omega)⟩
    have e : putL true gs ⟨⟨x.key, x.time, x.time + size⟩, [x.val]⟩ = gs ++ [⟨⟨x.key, x.time, x.time + size⟩, [x.val]⟩] := by
      rw [putL_F _ _ _ hl, putF_end gs _ hz]
    rw [e] at hsrt ⊢
    refine ⟨hsrt, fun g hg => ?_, fun g hg => ?_, fun g hg => ?_, ?_⟩
    · rcases List.mem_append.1 hg with hg | hg
      · exact h.pos g hg
      · simp at hg; subst hg; show x.time < x.time + size; omega
    · rcases List.mem_append.1 hg with hg | hg
      · obtain ⟨e, he, h2⟩ := h.st g hg; exact ⟨e, by simp [he], h2⟩
      · simp at hg; subst hg; exact ⟨x, by simp, rfl, rfl⟩
    · rcases List.mem_append.1 hg with hg | hg
      · obtain ⟨e, he, h2⟩ := h.en g hg; exact ⟨e, by simp [he], h2⟩
      · simp at hg; subst hg; exact ⟨x, by simp, rfl, rfl⟩
    · refine List.pairwise_append.2 ⟨h.sep, List.pairwise_singleton _ _, fun a ha b hb' => ?_⟩
      simp at hb'; subst hb'
      exact key a ha
  · rcases snoc_cases gs with rfl | ⟨r, y, rfl⟩
    · cases hl
    · obtain ⟨-, k2, k3, k4⟩ := last_key hl
      rw [putL_last _ _ _ _ hl] at hsrt ⊢
      have hp : (joinG y ⟨⟨x.key, x.time, x.time + size⟩, [x.val]⟩).p = ⟨y.p.key, y.p.s, max y.p.e (x.time + size)⟩ := joinP_s k2 (hb y (by simp))
      have hm1 := Int.le_max_left y.p.e (x.time + size)
      have hs2 := h.sep
      rw [List.pairwise_append] at hs2
      refine ⟨hsrt, fun g hg => ?_, fun g hg => ?_, fun g hg => ?_, ?_⟩
      · rcases List.mem_append.1 hg with hg | hg
        · exact h.pos g (by simp [hg])
        · simp at hg; subst hg; rw [hp]
          have h4 := h.pos y (by simp)
          show y.p.s < max y.p.e (x.time + size); omega
      · rcases List.mem_append.1 hg with hg | hg
        · obtain ⟨e, he, h2⟩ := h.st g (by simp [hg]); exact ⟨e, by simp [he], h2⟩
        · simp at hg; subst hg; rw [hp]
          obtain ⟨e, he, h2⟩ := h.st y (by simp); exact ⟨e, by simp [he], h2⟩
      · rcases List.mem_append.1 hg with hg | hg
        · obtain ⟨e, he, h2⟩ := h.en g (by simp [hg]); exact ⟨e, by simp [he], h2⟩
        · simp at hg; subst hg; rw [hp]
          rcases Int.le_total y.p.e (x.time + size) with hle | hle
          · exact ⟨x, by simp, k2.symm, (Int.max_eq_right hle).symm⟩
          · obtain ⟨e, he, h2, h3⟩ := h.en y (by simp)
            exact ⟨e, by simp [he], h2, h3.trans (Int.max_eq_left hle).symm⟩
      · refine List.pairwise_append.2 ⟨hs2.1, List.pairwise_singleton _ _, fun a ha b hb' hk => ?_⟩
        simp at hb'; subst hb'
        rw [hp] at hk ⊢
        exact hs2.2.2 a ha y (by simp) hk
theorem ses_fold {c : Cf} (h : c.Ok) (hk : c.kind = 2) : ∀ (r done : List Ev) (gs : List Grp), SesInv c.size gs done → (done ++ r).Pairwise LeE → SesInv c.size (putA true gs (itsL c r)) (done ++ r)
  | [], done, gs, hi, _ => by rw [List.append_nil]; exact hi
  | x :: r, done, gs, hi, ho => by
    have e : itE c x = [⟨⟨x.key, x.time, x.time + c.size⟩, [x.val]⟩] := by unfold itE; rw [wOf_ses h hk]; rfl
    rw [itsL_cons, e, putA_append]
    have ho2 := ho
    rw [List.pairwise_append] at ho2
    have h1 := hi.step h.size1 x (fun e he => ho2.2.2 e he x (by simp))
    have h2 := ses_fold h hk r (done ++ [x]) _ h1 (by rw [List.append_assoc]; exact ho)
    rw [List.append_assoc] at h2
    exact h2
theorem ses_grps {c : Cf} (h : c.Ok) (hk : c.kind = 2) (l : List Ev) : SesInv c.size (grps c l) (isort ltE l) := by
  have ho : (isort ltE l).Pairwise LeE := (isort_ordered wkE l).imp fun hxy => leE_of _ _ hxy
  have h1 := ses_fold h hk (isort ltE l) [] [] (SesInv.nil _) (by rw [List.nil_append]; exact ho)
  rw [List.nil_append] at h1
  unfold grps grpsS
  rw [decide_eq_true hk]
  exact h1
theorem ses_st {c : Cf} (h : c.Ok) (hk : c.kind = 2) (l : List Ev) (g : Grp) (hg : g ∈ grps c l) : (∃ e ∈ l, e.key = g.p.key ∧ e.time = g.p.s) ∧ (∃ e ∈ l, e.key = g.p.key ∧ e.time + c.size = g.p.e) := by
  have h1 := ses_grps h hk l
  obtain ⟨e, he, h2⟩ := h1.st g hg
  obtain ⟨f, hf, h3⟩ := h1.en g hg
  exact ⟨⟨e, (zisort_perm l).mem_iff.1 he, h2⟩, ⟨f, (zisort_perm l).mem_iff.1 hf, h3⟩⟩
theorem ses_sep {c : Cf} (h : c.Ok) (hk : c.kind = 2) (l : List Ev) {i j : Nat} {a b : Grp} (ha : (grps c l)[i]? = some a) (hb : (grps c l)[j]? = some b) (hij : i < j) (hkey : a.p.key = b.p.key) : meetP a.p b.p = false := by
  have h1 := (ses_grps h hk l).sep
  have h2 := List.getElem?_eq_some_iff.1 ha
  have h3 := List.getElem?_eq_some_iff.1 hb
  have h4 := List.pairwise_iff_getElem.1 h1 i j h2.1 h3.1 hij
  rw [h2.2, h3.2] at h4
  have h5 := h4 hkey
  unfold meetP
  rw [Bool.and_eq_false_iff, decide_eq_false_iff_not, decide_eq_false_iff_not]
  right; omega
/-- A config whose windows are sessions. -/
def Cf.ses (c : Cf) : Cf := { c with kind := 2, step := 0 }
theorem Cf.Ok.ses {c : Cf} (h : c.Ok) : c.ses.Ok := ⟨by unfold Cf.ses; simp, h.size1, h.size2, fun _ => rfl, (fun h2 => absurd h2 (by unfold Cf.ses; simp)), h.late1, h.late2, h.skew1, h.skew2, h.parts1, h.parts2, h.cut⟩
end Go.Proofs.Ytbimfopbilcdgaa
