/-
  Layer whole: things put at places, none of them a session: what lies where, in whichever order they came. Plain facts (towards WholePanes).
-/
import Derived.Test.YtbimfopbilcdgaaZwpR
set_option linter.unusedSimpArgs false
set_option linter.unusedVariables false
set_option maxRecDepth 8000
namespace Go.Proofs.Ytbimfopbilcdgaa
open Go.RowKit Go.Sort Sm

/-- The values at a place. -/
def lk (gs : List Grp) (q : ZP) : List Nat := gs.flatMap fun h => if zCmp q h.p = 0 then h.vs else []
theorem lk_cons (h : Grp) (t : List Grp) (q : ZP) : lk (h :: t) q = (if zCmp q h.p = 0 then h.vs else []) ++ lk t q := by unfold lk; rw [List.flatMap_cons]
theorem lk_none (t : List Grp) (q : ZP) (h : ∀ x ∈ t, ZL q x.p) : lk t q = [] := by
  induction t with
  | nil => rfl
  | cons a r ih =>
    have h1 := (zl_iff q a.p).2 (h a (by simp))
    rw [lk_cons, if_neg (by omega), ih (fun x hx => h x (by simp [hx]))]; rfl
theorem putF_lk (gs : List Grp) (g : Grp) (hs : Srt gs) (q : ZP) : lk (putF gs g) q = lk gs q ++ (if zCmp q g.p = 0 then g.vs else []) := by
  induction gs with
  | nil => rw [putF, lk_cons]; simp [lk]
  | cons a t ih =>
    have h0 := hs
    unfold Srt at hs
    rw [List.pairwise_cons] at hs
    rw [putF]
    split
    · rw [lk_cons, lk_cons, ih hs.2, List.append_assoc]
    · split
      · rename_i hc
        have e := (z_zero _ _).1 hc
        rw [lk_cons, lk_cons]
        show (if zCmp q (joinP a.p g.p) = 0 then a.vs ++ g.vs else []) ++ lk t q = _
        rw [e, joinP_self]
        by_cases hq : zCmp q a.p = 0
        · have hq2 := (z_zero _ _).1 hq
          rw [if_pos hq, if_pos hq, lk_none t q (fun x hx => by rw [hq2]; exact hs.1 x hx), if_pos hq]; simp
        · rw [if_neg hq, if_neg hq, if_neg hq]; simp
      · rename_i hc hc2
        have hl : ZL g.p a.p := (zl_iff _ _).1 (by omega)
        rw [lk_cons]
        by_cases hq : zCmp q g.p = 0
        · have hq2 := (z_zero _ _).1 hq
          rw [if_pos hq, lk_none (a :: t) q (fun x hx => by
            rw [hq2]
            rcases List.mem_cons.1 hx with rfl | hx
            · exact hl
            · exact hl.tr (hs.1 x hx))]; simp
        · rw [if_neg hq]; simp
theorem putF_old (gs : List Grp) (g h : Grp) (hm : h ∈ gs) : ∃ x ∈ putF gs g, x.p = h.p := by
  induction gs with
  | nil => cases hm
  | cons a t ih =>
    rw [putF]
    split
    · rcases List.mem_cons.1 hm with rfl | hm
      · exact ⟨_, List.mem_cons_self, rfl⟩
      · obtain ⟨x, hx, e⟩ := ih hm
        exact ⟨x, by simp [hx], e⟩
    · split
      · rename_i hc
        have e := (z_zero _ _).1 hc
        rcases List.mem_cons.1 hm with rfl | hm
        · exact ⟨_, List.mem_cons_self, by show joinP h.p g.p = h.p; rw [e, joinP_self]⟩
        · exact ⟨h, by simp [hm], rfl⟩
      · exact ⟨h, by rcases List.mem_cons.1 hm with rfl | hm <;> simp [*], rfl⟩
theorem putF_new (gs : List Grp) (g : Grp) : ∃ x ∈ putF gs g, x.p = g.p := by
  induction gs with
  | nil => exact ⟨g, by simp [putF], rfl⟩
  | cons a t ih =>
    rw [putF]
    split
    · obtain ⟨x, hx, e⟩ := ih
      exact ⟨x, by simp [hx], e⟩
    · split
      · rename_i hc
        have e := (z_zero _ _).1 hc
        exact ⟨_, List.mem_cons_self, by show joinP a.p g.p = g.p; rw [e, joinP_self]⟩
      · exact ⟨g, by simp, rfl⟩
/-- All put, one by one. -/
def addA (its : List Grp) : List Grp := its.foldl putF []
theorem addA_snoc (r : List Grp) (g : Grp) : addA (r ++ [g]) = putF (addA r) g := by unfold addA; rw [List.foldl_append]; rfl
theorem lk_append (r t : List Grp) (q : ZP) : lk (r ++ t) q = lk r q ++ lk t q := by unfold lk; rw [List.flatMap_append]
/-- What lies where. -/
theorem addA_is (its : List Grp) : Srt (addA its) ∧ (∀ q, lk (addA its) q = lk its q) ∧ (∀ x ∈ addA its, ∃ g ∈ its, x.p = g.p) ∧ (∀ g ∈ its, ∃ x ∈ addA its, x.p = g.p) := by
  suffices h : ∀ n (its : List Grp), its.length = n → Srt (addA its) ∧ (∀ q, lk (addA its) q = lk its q) ∧ (∀ x ∈ addA its, ∃ g ∈ its, x.p = g.p) ∧ (∀ g ∈ its, ∃ x ∈ addA its, x.p = g.p) from h _ its rfl
  intro n
  induction n with
  | zero =>
    intro its h
    obtain rfl := List.eq_nil_of_length_eq_zero h
    exact ⟨List.Pairwise.nil, (fun _ => rfl), (fun x (hx : x ∈ []) => by cases hx), (fun g (hg : g ∈ []) => by cases hg)⟩
  | succ n ih =>
    intro its h
    rcases snoc_cases its with rfl | ⟨r, y, rfl⟩
    · cases h
    · obtain ⟨h1, h2, h3, h4⟩ := ih r (by simpa using h)
      rw [addA_snoc]
      refine ⟨putF_srt _ _ h1, fun q => ?_, fun x hx => ?_, fun g hg => ?_⟩
      · rw [putF_lk _ _ h1, h2, lk_append, lk_cons]; simp [lk]
      · rcases putF_mem _ _ _ hx with e | ⟨z, hz, e⟩
        · exact ⟨y, by simp, e⟩
        · obtain ⟨g, hg, e2⟩ := h3 z hz
          exact ⟨g, by simp [hg], e.trans e2⟩
      · rcases List.mem_append.1 hg with hg | hg
        · obtain ⟨x, hx, e⟩ := h4 g hg
          obtain ⟨z, hz, e2⟩ := putF_old _ y x hx
          exact ⟨z, hz, e2.trans e⟩
        · simp at hg; subst hg; exact putF_new _ _
/-- In a rising row, what lies at a place is that group's values. -/
theorem lk_at {gs : List Grp} (h : Srt gs) (x : Grp) (hx : x ∈ gs) : lk gs x.p = x.vs := by
  induction gs with
  | nil => cases hx
  | cons a t ih =>
    unfold Srt at h
    rw [List.pairwise_cons] at h
    rw [lk_cons]
    rcases List.mem_cons.1 hx with rfl | hx
    · rw [if_pos ((z_zero _ _).2 rfl), lk_none t _ h.1, List.append_nil]
    · have h1 := (z_pos x.p a.p).2 (h.1 x hx)
      rw [if_neg (by omega), ih h.2 hx]; rfl
/-- Rising rows with the same places stand alike. -/
theorem srt_places : ∀ {gs hs : List Grp}, Srt gs → Srt hs → (∀ x ∈ gs, ∃ y ∈ hs, y.p = x.p) → (∀ y ∈ hs, ∃ x ∈ gs, x.p = y.p) → gs.map (·.p) = hs.map (·.p)
  | [], [], _, _, _, _ => rfl
  | [], b :: t, _, _, _, h2 => by obtain ⟨x, hx, -⟩ := h2 b (by simp); cases hx
  | a :: r, [], _, _, h1, _ => by obtain ⟨x, hx, -⟩ := h1 a (by simp); cases hx
  | a :: r, b :: t, hg, hh, h1, h2 => by
    unfold Srt at hg hh
    rw [List.pairwise_cons] at hg hh
    have hab : a.p = b.p := by
      obtain ⟨y, hy, ey⟩ := h1 a (by simp)
      obtain ⟨x, hx, ex⟩ := h2 b (by simp)
      rcases List.mem_cons.1 hy with rfl | hy
      · exact ey.symm
      · rcases List.mem_cons.1 hx with rfl | hx
        · exact ex
        · have h3 := hh.1 y hy
          have h4 := hg.1 x hx
          rw [ey] at h3; rw [ex] at h4
          exact absurd h3 h4.asy
    rw [List.map_cons, List.map_cons, hab]
    congr 1
    refine srt_places hg.2 hh.2 (fun x hx => ?_) (fun y hy => ?_)
    · obtain ⟨y, hy, e⟩ := h1 x (by simp [hx])
      rcases List.mem_cons.1 hy with rfl | hy
      · have h3 := hg.1 x hx; rw [hab, e] at h3; exact absurd h3 (zl_irr _)
      · exact ⟨y, hy, e⟩
    · obtain ⟨x, hx, e⟩ := h2 y (by simp [hy])
      rcases List.mem_cons.1 hx with rfl | hx
      · have h3 := hh.1 y hy; rw [← hab, e] at h3; exact absurd h3 (zl_irr _)
      · exact ⟨x, hx, e⟩
/-- In whichever order things come: the same places, and at each the same values, in whichever order. -/
theorem addA_perm {its jts : List Grp} (h : its.Perm jts) : (addA its).map (·.p) = (addA jts).map (·.p) ∧ ∀ x ∈ addA its, ∀ y ∈ addA jts, x.p = y.p → x.vs.Perm y.vs := by
  obtain ⟨a1, a2, a3, a4⟩ := addA_is its
  obtain ⟨b1, b2, b3, b4⟩ := addA_is jts
  refine ⟨srt_places a1 b1 (fun x hx => ?_) (fun y hy => ?_), fun x hx y hy e => ?_⟩
  · obtain ⟨g, hg, e⟩ := a3 x hx
    obtain ⟨y, hy, e2⟩ := b4 g (h.mem_iff.1 hg)
    exact ⟨y, hy, e2.trans e.symm⟩
  · obtain ⟨g, hg, e⟩ := b3 y hy
    obtain ⟨x, hx, e2⟩ := a4 g (h.mem_iff.2 hg)
    exact ⟨x, hx, e2.trans e.symm⟩
  · rw [← lk_at a1 x hx, ← lk_at b1 y hy, a2, b2, e]
    exact h.flatMap_right _
/-- .. and where no group is a session the program puts them so. -/
theorem putA_addA (its : List Grp) : putA false [] its = addA its := by
  unfold putA addA
  congr 1
  funext gs g
  exact putL_F false gs g (lastB_no gs g.p)
end Go.Proofs.Ytbimfopbilcdgaa
