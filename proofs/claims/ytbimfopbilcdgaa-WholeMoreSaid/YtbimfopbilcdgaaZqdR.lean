/-
  Layer whole: a session's values are those of the events inside of it. Plain facts (towards WholePanes).
-/
import Derived.Test.YtbimfopbilcdgaaZqcR
set_option linter.unusedSimpArgs false
set_option linter.unusedVariables false
set_option maxRecDepth 8000
namespace Go.Proofs.Ytbimfopbilcdgaa
open Go.RowKit Go.Sort Sm

/-- Where a thing has been put: in between, or into one. -/
def Shape (gs : List Grp) (g : Grp) (gs' : List Grp) : Prop := (∃ A B, gs = A ++ B ∧ gs' = A ++ g :: B) ∨ (∃ A y B, gs = A ++ y :: B ∧ gs' = A ++ joinG y g :: B ∧ y.p.key = g.p.key)
theorem putF_shape (gs : List Grp) (g : Grp) : Shape gs g (putF gs g) := by
  induction gs with
  | nil => exact .inl ⟨[], [], rfl, rfl⟩
  | cons a t ih =>
    rw [putF]
    split
    · rcases ih with ⟨A, B, e1, e2⟩ | ⟨A, y, B, e1, e2, e3⟩
      · exact .inl ⟨a :: A, B, by rw [e1]; rfl, by rw [e2]; rfl⟩
      · exact .inr ⟨a :: A, y, B, by rw [e1]; rfl, by rw [e2]; rfl, e3⟩
    · split
      · rename_i hc
        exact .inr ⟨[], a, t, rfl, rfl, by rw [(z_zero _ _).1 hc]⟩
      · exact .inl ⟨[], a :: t, rfl, rfl⟩
theorem putL_shape (ses : Bool) (gs : List Grp) (g : Grp) : Shape gs g (putL ses gs g) := by
  rcases hb : lastB ses gs g.p with _ | _
  · rw [putL_F _ _ _ hb]; exact putF_shape gs g
  · rcases snoc_cases gs with rfl | ⟨r, y, rfl⟩
    · cases hb
    · rw [putL_last _ _ _ _ hb]
      rw [lastB_snoc, Bool.and_eq_true, Bool.and_eq_true] at hb
      exact .inr ⟨r, y, [], rfl, rfl, (keyZ_iff _ _).1 hb.1.2⟩
/-- Is an event inside of a window? -/
def inB (sz : Int) (p : ZP) (x : Ev) : Bool := keyZ x.key p.key && decide (p.s ≤ x.time) && decide (x.time + sz ≤ p.e)
theorem inB_iff (sz : Int) (p : ZP) (x : Ev) : inB sz p x = true ↔ x.key = p.key ∧ p.s ≤ x.time ∧ x.time + sz ≤ p.e := by
  unfold inB
  rw [Bool.and_eq_true, Bool.and_eq_true, keyZ_iff, decide_eq_true_eq, decide_eq_true_eq, and_assoc]
def vIn (sz : Int) (L : List Ev) (p : ZP) : List Nat := (L.filter (inB sz p)).map (·.val)
/-- The groups hold the values of the events inside of them, and each event is inside of one. -/
structure SesV (sz : Int) (gs : List Grp) (done : List Ev) : Prop where
  val : ∀ g ∈ gs, g.vs = vIn sz done g.p
  cov : ∀ x ∈ done, Inn gs ⟨x.key, x.time, x.time + sz⟩
theorem sep_two {gs : List Grp} (h : gs.Pairwise fun a b => a.p.key = b.p.key → a.p.e ≤ b.p.s) {A B C : List Grp} {a b : Grp} (e : gs = A ++ a :: (B ++ b :: C)) (hk : a.p.key = b.p.key) : a.p.e ≤ b.p.s := by
  subst e
  rw [List.pairwise_append, List.pairwise_cons] at h
  exact h.2.1.1 b (by simp) hk
theorem ev_two {sz : Int} (hs : 1 ≤ sz) {a b : Grp} (h : a.p.key = b.p.key → a.p.e ≤ b.p.s) (x : Ev) (ha : inB sz a.p x = true) (hb : inB sz b.p x = true) : False := by
  rw [inB_iff] at ha hb
  have := h (ha.1.symm.trans hb.1)
  omega
theorem SesV.step {size : Int} (hs : 1 ≤ size) {gs : List Grp} {done : List Ev} (h : SesV size gs done) (x : Ev) (hsep : (putL true gs ⟨⟨x.key, x.time, x.time + size⟩, [x.val]⟩).Pairwise fun a b => a.p.key = b.p.key → a.p.e ≤ b.p.s) : SesV size (putL true gs ⟨⟨x.key, x.time, x.time + size⟩, [x.val]⟩) (done ++ [x]) := by
  have hcov : ∀ y ∈ done ++ [x], Inn (putL true gs ⟨⟨x.key, x.time, x.time + size⟩, [x.val]⟩) ⟨y.key, y.time, y.time + size⟩ := fun y hy => by
    rcases List.mem_append.1 hy with hy | hy
    · exact inn_putL true gs _ _ (.inl (h.cov y hy))
    · simp at hy; subst hy
      exact inn_putL true gs _ _ (.inr rfl)
  refine ⟨?_, hcov⟩
  have hsnoc : ∀ p : ZP, vIn size (done ++ [x]) p = vIn size done p ++ (if inB size p x = true then [x.val] else []) := fun p => by
    unfold vIn
    rw [List.filter_append, List.map_append]
    congr 1
    by_cases hx : inB size p x = true
    · rw [if_pos hx, List.filter_cons_of_pos hx]; rfl
    · rw [if_neg hx, List.filter_cons_of_neg hx]; rfl
  have hself : inB size ⟨x.key, x.time, x.time + size⟩ x = true := (inB_iff _ _ _).2 ⟨rfl, Int.le_refl _, Int.le_refl _⟩
  have hsh := putL_shape true gs ⟨⟨x.key, x.time, x.time + size⟩, [x.val]⟩
  -- two different ones of the result hold no event both
  have hdis : ∀ {A B : List Grp} {n : Grp}, putL true gs ⟨⟨x.key, x.time, x.time + size⟩, [x.val]⟩ = A ++ n :: B → ∀ z ∈ A ++ B, ∀ y : Ev, inB size n.p y = true → inB size z.p y = true → False := fun {A B n} e z hz y h1 h2 => by
    rw [e, List.pairwise_append, List.pairwise_cons] at hsep
    rcases List.mem_append.1 hz with hz | hz
    · exact ev_two hs (hsep.2.2 z hz n (by simp)) y h2 h1
    · exact ev_two hs (hsep.2.1.1 z hz) y h1 h2
  rcases hsh with ⟨A, B, e1, e2⟩ | ⟨A, n, B, e1, e2, e3⟩
  · intro g hg
    rw [e2] at hg
    rcases List.mem_append.1 hg with hg' | hg'
    · rw [hsnoc, if_neg (fun hx => hdis e2 g (by simp [hg']) x hself hx), List.append_nil]
      exact h.val g (by rw [e1]; simp [hg'])
    · rcases List.mem_cons.1 hg' with rfl | hg'
      · rw [hsnoc, if_pos hself]
        have h0 : vIn size done ⟨x.key, x.time, x.time + size⟩ = [] := by
          unfold vIn
          rw [List.filter_eq_nil_iff.2 (fun y hy hp => ?_)]; rfl
          obtain ⟨z, hz, k1, k2, k3⟩ := h.cov y hy
          exact hdis e2 z (by rw [e1] at hz; exact hz) y hp ((inB_iff _ _ _).2 ⟨k1.symm, k2, k3⟩)
        rw [h0]; rfl
      · rw [hsnoc, if_neg (fun hx => hdis e2 g (by simp [hg']) x hself hx), List.append_nil]
        exact h.val g (by rw [e1]; simp [hg'])
  · intro g hg
    have hxj : inB size (joinG n ⟨⟨x.key, x.time, x.time + size⟩, [x.val]⟩).p x = true := by
      refine (inB_iff _ _ _).2 ⟨e3.symm, ?_, ?_⟩
      · show min n.p.s x.time ≤ x.time; omega
      · show x.time + size ≤ max n.p.e (x.time + size); omega
    rw [e2] at hg
    rcases List.mem_append.1 hg with hg' | hg'
    · rw [hsnoc, if_neg (fun hx => hdis e2 g (by simp [hg']) x hxj hx), List.append_nil]
      exact h.val g (by rw [e1]; simp [hg'])
    · rcases List.mem_cons.1 hg' with rfl | hg'
      · rw [hsnoc, if_pos hxj]
        show n.vs ++ [x.val] = _
        congr 1
        rw [h.val n (by rw [e1]; simp)]
        unfold vIn
        congr 1
        refine List.filter_congr fun y hy => ?_
        rw [Bool.eq_iff_iff]
        constructor
        · intro hq
          obtain ⟨k1, k2, k3⟩ := (inB_iff _ _ _).1 hq
          refine (inB_iff _ _ _).2 ⟨k1, ?_, ?_⟩
          · show min n.p.s x.time ≤ y.time; omega
          · show y.time + size ≤ max n.p.e (x.time + size); omega
        · intro hq
          obtain ⟨z, hz, k1, k2, k3⟩ := h.cov y hy
          have hzy : inB size z.p y = true := (inB_iff _ _ _).2 ⟨k1.symm, k2, k3⟩
          rw [e1] at hz
          rcases List.mem_append.1 hz with hz | hz
          · exact (hdis e2 z (by simp [hz]) y hq hzy).elim
          · rcases List.mem_cons.1 hz with rfl | hz
            · exact hzy
            · exact (hdis e2 z (by simp [hz]) y hq hzy).elim
      · rw [hsnoc, if_neg (fun hx => hdis e2 g (by simp [hg']) x hxj hx), List.append_nil]
        exact h.val g (by rw [e1]; simp [hg'])
theorem sesV_fold {c : Cf} (h : c.Ok) (hk : c.kind = 2) : ∀ (r done : List Ev) (gs : List Grp), SesInv c.size gs done → SesV c.size gs done → (done ++ r).Pairwise LeE → SesV c.size (putA true gs (itsL c r)) (done ++ r)
  | [], done, gs, _, hv, _ => by rw [List.append_nil]; exact hv
  | x :: r, done, gs, hi, hv, ho => by
    have e : itE c x = [⟨⟨x.key, x.time, x.time + c.size⟩, [x.val]⟩] := by unfold itE; rw [wOf_ses h hk]; rfl
    rw [itsL_cons, e, putA_append]
    have ho2 := ho
    rw [List.pairwise_append] at ho2
    have h1 := hi.step h.size1 x (fun e he => ho2.2.2 e he x (by simp))
    have h2 := sesV_fold h hk r (done ++ [x]) _ h1 (hv.step h.size1 x h1.sep) (by rw [List.append_assoc]; exact ho)
    rw [List.append_assoc] at h2
    exact h2
/-- A session's values are those of the events inside of it. -/
theorem ses_vals {c : Cf} (h : c.Ok) (hk : c.kind = 2) (l : List Ev) (g : Grp) (hg : g ∈ grps c l) : g.vs.Perm (vIn c.size l g.p) := by
  have ho : (isort ltE l).Pairwise LeE := (isort_ordered wkE l).imp fun hxy => leE_of _ _ hxy
  have h1 := sesV_fold h hk (isort ltE l) [] [] (SesInv.nil _) ⟨(fun g (hg : g ∈ []) => by cases hg), (fun x (hx : x ∈ []) => by cases hx)⟩ (by rw [List.nil_append]; exact ho)
  rw [List.nil_append] at h1
  unfold grps grpsS at hg
  rw [decide_eq_true hk] at hg
  rw [h1.val g hg]
  exact ((zisort_perm l).filter _).map _
/-- WHAT SESSIONS ARE: put each event's value at a window that is tight, shut, and holds the event: the places and, but for their order, the values are the program's. -/
theorem ses_doc {c : Cf} (h : c.Ok) (hk : c.kind = 2) (l : List Ev) (W : Ev → ZP) (hW : ∀ x ∈ l, Tight c.size l (W x) ∧ Shut c.size l (W x) ∧ (W x).key = x.key ∧ (W x).s ≤ x.time ∧ x.time + c.size ≤ (W x).e) :
    (grps c l).map (·.p) = (addA (l.map fun x => ⟨W x, [x.val]⟩)).map (·.p) ∧ ∀ g ∈ grps c l, ∀ y ∈ addA (l.map fun x => ⟨W x, [x.val]⟩), g.p = y.p → g.vs.Perm y.vs := by
  obtain ⟨a1, a2, a3, a4⟩ := addA_is (l.map fun x => (⟨W x, [x.val]⟩ : Grp))
  have hs1 := h.size1
  have hi := ses_grps h hk l
  refine ⟨srt_places hi.srt a1 (fun g hg => ?_) (fun y hy => ?_), fun g hg y hy e => ?_⟩
  · obtain ⟨x, hx, hxk, hxs⟩ := (ses_st h hk l g hg).1
    obtain ⟨w1, w2, w3, w4, w5⟩ := hW x hx
    obtain ⟨y, hy, ey⟩ := a4 ⟨W x, [x.val]⟩ (List.mem_map.2 ⟨x, hx, rfl⟩)
    have hp := hi.pos g hg
    refine ⟨y, hy, ey.trans ?_⟩
    exact (tight_one (tight_grps h hk l g hg) (shut_grps h hk l g hg) w1 w2 (hxk.symm.trans w3.symm) hp (by omega) (by omega) (by omega)).symm
  · obtain ⟨g, hg, e⟩ := a3 y hy
    obtain ⟨x, hx, rfl⟩ := List.mem_map.1 hg
    obtain ⟨w1, w2, w3, w4, w5⟩ := hW x hx
    obtain ⟨g, hg, e2⟩ := ses_win h hk l x hx (W x) w1 w2 w3 w4 w5
    exact ⟨g, hg, e2.trans e.symm⟩
  · refine (ses_vals h hk l g hg).trans ?_
    rw [← lk_at a1 y hy, a2, ← e]
    have hmem : ∀ x ∈ l, (inB c.size g.p x = true ↔ zCmp g.p (W x) = 0) := fun x hx => by
      obtain ⟨w1, w2, w3, w4, w5⟩ := hW x hx
      rw [z_zero]
      constructor
      · intro hb
        obtain ⟨k1, k2, k3⟩ := (inB_iff _ _ _).1 hb
        exact tight_one (tight_grps h hk l g hg) (shut_grps h hk l g hg) w1 w2 (k1.symm.trans w3.symm) (by omega) (by omega) (by omega) (by omega)
      · intro e2
        rw [e2]; exact (inB_iff _ _ _).2 ⟨w3.symm, w4, w5⟩
    have he : vIn c.size l g.p = lk (l.map fun x => (⟨W x, [x.val]⟩ : Grp)) g.p := by
      clear hW a1 a2 a3 a4 hi hg hy e
      unfold vIn lk
      induction l with
      | nil => rfl
      | cons x r ih =>
        have ih := ih (fun z hz => hmem z (by simp [hz]))
        have hx := hmem x (by simp)
        rw [List.map_cons, List.flatMap_cons, ← ih]
        by_cases hb : inB c.size g.p x = true
        · rw [List.filter_cons_of_pos hb, if_pos (hx.1 hb)]; rfl
        · rw [List.filter_cons_of_neg hb, if_neg (fun hz => hb (hx.2 hz))]; rfl
    rw [he]
end Go.Proofs.Ytbimfopbilcdgaa
