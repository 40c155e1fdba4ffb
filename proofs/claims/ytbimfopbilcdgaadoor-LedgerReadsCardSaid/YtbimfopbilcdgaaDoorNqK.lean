/-
  Layer ledger: View is the document's: plain facts.
-/
import Derived.Test.YtbimfopbilcdgaaDoorNpK
set_option linter.unusedSimpArgs false
set_option linter.unusedVariables false
set_option maxRecDepth 8000
namespace Go.Proofs.YtbimfopbilcdgaaDoor
open Go.RowKit Go.Sort

theorem insR_permP {α : Type} (lt : α → α → Bool) (x : α) (s : List α) : (insR lt x s).Perm (x :: s) := by
  induction s with
  | nil => exact List.Perm.refl _
  | cons e r ih =>
    rw [insR]; split
    · exact (ih.cons e).trans (List.Perm.swap x e r)
    · exact List.Perm.refl _
theorem insB_permP {α : Type} (lt : α → α → Bool) (x : α) (s : List α) : (insB lt x s).Perm (x :: s) := by
  unfold insB
  exact (List.reverse_perm _).trans ((insR_permP lt x _).trans ((List.reverse_perm s).cons x))
theorem sm_permP {α : Type} (lt : α → α → Bool) (t : List α) : ∀ s, (smerge lt s t).Perm (s ++ t) := by
  induction t with
  | nil => intro s; rw [List.append_nil]; exact List.Perm.refl _
  | cons y r ih =>
    intro s
    rw [sm_cons]
    refine (ih _).trans ?_
    refine ((insB_permP lt y s).append_right r).trans ?_
    rw [List.cons_append]
    exact List.perm_middle.symm
theorem sortP_perm (l : List Pw) : (sortP l).Perm l := by
  have h := sm_permP (ltOf pwCmp) l []
  rwa [List.nil_append] at h
theorem lt_plB (x y : Pw) : ltOf pwCmp x y = plB x.p y.p := rfl
theorem plB_total {p q : Pl} (h1 : plB p q = false) (h2 : plB q p = false) : p = q := by
  have a1 := h1; have a2 := h2
  unfold plB plCmp or3 at h1 h2
  simp only [decide_eq_false_iff_not] at h1 h2
  have hk : p.key = q.key := by
    have hn := ek_neg q.key p.key
    apply ek_eq
    by_cases h : cmpK p.key q.key = 0
    · exact h
    · have h' : cmpK q.key p.key ≠ 0 := by omega
      rw [if_pos h] at h1
      rw [if_pos h'] at h2
      omega
  obtain ⟨a, b, c⟩ := p
  obtain ⟨a', b', c'⟩ := q
  simp only at hk
  subst hk
  have hkb := (keyB_iff a a).2 rfl
  by_cases hs : b = b'
  · subst hs
    rw [plB_e ⟨a, b, c⟩ ⟨a, b, c'⟩ hkb rfl] at a1
    rw [plB_e ⟨a, b, c'⟩ ⟨a, b, c⟩ hkb rfl] at a2
    simp only [decide_eq_false_iff_not] at a1 a2
    have : c = c' := by omega
    rw [this]
  · rw [plB_s _ _ hkb hs] at a1
    rw [plB_s _ _ hkb (Ne.symm hs)] at a2
    simp only [decide_eq_false_iff_not] at a1 a2
    exact absurd (by omega) hs
def pw1 (p : Pl) : Pw := ⟨p, t0⟩
theorem plB_trans {p q r : Pl} (h1 : plB p q = true) (h2 : plB q r = true) : plB p r = true := wkP.tr (pw1 p) (pw1 q) (pw1 r) h1 h2
theorem plB_asym {p q : Pl} (h : plB p q = true) : plB q p = false := wkP.asy (pw1 p) (pw1 q) h
theorem plB_irr (p : Pl) : plB p p = false := by
  cases h : plB p p
  · rfl
  · have := plB_asym h; rw [h] at this; cases this
/-- Strictly rising. -/
def Rise (l : List Pw) : Prop := l.Pairwise fun x y => plB x.p y.p = true
theorem rise_eq : ∀ {l m : List Pw}, Rise l → Rise m → (∀ y, y ∈ l ↔ y ∈ m) → l = m
  | [], [], _, _, _ => rfl
  | [], b :: s, _, _, h => by have := (h b).2 (by simp); simp at this
  | a :: r, [], _, _, h => by have := (h a).1 (by simp); simp at this
  | a :: r, b :: s, h1, h2, h => by
    obtain ⟨a1, a2⟩ := List.pairwise_cons.1 h1
    obtain ⟨b1, b2⟩ := List.pairwise_cons.1 h2
    have hab : a = b := by
      rcases List.mem_cons.1 ((h a).1 (by simp)) with e | ha
      · exact e
      · rcases List.mem_cons.1 ((h b).2 (by simp)) with e | hb
        · exact e.symm
        · have := plB_asym (b1 a ha)
          rw [a1 b hb] at this; cases this
    subst hab
    rw [rise_eq a2 b2 (fun p => ⟨fun hp => by
      rcases List.mem_cons.1 ((h p).1 (by simp [hp])) with e | hp'
      · have := a1 p hp
        rw [e, plB_irr] at this
        cases this
      · exact hp', fun hp => by
      rcases List.mem_cons.1 ((h p).2 (by simp [hp])) with e | hp'
      · have := b1 p hp
        rw [e, plB_irr] at this
        cases this
      · exact hp'⟩)]
theorem sortP_rise (vs : List Pw) (h : (vs.map (·.p)).Nodup) : Rise (sortP vs) := by
  have h1 : Ordered (ltOf pwCmp) (sortP vs) := isort_ordered wkP vs
  have h2 : ((sortP vs).map (·.p)).Nodup := ((sortP_perm vs).map _).nodup_iff.2 h
  unfold Ordered at h1
  have h3 : (sortP vs).Pairwise fun x y => x.p ≠ y.p := List.pairwise_map.1 h2
  refine (h1.and h3).imp ?_
  rintro a b ⟨h4, h5⟩
  rw [lt_plB] at h4
  cases h6 : plB a.p b.p
  · exact absurd (plB_total h6 h4) h5
  · rfl
/-- The others. -/
noncomputable def oth (c : Chg) (os : List Pw) : List Pw := os.filter fun y => !decide (y.p = c.p)
theorem oth_cons (c : Chg) (y : Pw) (r : List Pw) : oth c (y :: r) = if y.p = c.p then oth c r else y :: oth c r := by
  unfold oth
  rw [List.filter_cons]
  by_cases h : y.p = c.p <;> simp [h]
theorem fold_done (c : Chg) (os : List Pw) : ∀ nx, os.foldl (rvS c) (nx, true) = (nx ++ oth c os, true) := by
  induction os with
  | nil => intro nx; simp [oth]
  | cons y r ih =>
    intro nx
    rw [List.foldl_cons, oth_cons]
    by_cases h : y.p = c.p
    · have e : rvS c (nx, true) y = (nx, true) := by unfold rvS; rw [if_pos h]
      rw [if_pos h, e]; exact ih nx
    · have e : rvS c (nx, true) y = (nx ++ [y], true) := by unfold rvS; rw [if_neg h, if_neg (by simp)]
      rw [if_neg h, e, ih, List.append_assoc]; rfl
theorem fold_more (c : Chg) (os : List Pw) : ∀ nx, (∃ A B b r, oth c os = A ++ B ∧ B = b :: r ∧ plB c.p b.p = true ∧ (∀ a ∈ A, plB c.p a.p = false) ∧ os.foldl (rvS c) (nx, false) = (nx ++ (A ++ c.pw :: B), true)) ∨ ((∀ a ∈ oth c os, plB c.p a.p = false) ∧ os.foldl (rvS c) (nx, false) = (nx ++ oth c os, false)) := by
  induction os with
  | nil => intro nx; right; simp [oth]
  | cons y r ih =>
    intro nx
    rw [List.foldl_cons, oth_cons]
    by_cases h : y.p = c.p
    · have e : rvS c (nx, false) y = (nx, false) := by unfold rvS; rw [if_pos h]
      rw [if_pos h, e]; exact ih nx
    · rw [if_neg h]
      cases hb : plB c.p y.p
      · have e : rvS c (nx, false) y = (nx ++ [y], false) := by unfold rvS; rw [if_neg h, if_neg (by rw [hb]; simp)]
        rw [e]
        rcases ih (nx ++ [y]) with ⟨A, B, b, s, h1, h2, h3, h4, h5⟩ | ⟨h1, h2⟩
        · left
          refine ⟨y :: A, B, b, s, by rw [h1]; rfl, h2, h3, fun a ha => ?_, by rw [h5]; simp⟩
          rcases List.mem_cons.1 ha with rfl | ha
          · exact hb
          · exact h4 a ha
        · right
          refine ⟨fun a ha => ?_, by rw [h2]; simp⟩
          rcases List.mem_cons.1 ha with rfl | ha
          · exact hb
          · exact h1 a ha
      · left
        have e : rvS c (nx, false) y = ((nx ++ [c.pw]) ++ [y], true) := by unfold rvS; rw [if_neg h, if_pos (by rw [hb]; rfl)]
        rw [e, fold_done]
        exact ⟨[], y :: oth c r, y, oth c r, rfl, rfl, hb, fun a ha => (by cases ha), by simp⟩
theorem insP_not (c : Chg) (os : List Pw) (h : c.put = false) : insP c os = oth c os := by
  have e := fold_done c os []
  unfold insP
  rw [h]
  simp only [Bool.not_false, e]
  simp
theorem insP_put (c : Chg) (os : List Pw) (h : c.put = true) : ∃ A B, oth c os = A ++ B ∧ insP c os = A ++ c.pw :: B ∧ (∀ a ∈ A, plB c.p a.p = false) ∧ (∀ b r, B = b :: r → plB c.p b.p = true) := by
  have e : insP c os = if (os.foldl (rvS c) ([], false)).2 = true then (os.foldl (rvS c) ([], false)).1 else (os.foldl (rvS c) ([], false)).1 ++ [c.pw] := by unfold insP; rw [h]; rfl
  rw [e]
  rcases fold_more c os [] with ⟨A, B, b, r, h1, h2, h3, h4, h5⟩ | ⟨h1, h2⟩
  · refine ⟨A, B, h1, by rw [h5]; simp, h4, fun b' r' e' => ?_⟩
    rw [h2] at e'; injection e' with e1 e2; rw [← e1]; exact h3
  · exact ⟨oth c os, [], by simp, by rw [h2]; simp, h1, fun b r e => (by cases e)⟩
theorem oth_mem (c : Chg) (os : List Pw) (y : Pw) : y ∈ oth c os ↔ y ∈ os ∧ y.p ≠ c.p := by unfold oth; rw [List.mem_filter]; simp
theorem insP_mem (c : Chg) (os : List Pw) (y : Pw) : y ∈ insP c os ↔ (c.put = true ∧ y = c.pw) ∨ (y ∈ os ∧ y.p ≠ c.p) := by
  cases h : c.put
  · rw [insP_not c os h, oth_mem]; simp
  · obtain ⟨A, B, h1, h2, -, -⟩ := insP_put c os h
    rw [h2, ← oth_mem, h1, List.mem_append, List.mem_cons, List.mem_append]
    constructor
    · rintro (h | h | h)
      · exact .inr (.inl h)
      · exact .inl ⟨rfl, h⟩
      · exact .inr (.inr h)
    · rintro (⟨-, h⟩ | h | h)
      · exact .inr (.inl h)
      · exact .inl h
      · exact .inr (.inr h)
theorem insP_rise (c : Chg) (os : List Pw) (hr : Rise os) : Rise (insP c os) := by
  have ho : Rise (oth c os) := List.Pairwise.filter _ hr
  cases h : c.put
  · rw [insP_not c os h]; exact ho
  · obtain ⟨A, B, h1, h2, h3, h4⟩ := insP_put c os h
    rw [h2]
    rw [h1] at ho
    unfold Rise at ho ⊢
    rw [List.pairwise_append] at ho ⊢
    obtain ⟨o1, o2, o3⟩ := ho
    have hB : ∀ b ∈ B, plB c.p b.p = true := by
      rcases B with _ | ⟨b, r⟩
      · intro b hb; cases hb
      · intro b' hb'
        have hb := h4 b r rfl
        rcases List.mem_cons.1 hb' with rfl | hb'
        · exact hb
        · exact plB_trans hb ((List.pairwise_cons.1 o2).1 b' hb')
    refine ⟨o1, List.pairwise_cons.2 ⟨hB, o2⟩, fun a ha b hb => ?_⟩
    rcases List.mem_cons.1 hb with rfl | hb
    · have hne : a.p ≠ c.p := ((oth_mem c os a).1 (by rw [h1]; simp [ha])).2
      cases h6 : plB a.p c.p
      · exact absurd (plB_total h6 (h3 a ha)) hne
      · exact h6
    · exact o3 a ha b hb
theorem rvL_rise (l : List Chg) : Rise (rvL l) := by
  refine snoc_ind (P := fun l => Rise (rvL l)) List.Pairwise.nil (fun l c ih => ?_) l
  rw [rvL_snoc]; exact insP_rise c _ ih
theorem rvL_mem (l : List Chg) : ∀ y : Pw, y ∈ rvL l ↔ ∃ x, lastF l y.p = some x ∧ x.th = true ∧ x.t = y.t := by
  refine snoc_ind (P := fun l => ∀ y : Pw, y ∈ rvL l ↔ ∃ x, lastF l y.p = some x ∧ x.th = true ∧ x.t = y.t) (fun y => ?_) (fun l c ih y => ?_) l
  · constructor
    · intro h; cases h
    · rintro ⟨x, hx, -⟩; cases hx
  · rw [rvL_snoc, insP_mem, lastF_snoc, ih y]
    unfold upd
    by_cases h : y.p = c.p
    · rw [if_pos h]
      constructor
      · rintro (⟨h1, rfl⟩ | ⟨-, h1⟩)
        · exact ⟨stepA c, rfl, by unfold stepA; rw [h1]; rfl, by unfold stepA; rw [h1]; rfl⟩
        · exact absurd h h1
      · rintro ⟨x, hx, hth, ht⟩
        injection hx with hx
        subst hx
        left
        cases hp : c.put
        · unfold stepA at hth; rw [hp] at hth; cases hth
        · refine ⟨rfl, ?_⟩
          unfold stepA at ht; rw [hp] at ht
          obtain ⟨yp, yt⟩ := y
          simp only at h
          have ht : c.t = yt := ht
          unfold Chg.pw
          rw [← h, ht]
    · rw [if_neg h]
      constructor
      · rintro (⟨-, rfl⟩ | ⟨h1, -⟩)
        · exact absurd rfl h
        · exact h1
      · intro h1; exact .inr ⟨h1, h⟩
theorem last_place (l : List Chg) (p : Pl) (x : Pn) (h : lastF l p = some x) : ∃ c ∈ l, c.p = p := by
  revert h
  refine snoc_ind (P := fun l => lastF l p = some x → ∃ c ∈ l, c.p = p) (fun h => by cases h) (fun l c ih h => ?_) l
  rw [lastF_snoc] at h
  unfold upd at h
  split at h
  · rename_i e; exact ⟨c, by simp, e.symm⟩
  · obtain ⟨d, hd, e⟩ := ih h
    exact ⟨d, by simp [hd], e⟩
theorem view_eq (l : List Chg) (hok : ∀ c ∈ l, c.Ok) (vs : List Pw) (hm : ∀ y : Pw, y ∈ vs ↔ y.p.Ok ∧ ∃ x, lastF l y.p = some x ∧ x.th = true ∧ x.t = y.t) (hn : (vs.map (·.p)).Nodup) : sortP vs = rvL l := by
  refine rise_eq (sortP_rise vs hn) (rvL_rise l) fun y => ?_
  rw [(sortP_perm vs).mem_iff, hm y, rvL_mem]
  constructor
  · exact fun h => h.2
  · rintro ⟨x, hx, h⟩
    obtain ⟨c, hc, e⟩ := last_place l y.p x hx
    exact ⟨e ▸ (hok c hc).p, x, hx, h⟩
end Go.Proofs.YtbimfopbilcdgaaDoor

set_option linter.unusedSimpArgs false
set_option linter.unusedVariables false
set_option maxRecDepth 8000
namespace Go.Proofs.YtbimfopbilcdgaaDoor
open Go.RowKit Go.Sort

/-- A change as it is drawn. -/
structure Acx where
  put : Bool
  key : Nat
  w : Nat
  near : Nat
  t : Tel
structure Acx.Ok (a : Acx) : Prop where
  key : a.key < 256
  w : a.w < 256
  near : a.near < 256
  t : a.t.Ok
def keyA (k : Nat) : ByteArray := if k % 2 = 0 then { data := #[97] } else { data := #[98] }
def actP (a : Acx) : Pl := ⟨keyA a.key, ((a.w % 3 : Nat) : Int), ((a.w % 3 : Nat) : Int) + 5⟩
theorem keyA_small (k : Nat) : (keyA k).size ≤ 1000 := by unfold keyA; split <;> decide
theorem tmodU (k m : Nat) : ((k : Int)).tmod (m : Int) = ((k % m : Nat) : Int) := by
  rw [Int.tmod_eq_emod_of_nonneg (by omega)]; rfl
theorem convU (k : Nat) (hk : k < 3) (w : World) : (convert 5 2 (.int .u8 (k : Int))).run Tryd.prog w = .ok (.int .i64 (k : Int)) w := by
  go_simp
  rw [IntKind.wrap_i64]; omega
theorem u64w (x : Int) : ∃ n : Nat, n < 18446744073709551616 ∧ IntKind.u64.wrap x = (n : Int) := by
  refine ⟨(x % 18446744073709551616).toNat, by omega, ?_⟩
  simp [IntKind.wrap, IntKind.bits, IntKind.signed]
  omega
theorem belowSetRow {B : Nat} {a w : World} (h : Below B a w) {g : Nat} (hg : B ≤ g) (cs : Array Value) : Below B a (w.setRow g cs) :=
  h.trans ⟨rfl, rfl, rfl, by simp, fun k hk => setRow_other w g k cs (by omega)⟩
theorem rangeSet {w : World} {g o : Nat} {cs : List Value} (h : w.rangeAt g o cs) (p : Addr) (v : Value) (hne : ¬ g = p.block) : (w.setCell p v).rangeAt g o cs := fun j u hu => by
  rw [World.cell?_of_block (Below.heap_setCell w p v g hne)]; exact h j u hu
end Go.Proofs.YtbimfopbilcdgaaDoor
