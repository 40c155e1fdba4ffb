/-
  Layer whole: the groups of events of several keys are those of each key's events: plain facts.
-/
import Derived.Test.YtckfndnaaljmhaaZwpR
set_option linter.unusedSimpArgs false
set_option linter.unusedVariables false
set_option maxRecDepth 8000
namespace Go.Proofs.Ytckfndnaaljmhaa
open Go.RowKit Go.Sort Sm

/-- What stands ahead of all that is put stays as it is. -/
theorem putF_front (G H : List Grp) (g : Grp) (h : ∀ x ∈ G, ZL x.p g.p) : putF (G ++ H) g = G ++ putF H g := by
  induction G with
  | nil => rfl
  | cons a t ih =>
    have h1 := (z_pos g.p a.p).2 (h a (by simp))
    rw [List.cons_append, putF, if_pos h1, ih (fun x hx => h x (by simp [hx])), List.cons_append]
theorem lastB_front (ses : Bool) (G H : List Grp) (p : ZP) (h : ∀ x ∈ G, x.p.key ≠ p.key) : lastB ses (G ++ H) p = lastB ses H p := by
  rcases snoc_cases H with rfl | ⟨r, y, rfl⟩
  · rw [List.append_nil]
    rcases snoc_cases G with rfl | ⟨r, y, rfl⟩
    · rfl
    · rw [lastB_snoc, keyZ_no (h y (by simp))]
      simp [lastB_nil]
  · rw [← List.append_assoc, lastB_snoc, lastB_snoc]
theorem putL_front (ses : Bool) (G H : List Grp) (g : Grp) (h : ∀ x ∈ G, cmpK x.p.key g.p.key < 0) : putL ses (G ++ H) g = G ++ putL ses H g := by
  have hk : ∀ x ∈ G, x.p.key ≠ g.p.key := fun x hx e => by have := h x hx; rw [e, ek_self] at this; omega
  have hz : ∀ x ∈ G, ZL x.p g.p := fun x hx => .inl (h x hx)
  have hl := lastB_front ses G H g.p hk
  rcases hb : lastB ses H g.p with _ | _
  · rw [putL_F _ _ _ hb, putL_F _ _ _ (hl.trans hb), putF_front G H g hz]
  · rcases snoc_cases H with rfl | ⟨r, y, rfl⟩
    · cases hb
    · rw [putL_last _ _ _ _ hb, ← List.append_assoc, putL_last ses (G ++ r) y g (by rw [List.append_assoc]; exact hl.trans hb), List.append_assoc]
theorem putA_front (ses : Bool) (G : List Grp) : ∀ (its H : List Grp), (∀ x ∈ G, ∀ g ∈ its, cmpK x.p.key g.p.key < 0) → putA ses (G ++ H) its = G ++ putA ses H its
  | [], H, _ => rfl
  | g :: r, H, h => by
    rw [putA_cons, putA_cons, putL_front ses G H g (fun x hx => h x hx g (by simp)), putA_front ses G r _ (fun x hx y hy => h x hx y (by simp [hy]))]
theorem putF_key (gs : List Grp) (g : Grp) (P : ByteArray → Prop) (h : ∀ x ∈ gs, P x.p.key) (hg : P g.p.key) : ∀ x ∈ putF gs g, P x.p.key := fun x hx => by
  rcases putF_mem gs g x hx with e | ⟨y, hy, e⟩
  · rw [e]; exact hg
  · rw [e]; exact h y hy
theorem putL_key (ses : Bool) (gs : List Grp) (g : Grp) (P : ByteArray → Prop) (h : ∀ x ∈ gs, P x.p.key) (hg : P g.p.key) : ∀ x ∈ putL ses gs g, P x.p.key := by
  rcases hb : lastB ses gs g.p with _ | _
  · rw [putL_F _ _ _ hb]; exact putF_key gs g P h hg
  · rcases snoc_cases gs with rfl | ⟨r, y, rfl⟩
    · cases hb
    · rw [putL_last _ _ _ _ hb]
      intro x hx
      rcases List.mem_append.1 hx with hx | hx
      · exact h x (by simp [hx])
      · simp at hx; subst hx; exact h y (by simp)
theorem putA_key (ses : Bool) (P : ByteArray → Prop) : ∀ (its gs : List Grp), (∀ x ∈ gs, P x.p.key) → (∀ g ∈ its, P g.p.key) → ∀ x ∈ putA ses gs its, P x.p.key
  | [], gs, h, _ => h
  | g :: r, gs, h, hi => by
    rw [putA_cons]
    exact putA_key ses P r _ (putL_key ses gs g P h (hi g (by simp))) (fun x hx => hi x (by simp [hx]))
theorem its_key (c : Cf) (l : List Ev) (P : ByteArray → Prop) (h : ∀ e ∈ l, P e.key) : ∀ g ∈ itsL c l, P g.p.key := fun g hg => by
  obtain ⟨x, hx, hg⟩ := List.mem_flatMap.1 hg
  unfold itE at hg
  obtain ⟨w, -, rfl⟩ := List.mem_map.1 hg
  exact h x hx
/-- The groups of events of which some have keys ahead of all the others'. -/
theorem grpsS_append (c : Cf) (A B : List Ev) (h : ∀ x ∈ A, ∀ y ∈ B, cmpK x.key y.key < 0) : grpsS c (A ++ B) = grpsS c A ++ grpsS c B := by
  unfold grpsS
  rw [itsL_append, putA_append]
  have h2 := putA_front (decide (c.kind = 2)) (putA (decide (c.kind = 2)) [] (itsL c A)) (itsL c B) [] (fun x hx g hg => by
    have h3 := putA_key (decide (c.kind = 2)) (fun k => ∀ y ∈ B, cmpK k y.key < 0) (itsL c A) [] (fun x hx => by cases hx) (its_key c A (fun k => ∀ y ∈ B, cmpK k y.key < 0) (fun e he y hy => h e he y hy)) x hx
    exact its_key c B (fun k => cmpK x.p.key k < 0) (fun e he => h3 e he) g hg)
  rw [List.append_nil] at h2
  exact h2
/-- A row in which what has a property stands ahead. -/
theorem filter_split {α : Type} (p : α → Bool) : ∀ (l : List α), l.Pairwise (fun x y => p y = true → p x = true) → l = l.filter p ++ l.filter (fun x => !p x)
  | [], _ => rfl
  | x :: r, h => by
    rw [List.pairwise_cons] at h
    have ih := filter_split p r h.2
    rcases hx : p x with _ | _
    · have hn : r.filter p = [] := List.filter_eq_nil_iff.2 fun y hy hp => by have := h.1 y hy hp; rw [hx] at this; cases this
      rw [List.filter_cons_of_neg (by simp [hx]), List.filter_cons_of_pos (by simp [hx]), hn, List.nil_append]
      rw [hn, List.nil_append] at ih
      rw [← ih]
    · rw [List.filter_cons_of_pos hx, List.filter_cons_of_neg (by simp [hx]), List.cons_append, ← ih]
def kq (k : ByteArray) (e : Ev) : Bool := keyZ e.key k
theorem isort_filter {l : List Ev} (h : AntiE l) (p : Ev → Bool) : isort ltE (l.filter p) = (isort ltE l).filter p := by
  refine ord_unique (isort_ordered wkE _) ((isort_ordered wkE l).filter p) ((zisort_perm _).trans ((zisort_perm l).filter p).symm) (fun x hx y hy => ?_)
  have hx := (zisort_perm _).mem_iff.1 hx
  have hy := (zisort_perm _).mem_iff.1 hy
  exact h x (List.mem_filter.1 hx).1 y (List.mem_filter.1 hy).1
theorem kl_trans {a b c : ByteArray} (h1 : cmpK a b < 0) (h2 : cmpK b c < 0) : cmpK a c < 0 := kb_trans _ _ _ h1 h2
/-- Parted at one key, all others being behind it. -/
theorem grpsS_key (c : Cf) (s : List Ev) (k : ByteArray) (ho : s.Pairwise LeE) (hk : ∀ x ∈ s, x.key = k ∨ cmpK k x.key < 0) : grpsS c s = grpsS c (s.filter (kq k)) ++ grpsS c (s.filter (fun x => !kq k x)) := by
  have e := filter_split (kq k) s (ho.imp_of_mem fun {x y} hx hy hxy hp => by
    unfold kq at hp ⊢
    rw [keyZ_iff] at hp ⊢
    rcases hk x hx with h | h
    · exact h
    · rcases hxy with h2 | h2
      · rw [hp] at h2; have := kl_trans h h2; rw [ek_self] at this; omega
      · exact h2.1.trans hp)
  have h2 := grpsS_append c (s.filter (kq k)) (s.filter (fun x => !kq k x)) (fun x hx y hy => by
    have h3 := (List.mem_filter.1 hx).2
    have h4 := (List.mem_filter.1 hy)
    unfold kq at h3 h4
    rw [keyZ_iff] at h3
    rcases hk y h4.1 with h5 | h5
    · have h6 := h4.2; rw [(keyZ_iff y.key k).2 h5] at h6; cases h6
    · rw [h3]; exact h5)
  rw [← e] at h2
  exact h2
/-- The law's keys, rising. -/
def keyR : Nat → ByteArray
  | 0 => { data := #[] }
  | 1 => { data := #[97] }
  | 2 => { data := #[97, 32, 98] }
  | _ => { data := #[98] }
theorem keyR_lt : cmpK (keyR 0) (keyR 1) < 0 ∧ cmpK (keyR 1) (keyR 2) < 0 ∧ cmpK (keyR 2) (keyR 3) < 0 := by decide +kernel
/-- Each event has one of the law's keys. -/
def Keyd (l : List Ev) : Prop := ∀ e ∈ l, e.key = keyR 0 ∨ e.key = keyR 1 ∨ e.key = keyR 2 ∨ e.key = keyR 3
theorem keyd_log (c : Cf) (ps : List Pt) (k : Nat) : Keyd (lgL c ps k) := fun e he => by
  unfold lgL at he
  obtain ⟨i, -, rfl⟩ := List.mem_map.1 he
  unfold evPt
  simp only
  have h : (ps[i]!).key % 4 < 4 := Nat.mod_lt _ (by decide)
  rcases hq : (ps[i]!).key % 4 with _ | _ | _ | _ | q
  · exact .inr (.inl rfl)
  · exact .inr (.inr (.inr rfl))
  · exact .inl rfl
  · exact .inr (.inr (.inl rfl))
  · omega
theorem grps_apart (c : Cf) {l : List Ev} (ha : AntiE l) (hk : Keyd l) : grps c l = grps c (l.filter (kq (keyR 0))) ++ (grps c (l.filter (kq (keyR 1))) ++ (grps c (l.filter (kq (keyR 2))) ++ grps c (l.filter (kq (keyR 3))))) := by
  obtain ⟨k1, k2, k3⟩ := keyR_lt
  have k02 := kl_trans k1 k2
  have k03 := kl_trans k02 k3
  have k13 := kl_trans k2 k3
  unfold grps
  rw [isort_filter ha, isort_filter ha, isort_filter ha, isort_filter ha]
  have ho : (isort ltE l).Pairwise LeE := (isort_ordered wkE l).imp fun hxy => leE_of _ _ hxy
  have hs : Keyd (isort ltE l) := fun e he => hk e ((zisort_perm l).mem_iff.1 he)
  generalize isort ltE l = s at *
  have hne : ∀ {a b : ByteArray}, cmpK a b < 0 → keyZ b a = false := fun {a b} h => keyZ_no (fun e => by rw [e, ek_self] at h; omega)
  rw [grpsS_key c s (keyR 0) ho (fun x hx => by rcases hs x hx with h | h | h | h <;> rw [h] <;> first | exact .inl rfl | exact .inr k1 | exact .inr k02 | exact .inr k03)]
  congr 1
  have ho1 := ho.filter (fun x => !kq (keyR 0) x)
  have hs1 : ∀ x ∈ s.filter (fun x => !kq (keyR 0) x), x.key = keyR 1 ∨ x.key = keyR 2 ∨ x.key = keyR 3 := fun x hx => by
    obtain ⟨h1, h2⟩ := List.mem_filter.1 hx
    rcases hs x h1 with h | h
    · unfold kq at h2; rw [(keyZ_iff _ _).2 h] at h2; cases h2
    · exact h
  rw [grpsS_key c _ (keyR 1) ho1 (fun x hx => by rcases hs1 x hx with h | h | h <;> rw [h] <;> first | exact .inl rfl | exact .inr k2 | exact .inr k13)]
  have hs2 : ∀ x ∈ (s.filter (fun x => !kq (keyR 0) x)).filter (fun x => !kq (keyR 1) x), x.key = keyR 2 ∨ x.key = keyR 3 := fun x hx => by
    obtain ⟨h1, h2⟩ := List.mem_filter.1 hx
    rcases hs1 x h1 with h | h
    · unfold kq at h2; rw [(keyZ_iff _ _).2 h] at h2; cases h2
    · exact h
  rw [grpsS_key c ((s.filter (fun x => !kq (keyR 0) x)).filter (fun x => !kq (keyR 1) x)) (keyR 2) (ho1.filter _) (fun x hx => by rcases hs2 x hx with h | h <;> rw [h] <;> first | exact .inl rfl | exact .inr k3)]
  have e1 : (s.filter (fun x => !kq (keyR 0) x)).filter (kq (keyR 1)) = s.filter (kq (keyR 1)) := by
    rw [List.filter_filter]
    refine List.filter_congr fun x hx => ?_
    unfold kq
    rcases hq : keyZ x.key (keyR 1) with _ | _
    · rfl
    · rw [(keyZ_iff _ _).1 hq, hne k1]; rfl
  have e2 : ((s.filter (fun x => !kq (keyR 0) x)).filter (fun x => !kq (keyR 1) x)).filter (kq (keyR 2)) = s.filter (kq (keyR 2)) := by
    rw [List.filter_filter, List.filter_filter]
    refine List.filter_congr fun x hx => ?_
    unfold kq
    rcases hq : keyZ x.key (keyR 2) with _ | _
    · rfl
    · rw [(keyZ_iff _ _).1 hq, hne k2, hne k02]; rfl
  have e3 : ((s.filter (fun x => !kq (keyR 0) x)).filter (fun x => !kq (keyR 1) x)).filter (fun x => !kq (keyR 2) x) = s.filter (kq (keyR 3)) := by
    rw [List.filter_filter, List.filter_filter]
    refine List.filter_congr fun x hx => ?_
    unfold kq
    rcases hs x hx with h | h | h | h
    · have h1 := hne k03; have h2 : keyZ (keyR 0) (keyR 3) = false := keyZ_no (fun e => by rw [← e, ek_self] at k03; omega)
      rw [h, h2, (keyZ_iff _ _).2 rfl]; simp
    · have h2 : keyZ (keyR 1) (keyR 3) = false := keyZ_no (fun e => by rw [← e, ek_self] at k13; omega)
      rw [h, h2, (keyZ_iff (keyR 1) (keyR 1)).2 rfl]; simp
    · have h2 : keyZ (keyR 2) (keyR 3) = false := keyZ_no (fun e => by rw [← e, ek_self] at k3; omega)
      rw [h, h2, (keyZ_iff (keyR 2) (keyR 2)).2 rfl]; simp
    · rw [h, hne k3, hne k13, hne k03, (keyZ_iff _ _).2 rfl]; rfl
  rw [e1, e2, e3]
end Go.Proofs.Ytckfndnaaljmhaa
