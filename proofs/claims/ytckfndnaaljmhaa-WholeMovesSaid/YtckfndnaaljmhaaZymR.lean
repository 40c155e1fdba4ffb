/-
  Layer whole: events moved in time: their panes move as far. Plain facts.
-/
import Derived.Test.YtckfndnaaljmhaaZwpR
set_option linter.unusedSimpArgs false
set_option linter.unusedVariables false
set_option maxRecDepth 8000
namespace Go.Proofs.Ytckfndnaaljmhaa
open Go.RowKit Go.Sort Sm

def shE (d : Int) (e : Ev) : Ev := { e with time := e.time + d }
def shP (d : Int) (p : ZP) : ZP := ⟨p.key, p.s + d, p.e + d⟩
def shG (d : Int) (g : Grp) : Grp := ⟨shP d g.p, g.vs⟩
def shW (d : Int) (w : Wd) : Wd := ⟨w.s + d, w.e + d⟩
def shZ (d : Int) (y : Pz) : Pz := ⟨shP d y.p, y.t⟩
theorem cmpI_sh (a b d : Int) : cmpI (a + d) (b + d) = cmpI a b := by
  unfold cmpI
  by_cases h1 : a < b
  · rw [if_pos h1, if_pos (by omega)]
  · by_cases h2 : b < a
    · rw [if_neg h1, if_pos h2, if_neg (by omega), if_pos (by omega)]
    · rw [if_neg h1, if_neg h2, if_neg (by omega), if_neg (by omega)]
theorem z_sh (d : Int) (x y : ZP) : zCmp (shP d x) (shP d y) = zCmp x y := by
  unfold zCmp shP
  simp only [cmpI_sh]
theorem joinP_sh (d : Int) (a b : ZP) : joinP (shP d a) (shP d b) = shP d (joinP a b) := by
  unfold joinP shP
  have h1 : min (a.s + d) (b.s + d) = min a.s b.s + d := by omega
  have h2 : max (a.e + d) (b.e + d) = max a.e b.e + d := by omega
  simp only [h1, h2]
theorem joinG_sh (d : Int) (a b : Grp) : joinG (shG d a) (shG d b) = shG d (joinG a b) := by
  unfold joinG shG
  simp only [joinP_sh]
theorem meetP_sh (d : Int) (a b : ZP) : meetP (shP d a) (shP d b) = meetP a b := by
  unfold meetP shP
  have h1 : decide (a.s + d < b.e + d) = decide (a.s < b.e) := decide_eq_decide.2 (by omega)
  have h2 : decide (b.s + d < a.e + d) = decide (b.s < a.e) := decide_eq_decide.2 (by omega)
  simp only [h1, h2]
theorem fdI_sh (d : Int) (p : ZP) : ∀ gs : List Grp, fdI (shP d p) (gs.map (shG d)) = fdI p gs
  | [] => rfl
  | h :: t => by
    rw [List.map_cons, fdI_cons, fdI_cons, fdI_sh d p t]
    show (if 0 < zCmp (shP d p) (shP d h.p) then _ else _) = _
    rw [z_sh]
theorem fdB_sh (d : Int) (p : ZP) (gs : List Grp) : fdB (shP d p) (gs.map (shG d)) = fdB p gs := by
  unfold fdB
  rw [fdI_sh, List.getElem?_map]
  cases gs[fdI p gs]? with
  | none => rfl
  | some g =>
    show decide (zCmp (shP d p) (shP d g.p) = 0) = _
    rw [z_sh]
theorem lastB_sh (d : Int) (ses : Bool) (gs : List Grp) (p : ZP) : lastB ses (gs.map (shG d)) (shP d p) = lastB ses gs p := by
  rcases snoc_cases gs with rfl | ⟨r, y, rfl⟩
  · rfl
  · rw [List.map_append, List.map_cons, List.map_nil, lastB_snoc, lastB_snoc]
    show (ses && keyZ y.p.key p.key && meetP (shP d y.p) (shP d p)) = _
    rw [meetP_sh]
theorem modify_sh (d : Int) (g : Grp) : ∀ (gs : List Grp) (k : Nat), (gs.map (shG d)).modify k (fun h => joinG h (shG d g)) = (gs.modify k (fun h => joinG h g)).map (shG d)
  | [], k => by simp
  | a :: t, 0 => by
    show List.modify (shG d a :: t.map (shG d)) 0 _ = _
    rw [List.modify_zero_cons, List.modify_zero_cons, List.map_cons, joinG_sh]
  | a :: t, k + 1 => by
    show List.modify (shG d a :: t.map (shG d)) (k + 1) _ = _
    rw [List.modify_succ_cons, List.modify_succ_cons, List.map_cons, modify_sh d g t k]
theorem putL_sh (d : Int) (ses : Bool) (gs : List Grp) (g : Grp) : putL ses (gs.map (shG d)) (shG d g) = (putL ses gs g).map (shG d) := by
  unfold putL plcB plcI
  show (if (if lastB ses (gs.map (shG d)) (shP d g.p) = true then true else fdB (shP d g.p) (gs.map (shG d))) = true then (gs.map (shG d)).modify (if lastB ses (gs.map (shG d)) (shP d g.p) = true then (gs.map (shG d)).length - 1 else fdI (shP d g.p) (gs.map (shG d))) _ else (gs.map (shG d)).take (if lastB ses (gs.map (shG d)) (shP d g.p) = true then (gs.map (shG d)).length - 1 else fdI (shP d g.p) (gs.map (shG d))) ++ shG d g :: (gs.map (shG d)).drop (if lastB ses (gs.map (shG d)) (shP d g.p) = true then (gs.map (shG d)).length - 1 else fdI (shP d g.p) (gs.map (shG d)))) = _
  rw [lastB_sh, fdB_sh, fdI_sh, List.length_map]
  obtain ⟨K, hK⟩ : ∃ K, K = if lastB ses gs g.p = true then gs.length - 1 else fdI g.p gs := ⟨_, rfl⟩
  obtain ⟨B, hB⟩ : ∃ B, B = if lastB ses gs g.p = true then true else fdB g.p gs := ⟨_, rfl⟩
  rw [← hK, ← hB]
  cases B
  · rw [if_neg (by simp), if_neg (by simp), List.map_append, List.map_cons, List.map_take, List.map_drop]
  · rw [if_pos rfl, if_pos rfl]; exact modify_sh d g gs _
theorem putA_sh (d : Int) (ses : Bool) : ∀ (its gs : List Grp), putA ses (gs.map (shG d)) (its.map (shG d)) = (putA ses gs its).map (shG d)
  | [], gs => rfl
  | g :: r, gs => by rw [List.map_cons, putA_cons, putA_cons, putL_sh, putA_sh d ses r]
/-- By how much events may be moved. -/
def Mov (c : Cf) (d : Int) : Prop := c.kind = 2 ∨ ∃ q, d = q * c.st
theorem a_sh {c : Cf} {d : Int} (h : Mov c d) (t : Int) : c.a (t + d) = c.a t + d := by
  unfold Cf.a
  rcases h with h | ⟨q, rfl⟩
  · rw [if_pos h, if_pos h]
  · by_cases hk : c.kind = 2
    · rw [if_pos hk, if_pos hk]
    · rw [if_neg hk, if_neg hk, Int.add_mul_emod_self_right]; omega
theorem n_sh {c : Cf} {d : Int} (h : Mov c d) (t : Int) : c.n (t + d) = c.n t := by
  unfold Cf.n
  rw [a_sh h, show t + d - (c.a t + d) = t - c.a t by omega]
theorem wOf_sh {c : Cf} {d : Int} (h : Mov c d) (t : Int) : wOf c (t + d) = (wOf c t).map (shW d) := by
  unfold wOf fwd
  rw [n_sh h, List.map_reverse, List.map_map]
  congr 1
  refine List.map_congr_left fun i _ => ?_
  show c.w (t + d) i = shW d (c.w t i)
  unfold Cf.w shW
  rw [a_sh h]
  show Wd.mk _ _ = Wd.mk (c.a t - i * c.st + d) (c.a t - i * c.st + c.size + d)
  congr 1 <;> omega
theorem itE_sh {c : Cf} {d : Int} (h : Mov c d) (x : Ev) : itE c (shE d x) = (itE c x).map (shG d) := by
  unfold itE
  show (wOf c (x.time + d)).map _ = _
  rw [wOf_sh h, List.map_map, List.map_map]
  rfl
theorem itsL_sh {c : Cf} {d : Int} (h : Mov c d) (l : List Ev) : itsL c (l.map (shE d)) = (itsL c l).map (shG d) := by
  induction l with
  | nil => rfl
  | cons x r ih => rw [List.map_cons, itsL_cons, itsL_cons, itE_sh h, ih, List.map_append]
theorem lt_sh (d : Int) (x y : Ev) : ltOf evCmp (shE d x) (shE d y) = ltOf evCmp x y := by
  show decide (evCmp (shE d x) (shE d y) < 0) = decide (evCmp x y < 0)
  unfold evCmp shE
  simp only [cmpI_sh]
theorem isort_sh {l : List Ev} (h : AntiE l) (d : Int) : isort ltE (l.map (shE d)) = (isort ltE l).map (shE d) := by
  refine ord_unique (isort_ordered wkE _) ?_ ((zisort_perm _).trans ((zisort_perm l).map _).symm) (fun x hx y hy h1 h2 => ?_)
  · have h1 := isort_ordered wkE l
    unfold Ordered at h1 ⊢
    rw [List.pairwise_map]
    exact h1.imp fun hxy => by rw [lt_sh]; exact hxy
  · obtain ⟨x', hx', rfl⟩ := List.mem_map.1 ((zisort_perm _).mem_iff.1 hx)
    obtain ⟨y', hy', rfl⟩ := List.mem_map.1 ((zisort_perm _).mem_iff.1 hy)
    rw [lt_sh] at h1 h2
    rw [h x' hx' y' hy' h1 h2]
theorem panes_sh {c : Cf} {d : Int} (h : Mov c d) {l : List Ev} (ha : AntiE l) : panesL c (l.map (shE d)) = (panesL c l).map (shZ d) := by
  unfold panesL grps grpsS
  rw [isort_sh ha, itsL_sh h]
  have h2 := putA_sh d (decide (c.kind = 2)) (itsL c (isort ltE l)) []
  rw [List.map_nil] at h2
  rw [h2, List.map_map, List.map_map]
  rfl
theorem fit_sh {l : List Ev} (h : EvFit l) (ht : ∀ x ∈ l, -1000 ≤ x.time ∧ x.time ≤ 1000) (d : Int) (hd : -10000 ≤ d ∧ d ≤ 10000) : EvFit (l.map (shE d)) :=
  ⟨fun x hx => by obtain ⟨y, hy, rfl⟩ := List.mem_map.1 hx; exact h.val y hy,
   fun x hx => by
    obtain ⟨y, hy, rfl⟩ := List.mem_map.1 hx
    have := ht y hy
    show -4398046511104 ≤ y.time + d ∧ y.time + d ≤ 4398046511104
    omega, by rw [List.length_map]; exact h.few⟩
theorem log_times (c : Cf) (ps : List Pt) (hp : ∀ p ∈ ps, p.Ok) (k : Nat) (hk : k ≤ ps.length) : ∀ x ∈ lgL c ps k, -1000 ≤ x.time ∧ x.time ≤ 1000 := fun x hx => by
  unfold lgL at hx
  obtain ⟨i, hi, rfl⟩ := List.mem_map.1 hx
  have hi := List.mem_range.1 hi
  have hm : ps[i]! ∈ ps := by rw [getElem!_pos ps i (by omega)]; exact List.getElem_mem _
  have h2 := (hp _ hm).time
  unfold evPt
  show -1000 ≤ ((ps[i]!).time : Int) - 60 ∧ ((ps[i]!).time : Int) - 60 ≤ 1000
  omega
/-- By which steps the law moves. -/
def Cf.by' (c : Cf) : Int := if c.kind = 1 then c.step else if c.kind = 2 then 1 else c.size
theorem mov_by {c : Cf} (b : Int) : Mov c (b * c.by') := by
  unfold Mov Cf.by'
  by_cases h2 : c.kind = 2
  · exact .inl h2
  · refine .inr ⟨b, ?_⟩
    unfold Cf.st
    by_cases h1 : c.kind = 1
    · rw [if_pos h1, if_pos h1]
    · rw [if_neg h1, if_neg h2, if_neg h1]
theorem by_range {c : Cf} (h : c.Ok) (h30 : c.size ≤ 30) : 1 ≤ c.by' ∧ c.by' ≤ 30 := by
  unfold Cf.by'
  have h1 := h.size1
  split
  · rename_i hk; have := h.step1 hk; omega
  · split <;> omega
theorem mul_range {b s : Int} (hb : -128 ≤ b ∧ b ≤ 127) (hs : 1 ≤ s ∧ s ≤ 30) : -10000 ≤ b * s ∧ b * s ≤ 10000 := by
  have h1 : b * s ≤ 127 * s := Int.mul_le_mul_of_nonneg_right hb.2 (by omega)
  have h2 : -128 * s ≤ b * s := Int.mul_le_mul_of_nonneg_right hb.1 (by omega)
  omega
theorem telB_self (t : Tel) : telB t t = true := by unfold telB; simp
/-- What holds of all that is put, and of what is joined. -/
theorem putF_all (Q : ZP → Prop) (hj : ∀ a b, Q a → Q b → Q (joinP a b)) : ∀ (gs : List Grp) (g : Grp), (∀ x ∈ gs, Q x.p) → Q g.p → ∀ x ∈ putF gs g, Q x.p
  | [], g, _, hg, x, hx => by
    rw [putF] at hx; simp at hx; subst hx; exact hg
  | h :: t, g, hs, hg, x, hx => by
    rw [putF] at hx
    split at hx
    · rcases List.mem_cons.1 hx with rfl | hx
      · exact hs _ (by simp)
      · exact putF_all Q hj t g (fun y hy => hs y (by simp [hy])) hg x hx
    · split at hx
      · rcases List.mem_cons.1 hx with rfl | hx
        · exact hj _ _ (hs h (by simp)) hg
        · exact hs x (by simp [hx])
      · rcases List.mem_cons.1 hx with rfl | hx
        · exact hg
        · exact hs x hx
theorem putL_all (Q : ZP → Prop) (hj : ∀ a b, Q a → Q b → Q (joinP a b)) (ses : Bool) (gs : List Grp) (g : Grp) (hs : ∀ x ∈ gs, Q x.p) (hg : Q g.p) : ∀ x ∈ putL ses gs g, Q x.p := by
  rcases hb : lastB ses gs g.p with _ | _
  · rw [putL_F _ _ _ hb]; exact putF_all Q hj gs g hs hg
  · rcases snoc_cases gs with rfl | ⟨r, y, rfl⟩
    · cases hb
    · rw [putL_last _ _ _ _ hb]
      intro x hx
      rcases List.mem_append.1 hx with hx | hx
      · exact hs x (by simp [hx])
      · simp at hx; subst hx; exact hj _ _ (hs y (by simp)) hg
theorem putA_all (Q : ZP → Prop) (hj : ∀ a b, Q a → Q b → Q (joinP a b)) (ses : Bool) : ∀ (its gs : List Grp), (∀ x ∈ gs, Q x.p) → (∀ g ∈ its, Q g.p) → ∀ x ∈ putA ses gs its, Q x.p
  | [], gs, h, _ => h
  | g :: r, gs, h, hi => by
    rw [putA_cons]
    exact putA_all Q hj ses r _ (putL_all Q hj ses gs g h (hi g (by simp))) (fun x hx => hi x (by simp [hx]))
def Near (p : ZP) : Prop := (-8796093022208 ≤ p.s ∧ p.s ≤ 8796093022208) ∧ -8796093022208 ≤ p.e ∧ p.e ≤ 8796093022208
theorem near_join (a b : ZP) (ha : Near a) (hb : Near b) : Near (joinP a b) := by
  unfold Near at *
  show (-8796093022208 ≤ min a.s b.s ∧ min a.s b.s ≤ 8796093022208) ∧ -8796093022208 ≤ max a.e b.e ∧ max a.e b.e ≤ 8796093022208
  omega
theorem pz_places {c : Cf} (h : c.Ok) {l : List Ev} (hl : EvFit l) : ∀ p ∈ panesL c l, Near p.p := fun p hp => by
  unfold panesL at hp
  obtain ⟨x, hx, rfl⟩ := List.mem_map.1 hp
  show Near x.p
  unfold grps grpsS at hx
  refine putA_all Near near_join _ _ [] (fun _ h => by cases h) (fun g hg => ?_) x hx
  obtain ⟨e, he, hg⟩ := List.mem_flatMap.1 hg
  have ht := hl.time e ((zisort_perm l).mem_iff.1 he)
  unfold itE at hg
  obtain ⟨w, hw, rfl⟩ := List.mem_map.1 hg
  have h2 := wOf_in h e.time w hw
  have h3 := h.size2
  unfold Near
  show (-8796093022208 ≤ w.s ∧ w.s ≤ 8796093022208) ∧ -8796093022208 ≤ w.e ∧ w.e ≤ 8796093022208
  omega
end Go.Proofs.Ytckfndnaaljmhaa
