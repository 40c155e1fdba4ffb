/-
  Layer whole: a session's window is tight: covered by its key's events. Plain facts (towards WholePanes).
-/
import Derived.Test.YtbimfopbilcdgaaZxsR
import Derived.Test.YtbimfopbilcdgaaZqaR
set_option linter.unusedSimpArgs false
set_option linter.unusedVariables false
set_option maxRecDepth 8000
namespace Go.Proofs.Ytbimfopbilcdgaa
open Go.RowKit Go.Sort Sm

/-- Each moment inside is inside of an event's own window. -/
def Tight (sz : Int) (L : List Ev) (p : ZP) : Prop := ∀ m : Int, p.s < m → m < p.e → ∃ x ∈ L, x.key = p.key ∧ x.time < m ∧ m < x.time + sz
theorem tight_join {sz : Int} {L : List Ev} {a b : ZP} (ha : Tight sz L a) (hb : Tight sz L b) (hk : a.key = b.key) (hm : meetP a b = true) : Tight sz L (joinP a b) := fun m h1 h2 => by
  unfold meetP at hm
  rw [Bool.and_eq_true, decide_eq_true_eq, decide_eq_true_eq] at hm
  have h1' : min a.s b.s < m := h1
  have h2' : m < max a.e b.e := h2
  by_cases c1 : a.s < m ∧ m < a.e
  · exact ha m c1.1 c1.2
  · by_cases c2 : b.s < m ∧ m < b.e
    · obtain ⟨x, hx, e, h⟩ := hb m c2.1 c2.2
      exact ⟨x, hx, e.trans hk.symm, h⟩
    · omega
theorem tight_putF {sz : Int} {L : List Ev} : ∀ (gs : List Grp) (g : Grp), (∀ x ∈ gs, Tight sz L x.p) → Tight sz L g.p → ∀ x ∈ putF gs g, Tight sz L x.p
  | gs, g, hs, hg, x, hx => by
    rcases putF_mem gs g x hx with e | ⟨y, hy, e⟩
    · rw [e]; exact hg
    · rw [e]; exact hs y hy
theorem tight_putL {sz : Int} {L : List Ev} (ses : Bool) (gs : List Grp) (g : Grp) (hs : ∀ x ∈ gs, Tight sz L x.p) (hg : Tight sz L g.p) : ∀ x ∈ putL ses gs g, Tight sz L x.p := by
  rcases hb : lastB ses gs g.p with _ | _
  · rw [putL_F _ _ _ hb]; exact tight_putF gs g hs hg
  · rcases snoc_cases gs with rfl | ⟨r, y, rfl⟩
    · cases hb
    · rw [putL_last _ _ _ _ hb]
      rw [lastB_snoc, Bool.and_eq_true, Bool.and_eq_true] at hb
      intro x hx
      rcases List.mem_append.1 hx with hx | hx
      · exact hs x (by simp [hx])
      · simp at hx; subst hx
        exact tight_join (hs y (by simp)) hg ((keyZ_iff _ _).1 hb.1.2) hb.2
theorem tight_putA {sz : Int} {L : List Ev} (ses : Bool) : ∀ (its gs : List Grp), (∀ x ∈ gs, Tight sz L x.p) → (∀ g ∈ its, Tight sz L g.p) → ∀ x ∈ putA ses gs its, Tight sz L x.p
  | [], gs, h, _ => h
  | g :: r, gs, h, hi => by
    rw [putA_cons]
    exact tight_putA ses r _ (tight_putL ses gs g h (hi g (by simp))) (fun x hx => hi x (by simp [hx]))
/-- The sessions of some events are tight. -/
theorem tight_grps {c : Cf} (h : c.Ok) (hk : c.kind = 2) (l : List Ev) : ∀ g ∈ grps c l, Tight c.size l g.p := by
  unfold grps grpsS
  refine tight_putA _ _ [] (fun _ h => by cases h) (fun g hg m h1 h2 => ?_)
  obtain ⟨e, he, hg⟩ := List.mem_flatMap.1 hg
  have he := (zisort_perm l).mem_iff.1 he
  unfold itE at hg
  obtain ⟨w, hw, rfl⟩ := List.mem_map.1 hg
  obtain ⟨i, hi, rfl⟩ := (wOf_mem c e.time w).1 hw
  have hst : c.st = c.size := by unfold Cf.st; rw [if_neg (by omega)]
  have ha : c.a e.time = e.time := by unfold Cf.a; rw [if_pos hk]
  have hi2 := (h.n e.time i).1 hi
  rw [hst, ha] at hi2
  have hs1 := h.size1
  have hi0 : i = 0 := by
    rcases i with _ | i
    · rfl
    · have : ((i + 1 : Nat) : Int) * c.size ≥ 1 * c.size := Int.mul_le_mul_of_nonneg_right (by omega) (by omega)
      omega
  subst hi0
  have h1' : (c.w e.time 0).s < m := h1
  have h2' : m < (c.w e.time 0).e := h2
  unfold Cf.w at h1' h2'
  simp only [ha, Int.natCast_zero, Int.zero_mul, Int.sub_zero] at h1' h2'
  exact ⟨e, he, rfl, h1', h2'⟩
/-- No event of a key meets a window but such as lie inside. -/
def Shut (sz : Int) (L : List Ev) (p : ZP) : Prop := ∀ x ∈ L, x.key = p.key → x.time + sz ≤ p.s ∨ p.e ≤ x.time ∨ (p.s ≤ x.time ∧ x.time + sz ≤ p.e)
/-- A tight window lies inside of each shut one that it meets. -/
theorem tight_in {sz : Int} {L : List Ev} {p q : ZP} (hp : Tight sz L p) (hq : Shut sz L q) (hk : p.key = q.key) (hpe : p.s < p.e) (hqe : q.s < q.e) (h1 : p.s < q.e) (h2 : q.s < p.e) : q.s ≤ p.s ∧ p.e ≤ q.e := by
  refine ⟨?_, ?_⟩
  · rcases Int.lt_or_le p.s q.s with h | h
    · obtain ⟨x, hx, e, h3, h4⟩ := hp q.s h h2
      rcases hq x hx (e.trans hk) with h5 | h5 | h5 <;> omega
    · exact h
  · rcases Int.lt_or_le q.e p.e with h | h
    · obtain ⟨x, hx, e, h3, h4⟩ := hp q.e h1 h
      rcases hq x hx (e.trans hk) with h5 | h5 | h5 <;> omega
    · exact h
/-- Two windows that are tight and shut, and meet, are one. -/
theorem tight_one {sz : Int} {L : List Ev} {p q : ZP} (hp : Tight sz L p) (sp : Shut sz L p) (hq : Tight sz L q) (sq : Shut sz L q) (hk : p.key = q.key) (hpe : p.s < p.e) (hqe : q.s < q.e) (h1 : p.s < q.e) (h2 : q.s < p.e) : p = q := by
  have a := tight_in hp sq hk hpe hqe h1 h2
  have b := tight_in hq sp hk.symm hqe hpe h2 h1
  obtain ⟨k, s, e⟩ := p
  obtain ⟨k', s', e'⟩ := q
  simp only at hk a b
  obtain rfl := hk
  obtain rfl : s = s' := by omega
  obtain rfl : e = e' := by omega
  rfl
end Go.Proofs.Ytbimfopbilcdgaa
