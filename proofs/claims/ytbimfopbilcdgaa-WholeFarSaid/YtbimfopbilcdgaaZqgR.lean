/-
  Layer whole: the document's session: a window that grows by what meets it. Plain facts (towards WholePanes).
-/
import Derived.Test.YtbimfopbilcdgaaZqfR
set_option linter.unusedSimpArgs false
set_option linter.unusedVariables false
set_option maxRecDepth 8000
namespace Go.Proofs.Ytbimfopbilcdgaa
open Go.RowKit Go.Sort Sm

/-- A window grown by an event. -/
def grow (sz : Int) (p : ZP) (x : Ev) : ZP := if keyZ x.key p.key && meetP p ⟨p.key, x.time, x.time + sz⟩ then joinP p ⟨p.key, x.time, x.time + sz⟩ else p
theorem grow_key (sz : Int) (p : ZP) (x : Ev) : (grow sz p x).key = p.key := by unfold grow; split <;> rfl
theorem grow_in (sz : Int) (p : ZP) (x : Ev) : (grow sz p x).s ≤ p.s ∧ p.e ≤ (grow sz p x).e := by
  unfold grow
  split
  · show min p.s x.time ≤ p.s ∧ p.e ≤ max p.e (x.time + sz); omega
  · omega
theorem grow_tight {sz : Int} {L : List Ev} {p : ZP} (h : Tight sz L p) (x : Ev) (hx : x ∈ L) : Tight sz L (grow sz p x) := by
  unfold grow
  split
  · rename_i hc
    rw [Bool.and_eq_true, keyZ_iff] at hc
    exact tight_join h (fun m h1 h2 => ⟨x, hx, hc.1, h1, h2⟩) rfl hc.2
  · exact h
/-- What doesn't grow any more is shut. -/
theorem grow_shut {sz : Int} {L : List Ev} {p : ZP} (h : ∀ x ∈ L, grow sz p x = p) : Shut sz L p := fun x hx hk => by
  have h1 := h x hx
  unfold grow at h1
  by_cases hm : meetP p ⟨p.key, x.time, x.time + sz⟩ = true
  · rw [if_pos (by rw [Bool.and_eq_true]; exact ⟨(keyZ_iff _ _).2 hk, hm⟩)] at h1
    have hs : min p.s x.time = p.s := congrArg ZP.s h1
    have he : max p.e (x.time + sz) = p.e := congrArg ZP.e h1
    exact .inr (.inr (by omega))
  · unfold meetP at hm
    rw [Bool.and_eq_true, decide_eq_true_eq, decide_eq_true_eq] at hm
    have hm : ¬ (p.s < x.time + sz ∧ x.time < p.e) := hm
    omega
theorem grow_near {sz : Int} {p : ZP} (x : Ev) (h : -8796093022208 ≤ p.s ∧ p.e ≤ 8796093022208) (hx : -8796093022208 ≤ x.time ∧ x.time + sz ≤ 8796093022208) : -8796093022208 ≤ (grow sz p x).s ∧ (grow sz p x).e ≤ 8796093022208 := by
  unfold grow
  split
  · show -8796093022208 ≤ min p.s x.time ∧ max p.e (x.time + sz) ≤ 8796093022208; omega
  · exact h
/-- A round over all events. -/
def growL (sz : Int) (p : ZP) (l : List Ev) : ZP := l.foldl (grow sz) p
theorem growL_snoc (sz : Int) (p : ZP) (l : List Ev) (x : Ev) : growL sz p (l ++ [x]) = grow sz (growL sz p l) x := by unfold growL; rw [List.foldl_append]; rfl
theorem growL_cons (sz : Int) (p : ZP) (l : List Ev) (x : Ev) : growL sz p (x :: l) = growL sz (grow sz p x) l := rfl
theorem growL_in (sz : Int) : ∀ (l : List Ev) (p : ZP), (growL sz p l).key = p.key ∧ (growL sz p l).s ≤ p.s ∧ p.e ≤ (growL sz p l).e
  | [], p => ⟨rfl, Int.le_refl _, Int.le_refl _⟩
  | x :: r, p => by
    rw [growL_cons]
    have h1 := growL_in sz r (grow sz p x)
    have h2 := grow_in sz p x
    exact ⟨h1.1.trans (grow_key sz p x), by omega, by omega⟩
theorem growL_tight {sz : Int} {L : List Ev} : ∀ (l : List Ev) (p : ZP), (∀ x ∈ l, x ∈ L) → Tight sz L p → Tight sz L (growL sz p l)
  | [], p, _, h => h
  | x :: r, p, hl, h => by
    rw [growL_cons]
    exact growL_tight r _ (fun y hy => hl y (by simp [hy])) (grow_tight h x (hl x (by simp)))
theorem zp_eq {p q : ZP} (h1 : p.key = q.key) (h2 : p.s = q.s) (h3 : p.e = q.e) : p = q := by cases p; cases q; simp_all
/-- A round that changed nothing says that all is inside or apart. -/
theorem growL_fix {sz : Int} : ∀ (l : List Ev) (p : ZP), growL sz p l = p → ∀ x ∈ l, grow sz p x = p
  | [], p, _, x, hx => by cases hx
  | y :: r, p, h, x, hx => by
    rw [growL_cons] at h
    have h1 := growL_in sz r (grow sz p y)
    have h2 := grow_in sz p y
    rw [h] at h1
    have e : grow sz p y = p := zp_eq (grow_key sz p y) (by omega) (by omega)
    rw [e] at h
    rcases List.mem_cons.1 hx with rfl | hx
    · exact e
    · exact growL_fix r p h x hx
/-- Where the rounds begin. -/
def own1 (sz : Int) (x : Ev) : ZP := ⟨x.key, x.time, x.time + sz⟩
theorem own1_tight {sz : Int} {L : List Ev} (x : Ev) (hx : x ∈ L) : Tight sz L (own1 sz x) := fun m h1 h2 => ⟨x, hx, rfl, h1, h2⟩
/-- A session's window, as the document's rounds leave it. -/
structure SesW (sz : Int) (L : List Ev) (x : Ev) (p : ZP) : Prop where
  tight : Tight sz L p
  key : p.key = x.key
  s : p.s ≤ x.time
  e : x.time + sz ≤ p.e
theorem SesW.start {sz : Int} {L : List Ev} (x : Ev) (hx : x ∈ L) : SesW sz L x (own1 sz x) := ⟨own1_tight x hx, rfl, Int.le_refl _, Int.le_refl _⟩
theorem SesW.round {sz : Int} {L : List Ev} {x : Ev} {p : ZP} (h : SesW sz L x p) (k : Nat) : SesW sz L x (growL sz p (L.take k)) := by
  have h1 := growL_in sz (L.take k) p
  have h2 := h.s
  have h3 := h.e
  exact ⟨growL_tight _ _ (fun y hy => List.mem_of_mem_take hy) h.tight, h1.1.trans h.key, by omega, by omega⟩
theorem SesW.done {sz : Int} {L : List Ev} {x : Ev} {p : ZP} (h : SesW sz L x p) (hf : growL sz p L = p) : Tight sz L p ∧ Shut sz L p ∧ p.key = x.key ∧ p.s ≤ x.time ∧ x.time + sz ≤ p.e :=
  ⟨h.tight, grow_shut (growL_fix L p hf), h.key, h.s, h.e⟩
/-- A round that changed something made the window wider. -/
theorem growL_wide {sz : Int} (l : List Ev) (p : ZP) (h : growL sz p l ≠ p) : p.e - p.s < (growL sz p l).e - (growL sz p l).s := by
  have h1 := growL_in sz l p
  rcases Int.lt_or_le (p.e - p.s) ((growL sz p l).e - (growL sz p l).s) with h2 | h2
  · exact h2
  · exact absurd (zp_eq h1.1 (by omega) (by omega)) h
end Go.Proofs.Ytbimfopbilcdgaa
