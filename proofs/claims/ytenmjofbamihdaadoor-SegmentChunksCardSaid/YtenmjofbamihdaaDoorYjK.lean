/-
  Layer segment: what is told of a chunk is so: plain.
-/
import Derived.Test.YtenmjofbamihdaaDoorYzK
set_option linter.unusedSimpArgs false
set_option linter.unusedVariables false
set_option maxRecDepth 8000
namespace Go.Proofs.YtenmjofbamihdaaDoor
open Go.RowKit Go.WideShapes Col
def KLe (a b : ByteArray) : Prop := a.toList ≤ b.toList
theorem KLe.refl (a : ByteArray) : KLe a a := List.le_refl _
theorem KLe.trans {a b c : ByteArray} (h1 : KLe a b) (h2 : KLe b c) : KLe a c := List.le_trans h1 h2
theorem KLe.not {a b : ByteArray} (h : KLe a b) : Op.bytesLess b.toList a.toList = false := by
  rw [bytesLess_eq, decide_eq_false_iff_not]; exact List.not_lt.2 h
theorem KLe.gtr {a b : ByteArray} (h : KLe a b) : (!(Op.bytesLess a.toList b.toList || a.toList == b.toList)) = false := by
  rw [Bool.not_eq_false', Bool.or_eq_true, bytesLess_eq, decide_eq_true_eq, beq_iff_eq]
  by_cases h1 : a.toList < b.toList
  · exact .inl h1
  · exact .inr (List.le_antisymm h (List.not_lt.1 h1))
theorem lss_kS (a b : ByteArray) (h : Op.bytesLess a.toList b.toList = false) (w : World) : (binOp .lss 9 (.string a) (.string b)).run Tryd.prog w = .ok (.bool false) w := by
  rw [binOp_string_lss, h]; rfl
theorem gtr_kS (a b : ByteArray) (h : (!(Op.bytesLess a.toList b.toList || a.toList == b.toList)) = false) (w : World) : (binOp .gtr 9 (.string a) (.string b)).run Tryd.prog w = .ok (.bool false) w := by
  rw [binOp_string_gtr, h]; rfl
theorem minK_le (a b : ByteArray) : KLe (minK a b) a ∧ KLe (minK a b) b := by
  unfold minK
  split
  · rename_i h
    rw [Bool.or_eq_true] at h
    rcases h with h | h
    · rw [bytesLess_eq, decide_eq_true_eq] at h
      exact ⟨KLe.refl _, List.le_of_lt h⟩
    · rw [beq_iff_eq] at h
      exact ⟨KLe.refl _, by unfold KLe; rw [h]; exact List.le_refl _⟩
  · rename_i h
    refine ⟨?_, KLe.refl _⟩
    rw [Bool.or_eq_true, bytesLess_eq, decide_eq_true_eq] at h
    exact List.not_lt.1 fun h1 => h (.inl h1)
theorem maxK_le (a b : ByteArray) : KLe a (maxK a b) ∧ KLe b (maxK a b) := by
  unfold maxK
  split
  · rename_i h
    rw [Bool.not_eq_true', bytesLess_eq, decide_eq_false_iff_not] at h
    exact ⟨KLe.refl _, List.not_lt.1 h⟩
  · rename_i h
    rw [Bool.not_eq_true', bytesLess_eq, decide_eq_false_iff_not] at h
    exact ⟨List.le_of_lt (Classical.not_not.1 h), KLe.refl _⟩
theorem minI_le (a b : Int) : minI a b ≤ a ∧ minI a b ≤ b := by unfold minI; split <;> omega
theorem maxI_le (a b : Int) : a ≤ maxI a b ∧ b ≤ maxI a b := by unfold maxI; split <;> omega
theorem ckF_all : ∀ (r : List Ev) (c : Ck), (r.foldl ckF c).ta ≤ c.ta ∧ c.tz ≤ (r.foldl ckF c).tz ∧ KLe (r.foldl ckF c).ka c.ka ∧ KLe c.kz (r.foldl ckF c).kz ∧ ∀ x ∈ r, (r.foldl ckF c).ta ≤ x.time ∧ x.time ≤ (r.foldl ckF c).tz ∧ KLe (r.foldl ckF c).ka x.key ∧ KLe x.key (r.foldl ckF c).kz
  | [], c => ⟨Int.le_refl _, Int.le_refl _, KLe.refl _, KLe.refl _, fun x hx => by cases hx⟩
  | a :: r, c => by
    rw [List.foldl_cons]
    obtain ⟨h1, h2, h3, h4, h5⟩ := ckF_all r (ckF c a)
    have i1 := minI_le c.ta a.time
    have i2 := maxI_le c.tz a.time
    have k1 := minK_le c.ka a.key
    have k2 := maxK_le c.kz a.key
    have e1 : (ckF c a).ta = minI c.ta a.time := rfl
    have e2 : (ckF c a).tz = maxI c.tz a.time := rfl
    have e3 : (ckF c a).ka = minK c.ka a.key := rfl
    have e4 : (ckF c a).kz = maxK c.kz a.key := rfl
    rw [e1] at h1; rw [e2] at h2; rw [e3] at h3; rw [e4] at h4
    refine ⟨by omega, by omega, h3.trans k1.1, k2.1.trans h4, ?_⟩
    intro x hx
    rcases List.mem_cons.1 hx with e | e
    · subst e; exact ⟨by omega, by omega, h3.trans k1.2, k2.2.trans h4⟩
    · exact h5 x e
theorem ckOf_all (l : List Ev) (p : Nat) : ∀ x ∈ l, (ckOf l p).ta ≤ x.time ∧ x.time ≤ (ckOf l p).tz ∧ KLe (ckOf l p).ka x.key ∧ KLe x.key (ckOf l p).kz := (ckF_all l (ckS l p)).2.2.2.2
/-- An event of a chunk is within what is told of it. -/
def InCk (c : Ck) (x : Ev) : Prop := c.oa ≤ x.off ∧ x.off ≤ c.ob ∧ c.ta ≤ x.time ∧ x.time ≤ c.tz ∧ Op.bytesLess x.key.toList c.ka.toList = false ∧ (!(Op.bytesLess x.key.toList c.kz.toList || x.key.toList == c.kz.toList)) = false
theorem inCk_may {a b : Nat} {x y : Int} {c : Ck} {e : Ev} (h : InCk c e) (hw : wantB a b x y e = true) : mayB a b x y c = true := by
  obtain ⟨h1, h2, h3, h4, -, -⟩ := h
  unfold wantB at hw
  simp only [Bool.and_eq_true, decide_eq_true_eq] at hw
  unfold mayB maxI minI
  simp only [Bool.and_eq_true, decide_eq_true_eq]
  refine ⟨?_, ?_, ?_⟩
  · split <;> omega
  · split <;> omega
  · split <;> split <;> omega
/-- All that a chunk of a written segment has is within what is told of it. -/
theorem seg_in {p : Int} {l : List Ev} (hck : chkL p none l = 0) (k : Nat) (c : Ck) (hc : (segCk l)[k]? = some c) :
    k < segN l ∧ c.rows = lnC l.length k ∧ stC l.length k = 64 * k ∧ ∀ j, j < c.rows → ∃ x, l[64 * k + j]? = some x ∧ InCk c x := by
  obtain ⟨hk, hc2⟩ := wrS_get l (segN l) k c hc
  have h64 : 64 * k < l.length := by unfold segN at hk; omega
  obtain ⟨a, ha⟩ : ∃ a, l[0]? = some a := ⟨_, List.getElem?_eq_getElem (by omega)⟩
  obtain ⟨e1, e2, e3, e4, e5⟩ := segCk_facts hck ha k hk (ahead l k)
  rw [← hc2] at e1 e2 e3 e4
  have hf := lnC_facts (len := l.length) (j := k) (by omega)
  refine ⟨hk, e1, e5, fun j hj => ?_⟩
  rw [e1] at hj
  rw [e5] at hf
  obtain ⟨x, hx⟩ : ∃ x, l[64 * k + j]? = some x := ⟨_, List.getElem?_eq_getElem (by omega)⟩
  have hm : x ∈ pcs l k := by
    refine List.mem_of_getElem? (i := j) ?_
    unfold pcs
    rw [List.getElem?_take, if_pos hj, List.getElem?_drop, e5]; exact hx
  obtain ⟨t1, t2, t3, t4⟩ := ckOf_all (pcs l k) (ahead l k) x hm
  rw [← hc2] at t1 t2 t3 t4
  have ho := chk_off0 hck ha _ _ hx
  exact ⟨x, hx, by omega, by omega, t1, t2, t3.not, t4.gtr⟩
end Go.Proofs.YtenmjofbamihdaaDoor
