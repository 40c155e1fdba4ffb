/-
  Layer files: the order of names; files that rise; a file put in, taken out, at any place: plain facts.
-/
import Derived.Test.YtafdhgofdocjhaaHa
set_option linter.unusedSimpArgs false
set_option linter.unusedVariables false
namespace Go.Proofs.Ytafdhgofdocjhaa
open Go.RowKit Go.WideShapes

theorem cb_self : ∀ a : List UInt8, Lib.compareBytes a a = 0
  | [] => rfl
  | x :: r => by unfold Lib.compareBytes; simp [UInt8.lt_irrefl, cb_self r]
theorem cb_neg : ∀ a b : List UInt8, Lib.compareBytes b a = - Lib.compareBytes a b
  | [], [] => rfl
  | [], _ :: _ => rfl
  | _ :: _, [] => rfl
  | x :: r, y :: s => by
    unfold Lib.compareBytes
    by_cases h1 : x < y
    · have h2 : ¬ y < x := fun h => by rw [UInt8.lt_iff_toNat_lt] at *; omega
      simp [h1, h2]
    · by_cases h2 : y < x
      · simp [h1, h2]
      · simp [h1, h2, cb_neg r s]
theorem cb_eq : ∀ a b : List UInt8, Lib.compareBytes a b = 0 → a = b
  | [], [], _ => rfl
  | [], _ :: _, h => by simp [Lib.compareBytes] at h
  | _ :: _, [], h => by simp [Lib.compareBytes] at h
  | x :: r, y :: s, h => by
    unfold Lib.compareBytes at h
    by_cases h1 : x < y
    · simp [h1] at h
    · by_cases h2 : y < x
      · simp [h1, h2] at h
      · simp [h1, h2] at h
        have e : x = y := by
          apply UInt8.toNat_inj.1
          rw [UInt8.lt_iff_toNat_lt] at h1 h2; omega
        rw [e, cb_eq r s h]
theorem cb_trans : ∀ a b c : List UInt8, Lib.compareBytes a b < 0 → Lib.compareBytes b c < 0 → Lib.compareBytes a c < 0
  | [], [], _, h, _ => by simp [Lib.compareBytes] at h
  | _ :: _, [], _, h, _ => by simp [Lib.compareBytes] at h
  | _, _ :: _, [], _, h => by simp [Lib.compareBytes] at h
  | [], _ :: _, _ :: _, _, _ => by simp [Lib.compareBytes]
  | x :: r, y :: s, z :: t, h1, h2 => by
    unfold Lib.compareBytes at h1 h2 ⊢
    have ih := cb_trans r s t
    simp only [UInt8.lt_iff_toNat_lt] at *
    by_cases a1 : x.toNat < y.toNat
    · by_cases a2 : y.toNat < z.toNat
      · simp [show x.toNat < z.toNat by omega]
      · by_cases a3 : z.toNat < y.toNat
        · simp [a2, a3] at h2
        · simp [show x.toNat < z.toNat by omega]
    · by_cases b1 : y.toNat < x.toNat
      · simp [a1, b1] at h1
      · simp only [a1, b1, if_false] at h1
        by_cases a2 : y.toNat < z.toNat
        · simp [show x.toNat < z.toNat by omega]
        · by_cases a3 : z.toNat < y.toNat
          · simp [a2, a3] at h2
          · simp only [a2, a3, if_false] at h2
            simp only [show ¬ x.toNat < z.toNat by omega, show ¬ z.toNat < x.toNat by omega, if_false]
            exact ih h1 h2
theorem ck_self (a : ByteArray) : cmpK a a = 0 := cb_self _
theorem ck_neg (a b : ByteArray) : cmpK b a = - cmpK a b := cb_neg _ _
theorem ck_eq {a b : ByteArray} (h : cmpK a b = 0) : a = b := by
  have := cb_eq _ _ h
  have h2 : a.data = b.data := by rw [← Array.toList_inj]; exact this
  cases a; cases b; simp at h2; rw [h2]
theorem ck_trans {a b c : ByteArray} (h1 : cmpK a b < 0) (h2 : cmpK b c < 0) : cmpK a c < 0 := cb_trans _ _ _ h1 h2
/-- The files rise by their names. -/
def Rises (xs : List Fil) : Prop := ∀ (j k : Nat) (x y : Fil), j < k → xs[j]? = some x → xs[k]? = some y → cmpK x.name y.name < 0
def placeOf (xs : List Fil) (t : ByteArray) : Nat := (xs.takeWhile fun x => decide (cmpK x.name t < 0)).length
theorem placeOf_cons (x : Fil) (r : List Fil) (t : ByteArray) : placeOf (x :: r) t = if cmpK x.name t < 0 then placeOf r t + 1 else 0 := by
  unfold placeOf; rw [List.takeWhile_cons]
  by_cases h : cmpK x.name t < 0 <;> simp [h]
theorem Rises.tail {x : Fil} {r : List Fil} (h : Rises (x :: r)) : Rises r := fun j k a b hjk ha hb => h (j + 1) (k + 1) a b (by omega) (by simpa using ha) (by simpa using hb)
theorem Rises.place {xs : List Fil} (t : ByteArray) (h : Rises xs) : Place xs t (placeOf xs t) := by
  induction xs with
  | nil => exact ⟨Nat.zero_le _, fun k x hk => by simp [placeOf] at hk, fun k x _ hx => by simp at hx⟩
  | cons y r ih =>
    have ih := ih h.tail
    rw [placeOf_cons]
    by_cases hy : cmpK y.name t < 0
    · rw [if_pos hy]
      refine ⟨by have := ih.1; simp; omega, fun k x hk hx => ?_, fun k x hk hx => ?_⟩
      · rcases k with _ | k
        · simp at hx; subst hx; exact hy
        · exact ih.2.1 k x (by omega) (by simpa using hx)
      · rcases k with _ | k
        · omega
        · exact ih.2.2 k x (by omega) (by simpa using hx)
    · rw [if_neg hy]
      refine ⟨Nat.zero_le _, fun k x hk => by omega, fun k x _ hx hn => ?_⟩
      rcases k with _ | k
      · simp at hx; subst hx; exact hy hn
      · exact hy (ck_trans (h 0 (k + 1) y x (by omega) rfl hx) hn)
theorem isAt_yes {xs : List Fil} {t : ByteArray} {lo : Nat} (h : isAt xs t lo = true) : ∃ x, xs[lo]? = some x ∧ cmpK x.name t = 0 := by
  unfold isAt at h
  rcases hx : xs[lo]? with _ | x
  · rw [hx] at h; cases h
  · rw [hx] at h; exact ⟨x, rfl, by simpa using h⟩
theorem isAt_no {xs : List Fil} {t : ByteArray} {lo : Nat} (h : isAt xs t lo = false) (x : Fil) (hx : xs[lo]? = some x) : cmpK x.name t ≠ 0 := by
  unfold isAt at h; rw [hx] at h; simpa using h
/-- Not there: those from the place on stand behind. -/
theorem behind_of {xs : List Fil} {t : ByteArray} {lo : Nat} (hr : Rises xs) (hp : Place xs t lo) (h : isAt xs t lo = false) (k : Nat) (x : Fil) (hk : lo ≤ k) (hx : xs[k]? = some x) : cmpK t x.name < 0 := by
  have hlt := (List.getElem?_eq_some_iff.1 hx).1
  obtain ⟨y, hy⟩ : ∃ y, xs[lo]? = some y := ⟨xs[lo]'(by omega), List.getElem?_eq_getElem _⟩
  have h1 := isAt_no h y hy
  have h2 := hp.2.2 lo y (Nat.le_refl _) hy
  have h3 : cmpK t y.name < 0 := by rw [ck_neg]; omega
  rcases Nat.lt_or_ge lo k with h4 | h4
  · exact ck_trans h3 (hr lo k y x h4 hy hx)
  · have : k = lo := by omega
    subst this
    rw [hy] at hx; injection hx with hx; subst hx; exact h3

/-- A file put in. -/
def ins (xs : List Fil) (lo : Nat) (y : Fil) : List Fil := xs.take lo ++ y :: xs.drop lo
theorem ins_len (xs : List Fil) (lo : Nat) (y : Fil) : (ins xs lo y).length = xs.length + 1 := by
  unfold ins; rw [List.length_append, List.length_cons, List.length_take, List.length_drop]; omega
theorem ins_at {xs : List Fil} {lo : Nat} (h : lo ≤ xs.length) (y : Fil) : (ins xs lo y)[lo]? = some y := by
  unfold ins
  rw [List.getElem?_append_right (by rw [List.length_take]; omega), List.length_take, Nat.min_eq_left h, Nat.sub_self]; rfl
theorem ins_from {xs : List Fil} {lo j : Nat} {y z : Fil} (h : lo ≤ xs.length) (hz : (ins xs lo y)[j]? = some z) : (j = lo ∧ z = y) ∨ (j ≠ lo ∧ xs[if j < lo then j else j - 1]? = some z) := by
  have hl : (xs.take lo).length = lo := by rw [List.length_take]; omega
  rcases Nat.lt_trichotomy j lo with hj | hj | hj
  · right; rw [if_pos hj]
    unfold ins at hz
    rw [List.getElem?_append_left (by omega), List.getElem?_take, if_pos hj] at hz
    exact ⟨by omega, hz⟩
  · subst hj; rw [ins_at h] at hz; injection hz with hz; exact .inl ⟨rfl, hz.symm⟩
  · right; rw [if_neg (by omega)]
    unfold ins at hz
    rw [List.getElem?_append_right (by omega), hl] at hz
    obtain ⟨d, hd⟩ : ∃ d, j = lo + 1 + d := ⟨j - lo - 1, by omega⟩
    subst hd
    rw [show lo + 1 + d - lo = d + 1 by omega, List.getElem?_cons_succ, List.getElem?_drop] at hz
    exact ⟨by omega, by rw [show lo + 1 + d - 1 = lo + d by omega]; exact hz⟩
theorem ins_set {xs : List Fil} {lo : Nat} (h : lo ≤ xs.length) (y z : Fil) : (ins xs lo y).set lo z = ins xs lo z := by
  have hl : (xs.take lo).length = lo := by rw [List.length_take]; omega
  unfold ins
  rw [List.set_append_right _ _ (by omega), hl, Nat.sub_self]; rfl
theorem flat_append (a b : List Fil) : flat (a ++ b) = flat a ++ flat b := by
  induction a with
  | nil => rfl
  | cons x r ih => simp only [List.cons_append, flat, ih, List.append_assoc]
theorem flat_take (xs : List Fil) (k : Nat) : (flat xs).take (k * 3) = flat (xs.take k) := by
  induction xs generalizing k with
  | nil => simp [flat]
  | cons x r ih =>
    rcases k with _ | k
    · simp [flat]
    · rw [flat, List.take_succ_cons, flat, List.take_append, show (flC3 x).length = 3 from rfl, show (k + 1) * 3 - 3 = k * 3 by omega, ih, List.take_of_length_le (by show 3 ≤ _; omega)]
theorem flat_drop (xs : List Fil) (k : Nat) : (flat xs).drop (k * 3) = flat (xs.drop k) := by
  induction xs generalizing k with
  | nil => simp [flat]
  | cons x r ih =>
    rcases k with _ | k
    · simp [flat]
    · rw [flat, List.drop_succ_cons, List.drop_append, show (flC3 x).length = 3 from rfl, show (k + 1) * 3 - 3 = k * 3 by omega, ih, List.drop_of_length_le (by show 3 ≤ _; omega), List.nil_append]
theorem flat_ins (xs : List Fil) (lo : Nat) (y : Fil) : flat (ins xs lo y) = (flat xs).take (lo * 3) ++ (flC3 y ++ (flat xs).drop (lo * 3)) := by
  unfold ins; rw [flat_append, flat, flat_take, flat_drop]
theorem sumN_ins (xs : List Fil) (lo : Nat) (y : Fil) : sumN (ins xs lo y) = sumN xs + y.l.length := by
  unfold ins
  have h := congrArg sumN (List.take_append_drop lo xs)
  rw [sumN_append] at h ⊢
  simp only [sumN]; omega
theorem Rises.ins {xs : List Fil} {t : ByteArray} {lo : Nat} (hr : Rises xs) (hp : Place xs t lo) (h : isAt xs t lo = false) (y : Fil) (hy : y.name = t) : Rises (ins xs lo y) := by
  intro j k a b hjk ha hb
  rcases ins_from hp.1 ha with ⟨rfl, rfl⟩ | ⟨hj, ha'⟩ <;> rcases ins_from hp.1 hb with ⟨rfl, rfl⟩ | ⟨hk, hb'⟩
  · omega
  · rw [if_neg (by omega)] at hb'; rw [hy]; exact behind_of hr hp h _ b (by omega) hb'
  · rw [if_pos (by omega)] at ha'; rw [hy]; exact hp.2.1 _ a hjk ha'
  · refine hr _ _ a b ?_ ha' hb'
    split <;> split <;> omega
theorem Rises.set {xs : List Fil} (hr : Rises xs) (q : Nat) (x y : Fil) (hx : xs[q]? = some x) (hy : y.name = x.name) : Rises (xs.set q y) := by
  have hc : ∀ (j : Nat) (z : Fil), (xs.set q y)[j]? = some z → ∃ u, xs[j]? = some u ∧ u.name = z.name := fun j z hz => by
    rw [List.getElem?_set] at hz
    by_cases e : q = j
    · rw [if_pos e] at hz
      split at hz
      · injection hz with hz; subst hz; subst e; exact ⟨x, hx, hy.symm⟩
      · cases hz
    · rw [if_neg e] at hz; exact ⟨z, hz, rfl⟩
  intro j k a b hjk ha hb
  obtain ⟨u, hu, e⟩ := hc j a ha
  obtain ⟨v, hv, e'⟩ := hc k b hb
  rw [← e, ← e']; exact hr j k u v hjk hu hv
theorem Rises.erase {xs : List Fil} (hr : Rises xs) (q : Nat) : Rises (xs.eraseIdx q) := by
  intro j k a b hjk ha hb
  rw [List.getElem?_eraseIdx] at ha hb
  refine hr (if j < q then j else j + 1) (if k < q then k else k + 1) a b (by split <;> split <;> omega) ?_ ?_
  · split at ha <;> rename_i h <;> simp only [h] <;> exact ha
  · split at hb <;> rename_i h <;> simp only [h] <;> exact hb
theorem rises_nil : Rises [] := fun j k x y _ h => by simp at h
end Go.Proofs.Ytafdhgofdocjhaa
