/-
  Layer segment: a segment's bytes: plain.
-/
import Derived.Test.YtenmjofbamihdaaDoorYiK
import Derived.Test.YtenmjofbamihdaaDoorYoK
set_option linter.unusedSimpArgs false
set_option linter.unusedVariables false
set_option maxRecDepth 8000
namespace Go.Proofs.YtenmjofbamihdaaDoor
open Go.RowKit Go.WideShapes Col
/-- The j-th chunk's events. -/
def pcs (l : List Ev) (j : Nat) : List Ev := (l.drop (stC l.length j)).take (lnC l.length j)
theorem pcs_len {l : List Ev} {j : Nat} (h : 0 < l.length) : (pcs l j).length = lnC l.length j := by
  have := lnC_facts (j := j) h
  unfold pcs
  rw [List.length_take, List.length_drop]; omega
theorem pcs_mem {l : List Ev} {j : Nat} {x : Ev} (h : x ∈ pcs l j) : x ∈ l := List.mem_of_mem_drop (List.mem_of_mem_take h)
/-- A chunk's page. -/
def pgE (l : List Ev) : List Nat := Pg.lay 101 (evY l)
/-- Pages, and what is told of them, of chunks. -/
def wrS (l : List Ev) (js : List Nat) : List Nat × List Ck := js.foldl (fun s j => (s.1 ++ pgE (pcs l j), s.2 ++ [ckOf (pcs l j) s.1.length])) ([], [])
theorem wrS_snoc (l : List Ev) (js : List Nat) (j : Nat) : wrS l (js ++ [j]) = ((wrS l js).1 ++ pgE (pcs l j), (wrS l js).2 ++ [ckOf (pcs l j) (wrS l js).1.length]) := by
  simp [wrS, List.foldl_append]
theorem wrS_len (l : List Ev) (h0 : 0 < l.length) (hf : ∀ x ∈ l, FineE x) (js : List Nat) : (wrS l js).1.length ≤ 9281 * js.length ∧ (wrS l js).2.length = js.length := by
  suffices H : ∀ k, (wrS l (js.take k)).1.length ≤ 9281 * (js.take k).length ∧ (wrS l (js.take k)).2.length = (js.take k).length by
    have := H js.length
    rwa [List.take_length] at this
  intro k
  induction k with
  | zero => simp [wrS]
  | succ k ih =>
    rcases hk : js[k]? with _ | j
    · rw [show js.take (k + 1) = js.take k by rw [List.take_add_one, hk]; simp]; exact ih
    · have e : js.take (k + 1) = js.take k ++ [j] := by rw [List.take_add_one, hk]; rfl
      rw [e, wrS_snoc]
      have h1 := evY_le (pcs l j) (fun x hx => hf x (pcs_mem hx)) (by rw [pcs_len h0]; exact (lnC_facts h0).2.1)
      have h2 : (pgE (pcs l j)).length = 9 + (evY (pcs l j)).length := by unfold pgE; rw [Pg.lay_len] <;> omega
      constructor
      · show ((wrS l (js.take k)).1 ++ _).length ≤ _
        rw [List.length_append, List.length_append, h2, List.length_singleton]; omega
      · show ((wrS l (js.take k)).2 ++ _).length = _
        rw [List.length_append, List.length_append, List.length_singleton, List.length_singleton, ih.2]
/-- How many chunks there are. -/
def segN (l : List Ev) : Nat := (l.length + 63) / 64
def segPg (l : List Ev) : List Nat := (wrS l (chP (segN l))).1
def segCk (l : List Ev) : List Ck := (wrS l (chP (segN l))).2
/-- A segment's bytes. -/
def segB (p : Nat) (l : List Ev) : List Nat := segPg l ++ Pg.lay 102 (footB p (segCk l)) ++ Pg.lay 116 (Pg.four (segPg l).length)
theorem ckF_fold (r : List Ev) : ∀ c : Ck, (r.foldl ckF c).rows = c.rows ∧ (r.foldl ckF c).pl = c.pl ∧ (r.foldl ckF c).oa = c.oa ∧ (r.foldl ckF c).ob = c.ob := by
  induction r with
  | nil => exact fun c => ⟨rfl, rfl, rfl, rfl⟩
  | cons e r ih => intro c; exact ih (ckF c e)
theorem minI_or (a b : Int) : minI a b = a ∨ minI a b = b := by unfold minI; split <;> simp
theorem maxI_or (a b : Int) : maxI a b = a ∨ maxI a b = b := by unfold maxI; split <;> simp
theorem minK_or (a b : ByteArray) : minK a b = a ∨ minK a b = b := by unfold minK; split <;> simp
theorem maxK_or (a b : ByteArray) : maxK a b = a ∨ maxK a b = b := by unfold maxK; split <;> simp
/-- What is told of times and keys is of some of the events. -/
theorem ckF_of (P : Int → Prop) (K : ByteArray → Prop) (r : List Ev) (hr : ∀ x ∈ r, P x.time ∧ K x.key) : ∀ c : Ck, (P c.ta ∧ P c.tz ∧ K c.ka ∧ K c.kz) → (P (r.foldl ckF c).ta ∧ P (r.foldl ckF c).tz ∧ K (r.foldl ckF c).ka ∧ K (r.foldl ckF c).kz) := by
  induction r with
  | nil => exact fun c h => h
  | cons e r ih =>
    intro c h
    have he := hr e (by simp)
    refine ih (fun x hx => hr x (by simp [hx])) (ckF c e) ⟨?_, ?_, ?_, ?_⟩
    · show P (minI c.ta e.time); rcases minI_or c.ta e.time with q | q; (rw [q]; exact h.1); (rw [q]; exact he.1)
    · show P (maxI c.tz e.time); rcases maxI_or c.tz e.time with q | q; (rw [q]; exact h.2.1); (rw [q]; exact he.1)
    · show K (minK c.ka e.key); rcases minK_or c.ka e.key with q | q; (rw [q]; exact h.2.2.1); (rw [q]; exact he.2)
    · show K (maxK c.kz e.key); rcases maxK_or c.kz e.key with q | q; (rw [q]; exact h.2.2.2); (rw [q]; exact he.2)
theorem ckOf_facts (l : List Ev) (x z : Ev) (m p : Nat) (h0 : l[0]? = some x) (hm : l.length = m + 1) (hz : l[m]? = some z) : (ckOf l p).rows = l.length ∧ (ckOf l p).pl = p ∧ (ckOf l p).oa = x.off ∧ (ckOf l p).ob = z.off := by
  have h := ckF_fold l (ckS l p)
  rw [ckS_eq (l := l) (n := l.length) (m := m) (p := p) rfl hm h0 hz] at h
  unfold ckOf
  rw [ckS_eq (l := l) (n := l.length) (m := m) (p := p) rfl hm h0 hz]
  exact h
theorem ckOf_of (P : Int → Prop) (K : ByteArray → Prop) (l : List Ev) (h0 : 0 < l.length) (p : Nat) (hr : ∀ x ∈ l, P x.time ∧ K x.key) : P (ckOf l p).ta ∧ P (ckOf l p).tz ∧ K (ckOf l p).ka ∧ K (ckOf l p).kz := by
  rcases l with _ | ⟨x, r⟩
  · cases h0
  · have := hr x (by simp)
    exact ckF_of P K (x :: r) hr (ckS (x :: r) p) ⟨this.1, this.1, this.2, this.2⟩
theorem ckOf_ok (l : List Ev) (h0 : 0 < l.length) (h6 : l.length ≤ 64) (hf : ∀ x ∈ l, FineE x) (p : Nat) (hp : p < 9223372036854775808) : CkOk (ckOf l p) := by
  obtain ⟨x, hx⟩ : ∃ x, l[0]? = some x := ⟨_, List.getElem?_eq_getElem h0⟩
  obtain ⟨z, hz⟩ : ∃ z, l[l.length - 1]? = some z := ⟨_, List.getElem?_eq_getElem (by omega)⟩
  obtain ⟨e1, e2, e3, e4⟩ := ckOf_facts l x z (l.length - 1) p hx (by omega) hz
  have hxf := hf x (List.mem_of_getElem? hx)
  have hzf := hf z (List.mem_of_getElem? hz)
  obtain ⟨f1, f2, f3, f4⟩ := ckOf_of Wf64 (fun k => k.size ≤ 32) l h0 p (fun y hy => ⟨by have := (hf y hy).time; unfold Wf64; omega, (hf y hy).key⟩)
  exact ⟨by omega, by omega, by rw [e3]; have := hxf.off; omega, by rw [e4]; have := hzf.off; omega, f1, f2, f3, f4⟩
theorem segCk_mem {l : List Ev} {js : List Nat} {c : Ck} (h : c ∈ (wrS l js).2) : ∃ j ∈ js, ∃ k, c = ckOf (pcs l j) (wrS l (js.take k)).1.length := by
  suffices H : ∀ n, c ∈ (wrS l (js.take n)).2 → ∃ j ∈ js, ∃ k, c = ckOf (pcs l j) (wrS l (js.take k)).1.length from H js.length (by rwa [List.take_length])
  intro n
  induction n with
  | zero => intro h; simp [wrS] at h
  | succ n ih =>
    intro h
    rcases hk : js[n]? with _ | j
    · rw [show js.take (n + 1) = js.take n by rw [List.take_add_one, hk]; simp] at h; exact ih h
    · have e : js.take (n + 1) = js.take n ++ [j] := by rw [List.take_add_one, hk]; rfl
      rw [e, wrS_snoc] at h
      rcases List.mem_append.1 h with h | h
      · exact ih h
      · exact ⟨j, List.mem_of_getElem? hk, n, by simpa using h⟩
theorem wrS_ok (l : List Ev) (h0 : 0 < l.length) (hf : ∀ x ∈ l, FineE x) (js : List Nat) (hj : js.length ≤ 100000) : ∀ c ∈ (wrS l js).2, CkOk c := fun c hc => by
  obtain ⟨j, hj2, k, rfl⟩ := segCk_mem hc
  have h1 := (wrS_len l h0 hf (js.take k)).1
  have h2 : (js.take k).length ≤ js.length := by rw [List.length_take]; omega
  exact ckOf_ok _ (by rw [pcs_len h0]; exact (lnC_facts h0).1) (by rw [pcs_len h0]; exact (lnC_facts h0).2.1) (fun x hx => hf x (pcs_mem hx)) _ (by omega)
theorem evAt_pcs {w : World} {g off : Nat} {l : List Ev} (h : EvAt w (some ⟨g, off, none⟩) l) (j : Nat) : EvAt w (some ⟨g, off + stC l.length j * 5, none⟩) (pcs l j) := fun i v hv => by
  have e : (evs (pcs l j))[i]? = some v → (evs l)[stC l.length j * 5 + i]? = some v := by
    intro hv
    have hi : i < (evs (pcs l j)).length := (List.getElem?_eq_some_iff.1 hv).1
    rw [evs_length] at hi
    have hq : i = i / 5 * 5 + i % 5 := by omega
    have h5 : i % 5 < 5 := Nat.mod_lt _ (by decide)
    rw [hq, evs_get (pcs l j) (i / 5) (i % 5) h5] at hv
    rw [show stC l.length j * 5 + i = (stC l.length j + i / 5) * 5 + i % 5 by omega, evs_get l _ _ h5]
    have e2 : (pcs l j)[i / 5]? = l[stC l.length j + i / 5]? := by
      have hlt : i / 5 < (pcs l j).length := by omega
      unfold pcs at hlt ⊢
      rw [List.length_take] at hlt
      rw [List.getElem?_take, if_pos (by omega), List.getElem?_drop]
    rw [← e2]; exact hv
  obtain ⟨g', off', e', hg, hc⟩ := h _ _ (e hv)
  injection e' with e'; injection e' with b1 b2; subst b1; subst b2
  exact ⟨g, _, rfl, hg, by rw [← hc]; congr 2; omega⟩
end Go.Proofs.YtenmjofbamihdaaDoor
