/-
  A sum's bytes, read again, are the sum: plain facts, and both calls.
-/
import Derived.Test.YthklamgdoknmeaaLr
import Derived.Test.YthklamgdoknmeaaLc
set_option linter.unusedSimpArgs false
set_option linter.unusedVariables false
set_option maxRecDepth 8000
namespace Go.Proofs.Ythklamgdoknmeaa
open Go.RowKit Sm

theorem top_bytes : top = 256 ^ 280 := by decide +kernel
theorem vl_range (n : Nat) : ∀ k, vl ((List.range k).map (bt n)) = n % 256 ^ k
  | 0 => by simp [vl, Nat.mod_one]
  | k + 1 => by
    rw [List.range_succ, List.map_append, List.map_singleton, vl_snoc, vl_range n k, List.length_map, List.length_range, Nat.mod_pow_succ]
    rfl
theorem vl_fl (n : Nat) (h : n < top) : vl (fl280 n 280) = n := by
  have e : fl280 n 280 = (List.range 280).map (bt n) := by
    unfold fl280
    exact List.map_congr_left fun i hi => by rw [if_pos (List.mem_range.1 hi)]
  rw [e, vl_range, ← top_bytes, Nat.mod_eq_of_lt h]
theorem xt_ext {r q : List Nat} (h : ∀ j, j < 280 → (if j < r.length then r.getD j 0 else sgB r) = (if j < q.length then q.getD j 0 else sgB q)) : xt r 280 = xt q 280 := by
  unfold xt
  refine List.map_congr_left fun j hj => ?_
  have hj := List.mem_range.1 hj
  have := h j hj
  simp only [hj, if_true]
  exact this
theorem xt_more (r : List Nat) (x : Nat) (hx : x = sgB r) : xt (r ++ [x]) 280 = xt r 280 := by
  have hs : sgB (r ++ [x]) = sgB r := by
    rw [sgB_of (r ++ [x]) x r.length (by simp) (by simp), hx]
    rcases sgB_two r with h | h <;> rw [h] <;> rfl
  refine xt_ext fun j hj => ?_
  rw [hs]
  rcases Nat.lt_trichotomy j r.length with h | h | h
  · rw [if_pos (by simp; omega), if_pos h, List.getD_eq_getElem?_getD, List.getD_eq_getElem?_getD, List.getElem?_append_left h]
  · subst h
    rw [if_pos (by simp), if_neg (Nat.lt_irrefl _), List.getD_eq_getElem?_getD, List.getElem?_append_right (Nat.le_refl _)]
    simpa using hx
  · rw [if_neg (by simp; omega), if_neg (by omega)]
theorem xt_whole (F : List Nat) (h : F.length = 280) : xt F 280 = F := by
  refine List.ext_getElem? fun j => ?_
  by_cases hj : j < 280
  · rw [xt_get F 280 j hj, if_pos (by omega), List.getD_eq_getElem?_getD, List.getElem?_eq_getElem (by omega)]; rfl
  · rw [List.getElem?_eq_none (by rw [xt_len]; omega), List.getElem?_eq_none (by omega)]
theorem spB_concat (r : List Nat) (x : Nat) : spB (r ++ [x]) = (x == sgB r) := by unfold spB; simp
theorem strip_spec (F : List Nat) (h : F.length = 280) : ∀ m, m ≤ 280 → ∃ k, k ≤ m ∧ strip F m = F.take k ∧ spB (F.take k) = false ∧ xt (F.take k) 280 = xt (F.take m) 280 := by
  intro m
  induction m with
  | zero => intro _; exact ⟨0, Nat.le_refl _, by rw [strip_end F 0 (by simp [spB])], by simp [spB], rfl⟩
  | succ m ih =>
    intro hm
    cases hs : spB (F.take (m + 1))
    · exact ⟨m + 1, Nat.le_refl _, strip_end F _ hs, hs, rfl⟩
    · obtain ⟨k, h1, h2, h3, h4⟩ := ih (by omega)
      refine ⟨k, by omega, by rw [strip_on F _ (by omega) hs]; exact h2, h3, ?_⟩
      have e : F.take (m + 1) = F.take m ++ [F[m]] := List.take_succ_eq_append_getElem (by omega)
      rw [e, spB_concat] at hs
      rw [h4, e, xt_more _ _ (eq_of_beq hs)]
/-- What a sum may have beside a number. -/
def Poss (h n : Nat) : Prop := h < 32 ∧ h / 8 % 2 = 1 ∧ (h / 16 % 2 = 0 → h = 8 ∧ n = 0) ∨ h = 0 ∧ n = 0
theorem vl_nought : vl (xt [] 280) = 0 := by decide +kernel
theorem strip_nought : strip (fl280 0 280) 280 = [] := by
  have e : fl280 0 280 = xt [] 280 := by
    have h := fl280_vl (xt [] 280) (xt_lt [] 280 (by simp)) (xt_len [] 280)
    rw [vl_nought] at h
    exact h
  rw [e]
  exact xt_strip [] (by simp [spB]) 280 (by simp) (Nat.le_refl _)
theorem poss_ok (h n : Nat) (hp : Poss h n) (hn : n < top) : okP (h :: strip (fl280 n 280) 280) = true ∧ vl (xt (strip (fl280 n 280) 280) 280) = n := by
  obtain ⟨k, h1, h2, h3, h4⟩ := strip_spec (fl280 n 280) (fl280_len n 280) 280 (Nat.le_refl _)
  have e : (fl280 n 280).take 280 = fl280 n 280 := List.take_of_length_le (Nat.le_of_eq (fl280_len n 280))
  rw [e, xt_whole _ (fl280_len n 280)] at h4
  refine ⟨?_, by rw [h2, h4, vl_fl n hn]⟩
  have hl : (strip (fl280 n 280) 280).length ≤ 280 := by rw [h2, List.length_take]; omega
  have hs : spB (strip (fl280 n 280) 280) = false := by rw [h2]; exact h3
  unfold okP
  simp only [decide_eq_true hl, hs, Bool.not_false, Bool.true_and]
  unfold possB
  rcases hp with ⟨p1, p2, p3⟩ | ⟨rfl, rfl⟩
  · rw [if_neg (by omega)]
    by_cases hc : h / 16 % 2 = 1
    · rw [if_pos hc]; simpa using p2
    · obtain ⟨rfl, rfl⟩ := p3 (by omega)
      rw [strip_nought]; decide
  · rw [strip_nought]; decide
theorem or_bits (h k : Nat) (hh : h < 32) (hk : k < 32) : (h ||| k) / 8 % 2 = max (h / 8 % 2) (k / 8 % 2) ∧ (h ||| k) / 16 % 2 = max (h / 16 % 2) (k / 16 % 2) ∧ (h ||| k) < 32 := by
  have key : ∀ p q : _root_.Fin 32, (p.val ||| q.val) / 8 % 2 = max (p.val / 8 % 2) (q.val / 8 % 2) ∧ (p.val ||| q.val) / 16 % 2 = max (p.val / 16 % 2) (q.val / 16 % 2) ∧ (p.val ||| q.val) < 32 := by decide +kernel
  exact key ⟨h, hh⟩ ⟨k, hk⟩
theorem kind_cases (b : Nat) : kindB b / 8 % 2 = 1 ∧ kindB b < 32 ∧ (kindB b / 16 % 2 = 1 ∨ kindB b = 8 ∧ b = 9223372036854775808) := by
  unfold kindB
  split
  · exact ⟨by decide, by decide, .inl (by decide)⟩
  · split
    · split <;> exact ⟨by decide, by decide, .inl (by decide)⟩
    · split
      · exact ⟨by decide, by decide, .inr ⟨rfl, by assumption⟩⟩
      · exact ⟨by decide, by decide, .inl (by decide)⟩
theorem poss_acc (l : List Nat) : Poss (accH l) (accN l) :=
  list_snoc (p := fun l => Poss (accH l) (accN l)) (.inr ⟨rfl, rfl⟩) (fun l b ih => by
    rw [accH_snoc, accN_snoc]
    obtain ⟨k1, k2, k3⟩ := kind_cases b
    have hl : accH l < 32 := accH_lt l
    obtain ⟨o1, o2, o3⟩ := or_bits (accH l) (kindB b) hl k2
    refine .inl ⟨o3, by rw [o1, k1]; omega, fun h0 => ?_⟩
    rw [o2] at h0
    rcases k3 with c | ⟨c, rfl⟩
    · omega
    · have u0 : unit 9223372036854775808 = 0 := by decide +kernel
      rw [c, u0]
      rcases ih with ⟨i1, i2, i3⟩ | ⟨i1, i2⟩
      · obtain ⟨j1, j2⟩ := i3 (by omega)
        rw [j1, j2]; exact ⟨rfl, rfl⟩
      · rw [i1, i2]; exact ⟨rfl, rfl⟩) l
def BkGives (n h : Nat) : Prop := ∀ w, Calls Try.prog 17 #[.agg (P36 (wd n) h)] w fun e w' => ∃ A N C, e = .returned (.slice A N C) ∧ Hid (Calls Try.prog 84 #[.slice A N C] w' (RetY w' n h)) ∧ Below w.heap.size w w'
theorem BkGives.at {n h : Nat} (H : BkGives n h) (w : World) : Calls Try.prog 17 #[.agg (P36 (wd n) h)] w fun e w' => ∃ A N C, e = .returned (.slice A N C) ∧ Hid (Calls Try.prog 84 #[.slice A N C] w' (RetY w' n h)) ∧ Below w.heap.size w w' := H w
theorem back_any (n h : Nat) (hn : n < top) (hp : Poss h n) : BkGives n h := fun w => by
  obtain ⟨h1, h2⟩ := poss_ok h n hp hn
  have hh : h < 256 := by rcases hp with ⟨p, -, -⟩ | ⟨p, -⟩ <;> omega
  refine (sumBytes_any n h hh w).mono ?_
  rintro e w' ⟨A, C, rfl, own, hb⟩
  refine ⟨A, _, C, rfl, Lib.hid ?_, hb⟩
  have hr := xread_yes A h (strip (fl280 n 280) 280) _ C (Lib.hid rfl) own.caps.1 h1 w' (Lib.hid own.byAt)
  rwa [h2] at hr
end Go.Proofs.Ythklamgdoknmeaa
