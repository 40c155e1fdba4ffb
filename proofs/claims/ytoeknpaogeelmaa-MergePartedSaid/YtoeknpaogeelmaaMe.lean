/-
  Layer merge: is a run in its order; New.
-/
import Derived.Test.YtoeknpaogeelmaaMd
import Derived.Shelf.SlicesE.Clone
import Derived.Laws.OwnMore
set_option linter.unusedSimpArgs false
set_option linter.unusedVariables false
set_option maxRecDepth 8000
namespace Go.Proofs.Ytoeknpaogeelmaa
open Go.RowKit Go.Sort

section
variable {α : Type} (lt : α → α → Bool)
/-- Each one is not less than the one ahead of it. -/
def ordB : List α → Bool
  | [] => true
  | [_] => true
  | x :: y :: r => !lt y x && ordB (y :: r)
variable {lt}
theorem ordB_get {l : List α} (h : ordB lt l = true) : ∀ (i : Nat) (x y : α), l[i]? = some x → l[i + 1]? = some y → lt y x = false := by
  induction l with
  | nil => intro i x y h1; simp at h1
  | cons a r ih =>
    intro i x y h1 h2
    rcases r with _ | ⟨b, r⟩
    · simp at h2
    · rw [ordB, Bool.and_eq_true] at h
      rcases i with _ | i
      · simp at h1 h2; subst h1; subst h2; simpa using h.1
      · exact ih h.2 i x y (by simpa using h1) (by simpa using h2)
theorem ordB_of {l : List α} (h : ∀ (i : Nat) (x y : α), l[i]? = some x → l[i + 1]? = some y → lt y x = false) : ordB lt l = true := by
  induction l with
  | nil => rfl
  | cons a r ih =>
    rcases r with _ | ⟨b, r⟩
    · rfl
    · rw [ordB, Bool.and_eq_true]
      exact ⟨by simpa using h 0 a b rfl rfl, ih fun i x y h1 h2 => h (i + 1) x y (by simpa using h1) (by simpa using h2)⟩
theorem ordB_iff (W : Wk lt) (l : List α) : ordB lt l = true ↔ Ordered lt l := by
  constructor
  · intro h
    induction l with
    | nil => exact List.Pairwise.nil
    | cons a r ih =>
      rcases r with _ | ⟨b, r⟩
      · exact List.pairwise_singleton _ _
      · rw [ordB, Bool.and_eq_true] at h
        have h2 := ih h.2
        rw [Ordered, List.pairwise_cons]
        refine ⟨fun y hy => ?_, h2⟩
        have h1 : lt b a = false := by simpa using h.1
        rcases List.mem_cons.1 hy with rfl | hy
        · exact h1
        · rw [Ordered, List.pairwise_cons] at h2
          exact W.nt _ _ _ (h2.1 y hy) h1
  · intro h
    refine ordB_of fun i x y h1 h2 => ?_
    obtain ⟨hi, rfl⟩ := List.getElem?_eq_some_iff.1 h1
    obtain ⟨hj, rfl⟩ := List.getElem?_eq_some_iff.1 h2
    exact List.pairwise_iff_getElem.1 h i (i + 1) hi hj (by omega)
end
set_option maxHeartbeats 4000000 in
/-- Is a run in its order? -/
theorem inOrder_any (a : Option Addr) (n c : Nat) (l : List Ev) (hn : Hid (n = l.length)) (h1 : n ≤ 1000) (hnc : n ≤ c) (W : World) (HA : Hid (EvAt W a l)) :
    Calls Try.prog 16 #[.slice a n c] W fun e w' => e = .returned (.bool (ordB ltM l)) ∧ Below W.heap.size W w' := by
  go_enter Try.func16, Try.ntmps16
  go_wp2
  go_loopw [3] (fun v wr => ∃ i : Nat, 1 ≤ i ∧ (i ≤ n ∨ i = 1) ∧ v = .int .i64 (i : Int) ∧ (∀ (j : Nat) (x y : Ev), j + 1 < i → l[j]? = some x → l[j + 1]? = some y → ltM y x = false) ∧ Below W.heap.size W wr) (fun v _ => n - (intOf v).toNat)
  case atStart => exact ⟨1, Nat.le_refl _, .inr rfl, rfl, fun j x y h => by omega, Below.refl _ _⟩
  case round =>
    obtain ⟨i, hi1, hi2, rfl, hall, hb⟩ := hrel
    have HALL := Lib.hid hall; have HB := Lib.hid hb
    clear hall hb
    by_cases hin : i < n
    · obtain ⟨j, hj⟩ : ∃ j, i = j + 1 := ⟨i - 1, by omega⟩
      have hll := hn.out
      obtain ⟨x, hx⟩ : ∃ x, l[j]? = some x := ⟨_, List.getElem?_eq_getElem (by omega)⟩
      obtain ⟨y, hy⟩ : ∃ y, l[i]? = some y := ⟨_, List.getElem?_eq_getElem (by omega)⟩
      obtain ⟨g, off, rfl, hg, hrx⟩ := evr HA.out j x hx
      obtain ⟨g', off', e, hg', hry⟩ := evr HA.out i y hy
      injection e with e; injection e with e1 e2; subst e1; subst e2
      have HRX : Hid (∀ w2, Below wr.heap.size wr w2 → w2.rangeAt g (off + j * 5) x.cells) := Lib.hid fun w2 h => rkeep hrx hg (HB.out.trans (h.mono HB.out.size))
      have HRY : Hid (∀ w2, Below wr.heap.size wr w2 → w2.rangeAt g (off + i * 5) y.cells) := Lib.hid fun w2 h => rkeep hry hg (HB.out.trans (h.mono HB.out.size))
      obtain ⟨yx, hyx⟩ : ∃ yx, lessB y x = yx := ⟨_, rfl⟩
      have HL := Lib.hid hyx; have HX := Lib.hid hx; have HY := Lib.hid hy; have HJ := Lib.hid hj
      have hini : (i : Int) < (n : Int) := by omega
      have hji : (i : Int) - 1 = (j : Int) := by omega
      have hjn : (j : Int) < (n : Int) := by omega
      have hjw : IntKind.i64.wrap (j : Int) = (j : Int) := by rw [IntKind.wrap_i64]; omega
      clear hx hy hrx hry hg hg' hyx hj hll
      go_upto_region 4 with fail
      have hh0 : Below wr.heap.size wr wr.drew := (Below.refl _ _).drew
      refine wp_region_held_drew (S := fun w2 => Below wr.heap.size wr w2) (by kernel_rfl) hh0 (fun hHeld => ?_)
      refine wpAnyH_take (i := 0) (v := .slice (some ⟨g, off, none⟩) n c) rfl (by kernel_rfl) (by kernel_rfl) (by kernel_rfl) (fun _ _ _ h => h) (Or.inl ⟨by rfl, fun _ _ => rfl⟩) hHeld ?_
      try dsimp only
      try simp only [Act.put, List.getElem_toArray, List.getElem_cons_zero, List.getElem_cons_succ, List.setIfInBounds_toArray, List.set_cons_zero, List.set_cons_succ]
      refine wpAnyH_take (i := 1) (v := .int .i64 (i : Int)) rfl (by kernel_rfl) (by kernel_rfl) (by kernel_rfl) (fun _ _ _ h => h) (Or.inl ⟨by rfl, fun _ _ => rfl⟩) hHeld ?_
      try dsimp only
      try simp only [Act.put, List.getElem_toArray, List.getElem_cons_zero, List.getElem_cons_succ, List.setIfInBounds_toArray, List.set_cons_zero, List.set_cons_succ]
      refine wpAnyH_take (i := 2) (v := .pointer (some ⟨g, off + i * 5, none⟩)) rfl (by kernel_rfl) (by kernel_rfl) (by kernel_rfl) (fun _ _ _ h => h) (Or.inl ⟨by rfl, fun w _ => by go_simp⟩) hHeld ?_
      try dsimp only
      try simp only [Act.put, List.getElem_toArray, List.getElem_cons_zero, List.getElem_cons_succ, List.setIfInBounds_toArray, List.set_cons_zero, List.set_cons_succ]
      refine wpAnyH_take (i := 3) (v := .agg y.cells.toArray) rfl (by kernel_rfl) (by kernel_rfl) (by kernel_rfl) (fun _ _ _ h => h) (yieldsIf_load_mid rfl 38 (.tmp 12) rfl g (off + i * 5) rfl y.cells _ (fun w hw => HRY.out w hw) uEvent rfl (iEvent y)) hHeld ?_
      try dsimp only
      try simp only [Act.put, List.getElem_toArray, List.getElem_cons_zero, List.getElem_cons_succ, List.setIfInBounds_toArray, List.set_cons_zero, List.set_cons_succ]
      refine wpAnyH_take (i := 4) (v := .slice (some ⟨g, off, none⟩) n c) rfl (by kernel_rfl) (by kernel_rfl) (by kernel_rfl) (fun _ _ _ h => h) (Or.inl ⟨by rfl, fun _ _ => rfl⟩) hHeld ?_
      try dsimp only
      try simp only [Act.put, List.getElem_toArray, List.getElem_cons_zero, List.getElem_cons_succ, List.setIfInBounds_toArray, List.set_cons_zero, List.set_cons_succ]
      refine wpAnyH_take (i := 5) (v := .int .i64 (i : Int)) rfl (by kernel_rfl) (by kernel_rfl) (by kernel_rfl) (fun _ _ _ h => h) (Or.inl ⟨by rfl, fun _ _ => rfl⟩) hHeld ?_
      try dsimp only
      try simp only [Act.put, List.getElem_toArray, List.getElem_cons_zero, List.getElem_cons_succ, List.setIfInBounds_toArray, List.set_cons_zero, List.set_cons_succ]
      refine wpAnyH_take (i := 6) (v := .int .i64 (j : Int)) rfl (by kernel_rfl) (by kernel_rfl) (by kernel_rfl) (fun _ _ _ h => h) (Or.inl ⟨by rfl, fun w _ => by go_simp; try omega⟩) hHeld ?_
      try dsimp only
      try simp only [Act.put, List.getElem_toArray, List.getElem_cons_zero, List.getElem_cons_succ, List.setIfInBounds_toArray, List.set_cons_zero, List.set_cons_succ]
      refine wpAnyH_take (i := 7) (v := .pointer (some ⟨g, off + j * 5, none⟩)) rfl (by kernel_rfl) (by kernel_rfl) (by kernel_rfl) (fun _ _ _ h => h) (Or.inl ⟨by rfl, fun w _ => by go_simp; try omega⟩) hHeld ?_
      try dsimp only
      try simp only [Act.put, List.getElem_toArray, List.getElem_cons_zero, List.getElem_cons_succ, List.setIfInBounds_toArray, List.set_cons_zero, List.set_cons_succ]
      refine wpAnyH_take (i := 8) (v := .agg x.cells.toArray) rfl (by kernel_rfl) (by kernel_rfl) (by kernel_rfl) (fun _ _ _ h => h) (yieldsIf_load_mid rfl 38 (.tmp 17) rfl g (off + j * 5) rfl x.cells _ (fun w hw => HRX.out w hw) uEvent rfl (iEvent x)) hHeld ?_
      try dsimp only
      try simp only [Act.put, List.getElem_toArray, List.getElem_cons_zero, List.getElem_cons_succ, List.setIfInBounds_toArray, List.set_cons_zero, List.set_cons_succ]
      refine wpAnyH_ready (rs := [9]) (by kernel_rfl) (by simp) (AllReadyH.cons rfl (fun K hK => ?_) AllReadyH.nil)
      go_simp
      refine (evLess_any y x _).mono ?_
      rintro e w9 ⟨rfl, hb9⟩
      rw [HL.out]
      refine hK.out _ _ (bto hHeld hb9) (fun hHeld => ?_)
      clear hK K
      refine wpAnyH_done (by kernel_rfl) ?_ _
      have HB9 := Lib.hid (bto HB.out hHeld)
      clear hHeld hh0
      cases yx
      · go_wp2
        go_roundw
        case rel => exact ⟨i + 1, by omega, .inl (by omega), by go_num, fun j2 x2 y2 g1 g2 g3 => by
          by_cases e : j2 + 1 = i
          · have e2 : j2 = j := by have := HJ.out; omega
            subst e2
            rw [HX.out] at g2; injection g2 with g2; subst g2
            rw [e, HY.out] at g3; injection g3 with g3; subst g3
            exact HL.out
          · exact HALL.out j2 x2 y2 (by omega) g2 g3, HB9.out⟩
        case measure => simp [intOf]; omega
      · have HNO : Hid (ordB ltM l = false) := Lib.hid (by
          rcases h : ordB ltM l with _ | _
          · rfl
          · have h2 := ordB_get h j x y HX.out (HJ.out ▸ HY.out)
            rw [ltM_less, HL.out] at h2; cases h2)
        go_wp2
        go_ret
        exact ⟨ret_eq (by rw [HNO.out]; rfl), HB9.out⟩
    · have HYES : Hid (ordB ltM l = true) := Lib.hid (ordB_of fun j x y g1 g2 => HALL.out j x y (by
        have := (List.getElem?_eq_some_iff.1 g2).1
        have := hn.out; omega) g1 g2)
      go_wp2
      go_ret
      exact ⟨ret_eq (by rw [HYES.out]; rfl), HB.out⟩
end Go.Proofs.Ytoeknpaogeelmaa
