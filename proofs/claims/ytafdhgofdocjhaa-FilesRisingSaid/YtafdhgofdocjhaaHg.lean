/-
  Layer files: what a fall leaves of a file among many.
-/
import Derived.Test.YtafdhgofdocjhaaHc
set_option linter.unusedSimpArgs false
set_option linter.unusedVariables false
namespace Go.Proofs.Ytafdhgofdocjhaa
open Go.RowKit Go.WideShapes

section
variable {W : World} {g f fcap : Nat} {room armed ops : Int} {off : Bool} {r : List Value} {xs : List Fil} {w w' : World}
theorem SN.cut (h : SN W g room off armed ops f fcap r xs w) (q : Nat) (x : Fil) (hx : xs[q]? = some x) (k : Nat) (hk : k ≤ x.l.length) : SN W g room off armed ops f fcap r (xs.set q { x with l := x.l.take k, du := k }) ((w.setCell ⟨f, q * 3 + 2, none⟩ (.int .i64 (k : Nat))).drew.setCell ⟨f, q * 3 + 1, none⟩ (.slice x.A k x.cap)) := by
  have h1 := (h.putDu q x hx k).drew
  have hql := (List.getElem?_eq_some_iff.1 hx).1
  have hxq : (xs.set q { x with du := k })[q]? = some { x with du := k } := by rw [List.getElem?_set_self hql]
  have hl : (x.l.take k).length = k := by rw [List.length_take]; omega
  have hcase : ∀ (j : Nat) (z : Fil), (xs.set q { x with l := x.l.take k, du := k })[j]? = some z → (j = q ∧ z = { x with l := x.l.take k, du := k }) ∨ (j ≠ q ∧ (xs.set q { x with du := k })[j]? = some z) := fun j z hz => by
    rcases set_cases hz with h2 | ⟨hj, hu⟩
    · exact .inl h2
    · exact .inr ⟨hj, by rw [List.getElem?_set_ne (Ne.symm hj)]; exact hu⟩
  have hA : ∀ (j : Nat) (z : Fil), (xs.set q { x with l := x.l.take k, du := k })[j]? = some z → ∃ u, (xs.set q { x with du := k })[j]? = some u ∧ z.A = u.A := fun j z hz => by
    rcases hcase j z hz with ⟨rfl, rfl⟩ | ⟨-, hu⟩
    · exact ⟨_, hxq, rfl⟩
    · exact ⟨z, hu, rfl⟩
  refine ⟨gb_set h1.below (.inr h1.fbase) _ _, h1.fbase, h1.ne, by have := row_far (i := q * 3 + 1) (u := .slice x.A k x.cap) (Ne.symm h1.ne) h1.st; rw [List.length_set] at this ⊢; exact this, ?_, by have := h1.fc; rw [List.length_set] at this ⊢; exact this, fun j z hz => ?_, fun j z hz => ?_, fun j z hz => ?_, fun i j y z hij hy hz => ?_⟩
  · have e := flat_set (xs.set q { x with du := k }) r q { x with du := k } { x with l := x.l.take k, du := k } hxq 1 (by decide) (.slice x.A k x.cap) (by simp [flC3, hl])
    rw [List.set_set] at e
    rw [← e]; exact row_set h1.fl _ _
  · rcases hcase j z hz with ⟨rfl, rfl⟩ | ⟨hj, hu⟩
    · have o := own_far (i := j * 3 + 1) (u := .slice x.A k x.cap) ((h1.own j _ hxq).cut k hk) (h1.sf j _ hxq)
      show OwnS _ _ x.A (x.l.take k).length x.cap (x.l.take k)
      rw [hl]; exact o
    · exact own_far (h1.own j z hu) (h1.sf j z hu)
  · obtain ⟨u, hu, e⟩ := hA j z hz; rw [e]; exact h1.sg j u hu
  · obtain ⟨u, hu, e⟩ := hA j z hz; rw [e]; exact h1.sf j u hu
  · obtain ⟨u, hu, e⟩ := hA i y hy; obtain ⟨v, hv, e'⟩ := hA j z hz; rw [e, e']; exact h1.ap i j u v hij hu hv
set_option maxHeartbeats 4000000 in
theorem fall_N (q : Nat) (x : Fil) (hx : Hid (xs[q]? = some x)) (kept : Int) (hk : -1000000000000 ≤ kept ∧ kept ≤ 1000000000000) (k : Nat) (hst : Hid (k = stay x.l.length x.du kept)) (hdu : x.du ≤ x.l.length) (hl : x.l.length ≤ 100000000) (w : World) (hs : Hid (SN W g room off armed ops f fcap r xs w)) :
    Calls Try.prog 47 #[.pointer (some ⟨f, q * 3, none⟩), .int .i64 kept] w fun e w' => e = .returned (.tuple #[]) ∧ SN W g room off armed ops f fcap r (xs.set q { x with l := x.l.take k, du := k }) w' := by
  obtain ⟨k1, k2⟩ := hk
  have hkl : k ≤ x.l.length := by rw [hst.out]; exact stay_le _ _ _ hdu
  have HSL := Lib.hid (own_slice (hs.out.own q x hx.out) k hkl)
  have HS1 := Lib.hid hs.out.drew
  have c1 := (HS1.out.files q x hx.out).2.2.1
  have c2 := (HS1.out.files q x hx.out).2.2.2
  have hw1 : IntKind.i64.wrap ((x.l.length : Int) - (x.du : Int)) = (x.l.length : Int) - (x.du : Int) := IntWalk.i64_in _ (by omega)
  have hcase : (kept < 0 ∧ k = x.l.length) ∨ ((0 ≤ kept ∧ (x.l.length : Int) - x.du < kept) ∧ k = x.l.length) ∨ ((0 ≤ kept ∧ kept ≤ (x.l.length : Int) - x.du) ∧ (k : Int) = x.du + kept) := by
    have h := hst.out
    unfold stay at h
    by_cases h1 : kept < 0
    · rw [if_pos (.inl h1)] at h; exact .inl ⟨h1, h⟩
    · by_cases h2 : (x.l.length : Int) - x.du < kept
      · rw [if_pos (.inr h2)] at h; exact .inr (.inl ⟨⟨by omega, h2⟩, h⟩)
      · rw [if_neg (by omega)] at h; exact .inr (.inr ⟨⟨by omega, by omega⟩, by omega⟩)
  go_enter Try.func47, Try.ntmps47
  go_upto_region 0 with fail
  go_still_tail 10, (by kernel_rfl)
  change wpList _ _ _ _ _ (World.drew _)
  generalize World.drew w = w1 at *
  have HC1 := Lib.hid c1
  have kf1 := HS1.out.ff (q * 3 + 2)
  clear hs hst hw1
  rcases hcase with ⟨h1, h3⟩ | ⟨⟨h1, h2⟩, h3⟩ | ⟨⟨h1, h2⟩, h3⟩
  · have hsum : (x.du : Int) + ((x.l.length : Int) - (x.du : Int)) = (k : Int) := by omega
    clear h3
    go_upto_region 4 with fail
    have hq := HS1.out.putDu q x hx.out k
    have hxq : (xs.set q { x with du := k })[q]? = some { x with du := k } := by rw [List.getElem?_set_self (List.getElem?_eq_some_iff.1 hx.out).1]
    have HCUT := Lib.hid (HS1.out.cut q x hx.out k hkl)
    generalize World.setCell w1 _ _ = wa at *
    have d1 := (hq.drew.files q _ hxq).2.2.1
    have d2 := (hq.drew.files q _ hxq).2.2.2
    have dk := hq.drew.ff (q * 3 + 1)
    have sl := HSL.out
    clear hq hxq c1 c2 kf1 hsum
    go_still_tail 12, (by kernel_rfl)
    change wpList _ _ _ _ _ (World.drew _)
    generalize World.drew _ = wz at *
    go_wp2
    go_end0
    exact ⟨rfl, HCUT.out⟩
  · have hsum : (x.du : Int) + ((x.l.length : Int) - (x.du : Int)) = (k : Int) := by omega
    clear h3
    go_upto_region 4 with fail
    have hq := HS1.out.putDu q x hx.out k
    have hxq : (xs.set q { x with du := k })[q]? = some { x with du := k } := by rw [List.getElem?_set_self (List.getElem?_eq_some_iff.1 hx.out).1]
    have HCUT := Lib.hid (HS1.out.cut q x hx.out k hkl)
    generalize World.setCell w1 _ _ = wa at *
    have d1 := (hq.drew.files q _ hxq).2.2.1
    have d2 := (hq.drew.files q _ hxq).2.2.2
    have dk := hq.drew.ff (q * 3 + 1)
    have sl := HSL.out
    clear hq hxq c1 c2 kf1 hsum
    go_still_tail 12, (by kernel_rfl)
    change wpList _ _ _ _ _ (World.drew _)
    generalize World.drew _ = wz at *
    go_wp2
    go_end0
    exact ⟨rfl, HCUT.out⟩
  · have hsum : (x.du : Int) + kept = (k : Int) := by omega
    clear h3
    go_upto_region 4 with fail
    have hq := HS1.out.putDu q x hx.out k
    have hxq : (xs.set q { x with du := k })[q]? = some { x with du := k } := by rw [List.getElem?_set_self (List.getElem?_eq_some_iff.1 hx.out).1]
    have HCUT := Lib.hid (HS1.out.cut q x hx.out k hkl)
    generalize World.setCell w1 _ _ = wa at *
    have d1 := (hq.drew.files q _ hxq).2.2.1
    have d2 := (hq.drew.files q _ hxq).2.2.2
    have dk := hq.drew.ff (q * 3 + 1)
    have sl := HSL.out
    clear hq hxq c1 c2 kf1 hsum
    go_still_tail 12, (by kernel_rfl)
    change wpList _ _ _ _ _ (World.drew _)
    generalize World.drew _ = wz at *
    go_wp2
    go_end0
    exact ⟨rfl, HCUT.out⟩
end
end Go.Proofs.Ytafdhgofdocjhaa
