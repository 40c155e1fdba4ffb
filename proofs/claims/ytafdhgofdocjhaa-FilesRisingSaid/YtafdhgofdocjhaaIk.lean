/-
  Layer files: Append that finds no room; how many bytes the files of a name have: plain facts.
-/
import Derived.Test.YtafdhgofdocjhaaIi
set_option linter.unusedSimpArgs false
set_option linter.unusedVariables false
namespace Go.Proofs.Ytafdhgofdocjhaa
open Go.RowKit Go.WideShapes

section
variable {W : World} {g : Nat} {room armed ops : Int} {xs : List Fil} {w w' : World}
theorem SA.drew {off : Bool} (h : SA W g room off armed ops xs w) : SA W g room off armed ops xs w.drew := h.next (Below.refl _ _).drew
set_option maxHeartbeats 4000000 in
theorem append_full {t : ByteArray} (hts : t.size ≤ 281474976710656) (hform : formK t = true) (hn : xs.length ≤ 1000) (hs0 : sumN xs ≤ 16777216) (lo : Nat) (hlo : Hid (Place xs t lo)) (w : World) (hs : Hid (SA W g room false armed ops xs w))
    (p : Option Addr) (n c : Nat) (hroom : room ≤ 16777216) (hfit : room - (sumN xs : Nat) < (n : Int)) (hr0 : 0 ≤ room) :
    Calls Try.prog 13 #[.pointer (some ⟨g, 0, none⟩), .string t, .slice p n c] w fun z w' => z = .returned (.int .i64 10) ∧ Below w.heap.size w w' := by
  have hb := (Below.refl w.heap.size w).alloc (Nat.le_refl _) (.cells #[.string t] 9)
  have h' := hs.out.next hb
  have hR := refuses_any1 g w.heap.size t false (w.alloc (.cells #[.string t] 9)) (by simp [World.cell?_alloc_new]) h'.g2
  rw [hform] at hR
  change Calls _ _ _ _ (fun e w' => e = .returned (.int .i64 0) ∧ _) at hR
  have H := Lib.hid hR
  have HF := Lib.hid (find_A t hn lo hlo _ (Lib.hid h'))
  have HB0 := Lib.hid hb
  have HS := Lib.hid h'
  have HU : Hid (∀ w, Hid (SA W g room false armed ops xs w) → Calls Try.prog 28 #[.pointer (some ⟨g, 0, none⟩)] w fun e w' => e = .returned (.int .i64 (sumN xs : Nat)) ∧ Below w.heap.size w w') := Lib.hid fun w hs => used_A hn (by omega) w hs
  clear h' hb hs hR hlo
  generalize isAt xs t lo = bb at *
  generalize sumN xs = S at *
  have hwr : IntKind.i64.wrap (room - (S : Int)) = room - (S : Int) := IntWalk.i64_in _ (by omega)
  have hdec : decide (room - (S : Int) < (n : Int)) = true := by simp; omega
  go_enter Try.func13, Try.ntmps13
  go_upto_region 5 with (first
    | (go_at_call 35; refine H.out.mono ?_; rintro e w' ⟨rfl, rfl⟩)
    | (go_at_call 36; refine HF.out.mono ?_; rintro e w1 ⟨rfl, hb⟩; have HS1 := Lib.hid (HS.out.next hb); have HB1 := Lib.hid (below_to HB0.out hb); clear hb))
  have HB3 := Lib.hid (HB1.out.drew)
  have HS2 := Lib.hid HS1.out.drew
  clear HS HS1 HB0 HB1 H HF
  refine wp_region_held_drew (S := SA W g room false armed ops xs) (by kernel_rfl) HS2.out (fun hHeld => ?_)
  refine wpAnyH_take (i := 0) (v := .slice p n c) rfl (by kernel_rfl) (by kernel_rfl) (by kernel_rfl) (fun _ _ _ h => h) (Or.inl ⟨by rfl, fun _ _ => rfl⟩) hHeld ?_
  try dsimp only
  try simp only [Act.put, List.getElem_toArray, List.getElem_cons_zero, List.getElem_cons_succ, List.setIfInBounds_toArray, List.set_cons_zero, List.set_cons_succ]
  refine wpAnyH_take (i := 1) (v := .int .i64 (n : Nat)) rfl (by kernel_rfl) (by kernel_rfl) (by kernel_rfl) (fun _ _ _ h => h) (Or.inl ⟨by rfl, fun w _ => by go_simp⟩) hHeld ?_
  try dsimp only
  try simp only [Act.put, List.getElem_toArray, List.getElem_cons_zero, List.getElem_cons_succ, List.setIfInBounds_toArray, List.set_cons_zero, List.set_cons_succ]
  refine wpAnyH_take (i := 2) (v := .pointer (some ⟨g, 0, none⟩)) rfl (by kernel_rfl) (by kernel_rfl) (by kernel_rfl) (fun _ _ _ h => h) (Or.inl ⟨by rfl, fun _ _ => rfl⟩) hHeld ?_
  try dsimp only
  try simp only [Act.put, List.getElem_toArray, List.getElem_cons_zero, List.getElem_cons_succ, List.setIfInBounds_toArray, List.set_cons_zero, List.set_cons_succ]
  refine wpAnyH_take (i := 3) (v := .pointer (some ⟨g, 0, none⟩)) rfl (by kernel_rfl) (by kernel_rfl) (by kernel_rfl) (fun _ _ _ h => h) (Or.inl ⟨by rfl, fun w _ => by go_simp⟩) hHeld ?_
  try dsimp only
  try simp only [Act.put, List.getElem_toArray, List.getElem_cons_zero, List.getElem_cons_succ, List.setIfInBounds_toArray, List.set_cons_zero, List.set_cons_succ]
  refine wpAnyH_take (i := 4) (v := .pointer (some ⟨g, 0, none⟩)) rfl (by kernel_rfl) (by kernel_rfl) (by kernel_rfl) (fun _ _ _ h => h) (Or.inl ⟨by rfl, fun w _ => by go_simp⟩) hHeld ?_
  try dsimp only
  try simp only [Act.put, List.getElem_toArray, List.getElem_cons_zero, List.getElem_cons_succ, List.setIfInBounds_toArray, List.set_cons_zero, List.set_cons_succ]
  refine wpAnyH_take (i := 5) (v := .int .i64 room) rfl (by kernel_rfl) (by kernel_rfl) (by kernel_rfl) (fun _ _ _ h => h) (yl rfl 3 (.tmp 27) rfl g 0 rfl _ lv_int (fun w hw => hw.g0)) hHeld ?_
  try dsimp only
  try simp only [Act.put, List.getElem_toArray, List.getElem_cons_zero, List.getElem_cons_succ, List.setIfInBounds_toArray, List.set_cons_zero, List.set_cons_succ]
  refine wpAnyH_take (i := 6) (v := .pointer (some ⟨g, 0, none⟩)) rfl (by kernel_rfl) (by kernel_rfl) (by kernel_rfl) (fun _ _ _ h => h) (Or.inl ⟨by rfl, fun _ _ => rfl⟩) hHeld ?_
  try dsimp only
  try simp only [Act.put, List.getElem_toArray, List.getElem_cons_zero, List.getElem_cons_succ, List.setIfInBounds_toArray, List.set_cons_zero, List.set_cons_succ]
  refine wpAnyH_ready (rs := [7]) (by kernel_rfl) (by simp) (AllReadyH.cons rfl (fun K hK => ?_) AllReadyH.nil)
  go_simp
  refine (HU.out _ (Lib.hid hHeld)).mono ?_
  rintro e w2 ⟨rfl, hb⟩
  replace hHeld := hHeld.next hb
  have HB2 := Lib.hid hb
  clear hb
  refine hK.out _ _ hHeld (fun hHeld => ?_)
  clear hK K
  try dsimp only
  try simp only [Act.put, List.getElem_toArray, List.getElem_cons_zero, List.getElem_cons_succ, List.setIfInBounds_toArray, List.set_cons_zero, List.set_cons_succ]
  refine wpAnyH_ready (rs := [8]) (by kernel_rfl) (by simp) (AllReadyH.cons rfl (fun K hK => ?_) AllReadyH.nil)
  go_simp
  refine hK.out _ _ hHeld (fun hHeld => ?_)
  clear hK K
  try dsimp only
  try simp only [Act.put, List.getElem_toArray, List.getElem_cons_zero, List.getElem_cons_succ, List.setIfInBounds_toArray, List.set_cons_zero, List.set_cons_succ]
  refine wpAnyH_ready (rs := [9]) (by kernel_rfl) (by simp) (AllReadyH.cons rfl (fun K hK => ?_) AllReadyH.nil)
  go_simp
  refine hK.out _ _ hHeld (fun hHeld => ?_)
  clear hK K
  try dsimp only
  try simp only [Act.put, List.getElem_toArray, List.getElem_cons_zero, List.getElem_cons_succ, List.setIfInBounds_toArray, List.set_cons_zero, List.set_cons_succ]
  refine wpAnyH_ready (rs := [10]) (by kernel_rfl) (by simp) (AllReadyH.cons rfl (fun K hK => ?_) AllReadyH.nil)
  go_simp
  refine hK.out _ _ hHeld (fun hHeld => ?_)
  clear hK K
  try dsimp only
  try simp only [Act.put, List.getElem_toArray, List.getElem_cons_zero, List.getElem_cons_succ, List.setIfInBounds_toArray, List.set_cons_zero, List.set_cons_succ]
  refine wpAnyH_take (i := 11) (v := undef) rfl (by kernel_rfl) (by kernel_rfl) (by kernel_rfl) (fun _ _ _ h => h) (Or.inr ⟨by rfl, rfl⟩) hHeld ?_
  try dsimp only
  try simp only [Act.put, List.getElem_toArray, List.getElem_cons_zero, List.getElem_cons_succ, List.setIfInBounds_toArray, List.set_cons_zero, List.set_cons_succ]
  refine wpAnyH_take (i := 12) (v := undef) rfl (by kernel_rfl) (by kernel_rfl) (by kernel_rfl) (fun _ _ _ h => h) (Or.inr ⟨by rfl, rfl⟩) hHeld ?_
  try dsimp only
  try simp only [Act.put, List.getElem_toArray, List.getElem_cons_zero, List.getElem_cons_succ, List.setIfInBounds_toArray, List.set_cons_zero, List.set_cons_succ]
  refine wpAnyH_take (i := 13) (v := undef) rfl (by kernel_rfl) (by kernel_rfl) (by kernel_rfl) (fun _ _ _ h => h) (Or.inr ⟨by rfl, rfl⟩) hHeld ?_
  try dsimp only
  try simp only [Act.put, List.getElem_toArray, List.getElem_cons_zero, List.getElem_cons_succ, List.setIfInBounds_toArray, List.set_cons_zero, List.set_cons_succ]
  refine wpAnyH_take (i := 14) (v := undef) rfl (by kernel_rfl) (by kernel_rfl) (by kernel_rfl) (fun _ _ _ h => h) (Or.inr ⟨by rfl, rfl⟩) hHeld ?_
  try dsimp only
  try simp only [Act.put, List.getElem_toArray, List.getElem_cons_zero, List.getElem_cons_succ, List.setIfInBounds_toArray, List.set_cons_zero, List.set_cons_succ]
  refine wpAnyH_take (i := 15) (v := undef) rfl (by kernel_rfl) (by kernel_rfl) (by kernel_rfl) (fun _ _ _ h => h) (Or.inr ⟨by rfl, rfl⟩) hHeld ?_
  try dsimp only
  try simp only [Act.put, List.getElem_toArray, List.getElem_cons_zero, List.getElem_cons_succ, List.setIfInBounds_toArray, List.set_cons_zero, List.set_cons_succ]
  refine wpAnyH_take (i := 16) (v := undef) rfl (by kernel_rfl) (by kernel_rfl) (by kernel_rfl) (fun _ _ _ h => h) (Or.inr ⟨by rfl, rfl⟩) hHeld ?_
  try dsimp only
  try simp only [Act.put, List.getElem_toArray, List.getElem_cons_zero, List.getElem_cons_succ, List.setIfInBounds_toArray, List.set_cons_zero, List.set_cons_succ]
  refine wpAnyH_take (i := 17) (v := undef) rfl (by kernel_rfl) (by kernel_rfl) (by kernel_rfl) (fun _ _ _ h => h) (Or.inr ⟨by rfl, rfl⟩) hHeld ?_
  try dsimp only
  try simp only [Act.put, List.getElem_toArray, List.getElem_cons_zero, List.getElem_cons_succ, List.setIfInBounds_toArray, List.set_cons_zero, List.set_cons_succ]
  refine wpAnyH_take (i := 18) (v := undef) rfl (by kernel_rfl) (by kernel_rfl) (by kernel_rfl) (fun _ _ _ h => h) (Or.inr ⟨by rfl, rfl⟩) hHeld ?_
  try dsimp only
  try simp only [Act.put, List.getElem_toArray, List.getElem_cons_zero, List.getElem_cons_succ, List.setIfInBounds_toArray, List.set_cons_zero, List.set_cons_succ]
  refine wpAnyH_take (i := 19) (v := undef) rfl (by kernel_rfl) (by kernel_rfl) (by kernel_rfl) (fun _ _ _ h => h) (Or.inr ⟨by rfl, rfl⟩) hHeld ?_
  try dsimp only
  try simp only [Act.put, List.getElem_toArray, List.getElem_cons_zero, List.getElem_cons_succ, List.setIfInBounds_toArray, List.set_cons_zero, List.set_cons_succ]
  refine wpAnyH_take (i := 20) (v := undef) rfl (by kernel_rfl) (by kernel_rfl) (by kernel_rfl) (fun _ _ _ h => h) (Or.inr ⟨by rfl, rfl⟩) hHeld ?_
  try dsimp only
  try simp only [Act.put, List.getElem_toArray, List.getElem_cons_zero, List.getElem_cons_succ, List.setIfInBounds_toArray, List.set_cons_zero, List.set_cons_succ]
  refine wpAnyH_take (i := 21) (v := .bool true) rfl (by kernel_rfl) (by kernel_rfl) (by kernel_rfl) (fun _ _ _ h => h) (Or.inl ⟨by rfl, fun _ _ => rfl⟩) hHeld ?_
  try dsimp only
  try simp only [Act.put, List.getElem_toArray, List.getElem_cons_zero, List.getElem_cons_succ, List.setIfInBounds_toArray, List.set_cons_zero, List.set_cons_succ]
  refine wpAnyH_done (by kernel_rfl) ?_ _
  go_wp2
  go_ret
  exact ⟨rfl, below_to HB3.out HB2.out⟩
end
def lenOf (xs : List Fil) (t : ByteArray) : Nat := sumN (xs.filter fun x => cmpK x.name t == 0)
theorem lenOf_append (a b : List Fil) (t : ByteArray) : lenOf (a ++ b) t = lenOf a t + lenOf b t := by unfold lenOf; rw [List.filter_append, sumN_append]
theorem lenOf_cons (x : Fil) (r : List Fil) (t : ByteArray) : lenOf (x :: r) t = (if cmpK x.name t = 0 then x.l.length else 0) + lenOf r t := by
  unfold lenOf; rw [List.filter_cons]
  by_cases h : cmpK x.name t = 0 <;> simp [h, sumN]
theorem lenOf_le (xs : List Fil) (t : ByteArray) : lenOf xs t ≤ sumN xs := by
  induction xs with
  | nil => exact Nat.le_refl _
  | cons x r ih => rw [lenOf_cons, sumN]; split <;> omega
theorem split_at {xs : List Fil} {k : Nat} {x : Fil} (h : xs[k]? = some x) : xs = xs.take k ++ x :: xs.drop (k + 1) := by
  obtain ⟨h1, h2⟩ := List.getElem?_eq_some_iff.1 h
  conv => lhs; rw [← List.take_append_drop k xs, List.drop_eq_getElem_cons h1, h2]
theorem set_at {xs : List Fil} {k : Nat} {x : Fil} (h : xs[k]? = some x) (y : Fil) : xs.set k y = xs.take k ++ y :: xs.drop (k + 1) := by
  rw [List.set_eq_take_append_cons_drop, if_pos (List.getElem?_eq_some_iff.1 h).1]
theorem erase_at (xs : List Fil) (k : Nat) : xs.eraseIdx k = xs.take k ++ xs.drop (k + 1) := List.eraseIdx_eq_take_drop_succ xs k
/-- What an append does to how many bytes there are. -/
theorem AppRel.facts {t : ByteArray} {m : List Nat} {xs ys : List Fil} (hr : Rises xs) (h : AppRel xs t m ys) :
    Rises ys ∧ sumN ys = sumN xs + m.length ∧ (∀ u, lenOf ys u = lenOf xs u + if cmpK t u = 0 then m.length else 0) ∧ ys.length ≤ xs.length + 1 ∧ ∃ (lo : Nat) (x : Fil), ys[lo]? = some x ∧ x.name = t := by
  rcases h with ⟨lo, x, A', cap', hT, rfl⟩ | ⟨lo, A', cap', hp, hno, rfl⟩
  · have hx := hT.get
    have hnm : x.name = t := ck_eq hT.eq
    refine ⟨hr.set lo x _ hx rfl, ?_, fun u => ?_, by simp, lo, { x with A := A', cap := cap', l := x.l ++ m }, by rw [List.getElem?_set_self (List.getElem?_eq_some_iff.1 hx).1], hnm⟩
    · rw [set_at hx]; conv => rhs; rw [split_at hx]
      simp only [sumN_append, sumN, List.length_append]; omega
    · rw [set_at hx]; conv => rhs; rw [split_at hx]
      simp only [lenOf_append, lenOf_cons, List.length_append, hnm]
      split <;> omega
  · refine ⟨hr.ins hp hno _ rfl, by rw [sumN_ins], fun u => ?_, by rw [ins_len]; exact Nat.le_refl _, lo, _, ins_at hp.1 _, rfl⟩
    unfold ins
    conv => rhs; rw [← List.take_append_drop lo xs]
    simp only [lenOf_append, lenOf_cons]
    split <;> omega
theorem Rises.name_one {xs : List Fil} (hr : Rises xs) {j k : Nat} {x y : Fil} (hx : xs[j]? = some x) (hy : xs[k]? = some y) (h : cmpK x.name y.name = 0) : j = k := by
  rcases Nat.lt_trichotomy j k with h1 | h1 | h1
  · have := hr j k x y h1 hx hy; omega
  · exact h1
  · have := hr k j y x h1 hy hx; rw [ck_neg] at this; omega
theorem lenOf_zero (xs : List Fil) (t : ByteArray) (h : ∀ (k : Nat) (x : Fil), xs[k]? = some x → cmpK x.name t ≠ 0) : lenOf xs t = 0 := by
  induction xs with
  | nil => rfl
  | cons x r ih => rw [lenOf_cons, if_neg (h 0 x rfl), ih (fun k y hy => h (k + 1) y hy)]
theorem erase_facts {xs : List Fil} (hr : Rises xs) {lo : Nat} {x : Fil} {t : ByteArray} (hT : There xs t lo x) :
    Rises (xs.eraseIdx lo) ∧ sumN xs = sumN (xs.eraseIdx lo) + lenOf xs t ∧ lenOf (xs.eraseIdx lo) t = 0 ∧ (∀ u, cmpK t u ≠ 0 → lenOf (xs.eraseIdx lo) u = lenOf xs u) ∧ (xs.eraseIdx lo).length ≤ xs.length := by
  have hx := hT.get
  have hnm : x.name = t := ck_eq hT.eq
  have hz : lenOf (xs.eraseIdx lo) t = 0 := lenOf_zero _ _ fun k y hy => fun e => by
    have h1 := erase_from hy
    have h2 := hr.name_one h1 hx (by rw [hnm]; exact e)
    split at h2 <;> omega
  have hs : lenOf xs t = lenOf (xs.eraseIdx lo) t + x.l.length := by
    rw [erase_at]; conv => lhs; rw [split_at hx]
    simp only [lenOf_append, lenOf_cons, hnm, ck_self, if_true]; omega
  refine ⟨hr.erase lo, ?_, hz, fun u hu => ?_, by rw [List.length_eraseIdx]; split <;> omega⟩
  · rw [hs, hz, erase_at]; conv => lhs; rw [split_at hx]
    simp only [sumN_append, sumN]; omega
  · rw [erase_at]; conv => rhs; rw [split_at hx]
    simp only [lenOf_append, lenOf_cons, hnm, if_neg hu]; omega
/-- A name of a store that is there. -/
theorem Rises.there {xs : List Fil} (hr : Rises xs) {k : Nat} {x : Fil} {t : ByteArray} (hx : xs[k]? = some x) (e : x.name = t) (hs : t.size ≤ 4611686018427387904) (hf : formK t = true) : There xs t k x := by
  subst e
  refine ⟨hs, hf, ⟨by have := (List.getElem?_eq_some_iff.1 hx).1; omega, fun j y hj hy => hr j k y x hj hy hx, fun j y hj hy hn => ?_⟩, hx, ck_self _⟩
  rcases Nat.lt_or_ge k j with h1 | h1
  · have h2 := hr k j x y h1 hx hy; rw [ck_neg] at hn; omega
  · have : j = k := by omega
    subst this
    rw [hy] at hx; injection hx with hx; rw [hx, ck_self] at hn; omega
end Go.Proofs.Ytafdhgofdocjhaa
