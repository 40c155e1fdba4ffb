/-
  The law SegmentWrites: any events as a segment's bytes, or the first fault.
-/
import Derived.Test.YtifabkbdiiolfaaDoorYdcK
set_option linter.unusedSimpArgs false
set_option linter.unusedVariables false
set_option maxRecDepth 8000
namespace Go.Proofs.YtifabkbdiiolfaaDoor
open Go.RowKit Go.WideShapes Col
theorem form_leW {x : Ev} {p : Int} (h : formB x p = true) (hp : p ≤ 8) (hv : x.val < 18446744073709551616) : FineE x := by
 unfold formB at h
 simp only [Bool.and_eq_true, decide_eq_true_eq] at h
 obtain ⟨⟨⟨⟨⟨h1, h2⟩, h3⟩, h4⟩, h5⟩, h6⟩ := h
 exact ⟨h6, ⟨h1, by omega⟩, ⟨h3, h4⟩, h5, hv⟩
theorem wCode_zero {p : Int} {l : List Ev} (h : wCode p l = 0) : l ≠ [] ∧ 1 ≤ p ∧ p ≤ 8 ∧ chkL p none l = 0 := by
 unfold wCode at h
 by_cases hb : l = [] ∨ p < 1 ∨ 8 < p
 ·rw [if_pos hb] at h; cases h
 ·rw [if_neg hb] at h
  exact ⟨fun e => hb (.inl e), by omega, by omega, h⟩
theorem writeAll_any (A0 : Option Addr) (n c : Nat) (l : List Ev) (hn : Hid (n = l.length)) (hn9 : n ≤ 200) (hnc : n ≤ c) (hcm : c ≤ maxLen) (hv : ∀ x ∈ l, x.val < 18446744073709551616) (p : Int) (W : World) (HE : Hid (EvAt W A0 l)) (HG : Hid (HalvesAt W)) :
  Calls Tryd.prog 5 #[.slice A0 n c, .int .i64 p] W (WrRet p l W) := by
 by_cases h : wCode p l = 0
 ·obtain ⟨h0, h1, h8, hc⟩ := wCode_zero h
  obtain ⟨q, rfl⟩ : ∃ q : Nat, p = (q : Int) := ⟨p.toNat, by omega⟩
  obtain ⟨x, hx⟩ : ∃ x, l[0]? = some x := ⟨_, List.getElem?_eq_getElem (List.length_pos_iff.2 h0)⟩
  obtain ⟨g, off, rfl, -, -⟩ := evr HE.out 0 x hx
  refine (write_any g off n c l hn (by have := hn.out; have := List.length_pos_iff.2 h0; omega) (by omega) hnc hcm q (by omega) (by omega) (Lib.hid hc) (Lib.hid fun x hx => form_leW (chk_form _ _ hc x hx) h8 (hv x hx)) W HE HG).mono ?_
  rintro e w' ⟨A, m, cap, rfl, ho, hb⟩
  exact ⟨A, m, cap, by rw [h]; rfl, by unfold wBy; rw [if_pos h]; exact ho, hb⟩
 ·exact write_bad A0 n c l hn hn9 p h W HE
theorem refWriteAll_any (A0 : Option Addr) (n c : Nat) (l : List Ev) (hn : Hid (n = l.length)) (hn9 : n ≤ 200) (hnc : n ≤ c) (hcm : c ≤ maxLen) (hv : ∀ x ∈ l, x.val < 18446744073709551616) (p : Int) (W : World) (HE : Hid (EvAt W A0 l)) :
  Calls Tryd.prog 6 #[.slice A0 n c, .int .i64 p] W (WrRet p l W) := by
 by_cases hbad : n = 0 ∨ p < 1 ∨ 8 < p
 ·exact refWrite_arg A0 n c l hn p hbad W
 ·obtain ⟨x, hx⟩ : ∃ x, l[0]? = some x := ⟨_, List.getElem?_eq_getElem (by have := hn.out; omega)⟩
  obtain ⟨g, off, rfl, -, -⟩ := evr HE.out 0 x hx
  have h0 : l ≠ [] := fun e => by subst e; cases hx
  by_cases h : chkL p none l = 0
  ·obtain ⟨q, rfl⟩ : ∃ q : Nat, p = (q : Int) := ⟨p.toNat, by omega⟩
   have hw : wCode (q : Int) l = 0 := by rw [wCode_chk h0 (by omega) (by omega)]; exact h
   refine (refWrite_any g off n c l hn (by omega) hn9 hnc hcm q (by omega) (by omega) (Lib.hid h) (Lib.hid fun x hx => form_leW (chk_form _ _ h x hx) (by omega) (hv x hx)) W HE).mono ?_
   rintro e w' ⟨A, m, cap, rfl, ho, hb⟩
   exact ⟨A, m, cap, by rw [hw]; rfl, by unfold wBy; rw [if_pos hw]; exact ho, hb⟩
  ·exact refWrite_chk g off n c l hn (by omega) hn9 p (by omega) (by omega) (Lib.hid h) W HE
set_option maxHeartbeats 4000000 in
theorem segmentWrites_any (A0 : Option Addr) (l : List Ev) (n c0 : Nat) (hn : Hid (n = l.length)) (hnc : n ≤ c0) (hcm : c0 ≤ maxLen) (hv : ∀ x ∈ l, x.val < 18446744073709551616) (p : Int) (hp : Wf64 p)
  (w : World) (HE : Hid (EvAt w A0 l)) (HG : Hid (HalvesAt w)) :
  Calls Tryd.prog 3 #[.slice A0 n c0, .int .i64 p] w fun e w' => e = .returned (.bool true) ∧ Below w.heap.size w w' := by
 by_cases h3 : 200 < n
 ·have h3i : (200 : Int) < (n : Int) := by omega
  go_enter Tryd.func3, Tryd.ntmps3
  go_wp2_with (first
   | (go_at_call 4; (with_reducible refine (awakeS_any _ (Lib.hid (HG.out.keep HB1.out))).mono ?_); rintro e w2 ⟨rfl, h1⟩; have HB2 := Lib.hid (below_to HB1.out h1); clear h1)
   | (go_at_call 4; (with_reducible refine (awakeS_any _ (by first | exact HG | exact Lib.hid (HG.out.keep HB1.out))).mono ?_); rintro e w1 ⟨rfl, h1⟩; have HB1 := Lib.hid h1; clear h1))
  go_ret
  exact ⟨rfl, HB2.out⟩
 ·have h3i : ¬ (200 : Int) < (n : Int) := by omega
  have HW : Hid (∀ v, Below w.heap.size w v → Calls Tryd.prog 5 #[.slice A0 n c0, .int .i64 p] v (WrRet p l v)) := Lib.hid fun v hb => writeAll_any A0 n c0 l hn (by omega) hnc hcm hv p v (Lib.hid (HE.out.keep hb)) (Lib.hid (HG.out.keep hb))
  have HR : Hid (∀ v, Below w.heap.size w v → Calls Tryd.prog 6 #[.slice A0 n c0, .int .i64 p] v (WrRet p l v)) := Lib.hid fun v hb => refWriteAll_any A0 n c0 l hn (by omega) hnc hcm hv p v (Lib.hid (HE.out.keep hb))
  unfold WrRet at HW HR
  clear hv
  generalize wCode p l = z at *
  generalize wBy p l = bs at *
  go_enter Tryd.func3, Tryd.ntmps3
  go_upto_region 5 with (first
   | (go_at_call 4; (with_reducible refine (awakeS_any _ (by first | exact HG | exact Lib.hid (HG.out.keep HB1.out))).mono ?_); rintro e w1 ⟨rfl, h1⟩; have HB1 := Lib.hid h1; clear h1)
   | (go_at_call 5; (with_reducible refine (HW.out w1 HB1.out).mono ?_); rintro e w2 ⟨A2, m2, c2, rfl, h1, h2⟩; have HO2 := Lib.hid h1; have HB2 := Lib.hid (below_to HB1.out h2); clear h1 h2)
   | (go_at_call 6; (with_reducible refine (HR.out w2 HB2.out).mono ?_); rintro e w3 ⟨A3, m3, c3, rfl, h1, h2⟩; have HO3 := Lib.hid h1; have HO2b := Lib.hid (HO2.out.keep h2); have HB3 := Lib.hid (below_to HB2.out h2); clear h1 h2))
  have d2 := conv_by m2 c2 HO2b.out.byAt HO2b.out.len
  have d3 := conv_by m3 c3 HO3.out.byAt HO3.out.len
  generalize strB bs = s at *
  go_wp2
  go_ret
  exact ⟨by first | rfl | simp, HB3.out⟩
end Go.Proofs.YtifabkbdiiolfaaDoor
