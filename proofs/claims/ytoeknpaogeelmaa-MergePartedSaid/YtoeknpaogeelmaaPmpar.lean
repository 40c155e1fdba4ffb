/-
  For every input the law MergeParted returns true, and its arguments read as before. No condition on the input.
-/
import Derived.Test.YtoeknpaogeelmaaMp
import Derived.Test.YtoeknpaogeelmaaPrn
import Derived.Test.YtoeknpaogeelmaaPby
set_option linter.unusedSimpArgs false
set_option linter.unusedVariables false
namespace Go.Proofs.Ytoeknpaogeelmaa
open Go.ChangeShapes Go.WideShapes Go.ChangeAt Go.RowKit

set_option maxRecDepth 100000 in
theorem mergeParted_lifted (os : Os) (started : os.Started) (H : Type) (enc : TypeId × Value → H) :
    ReturnsInHanded {} Try.checked os 5 .any (Rows.mergePartedSpec.pre6 enc Try.prog Try.f5 Rows.mergePartedRow.domain false) (Rows.mergePartedSpec.post enc Try.prog Try.f5 false true false false) := by
  refine returnsInHanded_of_change (C := Try.checked) Try.own started (by kernel_rfl) Try.func5
    (ChangeSpec.witness6 (enc := enc) (C := Try.checked) false ⟨#[], #[.slice none 0 0, .slice none 0 0], []⟩ 8 (by kernel_rfl) (by kernel_rfl) (by kernel_rfl) (by kernel_rfl)) ?_
  intro W base args ds gs before hval0 hW hcnd _
  have hval : ∀ (j : Nat) t v, Try.f5.params[j]? = some t → args[j]? = some v → Value.okWide Try.prog W .any base t v := hval0
  have hW' := hW
  obtain ⟨p, q, hA0, hV, rfl, hfz, hnd⟩ := hW
  have hA : DataW.TrodAll enc Try.prog W 0 (fun _ => true) true Try.f5.params.toList args.toList ds p := hA0
  rw [Try.params5] at hA hval
  obtain ⟨v0, v1, d0, d1, p0, p1, rfl, rfl, rfl, h0, h1⟩ := trodAll_two hA
  obtain ⟨rfl, rfl⟩ := trodVars_none hV
  obtain ⟨a, l, c, rfl, hnc, hcm, hnil, hsp, hv, HA⟩ := open_evs (hval 0 25 v0 rfl rfl) h0
  obtain ⟨b, lb, cb, rfl, sb, mb, kb⟩ := open_bys8 (hval 1 42 v1 rfl rfl) h1 (fun x hx => hW'.lt x (by simp [hx]))
  refine (mergeParted_all a l l.length c (Lib.hid rfl) hnc hcm (Lib.hid hnil) (Lib.hid hsp) (Lib.hid hv) b lb lb.length cb (Lib.hid rfl) sb mb W (Lib.hid HA) (Lib.hid kb)).mono fun e W' ⟨he, hw⟩ => ?_
  subst he
  exact ⟨_, rfl, post_law Try.laidOut rfl hW' (by rw [Try.params5]; exact of_decide_eq_true (by kernel_rfl)) rfl rfl rfl (by kernel_rfl) Try.underlying4 hw⟩

/-- The law MergeParted: whatever the input, it returns true. -/
theorem mergeParted_holds : Rows.MergePartedSaid :=
  OpenClaim.holds_of_wide 5 Try.f5 rfl rfl rfl rfl rfl rfl rfl ⟨rfl, rfl, rfl, rfl, rfl⟩ rfl rfl rfl rfl rfl (by kernel_rfl) Try.func5 (by kernel_rfl)
    (of_decide_eq_true (by kernel_rfl)) (by unfold Func.isWrapper; first | (rw [if_pos (by decide +kernel)]; kernel_rfl) | (rw [if_neg (by decide +kernel)]; exact ⟨rfl, rfl⟩))
    (fun os started H enc _ => mergeParted_lifted os started H enc)
end Go.Proofs.Ytoeknpaogeelmaa
