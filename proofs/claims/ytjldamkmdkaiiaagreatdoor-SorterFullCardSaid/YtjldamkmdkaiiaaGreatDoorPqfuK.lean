/-
  For every input the law SorterFull returns true, and its arguments read as before. The listed tables are as the program's text lays them; no condition on the input.
-/
import Derived.Test.YtjldamkmdkaiiaaGreatDoorOquK
import Derived.Test.YtjldamkmdkaiiaaGreatDoorOsfK
set_option linter.unusedSimpArgs false
set_option linter.unusedVariables false
namespace Go.Proofs.YtjldamkmdkaiiaaGreatDoor
open Go.ChangeShapes Go.WideShapes Go.ChangeAt Go.RowKit
set_option maxRecDepth 100000 in
theorem sorterFull_lifted (os : Os) (started : os.Started) (H : Type) (enc : TypeId × Value → H) :
  ReturnsInHanded {} Tryz.checked os 4 .any (fun w args => (Rows.sorterFullSpec.pre enc Tryz.prog Tryz.f4 [] false w args ∧ laidMetH Tryz.prog Rows.sorterFullRow.laid w) ∧ sizedMet enc Tryz.prog Tryz.f4 (OpenSpec.ofChange Rows.sorterFullSpec) false w args)
   (Rows.sorterFullSpec.post enc Tryz.prog Tryz.f4 false true false false) := by
 refine returnsInHanded_of_change_and (C := Tryz.checked) (X := fun w _ => laidMetH Tryz.prog Rows.sorterFullRow.laid w) (fun _ _ _ hh h => h.of_heap hh) Tryz.own started (by kernel_rfl) Tryz.func4
  (ChangeSpec.witness_shaped (enc := enc) (C := Tryz.checked) (os := os) (X := fun w _ => laidMetH Tryz.prog Rows.sorterFullRow.laid w) false (World.doorLaid Tryz.prog 400 os) #[.slice none 0 0, .int .u16 0, .int .u8 0] 8 rfl (World.shaped_of_RefB (by kernel_rfl) (by kernel_rfl)) (by kernel_rfl) (by kernel_rfl) (by kernel_rfl) (door_metS os _)) ?_
 intro W base args ds gs before hval0 hW _ hsz hL _
 have hval : ∀ (j : Nat) t v, Tryz.f4.params[j]? = some t → args[j]? = some v → Value.okWide Tryz.prog W .any base t v := hval0
 have hW' := hW
 obtain ⟨p, q, hA0, hV, rfl, hfz, hnd⟩ := hW
 have hA : DataW.TrodAll enc Tryz.prog W 0 (fun _ => true) true Tryz.f4.params.toList args.toList ds p := hA0
 rw [Tryz.params4] at hA hval
 obtain ⟨v0, v1, v2, d0, d1, d2, p0, p1, p2, rfl, rfl, rfl, h0, h1, h2⟩ := trodAll_three hA
 obtain ⟨rfl, rfl⟩ := trodVars_none hV
 have hG := of_laidS hL
 obtain ⟨a, la, ca, rfl, sa, ma, -, -, va, ka⟩ := open_evs (hval 0 22 v0 rfl rfl) h0
 obtain ⟨ib, rfl, rfl, rfl, wb⟩ := open_int Tryz.underlying40 (hval 1 40 v1 rfl rfl) h1
 obtain ⟨b, rfl, bb⟩ : ∃ n : Nat, ib = (n : Int) ∧ n < 65536 := by
  have h : 0 ≤ ib ∧ ib ≤ 65535 := by simpa [Lit.wf, IntKind.min, IntKind.max, IntKind.signed, IntKind.bits] using wb
  exact ⟨ib.toNat, by omega, by omega⟩
 obtain ⟨ic, rfl, rfl, rfl, wc⟩ := open_int Tryz.underlying5 (hval 2 5 v2 rfl rfl) h2
 obtain ⟨c, rfl, bc⟩ : ∃ n : Nat, ic = (n : Int) ∧ n < 256 := by
  have h : 0 ≤ ic ∧ ic ≤ 255 := by simpa [Lit.wf, IntKind.min, IntKind.max, IntKind.signed, IntKind.bits] using wc
  exact ⟨ic.toNat, by omega, by omega⟩
 refine (sorterFull_any a la la.length ca (Lib.hid rfl) sa ma va b bb c bc W (Lib.hid ka) (Lib.hid hG)).mono fun e W' ⟨he, hw⟩ => ?_
 subst he
 exact ⟨_, rfl, post_law Tryz.laidOut rfl hW' (by rw [Tryz.params4]; exact of_decide_eq_true (by kernel_rfl)) rfl rfl rfl (by kernel_rfl) Tryz.underlying4 hw⟩
theorem sorterFull_row_holds : Rows.SorterFullSaid :=
 OpenClaim.holds_of_wide 4 Tryz.f4 rfl rfl rfl rfl rfl rfl rfl ⟨rfl, rfl, rfl, rfl, rfl⟩ rfl rfl rfl rfl rfl (by kernel_rfl) Tryz.func4 (by kernel_rfl)
  (of_decide_eq_true (by kernel_rfl)) (by unfold Func.isWrapper; first | (rw [if_pos (by decide +kernel)]; kernel_rfl) | (rw [if_neg (by decide +kernel)]; exact ⟨rfl, rfl⟩))
  (fun os started H enc _ => sorterFull_lifted os started H enc)
theorem sorterFull_holds : Rows.SorterFullCardSaid :=
 Claim7.holds_tied_plain_at .later [] [.data, .data, .data, .data] true _ true
  sorterFull_row_holds (fun _ h => by cases h) (by kernel_rfl) (fun _ h => by cases h) sorterFull_row_tie rfl ⟨rfl, rfl⟩ (by kernel_rfl) rfl
  (fun f fn hf hfn => by
   obtain rfl : f = 4 := Option.some.inj ((show Tryz.prog.funcNamed "headrace/headracelaw10.SorterFull" = some 4 by kernel_rfl).symm.trans hf) |>.symm
   obtain rfl : fn = Tryz.f4 := (Option.some.inj (Tryz.func4.symm.trans hfn)).symm
   exact ⟨by kernel_rfl, fun j t ht => by
    rw [Tryz.params4] at ht
    have hm : t ∈ [22, 40, 5] := by simpa using Array.mem_of_getElem? ht
    have hall : ([22, 40, 5].all fun u => !Tryz.prog.wantsStandIn u) = true := by kernel_rfl
    exact (show Tryz.prog.wantsStandIn t = false by simpa using List.all_eq_true.1 hall t hm)⟩)
  (by kernel_rfl)
end Go.Proofs.YtjldamkmdkaiiaaGreatDoor
