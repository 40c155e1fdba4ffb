/-
  The law ExactNear returns true: walked.
-/
import Derived.Test.YtofcfjchlkmenaaLez
import Derived.Test.YtofcfjchlkmenaaSx
import Derived.Test.YtofcfjchlkmenaaLn
set_option linter.unusedSimpArgs false
set_option linter.unusedVariables false
namespace Go.Proofs.Ytofcfjchlkmenaa
open Go.RowKit Sm

set_option maxHeartbeats 1000000 in
theorem exactNear_len (a : Option Addr) (len cap : Nat) (c0 c1 : Bool) (h0 : decide ((30 : Int) < (len : Int)) = c0) (h1 : ((len : Int) == 0) = c1) (hc : c0 = true ∨ c1 = true) (w : World) :
    Calls Try.prog 12 #[.slice a len cap] w fun e w' => e = .returned (.bool true) ∧ Below w.heap.size w w' := by
  have HB := Below.refl w.heap.size w
  cases c0 <;> cases c1 <;> try (simp at hc; done)
  all_goals
    clear hc
    go_enter Try.func12, Try.ntmps12
    go_wp2_with (go_at_call 13; refine (awake_any _).mono ?_; rintro e w' ⟨rfl, hb1⟩; replace HB := HB.trans (hb1.mono HB.size); clear hb1)
    go_ret
    exact ⟨rfl, HB⟩

set_option maxHeartbeats 1000000 in
theorem exactNear_exit (a : Option Addr) (l : List Nat) (len cap x : Nat) (o c1 c2 : Bool) (hlen : Hid (len = l.length)) (hl : len ≤ 30) (h0 : decide ((30 : Int) < (len : Int)) = false) (h1 : ((len : Int) == 0) = false) (hx : x < 18446744073709551616)
    (hv : VaGives (accN l) (accH l) x o) (e1 : Fl.nan x = c1) (e2 : decide (Fl.rung x = 9218868437227405312) = c2) (hc : o = true ∨ c1 = true ∨ c2 = true) (w : World) (HA : Hid (FlAt w a l)) :
    Calls Try.prog 12 #[.slice a len cap] w fun e w' => e = .returned (.bool true) ∧ Below w.heap.size w w' := by
  have HB := Below.refl w.heap.size w
  cases o <;> cases c1 <;> cases c2 <;> try (simp at hc; done)
  all_goals
    clear hc
    go_enter Try.func12, Try.ntmps12
    go_wp2_with (first
      | (go_at_call 13; refine (awake_any _).mono ?_; rintro e w' ⟨rfl, hb1⟩; replace HB := HB.trans (hb1.mono HB.size); clear hb1)
      | (go_at_call 14; refine (of_slice a l len cap hlen (by omega) _ (FlAt.keep HA.out HB)).mono ?_; rintro e w' ⟨rfl, hb1⟩; replace HB := HB.trans (hb1.mono HB.size); clear hb1)
      | (rw [zeros36]; refine wpList_store_row rfl 27 (.tmp 3) (.tmp 27) rfl _ (P36 (wd _) _) rfl rfl _ _ (heap_alloc_new _ _) (i36 _ _) (by rw [P36_size, P36_size]) (one36 _ _) ?_; rw [World.setRow_alloc_new];
         have hk : Kp w w'.heap.size (P36 (wd (accN l)) (accH l)) 27 (w'.alloc (.cells (P36 (wd (accN l)) (accH l)) 27)) := ⟨HB.alloc HB.size _, heap_alloc_new w' _⟩;
         generalize w'.alloc _ = wb at *; generalize w'.heap.size = g at *; clear HB)
      | (refine wpList_sum (.tmp 3) rfl _ rfl _ _ _ _ hk.row rfl ?_)
      | (go_at_call 16; (with_reducible refine (hv.at _).mono ?_); rintro e w' ⟨rfl, hb1⟩; replace hk := hk.next hb1; clear hb1)
      | (go_at_call 24; refine (isNaN_any _ (by assumption) _).mono ?_; rintro e w' ⟨rfl, rfl⟩)
      | (go_at_call 25; refine (isInf_any _ (by assumption) _).mono ?_; rintro e w' ⟨rfl, rfl⟩))
    go_ret
    exact ⟨rfl, hk.below⟩

set_option maxHeartbeats 4000000 in
theorem exactNear_core (a : Option Addr) (l : List Nat) (len cap x y U U' D D' d up dn : Nat) (od ou on : Bool) (hlen : Hid (len = l.length)) (hl : len ≤ 30) (h0 : decide ((30 : Int) < (len : Int)) = false) (h1 : ((len : Int) == 0) = false) (hx : x < 18446744073709551616)
    (hyb : y < 18446744073709551616) (hU'b : U' < 18446744073709551616) (hD'b : D' < 18446744073709551616) (hdb : d < 18446744073709551616) (hub : up < 18446744073709551616) (hnb : dn < 18446744073709551616)
    (hv : VaGives (accN l) (accH l) x false) (e1 : Fl.nan x = false) (e2 : decide (Fl.rung x = 9218868437227405312) = false) (HF : Hid (Fin l))
    (hny : Op.negFloat .f64 x = y) (hU : NextGives x 9218868437227405312 U) (hD : NextGives x 18442240474082181120 D) (hnU : Op.negFloat .f64 U = U') (hnD : Op.negFloat .f64 D = D')
    (hvy : VaGives (addN (accN l) y) (orH (accH l) y) d od) (hvU' : VaGives (addN (accN l) U') (orH (accH l) U') up ou) (hvD' : VaGives (addN (accN l) D') (orH (accH l) D') dn on)
    (l1 : Hid ((FloatKind.f64.format.order (Fl.rung d) (Fl.rung up) == some .lt || FloatKind.f64.format.order (Fl.rung d) (Fl.rung up) == some .eq) = true)) (l2 : Hid ((FloatKind.f64.format.order (Fl.rung d) (Fl.rung dn) == some .lt || FloatKind.f64.format.order (Fl.rung d) (Fl.rung dn) == some .eq) = true))
    (w : World) (HA : Hid (FlAt w a l)) :
    Calls Try.prog 12 #[.slice a len cap] w fun e w' => e = .returned (.bool true) ∧ Below w.heap.size w w' := by
  have HB := Below.refl w.heap.size w
  have ny : ∀ w, (Op.unary .neg (.float .f64 x)).run Try.prog w = .ok (.float .f64 y) w := fun w => by rw [← hny]; rfl
  have HNU := Lib.hid hnU
  have HND := Lib.hid hnD
  have HH := accH_lt l
  clear hny hnU hnD
  go_enter Try.func12, Try.ntmps12
  go_wp2_with (first
    | (go_at_call 13; refine (awake_any _).mono ?_; rintro e w' ⟨rfl, hb1⟩; replace HB := HB.trans (hb1.mono HB.size); clear hb1)
    | (go_at_call 14; refine (of_slice a l len cap hlen (by omega) _ (FlAt.keep HA.out HB)).mono ?_; rintro e w' ⟨rfl, hb1⟩; replace HB := HB.trans (hb1.mono HB.size); clear hb1)
    | (rw [zeros36]; refine wpList_store_row rfl 27 (.tmp 3) (.tmp 27) rfl _ (P36 (wd _) _) rfl rfl _ _ (heap_alloc_new _ _) (i36 _ _) (by rw [P36_size, P36_size]) (one36 _ _) ?_; rw [World.setRow_alloc_new];
       have hk : Kp w w'.heap.size (P36 (wd (accN l)) (accH l)) 27 (w'.alloc (.cells (P36 (wd (accN l)) (accH l)) 27)) := ⟨HB.alloc HB.size _, heap_alloc_new w' _⟩;
       generalize w'.alloc _ = wb at *; generalize w'.heap.size = g at *; clear HB)
    | (refine wpList_sum (.tmp 3) rfl _ rfl _ _ _ _ hk.row rfl ?_)
    | (go_at_call 16; (with_reducible refine (hv.at _).mono ?_); rintro e w' ⟨rfl, hb1⟩; replace hk := hk.next hb1; clear hb1)
    | (go_at_call 24; refine (isNaN_any _ (by assumption) _).mono ?_; rintro e w' ⟨rfl, rfl⟩)
    | (go_at_call 25; refine (isInf_any _ (by assumption) _).mono ?_; rintro e w' ⟨rfl, rfl⟩))
  go_loop [6] (fun i => ∃ k : Nat, k ≤ len ∧ i = .int .i64 k) (fun i => len - (intOf i).toNat)
  case atStart => exact ⟨0, by omega, rfl⟩
  case round =>
    obtain ⟨k, hkl0, rfl⟩ := hrel
    by_cases hlt : k < len
    · have hkl : k < l.length := by have := hlen.out; omega
      obtain ⟨hX, ga, off, rfl, hg, hc0⟩ := HA.out k l[k] (List.getElem?_eq_getElem hkl)
      have hc : w'.cell? ⟨ga, off + k, none⟩ = some (.float .f64 l[k]) := (hk.below.cell (p := ⟨ga, off + k, none⟩) hg).trans hc0
      have hf := HF.out l[k] (List.getElem_mem hkl)
      have q1 : Fl.nan l[k] = false := by unfold Fl.nan; rw [decide_eq_false_iff_not]; omega
      have q2 : decide (Fl.rung l[k] = 9218868437227405312) = false := by rw [decide_eq_false_iff_not]; omega
      clear hc0 hf
      generalize hX0 : l[k] = X at *
      clear hX0
      go_wp2_with (first
        | (go_at_call 24; refine (isNaN_any _ (by assumption) _).mono ?_; rintro e w' ⟨rfl, rfl⟩)
        | (go_at_call 25; refine (isInf_any _ (by assumption) _).mono ?_; rintro e w' ⟨rfl, rfl⟩))
      go_round
      case rel => exact ⟨k + 1, by omega, by go_num⟩
      case measure => simp [intOf]; omega
    · go_wp2_with (first
        | (refine wpList_sum (.tmp 3) rfl _ rfl _ _ _ _ hk.row rfl ?_)
        | (go_at_call 26; (refine (add_nx _ _ _ (by assumption) (by assumption) _).mono ?_); rintro e w' ⟨rfl, hb1⟩; replace hk := hk.next hb1; clear hb1)
        | (go_at_call 16; (with_reducible refine (hvy.at _).mono ?_); rintro e w' ⟨rfl, hb1⟩; replace hk := hk.next hb1; clear hb1))
      obtain rfl : Op.negFloat .f64 U = U' := HNU.out
      obtain rfl : Op.negFloat .f64 D = D' := HND.out
      refine wp_region_held_drew (S := Kp w g (P36 (wd (accN l)) (accH l)) 27) (by kernel_rfl) ?_ (fun hHeld => ?_)
      · exact ⟨hk.below.drew, hk.row⟩
      replace hk := hk.drew
      refine wpAnyH_take (i := 0) (v := .agg (P36 (wd (accN l)) (accH l))) rfl (by kernel_rfl) (by kernel_rfl) (by kernel_rfl) (fun _ _ _ h => h) (yieldsIf_row rfl 27 (.tmp 3) rfl g rfl _ _ _ _ (fun w' hw' => hw'.row) sumU rfl (i36 _ _)) hHeld ?_
      try dsimp only
      try simp only [Act.put, List.setIfInBounds_toArray, List.set_cons_zero, List.set_cons_succ]
      refine wpAnyH_take (i := 1) (v := .float .f64 x) rfl (by kernel_rfl) (by kernel_rfl) (by kernel_rfl) (fun _ _ _ h => h) (Or.inl ⟨by rfl, fun w _ => rfl⟩) hHeld ?_
      try dsimp only
      try simp only [Act.put, List.setIfInBounds_toArray, List.set_cons_zero, List.set_cons_succ]
      refine wpAnyH_ready (rs := [2]) (by kernel_rfl) (by simp) (AllReadyH.cons rfl (fun K hK => ?_) AllReadyH.nil)
      go_simp
      refine (inf_v _).mono ?_
      rintro e w' ⟨rfl, rfl⟩
      refine hK.out _ _ hHeld (fun hHeld => ?_)
      clear hK K
      try dsimp only
      try simp only [Act.put, List.setIfInBounds_toArray, List.set_cons_zero, List.set_cons_succ]
      refine wpAnyH_ready (rs := [3]) (by kernel_rfl) (by simp) (AllReadyH.cons rfl (fun K hK => ?_) AllReadyH.nil)
      go_simp
      refine (hU.at _).mono ?_
      rintro e w' ⟨rfl, rfl⟩
      refine hK.out _ _ hHeld (fun hHeld => ?_)
      clear hK K
      try dsimp only
      try simp only [Act.put, List.setIfInBounds_toArray, List.set_cons_zero, List.set_cons_succ]
      refine wpAnyH_take (i := 4) (v := .float .f64 (Op.negFloat .f64 U)) rfl (by kernel_rfl) (by kernel_rfl) (by kernel_rfl) (fun _ _ _ h => h) (Or.inl ⟨by rfl, fun w _ => rfl⟩) hHeld ?_
      try dsimp only
      try simp only [Act.put, List.setIfInBounds_toArray, List.set_cons_zero, List.set_cons_succ]
      refine wpAnyH_ready (rs := [5]) (by kernel_rfl) (by simp) (AllReadyH.cons rfl (fun K hK => ?_) AllReadyH.nil)
      go_simp
      refine (add_nx _ _ _ (accH_lt l) hU'b _).mono ?_
      rintro e w' ⟨rfl, hb1⟩
      refine hK.out _ _ (hHeld.next hb1) (fun hHeld => ?_)
      replace hk := hk.next hb1
      clear hb1
      clear hK K
      try dsimp only
      try simp only [Act.put, List.setIfInBounds_toArray, List.set_cons_zero, List.set_cons_succ]
      refine wpAnyH_ready (rs := [6]) (by kernel_rfl) (by simp) (AllReadyH.cons rfl (fun K hK => ?_) AllReadyH.nil)
      go_simp
      refine (hvU'.at _).mono ?_
      rintro e w' ⟨rfl, hb1⟩
      refine hK.out _ _ (hHeld.next hb1) (fun hHeld => ?_)
      replace hk := hk.next hb1
      clear hb1
      clear hK K
      try dsimp only
      try simp only [Act.put, List.setIfInBounds_toArray, List.set_cons_zero, List.set_cons_succ]
      refine wpAnyH_take (i := 7) (v := .tuple #[.float .f64 up, .bool ou]) rfl (by kernel_rfl) (by kernel_rfl) (by kernel_rfl) (fun _ _ _ h => h) (Or.inl ⟨by rfl, fun w _ => rfl⟩) hHeld ?_
      try dsimp only
      try simp only [Act.put, List.setIfInBounds_toArray, List.set_cons_zero, List.set_cons_succ]
      refine wpAnyH_take (i := 8) (v := .float .f64 up) rfl (by kernel_rfl) (by kernel_rfl) (by kernel_rfl) (fun _ _ _ h => h) (Or.inl ⟨by rfl, fun w _ => rfl⟩) hHeld ?_
      try dsimp only
      try simp only [Act.put, List.setIfInBounds_toArray, List.set_cons_zero, List.set_cons_succ]
      refine wpAnyH_take (i := 9) (v := .bool ou) rfl (by kernel_rfl) (by kernel_rfl) (by kernel_rfl) (fun _ _ _ h => h) (Or.inl ⟨by rfl, fun w _ => rfl⟩) hHeld ?_
      try dsimp only
      try simp only [Act.put, List.setIfInBounds_toArray, List.set_cons_zero, List.set_cons_succ]
      refine wpAnyH_take (i := 10) (v := .float .f64 up) rfl (by kernel_rfl) (by kernel_rfl) (by kernel_rfl) (fun _ _ _ h => h) (Or.inl ⟨by rfl, fun w _ => rfl⟩) hHeld ?_
      try dsimp only
      try simp only [Act.put, List.setIfInBounds_toArray, List.set_cons_zero, List.set_cons_succ]
      refine wpAnyH_take (i := 11) (v := .bool ou) rfl (by kernel_rfl) (by kernel_rfl) (by kernel_rfl) (fun _ _ _ h => h) (Or.inl ⟨by rfl, fun w _ => rfl⟩) hHeld ?_
      try dsimp only
      try simp only [Act.put, List.setIfInBounds_toArray, List.set_cons_zero, List.set_cons_succ]
      refine wpAnyH_done (by kernel_rfl) ?_ _
      go_wp2_with fail
      refine wp_region_held_drew (S := Kp w g (P36 (wd (accN l)) (accH l)) 27) (by kernel_rfl) ?_ (fun hHeld => ?_)
      · exact ⟨hk.below.drew, hk.row⟩
      replace hk := hk.drew
      refine wpAnyH_take (i := 0) (v := .agg (P36 (wd (accN l)) (accH l))) rfl (by kernel_rfl) (by kernel_rfl) (by kernel_rfl) (fun _ _ _ h => h) (yieldsIf_row rfl 27 (.tmp 3) rfl g rfl _ _ _ _ (fun w' hw' => hw'.row) sumU rfl (i36 _ _)) hHeld ?_
      try dsimp only
      try simp only [Act.put, List.setIfInBounds_toArray, List.set_cons_zero, List.set_cons_succ]
      refine wpAnyH_take (i := 1) (v := .float .f64 x) rfl (by kernel_rfl) (by kernel_rfl) (by kernel_rfl) (fun _ _ _ h => h) (Or.inl ⟨by rfl, fun w _ => rfl⟩) hHeld ?_
      try dsimp only
      try simp only [Act.put, List.setIfInBounds_toArray, List.set_cons_zero, List.set_cons_succ]
      refine wpAnyH_ready (rs := [2]) (by kernel_rfl) (by simp) (AllReadyH.cons rfl (fun K hK => ?_) AllReadyH.nil)
      go_simp
      refine (inf_n _).mono ?_
      rintro e w' ⟨rfl, rfl⟩
      refine hK.out _ _ hHeld (fun hHeld => ?_)
      clear hK K
      try dsimp only
      try simp only [Act.put, List.setIfInBounds_toArray, List.set_cons_zero, List.set_cons_succ]
      refine wpAnyH_ready (rs := [3]) (by kernel_rfl) (by simp) (AllReadyH.cons rfl (fun K hK => ?_) AllReadyH.nil)
      go_simp
      refine (hD.at _).mono ?_
      rintro e w' ⟨rfl, rfl⟩
      refine hK.out _ _ hHeld (fun hHeld => ?_)
      clear hK K
      try dsimp only
      try simp only [Act.put, List.setIfInBounds_toArray, List.set_cons_zero, List.set_cons_succ]
      refine wpAnyH_take (i := 4) (v := .float .f64 (Op.negFloat .f64 D)) rfl (by kernel_rfl) (by kernel_rfl) (by kernel_rfl) (fun _ _ _ h => h) (Or.inl ⟨by rfl, fun w _ => rfl⟩) hHeld ?_
      try dsimp only
      try simp only [Act.put, List.setIfInBounds_toArray, List.set_cons_zero, List.set_cons_succ]
      refine wpAnyH_ready (rs := [5]) (by kernel_rfl) (by simp) (AllReadyH.cons rfl (fun K hK => ?_) AllReadyH.nil)
      go_simp
      refine (add_nx _ _ _ (accH_lt l) hD'b _).mono ?_
      rintro e w' ⟨rfl, hb1⟩
      refine hK.out _ _ (hHeld.next hb1) (fun hHeld => ?_)
      replace hk := hk.next hb1
      clear hb1
      clear hK K
      try dsimp only
      try simp only [Act.put, List.setIfInBounds_toArray, List.set_cons_zero, List.set_cons_succ]
      refine wpAnyH_ready (rs := [6]) (by kernel_rfl) (by simp) (AllReadyH.cons rfl (fun K hK => ?_) AllReadyH.nil)
      go_simp
      refine (hvD'.at _).mono ?_
      rintro e w' ⟨rfl, hb1⟩
      refine hK.out _ _ (hHeld.next hb1) (fun hHeld => ?_)
      replace hk := hk.next hb1
      clear hb1
      clear hK K
      try dsimp only
      try simp only [Act.put, List.setIfInBounds_toArray, List.set_cons_zero, List.set_cons_succ]
      refine wpAnyH_take (i := 7) (v := .tuple #[.float .f64 dn, .bool on]) rfl (by kernel_rfl) (by kernel_rfl) (by kernel_rfl) (fun _ _ _ h => h) (Or.inl ⟨by rfl, fun w _ => rfl⟩) hHeld ?_
      try dsimp only
      try simp only [Act.put, List.setIfInBounds_toArray, List.set_cons_zero, List.set_cons_succ]
      refine wpAnyH_take (i := 8) (v := .float .f64 dn) rfl (by kernel_rfl) (by kernel_rfl) (by kernel_rfl) (fun _ _ _ h => h) (Or.inl ⟨by rfl, fun w _ => rfl⟩) hHeld ?_
      try dsimp only
      try simp only [Act.put, List.setIfInBounds_toArray, List.set_cons_zero, List.set_cons_succ]
      refine wpAnyH_take (i := 9) (v := .bool on) rfl (by kernel_rfl) (by kernel_rfl) (by kernel_rfl) (fun _ _ _ h => h) (Or.inl ⟨by rfl, fun w _ => rfl⟩) hHeld ?_
      try dsimp only
      try simp only [Act.put, List.setIfInBounds_toArray, List.set_cons_zero, List.set_cons_succ]
      refine wpAnyH_take (i := 10) (v := .float .f64 dn) rfl (by kernel_rfl) (by kernel_rfl) (by kernel_rfl) (fun _ _ _ h => h) (Or.inl ⟨by rfl, fun w _ => rfl⟩) hHeld ?_
      try dsimp only
      try simp only [Act.put, List.setIfInBounds_toArray, List.set_cons_zero, List.set_cons_succ]
      refine wpAnyH_take (i := 11) (v := .bool on) rfl (by kernel_rfl) (by kernel_rfl) (by kernel_rfl) (fun _ _ _ h => h) (Or.inl ⟨by rfl, fun w _ => rfl⟩) hHeld ?_
      try dsimp only
      try simp only [Act.put, List.setIfInBounds_toArray, List.set_cons_zero, List.set_cons_succ]
      refine wpAnyH_done (by kernel_rfl) ?_ _
      go_wp2_with (go_at_call 34; refine (abs_any _ (by assumption) _).mono ?_; rintro e w' ⟨rfl, rfl⟩)
      all_goals first
        | (have q := l1.out; simp only [Bool.or_eq_true, beq_iff_eq] at q; exact absurd q (by assumption))
        | (go_ret; exact ⟨ret_eq (congrArg Value.bool (by first | rw [l1.out, l2.out]; rfl | rw [l2.out])), hk.below⟩)
end Go.Proofs.Ytofcfjchlkmenaa
