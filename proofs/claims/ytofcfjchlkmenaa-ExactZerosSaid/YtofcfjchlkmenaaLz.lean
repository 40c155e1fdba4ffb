/-
  The law ExactZeros returns true: walked.
-/
import Derived.Test.YtofcfjchlkmenaaLez
set_option linter.unusedSimpArgs false
set_option linter.unusedVariables false
namespace Go.Proofs.Ytofcfjchlkmenaa
open Go.RowKit Sm

/-- What k noughts with the sign have. -/
def zH (k : Nat) : Nat := if k = 0 then 0 else 8
theorem zH_succ (k : Nat) : orH (zH k) 9223372036854775808 = zH (k + 1) := by
  unfold orH zH
  rw [show kindB 9223372036854775808 = 8 by decide +kernel, if_neg (by omega : ¬ k + 1 = 0)]
  split <;> rfl
theorem zH_lt (k : Nat) : zH k < 32 := by unfold zH; split <;> decide
theorem zN : addN 0 9223372036854775808 = 0 := by decide +kernel
theorem wd_zero : wd 0 = fun _ => 0 := by funext i; unfold wd; simp
theorem zH_zero : zH 0 = 0 := by unfold zH; rfl
attribute [irreducible] zH
def SgGives (W : Nat) (b : Bool) : Prop := ∀ w, Calls Try.prog 31 #[.float .f64 W] w fun e w' => e = .returned (.bool b) ∧ w = w'
theorem SgGives.at {W : Nat} {b : Bool} (H : SgGives W b) (w : World) : Calls Try.prog 31 #[.float .f64 W] w fun e w' => e = .returned (.bool b) ∧ w = w' := H w
def AnGives (n h : Nat) (b : Bool) : Prop := ∀ w, Calls Try.prog 21 #[.agg (P36 (wd n) h)] w fun e w' => e = .returned (.bool b) ∧ Below w.heap.size w w'
theorem AnGives.at {n h : Nat} {b : Bool} (H : AnGives n h b) (w : World) : Calls Try.prog 21 #[.agg (P36 (wd n) h)] w fun e w' => e = .returned (.bool b) ∧ Below w.heap.size w w' := H w

set_option maxHeartbeats 1000000 in
theorem exactZeros_false_false (n : Nat) (hn : n < 256) (hc : decide ((0 : Int) < (n : Int)) = false) (hc2 : decide (0 < n) = false) (hz : Hid (zH n = 0)) (W : Nat) (ho : (FloatKind.f64.format.order W 0 == some .eq) = true) (hs : SgGives W false) (hv : VaGives 0 0 W false) (ha : AnGives 0 0 false) (w : World) :
    Calls Try.prog 8 #[.int .u8 n, .bool false] w fun e w' => e = .returned (.bool true) ∧ Below w.heap.size w w' := by
  have HB := Below.refl w.heap.size w
  have z1 : (9223372036854775808 : Nat) < 18446744073709551616 := by decide
  have z0 : (0 : Nat) < 18446744073709551616 := by decide
  have HO := Lib.hid ho
  clear ho
  go_enter Try.func8, Try.ntmps8
  go_wp2_with (go_at_call 13; refine (awake_any _).mono ?_; rintro e w' ⟨rfl, hb1⟩; replace HB := HB.trans (hb1.mono HB.size); clear hb1)
  rw [zeros36, ← wd_zero]
  have hk0 : Kp w w'.heap.size (P36 (wd 0) 0) 27 (w'.alloc (.cells (P36 (wd 0) 0) 27)) := ⟨HB.alloc HB.size _, heap_alloc_new w' _⟩
  have hge := HB.size
  generalize w'.alloc _ = wb at *
  generalize w'.heap.size = g at *
  clear HB
  go_loopw [6] (fun i wr => ∃ k : Nat, k ≤ n ∧ i = .int .i64 k ∧ Kp w g (P36 (wd 0) (zH k)) 27 wr) (fun i _ => n - (intOf i).toNat)
  case atStart => exact ⟨0, by omega, rfl, by rw [zH_zero]; exact hk0⟩
  case round =>
    obtain ⟨k, hkn, rfl, hk⟩ := hrel
    clear hk0
    have kz := zH_lt k
    by_cases hlt : k < n
    · go_wp2
      refine wp_region_any (by kernel_rfl) ?_
      try (change wpAny _ _ _ _ _ _ _ (World.drew _))
      replace hk := hk.drew
      refine wpAny_ready (rs := [0, 1]) (by kernel_rfl) (by simp) (AllReady.cons rfl (fun K hK => ?_) (AllReady.cons rfl (fun K hK => ?_) AllReady.nil))
      · skip
        rw [if_pos (by rfl)]
        refine wp_load_row 27 (.tmp 5) rfl (g) rfl _ (P36 (wd _) _) (0, 0) _ hk.row sumU rfl (i36 _ _) ?_
        refine hK _ _ ?_
        clear hK K
        try dsimp only
        try simp only [Act.put, List.setIfInBounds_toArray, List.set_cons_zero, List.set_cons_succ]
        refine wpAny_ready (rs := [1]) (by kernel_rfl) (by simp) (AllReady.cons rfl (fun K hK => ?_) AllReady.nil)
        go_simp
        refine (copy_zero _).mono ?_
        rintro e w' ⟨rfl, rfl⟩
        refine hK _ _ ?_
        clear hK K
        try dsimp only
        try simp only [Act.put, List.setIfInBounds_toArray, List.set_cons_zero, List.set_cons_succ]
        refine wpAny_ready (rs := [2]) (by kernel_rfl) (by simp) (AllReady.cons rfl (fun K hK => ?_) AllReady.nil)
        go_simp
        refine (add_nx _ _ _ (by assumption) (by assumption) _).mono ?_
        rintro e w' ⟨rfl, hb1⟩
        have hk := hk.next hb1
        refine hK _ _ ?_
        clear hK K
        try dsimp only
        try simp only [Act.put, List.setIfInBounds_toArray, List.set_cons_zero, List.set_cons_succ]
        refine wpAny_ready (rs := [3]) (by kernel_rfl) (by simp) (AllReady.cons rfl (fun K hK => ?_) AllReady.nil)
        rw [if_pos (by rfl)]
        refine wp_store_row 27 (.tmp 5) (.tmp 19) rfl (g) (P36 (wd _) _) rfl rfl _ _ hk.row (i36 _ _) (by rw [P36_size, P36_size]) (one36 _ _) ?_
        have hk := hk.put (cs' := P36 (wd (addN 0 9223372036854775808)) (orH (zH k) 9223372036854775808)) hge
        refine hK _ _ ?_
        clear hK K
        try dsimp only
        try simp only [Act.put, List.setIfInBounds_toArray, List.set_cons_zero, List.set_cons_succ]
        refine wpAny_done (by kernel_rfl) ?_ _
        rw [zN, zH_succ] at hk ⊢
        generalize World.setRow _ _ _ = wz at hk ⊢
        go_wp2
        go_roundw
        case rel => exact ⟨k + 1, by omega, by go_num, hk⟩
        case measure => simp [intOf]; omega
      · skip
        go_simp
        refine (copy_zero _).mono ?_
        rintro e w' ⟨rfl, rfl⟩
        refine hK _ _ ?_
        clear hK K
        try dsimp only
        try simp only [Act.put, List.setIfInBounds_toArray, List.set_cons_zero, List.set_cons_succ]
        refine wpAny_ready (rs := [0]) (by kernel_rfl) (by simp) (AllReady.cons rfl (fun K hK => ?_) AllReady.nil)
        rw [if_pos (by rfl)]
        refine wp_load_row 27 (.tmp 5) rfl (g) rfl _ (P36 (wd _) _) (0, 0) _ hk.row sumU rfl (i36 _ _) ?_
        refine hK _ _ ?_
        clear hK K
        try dsimp only
        try simp only [Act.put, List.setIfInBounds_toArray, List.set_cons_zero, List.set_cons_succ]
        refine wpAny_ready (rs := [2]) (by kernel_rfl) (by simp) (AllReady.cons rfl (fun K hK => ?_) AllReady.nil)
        go_simp
        refine (add_nx _ _ _ (by assumption) (by assumption) _).mono ?_
        rintro e w' ⟨rfl, hb1⟩
        have hk := hk.next hb1
        refine hK _ _ ?_
        clear hK K
        try dsimp only
        try simp only [Act.put, List.setIfInBounds_toArray, List.set_cons_zero, List.set_cons_succ]
        refine wpAny_ready (rs := [3]) (by kernel_rfl) (by simp) (AllReady.cons rfl (fun K hK => ?_) AllReady.nil)
        rw [if_pos (by rfl)]
        refine wp_store_row 27 (.tmp 5) (.tmp 19) rfl (g) (P36 (wd _) _) rfl rfl _ _ hk.row (i36 _ _) (by rw [P36_size, P36_size]) (one36 _ _) ?_
        have hk := hk.put (cs' := P36 (wd (addN 0 9223372036854775808)) (orH (zH k) 9223372036854775808)) hge
        refine hK _ _ ?_
        clear hK K
        try dsimp only
        try simp only [Act.put, List.setIfInBounds_toArray, List.set_cons_zero, List.set_cons_succ]
        refine wpAny_done (by kernel_rfl) ?_ _
        rw [zN, zH_succ] at hk ⊢
        generalize World.setRow _ _ _ = wz at hk ⊢
        go_wp2
        go_roundw
        case rel => exact ⟨k + 1, by omega, by go_num, hk⟩
        case measure => simp [intOf]; omega
    · obtain rfl : n = k := by omega
      rw [hz.out] at hk
      clear kz
      have k8 : (0 : Nat) < 32 := by decide
      have ho := HO.out
      go_wp2_with (first
        | (refine wpList_sum (.tmp 5) rfl _ rfl _ _ _ _ hk.row rfl ?_)
        | (go_at_call 16; (with_reducible refine (hv.at _).mono ?_); rintro e w' ⟨rfl, hb1⟩; replace hk := hk.next hb1; clear hb1)
        | (go_at_call 21; (with_reducible refine (ha.at _).mono ?_); rintro e w' ⟨rfl, hb1⟩; replace hk := hk.next hb1; clear hb1)
        | (go_at_call 31; (with_reducible refine (hs.at _).mono ?_); rintro e w' ⟨rfl, rfl⟩))
      go_ret
      exact ⟨rfl, hk.below⟩

set_option maxHeartbeats 1000000 in
theorem exactZeros_false_true (n : Nat) (hn : n < 256) (hc : decide ((0 : Int) < (n : Int)) = true) (hc2 : decide (0 < n) = true) (hz : Hid (zH n = 8)) (W : Nat) (ho : (FloatKind.f64.format.order W 0 == some .eq) = true) (hs : SgGives W true) (hv : VaGives 0 8 W false) (ha : AnGives 0 8 true) (w : World) :
    Calls Try.prog 8 #[.int .u8 n, .bool false] w fun e w' => e = .returned (.bool true) ∧ Below w.heap.size w w' := by
  have HB := Below.refl w.heap.size w
  have z1 : (9223372036854775808 : Nat) < 18446744073709551616 := by decide
  have z0 : (0 : Nat) < 18446744073709551616 := by decide
  have HO := Lib.hid ho
  clear ho
  go_enter Try.func8, Try.ntmps8
  go_wp2_with (go_at_call 13; refine (awake_any _).mono ?_; rintro e w' ⟨rfl, hb1⟩; replace HB := HB.trans (hb1.mono HB.size); clear hb1)
  rw [zeros36, ← wd_zero]
  have hk0 : Kp w w'.heap.size (P36 (wd 0) 0) 27 (w'.alloc (.cells (P36 (wd 0) 0) 27)) := ⟨HB.alloc HB.size _, heap_alloc_new w' _⟩
  have hge := HB.size
  generalize w'.alloc _ = wb at *
  generalize w'.heap.size = g at *
  clear HB
  go_loopw [6] (fun i wr => ∃ k : Nat, k ≤ n ∧ i = .int .i64 k ∧ Kp w g (P36 (wd 0) (zH k)) 27 wr) (fun i _ => n - (intOf i).toNat)
  case atStart => exact ⟨0, by omega, rfl, by rw [zH_zero]; exact hk0⟩
  case round =>
    obtain ⟨k, hkn, rfl, hk⟩ := hrel
    clear hk0
    have kz := zH_lt k
    by_cases hlt : k < n
    · go_wp2
      refine wp_region_any (by kernel_rfl) ?_
      try (change wpAny _ _ _ _ _ _ _ (World.drew _))
      replace hk := hk.drew
      refine wpAny_ready (rs := [0, 1]) (by kernel_rfl) (by simp) (AllReady.cons rfl (fun K hK => ?_) (AllReady.cons rfl (fun K hK => ?_) AllReady.nil))
      · skip
        rw [if_pos (by rfl)]
        refine wp_load_row 27 (.tmp 5) rfl (g) rfl _ (P36 (wd _) _) (0, 0) _ hk.row sumU rfl (i36 _ _) ?_
        refine hK _ _ ?_
        clear hK K
        try dsimp only
        try simp only [Act.put, List.setIfInBounds_toArray, List.set_cons_zero, List.set_cons_succ]
        refine wpAny_ready (rs := [1]) (by kernel_rfl) (by simp) (AllReady.cons rfl (fun K hK => ?_) AllReady.nil)
        go_simp
        refine (copy_zero _).mono ?_
        rintro e w' ⟨rfl, rfl⟩
        refine hK _ _ ?_
        clear hK K
        try dsimp only
        try simp only [Act.put, List.setIfInBounds_toArray, List.set_cons_zero, List.set_cons_succ]
        refine wpAny_ready (rs := [2]) (by kernel_rfl) (by simp) (AllReady.cons rfl (fun K hK => ?_) AllReady.nil)
        go_simp
        refine (add_nx _ _ _ (by assumption) (by assumption) _).mono ?_
        rintro e w' ⟨rfl, hb1⟩
        have hk := hk.next hb1
        refine hK _ _ ?_
        clear hK K
        try dsimp only
        try simp only [Act.put, List.setIfInBounds_toArray, List.set_cons_zero, List.set_cons_succ]
        refine wpAny_ready (rs := [3]) (by kernel_rfl) (by simp) (AllReady.cons rfl (fun K hK => ?_) AllReady.nil)
        rw [if_pos (by rfl)]
        refine wp_store_row 27 (.tmp 5) (.tmp 19) rfl (g) (P36 (wd _) _) rfl rfl _ _ hk.row (i36 _ _) (by rw [P36_size, P36_size]) (one36 _ _) ?_
        have hk := hk.put (cs' := P36 (wd (addN 0 9223372036854775808)) (orH (zH k) 9223372036854775808)) hge
        refine hK _ _ ?_
        clear hK K
        try dsimp only
        try simp only [Act.put, List.setIfInBounds_toArray, List.set_cons_zero, List.set_cons_succ]
        refine wpAny_done (by kernel_rfl) ?_ _
        rw [zN, zH_succ] at hk ⊢
        generalize World.setRow _ _ _ = wz at hk ⊢
        go_wp2
        go_roundw
        case rel => exact ⟨k + 1, by omega, by go_num, hk⟩
        case measure => simp [intOf]; omega
      · skip
        go_simp
        refine (copy_zero _).mono ?_
        rintro e w' ⟨rfl, rfl⟩
        refine hK _ _ ?_
        clear hK K
        try dsimp only
        try simp only [Act.put, List.setIfInBounds_toArray, List.set_cons_zero, List.set_cons_succ]
        refine wpAny_ready (rs := [0]) (by kernel_rfl) (by simp) (AllReady.cons rfl (fun K hK => ?_) AllReady.nil)
        rw [if_pos (by rfl)]
        refine wp_load_row 27 (.tmp 5) rfl (g) rfl _ (P36 (wd _) _) (0, 0) _ hk.row sumU rfl (i36 _ _) ?_
        refine hK _ _ ?_
        clear hK K
        try dsimp only
        try simp only [Act.put, List.setIfInBounds_toArray, List.set_cons_zero, List.set_cons_succ]
        refine wpAny_ready (rs := [2]) (by kernel_rfl) (by simp) (AllReady.cons rfl (fun K hK => ?_) AllReady.nil)
        go_simp
        refine (add_nx _ _ _ (by assumption) (by assumption) _).mono ?_
        rintro e w' ⟨rfl, hb1⟩
        have hk := hk.next hb1
        refine hK _ _ ?_
        clear hK K
        try dsimp only
        try simp only [Act.put, List.setIfInBounds_toArray, List.set_cons_zero, List.set_cons_succ]
        refine wpAny_ready (rs := [3]) (by kernel_rfl) (by simp) (AllReady.cons rfl (fun K hK => ?_) AllReady.nil)
        rw [if_pos (by rfl)]
        refine wp_store_row 27 (.tmp 5) (.tmp 19) rfl (g) (P36 (wd _) _) rfl rfl _ _ hk.row (i36 _ _) (by rw [P36_size, P36_size]) (one36 _ _) ?_
        have hk := hk.put (cs' := P36 (wd (addN 0 9223372036854775808)) (orH (zH k) 9223372036854775808)) hge
        refine hK _ _ ?_
        clear hK K
        try dsimp only
        try simp only [Act.put, List.setIfInBounds_toArray, List.set_cons_zero, List.set_cons_succ]
        refine wpAny_done (by kernel_rfl) ?_ _
        rw [zN, zH_succ] at hk ⊢
        generalize World.setRow _ _ _ = wz at hk ⊢
        go_wp2
        go_roundw
        case rel => exact ⟨k + 1, by omega, by go_num, hk⟩
        case measure => simp [intOf]; omega
    · obtain rfl : n = k := by omega
      rw [hz.out] at hk
      clear kz
      have k8 : (8 : Nat) < 32 := by decide
      have ho := HO.out
      go_wp2_with (first
        | (refine wpList_sum (.tmp 5) rfl _ rfl _ _ _ _ hk.row rfl ?_)
        | (go_at_call 16; (with_reducible refine (hv.at _).mono ?_); rintro e w' ⟨rfl, hb1⟩; replace hk := hk.next hb1; clear hb1)
        | (go_at_call 21; (with_reducible refine (ha.at _).mono ?_); rintro e w' ⟨rfl, hb1⟩; replace hk := hk.next hb1; clear hb1)
        | (go_at_call 31; (with_reducible refine (hs.at _).mono ?_); rintro e w' ⟨rfl, rfl⟩))
      go_ret
      exact ⟨rfl, hk.below⟩

set_option maxHeartbeats 1000000 in
theorem exactZeros_true_false (n : Nat) (hn : n < 256) (hc : decide ((0 : Int) < (n : Int)) = false) (hc2 : decide (0 < n) = false) (hz : Hid (zH n = 0)) (W : Nat) (ho : (FloatKind.f64.format.order W 0 == some .eq) = true) (hs : SgGives W false) (hv : VaGives (addN 0 0) (orH 0 0) W false) (ha : AnGives (addN 0 0) (orH 0 0) true) (w : World) :
    Calls Try.prog 8 #[.int .u8 n, .bool true] w fun e w' => e = .returned (.bool true) ∧ Below w.heap.size w w' := by
  have HB := Below.refl w.heap.size w
  have z1 : (9223372036854775808 : Nat) < 18446744073709551616 := by decide
  have z0 : (0 : Nat) < 18446744073709551616 := by decide
  have HO := Lib.hid ho
  clear ho
  go_enter Try.func8, Try.ntmps8
  go_wp2_with (go_at_call 13; refine (awake_any _).mono ?_; rintro e w' ⟨rfl, hb1⟩; replace HB := HB.trans (hb1.mono HB.size); clear hb1)
  rw [zeros36, ← wd_zero]
  have hk0 : Kp w w'.heap.size (P36 (wd 0) 0) 27 (w'.alloc (.cells (P36 (wd 0) 0) 27)) := ⟨HB.alloc HB.size _, heap_alloc_new w' _⟩
  have hge := HB.size
  generalize w'.alloc _ = wb at *
  generalize w'.heap.size = g at *
  clear HB
  go_loopw [6] (fun i wr => ∃ k : Nat, k ≤ n ∧ i = .int .i64 k ∧ Kp w g (P36 (wd 0) (zH k)) 27 wr) (fun i _ => n - (intOf i).toNat)
  case atStart => exact ⟨0, by omega, rfl, by rw [zH_zero]; exact hk0⟩
  case round =>
    obtain ⟨k, hkn, rfl, hk⟩ := hrel
    clear hk0
    have kz := zH_lt k
    by_cases hlt : k < n
    · go_wp2
      refine wp_region_any (by kernel_rfl) ?_
      try (change wpAny _ _ _ _ _ _ _ (World.drew _))
      replace hk := hk.drew
      refine wpAny_ready (rs := [0, 1]) (by kernel_rfl) (by simp) (AllReady.cons rfl (fun K hK => ?_) (AllReady.cons rfl (fun K hK => ?_) AllReady.nil))
      · skip
        rw [if_pos (by rfl)]
        refine wp_load_row 27 (.tmp 5) rfl (g) rfl _ (P36 (wd _) _) (0, 0) _ hk.row sumU rfl (i36 _ _) ?_
        refine hK _ _ ?_
        clear hK K
        try dsimp only
        try simp only [Act.put, List.setIfInBounds_toArray, List.set_cons_zero, List.set_cons_succ]
        refine wpAny_ready (rs := [1]) (by kernel_rfl) (by simp) (AllReady.cons rfl (fun K hK => ?_) AllReady.nil)
        go_simp
        refine (copy_zero _).mono ?_
        rintro e w' ⟨rfl, rfl⟩
        refine hK _ _ ?_
        clear hK K
        try dsimp only
        try simp only [Act.put, List.setIfInBounds_toArray, List.set_cons_zero, List.set_cons_succ]
        refine wpAny_ready (rs := [2]) (by kernel_rfl) (by simp) (AllReady.cons rfl (fun K hK => ?_) AllReady.nil)
        go_simp
        refine (add_nx _ _ _ (by assumption) (by assumption) _).mono ?_
        rintro e w' ⟨rfl, hb1⟩
        have hk := hk.next hb1
        refine hK _ _ ?_
        clear hK K
        try dsimp only
        try simp only [Act.put, List.setIfInBounds_toArray, List.set_cons_zero, List.set_cons_succ]
        refine wpAny_ready (rs := [3]) (by kernel_rfl) (by simp) (AllReady.cons rfl (fun K hK => ?_) AllReady.nil)
        rw [if_pos (by rfl)]
        refine wp_store_row 27 (.tmp 5) (.tmp 19) rfl (g) (P36 (wd _) _) rfl rfl _ _ hk.row (i36 _ _) (by rw [P36_size, P36_size]) (one36 _ _) ?_
        have hk := hk.put (cs' := P36 (wd (addN 0 9223372036854775808)) (orH (zH k) 9223372036854775808)) hge
        refine hK _ _ ?_
        clear hK K
        try dsimp only
        try simp only [Act.put, List.setIfInBounds_toArray, List.set_cons_zero, List.set_cons_succ]
        refine wpAny_done (by kernel_rfl) ?_ _
        rw [zN, zH_succ] at hk ⊢
        generalize World.setRow _ _ _ = wz at hk ⊢
        go_wp2
        go_roundw
        case rel => exact ⟨k + 1, by omega, by go_num, hk⟩
        case measure => simp [intOf]; omega
      · skip
        go_simp
        refine (copy_zero _).mono ?_
        rintro e w' ⟨rfl, rfl⟩
        refine hK _ _ ?_
        clear hK K
        try dsimp only
        try simp only [Act.put, List.setIfInBounds_toArray, List.set_cons_zero, List.set_cons_succ]
        refine wpAny_ready (rs := [0]) (by kernel_rfl) (by simp) (AllReady.cons rfl (fun K hK => ?_) AllReady.nil)
        rw [if_pos (by rfl)]
        refine wp_load_row 27 (.tmp 5) rfl (g) rfl _ (P36 (wd _) _) (0, 0) _ hk.row sumU rfl (i36 _ _) ?_
        refine hK _ _ ?_
        clear hK K
        try dsimp only
        try simp only [Act.put, List.setIfInBounds_toArray, List.set_cons_zero, List.set_cons_succ]
        refine wpAny_ready (rs := [2]) (by kernel_rfl) (by simp) (AllReady.cons rfl (fun K hK => ?_) AllReady.nil)
        go_simp
        refine (add_nx _ _ _ (by assumption) (by assumption) _).mono ?_
        rintro e w' ⟨rfl, hb1⟩
        have hk := hk.next hb1
        refine hK _ _ ?_
        clear hK K
        try dsimp only
        try simp only [Act.put, List.setIfInBounds_toArray, List.set_cons_zero, List.set_cons_succ]
        refine wpAny_ready (rs := [3]) (by kernel_rfl) (by simp) (AllReady.cons rfl (fun K hK => ?_) AllReady.nil)
        rw [if_pos (by rfl)]
        refine wp_store_row 27 (.tmp 5) (.tmp 19) rfl (g) (P36 (wd _) _) rfl rfl _ _ hk.row (i36 _ _) (by rw [P36_size, P36_size]) (one36 _ _) ?_
        have hk := hk.put (cs' := P36 (wd (addN 0 9223372036854775808)) (orH (zH k) 9223372036854775808)) hge
        refine hK _ _ ?_
        clear hK K
        try dsimp only
        try simp only [Act.put, List.setIfInBounds_toArray, List.set_cons_zero, List.set_cons_succ]
        refine wpAny_done (by kernel_rfl) ?_ _
        rw [zN, zH_succ] at hk ⊢
        generalize World.setRow _ _ _ = wz at hk ⊢
        go_wp2
        go_roundw
        case rel => exact ⟨k + 1, by omega, by go_num, hk⟩
        case measure => simp [intOf]; omega
    · obtain rfl : n = k := by omega
      rw [hz.out] at hk
      clear kz
      have k8 : (0 : Nat) < 32 := by decide
      have ho := HO.out
      go_wp2_with (first
        | (refine wpList_sum (.tmp 5) rfl _ rfl _ _ _ _ hk.row rfl ?_)
        | (go_at_call 16; (with_reducible refine (hv.at _).mono ?_); rintro e w' ⟨rfl, hb1⟩; replace hk := hk.next hb1; clear hb1)
        | (go_at_call 21; (with_reducible refine (ha.at _).mono ?_); rintro e w' ⟨rfl, hb1⟩; replace hk := hk.next hb1; clear hb1)
        | (go_at_call 31; (with_reducible refine (hs.at _).mono ?_); rintro e w' ⟨rfl, rfl⟩)
        | (go_at_call 26; (refine (add_nx _ _ _ (by assumption) (by assumption) _).mono ?_); rintro e w' ⟨rfl, hb1⟩; replace hk := hk.next hb1; clear hb1)
        | (refine wpList_keepSum (.tmp 5) (.tmp 22) rfl _ rfl (addN 0 0) (orH 0 0) rfl _ _ _ hk.row rfl ?_; replace hk := hk.put (cs' := P36 (wd (addN 0 0)) (orH 0 0)) hge; generalize World.setRow _ _ _ = wz at hk ⊢))
      go_ret
      exact ⟨rfl, hk.below⟩

set_option maxHeartbeats 1000000 in
theorem exactZeros_true_true (n : Nat) (hn : n < 256) (hc : decide ((0 : Int) < (n : Int)) = true) (hc2 : decide (0 < n) = true) (hz : Hid (zH n = 8)) (W : Nat) (ho : (FloatKind.f64.format.order W 0 == some .eq) = true) (hs : SgGives W false) (hv : VaGives (addN 0 0) (orH 8 0) W false) (ha : AnGives (addN 0 0) (orH 8 0) true) (w : World) :
    Calls Try.prog 8 #[.int .u8 n, .bool true] w fun e w' => e = .returned (.bool true) ∧ Below w.heap.size w w' := by
  have HB := Below.refl w.heap.size w
  have z1 : (9223372036854775808 : Nat) < 18446744073709551616 := by decide
  have z0 : (0 : Nat) < 18446744073709551616 := by decide
  have HO := Lib.hid ho
  clear ho
  go_enter Try.func8, Try.ntmps8
  go_wp2_with (go_at_call 13; refine (awake_any _).mono ?_; rintro e w' ⟨rfl, hb1⟩; replace HB := HB.trans (hb1.mono HB.size); clear hb1)
  rw [zeros36, ← wd_zero]
  have hk0 : Kp w w'.heap.size (P36 (wd 0) 0) 27 (w'.alloc (.cells (P36 (wd 0) 0) 27)) := ⟨HB.alloc HB.size _, heap_alloc_new w' _⟩
  have hge := HB.size
  generalize w'.alloc _ = wb at *
  generalize w'.heap.size = g at *
  clear HB
  go_loopw [6] (fun i wr => ∃ k : Nat, k ≤ n ∧ i = .int .i64 k ∧ Kp w g (P36 (wd 0) (zH k)) 27 wr) (fun i _ => n - (intOf i).toNat)
  case atStart => exact ⟨0, by omega, rfl, by rw [zH_zero]; exact hk0⟩
  case round =>
    obtain ⟨k, hkn, rfl, hk⟩ := hrel
    clear hk0
    have kz := zH_lt k
    by_cases hlt : k < n
    · go_wp2
      refine wp_region_any (by kernel_rfl) ?_
      try (change wpAny _ _ _ _ _ _ _ (World.drew _))
      replace hk := hk.drew
      refine wpAny_ready (rs := [0, 1]) (by kernel_rfl) (by simp) (AllReady.cons rfl (fun K hK => ?_) (AllReady.cons rfl (fun K hK => ?_) AllReady.nil))
      · skip
        rw [if_pos (by rfl)]
        refine wp_load_row 27 (.tmp 5) rfl (g) rfl _ (P36 (wd _) _) (0, 0) _ hk.row sumU rfl (i36 _ _) ?_
        refine hK _ _ ?_
        clear hK K
        try dsimp only
        try simp only [Act.put, List.setIfInBounds_toArray, List.set_cons_zero, List.set_cons_succ]
        refine wpAny_ready (rs := [1]) (by kernel_rfl) (by simp) (AllReady.cons rfl (fun K hK => ?_) AllReady.nil)
        go_simp
        refine (copy_zero _).mono ?_
        rintro e w' ⟨rfl, rfl⟩
        refine hK _ _ ?_
        clear hK K
        try dsimp only
        try simp only [Act.put, List.setIfInBounds_toArray, List.set_cons_zero, List.set_cons_succ]
        refine wpAny_ready (rs := [2]) (by kernel_rfl) (by simp) (AllReady.cons rfl (fun K hK => ?_) AllReady.nil)
        go_simp
        refine (add_nx _ _ _ (by assumption) (by assumption) _).mono ?_
        rintro e w' ⟨rfl, hb1⟩
        have hk := hk.next hb1
        refine hK _ _ ?_
        clear hK K
        try dsimp only
        try simp only [Act.put, List.setIfInBounds_toArray, List.set_cons_zero, List.set_cons_succ]
        refine wpAny_ready (rs := [3]) (by kernel_rfl) (by simp) (AllReady.cons rfl (fun K hK => ?_) AllReady.nil)
        rw [if_pos (by rfl)]
        refine wp_store_row 27 (.tmp 5) (.tmp 19) rfl (g) (P36 (wd _) _) rfl rfl _ _ hk.row (i36 _ _) (by rw [P36_size, P36_size]) (one36 _ _) ?_
        have hk := hk.put (cs' := P36 (wd (addN 0 9223372036854775808)) (orH (zH k) 9223372036854775808)) hge
        refine hK _ _ ?_
        clear hK K
        try dsimp only
        try simp only [Act.put, List.setIfInBounds_toArray, List.set_cons_zero, List.set_cons_succ]
        refine wpAny_done (by kernel_rfl) ?_ _
        rw [zN, zH_succ] at hk ⊢
        generalize World.setRow _ _ _ = wz at hk ⊢
        go_wp2
        go_roundw
        case rel => exact ⟨k + 1, by omega, by go_num, hk⟩
        case measure => simp [intOf]; omega
      · skip
        go_simp
        refine (copy_zero _).mono ?_
        rintro e w' ⟨rfl, rfl⟩
        refine hK _ _ ?_
        clear hK K
        try dsimp only
        try simp only [Act.put, List.setIfInBounds_toArray, List.set_cons_zero, List.set_cons_succ]
        refine wpAny_ready (rs := [0]) (by kernel_rfl) (by simp) (AllReady.cons rfl (fun K hK => ?_) AllReady.nil)
        rw [if_pos (by rfl)]
        refine wp_load_row 27 (.tmp 5) rfl (g) rfl _ (P36 (wd _) _) (0, 0) _ hk.row sumU rfl (i36 _ _) ?_
        refine hK _ _ ?_
        clear hK K
        try dsimp only
        try simp only [Act.put, List.setIfInBounds_toArray, List.set_cons_zero, List.set_cons_succ]
        refine wpAny_ready (rs := [2]) (by kernel_rfl) (by simp) (AllReady.cons rfl (fun K hK => ?_) AllReady.nil)
        go_simp
        refine (add_nx _ _ _ (by assumption) (by assumption) _).mono ?_
        rintro e w' ⟨rfl, hb1⟩
        have hk := hk.next hb1
        refine hK _ _ ?_
        clear hK K
        try dsimp only
        try simp only [Act.put, List.setIfInBounds_toArray, List.set_cons_zero, List.set_cons_succ]
        refine wpAny_ready (rs := [3]) (by kernel_rfl) (by simp) (AllReady.cons rfl (fun K hK => ?_) AllReady.nil)
        rw [if_pos (by rfl)]
        refine wp_store_row 27 (.tmp 5) (.tmp 19) rfl (g) (P36 (wd _) _) rfl rfl _ _ hk.row (i36 _ _) (by rw [P36_size, P36_size]) (one36 _ _) ?_
        have hk := hk.put (cs' := P36 (wd (addN 0 9223372036854775808)) (orH (zH k) 9223372036854775808)) hge
        refine hK _ _ ?_
        clear hK K
        try dsimp only
        try simp only [Act.put, List.setIfInBounds_toArray, List.set_cons_zero, List.set_cons_succ]
        refine wpAny_done (by kernel_rfl) ?_ _
        rw [zN, zH_succ] at hk ⊢
        generalize World.setRow _ _ _ = wz at hk ⊢
        go_wp2
        go_roundw
        case rel => exact ⟨k + 1, by omega, by go_num, hk⟩
        case measure => simp [intOf]; omega
    · obtain rfl : n = k := by omega
      rw [hz.out] at hk
      clear kz
      have k8 : (8 : Nat) < 32 := by decide
      have ho := HO.out
      go_wp2_with (first
        | (refine wpList_sum (.tmp 5) rfl _ rfl _ _ _ _ hk.row rfl ?_)
        | (go_at_call 16; (with_reducible refine (hv.at _).mono ?_); rintro e w' ⟨rfl, hb1⟩; replace hk := hk.next hb1; clear hb1)
        | (go_at_call 21; (with_reducible refine (ha.at _).mono ?_); rintro e w' ⟨rfl, hb1⟩; replace hk := hk.next hb1; clear hb1)
        | (go_at_call 31; (with_reducible refine (hs.at _).mono ?_); rintro e w' ⟨rfl, rfl⟩)
        | (go_at_call 26; (refine (add_nx _ _ _ (by assumption) (by assumption) _).mono ?_); rintro e w' ⟨rfl, hb1⟩; replace hk := hk.next hb1; clear hb1)
        | (refine wpList_keepSum (.tmp 5) (.tmp 22) rfl _ rfl (addN 0 0) (orH 8 0) rfl _ _ _ hk.row rfl ?_; replace hk := hk.put (cs' := P36 (wd (addN 0 0)) (orH 8 0)) hge; generalize World.setRow _ _ _ = wz at hk ⊢))
      go_ret
      exact ⟨rfl, hk.below⟩

theorem va_ofz (n h W : Nat) (hn : n < top) (hh : h < 32) (e : valW n h = W ∧ valO n h = false) : VaGives n h W false := fun w => by
  have H := value_any n h hn hh w
  rwa [e.1, e.2] at H
theorem an_of (n h : Nat) (b : Bool) (e : (bits .and .u8 (h : Int) 8 != 0) = b) : AnGives n h b := fun w => by
  have H := any_any n h w
  rwa [e] at H
theorem orZ (z : Nat) (h : z = 0 ∨ z = 8) : orH z 0 = 24 := by
  unfold orH
  rw [show kindB 0 = 24 by decide +kernel]
  rcases h with rfl | rfl <;> rfl
theorem addZ : addN 0 0 = 0 := by decide +kernel
theorem valZ : (valW 0 0 = 0 ∧ valO 0 0 = false) ∧ (valW 0 8 = 9223372036854775808 ∧ valO 0 8 = false) ∧ (valW 0 24 = 0 ∧ valO 0 24 = false) := by decide +kernel
theorem sg_0 : SgGives 0 false := fun w => signbit_any 0 (by decide) w
theorem sg_m : SgGives 9223372036854775808 true := fun w => signbit_any 9223372036854775808 (by decide) w
theorem o_0 : (FloatKind.f64.format.order 0 0 == some .eq) = true := by decide +kernel
theorem o_m : (FloatKind.f64.format.order 9223372036854775808 0 == some .eq) = true := by decide +kernel
theorem exactZeros_any (n : Nat) (hn : n < 256) (plain : Bool) (w : World) :
    Calls Try.prog 8 #[.int .u8 n, .bool plain] w fun e w' => e = .returned (.bool true) ∧ Below w.heap.size w w' := by
  obtain ⟨v0, v8, v24⟩ := valZ
  have z0 := top_pos
  by_cases h : n = 0
  · have hc : decide ((0 : Int) < (n : Int)) = false := decide_eq_false (by omega)
    have hc2 : decide (0 < n) = false := decide_eq_false (by omega)
    have hz : zH n = 0 := by rw [h]; exact zH_zero
    cases plain
    · exact exactZeros_false_false n hn hc hc2 hz 0 o_0 sg_0 (va_ofz _ _ _ z0 (by decide) v0) (an_of _ _ _ (by decide)) w
    · refine exactZeros_true_false n hn hc hc2 hz 0 o_0 sg_0 ?_ ?_ w
      · rw [addZ, orZ 0 (Or.inl rfl)]; exact va_ofz _ _ _ z0 (by decide) v24
      · rw [addZ, orZ 0 (Or.inl rfl)]; exact an_of _ _ _ (by decide)
  · have hc : decide ((0 : Int) < (n : Int)) = true := decide_eq_true (by omega)
    have hc2 : decide (0 < n) = true := decide_eq_true (by omega)
    have hz : zH n = 8 := by unfold zH; rw [if_neg h]
    cases plain
    · exact exactZeros_false_true n hn hc hc2 hz 9223372036854775808 o_m sg_m (va_ofz _ _ _ z0 (by decide) v8) (an_of _ _ _ (by decide)) w
    · refine exactZeros_true_true n hn hc hc2 hz 0 o_0 sg_0 ?_ ?_ w
      · rw [addZ, orZ 8 (Or.inr rfl)]; exact va_ofz _ _ _ z0 (by decide) v24
      · rw [addZ, orZ 8 (Or.inr rfl)]; exact an_of _ _ _ (by decide)
end Go.Proofs.Ytofcfjchlkmenaa
