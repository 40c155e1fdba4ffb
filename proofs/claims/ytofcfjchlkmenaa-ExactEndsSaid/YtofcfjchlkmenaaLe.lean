/-
  The law ExactEnds returns true: walked.
-/
import Derived.Test.YtofcfjchlkmenaaLez
set_option linter.unusedSimpArgs false
set_option linter.unusedVariables false
namespace Go.Proofs.Ytofcfjchlkmenaa
open Go.RowKit Sm

set_option maxHeartbeats 1000000 in
theorem exactEnds_long (a : Option Addr) (len cap b : Nat) (h0 : decide ((20 : Int) < (len : Int)) = true) (w : World) :
    Calls Try.prog 7 #[.slice a len cap, .int .u8 b] w fun e w' => e = .returned (.bool true) ∧ Below w.heap.size w w' := by
  have HB := Below.refl w.heap.size w
  go_enter Try.func7, Try.ntmps7
  go_wp2_with (go_at_call 13; refine (awake_any _).mono ?_; rintro e w' ⟨rfl, hb1⟩; replace HB := HB.trans (hb1.mono HB.size); clear hb1)
  go_ret
  exact ⟨rfl, HB⟩

set_option maxHeartbeats 4000000 in
theorem exactEnds_0 (a : Option Addr) (l : List Nat) (len cap b : Nat) (hlen : Hid (len = l.length)) (hl : len ≤ 20) (h0 : decide ((20 : Int) < (len : Int)) = false) (hb : b < 256) (hc : b % 5 = 0) 
    (hv : Fin l → VaGives (addN (accN l) 9221120237041090561) (orH (accH l) 9221120237041090561) 9221120237041090560 false) (hsm : SmGives 9221120237041090560 9221120237041090561) (w : World) (HA : Hid (FlAt w a l)) :
    Calls Try.prog 7 #[.slice a len cap, .int .u8 b] w fun e w' => e = .returned (.bool true) ∧ Below w.heap.size w w' := by
  have HB := Below.refl w.heap.size w
  have q0 : ((b : Int) % 5 == 0) = true := by
    first | (rw [beq_iff_eq]; omega) | (rw [beq_eq_false_iff_ne]; omega)
  have q1 : ((b : Int) % 5 == 1) = false := by
    first | (rw [beq_iff_eq]; omega) | (rw [beq_eq_false_iff_ne]; omega)
  have q2 : ((b : Int) % 5 == 2) = false := by
    first | (rw [beq_iff_eq]; omega) | (rw [beq_eq_false_iff_ne]; omega)
  have q3 : ((b : Int) % 5 == 3) = false := by
    first | (rw [beq_iff_eq]; omega) | (rw [beq_eq_false_iff_ne]; omega)
  have q4 : ((b : Int) % 5 == 4) = false := by
    first | (rw [beq_iff_eq]; omega) | (rw [beq_eq_false_iff_ne]; omega)
  clear hc
  have z0 : (9221120237041090561 : Nat) < 18446744073709551616 := by decide
  have z1 : (9218868437227405312 : Nat) < 18446744073709551616 := by decide
  have z2 : (18442240474082181120 : Nat) < 18446744073709551616 := by decide
  have k0 := accH_lt l
  have k1 := orH_lt _ 9221120237041090561 k0
  have HV := Lib.hid hv
  clear hv
  go_enter Try.func7, Try.ntmps7
  go_wp2_with (go_at_call 13; refine (awake_any _).mono ?_; rintro e w' ⟨rfl, hb1⟩; replace HB := HB.trans (hb1.mono HB.size); clear hb1)
  go_loop [5] (fun i => ∃ k : Nat, k ≤ len ∧ i = .int .i64 k ∧ Hid (Fin (l.take k))) (fun i => len - (intOf i).toNat)
  case atStart => exact ⟨0, by omega, rfl, by rw [List.take_zero]; exact fun x hx => by cases hx⟩
  case round =>
    obtain ⟨k, hk, rfl, FA⟩ := hrel
    by_cases hlt : k < len
    · have hkl : k < l.length := by have := hlen.out; omega
      obtain ⟨hx, g, off, rfl, hg, hc0⟩ := HA.out k l[k] (List.getElem?_eq_getElem hkl)
      have hc : w'.cell? ⟨g, off + k, none⟩ = some (.float .f64 l[k]) := (HB.cell (p := ⟨g, off + k, none⟩) hg).trans hc0
      have HX := Lib.hid (show l.take (k + 1) = l.take k ++ [l[k]] from List.take_succ_eq_append_getElem hkl)
      clear hc0
      generalize hX0 : l[k] = X at *
      clear hX0
      cases h1 : Fl.nan X <;> cases h2 : decide (Fl.rung X = 9218868437227405312)
      all_goals
        go_wp2_with (first
          | (go_at_call 24; refine (isNaN_any _ (by assumption) _).mono ?_; rintro e w' ⟨rfl, rfl⟩)
          | (go_at_call 25; refine (isInf_any _ (by assumption) _).mono ?_; rintro e w' ⟨rfl, rfl⟩))
        first
          | (go_ret
             exact ⟨rfl, HB⟩)
          | (go_round
             case rel => exact ⟨k + 1, by omega, by go_num, by rw [HX.out]; exact fin_snoc _ _ FA.out (fin_of X h1 h2)⟩
             case measure => simp [intOf]; omega)
    · have hv := HV.out (by have h := FA.out; rwa [List.take_of_length_le (by have := hlen.out; omega)] at h)
      go_wp2_with (first
        | (go_at_call 14; refine (of_slice a l len cap hlen (by omega) _ (FlAt.keep HA.out HB)).mono ?_; rintro e w' ⟨rfl, hb1⟩; replace HB := HB.trans (hb1.mono HB.size); clear hb1)
        | (go_at_call 28; (with_reducible refine (mnan_v _).mono ?_); rintro e w' ⟨rfl, rfl⟩)
        | (rw [zeros36]; refine wpList_store_row rfl 27 (.tmp 6) (.tmp 37) rfl _ (P36 (wd _) _) rfl rfl _ _ (heap_alloc_new _ _) (i36 _ _) (by rw [P36_size, P36_size]) (one36 _ _) ?_; rw [World.setRow_alloc_new];
           have hk : Kp w w'.heap.size (P36 (wd (accN l)) (accH l)) 27 (w'.alloc (.cells (P36 (wd (accN l)) (accH l)) 27)) := ⟨HB.alloc HB.size _, heap_alloc_new w' _⟩;
           have hge := HB.size; generalize w'.alloc _ = wb at *; generalize w'.heap.size = g at *; clear HB))
      refine wp_region_any (by kernel_rfl) ?_
      try (change wpAny _ _ _ _ _ _ _ (World.drew _))
      replace hk := hk.drew
      refine wpAny_ready (rs := [0, 1]) (by kernel_rfl) (by simp) (AllReady.cons rfl (fun K hK => ?_) (AllReady.cons rfl (fun K hK => ?_) AllReady.nil))
      · skip
        rw [if_pos (by rfl)]
        refine wp_load_row 27 (.tmp 6) rfl (g) rfl _ (P36 (wd _) _) (0, 0) _ hk.row sumU rfl (i36 _ _) ?_
        refine hK _ _ ?_
        clear hK K
        try dsimp only
        try simp only [Act.put, List.setIfInBounds_toArray, List.set_cons_zero, List.set_cons_succ]
        refine wpAny_ready (rs := [1]) (by kernel_rfl) (by simp) (AllReady.cons rfl (fun K hK => ?_) AllReady.nil)
        go_simp
        refine (mnan_v _).mono ?_
        rintro e w' ⟨rfl, rfl⟩
        refine hK _ _ ?_
        clear hK K
        try dsimp only
        try simp only [Act.put, List.setIfInBounds_toArray, List.set_cons_zero, List.set_cons_succ]
        refine wpAny_ready (rs := [2]) (by kernel_rfl) (by simp) (AllReady.cons rfl (fun K hK => ?_) AllReady.nil)
        go_simp
        refine (add_nx _ _ _ (by assumption) (by assumption) _).mono ?_
        rintro e w' ⟨rfl, hb1⟩
        have hk := hk.next hb1
        refine hK _ _ ?_
        clear hK K
        try dsimp only
        try simp only [Act.put, List.setIfInBounds_toArray, List.set_cons_zero, List.set_cons_succ]
        refine wpAny_ready (rs := [3]) (by kernel_rfl) (by simp) (AllReady.cons rfl (fun K hK => ?_) AllReady.nil)
        rw [if_pos (by rfl)]
        refine wp_store_row 27 (.tmp 6) (.tmp 50) rfl (g) (P36 (wd _) _) rfl rfl _ _ hk.row (i36 _ _) (by rw [P36_size, P36_size]) (one36 _ _) ?_
        have hk := hk.put (cs' := P36 (wd (addN (accN l) 9221120237041090561)) (orH (accH l) 9221120237041090561)) hge
        refine hK _ _ ?_
        clear hK K
        try dsimp only
        try simp only [Act.put, List.setIfInBounds_toArray, List.set_cons_zero, List.set_cons_succ]
        refine wpAny_done (by kernel_rfl) ?_ _
        have HB := hk.below
        generalize World.setRow _ _ _ = wz at hk HB ⊢
        clear FA HA
        go_wp2_with (first
          | (refine wpList_load_row rfl 27 (.tmp 6) rfl _ rfl _ _ (0, 0) _ hk.row sumU rfl (i36 _ _) ?_)
          | (go_at_call 16; (with_reducible refine (hv.at _).mono ?_); rintro e w' ⟨rfl, hb1⟩; replace HB := HB.trans (hb1.mono HB.size); clear hb1)
          | (go_at_call 29; (first | (with_reducible refine (inf_v _).mono ?_) | (with_reducible refine (inf_n _).mono ?_)); rintro e w' ⟨rfl, rfl⟩)
          | (go_at_call 27; (with_reducible refine (hsm.at _).mono ?_); rintro e w' ⟨rfl, rfl⟩))
        go_ret
        exact ⟨rfl, HB⟩
      · skip
        go_simp
        refine (mnan_v _).mono ?_
        rintro e w' ⟨rfl, rfl⟩
        refine hK _ _ ?_
        clear hK K
        try dsimp only
        try simp only [Act.put, List.setIfInBounds_toArray, List.set_cons_zero, List.set_cons_succ]
        refine wpAny_ready (rs := [0]) (by kernel_rfl) (by simp) (AllReady.cons rfl (fun K hK => ?_) AllReady.nil)
        rw [if_pos (by rfl)]
        refine wp_load_row 27 (.tmp 6) rfl (g) rfl _ (P36 (wd _) _) (0, 0) _ hk.row sumU rfl (i36 _ _) ?_
        refine hK _ _ ?_
        clear hK K
        try dsimp only
        try simp only [Act.put, List.setIfInBounds_toArray, List.set_cons_zero, List.set_cons_succ]
        refine wpAny_ready (rs := [2]) (by kernel_rfl) (by simp) (AllReady.cons rfl (fun K hK => ?_) AllReady.nil)
        go_simp
        refine (add_nx _ _ _ (by assumption) (by assumption) _).mono ?_
        rintro e w' ⟨rfl, hb1⟩
        have hk := hk.next hb1
        refine hK _ _ ?_
        clear hK K
        try dsimp only
        try simp only [Act.put, List.setIfInBounds_toArray, List.set_cons_zero, List.set_cons_succ]
        refine wpAny_ready (rs := [3]) (by kernel_rfl) (by simp) (AllReady.cons rfl (fun K hK => ?_) AllReady.nil)
        rw [if_pos (by rfl)]
        refine wp_store_row 27 (.tmp 6) (.tmp 50) rfl (g) (P36 (wd _) _) rfl rfl _ _ hk.row (i36 _ _) (by rw [P36_size, P36_size]) (one36 _ _) ?_
        have hk := hk.put (cs' := P36 (wd (addN (accN l) 9221120237041090561)) (orH (accH l) 9221120237041090561)) hge
        refine hK _ _ ?_
        clear hK K
        try dsimp only
        try simp only [Act.put, List.setIfInBounds_toArray, List.set_cons_zero, List.set_cons_succ]
        refine wpAny_done (by kernel_rfl) ?_ _
        have HB := hk.below
        generalize World.setRow _ _ _ = wz at hk HB ⊢
        clear FA HA
        go_wp2_with (first
          | (refine wpList_load_row rfl 27 (.tmp 6) rfl _ rfl _ _ (0, 0) _ hk.row sumU rfl (i36 _ _) ?_)
          | (go_at_call 16; (with_reducible refine (hv.at _).mono ?_); rintro e w' ⟨rfl, hb1⟩; replace HB := HB.trans (hb1.mono HB.size); clear hb1)
          | (go_at_call 29; (first | (with_reducible refine (inf_v _).mono ?_) | (with_reducible refine (inf_n _).mono ?_)); rintro e w' ⟨rfl, rfl⟩)
          | (go_at_call 27; (with_reducible refine (hsm.at _).mono ?_); rintro e w' ⟨rfl, rfl⟩))
        go_ret
        exact ⟨rfl, HB⟩

set_option maxHeartbeats 4000000 in
theorem exactEnds_1 (a : Option Addr) (l : List Nat) (len cap b : Nat) (hlen : Hid (len = l.length)) (hl : len ≤ 20) (h0 : decide ((20 : Int) < (len : Int)) = false) (hb : b < 256) (hc : b % 5 = 1) 
    (hv : Fin l → VaGives (addN (accN l) 9218868437227405312) (orH (accH l) 9218868437227405312) 9218868437227405312 false) (hsm : SmGives 9218868437227405312 9218868437227405312) (w : World) (HA : Hid (FlAt w a l)) :
    Calls Try.prog 7 #[.slice a len cap, .int .u8 b] w fun e w' => e = .returned (.bool true) ∧ Below w.heap.size w w' := by
  have HB := Below.refl w.heap.size w
  have q0 : ((b : Int) % 5 == 0) = false := by
    first | (rw [beq_iff_eq]; omega) | (rw [beq_eq_false_iff_ne]; omega)
  have q1 : ((b : Int) % 5 == 1) = true := by
    first | (rw [beq_iff_eq]; omega) | (rw [beq_eq_false_iff_ne]; omega)
  have q2 : ((b : Int) % 5 == 2) = false := by
    first | (rw [beq_iff_eq]; omega) | (rw [beq_eq_false_iff_ne]; omega)
  have q3 : ((b : Int) % 5 == 3) = false := by
    first | (rw [beq_iff_eq]; omega) | (rw [beq_eq_false_iff_ne]; omega)
  have q4 : ((b : Int) % 5 == 4) = false := by
    first | (rw [beq_iff_eq]; omega) | (rw [beq_eq_false_iff_ne]; omega)
  clear hc
  have z0 : (9221120237041090561 : Nat) < 18446744073709551616 := by decide
  have z1 : (9218868437227405312 : Nat) < 18446744073709551616 := by decide
  have z2 : (18442240474082181120 : Nat) < 18446744073709551616 := by decide
  have k0 := accH_lt l
  have k1 := orH_lt _ 9218868437227405312 k0
  have HV := Lib.hid hv
  clear hv
  go_enter Try.func7, Try.ntmps7
  go_wp2_with (go_at_call 13; refine (awake_any _).mono ?_; rintro e w' ⟨rfl, hb1⟩; replace HB := HB.trans (hb1.mono HB.size); clear hb1)
  go_loop [5] (fun i => ∃ k : Nat, k ≤ len ∧ i = .int .i64 k ∧ Hid (Fin (l.take k))) (fun i => len - (intOf i).toNat)
  case atStart => exact ⟨0, by omega, rfl, by rw [List.take_zero]; exact fun x hx => by cases hx⟩
  case round =>
    obtain ⟨k, hk, rfl, FA⟩ := hrel
    by_cases hlt : k < len
    · have hkl : k < l.length := by have := hlen.out; omega
      obtain ⟨hx, g, off, rfl, hg, hc0⟩ := HA.out k l[k] (List.getElem?_eq_getElem hkl)
      have hc : w'.cell? ⟨g, off + k, none⟩ = some (.float .f64 l[k]) := (HB.cell (p := ⟨g, off + k, none⟩) hg).trans hc0
      have HX := Lib.hid (show l.take (k + 1) = l.take k ++ [l[k]] from List.take_succ_eq_append_getElem hkl)
      clear hc0
      generalize hX0 : l[k] = X at *
      clear hX0
      cases h1 : Fl.nan X <;> cases h2 : decide (Fl.rung X = 9218868437227405312)
      all_goals
        go_wp2_with (first
          | (go_at_call 24; refine (isNaN_any _ (by assumption) _).mono ?_; rintro e w' ⟨rfl, rfl⟩)
          | (go_at_call 25; refine (isInf_any _ (by assumption) _).mono ?_; rintro e w' ⟨rfl, rfl⟩))
        first
          | (go_ret
             exact ⟨rfl, HB⟩)
          | (go_round
             case rel => exact ⟨k + 1, by omega, by go_num, by rw [HX.out]; exact fin_snoc _ _ FA.out (fin_of X h1 h2)⟩
             case measure => simp [intOf]; omega)
    · have hv := HV.out (by have h := FA.out; rwa [List.take_of_length_le (by have := hlen.out; omega)] at h)
      go_wp2_with (first
        | (go_at_call 14; refine (of_slice a l len cap hlen (by omega) _ (FlAt.keep HA.out HB)).mono ?_; rintro e w' ⟨rfl, hb1⟩; replace HB := HB.trans (hb1.mono HB.size); clear hb1)
        | (go_at_call 28; (with_reducible refine (mnan_v _).mono ?_); rintro e w' ⟨rfl, rfl⟩)
        | (rw [zeros36]; refine wpList_store_row rfl 27 (.tmp 6) (.tmp 37) rfl _ (P36 (wd _) _) rfl rfl _ _ (heap_alloc_new _ _) (i36 _ _) (by rw [P36_size, P36_size]) (one36 _ _) ?_; rw [World.setRow_alloc_new];
           have hk : Kp w w'.heap.size (P36 (wd (accN l)) (accH l)) 27 (w'.alloc (.cells (P36 (wd (accN l)) (accH l)) 27)) := ⟨HB.alloc HB.size _, heap_alloc_new w' _⟩;
           have hge := HB.size; generalize w'.alloc _ = wb at *; generalize w'.heap.size = g at *; clear HB))
      refine wp_region_any (by kernel_rfl) ?_
      try (change wpAny _ _ _ _ _ _ _ (World.drew _))
      replace hk := hk.drew
      refine wpAny_ready (rs := [0, 1]) (by kernel_rfl) (by simp) (AllReady.cons rfl (fun K hK => ?_) (AllReady.cons rfl (fun K hK => ?_) AllReady.nil))
      · skip
        rw [if_pos (by rfl)]
        refine wp_load_row 27 (.tmp 6) rfl (g) rfl _ (P36 (wd _) _) (0, 0) _ hk.row sumU rfl (i36 _ _) ?_
        refine hK _ _ ?_
        clear hK K
        try dsimp only
        try simp only [Act.put, List.setIfInBounds_toArray, List.set_cons_zero, List.set_cons_succ]
        refine wpAny_ready (rs := [1]) (by kernel_rfl) (by simp) (AllReady.cons rfl (fun K hK => ?_) AllReady.nil)
        go_simp
        refine (inf_v _).mono ?_
        rintro e w' ⟨rfl, rfl⟩
        refine hK _ _ ?_
        clear hK K
        try dsimp only
        try simp only [Act.put, List.setIfInBounds_toArray, List.set_cons_zero, List.set_cons_succ]
        refine wpAny_ready (rs := [2]) (by kernel_rfl) (by simp) (AllReady.cons rfl (fun K hK => ?_) AllReady.nil)
        go_simp
        refine (add_nx _ _ _ (by assumption) (by assumption) _).mono ?_
        rintro e w' ⟨rfl, hb1⟩
        have hk := hk.next hb1
        refine hK _ _ ?_
        clear hK K
        try dsimp only
        try simp only [Act.put, List.setIfInBounds_toArray, List.set_cons_zero, List.set_cons_succ]
        refine wpAny_ready (rs := [3]) (by kernel_rfl) (by simp) (AllReady.cons rfl (fun K hK => ?_) AllReady.nil)
        rw [if_pos (by rfl)]
        refine wp_store_row 27 (.tmp 6) (.tmp 55) rfl (g) (P36 (wd _) _) rfl rfl _ _ hk.row (i36 _ _) (by rw [P36_size, P36_size]) (one36 _ _) ?_
        have hk := hk.put (cs' := P36 (wd (addN (accN l) 9218868437227405312)) (orH (accH l) 9218868437227405312)) hge
        refine hK _ _ ?_
        clear hK K
        try dsimp only
        try simp only [Act.put, List.setIfInBounds_toArray, List.set_cons_zero, List.set_cons_succ]
        refine wpAny_done (by kernel_rfl) ?_ _
        have HB := hk.below
        generalize World.setRow _ _ _ = wz at hk HB ⊢
        clear FA HA
        go_wp2_with (first
          | (refine wpList_load_row rfl 27 (.tmp 6) rfl _ rfl _ _ (0, 0) _ hk.row sumU rfl (i36 _ _) ?_)
          | (go_at_call 16; (with_reducible refine (hv.at _).mono ?_); rintro e w' ⟨rfl, hb1⟩; replace HB := HB.trans (hb1.mono HB.size); clear hb1)
          | (go_at_call 29; (first | (with_reducible refine (inf_v _).mono ?_) | (with_reducible refine (inf_n _).mono ?_)); rintro e w' ⟨rfl, rfl⟩)
          | (go_at_call 27; (with_reducible refine (hsm.at _).mono ?_); rintro e w' ⟨rfl, rfl⟩))
        go_ret
        exact ⟨rfl, HB⟩
      · skip
        go_simp
        refine (inf_v _).mono ?_
        rintro e w' ⟨rfl, rfl⟩
        refine hK _ _ ?_
        clear hK K
        try dsimp only
        try simp only [Act.put, List.setIfInBounds_toArray, List.set_cons_zero, List.set_cons_succ]
        refine wpAny_ready (rs := [0]) (by kernel_rfl) (by simp) (AllReady.cons rfl (fun K hK => ?_) AllReady.nil)
        rw [if_pos (by rfl)]
        refine wp_load_row 27 (.tmp 6) rfl (g) rfl _ (P36 (wd _) _) (0, 0) _ hk.row sumU rfl (i36 _ _) ?_
        refine hK _ _ ?_
        clear hK K
        try dsimp only
        try simp only [Act.put, List.setIfInBounds_toArray, List.set_cons_zero, List.set_cons_succ]
        refine wpAny_ready (rs := [2]) (by kernel_rfl) (by simp) (AllReady.cons rfl (fun K hK => ?_) AllReady.nil)
        go_simp
        refine (add_nx _ _ _ (by assumption) (by assumption) _).mono ?_
        rintro e w' ⟨rfl, hb1⟩
        have hk := hk.next hb1
        refine hK _ _ ?_
        clear hK K
        try dsimp only
        try simp only [Act.put, List.setIfInBounds_toArray, List.set_cons_zero, List.set_cons_succ]
        refine wpAny_ready (rs := [3]) (by kernel_rfl) (by simp) (AllReady.cons rfl (fun K hK => ?_) AllReady.nil)
        rw [if_pos (by rfl)]
        refine wp_store_row 27 (.tmp 6) (.tmp 55) rfl (g) (P36 (wd _) _) rfl rfl _ _ hk.row (i36 _ _) (by rw [P36_size, P36_size]) (one36 _ _) ?_
        have hk := hk.put (cs' := P36 (wd (addN (accN l) 9218868437227405312)) (orH (accH l) 9218868437227405312)) hge
        refine hK _ _ ?_
        clear hK K
        try dsimp only
        try simp only [Act.put, List.setIfInBounds_toArray, List.set_cons_zero, List.set_cons_succ]
        refine wpAny_done (by kernel_rfl) ?_ _
        have HB := hk.below
        generalize World.setRow _ _ _ = wz at hk HB ⊢
        clear FA HA
        go_wp2_with (first
          | (refine wpList_load_row rfl 27 (.tmp 6) rfl _ rfl _ _ (0, 0) _ hk.row sumU rfl (i36 _ _) ?_)
          | (go_at_call 16; (with_reducible refine (hv.at _).mono ?_); rintro e w' ⟨rfl, hb1⟩; replace HB := HB.trans (hb1.mono HB.size); clear hb1)
          | (go_at_call 29; (first | (with_reducible refine (inf_v _).mono ?_) | (with_reducible refine (inf_n _).mono ?_)); rintro e w' ⟨rfl, rfl⟩)
          | (go_at_call 27; (with_reducible refine (hsm.at _).mono ?_); rintro e w' ⟨rfl, rfl⟩))
        go_ret
        exact ⟨rfl, HB⟩

set_option maxHeartbeats 4000000 in
theorem exactEnds_2 (a : Option Addr) (l : List Nat) (len cap b : Nat) (hlen : Hid (len = l.length)) (hl : len ≤ 20) (h0 : decide ((20 : Int) < (len : Int)) = false) (hb : b < 256) (hc : b % 5 = 2) 
    (hv : Fin l → VaGives (addN (accN l) 18442240474082181120) (orH (accH l) 18442240474082181120) 18442240474082181120 false) (hsm : SmGives 18442240474082181120 18442240474082181120) (w : World) (HA : Hid (FlAt w a l)) :
    Calls Try.prog 7 #[.slice a len cap, .int .u8 b] w fun e w' => e = .returned (.bool true) ∧ Below w.heap.size w w' := by
  have HB := Below.refl w.heap.size w
  have q0 : ((b : Int) % 5 == 0) = false := by
    first | (rw [beq_iff_eq]; omega) | (rw [beq_eq_false_iff_ne]; omega)
  have q1 : ((b : Int) % 5 == 1) = false := by
    first | (rw [beq_iff_eq]; omega) | (rw [beq_eq_false_iff_ne]; omega)
  have q2 : ((b : Int) % 5 == 2) = true := by
    first | (rw [beq_iff_eq]; omega) | (rw [beq_eq_false_iff_ne]; omega)
  have q3 : ((b : Int) % 5 == 3) = false := by
    first | (rw [beq_iff_eq]; omega) | (rw [beq_eq_false_iff_ne]; omega)
  have q4 : ((b : Int) % 5 == 4) = false := by
    first | (rw [beq_iff_eq]; omega) | (rw [beq_eq_false_iff_ne]; omega)
  clear hc
  have z0 : (9221120237041090561 : Nat) < 18446744073709551616 := by decide
  have z1 : (9218868437227405312 : Nat) < 18446744073709551616 := by decide
  have z2 : (18442240474082181120 : Nat) < 18446744073709551616 := by decide
  have k0 := accH_lt l
  have k1 := orH_lt _ 18442240474082181120 k0
  have HV := Lib.hid hv
  clear hv
  go_enter Try.func7, Try.ntmps7
  go_wp2_with (go_at_call 13; refine (awake_any _).mono ?_; rintro e w' ⟨rfl, hb1⟩; replace HB := HB.trans (hb1.mono HB.size); clear hb1)
  go_loop [5] (fun i => ∃ k : Nat, k ≤ len ∧ i = .int .i64 k ∧ Hid (Fin (l.take k))) (fun i => len - (intOf i).toNat)
  case atStart => exact ⟨0, by omega, rfl, by rw [List.take_zero]; exact fun x hx => by cases hx⟩
  case round =>
    obtain ⟨k, hk, rfl, FA⟩ := hrel
    by_cases hlt : k < len
    · have hkl : k < l.length := by have := hlen.out; omega
      obtain ⟨hx, g, off, rfl, hg, hc0⟩ := HA.out k l[k] (List.getElem?_eq_getElem hkl)
      have hc : w'.cell? ⟨g, off + k, none⟩ = some (.float .f64 l[k]) := (HB.cell (p := ⟨g, off + k, none⟩) hg).trans hc0
      have HX := Lib.hid (show l.take (k + 1) = l.take k ++ [l[k]] from List.take_succ_eq_append_getElem hkl)
      clear hc0
      generalize hX0 : l[k] = X at *
      clear hX0
      cases h1 : Fl.nan X <;> cases h2 : decide (Fl.rung X = 9218868437227405312)
      all_goals
        go_wp2_with (first
          | (go_at_call 24; refine (isNaN_any _ (by assumption) _).mono ?_; rintro e w' ⟨rfl, rfl⟩)
          | (go_at_call 25; refine (isInf_any _ (by assumption) _).mono ?_; rintro e w' ⟨rfl, rfl⟩))
        first
          | (go_ret
             exact ⟨rfl, HB⟩)
          | (go_round
             case rel => exact ⟨k + 1, by omega, by go_num, by rw [HX.out]; exact fin_snoc _ _ FA.out (fin_of X h1 h2)⟩
             case measure => simp [intOf]; omega)
    · have hv := HV.out (by have h := FA.out; rwa [List.take_of_length_le (by have := hlen.out; omega)] at h)
      go_wp2_with (first
        | (go_at_call 14; refine (of_slice a l len cap hlen (by omega) _ (FlAt.keep HA.out HB)).mono ?_; rintro e w' ⟨rfl, hb1⟩; replace HB := HB.trans (hb1.mono HB.size); clear hb1)
        | (go_at_call 28; (with_reducible refine (mnan_v _).mono ?_); rintro e w' ⟨rfl, rfl⟩)
        | (rw [zeros36]; refine wpList_store_row rfl 27 (.tmp 6) (.tmp 37) rfl _ (P36 (wd _) _) rfl rfl _ _ (heap_alloc_new _ _) (i36 _ _) (by rw [P36_size, P36_size]) (one36 _ _) ?_; rw [World.setRow_alloc_new];
           have hk : Kp w w'.heap.size (P36 (wd (accN l)) (accH l)) 27 (w'.alloc (.cells (P36 (wd (accN l)) (accH l)) 27)) := ⟨HB.alloc HB.size _, heap_alloc_new w' _⟩;
           have hge := HB.size; generalize w'.alloc _ = wb at *; generalize w'.heap.size = g at *; clear HB))
      refine wp_region_any (by kernel_rfl) ?_
      try (change wpAny _ _ _ _ _ _ _ (World.drew _))
      replace hk := hk.drew
      refine wpAny_ready (rs := [0, 1]) (by kernel_rfl) (by simp) (AllReady.cons rfl (fun K hK => ?_) (AllReady.cons rfl (fun K hK => ?_) AllReady.nil))
      · skip
        rw [if_pos (by rfl)]
        refine wp_load_row 27 (.tmp 6) rfl (g) rfl _ (P36 (wd _) _) (0, 0) _ hk.row sumU rfl (i36 _ _) ?_
        refine hK _ _ ?_
        clear hK K
        try dsimp only
        try simp only [Act.put, List.setIfInBounds_toArray, List.set_cons_zero, List.set_cons_succ]
        refine wpAny_ready (rs := [1]) (by kernel_rfl) (by simp) (AllReady.cons rfl (fun K hK => ?_) AllReady.nil)
        go_simp
        refine (inf_n _).mono ?_
        rintro e w' ⟨rfl, rfl⟩
        refine hK _ _ ?_
        clear hK K
        try dsimp only
        try simp only [Act.put, List.setIfInBounds_toArray, List.set_cons_zero, List.set_cons_succ]
        refine wpAny_ready (rs := [2]) (by kernel_rfl) (by simp) (AllReady.cons rfl (fun K hK => ?_) AllReady.nil)
        go_simp
        refine (add_nx _ _ _ (by assumption) (by assumption) _).mono ?_
        rintro e w' ⟨rfl, hb1⟩
        have hk := hk.next hb1
        refine hK _ _ ?_
        clear hK K
        try dsimp only
        try simp only [Act.put, List.setIfInBounds_toArray, List.set_cons_zero, List.set_cons_succ]
        refine wpAny_ready (rs := [3]) (by kernel_rfl) (by simp) (AllReady.cons rfl (fun K hK => ?_) AllReady.nil)
        rw [if_pos (by rfl)]
        refine wp_store_row 27 (.tmp 6) (.tmp 61) rfl (g) (P36 (wd _) _) rfl rfl _ _ hk.row (i36 _ _) (by rw [P36_size, P36_size]) (one36 _ _) ?_
        have hk := hk.put (cs' := P36 (wd (addN (accN l) 18442240474082181120)) (orH (accH l) 18442240474082181120)) hge
        refine hK _ _ ?_
        clear hK K
        try dsimp only
        try simp only [Act.put, List.setIfInBounds_toArray, List.set_cons_zero, List.set_cons_succ]
        refine wpAny_done (by kernel_rfl) ?_ _
        have HB := hk.below
        generalize World.setRow _ _ _ = wz at hk HB ⊢
        clear FA HA
        go_wp2_with (first
          | (refine wpList_load_row rfl 27 (.tmp 6) rfl _ rfl _ _ (0, 0) _ hk.row sumU rfl (i36 _ _) ?_)
          | (go_at_call 16; (with_reducible refine (hv.at _).mono ?_); rintro e w' ⟨rfl, hb1⟩; replace HB := HB.trans (hb1.mono HB.size); clear hb1)
          | (go_at_call 29; (first | (with_reducible refine (inf_v _).mono ?_) | (with_reducible refine (inf_n _).mono ?_)); rintro e w' ⟨rfl, rfl⟩)
          | (go_at_call 27; (with_reducible refine (hsm.at _).mono ?_); rintro e w' ⟨rfl, rfl⟩))
        go_ret
        exact ⟨rfl, HB⟩
      · skip
        go_simp
        refine (inf_n _).mono ?_
        rintro e w' ⟨rfl, rfl⟩
        refine hK _ _ ?_
        clear hK K
        try dsimp only
        try simp only [Act.put, List.setIfInBounds_toArray, List.set_cons_zero, List.set_cons_succ]
        refine wpAny_ready (rs := [0]) (by kernel_rfl) (by simp) (AllReady.cons rfl (fun K hK => ?_) AllReady.nil)
        rw [if_pos (by rfl)]
        refine wp_load_row 27 (.tmp 6) rfl (g) rfl _ (P36 (wd _) _) (0, 0) _ hk.row sumU rfl (i36 _ _) ?_
        refine hK _ _ ?_
        clear hK K
        try dsimp only
        try simp only [Act.put, List.setIfInBounds_toArray, List.set_cons_zero, List.set_cons_succ]
        refine wpAny_ready (rs := [2]) (by kernel_rfl) (by simp) (AllReady.cons rfl (fun K hK => ?_) AllReady.nil)
        go_simp
        refine (add_nx _ _ _ (by assumption) (by assumption) _).mono ?_
        rintro e w' ⟨rfl, hb1⟩
        have hk := hk.next hb1
        refine hK _ _ ?_
        clear hK K
        try dsimp only
        try simp only [Act.put, List.setIfInBounds_toArray, List.set_cons_zero, List.set_cons_succ]
        refine wpAny_ready (rs := [3]) (by kernel_rfl) (by simp) (AllReady.cons rfl (fun K hK => ?_) AllReady.nil)
        rw [if_pos (by rfl)]
        refine wp_store_row 27 (.tmp 6) (.tmp 61) rfl (g) (P36 (wd _) _) rfl rfl _ _ hk.row (i36 _ _) (by rw [P36_size, P36_size]) (one36 _ _) ?_
        have hk := hk.put (cs' := P36 (wd (addN (accN l) 18442240474082181120)) (orH (accH l) 18442240474082181120)) hge
        refine hK _ _ ?_
        clear hK K
        try dsimp only
        try simp only [Act.put, List.setIfInBounds_toArray, List.set_cons_zero, List.set_cons_succ]
        refine wpAny_done (by kernel_rfl) ?_ _
        have HB := hk.below
        generalize World.setRow _ _ _ = wz at hk HB ⊢
        clear FA HA
        go_wp2_with (first
          | (refine wpList_load_row rfl 27 (.tmp 6) rfl _ rfl _ _ (0, 0) _ hk.row sumU rfl (i36 _ _) ?_)
          | (go_at_call 16; (with_reducible refine (hv.at _).mono ?_); rintro e w' ⟨rfl, hb1⟩; replace HB := HB.trans (hb1.mono HB.size); clear hb1)
          | (go_at_call 29; (first | (with_reducible refine (inf_v _).mono ?_) | (with_reducible refine (inf_n _).mono ?_)); rintro e w' ⟨rfl, rfl⟩)
          | (go_at_call 27; (with_reducible refine (hsm.at _).mono ?_); rintro e w' ⟨rfl, rfl⟩))
        go_ret
        exact ⟨rfl, HB⟩

set_option maxHeartbeats 4000000 in
theorem exactEnds_3 (a : Option Addr) (l : List Nat) (len cap b : Nat) (hlen : Hid (len = l.length)) (hl : len ≤ 20) (h0 : decide ((20 : Int) < (len : Int)) = false) (hb : b < 256) (hc : b % 5 = 3) 
    (hv : Fin l → VaGives (addN (addN (accN l) 9218868437227405312) 18442240474082181120) (orH (orH (accH l) 9218868437227405312) 18442240474082181120) 9221120237041090560 false) (hsm : SmGives 9221120237041090560 9221120237041090561) (w : World) (HA : Hid (FlAt w a l)) :
    Calls Try.prog 7 #[.slice a len cap, .int .u8 b] w fun e w' => e = .returned (.bool true) ∧ Below w.heap.size w w' := by
  have HB := Below.refl w.heap.size w
  have q0 : ((b : Int) % 5 == 0) = false := by
    first | (rw [beq_iff_eq]; omega) | (rw [beq_eq_false_iff_ne]; omega)
  have q1 : ((b : Int) % 5 == 1) = false := by
    first | (rw [beq_iff_eq]; omega) | (rw [beq_eq_false_iff_ne]; omega)
  have q2 : ((b : Int) % 5 == 2) = false := by
    first | (rw [beq_iff_eq]; omega) | (rw [beq_eq_false_iff_ne]; omega)
  have q3 : ((b : Int) % 5 == 3) = true := by
    first | (rw [beq_iff_eq]; omega) | (rw [beq_eq_false_iff_ne]; omega)
  have q4 : ((b : Int) % 5 == 4) = false := by
    first | (rw [beq_iff_eq]; omega) | (rw [beq_eq_false_iff_ne]; omega)
  clear hc
  have z0 : (9221120237041090561 : Nat) < 18446744073709551616 := by decide
  have z1 : (9218868437227405312 : Nat) < 18446744073709551616 := by decide
  have z2 : (18442240474082181120 : Nat) < 18446744073709551616 := by decide
  have k0 := accH_lt l
  have k1 := orH_lt _ 9218868437227405312 k0
  have k2 := orH_lt _ 18442240474082181120 k1
  have HV := Lib.hid hv
  clear hv
  go_enter Try.func7, Try.ntmps7
  go_wp2_with (go_at_call 13; refine (awake_any _).mono ?_; rintro e w' ⟨rfl, hb1⟩; replace HB := HB.trans (hb1.mono HB.size); clear hb1)
  go_loop [5] (fun i => ∃ k : Nat, k ≤ len ∧ i = .int .i64 k ∧ Hid (Fin (l.take k))) (fun i => len - (intOf i).toNat)
  case atStart => exact ⟨0, by omega, rfl, by rw [List.take_zero]; exact fun x hx => by cases hx⟩
  case round =>
    obtain ⟨k, hk, rfl, FA⟩ := hrel
    by_cases hlt : k < len
    · have hkl : k < l.length := by have := hlen.out; omega
      obtain ⟨hx, g, off, rfl, hg, hc0⟩ := HA.out k l[k] (List.getElem?_eq_getElem hkl)
      have hc : w'.cell? ⟨g, off + k, none⟩ = some (.float .f64 l[k]) := (HB.cell (p := ⟨g, off + k, none⟩) hg).trans hc0
      have HX := Lib.hid (show l.take (k + 1) = l.take k ++ [l[k]] from List.take_succ_eq_append_getElem hkl)
      clear hc0
      generalize hX0 : l[k] = X at *
      clear hX0
      cases h1 : Fl.nan X <;> cases h2 : decide (Fl.rung X = 9218868437227405312)
      all_goals
        go_wp2_with (first
          | (go_at_call 24; refine (isNaN_any _ (by assumption) _).mono ?_; rintro e w' ⟨rfl, rfl⟩)
          | (go_at_call 25; refine (isInf_any _ (by assumption) _).mono ?_; rintro e w' ⟨rfl, rfl⟩))
        first
          | (go_ret
             exact ⟨rfl, HB⟩)
          | (go_round
             case rel => exact ⟨k + 1, by omega, by go_num, by rw [HX.out]; exact fin_snoc _ _ FA.out (fin_of X h1 h2)⟩
             case measure => simp [intOf]; omega)
    · have hv := HV.out (by have h := FA.out; rwa [List.take_of_length_le (by have := hlen.out; omega)] at h)
      go_wp2_with (first
        | (go_at_call 14; refine (of_slice a l len cap hlen (by omega) _ (FlAt.keep HA.out HB)).mono ?_; rintro e w' ⟨rfl, hb1⟩; replace HB := HB.trans (hb1.mono HB.size); clear hb1)
        | (go_at_call 28; (with_reducible refine (mnan_v _).mono ?_); rintro e w' ⟨rfl, rfl⟩)
        | (rw [zeros36]; refine wpList_store_row rfl 27 (.tmp 6) (.tmp 37) rfl _ (P36 (wd _) _) rfl rfl _ _ (heap_alloc_new _ _) (i36 _ _) (by rw [P36_size, P36_size]) (one36 _ _) ?_; rw [World.setRow_alloc_new];
           have hk : Kp w w'.heap.size (P36 (wd (accN l)) (accH l)) 27 (w'.alloc (.cells (P36 (wd (accN l)) (accH l)) 27)) := ⟨HB.alloc HB.size _, heap_alloc_new w' _⟩;
           have hge := HB.size; generalize w'.alloc _ = wb at *; generalize w'.heap.size = g at *; clear HB))
      refine wp_region_any (by kernel_rfl) ?_
      try (change wpAny _ _ _ _ _ _ _ (World.drew _))
      replace hk := hk.drew
      refine wpAny_ready (rs := [0, 1]) (by kernel_rfl) (by simp) (AllReady.cons rfl (fun K hK => ?_) (AllReady.cons rfl (fun K hK => ?_) AllReady.nil))
      · skip
        rw [if_pos (by rfl)]
        refine wp_load_row 27 (.tmp 6) rfl (g) rfl _ (P36 (wd _) _) (0, 0) _ hk.row sumU rfl (i36 _ _) ?_
        refine hK _ _ ?_
        clear hK K
        try dsimp only
        try simp only [Act.put, List.setIfInBounds_toArray, List.set_cons_zero, List.set_cons_succ]
        refine wpAny_ready (rs := [1]) (by kernel_rfl) (by simp) (AllReady.cons rfl (fun K hK => ?_) AllReady.nil)
        go_simp
        refine (inf_v _).mono ?_
        rintro e w' ⟨rfl, rfl⟩
        refine hK _ _ ?_
        clear hK K
        try dsimp only
        try simp only [Act.put, List.setIfInBounds_toArray, List.set_cons_zero, List.set_cons_succ]
        refine wpAny_ready (rs := [2]) (by kernel_rfl) (by simp) (AllReady.cons rfl (fun K hK => ?_) AllReady.nil)
        go_simp
        refine (add_nx _ _ _ (by assumption) (by assumption) _).mono ?_
        rintro e w' ⟨rfl, hb1⟩
        have hk := hk.next hb1
        refine hK _ _ ?_
        clear hK K
        try dsimp only
        try simp only [Act.put, List.setIfInBounds_toArray, List.set_cons_zero, List.set_cons_succ]
        refine wpAny_ready (rs := [3]) (by kernel_rfl) (by simp) (AllReady.cons rfl (fun K hK => ?_) AllReady.nil)
        go_simp
        refine (inf_n _).mono ?_
        rintro e w' ⟨rfl, rfl⟩
        refine hK _ _ ?_
        clear hK K
        try dsimp only
        try simp only [Act.put, List.setIfInBounds_toArray, List.set_cons_zero, List.set_cons_succ]
        refine wpAny_ready (rs := [4]) (by kernel_rfl) (by simp) (AllReady.cons rfl (fun K hK => ?_) AllReady.nil)
        go_simp
        refine (add_nx _ _ _ (by assumption) (by assumption) _).mono ?_
        rintro e w' ⟨rfl, hb1⟩
        have hk := hk.next hb1
        refine hK _ _ ?_
        clear hK K
        try dsimp only
        try simp only [Act.put, List.setIfInBounds_toArray, List.set_cons_zero, List.set_cons_succ]
        refine wpAny_ready (rs := [5]) (by kernel_rfl) (by simp) (AllReady.cons rfl (fun K hK => ?_) AllReady.nil)
        rw [if_pos (by rfl)]
        refine wp_store_row 27 (.tmp 6) (.tmp 69) rfl (g) (P36 (wd _) _) rfl rfl _ _ hk.row (i36 _ _) (by rw [P36_size, P36_size]) (one36 _ _) ?_
        have hk := hk.put (cs' := P36 (wd (addN (addN (accN l) 9218868437227405312) 18442240474082181120)) (orH (orH (accH l) 9218868437227405312) 18442240474082181120)) hge
        refine hK _ _ ?_
        clear hK K
        try dsimp only
        try simp only [Act.put, List.setIfInBounds_toArray, List.set_cons_zero, List.set_cons_succ]
        refine wpAny_done (by kernel_rfl) ?_ _
        have HB := hk.below
        generalize World.setRow _ _ _ = wz at hk HB ⊢
        clear FA HA
        go_wp2_with (first
          | (refine wpList_load_row rfl 27 (.tmp 6) rfl _ rfl _ _ (0, 0) _ hk.row sumU rfl (i36 _ _) ?_)
          | (go_at_call 16; (with_reducible refine (hv.at _).mono ?_); rintro e w' ⟨rfl, hb1⟩; replace HB := HB.trans (hb1.mono HB.size); clear hb1)
          | (go_at_call 29; (first | (with_reducible refine (inf_v _).mono ?_) | (with_reducible refine (inf_n _).mono ?_)); rintro e w' ⟨rfl, rfl⟩)
          | (go_at_call 27; (with_reducible refine (hsm.at _).mono ?_); rintro e w' ⟨rfl, rfl⟩))
        go_ret
        exact ⟨rfl, HB⟩
      · skip
        go_simp
        refine (inf_v _).mono ?_
        rintro e w' ⟨rfl, rfl⟩
        refine hK _ _ ?_
        clear hK K
        try dsimp only
        try simp only [Act.put, List.setIfInBounds_toArray, List.set_cons_zero, List.set_cons_succ]
        refine wpAny_ready (rs := [0]) (by kernel_rfl) (by simp) (AllReady.cons rfl (fun K hK => ?_) AllReady.nil)
        rw [if_pos (by rfl)]
        refine wp_load_row 27 (.tmp 6) rfl (g) rfl _ (P36 (wd _) _) (0, 0) _ hk.row sumU rfl (i36 _ _) ?_
        refine hK _ _ ?_
        clear hK K
        try dsimp only
        try simp only [Act.put, List.setIfInBounds_toArray, List.set_cons_zero, List.set_cons_succ]
        refine wpAny_ready (rs := [2]) (by kernel_rfl) (by simp) (AllReady.cons rfl (fun K hK => ?_) AllReady.nil)
        go_simp
        refine (add_nx _ _ _ (by assumption) (by assumption) _).mono ?_
        rintro e w' ⟨rfl, hb1⟩
        have hk := hk.next hb1
        refine hK _ _ ?_
        clear hK K
        try dsimp only
        try simp only [Act.put, List.setIfInBounds_toArray, List.set_cons_zero, List.set_cons_succ]
        refine wpAny_ready (rs := [3]) (by kernel_rfl) (by simp) (AllReady.cons rfl (fun K hK => ?_) AllReady.nil)
        go_simp
        refine (inf_n _).mono ?_
        rintro e w' ⟨rfl, rfl⟩
        refine hK _ _ ?_
        clear hK K
        try dsimp only
        try simp only [Act.put, List.setIfInBounds_toArray, List.set_cons_zero, List.set_cons_succ]
        refine wpAny_ready (rs := [4]) (by kernel_rfl) (by simp) (AllReady.cons rfl (fun K hK => ?_) AllReady.nil)
        go_simp
        refine (add_nx _ _ _ (by assumption) (by assumption) _).mono ?_
        rintro e w' ⟨rfl, hb1⟩
        have hk := hk.next hb1
        refine hK _ _ ?_
        clear hK K
        try dsimp only
        try simp only [Act.put, List.setIfInBounds_toArray, List.set_cons_zero, List.set_cons_succ]
        refine wpAny_ready (rs := [5]) (by kernel_rfl) (by simp) (AllReady.cons rfl (fun K hK => ?_) AllReady.nil)
        rw [if_pos (by rfl)]
        refine wp_store_row 27 (.tmp 6) (.tmp 69) rfl (g) (P36 (wd _) _) rfl rfl _ _ hk.row (i36 _ _) (by rw [P36_size, P36_size]) (one36 _ _) ?_
        have hk := hk.put (cs' := P36 (wd (addN (addN (accN l) 9218868437227405312) 18442240474082181120)) (orH (orH (accH l) 9218868437227405312) 18442240474082181120)) hge
        refine hK _ _ ?_
        clear hK K
        try dsimp only
        try simp only [Act.put, List.setIfInBounds_toArray, List.set_cons_zero, List.set_cons_succ]
        refine wpAny_done (by kernel_rfl) ?_ _
        have HB := hk.below
        generalize World.setRow _ _ _ = wz at hk HB ⊢
        clear FA HA
        go_wp2_with (first
          | (refine wpList_load_row rfl 27 (.tmp 6) rfl _ rfl _ _ (0, 0) _ hk.row sumU rfl (i36 _ _) ?_)
          | (go_at_call 16; (with_reducible refine (hv.at _).mono ?_); rintro e w' ⟨rfl, hb1⟩; replace HB := HB.trans (hb1.mono HB.size); clear hb1)
          | (go_at_call 29; (first | (with_reducible refine (inf_v _).mono ?_) | (with_reducible refine (inf_n _).mono ?_)); rintro e w' ⟨rfl, rfl⟩)
          | (go_at_call 27; (with_reducible refine (hsm.at _).mono ?_); rintro e w' ⟨rfl, rfl⟩))
        go_ret
        exact ⟨rfl, HB⟩

set_option maxHeartbeats 4000000 in
theorem exactEnds_4 (a : Option Addr) (l : List Nat) (len cap b : Nat) (hlen : Hid (len = l.length)) (hl : len ≤ 20) (h0 : decide ((20 : Int) < (len : Int)) = false) (hb : b < 256) (hc : b % 5 = 4) 
    (hv : Fin l → VaGives (addN (addN (accN l) 18442240474082181120) 9221120237041090561) (orH (orH (accH l) 18442240474082181120) 9221120237041090561) 9221120237041090560 false) (hsm : SmGives 9221120237041090560 9221120237041090561) (w : World) (HA : Hid (FlAt w a l)) :
    Calls Try.prog 7 #[.slice a len cap, .int .u8 b] w fun e w' => e = .returned (.bool true) ∧ Below w.heap.size w w' := by
  have HB := Below.refl w.heap.size w
  have q0 : ((b : Int) % 5 == 0) = false := by
    first | (rw [beq_iff_eq]; omega) | (rw [beq_eq_false_iff_ne]; omega)
  have q1 : ((b : Int) % 5 == 1) = false := by
    first | (rw [beq_iff_eq]; omega) | (rw [beq_eq_false_iff_ne]; omega)
  have q2 : ((b : Int) % 5 == 2) = false := by
    first | (rw [beq_iff_eq]; omega) | (rw [beq_eq_false_iff_ne]; omega)
  have q3 : ((b : Int) % 5 == 3) = false := by
    first | (rw [beq_iff_eq]; omega) | (rw [beq_eq_false_iff_ne]; omega)
  have q4 : ((b : Int) % 5 == 4) = true := by
    first | (rw [beq_iff_eq]; omega) | (rw [beq_eq_false_iff_ne]; omega)
  clear hc
  have z0 : (9221120237041090561 : Nat) < 18446744073709551616 := by decide
  have z1 : (9218868437227405312 : Nat) < 18446744073709551616 := by decide
  have z2 : (18442240474082181120 : Nat) < 18446744073709551616 := by decide
  have k0 := accH_lt l
  have k1 := orH_lt _ 18442240474082181120 k0
  have k2 := orH_lt _ 9221120237041090561 k1
  have HV := Lib.hid hv
  clear hv
  go_enter Try.func7, Try.ntmps7
  go_wp2_with (go_at_call 13; refine (awake_any _).mono ?_; rintro e w' ⟨rfl, hb1⟩; replace HB := HB.trans (hb1.mono HB.size); clear hb1)
  go_loop [5] (fun i => ∃ k : Nat, k ≤ len ∧ i = .int .i64 k ∧ Hid (Fin (l.take k))) (fun i => len - (intOf i).toNat)
  case atStart => exact ⟨0, by omega, rfl, by rw [List.take_zero]; exact fun x hx => by cases hx⟩
  case round =>
    obtain ⟨k, hk, rfl, FA⟩ := hrel
    by_cases hlt : k < len
    · have hkl : k < l.length := by have := hlen.out; omega
      obtain ⟨hx, g, off, rfl, hg, hc0⟩ := HA.out k l[k] (List.getElem?_eq_getElem hkl)
      have hc : w'.cell? ⟨g, off + k, none⟩ = some (.float .f64 l[k]) := (HB.cell (p := ⟨g, off + k, none⟩) hg).trans hc0
      have HX := Lib.hid (show l.take (k + 1) = l.take k ++ [l[k]] from List.take_succ_eq_append_getElem hkl)
      clear hc0
      generalize hX0 : l[k] = X at *
      clear hX0
      cases h1 : Fl.nan X <;> cases h2 : decide (Fl.rung X = 9218868437227405312)
      all_goals
        go_wp2_with (first
          | (go_at_call 24; refine (isNaN_any _ (by assumption) _).mono ?_; rintro e w' ⟨rfl, rfl⟩)
          | (go_at_call 25; refine (isInf_any _ (by assumption) _).mono ?_; rintro e w' ⟨rfl, rfl⟩))
        first
          | (go_ret
             exact ⟨rfl, HB⟩)
          | (go_round
             case rel => exact ⟨k + 1, by omega, by go_num, by rw [HX.out]; exact fin_snoc _ _ FA.out (fin_of X h1 h2)⟩
             case measure => simp [intOf]; omega)
    · have hv := HV.out (by have h := FA.out; rwa [List.take_of_length_le (by have := hlen.out; omega)] at h)
      go_wp2_with (first
        | (go_at_call 14; refine (of_slice a l len cap hlen (by omega) _ (FlAt.keep HA.out HB)).mono ?_; rintro e w' ⟨rfl, hb1⟩; replace HB := HB.trans (hb1.mono HB.size); clear hb1)
        | (go_at_call 28; (with_reducible refine (mnan_v _).mono ?_); rintro e w' ⟨rfl, rfl⟩)
        | (rw [zeros36]; refine wpList_store_row rfl 27 (.tmp 6) (.tmp 37) rfl _ (P36 (wd _) _) rfl rfl _ _ (heap_alloc_new _ _) (i36 _ _) (by rw [P36_size, P36_size]) (one36 _ _) ?_; rw [World.setRow_alloc_new];
           have hk : Kp w w'.heap.size (P36 (wd (accN l)) (accH l)) 27 (w'.alloc (.cells (P36 (wd (accN l)) (accH l)) 27)) := ⟨HB.alloc HB.size _, heap_alloc_new w' _⟩;
           have hge := HB.size; generalize w'.alloc _ = wb at *; generalize w'.heap.size = g at *; clear HB))
      refine wp_region_any (by kernel_rfl) ?_
      try (change wpAny _ _ _ _ _ _ _ (World.drew _))
      replace hk := hk.drew
      refine wpAny_ready (rs := [0, 1]) (by kernel_rfl) (by simp) (AllReady.cons rfl (fun K hK => ?_) (AllReady.cons rfl (fun K hK => ?_) AllReady.nil))
      · skip
        rw [if_pos (by rfl)]
        refine wp_load_row 27 (.tmp 6) rfl (g) rfl _ (P36 (wd _) _) (0, 0) _ hk.row sumU rfl (i36 _ _) ?_
        refine hK _ _ ?_
        clear hK K
        try dsimp only
        try simp only [Act.put, List.setIfInBounds_toArray, List.set_cons_zero, List.set_cons_succ]
        refine wpAny_ready (rs := [1]) (by kernel_rfl) (by simp) (AllReady.cons rfl (fun K hK => ?_) AllReady.nil)
        go_simp
        refine (inf_n _).mono ?_
        rintro e w' ⟨rfl, rfl⟩
        refine hK _ _ ?_
        clear hK K
        try dsimp only
        try simp only [Act.put, List.setIfInBounds_toArray, List.set_cons_zero, List.set_cons_succ]
        refine wpAny_ready (rs := [2]) (by kernel_rfl) (by simp) (AllReady.cons rfl (fun K hK => ?_) AllReady.nil)
        go_simp
        refine (add_nx _ _ _ (by assumption) (by assumption) _).mono ?_
        rintro e w' ⟨rfl, hb1⟩
        have hk := hk.next hb1
        refine hK _ _ ?_
        clear hK K
        try dsimp only
        try simp only [Act.put, List.setIfInBounds_toArray, List.set_cons_zero, List.set_cons_succ]
        refine wpAny_ready (rs := [3]) (by kernel_rfl) (by simp) (AllReady.cons rfl (fun K hK => ?_) AllReady.nil)
        go_simp
        refine (mnan_v _).mono ?_
        rintro e w' ⟨rfl, rfl⟩
        refine hK _ _ ?_
        clear hK K
        try dsimp only
        try simp only [Act.put, List.setIfInBounds_toArray, List.set_cons_zero, List.set_cons_succ]
        refine wpAny_ready (rs := [4]) (by kernel_rfl) (by simp) (AllReady.cons rfl (fun K hK => ?_) AllReady.nil)
        go_simp
        refine (add_nx _ _ _ (by assumption) (by assumption) _).mono ?_
        rintro e w' ⟨rfl, hb1⟩
        have hk := hk.next hb1
        refine hK _ _ ?_
        clear hK K
        try dsimp only
        try simp only [Act.put, List.setIfInBounds_toArray, List.set_cons_zero, List.set_cons_succ]
        refine wpAny_ready (rs := [5]) (by kernel_rfl) (by simp) (AllReady.cons rfl (fun K hK => ?_) AllReady.nil)
        rw [if_pos (by rfl)]
        refine wp_store_row 27 (.tmp 6) (.tmp 45) rfl (g) (P36 (wd _) _) rfl rfl _ _ hk.row (i36 _ _) (by rw [P36_size, P36_size]) (one36 _ _) ?_
        have hk := hk.put (cs' := P36 (wd (addN (addN (accN l) 18442240474082181120) 9221120237041090561)) (orH (orH (accH l) 18442240474082181120) 9221120237041090561)) hge
        refine hK _ _ ?_
        clear hK K
        try dsimp only
        try simp only [Act.put, List.setIfInBounds_toArray, List.set_cons_zero, List.set_cons_succ]
        refine wpAny_done (by kernel_rfl) ?_ _
        have HB := hk.below
        generalize World.setRow _ _ _ = wz at hk HB ⊢
        clear FA HA
        go_wp2_with (first
          | (refine wpList_load_row rfl 27 (.tmp 6) rfl _ rfl _ _ (0, 0) _ hk.row sumU rfl (i36 _ _) ?_)
          | (go_at_call 16; (with_reducible refine (hv.at _).mono ?_); rintro e w' ⟨rfl, hb1⟩; replace HB := HB.trans (hb1.mono HB.size); clear hb1)
          | (go_at_call 29; (first | (with_reducible refine (inf_v _).mono ?_) | (with_reducible refine (inf_n _).mono ?_)); rintro e w' ⟨rfl, rfl⟩)
          | (go_at_call 27; (with_reducible refine (hsm.at _).mono ?_); rintro e w' ⟨rfl, rfl⟩))
        go_ret
        exact ⟨rfl, HB⟩
      · skip
        go_simp
        refine (inf_n _).mono ?_
        rintro e w' ⟨rfl, rfl⟩
        refine hK _ _ ?_
        clear hK K
        try dsimp only
        try simp only [Act.put, List.setIfInBounds_toArray, List.set_cons_zero, List.set_cons_succ]
        refine wpAny_ready (rs := [0]) (by kernel_rfl) (by simp) (AllReady.cons rfl (fun K hK => ?_) AllReady.nil)
        rw [if_pos (by rfl)]
        refine wp_load_row 27 (.tmp 6) rfl (g) rfl _ (P36 (wd _) _) (0, 0) _ hk.row sumU rfl (i36 _ _) ?_
        refine hK _ _ ?_
        clear hK K
        try dsimp only
        try simp only [Act.put, List.setIfInBounds_toArray, List.set_cons_zero, List.set_cons_succ]
        refine wpAny_ready (rs := [2]) (by kernel_rfl) (by simp) (AllReady.cons rfl (fun K hK => ?_) AllReady.nil)
        go_simp
        refine (add_nx _ _ _ (by assumption) (by assumption) _).mono ?_
        rintro e w' ⟨rfl, hb1⟩
        have hk := hk.next hb1
        refine hK _ _ ?_
        clear hK K
        try dsimp only
        try simp only [Act.put, List.setIfInBounds_toArray, List.set_cons_zero, List.set_cons_succ]
        refine wpAny_ready (rs := [3]) (by kernel_rfl) (by simp) (AllReady.cons rfl (fun K hK => ?_) AllReady.nil)
        go_simp
        refine (mnan_v _).mono ?_
        rintro e w' ⟨rfl, rfl⟩
        refine hK _ _ ?_
        clear hK K
        try dsimp only
        try simp only [Act.put, List.setIfInBounds_toArray, List.set_cons_zero, List.set_cons_succ]
        refine wpAny_ready (rs := [4]) (by kernel_rfl) (by simp) (AllReady.cons rfl (fun K hK => ?_) AllReady.nil)
        go_simp
        refine (add_nx _ _ _ (by assumption) (by assumption) _).mono ?_
        rintro e w' ⟨rfl, hb1⟩
        have hk := hk.next hb1
        refine hK _ _ ?_
        clear hK K
        try dsimp only
        try simp only [Act.put, List.setIfInBounds_toArray, List.set_cons_zero, List.set_cons_succ]
        refine wpAny_ready (rs := [5]) (by kernel_rfl) (by simp) (AllReady.cons rfl (fun K hK => ?_) AllReady.nil)
        rw [if_pos (by rfl)]
        refine wp_store_row 27 (.tmp 6) (.tmp 45) rfl (g) (P36 (wd _) _) rfl rfl _ _ hk.row (i36 _ _) (by rw [P36_size, P36_size]) (one36 _ _) ?_
        have hk := hk.put (cs' := P36 (wd (addN (addN (accN l) 18442240474082181120) 9221120237041090561)) (orH (orH (accH l) 18442240474082181120) 9221120237041090561)) hge
        refine hK _ _ ?_
        clear hK K
        try dsimp only
        try simp only [Act.put, List.setIfInBounds_toArray, List.set_cons_zero, List.set_cons_succ]
        refine wpAny_done (by kernel_rfl) ?_ _
        have HB := hk.below
        generalize World.setRow _ _ _ = wz at hk HB ⊢
        clear FA HA
        go_wp2_with (first
          | (refine wpList_load_row rfl 27 (.tmp 6) rfl _ rfl _ _ (0, 0) _ hk.row sumU rfl (i36 _ _) ?_)
          | (go_at_call 16; (with_reducible refine (hv.at _).mono ?_); rintro e w' ⟨rfl, hb1⟩; replace HB := HB.trans (hb1.mono HB.size); clear hb1)
          | (go_at_call 29; (first | (with_reducible refine (inf_v _).mono ?_) | (with_reducible refine (inf_n _).mono ?_)); rintro e w' ⟨rfl, rfl⟩)
          | (go_at_call 27; (with_reducible refine (hsm.at _).mono ?_); rintro e w' ⟨rfl, rfl⟩))
        go_ret
        exact ⟨rfl, HB⟩

theorem orH_eq (h b k : Nat) (hk : kindB b = k) : orH h b = h ||| k := by unfold orH; rw [hk]
theorem kind_nan : kindB 9221120237041090561 = 25 := by decide +kernel
theorem kind_pos : kindB 9218868437227405312 = 26 := by decide +kernel
theorem kind_neg : kindB 18442240474082181120 = 28 := by decide +kernel
theorem va_of (n h W : Nat) (hn : n < top) (hh : h < 32) (e : valW n h = W ∧ valO n h = false) : VaGives n h W false := fun w => by
  have H := value_any n h hn hh w
  rwa [e.1, e.2] at H
theorem val_nan (n h : Nat) (c : h % 2 = 1 ∨ h / 2 % 4 = 3) : valW n h = 9221120237041090560 ∧ valO n h = false := by
  unfold valW valO
  rw [if_pos c, if_pos c]; exact ⟨rfl, rfl⟩
theorem val_pos (n h : Nat) (c : ¬ (h % 2 = 1 ∨ h / 2 % 4 = 3)) (c2 : h / 2 % 2 = 1) : valW n h = 9218868437227405312 ∧ valO n h = false := by
  unfold valW valO
  rw [if_neg c, if_neg c, if_pos c2, if_pos c2]; exact ⟨rfl, rfl⟩
theorem val_neg (n h : Nat) (c : ¬ (h % 2 = 1 ∨ h / 2 % 4 = 3)) (c2 : ¬ h / 2 % 2 = 1) (c3 : h / 4 % 2 = 1) : valW n h = 18442240474082181120 ∧ valO n h = false := by
  unfold valW valO
  rw [if_neg c, if_neg c, if_neg c2, if_neg c2, if_pos c3, if_pos c3]; exact ⟨rfl, rfl⟩

theorem exactEnds_any (a : Option Addr) (l : List Nat) (len cap : Nat) (hlen : Hid (len = l.length)) (_hc : len ≤ cap) (_hm : cap ≤ maxLen) (b : Nat) (hb : b < 256) (w : World) (HA : Hid (FlAt w a l)) :
    Calls Try.prog 7 #[.slice a len cap, .int .u8 b] w fun e w' => e = .returned (.bool true) ∧ Below w.heap.size w w' := by
  cases h0 : decide ((20 : Int) < (len : Int))
  · have hl : len ≤ 20 := by rw [decide_eq_false_iff_not] at h0; omega
    have k0 := accH_lt l
    have hcase : b % 5 = 0 ∨ b % 5 = 1 ∨ b % 5 = 2 ∨ b % 5 = 3 ∨ b % 5 = 4 := by omega
    rcases hcase with h | h | h | h | h
    · refine exactEnds_0 a l len cap b hlen hl h0 hb h (fun hf => va_of _ _ _ (addN_lt _ _) (orH_lt _ _ k0) ?_) (sm_gives _ _ (by decide) (by decide) (by decide +kernel)) w HA
      refine val_nan _ _ ?_
      rw [orH_eq _ _ _ kind_nan]
      rcases fin_has l hf with e | e | e <;> rw [e] <;> decide
    · refine exactEnds_1 a l len cap b hlen hl h0 hb h (fun hf => va_of _ _ _ (addN_lt _ _) (orH_lt _ _ k0) ?_) (sm_gives _ _ (by decide) (by decide) rfl) w HA
      rw [orH_eq _ _ _ kind_pos]
      rcases fin_has l hf with e | e | e <;> rw [e] <;> exact val_pos _ _ (by decide) (by decide)
    · refine exactEnds_2 a l len cap b hlen hl h0 hb h (fun hf => va_of _ _ _ (addN_lt _ _) (orH_lt _ _ k0) ?_) (sm_gives _ _ (by decide) (by decide) rfl) w HA
      rw [orH_eq _ _ _ kind_neg]
      rcases fin_has l hf with e | e | e <;> rw [e] <;> exact val_neg _ _ (by decide) (by decide) (by decide)
    · refine exactEnds_3 a l len cap b hlen hl h0 hb h (fun hf => va_of _ _ _ (addN_lt _ _) (orH_lt _ _ (orH_lt _ _ k0)) ?_) (sm_gives _ _ (by decide) (by decide) (by decide +kernel)) w HA
      refine val_nan _ _ ?_
      rw [orH_eq _ _ _ kind_neg, orH_eq _ _ _ kind_pos]
      rcases fin_has l hf with e | e | e <;> rw [e] <;> decide
    · refine exactEnds_4 a l len cap b hlen hl h0 hb h (fun hf => va_of _ _ _ (addN_lt _ _) (orH_lt _ _ (orH_lt _ _ k0)) ?_) (sm_gives _ _ (by decide) (by decide) (by decide +kernel)) w HA
      refine val_nan _ _ ?_
      rw [orH_eq _ _ _ kind_nan, orH_eq _ _ _ kind_neg]
      rcases fin_has l hf with e | e | e <;> rw [e] <;> decide
  · exact exactEnds_long a len cap b h0 w
end Go.Proofs.Ytofcfjchlkmenaa
