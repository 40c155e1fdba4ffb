/-
  Layer mark: the contracts of Low, and of awake.
-/
import Derived.Test.YtgoibcolehcgcaaKc
set_option linter.unusedSimpArgs false
set_option linter.unusedVariables false
set_option maxRecDepth 8000
namespace Go.Proofs.Ytgoibcolehcgcaa
open Go.RowKit Go.WideShapes Mk
set_option maxHeartbeats 2000000 in
theorem lowM_any (n : Nat) (g : Nat → Option Int) (h8 : n ≤ 8) (w : World) :
    Calls Try.prog 8 #[.agg (MC (n : Int) g)] w (OfEnds w (lowO g n)) := by
  have h0 := MC_n (n : Int) g
  have HB0 : Hid (Below w.heap.size w (w.alloc (.cells (MC (n : Int) g) 28))) := Lib.hid ((Below.refl _ _).alloc (Nat.le_refl _) _)
  have HR0 : Hid ((w.alloc (.cells (MC (n : Int) g) 28)).heap[w.heap.size]? = some (.cells (MC (n : Int) g) 28 (0, 0))) := Lib.hid (heap_alloc_new' w _)
  obtain ⟨o0, ho0⟩ : ∃ o0, o0 = if (0 : Int) ≤ 0 ∧ (0 : Int) < (n : Int) then g (0 : Int).toNat else none := ⟨_, rfl⟩
  have HO0 := Lib.hid ho0
  clear ho0
  go_enter Try.func8, Try.ntmps8
  go_wp2_with (first
    | (refine wpList_load_row rfl 28 (.tmp 1) rfl w.heap.size rfl _ (MC (n : Int) g) (0, 0) _ HR0.out uM rfl (iM _ _) ?_)
    | (go_at_call 11; go_loud ((with_reducible refine (ofM_any (n : Int) 0 g (by omega) o0 HO0 _).mono ?_); rintro e w1 ⟨rfl, hb⟩; have HB1 := Lib.hid (below_to HB0.out hb); have HR1 := Lib.hid (row_keep HR0.out hb); have c1 : w1.cell? ⟨w.heap.size, 0, none⟩ = some (.int .i64 (n : Int)) := (by rw [cell_of_row _ _ _ _ _ _ HR1.out, MC_n]); clear hb)))
  go_loopw [4, 16] (fun v i wr => ∃ k : Nat, k ≤ n ∧ i = .int .i64 (k : Int) ∧ v = .int .i64 (if k = 0 then o0.getD 0 else lowV g k) ∧ Hid (allS g k) ∧ Hid (Below w.heap.size w wr) ∧ Hid (wr.heap[w.heap.size]? = some (.cells (MC (n : Int) g) 28 (0, 0)))) (fun _ i _ => n - (intOf i).toNat)
  case atStart => exact ⟨0, by omega, rfl, rfl, Lib.hid (allS_zero g), HB1, HR1⟩
  case round =>
    obtain ⟨k, hk, rfl, rfl, HA, HB2, HR2⟩ := hrel
    by_cases hlt : k < n
    · obtain ⟨v, hv⟩ : ∃ v, v = (if k = 0 then o0.getD 0 else lowV g k) := ⟨_, rfl⟩
      rw [← hv]
      have HV := Lib.hid hv
      clear hv
      rcases hg : g k with _ | t
      · have HN := Lib.hid (lowO_none hlt hg)
        have HG := Lib.hid hg
        clear hg
        go_wp2_with (first
          | (refine wpList_load_row rfl 28 (.tmp 1) rfl w.heap.size rfl _ (MC (n : Int) g) (0, 0) _ HR2.out uM rfl (iM _ _) ?_)
          | (go_at_call 11; (with_reducible refine (ofM_in (n : Int) k g (by omega) (by omega) _).mono ?_); rintro e w3 ⟨rfl, hb⟩; rw [HG.out]; have HB3 := Lib.hid (below_to HB2.out hb); clear hb))
        go_ret2
        exact ⟨by rw [HN.out]; rfl, HB3.out⟩
      · have HG := Lib.hid hg
        have HL : Hid ((if t < v then t else v) = lowV g (k + 1)) := Lib.hid (by
          by_cases h0 : k = 0
          · subst h0
            have hv : v = t := by
              rw [HV.out, if_pos rfl, HO0.out, if_pos ⟨by omega, by omega⟩]
              show (g 0).getD 0 = t
              rw [hg]; rfl
            rw [lowV_one, hg, hv, if_neg (by omega)]; rfl
          · rw [lowV_succ, HV.out, if_neg h0, hg]; rfl)
        have HA2 := Lib.hid (allS_succ HA.out (by rw [hg]; rfl))
        clear hg
        go_wp2_with (first
          | (refine wpList_load_row rfl 28 (.tmp 1) rfl w.heap.size rfl _ (MC (n : Int) g) (0, 0) _ HR2.out uM rfl (iM _ _) ?_)
          | (go_at_call 11; (with_reducible refine (ofM_in (n : Int) k g (by omega) (by omega) _).mono ?_); rintro e w3 ⟨rfl, hb⟩; rw [HG.out]; have HB3 := Lib.hid (below_to HB2.out hb); have HR3 := Lib.hid (row_keep HR2.out hb); clear hb))
        go_roundw
        case rel => exact ⟨k + 1, by omega, by go_num, by rw [if_neg (show ¬ k + 1 = 0 by omega), HL.out], HA2, HB3, HR3⟩
        case measure => simp [intOf]; omega
    · obtain rfl : k = n := by omega
      obtain ⟨v, hv⟩ : ∃ v, v = (if k = 0 then o0.getD 0 else lowV g k) := ⟨_, rfl⟩
      rw [← hv]
      have HV := Lib.hid hv
      clear hv
      go_wp2
      go_ret2
      refine ⟨?_, HB2.out⟩
      by_cases h0 : k = 0
      · subst h0
        rw [HV.out, if_pos rfl, HO0.out]; rfl
      · have ha := HA.out 0 (by omega)
        rw [HV.out, if_neg h0, lowO_all (by omega) HA.out, HO0.out, if_pos (by omega)]
        show Ending.returned (.tuple #[_, .bool (g 0).isSome]) = _
        rw [ha]; rfl
set_option maxHeartbeats 2000000 in
theorem awakeM_any (w : World) : Calls Try.prog 6 #[] w fun e w' => e = .returned (.bool true) ∧ Below w.heap.size w w' := by
  obtain ⟨G0, hG0⟩ : ∃ G0 : Nat → Option Int, G0 = fun _ => none := ⟨_, rfl⟩
  obtain ⟨G1, hG1⟩ : ∃ G1, G1 = see 2 G0 0 5 := ⟨_, rfl⟩
  obtain ⟨G2, hG2⟩ : ∃ G2, G2 = see 2 G1 1 3 := ⟨_, rfl⟩
  have HL : Hid (lowO G2 2 = some 3) := Lib.hid (by rw [hG2, hG1, hG0]; decide)
  have H1 : Hid (∀ w, Calls Try.prog 10 #[.agg (MC 2 G0), .int .i64 0, .int .i64 5] w (MEnds w 2 G1)) := Lib.hid (by rw [hG1]; exact fun w => seeM_any 2 0 5 G0 (by omega) w)
  have H2 : Hid (∀ w, Calls Try.prog 10 #[.agg (MC 2 G1), .int .i64 1, .int .i64 3] w (MEnds w 2 G2)) := Lib.hid (by rw [hG2]; exact fun w => seeM_any 2 1 3 G1 (by omega) w)
  have H3 : Hid (∀ w, Calls Try.prog 8 #[.agg (MC 2 G2)] w (OfEnds w (some 3))) := Lib.hid fun w => by rw [← HL.out]; exact lowM_any 2 G2 (by omega) w
  have HN : Hid (∀ w, Calls Try.prog 7 #[.int .i64 2] w fun e w' => e = .returned (.tuple #[.agg (MC 2 G0), .int .i64 0]) ∧ Below w.heap.size w w') := Lib.hid (by rw [hG0]; exact fun w => newM_yes 2 (by omega) (by omega) w)
  clear hG0 hG1 hG2
  go_enter Try.func6, Try.ntmps6
  go_wp2_with (first
    | (go_at_call 7; (with_reducible refine (HN.out _).mono ?_); rintro e w1 ⟨rfl, hb⟩; have HB1 := Lib.hid hb; have HR1 := Lib.hid (heap_alloc_new' w1 (.cells (MC 0 (fun _ => none)) 28)); clear hb)
    | (rw [zerosM]; refine wpList_store_row rfl 28 (.tmp 1) (.tmp 7) rfl w1.heap.size (MC 2 G0) rfl rfl _ _ HR1.out (iM _ _) (by rw [MC_size, MC_size]) (MC_one _ _) ?_; have HR2 := Lib.hid (setRow_heap _ _ _ (MC 2 G0) _ _ HR1.out); have HB2 := Lib.hid (below_setRowK ((below_to HB1.out (Below.refl _ _)).alloc HB1.out.size (.cells (MC 0 (fun _ => none)) 28)) HB1.out.size (MC 2 G0)))
    | (refine wpList_load_row rfl 28 (.tmp 1) rfl w1.heap.size rfl _ (MC 2 G0) (0, 0) _ HR2.out uM rfl (iM _ _) ?_)
    | (go_at_call 10; (with_reducible refine (H1.out _).mono ?_); rintro e w3 ⟨rfl, hb⟩; have HB3 := Lib.hid (below_to HB2.out hb); clear hb)
    | (go_at_call 10; (with_reducible refine (H2.out _).mono ?_); rintro e w4 ⟨rfl, hb⟩; have HB4 := Lib.hid (below_to HB3.out hb); clear hb)
    | (go_at_call 8; (with_reducible refine (H3.out _).mono ?_); rintro e w5 ⟨rfl, hb⟩; have HB5 := Lib.hid (below_to HB4.out hb); clear hb))
  go_ret
  exact ⟨rfl, HB5.out⟩
end Go.Proofs.Ytgoibcolehcgcaa
