/-
  The document's Bytes of a sum.
-/
import Derived.Test.YthklamgdoknmeaaQi
import Derived.Test.YthklamgdoknmeaaCw
import Derived.Deep.DeepCutAuto
import Derived.Deep.CutBlock
set_option linter.unusedSimpArgs false
set_option linter.unusedVariables false
set_option maxRecDepth 100000
namespace Go.Proofs.Ythklamgdoknmeaa
open Go.RowKit Sm Qb Col
set_option maxHeartbeats 8000000 in
theorem rbytes_core (g off C n h : Nat) (c0 c1 c2 c3 c4 : Bool) (f1 f2 f3 f4 : Nat) (HF1 : Hid (f1 = 0 + 1 * c0.toNat)) (HF2 : Hid (f2 = f1 + 2 * c1.toNat)) (HF3 : Hid (f3 = f2 + 4 * c2.toNat)) (HF4 : Hid (f4 = f3 + 8 * c3.toNat)) (HF5 : Hid (h = f4 + 16 * c4.toNat))
    (HFL : Hid (f1 ≤ 1 ∧ f2 ≤ 3 ∧ f3 ≤ 7 ∧ f4 ≤ 15 ∧ h ≤ 31)) (w : World) (HA : Hid (BitAt w (some ⟨g, off, none⟩) n)) :
    Calls Try.prog 18 #[.agg #[.slice (some ⟨g, off, none⟩) 2240 C, .bool c0, .bool c1, .bool c2, .bool c3, .bool c4]] w (Puts w.heap.size w (h :: strip (fl280 n 280) 280)) := by
  obtain ⟨g', off', e, hg, hc⟩ := HA.out.get
  injection e with e; injection e with e1 e2
  subst e1; subst e2
  obtain ⟨f0, hf0⟩ : ∃ f0, f0 = 0 := ⟨_, rfl⟩
  have hb0 : Below w.heap.size w (w.alloc (.cells #[.slice (some ⟨g, off, none⟩) 2240 C, .bool c0, .bool c1, .bool c2, .bool c3, .bool c4] 31)) := (Below.refl _ _).alloc (Nat.le_refl _) _
  have HB0 := Lib.hid hb0
  have HR0 := Lib.hid (heap_alloc_new' w (.cells #[.slice (some ⟨g, off, none⟩) 2240 C, .bool c0, .bool c1, .bool c2, .bool c3, .bool c4] 31))
  have HC0 : Hid (∀ (k : Nat) (wx : World), k < 2240 → Below (w.alloc (.cells #[.slice (some ⟨g, off, none⟩) 2240 C, .bool c0, .bool c1, .bool c2, .bool c3, .bool c4] 31)).heap.size (w.alloc (.cells #[.slice (some ⟨g, off, none⟩) 2240 C, .bool c0, .bool c1, .bool c2, .bool c3, .bool c4] 31)) wx → wx.cell? ⟨g, off + k, none⟩ = some (.int .u8 (bit n k : Nat))) := Lib.hid fun k wx hk hb =>
    ((below_to hb0 hb).cell (p := ⟨g, off + k, none⟩) hg).trans (hc k hk)
  clear hb0 hc
  go_enter Try.func18, Try.ntmps18
  go_upto_region 2 with fail
  generalize hw0 : w.alloc _ = w0 at *
  have HL0 : Hid (w0.heap.size = w.heap.size + 1) := Lib.hid (by rw [← hw0]; simp)
  clear hw0
  have d0 : w0.cell? ⟨w.heap.size, 0, none⟩ = some (.slice (some ⟨g, off, none⟩) 2240 C) := by rw [cell_of_row _ _ _ _ _ _ HR0.out]; rfl
  have d1 : w0.cell? ⟨w.heap.size, 1, none⟩ = some (.bool c0) := by rw [cell_of_row _ _ _ _ _ _ HR0.out]; rfl
  have d2 : w0.cell? ⟨w.heap.size, 2, none⟩ = some (.bool c1) := by rw [cell_of_row _ _ _ _ _ _ HR0.out]; rfl
  have d3 : w0.cell? ⟨w.heap.size, 3, none⟩ = some (.bool c2) := by rw [cell_of_row _ _ _ _ _ _ HR0.out]; rfl
  have d4 : w0.cell? ⟨w.heap.size, 4, none⟩ = some (.bool c3) := by rw [cell_of_row _ _ _ _ _ _ HR0.out]; rfl
  have d5 : w0.cell? ⟨w.heap.size, 5, none⟩ = some (.bool c4) := by rw [cell_of_row _ _ _ _ _ _ HR0.out]; rfl
  go_upto_if 14 with fail
  go_cut [3] (fun s3 wx => s3 = .int .u8 (f1 : Nat) ∧ wx = w0)
  case first =>
    cases c0
    all_goals
      have hF : f1 = 0 + 1 * Bool.toNat _ := HF1.out
      simp only [Bool.toNat_true, Bool.toNat_false] at hF
      have HFF := Lib.hid hF
      clear hF
      go_wp2_with fail
      go_meet
      case rel => exact ⟨by have h := HFF.out; first | (rw [h]; rfl) | (rw [h, IntKind.wrap_u8]; congr 1; omega) | (have h2 := HFL.out; congr 1; omega), by first | rfl | trivial⟩
  case rest =>
  obtain ⟨rfl, hww⟩ := hcut
  replace hww := hww.symm
  subst hww
  go_upto_if 18 with fail
  go_cut [3] (fun s3 wx => s3 = .int .u8 (f2 : Nat) ∧ wx = w0)
  case first =>
    cases c1
    all_goals
      have hF : f2 = f1 + 2 * Bool.toNat _ := HF2.out
      simp only [Bool.toNat_true, Bool.toNat_false] at hF
      have HFF := Lib.hid hF
      clear hF
      go_wp2_with fail
      go_meet
      case rel => exact ⟨by have h := HFF.out; first | (rw [h]; rfl) | (rw [h, IntKind.wrap_u8]; congr 1; omega) | (have h2 := HFL.out; congr 1; omega), by first | rfl | trivial⟩
  case rest =>
  obtain ⟨rfl, hww⟩ := hcut
  replace hww := hww.symm
  subst hww
  go_upto_if 22 with fail
  go_cut [3] (fun s3 wx => s3 = .int .u8 (f3 : Nat) ∧ wx = w0)
  case first =>
    cases c2
    all_goals
      have hF : f3 = f2 + 4 * Bool.toNat _ := HF3.out
      simp only [Bool.toNat_true, Bool.toNat_false] at hF
      have HFF := Lib.hid hF
      clear hF
      go_wp2_with fail
      go_meet
      case rel => exact ⟨by have h := HFF.out; first | (rw [h]; rfl) | (rw [h, IntKind.wrap_u8]; congr 1; omega) | (have h2 := HFL.out; congr 1; omega), by first | rfl | trivial⟩
  case rest =>
  obtain ⟨rfl, hww⟩ := hcut
  replace hww := hww.symm
  subst hww
  go_upto_if 26 with fail
  go_cut [3] (fun s3 wx => s3 = .int .u8 (f4 : Nat) ∧ wx = w0)
  case first =>
    cases c3
    all_goals
      have hF : f4 = f3 + 8 * Bool.toNat _ := HF4.out
      simp only [Bool.toNat_true, Bool.toNat_false] at hF
      have HFF := Lib.hid hF
      clear hF
      go_wp2_with fail
      go_meet
      case rel => exact ⟨by have h := HFF.out; first | (rw [h]; rfl) | (rw [h, IntKind.wrap_u8]; congr 1; omega) | (have h2 := HFL.out; congr 1; omega), by first | rfl | trivial⟩
  case rest =>
  obtain ⟨rfl, hww⟩ := hcut
  replace hww := hww.symm
  subst hww
  go_upto_if 30 with fail
  go_cut [3] (fun s3 wx => s3 = .int .u8 (h : Nat) ∧ wx = w0)
  case first =>
    cases c4
    all_goals
      have hF : h = f4 + 16 * Bool.toNat _ := HF5.out
      simp only [Bool.toNat_true, Bool.toNat_false] at hF
      have HFF := Lib.hid hF
      clear hF
      go_wp2_with fail
      go_meet
      case rel => exact ⟨by have h := HFF.out; first | (rw [h]; rfl) | (rw [h, IntKind.wrap_u8]; congr 1; omega) | (have h2 := HFL.out; congr 1; omega), by first | rfl | trivial⟩
  case rest =>
  obtain ⟨rfl, hww⟩ := hcut
  replace hww := hww.symm
  subst hww
  have ds : w0.cell? ⟨g, off + 2239, none⟩ = some (.int .u8 (bit n 2239 : Nat)) := HC0.out 2239 w0 (by decide) (Below.refl _ _)
  obtain ⟨s, hs⟩ : ∃ s, s = bit n 2239 := ⟨_, rfl⟩
  rw [← hs] at ds
  have hs1 : s ≤ 1 := by rw [hs]; exact bit_le _ _
  have HST0 : Hid (Stk n s 280) := Lib.hid (Stk.start n s hs.symm)
  clear hs d1 d2 d3 d4 d5
  go_upto_block 0 with fail
  go_cut [4, 6, 7, 8] (fun s4 s6 s7 s8 wx => ∃ k : Nat, s4 = .int .i64 (k : Int) ∧ k ≤ 280 ∧ strip (fl280 n 280) 280 = (fl280 n 280).take k ∧ wx = w0)
  case first =>
    go_wp2_with fail
    clear ds
    go_loopw [4, 6, 7, 8] (fun v4 v6 v7 v8 wr => ∃ k : Nat, v4 = .int .i64 (k : Int) ∧ Stk n s k ∧ wr = w0) (fun v4 _ _ _ _ => (intOf v4).toNat)
    case atStart => exact ⟨280, rfl, HST0.out, rfl⟩
    case round =>
      obtain ⟨k, rfl, hst, hww⟩ := hrel
      replace hww := hww.symm
      subst hww
      have HST := Lib.hid hst
      have hk280 := hst.le
      clear hst HST0
      by_cases hk0 : k = 0
      · subst hk0
        rw [show ((0 : Nat) : Int) = (0 : Int) from rfl]
        go_wp2_with fail
        go_meet
        case rel => exact ⟨0, rfl, by omega, HST.out.none, by first | rfl | trivial⟩
      · obtain ⟨m, hm⟩ : ∃ m, m = k - 1 := ⟨_, rfl⟩
        have HM : Hid (k = m + 1) := Lib.hid (by omega)
        have hm1 : k ≤ m + 1 := by omega
        have hm2 : m + 1 ≤ k := by omega
        clear hm
        go_wp2_with fail
        go_loopw [6, 7] (fun v6 v7 wr => ∃ (j p : Nat), j ≤ 8 ∧ p = 8 * m + j ∧ v6 = .bool (smB n s m j) ∧ v7 = .int .i64 (p : Int) ∧ wr = w0) (fun _ v7 _ => 8 * (m + 1) - (intOf v7).toNat)
        case atStart => exact ⟨0, 8 * m, by omega, rfl, rfl, by go_num, rfl⟩
        case round =>
          obtain ⟨j, p, hj, hp, rfl, rfl, hww⟩ := hrel
          replace hww := hww.symm
          subst hww
          have HP := Lib.hid hp
          have hp1 : p ≤ 8 * m + j := by omega
          have hp2 : 8 * m + j ≤ p := by omega
          clear hp
          by_cases hj8 : j < 8
          · have cp := HC0.out p w0 (by omega) (Below.refl _ _)
            have HSM : Hid (smB n s m (j + 1) = (smB n s m j && decide (bit n p = s))) := Lib.hid (by rw [HP.out]; rfl)
            generalize bit n p = Y at *
            generalize smB n s m j = q at *
            cases q
            · go_wp2_with fail
              go_roundw
              case rel => exact ⟨j + 1, p + 1, by omega, by omega, by rw [HSM.out]; rfl, by go_num, by first | rfl | trivial⟩
              case measure => simp [intOf] <;> omega
            · have HEQ := Lib.hid (cast_beq Y s)
              go_wp2_with fail
              go_roundw
              case rel => exact ⟨j + 1, p + 1, by omega, by omega, by rw [HSM.out, ← HEQ.out]; rfl, by go_num, by first | rfl | trivial⟩
              case measure => simp [intOf] <;> omega
          · have HQ8 : Hid (smB n s m j = smB n s m 8) := Lib.hid (by rw [show j = 8 by omega])
            rw [HQ8.out]
            have HON : Hid ((smB n s m 8 && decide (pvB n m = s)) = true → Stk n s m) := Lib.hid fun h => by have h0 := HST.out; rw [HM.out] at h0; exact h0.on h
            have HSO : Hid ((smB n s m 8 && decide (pvB n m = s)) = false → strip (fl280 n 280) 280 = (fl280 n 280).take k) := Lib.hid fun h => by have h0 := HST.out; rw [HM.out] at h0 ⊢; exact h0.stop h
            have HPV : Hid (pvB n m ≤ 1 ∧ (m = 0 → pvB n m = 0) ∧ (0 < m → w0.cell? ⟨g, off + (8 * m - 1), none⟩ = some (.int .u8 (pvB n m : Nat)))) := Lib.hid ⟨by unfold pvB; split <;> first | decide | exact bit_le _ _, fun h => by unfold pvB; rw [if_pos h], fun h => by
              unfold pvB; rw [if_neg (by omega)]; exact HC0.out _ w0 (by omega) (Below.refl _ _)⟩
            generalize smB n s m 8 = q at *
            generalize pvB n m = v at *
            clear HQ8 HST HP
            obtain ⟨hv1, hv0, hvm⟩ := HPV.out
            clear HPV
            by_cases hm0 : m = 0
            · have hk1 : k = 1 := by omega
              have hv := hv0 hm0
              clear hv0 hvm
              subst hv
              subst hk1
              rw [show ((1 : Nat) : Int) = (1 : Int) from rfl]
              have hs01 : s = 0 ∨ s = 1 := by omega
              rcases hs01 with hs0 | hs0
              all_goals
                subst hs0
                cases q
              all_goals
                go_wp2_with fail
              · go_meet
                case rel => exact ⟨1, rfl, by omega, HSO.out rfl, by first | rfl | trivial⟩
              · go_roundw
                case rel => exact ⟨m, by go_num, HON.out rfl, by first | rfl | trivial⟩
                case measure => simp [intOf] <;> omega
              · go_meet
                case rel => exact ⟨1, rfl, by omega, HSO.out rfl, by first | rfl | trivial⟩
              · go_meet
                case rel => exact ⟨1, rfl, by omega, HSO.out rfl, by first | rfl | trivial⟩
            · have c9 := hvm (by omega)
              clear hvm hv0
              have ht9 : (8 * (k : Int) - 9).toNat = 8 * m - 1 := by omega
              have hk2 : (1 : Int) < (k : Int) := by omega
              generalize 8 * m - 1 = p9 at *
              by_cases hvs : v = s
              · subst hvs
                cases q
                all_goals
                  go_wp2_with fail
                · go_meet
                  case rel => exact ⟨k, rfl, by omega, HSO.out rfl, by first | rfl | trivial⟩
                · go_roundw
                  case rel => exact ⟨m, by go_num, HON.out (by simp), by first | rfl | trivial⟩
                  case measure => simp [intOf] <;> omega
              · have hne : ((v : Int) == (s : Int)) = false := by rw [beq_eq_false_iff_ne]; omega
                have HVS := Lib.hid hvs
                clear hvs
                cases q
                all_goals
                  go_wp2_with fail
                · go_meet
                  case rel => exact ⟨k, rfl, by omega, HSO.out rfl, by first | rfl | trivial⟩
                · go_meet
                  case rel => exact ⟨k, rfl, by omega, HSO.out (by simp [HVS.out]), by first | rfl | trivial⟩
  case rest =>
  obtain ⟨K, rfl, hK, hrest, hww⟩ := hcut
  replace hww := hww.symm
  subst hww
  have HRS := Lib.hid hrest
  clear hrest HST0 hs1 ds
  have HK := Lib.hid hK
  have HW1 : Hid (Below w0.heap.size w0 (w0.alloc (.cells #[.int .u8 (h : Int)] 5))) := Lib.hid ((Below.refl _ _).alloc (Nat.le_refl _) _)
  have HO1 : Hid (OwnS (w0.alloc (.cells #[.int .u8 (h : Int)] 5)) w0.heap.size (some ⟨w0.heap.size, 0, none⟩) 1 1 ([h] ++ (fl280 n 280).take 0)) := Lib.hid (OwnS.of_row (cs := [.int .u8 (h : Int)]) (heap_alloc_new' w0 _) rfl (by decide) rfl rfl (Nat.le_refl _) (fun x hx => by have := HFL.out; simp at hx; omega))
  clear d0
  go_upto_block 4 with fail
  generalize w0.alloc _ = w1 at *
  obtain ⟨gp, hgp⟩ : ∃ gp, gp = w0.heap.size := ⟨_, rfl⟩
  go_wp2_with fail
  go_loopw [9, 10, 11, 12] (fun v9 v10 v11 v12 wr => ∃ (i N cap : Nat) (A : Option Addr), i ≤ K ∧ v10 = .int .i64 (i : Int) ∧ v9 = .slice A N cap ∧ N ≤ i + 1 ∧ OwnS wr w0.heap.size A N cap ([h] ++ (fl280 n 280).take i) ∧ Below w0.heap.size w0 wr) (fun _ v10 _ _ _ => K - (intOf v10).toNat)
  case atStart => exact ⟨0, 1, 1, some ⟨w0.heap.size, 0, none⟩, by omega, rfl, by first | rfl | (rw [hgp]), by omega, HO1.out, HW1.out⟩
  case round =>
    clear HO1 HW1
    obtain ⟨i, N, cap, A, hi, rfl, rfl, hN, ho, hb⟩ := hrel
    have HO := Lib.hid ho
    have HB := Lib.hid hb
    clear ho hb
    by_cases hlt : i < K
    · obtain ⟨wa, hwa⟩ : ∃ wa, wa = wr := ⟨_, rfl⟩
      have d0 : wr.cell? ⟨w.heap.size, 0, none⟩ = some (.slice (some ⟨g, off, none⟩) 2240 C) := by rw [cell_of_row _ _ _ _ _ _ (row_keep HR0.out HB.out)]; rfl
      go_wp2_with fail
      go_loopw [11, 12] (fun v11 v12 wx => ∃ k : Nat, k ≤ 8 ∧ v12 = .int .i64 (k : Int) ∧ v11 = .int .u8 ((bt n i % 2 ^ k : Nat) : Int) ∧ wx = wa) (fun _ v12 _ => 8 - (intOf v12).toNat)
      case atStart => exact ⟨0, by omega, rfl, by rw [Nat.pow_zero, Nat.mod_one]; rfl, hwa.symm⟩
      case round =>
        subst hwa
        obtain ⟨k, hk, rfl, rfl, hww⟩ := hrel
        replace hww := hww.symm
        subst hww
        by_cases hk8 : k < 8
        · have cp := HC0.out (8 * i + k) wa (by omega) HB.out
          have HST := Lib.hid (bt_step n i k hk8)
          have HPT := Lib.hid (bt_part n i (k + 1))
          have hY := bit_le n (8 * i + k)
          have htn : (8 * (i : Int) + (k : Int)).toNat = 8 * i + k := by omega
          generalize hp : 8 * i + k = p at *
          generalize bit n p = Y at *
          generalize bt n i % 2 ^ k = X at *
          clear hp
          go_wp2_with fail
          go_roundw
          case rel => exact ⟨k + 1, by omega, by go_num, by
            have h1 := HST.out
            have h2 := HPT.out
            rw [h1] at h2 ⊢
            have h3 : (Y : Int) * 2 ^ k = ((Y * 2 ^ k : Nat) : Int) := by simp
            rw [h3]
            clear h1 h3
            generalize Y * 2 ^ k = Z at *
            congr 1
            omega, by first | rfl | trivial⟩
          case measure => simp [intOf] <;> omega
        · obtain rfl : k = 8 := by omega
          have HX : Hid (bt n i % 2 ^ 8 = bt n i) := Lib.hid (bt_full n i)
          have HXL := Lib.hid (bt_lt n i)
          have HNX := Lib.hid (fl_next n i (by have := HK.out; omega))
          rw [HX.out, show ((8 : Nat) : Int) = (8 : Int) from rfl]
          generalize bt n i = X at *
          have HO2 : Hid (OwnS (wa.alloc (.cells #[.int .u8 (X : Int)] 5)) w0.heap.size A N cap ([h] ++ (fl280 n 280).take i)) := Lib.hid (HO.out.keep ((Below.refl _ _).alloc (Nat.le_refl _) _))
          have HB2 : Hid (Below w0.heap.size w0 (wa.alloc (.cells #[.int .u8 (X : Int)] 5))) := Lib.hid (below_to HB.out ((Below.refl _ _).alloc (Nat.le_refl _) _))
          clear HX d0
          go_wp2_with (refine wpList_append_by rfl (.tmp 110) (.tmp 112) rfl w0.heap.size A N cap ([h] ++ (fl280 n 280).take i) rfl HO2.out (some ⟨wa.heap.size, 0, none⟩) 1 1 [X] rfl rfl (by_one wa X HXL.out) (by omega) HB2.out.size ?_; intro A4 c4 w4 ho4 hg4 hr4; have HO4 := Lib.hid ho4; have HB4 := Lib.hid (HB2.out.grown hg4 HB2.out.size HO2.out.base); clear ho4 hg4 hr4)
          go_roundw
          case rel => exact ⟨i + 1, N + 1, c4, A4, by omega, by go_num, rfl, by omega, by rw [HNX.out, ← List.append_assoc]; exact HO4.out, HB4.out⟩
          case measure => simp [intOf] <;> omega
    · obtain rfl : K = i := by omega
      go_wp2_with fail
      go_ret
      exact ⟨A, N, cap, rfl, by rw [HRS.out]; exact HO.out.more (by have := HL0.out; omega), below_to HB0.out (by exact HB.out), by have h1 := HL0.out; have h2 := HB.out.size; omega⟩
end Go.Proofs.Ythklamgdoknmeaa
