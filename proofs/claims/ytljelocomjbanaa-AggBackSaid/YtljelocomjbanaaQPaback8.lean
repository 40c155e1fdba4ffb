/-
  The document's Bytes of a sum.
-/
import Derived.Deep.DeepCutAuto
import Derived.Deep.CutBlock
import Derived.Test.YtljelocomjbanaaQPaback7
import Derived.Test.YtljelocomjbanaaQPaback3
import Derived.Test.YtljelocomjbanaaQPaback2
import Derived.Test.YtljelocomjbanaaQPaback4
import Derived.Test.YtljelocomjbanaaQPaback6
import Derived.ProofKit
import Derived.Laws.Cover2
import Derived.WideKeyArgs
import Derived.Carry
import Derived.Deep.Slices
import Derived.Test.YtljelocomjbanaaQPaback1
import Derived.SizedLaws
set_option linter.unusedSimpArgs false
set_option linter.unusedVariables false
set_option maxRecDepth 100000
namespace Go.Proofs.Ytljelocomjbanaa
open Go.RowKit Sm Qb Col
set_option maxHeartbeats 8000000 in
theorem rbytes_core (g off C n h : Nat) (c0 c1 c2 c3 c4 : Bool) (f1 f2 f3 f4 : Nat) (HF1 : Hid (f1 = 0 + 1 * c0.toNat)) (HF2 : Hid (f2 = f1 + 2 * c1.toNat)) (HF3 : Hid (f3 = f2 + 4 * c2.toNat)) (HF4 : Hid (f4 = f3 + 8 * c3.toNat)) (HF5 : Hid (h = f4 + 16 * c4.toNat))
    (HFL : Hid (f1 ≤ 1 ∧ f2 ≤ 3 ∧ f3 ≤ 7 ∧ f4 ≤ 15 ∧ h ≤ 31)) (w : World) (HA : Hid (BitAt w (some ⟨g, off, none⟩) n)) :
    Calls Try.prog 60 #[.agg #[.slice (some ⟨g, off, none⟩) 2240 C, .bool c0, .bool c1, .bool c2, .bool c3, .bool c4]] w (Puts w.heap.size w (h :: strip (fl280 n 280) 280)) := by
  obtain ⟨g', off', e, hg, hc⟩ := HA.out.get
  injection e with e; injection e with e1 e2
  subst e1; subst e2
  obtain ⟨f0, hf0⟩ : ∃ f0, f0 = 0 := ⟨_, rfl⟩
  have hb0 : Below w.heap.size w (w.alloc (.cells #[.slice (some ⟨g, off, none⟩) 2240 C, .bool c0, .bool c1, .bool c2, .bool c3, .bool c4] 98)) := (Below.refl _ _).alloc (Nat.le_refl _) _
  have HB0 := Lib.hid hb0
  have HR0 := Lib.hid (heap_alloc_new' w (.cells #[.slice (some ⟨g, off, none⟩) 2240 C, .bool c0, .bool c1, .bool c2, .bool c3, .bool c4] 98))
  have HC0 : Hid (∀ (k : Nat) (wx : World), k < 2240 → Below (w.alloc (.cells #[.slice (some ⟨g, off, none⟩) 2240 C, .bool c0, .bool c1, .bool c2, .bool c3, .bool c4] 98)).heap.size (w.alloc (.cells #[.slice (some ⟨g, off, none⟩) 2240 C, .bool c0, .bool c1, .bool c2, .bool c3, .bool c4] 98)) wx → wx.cell? ⟨g, off + k, none⟩ = some (.int .u8 (bit n k : Nat))) := Lib.hid fun k wx hk hb =>
    ((below_to hb0 hb).cell (p := ⟨g, off + k, none⟩) hg).trans (hc k hk)
  clear hb0 hc
  go_enter Try.func60, Try.ntmps60
  go_upto_region 2 with fail
  generalize hw0 : w.alloc _ = w0 at *
  have HL0 : Hid (w0.heap.size = w.heap.size + 1) := Lib.hid (by rw [← hw0]; simp)
  clear hw0
  have d0 : w0.cell? ⟨w.heap.size, 0, none⟩ = some (.slice (some ⟨g, off, none⟩) 2240 C) := by rw [cell_of_row _ _ _ _ _ _ HR0.out]; rfl
  have d1 : w0.cell? ⟨w.heap.size, 1, none⟩ = some (.bool c0) := by rw [cell_of_row _ _ _ _ _ _ HR0.out]; rfl
  have d2 : w0.cell? ⟨w.heap.size, 2, none⟩ = some (.bool c1) := by rw [cell_of_row _ _ _ _ _ _ HR0.out]; rfl
  have d3 : w0.cell? ⟨w.heap.size, 3, none⟩ = some (.bool c2) := by rw [cell_of_row _ _ _ _ _ _ HR0.out]; rfl
  have d4 : w0.cell? ⟨w.heap.size, 4, none⟩ = some (.bool c3) := by rw [cell_of_row _ _ _ _ _ _ HR0.out]; rfl
  have d5 : w0.cell? ⟨w.heap.size, 5, none⟩ = some (.bool c4) := by rw [cell_of_row _ _ _ _ _ _ HR0.out]; rfl
  go_upto_if 14 with fail
  go_cut [3] (fun s3 wx => s3 = .int .u8 (f1 : Nat) ∧ wx = w0)
  case first =>
    cases c0
    all_goals
      have hF : f1 = 0 + 1 * Bool.toNat _ := HF1.out
      simp only [Bool.toNat_true, Bool.toNat_false] at hF
      have HFF := Lib.hid hF
      clear hF
      go_wp2_with fail
      go_meet
      case rel => exact ⟨by have h := HFF.out; first | (rw [h]; rfl) | (rw [h, IntKind.wrap_u8]; congr 1; omega) | (have h2 := HFL.out; congr 1; omega), by first | rfl | trivial⟩
  case rest =>
  obtain ⟨rfl, hww⟩ := hcut
  replace hww := hww.symm
  subst hww
  go_upto_if 18 with fail
  go_cut [3] (fun s3 wx => s3 = .int .u8 (f2 : Nat) ∧ wx = w0)
  case first =>
    cases c1
    all_goals
      have hF : f2 = f1 + 2 * Bool.toNat _ := HF2.out
      simp only [Bool.toNat_true, Bool.toNat_false] at hF
      have HFF := Lib.hid hF
      clear hF
      go_wp2_with fail
      go_meet
      case rel => exact ⟨by have h := HFF.out; first | (rw [h]; rfl) | (rw [h, IntKind.wrap_u8]; congr 1; omega) | (have h2 := HFL.out; congr 1; omega), by first | rfl | trivial⟩
  case rest =>
  obtain ⟨rfl, hww⟩ := hcut
  replace hww := hww.symm
  subst hww
  go_upto_if 22 with fail
  go_cut [3] (fun s3 wx => s3 = .int .u8 (f3 : Nat) ∧ wx = w0)
  case first =>
    cases c2
    all_goals
      have hF : f3 = f2 + 4 * Bool.toNat _ := HF3.out
      simp only [Bool.toNat_true, Bool.toNat_false] at hF
      have HFF := Lib.hid hF
      clear hF
      go_wp2_with fail
      go_meet
      case rel => exact ⟨by have h := HFF.out; first | (rw [h]; rfl) | (rw [h, IntKind.wrap_u8]; congr 1; omega) | (have h2 := HFL.out; congr 1; omega), by first | rfl | trivial⟩
  case rest =>
  obtain ⟨rfl, hww⟩ := hcut
  replace hww := hww.symm
  subst hww
  go_upto_if 26 with fail
  go_cut [3] (fun s3 wx => s3 = .int .u8 (f4 : Nat) ∧ wx = w0)
  case first =>
    cases c3
    all_goals
      have hF : f4 = f3 + 8 * Bool.toNat _ := HF4.out
      simp only [Bool.toNat_true, Bool.toNat_false] at hF
      have HFF := Lib.hid hF
      clear hF
      go_wp2_with fail
      go_meet
      case rel => exact ⟨by have h := HFF.out; first | (rw [h]; rfl) | (rw [h, IntKind.wrap_u8]; congr 1; omega) | (have h2 := HFL.out; congr 1; omega), by first | rfl | trivial⟩
  case rest =>
  obtain ⟨rfl, hww⟩ := hcut
  replace hww := hww.symm
  subst hww
  go_upto_if 30 with fail
  go_cut [3] (fun s3 wx => s3 = .int .u8 (h : Nat) ∧ wx = w0)
  case first =>
    cases c4
    all_goals
      have hF : h = f4 + 16 * Bool.toNat _ := HF5.out
      simp only [Bool.toNat_true, Bool.toNat_false] at hF
      have HFF := Lib.hid hF
      clear hF
      go_wp2_with fail
      go_meet
      case rel => exact ⟨by have h := HFF.out; first | (rw [h]; rfl) | (rw [h, IntKind.wrap_u8]; congr 1; omega) | (have h2 := HFL.out; congr 1; omega), by first | rfl | trivial⟩
  case rest =>
  obtain ⟨rfl, hww⟩ := hcut
  replace hww := hww.symm
  subst hww
  have ds : w0.cell? ⟨g, off + 2239, none⟩ = some (.int .u8 (bit n 2239 : Nat)) := HC0.out 2239 w0 (by decide) (Below.refl _ _)
  obtain ⟨s, hs⟩ : ∃ s, s = bit n 2239 := ⟨_, rfl⟩
  rw [← hs] at ds
  have hs1 : s ≤ 1 := by rw [hs]; exact bit_le _ _
  have HST0 : Hid (Stk n s 280) := Lib.hid (Stk.start n s hs.symm)
  clear hs d1 d2 d3 d4 d5
  go_upto_block 0 with fail
  go_cut [4, 6, 7, 8] (fun s4 s6 s7 s8 wx => ∃ k : Nat, s4 = .int .i64 (k : Int) ∧ k ≤ 280 ∧ strip (fl280 n 280) 280 = (fl280 n 280).take k ∧ wx = w0)
  case first =>
    go_wp2_with fail
    clear ds
    go_loopw [4, 6, 7, 8] (fun v4 v6 v7 v8 wr => ∃ k : Nat, v4 = .int .i64 (k : Int) ∧ Stk n s k ∧ wr = w0) (fun v4 _ _ _ _ => (intOf v4).toNat)
    case atStart => exact ⟨280, rfl, HST0.out, rfl⟩
    case round =>
      obtain ⟨k, rfl, hst, hww⟩ := hrel
      replace hww := hww.symm
      subst hww
      have HST := Lib.hid hst
      have hk280 := hst.le
      clear hst HST0
      by_cases hk0 : k = 0
      · subst hk0
        rw [show ((0 : Nat) : Int) = (0 : Int) from rfl]
        go_wp2_with fail
        go_meet
        case rel => exact ⟨0, rfl, by omega, HST.out.none, by first | rfl | trivial⟩
      · obtain ⟨m, hm⟩ : ∃ m, m = k - 1 := ⟨_, rfl⟩
        have HM : Hid (k = m + 1) := Lib.hid (by omega)
        have hm1 : k ≤ m + 1 := by omega
        have hm2 : m + 1 ≤ k := by omega
        clear hm
        go_wp2_with fail
        go_loopw [6, 7] (fun v6 v7 wr => ∃ (j p : Nat), j ≤ 8 ∧ p = 8 * m + j ∧ v6 = .bool (smB n s m j) ∧ v7 = .int .i64 (p : Int) ∧ wr = w0) (fun _ v7 _ => 8 * (m + 1) - (intOf v7).toNat)
        case atStart => exact ⟨0, 8 * m, by omega, rfl, rfl, by go_num, rfl⟩
        case round =>
          obtain ⟨j, p, hj, hp, rfl, rfl, hww⟩ := hrel
          replace hww := hww.symm
          subst hww
          have HP := Lib.hid hp
          have hp1 : p ≤ 8 * m + j := by omega
          have hp2 : 8 * m + j ≤ p := by omega
          clear hp
          by_cases hj8 : j < 8
          · have cp := HC0.out p w0 (by omega) (Below.refl _ _)
            have HSM : Hid (smB n s m (j + 1) = (smB n s m j && decide (bit n p = s))) := Lib.hid (by rw [HP.out]; rfl)
            generalize bit n p = Y at *
            generalize smB n s m j = q at *
            cases q
            · go_wp2_with fail
              go_roundw
              case rel => exact ⟨j + 1, p + 1, by omega, by omega, by rw [HSM.out]; rfl, by go_num, by first | rfl | trivial⟩
              case measure => simp [intOf] <;> omega
            · have HEQ := Lib.hid (cast_beq Y s)
              go_wp2_with fail
              go_roundw
              case rel => exact ⟨j + 1, p + 1, by omega, by omega, by rw [HSM.out, ← HEQ.out]; rfl, by go_num, by first | rfl | trivial⟩
              case measure => simp [intOf] <;> omega
          · have HQ8 : Hid (smB n s m j = smB n s m 8) := Lib.hid (by rw [show j = 8 by omega])
            rw [HQ8.out]
            have HON : Hid ((smB n s m 8 && decide (pvB n m = s)) = true → Stk n s m) := Lib.hid fun h => by have h0 := HST.out; rw [HM.out] at h0; exact h0.on h
            have HSO : Hid ((smB n s m 8 && decide (pvB n m = s)) = false → strip (fl280 n 280) 280 = (fl280 n 280).take k) := Lib.hid fun h => by have h0 := HST.out; rw [HM.out] at h0 ⊢; exact h0.stop h
            have HPV : Hid (pvB n m ≤ 1 ∧ (m = 0 → pvB n m = 0) ∧ (0 < m → w0.cell? ⟨g, off + (8 * m - 1), none⟩ = some (.int .u8 (pvB n m : Nat)))) := Lib.hid ⟨by unfold pvB; split <;> first | decide | exact bit_le _ _, fun h => by unfold pvB; rw [if_pos h], fun h => by
              unfold pvB; rw [if_neg (by omega)]; exact HC0.out _ w0 (by omega) (Below.refl _ _)⟩
            generalize smB n s m 8 = q at *
            generalize pvB n m = v at *
            clear HQ8 HST HP
            obtain ⟨hv1, hv0, hvm⟩ := HPV.out
            clear HPV
            by_cases hm0 : m = 0
            · have hk1 : k = 1 := by omega
              have hv := hv0 hm0
              clear hv0 hvm
              subst hv
              subst hk1
              rw [show ((1 : Nat) : Int) = (1 : Int) from rfl]
              have hs01 : s = 0 ∨ s = 1 := by omega
              rcases hs01 with hs0 | hs0
              all_goals
                subst hs0
                cases q
              all_goals
                go_wp2_with fail
              · go_meet
                case rel => exact ⟨1, rfl, by omega, HSO.out rfl, by first | rfl | trivial⟩
              · go_roundw
                case rel => exact ⟨m, by go_num, HON.out rfl, by first | rfl | trivial⟩
                case measure => simp [intOf] <;> omega
              · go_meet
                case rel => exact ⟨1, rfl, by omega, HSO.out rfl, by first | rfl | trivial⟩
              · go_meet
                case rel => exact ⟨1, rfl, by omega, HSO.out rfl, by first | rfl | trivial⟩
            · have c9 := hvm (by omega)
              clear hvm hv0
              have ht9 : (8 * (k : Int) - 9).toNat = 8 * m - 1 := by omega
              have hk2 : (1 : Int) < (k : Int) := by omega
              generalize 8 * m - 1 = p9 at *
              by_cases hvs : v = s
              · subst hvs
                cases q
                all_goals
                  go_wp2_with fail
                · go_meet
                  case rel => exact ⟨k, rfl, by omega, HSO.out rfl, by first | rfl | trivial⟩
                · go_roundw
                  case rel => exact ⟨m, by go_num, HON.out (by simp), by first | rfl | trivial⟩
                  case measure => simp [intOf] <;> omega
              · have hne : ((v : Int) == (s : Int)) = false := by rw [beq_eq_false_iff_ne]; omega
                have HVS := Lib.hid hvs
                clear hvs
                cases q
                all_goals
                  go_wp2_with fail
                · go_meet
                  case rel => exact ⟨k, rfl, by omega, HSO.out rfl, by first | rfl | trivial⟩
                · go_meet
                  case rel => exact ⟨k, rfl, by omega, HSO.out (by simp [HVS.out]), by first | rfl | trivial⟩
  case rest =>
  obtain ⟨K, rfl, hK, hrest, hww⟩ := hcut
  replace hww := hww.symm
  subst hww
  have HRS := Lib.hid hrest
  clear hrest HST0 hs1 ds
  have HK := Lib.hid hK
  have HW1 : Hid (Below w0.heap.size w0 (w0.alloc (.cells #[.int .u8 (h : Int)] 5))) := Lib.hid ((Below.refl _ _).alloc (Nat.le_refl _) _)
  have HO1 : Hid (OwnS (w0.alloc (.cells #[.int .u8 (h : Int)] 5)) w0.heap.size (some ⟨w0.heap.size, 0, none⟩) 1 1 ([h] ++ (fl280 n 280).take 0)) := Lib.hid (OwnS.of_row (cs := [.int .u8 (h : Int)]) (heap_alloc_new' w0 _) rfl (by decide) rfl rfl (Nat.le_refl _) (fun x hx => by have := HFL.out; simp at hx; omega))
  clear d0
  go_upto_block 4 with fail
  generalize w0.alloc _ = w1 at *
  obtain ⟨gp, hgp⟩ : ∃ gp, gp = w0.heap.size := ⟨_, rfl⟩
  go_wp2_with fail
  go_loopw [9, 10, 11, 12] (fun v9 v10 v11 v12 wr => ∃ (i N cap : Nat) (A : Option Addr), i ≤ K ∧ v10 = .int .i64 (i : Int) ∧ v9 = .slice A N cap ∧ N ≤ i + 1 ∧ OwnS wr w0.heap.size A N cap ([h] ++ (fl280 n 280).take i) ∧ Below w0.heap.size w0 wr) (fun _ v10 _ _ _ => K - (intOf v10).toNat)
  case atStart => exact ⟨0, 1, 1, some ⟨w0.heap.size, 0, none⟩, by omega, rfl, by first | rfl | (rw [hgp]), by omega, HO1.out, HW1.out⟩
  case round =>
    clear HO1 HW1
    obtain ⟨i, N, cap, A, hi, rfl, rfl, hN, ho, hb⟩ := hrel
    have HO := Lib.hid ho
    have HB := Lib.hid hb
    clear ho hb
    by_cases hlt : i < K
    · obtain ⟨wa, hwa⟩ : ∃ wa, wa = wr := ⟨_, rfl⟩
      have d0 : wr.cell? ⟨w.heap.size, 0, none⟩ = some (.slice (some ⟨g, off, none⟩) 2240 C) := by rw [cell_of_row _ _ _ _ _ _ (row_keep HR0.out HB.out)]; rfl
      go_wp2_with fail
      go_loopw [11, 12] (fun v11 v12 wx => ∃ k : Nat, k ≤ 8 ∧ v12 = .int .i64 (k : Int) ∧ v11 = .int .u8 ((bt n i % 2 ^ k : Nat) : Int) ∧ wx = wa) (fun _ v12 _ => 8 - (intOf v12).toNat)
      case atStart => exact ⟨0, by omega, rfl, by rw [Nat.pow_zero, Nat.mod_one]; rfl, hwa.symm⟩
      case round =>
        subst hwa
        obtain ⟨k, hk, rfl, rfl, hww⟩ := hrel
        replace hww := hww.symm
        subst hww
        by_cases hk8 : k < 8
        · have cp := HC0.out (8 * i + k) wa (by omega) HB.out
          have HST := Lib.hid (bt_step n i k hk8)
          have HPT := Lib.hid (bt_part n i (k + 1))
          have hY := bit_le n (8 * i + k)
          have htn : (8 * (i : Int) + (k : Int)).toNat = 8 * i + k := by omega
          generalize hp : 8 * i + k = p at *
          generalize bit n p = Y at *
          generalize bt n i % 2 ^ k = X at *
          clear hp
          go_wp2_with fail
          go_roundw
          case rel => exact ⟨k + 1, by omega, by go_num, by
            have h1 := HST.out
            have h2 := HPT.out
            rw [h1] at h2 ⊢
            have h3 : (Y : Int) * 2 ^ k = ((Y * 2 ^ k : Nat) : Int) := by simp
            rw [h3]
            clear h1 h3
            generalize Y * 2 ^ k = Z at *
            congr 1
            omega, by first | rfl | trivial⟩
          case measure => simp [intOf] <;> omega
        · obtain rfl : k = 8 := by omega
          have HX : Hid (bt n i % 2 ^ 8 = bt n i) := Lib.hid (bt_full n i)
          have HXL := Lib.hid (bt_lt n i)
          have HNX := Lib.hid (fl_next n i (by have := HK.out; omega))
          rw [HX.out, show ((8 : Nat) : Int) = (8 : Int) from rfl]
          generalize bt n i = X at *
          have HO2 : Hid (OwnS (wa.alloc (.cells #[.int .u8 (X : Int)] 5)) w0.heap.size A N cap ([h] ++ (fl280 n 280).take i)) := Lib.hid (HO.out.keep ((Below.refl _ _).alloc (Nat.le_refl _) _))
          have HB2 : Hid (Below w0.heap.size w0 (wa.alloc (.cells #[.int .u8 (X : Int)] 5))) := Lib.hid (below_to HB.out ((Below.refl _ _).alloc (Nat.le_refl _) _))
          clear HX d0
          go_wp2_with (refine wpList_append_by rfl (.tmp 110) (.tmp 112) rfl w0.heap.size A N cap ([h] ++ (fl280 n 280).take i) rfl HO2.out (some ⟨wa.heap.size, 0, none⟩) 1 1 [X] rfl rfl (by_one wa X HXL.out) (by omega) HB2.out.size ?_; intro A4 c4 w4 ho4 hg4 hr4; have HO4 := Lib.hid ho4; have HB4 := Lib.hid (HB2.out.grown hg4 HB2.out.size HO2.out.base); clear ho4 hg4 hr4)
          go_roundw
          case rel => exact ⟨i + 1, N + 1, c4, A4, by omega, by go_num, rfl, by omega, by rw [HNX.out, ← List.append_assoc]; exact HO4.out, HB4.out⟩
          case measure => simp [intOf] <;> omega
    · obtain rfl : K = i := by omega
      go_wp2_with fail
      go_ret
      exact ⟨A, N, cap, rfl, by rw [HRS.out]; exact HO.out.more (by have := HL0.out; omega), below_to HB0.out (by exact HB.out), by have h1 := HL0.out; have h2 := HB.out.size; omega⟩
end Go.Proofs.Ytljelocomjbanaa

set_option linter.unusedSimpArgs false
set_option linter.unusedVariables false
set_option maxRecDepth 8000
namespace Go.Proofs.Ytljelocomjbanaa
open Go.RowKit Go.WideShapes Sm

theorem FlAt.lt {w : World} {a : Option Addr} {l : List Nat} (h : FlAt w a l) : ∀ x ∈ l, x < 18446744073709551616 := fun x hx => by
  obtain ⟨k, hk⟩ := List.getElem?_of_mem hx
  exact (h k x hk).1
theorem FlAt.nil (w : World) (a : Option Addr) : FlAt w a [] := fun k x hx => by simp at hx
def fv (x : Nat) : Value := .float .f64 x
def fls (l : List Nat) : List Value := l.map fv
theorem fls_length (l : List Nat) : (fls l).length = l.length := List.length_map ..
/-- A block of bytes that is known whole. -/
theorem FlAt.of_row {w : World} {g : Nat} {cs : Array Value} {t : TypeId} {fr : Nat × Nat} (l : List Nat) (hl : ∀ x ∈ l, x < 18446744073709551616) (hrow : w.heap[g]? = some (.cells cs t fr)) (hcs : (fls l).IsPrefix cs.toList) : FlAt w (some ⟨g, 0, none⟩) l := fun k x hx => by
  refine ⟨hl x (List.mem_of_getElem? hx), g, 0, rfl, (Array.getElem?_eq_some_iff.1 hrow).1, ?_⟩
  rw [cell_of_row w g (0 + k) cs t fr hrow, Nat.zero_add, ← Array.getElem?_toList]
  obtain ⟨r, hr⟩ := hcs
  have hk : k < (fls l).length := by rw [fls_length]; exact (List.getElem?_eq_some_iff.1 hx).1
  rw [← hr, List.getElem?_append_left hk]
  unfold fls; rw [List.getElem?_map, hx]; rfl
/-- A slice of bytes that the call owns: its block lies from B on. -/
def OwnF (w : World) (B : Nat) (A : Option Addr) (n cap : Nat) (l : List Nat) : Prop := w.ownsRow B 32 1 (.slice A n cap) n (fls l) ∧ ∀ x ∈ l, x < 18446744073709551616
theorem OwnF.len {w : World} {B n cap : Nat} {A : Option Addr} {l : List Nat} (h : OwnF w B A n cap l) : n = l.length := by have := h.1.1; rw [fls_length] at this; omega
theorem OwnF.caps {w : World} {B n cap : Nat} {A : Option Addr} {l : List Nat} (h : OwnF w B A n cap l) : n ≤ cap ∧ cap ≤ maxLen := by
  rcases h.1.2 with ⟨h1, h2⟩ | ⟨g, cap', cur, h1, -, -, h2, h3, -⟩
  · cases h1; exact ⟨Nat.le_refl _, Nat.zero_le _⟩
  · cases h1; exact ⟨h2, h3⟩
theorem OwnF.flAt {w : World} {B n cap : Nat} {A : Option Addr} {l : List Nat} (h : OwnF w B A n cap l) : FlAt w A l := by
  rcases h.1.2 with ⟨h1, h2⟩ | ⟨g, cap', cur, h1, hb, hrow, -, -, hs, ht⟩
  · have := h.len
    have hl : l = [] := List.eq_nil_of_length_eq_zero (by omega)
    subst hl; exact FlAt.nil _ _
  · cases h1
    exact FlAt.of_row l h.2 hrow ⟨cur.toList.drop (n * 1), by rw [← ht, List.take_append_drop]⟩
theorem OwnF.nil (w : World) (B : Nat) : OwnF w B none 0 0 [] := ⟨w.ownsRow_nil B _ 1, fun x hx => by cases hx⟩
theorem OwnF.keep {w w' : World} {B n cap : Nat} {A : Option Addr} {l : List Nat} (h : OwnF w B A n cap l) (hb : Below w.heap.size w w') : OwnF w' B A n cap l :=
  ⟨h.1.kept (row := none) ⟨hb.os, hb.tape, hb.output, hb.size, fun k hk _ => hb.block k hk⟩ (by rcases A with _ | a <;> simp [Value.ownBlock]), h.2⟩
theorem infoF64 : (Try.prog.info? 32).map (fun i => (i.zero, i.size, i.bytes)) = some (some (.float .f64 0), 1, 8) := by kernel_rfl
theorem fls_one (l : List Nat) : ∀ u ∈ fls l, u.oneCell' = true := fun u hu => by
  obtain ⟨x, -, rfl⟩ := List.mem_map.1 hu; rfl
theorem fls_append (l m : List Nat) : fls (l ++ m) = fls l ++ fls m := List.map_append ..
theorem fls_at {w : World} {a : Addr} {l : List Nat} (h : FlAt w (some a) l) (j : Nat) (u : Value) (hu : (fls l)[j]? = some u) : w.cell? (a.add j) = some u := by
  unfold fls at hu
  rw [List.getElem?_map] at hu
  rcases hx : l[j]? with _ | x
  · rw [hx] at hu; cases hu
  · rw [hx] at hu
    obtain ⟨-, g, off, e, -, hc⟩ := h j x hx
    cases e
    rw [addr_add, hc]; exact hu
/-- append of bytes, the source nil, empty or not. -/
theorem run_append_fl (w : World) (B : Nat) (A : Option Addr) (n cap : Nat) (l : List Nat) (hown : OwnF w B A n cap l) (a : Option Addr) (m c : Nat) (l2 : List Nat) (hm : m = l2.length) (h2 : FlAt w a l2)
    (hbytes : n + m ≤ 17592186044416) (hbase : B ≤ w.heap.size) (ty : TypeId) :
    ∃ A' cap' w', (Builtin.append_ #[22, 22] ty #[.slice A n cap, .slice a m c]).run Try.prog w = .ok (.slice A' (n + m) cap') w' ∧ OwnF w' B A' (n + m) cap' (l ++ l2) ∧ w.grownBy w' (A.map (·.block)) ∧
      (A'.map (·.block) = A.map (·.block) ∨ A'.map (·.block) = some w.heap.size) := by
  obtain ⟨i0, hi, hz0, hz1, hz2⟩ := info_parts infoF64
  have hlt : ∀ x ∈ l ++ l2, x < 18446744073709551616 := fun x hx => by
    rcases List.mem_append.1 hx with h | h
    · exact hown.2 x h
    · exact h2.lt x h
  rcases a with _ | ad
  · have hl2 : l2 = [] := by
      rcases l2 with _ | ⟨x, r⟩
      · rfl
      · obtain ⟨-, g, off, e, -⟩ := h2 0 x rfl; cases e
    subst hl2
    have h0 : m = 0 := hm
    subst h0
    refine ⟨A, cap, w, ?_, by rw [Nat.add_zero, List.append_nil]; exact hown, World.grownBy.refl w _, .inl rfl⟩
    rcases hown.1.2 with ⟨h1, h3⟩ | ⟨g, cap', cur, h1, _, _, hnc, _⟩
    · cases h1
      simp [Builtin.append_, run_underlying Try.underlying22, Go.sizeOf, typeInfo, hi, Builtin.lenOf, Builtin.firstCells]
    · cases h1
      simp [Builtin.append_, run_underlying Try.underlying22, Go.sizeOf, typeInfo, hi, Builtin.lenOf, Builtin.firstCells, hnc, storeCells]
  · obtain ⟨v', w', hr, h3, h4, h5, h6⟩ := run_append_own_at (P := Try.prog) w B 22 ty 32 i0 (.float .f64 0) 1 8 Try.underlying22 hi hz0 hz1 hz2 rfl (by decide) _ n (fls l) hown.1 ad m c (fls l2) (by rw [fls_length, hm, Nat.mul_one]) (fls_at h2) (fls_one l2) (by unfold maxLen; omega) (by omega) hbase
    rw [← fls_append] at h3
    rcases h3.2 with ⟨rfl, h0⟩ | ⟨g, cap', cur, rfl, hb, hrest⟩
    · have hn0 : n = 0 := by omega
      have hm0 : m = 0 := by omega
      subst hn0; subst hm0
      exact ⟨none, 0, w', hr, ⟨h3, hlt⟩, by rcases A with _ | _ <;> exact h4, by
        rcases A with _ | _
        · exact .inl rfl
        · exact h6⟩
    · exact ⟨_, _, w', hr, ⟨h3, hlt⟩, by rcases A with _ | _ <;> exact h4, by
        rcases A with _ | _ <;> exact h6⟩
theorem wpList_append_fl {w : World} {ops : Array Oper} {rest : List Oper} {o : Oper} {a : Act} {Q : Exit → Act → World → Prop} (hgd : o.guard = none) (s x : Operand)
    (ho : o.op = .call { callee := .builtin .append, args := #[s, x], argTypes := #[22, 22] })
    (B : Nat) (A : Option Addr) (n cap : Nat) (l : List Nat) (hs : a.eval s = .slice A n cap) (hown : OwnF w B A n cap l) (b : Option Addr) (m c : Nat) (l2 : List Nat) (hx : a.eval x = .slice b m c) (hm : m = l2.length) (h2 : FlAt w b l2)
    (hbytes : n + m ≤ 17592186044416) (hbase : B ≤ w.heap.size)
    (h : ∀ A' cap' w', OwnF w' B A' (n + m) cap' (l ++ l2) → w.grownBy w' (A.map (·.block)) → (A'.map (·.block) = A.map (·.block) ∨ A'.map (·.block) = some w.heap.size) → wpList Try.prog ops Q rest (a.put o.dst (.slice A' (n + m) cap')) w') : wpList Try.prog ops Q (o :: rest) a w := by
  refine wpList_plain hgd fun K hK => ?_
  obtain ⟨A', cap', w', hr, h3, h4, h5⟩ := run_append_fl w B A n cap l hown b m c l2 hm h2 hbytes hbase o.type
  unfold Oper.wp execOp
  simp only [ho, resolve, invoke, builtin, Sem.run_bind, Sem.run_pure, Result.andThen_ok, List.map_toArray, List.map_cons, List.map_nil, hs, hx, hr]
  exact hK _ _ (h A' cap' w' h3 h4 h5)
theorem cut_fromF (a : Option Addr) (len cap k : Nat) (hk : k ≤ len) (hc : len ≤ cap) :
    ∃ A C, (∀ w, (Instr.slice 22 (.slice a len cap) (some (.int .i64 (k : Int))) none none).run Try.prog w = .ok (.slice A (len - k) C) w) ∧ len - k ≤ C ∧ C ≤ cap ∧ ∀ w l, len = l.length → FlAt w a l → FlAt w A (l.drop k) := by
  refine ⟨if cap = k then a else a.map (·.add k), cap - k, fun w => ?_, by omega, by omega, fun w l hl h j x hx => ?_⟩
  · rw [run_slice_l w 22 a len cap Try.underlying22 .i64 (k : Int) (by omega) (by omega)]
    rw [show (Go.sizeOf (Try.prog.elem 22)).run Try.prog w = .ok 1 w from by kernel_rfl]
    simp [Result.andThen, sliced]
  · rw [List.getElem?_drop] at hx
    obtain ⟨h1, g, off, rfl, hg, hcell⟩ := h _ _ hx
    have hkl := (List.getElem?_eq_some_iff.1 hx).1
    rw [if_neg (by omega)]
    exact ⟨h1, g, off + k, by simp [addr_add], hg, by rw [Nat.add_assoc]; exact hcell⟩
theorem cut_toF (a : Option Addr) (len cap k : Nat) (hk : k ≤ len) (hc : len ≤ cap) :
    ∃ A, (∀ w, (Instr.slice 22 (.slice a len cap) none (some (.int .i64 (k : Int))) none).run Try.prog w = .ok (.slice A k cap) w) ∧ ∀ w l, len = l.length → FlAt w a l → FlAt w A (l.take k) := by
  refine ⟨if cap = 0 then a else a.map (·.add 0), fun w => ?_, fun w l hl h j x hx => ?_⟩
  · rw [run_slice_h w 22 a len cap Try.underlying22 .i64 (k : Int) (by omega) (by omega)]
    rw [show (Go.sizeOf (Try.prog.elem 22)).run Try.prog w = .ok 1 w from by kernel_rfl]
    simp [Result.andThen, sliced]
  · rw [List.getElem?_take] at hx
    split at hx
    · obtain ⟨h1, g, off, rfl, hg, hcell⟩ := h _ _ hx
      exact ⟨h1, g, off, by simp [addr_add], hg, hcell⟩
    · cases hx
/-- A row of bytes that is known whole, with room behind. -/
structure RoomF (w : World) (B g n cap : Nat) (cs : List Value) (l : List Nat) : Prop where
  row : w.heap[g]? = some (.cells cs.toArray 32 (0, 0))
  size : cs.length = cap
  cap : cap ≤ maxLen
  first : cs.take n = fls l
  base : B ≤ g
  lt : ∀ x ∈ l, x < 18446744073709551616
theorem OwnF.of_row {w : World} {B g n cap : Nat} {cs : List Value} {l : List Nat} (hrow : w.heap[g]? = some (.cells cs.toArray 32 (0, 0))) (hs : cs.length = cap) (hc : cap ≤ maxLen) (hn : n = l.length) (hf : cs.take n = fls l) (hb : B ≤ g) (hl : ∀ x ∈ l, x < 18446744073709551616) : OwnF w B (some ⟨g, 0, none⟩) n cap l := by
  have hnc : n ≤ cap := by
    have := congrArg List.length hf
    rw [List.length_take, fls_length] at this
    omega
  exact ⟨⟨by rw [fls_length, hn]; omega, .inr ⟨g, cap, cs.toArray, rfl, hb, hrow, hnc, hc, by rw [List.size_toArray, hs, Nat.mul_one], by rw [Nat.mul_one]; exact hf⟩⟩, hl⟩
/-- A row of the call's own, whole. -/
theorem OwnF.row {w : World} {B n cap : Nat} {A : Option Addr} {l : List Nat} (h : OwnF w B A n cap l) (hn : 0 < n) : ∃ g cs, A = some ⟨g, 0, none⟩ ∧ RoomF w B g n cap cs l := by
  rcases h.1.2 with ⟨h1, h2⟩ | ⟨g, cap', cur, h1, hb, hrow, -, hc, hs, ht⟩
  · omega
  · cases h1
    exact ⟨g, cur.toList, rfl, hrow, by rw [Array.length_toList, hs, Nat.mul_one], hc, by rw [← ht, Nat.mul_one], hb, h.2⟩
theorem RoomF.lt_heap {w : World} {B g n cap : Nat} {cs : List Value} {l : List Nat} (h : RoomF w B g n cap cs l) : g < w.heap.size := (Array.getElem?_eq_some_iff.1 h.row).1
theorem fls_set (l : List Nat) (i x : Nat) : fls (l.set i x) = (fls l).set i (fv x) := by unfold fls; rw [List.map_set]
/-- A byte is written. -/
theorem RoomF.set {w : World} {B g n cap : Nat} {cs : List Value} {l : List Nat} (h : RoomF w B g n cap cs l) (i x : Nat) (hx : x < 18446744073709551616) : RoomF (w.setCell ⟨g, i, none⟩ (.float .f64 x)) B g n cap (cs.set i (fv x)) (l.set i x) :=
  ⟨row_set h.row i _, by rw [List.length_set, h.size], h.cap, by rw [List.take_set, h.first, fls_set], h.base, fun y hy => by
    rcases List.mem_or_eq_of_mem_set hy with h1 | h1
    · exact h.lt y h1
    · omega⟩
theorem RoomF.own {w : World} {B g n cap : Nat} {cs : List Value} {l : List Nat} (h : RoomF w B g n cap cs l) (hn : n = l.length) : OwnF w B (some ⟨g, 0, none⟩) n cap l := OwnF.of_row h.row h.size h.cap hn h.first h.base h.lt
theorem RoomF.cell {w : World} {B g n cap : Nat} {cs : List Value} {l : List Nat} (h : RoomF w B g n cap cs l) (i x : Nat) (hx : l[i]? = some x) (hi : i < n) : w.cell? ⟨g, i, none⟩ = some (.float .f64 x) ∧ w.frozen? ⟨g, i, none⟩ = false := by
  refine ⟨?_, row_frozen h.row i⟩
  rw [cell_of_row w g i cs.toArray _ (0, 0) h.row]
  have h1 : (cs.take n)[i]? = some (fv x) := by rw [h.first]; unfold fls; rw [List.getElem?_map, hx]; rfl
  rw [List.getElem?_take, if_pos hi] at h1
  rw [List.getElem?_toArray]; exact h1
theorem RoomF.le {w : World} {B g n cap : Nat} {cs : List Value} {l : List Nat} (h : RoomF w B g n cap cs l) (hn : n = l.length) : n ≤ cap := by
  have := congrArg List.length h.first
  rw [List.length_take, fls_length, h.size] at this
  omega
theorem RoomF.drew {w : World} {B g n cap : Nat} {cs : List Value} {l : List Nat} (h : RoomF w B g n cap cs l) : RoomF w.drew B g n cap cs l := ⟨h.row, h.size, h.cap, h.first, h.base, h.lt⟩
theorem OwnF.base {w : World} {B n cap : Nat} {A : Option Addr} {l : List Nat} (h : OwnF w B A n cap l) : ∀ k, A.map (·.block) = some k → B ≤ k := fun k hk => by
  rcases h.1.2 with ⟨h1, h2⟩ | ⟨g, cap', cur, h1, hb, _⟩
  · cases h1; cases hk
  · cases h1; simp at hk; omega
end Go.Proofs.Ytljelocomjbanaa

set_option linter.unusedSimpArgs false
set_option linter.unusedVariables false
set_option maxRecDepth 8000
namespace Go.Proofs.Ytljelocomjbanaa
open Go.RowKit Sm

end Go.Proofs.Ytljelocomjbanaa

set_option linter.unusedSimpArgs false
set_option linter.unusedVariables false
set_option maxRecDepth 8000
namespace Go.Proofs.Ytljelocomjbanaa
open Go.RowKit Go.WideShapes Col Sm Qb
theorem wpAnyH_moreQ {P : Program} {ops : Array Oper} {Q : Exit → Act → World → Prop} {md : Region.Mode} {S S' : World → Prop} (h : ∀ w, S' w → S w) : ∀ {n : Nat} {listed : Array Bool} {a : Act} {w : World}, wpAnyH P md ops Q S' n listed a w → wpAnyH P md ops Q S n listed a w
  | 0, _, _, _, H => H
  | n + 1, _, _, _, H => ⟨H.1, fun i hi => wpOp_mono (fun _ _ h' => ⟨h _ h'.1, wpAnyH_moreQ h h'.2⟩) (H.2 i hi)⟩
theorem yb_binQ {ops : Array Oper} {S : World → Prop} {op : Oper} {a : Act} (hw : Region.wanted op (yielded ops a.tmps) = true) (o : BinOp) (t t2 : TypeId) (x y : Operand) (ho : op.op = .binOp o t x y t2) (v1 v2 u : Value) (hx : a.eval x = v1) (hy : a.eval y = v2)
    (he : ∀ w, (eqGuard o t x y v1 v2).run Try.prog w = .ok () w) (h : ∀ w, (binOp o t v1 v2).run Try.prog w = .ok u w) : YieldsIf Try.prog ops S op u a :=
  .inl ⟨hw, fun w _ => by
    unfold execOp
    simp only [ho, hx, hy, Sem.run_bind, Sem.run_pure, he w, h w, Result.andThen_ok]⟩
theorem yb_convQ {ops : Array Oper} {S : World → Prop} {op : Oper} {a : Act} (hw : Region.wanted op (yielded ops a.tmps) = true) (x : Operand) (ho : op.op = .convert 39 9 x) (v u : Value) (hx : a.eval x = v)
    (h : ∀ w, S w → (convert 39 9 v).run Try.prog w = .ok u w) : YieldsIf Try.prog ops S op u a :=
  .inl ⟨hw, fun w hw' => by
    unfold execOp
    simp only [ho, hx, Sem.run_bind, Sem.run_pure, h w hw', Result.andThen_ok]⟩
theorem b_strQ {l m : List Nat} (hl : ∀ x ∈ l, x < 256) (hm : ∀ x ∈ m, x < 256) {b : Bool} (h : decide (l = m) = b) (w : World) : (binOp .eql 9 (.string (strB l)) (.string (strB m))).run Try.prog w = .ok (.bool b) w := by
  have h2 := beq_strB hl hm
  rw [h] at h2
  rw [← h2]
  go_simp
theorem b_boolQ (b : Bool) (w : World) : (binOp .eql 4 (.bool b) (.bool b)).run Try.prog w = .ok (.bool true) w := by
  cases b <;> rfl
theorem b_gtQ {n : Nat} {b : Bool} (h : decide (0 < (n : Int)) = b) (w : World) : (binOp .gtr 3 (.int .i64 (n : Int)) (.int .i64 0)).run Try.prog w = .ok (.bool b) w := by
  rw [← h]
  rfl
theorem valW_ltQ (n h : Nat) : valW n h < 18446744073709551616 := by
  unfold valW
  split
  · decide
  · split
    · decide
    · split
      · decide
      · split
        · decide
        · exact (nearest_word _ _).2.1
theorem strip_subQ (l : List Nat) : ∀ (m : Nat), ∀ x ∈ strip l m, x ∈ l
  | 0 => fun x h => by unfold strip at h; simp at h
  | k + 1 => fun x h => by
    unfold strip at h
    split at h
    · exact strip_subQ l k x h
    · exact List.mem_of_mem_take h
def anyQ (h : Nat) : Bool := bits .and .u8 (h : Int) 8 != 0
theorem anyQ_tests : ∀ h k : _root_.Fin 32, anyQ (h.val ||| k.val) = (anyQ h.val || anyQ k.val) := by decide +kernel
theorem anyQ_kind (b : Nat) : anyQ (kindB b) = true := by
  unfold kindB
  repeat' split
  all_goals decide
theorem anyQ_acc (l : List Nat) : anyQ (accH l) = !l.isEmpty := by
  refine list_snoc (p := fun l => anyQ (accH l) = !l.isEmpty) rfl (fun l b _ => ?_) l
  rw [accH_snoc, anyQ_tests ⟨accH l, accH_lt l⟩ ⟨kindB b, kindB_lt b⟩]
  show (anyQ (accH l) || anyQ (kindB b)) = _
  rw [anyQ_kind]
  simp
theorem flag_sum : ∀ h : _root_.Fin 32, h.val = (((0 + 1 * (h.val.testBit 0).toNat) + 2 * (h.val.testBit 1).toNat) + 4 * (h.val.testBit 2).toNat) + 8 * (h.val.testBit 3).toNat + 16 * (h.val.testBit 4).toNat := by decide +kernel
/-- The document's bytes of any sum. -/
theorem rbytes_any (A : Option Addr) (C n h : Nat) (hh : h < 32) (w : World) (HA : Hid (BitAt w A n)) :
    Calls Try.prog 60 #[.agg (R6 A C h)] w fun e w' => ∃ A' m c, e = .returned (.slice A' m c) ∧ ByAt w' A' (h :: strip (fl280 n 280) 280) ∧ m = (h :: strip (fl280 n 280) 280).length ∧ Below w.heap.size w w' := by
  obtain ⟨g, off, rfl, -, -⟩ := HA.out.get
  have hb : ∀ b : Bool, b.toNat ≤ 1 := fun b => by cases b <;> decide
  have b0 := hb (h.testBit 0)
  have b1 := hb (h.testBit 1)
  have b2 := hb (h.testBit 2)
  have b3 := hb (h.testBit 3)
  refine (rbytes_core g off C n h (h.testBit 0) (h.testBit 1) (h.testBit 2) (h.testBit 3) (h.testBit 4) _ _ _ _ (Lib.hid rfl) (Lib.hid rfl) (Lib.hid rfl) (Lib.hid rfl) (Lib.hid (flag_sum ⟨h, hh⟩)) (Lib.hid ⟨by omega, by omega, by omega, by omega, by omega⟩) w HA).mono ?_
  rintro e w' ⟨A', m, c, he, ho, hbl, -⟩
  exact ⟨A', m, c, he, ho.byAt, ho.len, hbl⟩
end Go.Proofs.Ytljelocomjbanaa

set_option linter.unusedSimpArgs false
set_option linter.unusedVariables false
set_option maxRecDepth 8000
namespace Go.Proofs.Ytljelocomjbanaa
open Go.RowKit Go.WideShapes Col Sm Qb
theorem refVal_row (a : Option Addr) (l : List Nat) (n cap : Nat) (hlen : Hid (n = l.length)) (hn : n ≤ 1000000) (w : World) (HA : Hid (FlAt w a l)) :
    ∃ S O, Calls Try.prog 19 #[.slice a n cap] w (TelEnds w ⟨n, S, O, accLo l, accHi l⟩) := by
  by_cases h0 : n = 0
  · have hl : l = [] := List.length_eq_zero_iff.1 (by rw [← hlen.out]; exact h0)
    subst h0
    subst hl
    rw [accLo_nil, accHi_nil]
    exact ⟨0, false, refVal_nil a cap w⟩
  · exact ⟨_, _, refVal_cons a l n cap hlen (by omega) hn w HA⟩
theorem accLo_can (l : List Nat) : Fl.canon (accLo l) = accLo l := by
  by_cases h : l = []
  · subst h; rw [accLo_nil]; decide
  · exact (accLo_is l h).can
theorem accHi_can (l : List Nat) : Fl.canon (accHi l) = accHi l := by
  by_cases h : l = []
  · subst h; rw [accHi_nil]; decide
  · exact (accHi_is l h).can
set_option maxHeartbeats 8000000 in
theorem refLayS_any (a : Option Addr) (l : List Nat) (n cap : Nat) (hlen : Hid (n = l.length)) (hn : n ≤ 1000000) (w : World) (HA : Hid (FlAt w a l)) :
    Calls Try.prog 22 #[.slice a n cap] w (Puts w.heap.size w (stBy n (accN l) (accH l) (accLo l) (accHi l))) := by
  have hlt : ∀ x ∈ l, x < 18446744073709551616 := fun x hx => by
    obtain ⟨k, hk⟩ := List.getElem?_of_mem hx
    exact (HA.out k x hk).1
  have hlw : IntKind.u64.wrap (n : Int) = (n : Int) := by rw [IntKind.wrap_u64]; omega
  obtain ⟨S, O, hv⟩ := refVal_row a l n cap hlen hn w HA
  have HVA := Lib.hid hv
  have HOF := Lib.hid fun (w1 : World) (hb : Below w.heap.size w w1) => refOf_any2 a l n cap hlen hn w1 (Lib.hid (FlAt.keep HA.out hb))
  have HBY : Hid (∀ A C w1, Hid (BitAt w1 A (accN l)) → Calls Try.prog 60 #[.agg (R6 A C (accH l))] w1 (fun e w' => ∃ A' m c, e = .returned (.slice A' m c) ∧ ByAt w' A' (sby (accN l) (accH l)) ∧ m = (sby (accN l) (accH l)).length ∧ Below w1.heap.size w1 w')) :=
    Lib.hid fun A C w1 hb => rbytes_any A C (accN l) (accH l) (accH_lt l) w1 hb
  have hwf : ∀ x ∈ sby (accN l) (accH l), x < 256 := fun x hx => by
    rcases List.mem_cons.1 hx with h | h
    · have := accH_lt l; omega
    · exact fl280_lt (accN l) 280 x (strip_subQ _ _ x h)
  have hsl := sby_len (accN l) (accH l)
  have HTX := Lib.hid fun (w1 : World) => refText_any (sby (accN l) (accH l)) hwf (by omega) w1
  have HTL : Hid ((txL (sby (accN l) (accH l))).length ≤ 300) := Lib.hid (by unfold txL; rw [List.length_append]; have := ub10 (show (sby (accN l) (accH l)).length < 18446744073709551616 by omega); omega)
  have l64 := accLo_lt l hlt
  have h64 := accHi_lt l hlt
  have HU0 := Lib.hid (refU_any n (by omega))
  have HU1 := Lib.hid (refU_any (accLo l) l64)
  have HU2 := Lib.hid (refU_any (accHi l) h64)
  have q0 := Lib.hid (ub10 (show n < 18446744073709551616 by omega)); have q1 := Lib.hid (ub10 l64); have q2 := Lib.hid (ub10 h64)
  have HBL : Hid (∀ w, Calls Try.prog 54 #[.float .f64 (accLo l)] w fun e w' => e = .returned (.int .u64 (accLo l : Nat)) ∧ w = w') := Lib.hid fun w => by
    have h := refBits_any (accLo l) l64 w
    rw [accLo_can] at h
    exact h
  have HBH : Hid (∀ w, Calls Try.prog 54 #[.float .f64 (accHi l)] w fun e w' => e = .returned (.int .u64 (accHi l : Nat)) ∧ w = w') := Lib.hid fun w => by
    have h := refBits_any (accHi l) h64 w
    rw [accHi_can] at h
    exact h
  unfold stBy
  generalize sby (accN l) (accH l) = L at *
  generalize accN l = N at *
  generalize accH l = H at *
  generalize accLo l = lo at *
  generalize accHi l = hi at *
  clear hlt hwf hsl hv
  go_enter Try.func22, Try.ntmps22
  go_upto_region 2 with (first
    | (go_at_call 19; refine HVA.out.mono ?_; rintro e w1 ⟨rfl, hb⟩; have HB1 := Lib.hid hb; clear hb)
    | (refine wpList_store_row rfl 34 (.tmp 3) (.tmp 6) rfl _ #[.int .u64 (n : Int), .float .f64 S, .bool O, .float .f64 lo, .float .f64 hi] rfl rfl _ _ (heap_alloc_new _ _) (iA _ _ _ _ _) rfl (by simp [Value.oneCell']) ?_; rw [World.setRow_alloc_new]))
  have HR := Lib.hid (heap_alloc_new' w1 (.cells #[.int .u64 (n : Int), .float .f64 S, .bool O, .float .f64 lo, .float .f64 hi] 34))
  have HB2 := Lib.hid (HB1.out.alloc HB1.out.size (.cells #[.int .u64 (n : Int), .float .f64 S, .bool O, .float .f64 lo, .float .f64 hi] 34))
  generalize w1.heap.size = gA at *
  generalize w1.alloc _ = w2 at *
  clear HB1 HVA
  have HD3 : Hid (∀ w', Below w2.heap.size w2 w' → w'.cell? ⟨gA, 3, none⟩ = some (.float .f64 lo)) := Lib.hid fun w' hb => by rw [cell_of_row _ _ _ _ _ _ (row_keep HR.out hb)]; rfl
  have HD4 : Hid (∀ w', Below w2.heap.size w2 w' → w'.cell? ⟨gA, 4, none⟩ = some (.float .f64 hi)) := Lib.hid fun w' hb => by rw [cell_of_row _ _ _ _ _ _ (row_keep HR.out hb)]; rfl
  go_wp2_with (first
    | (go_at_call 58; (with_reducible refine (HU0.out _).mono ?_); rintro e w3 hp; obtain ⟨A1, n1, c1, rfl, HO1, HC3, hn1⟩ := hp.at; have HN1 := Lib.hid hn1; have hn1' : n1 ≤ 10 := (by have := q0.out; omega); clear hp hn1)
    | (go_at_call 50; refine (HOF.out _ (below_to HB2.out HC3.out)).mono ?_; rintro e w4 ⟨Ab, Cb, rfl, hbt, hb⟩; have HBT := Lib.hid hbt; have HC4 := Lib.hid (below_to HC3.out hb); have HO2 := Lib.hid (HO1.out.keep hb); clear hbt hb)
    | (go_at_call 60; (with_reducible refine (HBY.out Ab Cb _ HBT).mono ?_); rintro e w5 ⟨Ay, ny, cy, rfl, hby, hny, hb⟩; have hcv := conv_by ny cy hby hny; have HC5 := Lib.hid (below_to HC4.out hb); have HO3 := Lib.hid (HO2.out.keep hb); clear hby hny hb)
    | (go_at_call 59; (with_reducible refine (HTX.out _).mono ?_); rintro e w6 hp; obtain ⟨A2, n2, c2, rfl, HOT, hb, hn2⟩ := hp.at; have HN2 := Lib.hid hn2; have hn2' : n2 ≤ 300 := (by have := HTL.out; omega); have HC6 := Lib.hid (below_to HC5.out hb.out); have HO4 := Lib.hid (HO3.out.keep hb.out); clear hp hn2 hb hcv)
    | (refine wpList_append_by rfl (.tmp 11) (.tmp 16) rfl w2.heap.size A1 n1 c1 (ub n) rfl HO4.out A2 n2 c2 (txL L) rfl HN2.out HOT.out.byAt (by omega) HC6.out.size ?_; intro A3 c3 w7 ho hg hr; have HO5 := Lib.hid ho; have HC7 := Lib.hid (HC6.out.grown hg HC6.out.size HO4.out.base); clear ho hg hr; have d3 := HD3.out w7 HC7.out)
    | (go_at_call 54; (first | (with_reducible refine (HBL.out _).mono ?_) | (with_reducible refine (HBH.out _).mono ?_)); rintro e w' ⟨rfl, rfl⟩)
    | (go_at_call 58; (with_reducible refine (HU1.out _).mono ?_); rintro e w8 hp; obtain ⟨A4, n4, c4, rfl, HOL, hb, hn4⟩ := hp.at; have HN4 := Lib.hid hn4; have hn4' : n4 ≤ 10 := (by have := q1.out; omega); have HC8 := Lib.hid (below_to HC7.out hb.out); have HO6 := Lib.hid (HO5.out.keep hb.out); clear hp hn4 hb d3)
    | (refine wpList_append_by rfl (.tmp 18) (.tmp 22) rfl w2.heap.size A3 (n1 + n2) c3 (ub n ++ txL L) rfl HO6.out A4 n4 c4 (ub lo) rfl HN4.out HOL.out.byAt (by omega) HC8.out.size ?_; intro A5 c5 w9 ho hg hr; have HO7 := Lib.hid ho; have HC9 := Lib.hid (HC8.out.grown hg HC8.out.size HO6.out.base); clear ho hg hr; have d4 := HD4.out w9 HC9.out)
    | (go_at_call 58; (with_reducible refine (HU2.out _).mono ?_); rintro e wa hp; obtain ⟨A6, n6, c6, rfl, HOH, hb, hn6⟩ := hp.at; have HN6 := Lib.hid hn6; have hn6' : n6 ≤ 10 := (by have := q2.out; omega); have HCa := Lib.hid (below_to HC9.out hb.out); have HO8 := Lib.hid (HO7.out.keep hb.out); clear hp hn6 hb d4)
    | (refine wpList_append_by rfl (.tmp 24) (.tmp 28) rfl w2.heap.size A5 (n1 + n2 + n4) c5 (ub n ++ txL L ++ ub lo) rfl HO8.out A6 n6 c6 (ub hi) rfl HN6.out HOH.out.byAt (by omega) HCa.out.size ?_; intro A7 c7 wb ho hg hr; have HO9 := Lib.hid ho; have HCb := Lib.hid (HCa.out.grown hg HCa.out.size HO8.out.base); clear ho hg hr))
  go_ret
  have he : ub n ++ txL L ++ ub lo ++ ub hi = ub n ++ (txL L ++ (ub lo ++ ub hi)) := by simp [List.append_assoc]
  rw [← he]
  have hz := HB2.out.size
  have hz2 := HCb.out.size
  exact ⟨A7, _, c7, rfl, HO9.out.more hz, below_to HB2.out HCb.out, by omega⟩
end Go.Proofs.Ytljelocomjbanaa

set_option linter.unusedSimpArgs false
set_option linter.unusedVariables false
set_option maxRecDepth 8000
namespace Go.Proofs.Ytljelocomjbanaa
open Go.RowKit Go.WideShapes Col Sm
theorem FlAt.keepK {w w' : World} {a : Option Addr} {l : List Nat} {S : Nat → Prop} (h : FlAt w a l) (hk : Kept S w w') (hs : ∀ g off, a = some ⟨g, off, none⟩ → ¬ S g) : FlAt w' a l := fun k x hx => by
  obtain ⟨h1, g, off, h2, h3, h4⟩ := h k x hx
  exact ⟨h1, g, off, h2, Nat.lt_of_lt_of_le h3 hk.size, (hk.cell (p := ⟨g, off + k, none⟩) h3 (hs g off h2)).trans h4⟩
theorem FlAt.low {w : World} {a : Option Addr} {l : List Nat} (h : FlAt w a l) (h0 : 0 < l.length) : ∀ g off, a = some ⟨g, off, none⟩ → g < w.heap.size := fun g off he => by
  obtain ⟨-, g', off', h2, h3, -⟩ := h 0 l[0] (List.getElem?_eq_getElem h0)
  rw [he] at h2
  cases h2
  exact h3
set_option maxHeartbeats 1000000 in
theorem aggBack_long (a : Option Addr) (la ca : Nat) (b : Option Addr) (lb cb : Nat) (hla : la ≤ 4611686018427387903) (hlb : lb ≤ 4611686018427387903) (hL : 40 < la + lb) (w : World) :
    Calls Try.prog 4 #[.slice a la ca, .slice b lb cb] w fun e w' => e = .returned (.bool true) ∧ Below w.heap.size w w' := by
  have HB := Below.refl w.heap.size w
  go_enter Try.func4, Try.ntmps4
  go_wp2_with (go_at_call 15; refine (awakeS_any _).mono ?_; rintro e w' ⟨rfl, hb1⟩; replace HB := HB.trans (hb1.mono HB.size); clear hb1)
  go_ret
  exact ⟨rfl, HB⟩

set_option maxHeartbeats 16000000 in
theorem aggBack_core (a : Option Addr) (l : List Nat) (la ca : Nat) (hla : Hid (la = l.length)) (b : Option Addr) (m : List Nat) (lb cb : Nat) (hlb : Hid (lb = m.length)) (ra : la ≤ 4611686018427387903) (rb : lb ≤ 4611686018427387903) (hL : ¬ 40 < la + lb) (SB : List Nat) (W : World) (HA : Hid (FlAt W a l)) (HM : Hid (FlAt W b m))
    (HLY : Hid (∀ w, Calls Try.prog 21 #[.slice none 0 0, .agg (TL l)] w (Puts w.heap.size w SB)))
    (HRF : Hid (∀ w, Below W.heap.size W w → Calls Try.prog 22 #[.slice a la ca] w fun e w' => ∃ A n c, e = .returned (.slice A n c) ∧ ByAt w' A SB ∧ n = SB.length ∧ Below w.heap.size w w'))
    (HFN : Hid (∀ g bb w, bb < g → w.heap[bb]? = some (.cells (T39 0 (fun _ => 0) 0 0 0) 29 (0, 0)) → Rd w g SB → Calls Try.prog 24 #[.pointer (some ⟨g, 0, none⟩), .pointer (some ⟨bb, 0, none⟩)] w (Tried g (fun k => k = bb) (fun q w' => q = true ∧ w'.heap[bb]? = some (.cells (TL l) 29 (0, 0))) w))) :
    Calls Try.prog 4 #[.slice a la ca, .slice b lb cb] W fun e w' => e = .returned (.bool true) ∧ Below W.heap.size W w' := by
  have HLT : Hid (∀ x ∈ l, x < 18446744073709551616) := Lib.hid HA.out.lt
  have HMT : Hid (∀ x ∈ m, x < 18446744073709551616) := Lib.hid HM.out.lt
  go_enter Try.func4, Try.ntmps4
  go_upto_region 5 with (first
    | (go_at_call 15; refine (awakeS_any _).mono ?_; rintro e w1 ⟨rfl, hb⟩; have HB1 := Lib.hid hb; clear hb)
    | (go_at_call 16; refine (ofS_any a l la ca hla (by omega) _ (FlAt.keep HA.out HB1.out)).mono ?_; rintro e w2 ⟨rfl, hb⟩; have HB2 := Lib.hid (below_to HB1.out hb); clear hb)
    | (rw [zeros39]; refine wpList_store_row rfl 29 (.tmp 5) (.tmp 22) rfl _ (TL l) rfl rfl _ _ (heap_alloc_new _ _) (iT _ _ _ _ _) (by rw [T39_size, T39_size]) (one39 _ _ _ _ _) ?_; rw [World.setRow_alloc_new]; have HR3 := Lib.hid (heap_alloc_new' w2 (.cells (TL l) 29)); have HB3 := Lib.hid (HB2.out.alloc HB2.out.size (.cells (TL l) 29)))
    | (refine wpList_load_row rfl 29 (.tmp 5) rfl w2.heap.size rfl _ (TL l) (0, 0) _ HR3.out uT rfl (iT _ _ _ _ _) ?_)
    | (go_at_call 21; (with_reducible refine (HLY.out _).mono ?_); rintro e w4 ⟨A1, n1, c1, rfl, ho, hb, -⟩; have HO1 := Lib.hid ho; have HB4 := Lib.hid (below_to HB3.out hb); clear ho hb))
  have HN1 := Lib.hid HO1.out.len
  have HCP := Lib.hid HO1.out.caps
  obtain ⟨w4d, hw4d⟩ : ∃ w4d, w4d = w4.drew := ⟨_, rfl⟩
  have HB : Below W.heap.size W w4d := by rw [hw4d]; exact HB4.out.drew
  have hBP : ByAt w4d A1 SB := by rw [hw4d]; exact HO1.out.byAt.keep (Below.refl _ _).drew
  clear HB1 HB2 HB3 HR3
  refine wp_region_held_drew (S := Below w4d.heap.size w4d) (by kernel_rfl) (by rw [← hw4d]; exact Below.refl _ _) (fun hHeld => ?_)
  rw [← hw4d] at hHeld ⊢
  clear hw4d HB4 HO1
  refine wpAnyH_take (i := 0) (v := .slice A1 n1 c1) rfl (by kernel_rfl) (by kernel_rfl) (by kernel_rfl) (fun _ _ _ h => h) (Or.inl ⟨by rfl, fun _ _ => rfl⟩) hHeld ?_
  try dsimp only
  try simp only [Act.put, List.getElem_toArray, List.getElem_cons_zero, List.getElem_cons_succ, List.setIfInBounds_toArray, List.set_cons_zero, List.set_cons_succ]
  refine wpAnyH_take (i := 1) (v := .string (strB SB)) rfl (by kernel_rfl) (by kernel_rfl) (by kernel_rfl) (fun _ _ _ h => h) (yb_convS rfl (.tmp 25) rfl _ _ rfl (fun w hw => conv_by n1 c1 (hBP.keep hw) HN1.out)) hHeld ?_
  try dsimp only
  try simp only [Act.put, List.getElem_toArray, List.getElem_cons_zero, List.getElem_cons_succ, List.setIfInBounds_toArray, List.set_cons_zero, List.set_cons_succ]
  refine wpAnyH_take (i := 2) (v := .slice a la ca) rfl (by kernel_rfl) (by kernel_rfl) (by kernel_rfl) (fun _ _ _ h => h) (Or.inl ⟨by rfl, fun _ _ => rfl⟩) hHeld ?_
  try dsimp only
  try simp only [Act.put, List.getElem_toArray, List.getElem_cons_zero, List.getElem_cons_succ, List.setIfInBounds_toArray, List.set_cons_zero, List.set_cons_succ]
  refine wpAnyH_ready (rs := [3]) (by kernel_rfl) (by simp) (AllReadyH.cons rfl (fun K hK => ?_) AllReadyH.nil)
  go_simp
  refine (HRF.out _ HB).mono ?_
  rintro e v1 ⟨A5, n5, c5, rfl, hy, hk, hv1⟩
  have HK5 := Lib.hid hk
  clear hk
  refine hK.out _ _ hv1 (fun _ => ?_)
  clear hK K
  try dsimp only
  try simp only [Act.put, List.getElem_toArray, List.getElem_cons_zero, List.getElem_cons_succ, List.setIfInBounds_toArray, List.set_cons_zero, List.set_cons_succ]
  refine wpAnyH_more (S' := Below v1.heap.size v1) (fun w h => below_to hv1 h) ?_
  replace hBP := hBP.keep hv1
  replace HB := below_to HB hv1
  clear hHeld
  have hHeld := Below.refl v1.heap.size v1
  refine wpAnyH_take (i := 4) (v := .string (strB SB)) rfl (by kernel_rfl) (by kernel_rfl) (by kernel_rfl) (fun _ _ _ h => h) (yb_convS rfl (.tmp 28) rfl _ _ rfl (fun w hw => conv_by n5 c5 (hy.keep hw) HK5.out)) hHeld ?_
  try dsimp only
  try simp only [Act.put, List.getElem_toArray, List.getElem_cons_zero, List.getElem_cons_succ, List.setIfInBounds_toArray, List.set_cons_zero, List.set_cons_succ]
  clear hy HK5
  refine wpAnyH_take (i := 5) (v := .bool false) rfl (by kernel_rfl) (by kernel_rfl) (by kernel_rfl) (fun _ _ _ h => h) (yb_bin rfl .neq _ _ _ _ rfl _ _ _ rfl rfl (fun _ => rfl) (fun w => b_sne _ w)) hHeld ?_
  try dsimp only
  try simp only [Act.put, List.getElem_toArray, List.getElem_cons_zero, List.getElem_cons_succ, List.setIfInBounds_toArray, List.set_cons_zero, List.set_cons_succ]
  refine wpAnyH_done (by kernel_rfl) ?_ _
  clear hHeld
  have HB5 := Lib.hid HB
  have HY5 := Lib.hid hBP
  clear HB hBP
  go_upto_region 8 with fail
  rw [zeros39]
  obtain ⟨w6, hw6⟩ : ∃ w6, w6 = v1.alloc (.cells (T39 0 (fun _ => 0) 0 0 0) 29) := ⟨_, rfl⟩
  obtain ⟨bb, hbb⟩ : ∃ bb, bb = v1.heap.size := ⟨_, rfl⟩
  have hb6 : Below v1.heap.size v1 w6 := by rw [hw6]; exact (Below.refl _ _).alloc (Nat.le_refl _) _
  have HB6 := Lib.hid (below_to HB5.out hb6)
  have HZ6 : Hid (w6.heap[bb]? = some (.cells (T39 0 (fun _ => 0) 0 0 0) 29 (0, 0))) := Lib.hid (by rw [hw6, hbb]; exact heap_alloc_new' v1 _)
  have HBS : Hid (W.heap.size ≤ bb) := Lib.hid (by rw [hbb]; exact HB5.out.size)
  have hbw : bb < w6.heap.size := (Array.getElem?_eq_some_iff.1 HZ6.out).1
  have ht := try_any 24 #[] #[.pointer (some ⟨bb, 0, none⟩)] A1 c1 SB n1 HN1 HCP.out.1 HCP.out.2 w6 (Lib.hid (HY5.out.keep hb6)) (fun k => k = bb) (fun k hk => by omega)
    (fun _ q w' => q = true ∧ w'.heap[bb]? = some (.cells (TL l) 29 (0, 0))) (fun q w' => q = true ∧ w'.heap[bb]? = some (.cells (TL l) 29 (0, 0)))
    (fun g q v2 v3 hg h hk => ⟨h.1, hk.heap h.2 (fun e => by have e : bb = g := e; omega)⟩)
    (fun g v2 hg hr hb => HFN.out g bb v2 (by omega) (row_keep HZ6.out hb) hr)
    (fun _ _ => by first | rfl | kernel_rfl)
  have HT := Lib.hid ht
  have HW6 := Lib.hid hw6
  have HBB := Lib.hid hbb
  have hmf : ∀ (fn : Fn) (first cap : Array Value) (w : World), (Instr.makeFunc fn first cap).run Try.prog w = .ok (.func fn first cap) w := fun _ _ _ _ => rfl
  clear ht hw6 hbb hb6 hbw HFN HY5
  rw [← HW6.out, ← HBB.out]
  go_upto_region 11 with (go_at_call 23; (with_reducible refine (HT.out).mono ?_); rintro e w8 ⟨q, rfl, hr, hk⟩; obtain ⟨rfl, hrw⟩ := hr; have HR8 := Lib.hid hrw; have HK8 := Lib.hid hk; clear hrw hk)
  have HB8 : Hid (Below W.heap.size W w8) := Lib.hid (HB6.out.trans (HK8.out.below HB6.out.size (fun k hk => by have := HBS.out; omega)))
  have HL8 : Hid (bb < w8.heap.size) := Lib.hid (Array.getElem?_eq_some_iff.1 HR8.out).1
  clear HT HK8 HB6 HZ6 hmf
  go_upto_region 14 with (first
    | (refine wpList_append_fl rfl (.tmp 35) (.tmp 36) rfl (bb + 1) none 0 0 [] rfl (OwnF.nil _ _) a la ca l rfl hla.out (FlAt.keep HA.out HB8.out) (by omega) HL8.out ?_; intro A2 c2 w9 ho hg hr; rw [Nat.zero_add] at ho ⊢; rw [List.nil_append] at ho; have HO2 := Lib.hid ho; have HB9 : Hid (Below (bb + 1) w8 w9) := Lib.hid (((Below.refl (bb + 1) w8)).grown hg HL8.out (fun k h => by cases h)); clear ho hg hr)
    | (refine wpList_append_fl rfl (.tmp 38) (.tmp 39) rfl (bb + 1) A2 la c2 l rfl HO2.out b lb cb m rfl hlb.out (FlAt.keep HM.out (HB8.out.trans (HB9.out.mono (by have := HBS.out; omega)))) (by omega) (Nat.le_trans HL8.out HB9.out.size) ?_; intro A3 c3 wa ho hg hr; have HO3 := Lib.hid ho; have HBa : Hid (Below (bb + 1) w8 wa) := Lib.hid (HB9.out.grown hg (Nat.le_trans HL8.out HB9.out.size) (fun k hk => by
        rcases HO2.out.1.2 with ⟨h1, h2⟩ | ⟨g, cap', cur, h1, hb, _⟩
        · cases h1; cases hk
        · cases h1; simp at hk; omega)); clear ho hg hr))
  have HWa := Lib.hid (HB8.out.trans (HBa.out.mono (show W.heap.size ≤ bb + 1 by have := HBS.out; omega)))
  have HRa : Hid (wa.heap[bb]? = some (.cells (TL l) 29 (0, 0))) := Lib.hid ((HBa.out.block bb (by omega)).trans HR8.out)
  have HLEN : Hid (la + lb = (l ++ m).length) := Lib.hid (by rw [List.length_append, hla.out, hlb.out])
  have HNA : Hid (∀ g off, A3 = some ⟨g, off, none⟩ → ¬ g = bb) := Lib.hid fun g off he => by
    rcases HO3.out.1.2 with ⟨h1, h2⟩ | ⟨g', cap', cur, h1, hb, _⟩
    · injection h1 with e1; rw [e1] at he; cases he
    · cases h1; injection he with he; injection he with he; omega
  have HAL := Lib.hid HO3.out.flAt
  clear HR8 HB8 HL8 HB9 HBa HO2 HO3
  go_loopw [9] (fun i wr => ∃ k : Nat, k ≤ lb ∧ i = .int .i64 k ∧ Kept (fun j => j = bb) wa wr ∧ wr.heap[bb]? = some (.cells (TL (l ++ m.take k)) 29 (0, 0))) (fun i _ => lb - (intOf i).toNat)
  case atStart =>
    exact ⟨0, by omega, rfl, Kept.refl _ _, by rw [List.take_zero, List.append_nil]; exact HRa.out⟩
  case round =>
    obtain ⟨k, hk, rfl, hq, hrow⟩ := hrel
    have HQ0 := Lib.hid hq
    have HR0 := Lib.hid hrow
    clear hq hrow
    by_cases hlt : k < lb
    · have hkl : k < m.length := by have := hlb.out; omega
      have HMa := Lib.hid (FlAt.keep HM.out HWa.out)
      obtain ⟨hx, gm, off, rfl, hg0, hc00⟩ := HMa.out k m[k] (List.getElem?_eq_getElem hkl)
      have HNE : Hid (¬ gm = bb) := Lib.hid fun e => by have := HM.out.low (by omega) gm off rfl; have := HBS.out; omega
      have HADD : Hid (∀ w, Calls Try.prog 26 #[.agg (TL (l ++ m.take k)), .float .f64 m[k]] w fun e w' => e = .returned (.agg (TL (l ++ m.take (k + 1)))) ∧ Below w.heap.size w w') := Lib.hid fun w => by
        rw [of_take hkl, ← List.append_assoc]
        refine addTL _ _ (fun y hy => ?_) hx (by rw [List.length_append, List.length_take]; have := hla.out; omega) w
        rcases List.mem_append.1 hy with h | h
        · exact HLT.out y h
        · exact HMT.out y (List.mem_of_mem_take h)
      have HG := Lib.hid hg0
      have HC0 := Lib.hid hc00
      clear hc00 hg0
      generalize m[k] = X at *
      have hkI : (k : Int) < (lb : Int) := by omega
      go_wp2
      refine wp_region_held_drew (S := Kept (fun j => j = bb) wa) (by kernel_rfl) HQ0.out.drew (fun hHeld => ?_)
      have HQ : wr.drew.heap[bb]? = some (.cells (TL (l ++ m.take k)) 29 (0, 0)) := HR0.out
      have hc0 := HC0.out
      have hg := HG.out
      refine wpAnyH_take (i := 1) (v := .slice (some ⟨gm, off, none⟩) lb cb) rfl (by kernel_rfl) (by kernel_rfl) (by kernel_rfl) (fun _ _ _ h => h) (Or.inl ⟨by rfl, fun _ _ => rfl⟩) hHeld ?_
      try dsimp only
      try simp only [Act.put, List.getElem_toArray, List.getElem_cons_zero, List.getElem_cons_succ, List.setIfInBounds_toArray, List.set_cons_zero, List.set_cons_succ]
      refine wpAnyH_take (i := 2) (v := .int .i64 k) rfl (by kernel_rfl) (by kernel_rfl) (by kernel_rfl) (fun _ _ _ h => h) (Or.inl ⟨by rfl, fun _ _ => rfl⟩) hHeld ?_
      try dsimp only
      try simp only [Act.put, List.getElem_toArray, List.getElem_cons_zero, List.getElem_cons_succ, List.setIfInBounds_toArray, List.set_cons_zero, List.set_cons_succ]
      refine wpAnyH_take (i := 3) (v := .pointer (some ⟨gm, off + k, none⟩)) rfl (by kernel_rfl) (by kernel_rfl) (by kernel_rfl) (fun _ _ _ h => h) (Or.inl ⟨by rfl, fun w _ => by go_simp⟩) hHeld ?_
      try dsimp only
      try simp only [Act.put, List.getElem_toArray, List.getElem_cons_zero, List.getElem_cons_succ, List.setIfInBounds_toArray, List.set_cons_zero, List.set_cons_succ]
      refine wpAnyH_take (i := 4) (v := .float .f64 X) rfl (by kernel_rfl) (by kernel_rfl) (by kernel_rfl) (fun _ _ _ h => h) (Or.inl ⟨by rfl, fun w hw => by have hc : w.cell? ⟨gm, off + k, none⟩ = some (.float .f64 X) := (hw.cell (p := ⟨gm, off + k, none⟩) hg HNE.out).trans hc0; go_simp⟩) hHeld ?_
      try dsimp only
      try simp only [Act.put, List.getElem_toArray, List.getElem_cons_zero, List.getElem_cons_succ, List.setIfInBounds_toArray, List.set_cons_zero, List.set_cons_succ]
      refine wpAnyH_ready (rs := [0]) (by kernel_rfl) (by simp) (AllReadyH.cons rfl (fun K hK => ?_) AllReadyH.nil)
      rw [if_pos (by rfl)]
      refine wp_load_row 29 (.tmp 7) rfl bb rfl _ (TL (l ++ m.take k)) (0, 0) _ HQ uT rfl (iT _ _ _ _ _) ?_
      refine hK.out _ _ hHeld (fun hHeld => ?_)
      clear hK K
      try dsimp only
      try simp only [Act.put, List.getElem_toArray, List.getElem_cons_zero, List.getElem_cons_succ, List.setIfInBounds_toArray, List.set_cons_zero, List.set_cons_succ]
      refine wpAnyH_ready (rs := [5]) (by kernel_rfl) (by simp) (AllReadyH.cons rfl (fun K hK => ?_) AllReadyH.nil)
      go_simp
      refine (HADD.out _).mono ?_
      rintro e w6 ⟨rfl, hb1⟩
      replace hHeld := hHeld.trans (Kept.of_below hb1)
      replace HQ := row_keep HQ hb1
      refine hK.out _ _ hHeld (fun hHeld => ?_)
      clear hK K
      try dsimp only
      try simp only [Act.put, List.getElem_toArray, List.getElem_cons_zero, List.getElem_cons_succ, List.setIfInBounds_toArray, List.set_cons_zero, List.set_cons_succ]
      refine wpAnyH_ready (rs := [6]) (by kernel_rfl) (by simp) (AllReadyH.cons rfl (fun K hK => ?_) AllReadyH.nil)
      rw [if_pos (by rfl)]
      refine wp_store_row 29 (.tmp 7) (.tmp 52) rfl bb (TL (l ++ m.take (k + 1))) rfl rfl _ _ HQ (iT _ _ _ _ _) (by rw [T39_size, T39_size]) (one39 _ _ _ _ _) ?_
      have HQ2 : Hid ((w6.setRow bb (TL (l ++ m.take (k + 1)))).heap[bb]? = some (.cells (TL (l ++ m.take (k + 1))) 29 (0, 0))) := Lib.hid (setRow_heap _ _ _ _ _ _ HQ)
      have HK2 := Lib.hid (hHeld.trans (kept_setRow w6 bb (TL (l ++ m.take (k + 1)))))
      refine hK.out _ _ HK2.out (fun _ => ?_)
      clear hK K
      refine wpAnyH_done (by kernel_rfl) ?_ _
      clear HQ0 HR0 HQ hc0 hg hHeld HADD
      go_wp2
      go_roundw
      case rel => exact ⟨k + 1, by omega, by go_num, HK2.out, HQ2.out⟩
      case measure => simp [intOf]; omega
    · have hkl : m.take k = m := List.take_of_length_le (by have := hlb.out; omega)
      rw [hkl] at HR0
      have HWT : Hid (∀ x ∈ l ++ m, x < 18446744073709551616) := Lib.hid fun x hx => by
        rcases List.mem_append.1 hx with h | h
        · exact HLT.out x h
        · exact HMT.out x h
      have HBr : Hid (Below W.heap.size W wr) := Lib.hid (HWa.out.trans (HQ0.out.below HWa.out.size (fun k hk => by have := HBS.out; omega)))
      have HVL := Lib.hid fun w => valueTL (l ++ m) HWT.out w
      have HTO := Lib.hid (telL_ok (l ++ m) HWT.out (by have := HLEN.out; omega))
      have HAr : Hid (FlAt wr A3 (l ++ m)) := Lib.hid (HAL.out.keepK HQ0.out (fun g off he => HNA.out g off he))
      have HRV := Lib.hid fun (w : World) (hb : Below wr.heap.size wr w) => refVal_any A3 (l ++ m) (la + lb) c3 HLEN (by omega) w (Lib.hid (HAr.out.keep hb))
      generalize telL (l ++ m) = TZ at *
      go_wp2_with (first
        | (refine wpList_load_row rfl 29 (.tmp 7) rfl bb rfl _ (TL (l ++ m)) (0, 0) _ HR0.out uT rfl (iT _ _ _ _ _) ?_)
        | (go_at_call 18; (with_reducible refine (HVL.out _).mono ?_); rintro e wb ⟨rfl, hb⟩; have HBb := Lib.hid hb; clear hb)
        | (go_at_call 19; obtain ⟨t, ht, hte, hcl⟩ := HRV.out _ HBb.out; refine hcl.mono ?_; rintro e wc ⟨rfl, hb⟩; have HBc := Lib.hid (below_to HBb.out hb); have HSM : Hid (∀ w, Calls Try.prog 17 #[.agg #[.int .u64 (TZ.c : Int), .float .f64 TZ.s, .bool TZ.o, .float .f64 TZ.lo, .float .f64 TZ.hi], .agg #[.int .u64 (t.c : Int), .float .f64 t.s, .bool t.o, .float .f64 t.lo, .float .f64 t.hi]] w fun e w' => e = .returned (.bool true) ∧ Below w.heap.size w w') := Lib.hid (fun w => by have h := refAggSame_any TZ t HTO.out ht w; rwa [hte] at h); clear hb hcl hte ht)
        | (go_at_call 17; (with_reducible refine (HSM.out _).mono ?_); rintro e wd ⟨rfl, hb⟩; have HBd := Lib.hid (below_to HBc.out hb); clear hb))
      go_ret
      exact ⟨rfl, below_to HBr.out HBd.out⟩
theorem aggBack_any (a : Option Addr) (l : List Nat) (la ca : Nat) (hla : Hid (la = l.length)) (_ : la ≤ ca) (ra : la ≤ 4611686018427387903) (b : Option Addr) (m : List Nat) (lb cb : Nat) (hlb : Hid (lb = m.length)) (_ : lb ≤ cb) (rb : lb ≤ 4611686018427387903) (W : World) (HA : Hid (FlAt W a l)) (HM : Hid (FlAt W b m)) :
    Calls Try.prog 4 #[.slice a la ca, .slice b lb cb] W fun e w' => e = .returned (.bool true) ∧ Below W.heap.size W w' := by
  by_cases hL : 40 < la + lb
  · exact aggBack_long a la ca b lb cb ra rb hL W
  · have hlt := HA.out.lt
    have hn : l.length ≤ 40 := by have := hla.out; omega
    refine aggBack_core a l la ca hla b m lb cb hlb ra rb hL (stBy l.length (accN l) (accH l) (accLo l) (accHi l)) W HA HM
      (Lib.hid fun w => layS_any l.length (accN l) (accH l) (accLo l) (accHi l) (by omega) (Nat.lt_trans (accH_lt l) (by decide)) (accLo_lt l hlt) (accHi_lt l hlt) w)
      (Lib.hid fun w hw => ?_)
      (Lib.hid fun g bb w hbg hz hr => ?_)
    · have h := refLayS_any a l la ca hla (by omega) w (Lib.hid (FlAt.keep HA.out hw))
      rw [hla.out] at h ⊢
      refine h.mono fun e w' h => ?_
      obtain ⟨A, n, c, he, ho, hb, -⟩ := h
      exact ⟨A, n, c, he, ho.byAt, ho.len, hb⟩
    · exact stFn_any g bb l.length (accN l) (accH l) (accLo l) (accHi l) (by omega) (accN_lt l) (Nat.lt_trans (accH_lt l) (by decide)) (poss_acc l) (accLo_lt l hlt) (accHi_lt l hlt) (Lib.hid (accLo_can l)) (Lib.hid (accHi_can l)) (!l.isEmpty)
        (Lib.hid (anyH_acc l)) (Lib.hid (by cases l <;> simp)) (fun h0 => by obtain rfl := List.length_eq_zero_iff.1 h0; exact ⟨accLo_nil, accHi_nil⟩) w hbg 0 0 0 0 (fun _ => 0) (Lib.hid hz) (Lib.hid hr)
end Go.Proofs.Ytljelocomjbanaa

set_option linter.unusedSimpArgs false
set_option linter.unusedVariables false
set_option maxRecDepth 8000
namespace Go.Proofs.Ytljelocomjbanaa
open Go.ChangeShapes Go.WideShapes Go.ChangeAt Go.RowKit

theorem Try.own : ownKnob Try.prog.godebug = none := by kernel_rfl
theorem Try.laidOut : laidOutB Try.prog = true := by kernel_rfl

section
variable {H : Type} {enc : TypeId × Value → H} {P : Program}

theorem trodAll_keep {W W' : World} {sp : Nat → Bool} (hl : laidOutB P = true) (hs : ∀ x : MemPlace, x.block < W.heap.size → W.sameAt W' x) : ∀ (ts : List TypeId) (vs : List Value) (ds : List (DataW H)) (ps : List MemPlace),
    (∀ t, t ∈ ts → P.readableRec t = true ∧ t < P.types.size) → DataW.TrodAll enc P W 0 (fun _ => true) true ts vs ds ps → (∀ x, x ∈ ps → x.block < W.heap.size) → (∀ x, x ∈ ps → sp x.block = true) →
    DataW.TrodAll enc P W' 0 sp true ts vs ds ps
  | [], [], [], _, _, h, _, _ => h
  | t :: ts, v :: vs, d :: ds, ps, hr, ⟨p, q, hd, hrest, he⟩, hlt, hsp => by
    subst he
    refine ⟨p, q, ?_, trodAll_keep hl hs ts vs ds q (fun t ht => hr t (by simp [ht])) hrest (fun x hx => hlt x (by simp [hx])) (fun x hx => hsp x (by simp [hx])), rfl⟩
    exact WideElems.Trod_stays hl (hr t (by simp)).1 (hr t (by simp)).2 hd (fun x hx => hs x (hlt x (by simp [hx]))) (fun x hx => hsp x (by simp [hx]))
  | [], [], _ :: _, _, _, h, _, _ => h.elim
  | [], _ :: _, _, _, _, h, _, _ => h.elim
  | _ :: _, [], _, _, _, h, _, _ => h.elim
  | _ :: _, _ :: _, [], _, _, h, _, _ => h.elim

theorem post_law {f : Func} {s : ChangeSpec} {W W' : World} {args : Array Value} {ds : List (DataW H)} {before : List MemPlace} {tb : TypeId} (hl : laidOutB P = true)
    (hv : s.vars = []) (hW : DataW.Whole enc P f.params.toList s.vars false W args.toList ds [] before)
    (hrec : ∀ t, t ∈ f.params.toList → P.readableRec t = true ∧ t < P.types.size)
    (hres : (s.fn H ds).results = [.lit (.bool true)]) (hargs : (s.fn H ds).args = ds) (hvs : (s.fn H ds).vars = [])
    (hrt : f.resultTypes = #[tb]) (htb : P.underlying tb = some .bool) (hb : Below W.heap.size W W') : s.post enc P f false true false false W args (.bool true) W' := by
  have hlt : ∀ x, x ∈ before → x.block < W.heap.size := fun x hx => hW.lt x hx
  have hW2 := hW
  obtain ⟨p, q, hA, hV, rfl, -, -⟩ := hW2
  have hq : q = [] := by rw [hv] at hV; exact hV
  subst hq
  refine ⟨ds, [], p ++ [], [], p, [], hW, ?_, ?_, ?_, hb.frame _, fun h => by cases h⟩
  · rw [List.append_nil, hres, hrt]
    exact trodAll_mk1 (shut_bool htb true)
  · rw [List.append_nil, hargs]
    exact trodAll_keep hl (fun x hx => hb.same hx) _ _ _ _ hrec hA (fun x hx => hlt x (by simp [hx])) (fun x hx => by simpa using hlt x (by simp [hx]))
  · rw [List.append_nil, hv, hvs]; rfl

theorem trod_float' {w : World} {base : Nat} {spare : Nat → Bool} {held : Bool} {fuel : Nat} {cs : List Value} {x : DataW H × List MemPlace} {t : TypeId} (ht : P.underlying t = some (.float .f64)) (h : DataW.trod enc P w base spare held fuel t cs = some x) :
    ∃ b, cs = [.float .f64 b] ∧ (Lit.float .f64 b).wf = true := by
  cases fuel with
  | zero => simp [DataW.trod] at h
  | succ n =>
    unfold DataW.trod at h
    rw [ht] at h
    split at h <;> simp_all

/-- A slice of numbers that came in. -/
theorem open_fls {W : World} {t e : TypeId} {v : Value} {d : DataW H} {ps : List MemPlace} (ht : P.underlying t = some (.slice e)) (he : P.underlying e = some (.float .f64)) (hc : P.cellsOf e = 1)
    {b0 : Nat} {r : Reach} (hok : Value.okWide P W r b0 t v) (hd : DataW.Trod enc P W 0 (fun _ => true) true t v d ps) (hlt : ∀ x, x ∈ ps → x.block < W.heap.size) :
    ∃ (a : Option Addr) (l : List Nat) (cap : Nat), v = .slice a l.length cap ∧ l.length ≤ cap ∧ cap ≤ maxLen ∧ FlAt W a l := by
  obtain ⟨fuel, hf⟩ := hd
  obtain ⟨a, len, cap, rfl⟩ : ∃ a len cap, v = .slice a len cap := by
    simp only [Value.okWide, ht, Cell.okWide] at hok
    cases v <;> simp_all [Cell.ok]
  rcases Deep.open_slice1 ht hc hf with ⟨hcs, -⟩ | ⟨a', len', cap', m, n, V, D, Pl, hcs, -, hl, hm, hmm, hx, hcell⟩
  · simp [Value.cells] at hcs
    obtain ⟨rfl, rfl, rfl⟩ := hcs
    exact ⟨none, [], 0, rfl, Nat.le_refl _, by unfold maxLen; omega, fun k x hx => by simp at hx⟩
  · simp [Value.cells] at hcs
    obtain ⟨rfl, rfl, rfl⟩ := hcs
    simp only [if_true] at hmm
    subst hmm
    have hV : ∀ i, i < m → ∃ b, V i = .float .f64 b ∧ b < 18446744073709551616 := fun i hi => by
      obtain ⟨b, h1, h2⟩ := trod_float' he (hcell i hi).2
      exact ⟨b, by simpa using h1, by simpa [Lit.wf] using h2⟩
    let B : Nat → Nat := fun i => match V i with | .float _ b => b | _ => 0
    have hB : ∀ i, i < m → V i = .float .f64 (B i) ∧ B i < 18446744073709551616 := fun i hi => by
      obtain ⟨b, h1, h2⟩ := hV i hi
      have : B i = b := by show (match V i with | .float _ b => b | _ => 0) = b; rw [h1]
      rw [this]; exact ⟨h1, h2⟩
    refine ⟨some a', (List.range len).map B, m, by simp, by simpa using hl, hm, fun k x hx2 => ?_⟩
    have hk : k < len := by
      rcases Nat.lt_or_ge k len with h | h
      · exact h
      · rw [List.getElem?_eq_none (by simpa using h)] at hx2; cases hx2
    have hx3 : x = B k := by simp [hk] at hx2; exact hx2.symm
    subst hx3
    obtain ⟨b, off, spot⟩ := a'
    have hspot : spot = none := by simpa [Addr.add] using World.cell?_spot (hcell 0 (by omega)).1
    subst hspot
    refine ⟨(hB k (by omega)).2, b, off, rfl, ?_, ?_⟩
    · have hcl := (hcell 0 (by omega)).1
      have := block_lt_of_cell hcl
      simpa [Addr.add] using this
    · have h := (hcell k (by omega)).1
      rw [(hB k (by omega)).1] at h
      rw [Addr.add_mid] at h
      exact h
end
end Go.Proofs.Ytljelocomjbanaa

set_option linter.unusedSimpArgs false
set_option linter.unusedVariables false
set_option maxRecDepth 8000
namespace Go.Proofs.Ytljelocomjbanaa
open Go.ChangeShapes Go.WideShapes Go.ChangeAt Go.WideElems Go.RowKit

section
variable {H : Type} {enc : TypeId × Value → H} {P : Program}

/-- A slice of numbers that came in. -/
theorem open_flsd {W : World} {t e : TypeId} {v : Value} {d : DataW H} {ps : List MemPlace} (ht : P.underlying t = some (.slice e)) (he : P.underlying e = some (.float .f64)) (hc : P.cellsOf e = 1)
    {b0 : Nat} {r : Reach} (hok : Value.okWide P W r b0 t v) (hd : DataW.Trod enc P W 0 (fun _ => true) true t v d ps) (hlt : ∀ x, x ∈ ps → x.block < W.heap.size) :
    ∃ (a : Option Addr) (l : List Nat) (cap : Nat), v = .slice a l.length cap ∧ l.length ≤ cap ∧ cap ≤ maxLen ∧ FlAt W a l ∧ (d = .nil ∧ l = [] ∨ ∃ elems spare, d = .slice elems spare ∧ elems.length = l.length) := by
  obtain ⟨fuel, hf⟩ := hd
  obtain ⟨a, len, cap, rfl⟩ : ∃ a len cap, v = .slice a len cap := by
    simp only [Value.okWide, ht, Cell.okWide] at hok
    cases v <;> simp_all [Cell.ok]
  rcases Deep.open_slice1 ht hc hf with ⟨hcs, hx0⟩ | ⟨a', len', cap', m, n, V, D, Pl, hcs, -, hl, hm, hmm, hx, hcell⟩
  · simp [Value.cells] at hcs
    obtain ⟨rfl, rfl, rfl⟩ := hcs
    exact ⟨none, [], 0, rfl, Nat.le_refl _, by unfold maxLen; omega, fun k x hx => by simp at hx, .inl ⟨by simpa using congrArg Prod.fst hx0, rfl⟩⟩
  · simp [Value.cells] at hcs
    obtain ⟨rfl, rfl, rfl⟩ := hcs
    simp only [if_true] at hmm
    subst hmm
    have hV : ∀ i, i < m → ∃ b, V i = .float .f64 b ∧ b < 18446744073709551616 := fun i hi => by
      obtain ⟨b, h1, h2⟩ := trod_float' he (hcell i hi).2
      exact ⟨b, by simpa using h1, by simpa [Lit.wf] using h2⟩
    let B : Nat → Nat := fun i => match V i with | .float _ b => b | _ => 0
    have hB : ∀ i, i < m → V i = .float .f64 (B i) ∧ B i < 18446744073709551616 := fun i hi => by
      obtain ⟨b, h1, h2⟩ := hV i hi
      have : B i = b := by show (match V i with | .float _ b => b | _ => 0) = b; rw [h1]
      rw [this]; exact ⟨h1, h2⟩
    refine ⟨some a', (List.range len).map B, m, by simp, by simpa using hl, hm, fun k x hx2 => ?_, .inr ⟨_, _, by simpa using congrArg Prod.fst hx, by simp⟩⟩
    have hk : k < len := by
      rcases Nat.lt_or_ge k len with h | h
      · exact h
      · rw [List.getElem?_eq_none (by simpa using h)] at hx2; cases hx2
    have hx3 : x = B k := by simp [hk] at hx2; exact hx2.symm
    subst hx3
    obtain ⟨b, off, spot⟩ := a'
    have hspot : spot = none := by simpa [Addr.add] using World.cell?_spot (hcell 0 (by omega)).1
    subst hspot
    refine ⟨(hB k (by omega)).2, b, off, rfl, ?_, ?_⟩
    · have hcl := (hcell 0 (by omega)).1
      have := block_lt_of_cell hcl
      simpa [Addr.add] using this
    · have h := (hcell k (by omega)).1
      rw [(hB k (by omega)).1] at h
      rw [Addr.add_mid] at h
      exact h
theorem fls_reach {ts : List TypeId} {ds : List (DataW H)} (h : (DataW.weightsEach P ts ds).all (· ≤ reachBytes) = true) {j : Nat} {t e : TypeId} {d : DataW H} {l : List Nat} (ht : ts[j]? = some t) (hd : ds[j]? = some d) (hu : P.underlying t = some (.slice e)) (hb : P.bytesOf e = 8)
    (hdl : d = .nil ∧ l = [] ∨ ∃ elems spare, d = .slice elems spare ∧ elems.length = l.length) : l.length ≤ 4611686018427387903 := by
  rcases hdl with ⟨-, rfl⟩ | ⟨elems, spare, rfl, hl⟩
  · simp
  · have := sized_slice h ht hd hu
    rw [hb] at this
    simp only [reachBytes] at this
    omega
end
end Go.Proofs.Ytljelocomjbanaa
