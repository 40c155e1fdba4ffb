/-
  The document's sums: Value of a finite sum.
-/
import Derived.Deep.DeepCutAuto
import Derived.Deep.CutBlock
import Derived.Test.YtljelocomjbanaaQPaback6
import Derived.Test.YtljelocomjbanaaQPaback1
import Derived.Test.YtljelocomjbanaaQPaback5
set_option linter.unusedSimpArgs false
set_option linter.unusedVariables false
set_option maxRecDepth 100000
namespace Go.Proofs.Ytljelocomjbanaa
open Go.RowKit Sm Qb
/-- While Value runs: what is below, the struct's block, the bits at hand. -/
structure Qb.VS (w : World) (cs : Array Value) (A1 : Option Addr) (M : Nat) (wr : World) : Prop where
  below : Below w.heap.size w wr
  row : wr.heap[w.heap.size]? = some (.cells cs 98 (0, 0))
  bits : BitAt wr A1 M
theorem Qb.VS.next {w wr w' : World} {cs : Array Value} {A1 : Option Addr} {M : Nat} (H : Qb.VS w cs A1 M wr) (hb : Below wr.heap.size wr w') : Qb.VS w cs A1 M w' :=
  ⟨below_to H.below hb, row_keep H.row hb, H.bits.keep hb⟩
def Qb.Cut5 (w : World) (cs : Array Value) (M : Nat) (s : Value) (wx : World) : Prop := ∃ (g1 o1 C1 : Nat), s = .slice (some ⟨g1, o1, none⟩) 2240 C1 ∧ Qb.VS w cs (some ⟨g1, o1, none⟩) M wx
def Qb.Lp1 (M : Nat) (wx : World) (t i : Value) (wr : World) : Prop := ∃ k : Nat, k ≤ 2240 ∧ i = .int .i64 (k : Int) ∧ t = .int .i64 ((bitLen (M % 2 ^ k) : Nat) - 1 : Int) ∧ (wr = wx ∨ Below wx.heap.size wx wr)
set_option maxHeartbeats 8000000 in
theorem rvalue_fin (A : Option Addr) (C n : Nat) (hn : n < top) (c3 c4 : Bool) (w : World) (HA : Hid (BitAt w A n)) (O : Bool) (X : Nat) (HX : Hid (X = min (rnd (mag n)) 9218868437227405312 + if (sgn n || (decide (min (rnd (mag n)) 9218868437227405312 = 0) && c3 && !c4)) = true then 9223372036854775808 else 0)) (HO : Hid (O = decide (min (rnd (mag n)) 9218868437227405312 = 9218868437227405312))) :
    Calls Try.prog 51 #[.agg #[.slice A 2240 C, .bool false, .bool false, .bool false, .bool c3, .bool c4]] w fun e w' => e = .returned (.tuple #[.float .f64 X, .bool O]) ∧ Below w.heap.size w w' := by
  obtain ⟨M, hM⟩ : ∃ M, M = mag n := ⟨_, rfl⟩
  have hMt : M < top := by rw [hM]; exact mag_lt n hn
  obtain ⟨g, off, rfl, hg, hc⟩ := HA.out.get
  have hb0 : Below w.heap.size w (w.alloc (.cells #[.slice (some ⟨g, off, none⟩) 2240 C, .bool false, .bool false, .bool false, .bool c3, .bool c4] 98)) := (Below.refl _ _).alloc (Nat.le_refl _) _
  have cN : (w.alloc (.cells #[.slice (some ⟨g, off, none⟩) 2240 C, .bool false, .bool false, .bool false, .bool c3, .bool c4] 98)).cell? ⟨g, off + 2239, none⟩ = some (.int .u8 (bit n 2239 : Nat)) := (hb0.cell (p := ⟨g, off + 2239, none⟩) hg).trans (hc 2239 (by decide))
  have HV0 : Hid (Qb.VS w #[.slice (some ⟨g, off, none⟩) 2240 C, .bool false, .bool false, .bool false, .bool c3, .bool c4] (some ⟨g, off, none⟩) n (w.alloc (.cells #[.slice (some ⟨g, off, none⟩) 2240 C, .bool false, .bool false, .bool false, .bool c3, .bool c4] 98))) := Lib.hid ⟨hb0, heap_alloc_new' w _, HA.out.keep hb0⟩
  have hsg := sgn_bit n hn
  obtain ⟨s, hs⟩ : ∃ s, s = sgn n := ⟨_, rfl⟩
  rw [← hs] at hsg HX
  rw [← hM] at HX HO
  have HMG : Hid (M = if s = true then neg n else n) := Lib.hid (by rw [hM, hs]; rfl)
  have HTU := Lib.hid fun (C : Nat) (w : World) (h : Hid (BitAt w (some ⟨g, off, none⟩) n)) => rturn_any (some ⟨g, off, none⟩) C n (Nat.le_of_lt hn) w h
  have b1 := bit_le n 2239
  generalize bit n 2239 = Y at *
  clear hb0 hc hM hs HA
  have HMT := Lib.hid hMt
  clear hMt hn
  go_enter Try.func51, Try.ntmps51
  go_upto_region 9 with fail
  generalize hw0 : w.alloc _ = w0 at *
  clear hw0
  go_upto_if 37 with fail
  go_cut [5] from 13 to 146 (Qb.Cut5 w #[.slice (some ⟨g, off, none⟩) 2240 C, .bool false, .bool false, .bool false, .bool c3, .bool c4] M)
  case first =>
    cases s
    · have hY : Y = 0 := by
        have := decide_eq_false_iff_not.1 hsg.symm
        omega
      subst hY
      have HM2 : Hid (M = n) := Lib.hid (by rw [HMG.out]; rfl)
      clear hsg HMG
      go_wp2_with fail
      go_meet
      case rel => exact ⟨g, off, C, rfl, by rw [HM2.out]; exact HV0.out⟩
    · have hY : Y = 1 := of_decide_eq_true hsg.symm
      subst hY
      have HM2 : Hid (M = neg n) := Lib.hid (by rw [HMG.out]; rfl)
      clear hsg HMG
      go_wp2_with (go_at_call 91; (with_reducible refine (HTU.out _ _ (Lib.hid HV0.out.bits)).mono ?_); rintro e w1 ⟨g1, C1, rfl, hbt, hb1⟩; have HV1 := Lib.hid (HV0.out.next hb1); have HBT := Lib.hid hbt; clear hbt hb1)
      go_meet
      case rel => exact ⟨g1, 0, C1, rfl, HV1.out.below, HV1.out.row, by rw [HM2.out]; exact HBT.out⟩
  case rest =>
    obtain ⟨g1, o1, C1, rfl, hvs⟩ := hcut
    have HVS := Lib.hid hvs
    clear hvs HV0 HTU HMG cN
    obtain ⟨L, hL⟩ : ∃ L, L = bitLen M := ⟨_, rfl⟩
    have HL := Lib.hid hL
    have hL2 : L ≤ 2240 := by rw [hL]; exact len_le M HMT.out
    clear hL
    have HC : Hid (∀ (k : Nat) (wx : World), k < 2240 → Below wc.heap.size wc wx → wx.cell? ⟨g1, o1 + k, none⟩ = some (.int .u8 (bit M k : Nat))) := Lib.hid (by
      obtain ⟨g2, o2, e, hg, hc⟩ := HVS.out.bits.get
      injection e with e; injection e with e1 e2
      subst e1; subst e2
      exact fun k wx hk hb => (hb.cell (p := ⟨g1, o1 + k, none⟩) hg).trans (hc k hk))
    go_wp2_with fail
    go_loopw [6, 7] (fun t i wr => ∃ k : Nat, k ≤ 2240 ∧ i = .int .i64 (k : Int) ∧ t = .int .i64 (((bitLen (M % 2 ^ k) : Nat) : Int) - 1) ∧ wr = wc) (fun _ i _ => 2240 - (intOf i).toNat)
    case atStart => exact ⟨0, by omega, rfl, by rw [Nat.pow_zero, Nat.mod_one]; rfl, rfl⟩
    case round =>
      obtain ⟨k, hk, rfl, rfl, rfl⟩ := hrel
      by_cases hlt : k < 2240
      · have ck := HC.out k wr hlt (Below.refl _ _)
        have HLM := Lib.hid (len_mod M k)
        have bk := bit_le M k
        generalize bit M k = Y at *
        obtain ⟨B0, hB0⟩ : ∃ B0, B0 = bitLen (M % 2 ^ k) := ⟨_, rfl⟩
        rw [← hB0] at HLM ⊢
        clear hB0
        by_cases hY : Y = 1
        · subst hY
          have HLM2 : Hid (bitLen (M % 2 ^ (k + 1)) = k + 1) := Lib.hid (by rw [HLM.out, if_pos rfl])
          clear HLM
          go_wp2
          go_roundw
          case rel => exact ⟨k + 1, by omega, by go_num, by rw [HLM2.out]; go_num, by first | rfl | trivial⟩
          case measure => simp [intOf]; omega
        · have hY0 : Y = 0 := by omega
          subst hY0
          have HLM2 : Hid (bitLen (M % 2 ^ (k + 1)) = B0) := Lib.hid (by rw [HLM.out, if_neg (by decide)])
          clear HLM hY
          go_wp2
          go_roundw
          case rel => exact ⟨k + 1, by omega, by go_num, by rw [HLM2.out], by first | rfl | trivial⟩
          case measure => simp [intOf]; omega
      · have hk2 : k = 2240 := by omega
        subst hk2
        have hbl : bitLen (M % 2 ^ 2240) = L := by rw [← top_bits, Nat.mod_eq_of_lt HMT.out, HL.out]
        rw [hbl, show ((2240 : Nat) : Int) = (2240 : Int) from rfl]
        clear hbl
        obtain ⟨wa, rfl⟩ : ∃ wa, wa = wr := ⟨_, rfl⟩
        obtain ⟨LE, hLE⟩ : ∃ LE, LE = if L ≤ 53 then lo M else lowK M L 53 := ⟨_, rfl⟩
        have HLE := Lib.hid hLE
        clear hLE
        go_upto_block 2 with fail
        go_cut [8, 9] from 50 to 88 (fun s8 s9 wx => s8 = .int .u64 (LE : Nat) ∧ wx = wa)
        case first =>
          by_cases hL53 : L ≤ 53
          · have HLE2 : Hid (LE = lo M) := Lib.hid (by rw [HLE.out, if_pos hL53])
            have HE : Hid (lowK M L L = lo M) := Lib.hid (low_a M L HL.out hL53)
            have HZ : Hid (lowK M L 0 = 0) := Lib.hid (lowK_zero M L HL.out)
            go_wp2_with fail
            go_loopw [8, 9] (fun u i wr => ∃ k : Nat, k ≤ L ∧ i = .int .i64 (k : Int) ∧ u = .int .u64 (lowK M L k : Nat) ∧ wr = wa) (fun _ i _ => L - (intOf i).toNat)
            case atStart => exact ⟨0, by omega, rfl, by rw [HZ.out]; rfl, rfl⟩
            case round =>
              obtain ⟨k, hk, rfl, rfl, rfl⟩ := hrel
              by_cases hlt : k < L
              · obtain ⟨e, he⟩ : ∃ e, e = L - 1 - k := ⟨_, rfl⟩
                have HST : Hid (lowK M L (k + 1) = lowK M L k + bit M e * 2 ^ e) := Lib.hid (by rw [he]; exact lowK_a M L k hL53 hlt)
                have ck := HC.out e wr (by omega) (Below.refl _ _)
                have q0 : (0 : Int) ≤ (L : Int) - 1 - (k : Int) := by omega
                have q1 : (L : Int) - 1 - (k : Int) < 2240 := by omega
                have q3 : (k : Int) ≤ (L : Int) - 1 := by omega
                have bk := bit_le M e
                have hlow := lowK_lt M L (k + 1) HL.out hlt (by omega)
                rw [HST.out] at hlow
                have he53 : e < 53 := by omega
                have hsh : IntKind.u64.wrap (((bit M e : Nat) : Int) * 2 ^ e) = ((bit M e * 2 ^ e : Nat) : Int) := by
                  rw [Int.natCast_mul, Int.natCast_pow, IntKind.wrap_u64]
                  have : ((bit M e : Nat) : Int) * (2 : Int) ^ e = ((bit M e * 2 ^ e : Nat) : Int) := by rw [Int.natCast_mul, Int.natCast_pow]; rfl
                  rw [show ((2 : Nat) : Int) = 2 from rfl, this]
                  have h9 : bit M e * 2 ^ e < 9007199254740992 := by omega
                  generalize bit M e * 2 ^ e = z at *
                  omega
                obtain ⟨Z, hZ⟩ : ∃ Z, Z = bit M e * 2 ^ e := ⟨_, rfl⟩
                rw [← hZ] at HST hlow hsh
                generalize bit M e = Y at *
                generalize lowK M L k = P at *
                clear hZ
                rw [he] at ck hsh
                clear he he53
                go_wp2
                go_roundw
                case rel => exact ⟨k + 1, by omega, by go_num, by rw [HST.out]; go_num, by first | rfl | trivial⟩
                case measure => simp [intOf]; omega
              · obtain rfl : k = L := by omega
                rw [HE.out]
                go_wp2_with fail
                all_goals
                  go_meet
                  case rel => exact ⟨by rw [HLE2.out], rfl⟩
          · have HLE2 : Hid (LE = lowK M L 53) := Lib.hid (by rw [HLE.out, if_neg hL53])
            have HZ : Hid (lowK M L 0 = 0) := Lib.hid (lowK_zero M L HL.out)
            have hT1 : ¬ (L : Int) - 1 < 53 := by omega
            have hT2 : (53 : Int) ≤ (L : Int) - 1 := by omega
            go_wp2_with fail
            go_loopw [8, 9] (fun u i wr => ∃ k : Nat, k ≤ 53 ∧ i = .int .i64 (k : Int) ∧ u = .int .u64 (lowK M L k : Nat) ∧ wr = wa) (fun _ i _ => 53 - (intOf i).toNat)
            case atStart => exact ⟨0, by omega, rfl, by rw [HZ.out]; rfl, rfl⟩
            case round =>
              obtain ⟨k, hk, rfl, rfl, rfl⟩ := hrel
              by_cases hlt : k < 53
              · have q0 : (0 : Int) ≤ (L : Int) - 1 - (k : Int) := by omega
                have q1 : (L : Int) - 1 - (k : Int) < 2240 := by omega
                have q3 : (k : Int) ≤ (L : Int) - 1 := by omega
                by_cases h0 : k = 0
                · subst h0
                  have HST : Hid (lowK M L (0 + 1) = lowK M L 0) := Lib.hid (lowK_b0 M L HL.out hL53)
                  go_wp2
                  go_roundw
                  case rel => exact ⟨0 + 1, by omega, by go_num, by rw [HST.out], by first | rfl | trivial⟩
                  case measure => simp [intOf]
                · have h0' : 0 < k := by omega
                  obtain ⟨e, he⟩ : ∃ e, e = L - 1 - k := ⟨_, rfl⟩
                  have HST : Hid (lowK M L (k + 1) = lowK M L k + bit M e * 2 ^ (52 - k)) := Lib.hid (by rw [he]; exact lowK_b M L k HL.out hL53 hlt h0')
                  have ck := HC.out e wr (by omega) (Below.refl _ _)
                  have bk := bit_le M e
                  have hlow := lowK_lt M L (k + 1) HL.out (by omega) (by omega)
                  rw [HST.out] at hlow
                  have hsh : IntKind.u64.wrap (((bit M e : Nat) : Int) * 2 ^ (52 - k)) = ((bit M e * 2 ^ (52 - k) : Nat) : Int) := by
                    rw [Int.natCast_mul, Int.natCast_pow, IntKind.wrap_u64]
                    have : ((bit M e : Nat) : Int) * (2 : Int) ^ (52 - k) = ((bit M e * 2 ^ (52 - k) : Nat) : Int) := by rw [Int.natCast_mul, Int.natCast_pow]; rfl
                    rw [show ((2 : Nat) : Int) = 2 from rfl, this]
                    have h9 : bit M e * 2 ^ (52 - k) < 9007199254740992 := by omega
                    generalize bit M e * 2 ^ (52 - k) = z at *
                    omega
                  obtain ⟨Z, hZ⟩ : ∃ Z, Z = bit M e * 2 ^ (52 - k) := ⟨_, rfl⟩
                  rw [← hZ] at HST hlow hsh
                  generalize bit M e = Y at *
                  generalize lowK M L k = P at *
                  clear hZ
                  rw [he] at ck
                  clear he
                  have r0 : (0 : Int) ≤ 52 - (k : Int) := by omega
                  go_wp2
                  go_roundw
                  case rel => exact ⟨k + 1, by omega, by go_num, by rw [HST.out]; go_num, by first | rfl | trivial⟩
                  case measure => simp [intOf]; omega
              · obtain rfl : k = 53 := by omega
                rw [show ((53 : Nat) : Int) = (53 : Int) from rfl]
                go_wp2_with fail
                all_goals
                  go_meet
                  case rel => exact ⟨by rw [HLE2.out], rfl⟩
        case rest =>
          obtain ⟨rfl, rfl⟩ := hcut
          have HLT : Hid (lo M < 18446744073709551616) := Lib.hid (lo_lt64 M HMT.out)
          go_upto_if 90 with fail
          go_cut [8] from 89 to 96 (fun s8 wx => s8 = .int .u64 (lo M : Nat) ∧ wx = wc)
          case first =>
            by_cases hL53 : L ≤ 53
            · have HLE2 : Hid (LE = lo M) := Lib.hid (by rw [HLE.out, if_pos hL53])
              have hT2 : ¬ (53 : Int) ≤ (L : Int) - 1 := by omega
              go_wp2_with fail
              go_meet
              case rel => exact ⟨by rw [HLE2.out], rfl⟩
            · have HLE2 : Hid (LE + (L - 52) * 4503599627370496 = lo M) := Lib.hid (by rw [HLE.out, if_neg hL53]; exact low_b M L HL.out hL53)
              have hT2 : (53 : Int) ≤ (L : Int) - 1 := by omega
              have hlt := HLT.out
              rw [← HLE2.out] at hlt
              go_wp2_with fail
              go_meet
              case rel => exact ⟨by rw [← HLE2.out]; simp only [Value.int.injEq, true_and]; omega, rfl⟩
          case rest =>
            obtain ⟨rfl, rfl⟩ := hcut
            have HLO := Lib.hid (lo_le M)
            obtain ⟨R, hR⟩ : ∃ R, R = min (rnd M) 9218868437227405312 := ⟨_, rfl⟩
            have hRi : R ≤ 9218868437227405312 := by rw [hR]; exact Nat.min_le_right _ _
            have HRR := Lib.hid hR
            have HRI := Lib.hid hRi
            clear hRi
            have HUC := Lib.hid (up_cond M)
            obtain ⟨LI, hLI⟩ : ∃ LI : Int, LI = ((lo M : Nat) : Int) := ⟨_, rfl⟩
            rw [← hLI]
            rw [← hR] at HX HO
            have hLI0 : 0 ≤ LI := by omega
            have hLI1 : LI < 18446744073709551616 := by have := HLT.out; omega
            have HLI := Lib.hid hLI
            clear hLI
            have HRU := Lib.hid (rnd_up M)
            clear hR HLE
            go_upto_if 98 with fail
            go_cut [8, 10, 11] from 97 to 125 (fun s8 s10 s11 wx => s8 = .int .u64 (R : Nat) ∧ Qb.VS w #[.slice (some ⟨g, off, none⟩) 2240 C, .bool false, .bool false, .bool false, .bool c3, .bool c4] (some ⟨g1, o1, none⟩) M wx)
            case first =>
              by_cases hinf : 9218868437227405312 ≤ lo M
              · have HR2 : Hid (R = 9218868437227405312) := Lib.hid (by
                  have h1 := HRU.out
                  rw [HRR.out]; split at h1 <;> omega)
                have hI : (9218868437227405312 : Int) ≤ LI := by have := HLI.out; omega
                clear hinf
                go_wp2_with fail
                go_meet
                case rel => exact ⟨by rw [HR2.out]; rfl, HVS.out⟩
              · have hI : ¬ (9218868437227405312 : Int) ≤ LI := by have := HLI.out; omega
                have HVU : Hid (Fl.val (lo M + 1) < top) := Lib.hid (Nat.lt_of_le_of_lt (val_le_of_le (by omega)) val_inf)
                have HVL : Hid (Fl.val (lo M) < top) := Lib.hid (Nat.lt_of_le_of_lt HLO.out.1 HMT.out)
                have HW1 : Hid (∀ w, Calls Try.prog 93 #[.int .u64 LI] w (BitEnds w.heap.size w (Fl.val (lo M)))) := Lib.hid fun w => by rw [HLI.out]; exact whole_any (lo M) (by omega) w
                have HW2 : Hid (∀ w, Calls Try.prog 93 #[.int .u64 (LI + 1)] w (BitEnds w.heap.size w (Fl.val (lo M + 1)))) := Lib.hid fun w => by rw [HLI.out]; exact whole_any (lo M + 1) (by omega) w
                have HDN : Hid ((M + neg (Fl.val (lo M))) % top = M - Fl.val (lo M)) := Lib.hid (sub_top M _ HMT.out HLO.out.1)
                have HUP : Hid ((Fl.val (lo M + 1) + neg M) % top = Fl.val (lo M + 1) - M) := Lib.hid (sub_top _ M HVU.out (Nat.le_of_lt HLO.out.2))
                have HDT : Hid (M - Fl.val (lo M) < top) := Lib.hid (by have := HMT.out; omega)
                have HUT : Hid (Fl.val (lo M + 1) - M < top) := Lib.hid (by have := HVU.out; omega)
                obtain ⟨dn, hdn⟩ : ∃ dn, dn = M - Fl.val (lo M) := ⟨_, rfl⟩
                obtain ⟨up, hup⟩ : ∃ up, up = Fl.val (lo M + 1) - M := ⟨_, rfl⟩
                rw [← hdn] at HDN HDT HUC
                rw [← hup] at HUP HUT HUC
                have HR2 : Hid (R = lo M + (if rup M (drop M) = true then 1 else 0)) := Lib.hid (by
                  rw [HRR.out, HRU.out]
                  refine Nat.min_eq_left ?_
                  split <;> omega)
                rw [← HUC.out] at HR2
                generalize Fl.val (lo M) = VL at *
                generalize Fl.val (lo M + 1) = VU at *
                generalize lo M = LO at *
                clear hdn hup HLO HRU HUC HRR
                have hLO : LI < 9218868437227405312 := by omega
                clear hinf
                go_wp2_with fail
                refine (HW1.out _).mono ?_
                rintro e w1 ⟨ga, Ca, rfl, hba, hb1⟩
                have HV1 := Lib.hid (HVS.out.next hb1)
                have HA1 := Lib.hid hba
                clear hba hb1
                go_wp2_with fail
                refine (rturn_any (some ⟨ga, 0, none⟩) Ca VL (Nat.le_of_lt HVL.out) _ HA1).mono ?_
                rintro e w2 ⟨gb, Cb, rfl, hbb, hb2⟩
                have HV2 := Lib.hid (HV1.out.next hb2)
                have HB2 := Lib.hid hbb
                clear hbb hb2 HA1 HV1
                go_wp2_with fail
                refine (radd_any (some ⟨g1, o1, none⟩) (some ⟨gb, 0, none⟩) C1 Cb M (neg VL) _ (Lib.hid HV2.out.bits) HB2).mono ?_
                rw [HDN.out]
                rintro e w3 ⟨gd, Cd, rfl, hbd, hb3⟩
                have HV3 := Lib.hid (HV2.out.next hb3)
                have HD3 := Lib.hid hbd
                clear hbd hb3 HB2 HV2
                go_wp2_with fail
                refine (HW2.out _).mono ?_
                rintro e w4 ⟨ge, Ce, rfl, hbe, hb4⟩
                have HV4 := Lib.hid (HV3.out.next hb4)
                have HD4 := Lib.hid (HD3.out.keep hb4)
                have HE4 := Lib.hid hbe
                clear hbe hb4 HD3 HV3
                go_wp2_with fail
                refine (rturn_any (some ⟨g1, o1, none⟩) C1 M (Nat.le_of_lt HMT.out) _ (Lib.hid HV4.out.bits)).mono ?_
                rintro e w5 ⟨gf, Cf, rfl, hbf, hb5⟩
                have HV5 := Lib.hid (HV4.out.next hb5)
                have HD5 := Lib.hid (HD4.out.keep hb5)
                have HE5 := Lib.hid (HE4.out.keep hb5)
                have HF5 := Lib.hid hbf
                clear hbf hb5 HD4 HE4 HV4
                go_wp2_with fail
                refine (radd_any (some ⟨ge, 0, none⟩) (some ⟨gf, 0, none⟩) Ce Cf VU (neg M) _ HE5 HF5).mono ?_
                rw [HUP.out]
                rintro e w6 ⟨gu, Cu, rfl, hbu, hb6⟩
                have HV6 := Lib.hid (HV5.out.next hb6)
                have HD6 := Lib.hid (HD5.out.keep hb6)
                have HU6 := Lib.hid hbu
                clear hbu hb6 HD5 HE5 HF5 HV5
                have HAB1 := Lib.hid fun (w : World) (h1 : Hid (BitAt w (some ⟨gd, 0, none⟩) dn)) (h2 : Hid (BitAt w (some ⟨gu, 0, none⟩) up)) => above_any (some ⟨gd, 0, none⟩) (some ⟨gu, 0, none⟩) Cd Cu dn up HDT.out HUT.out w h1 h2
                have HAB2 := Lib.hid fun (w : World) (h1 : Hid (BitAt w (some ⟨gd, 0, none⟩) dn)) (h2 : Hid (BitAt w (some ⟨gu, 0, none⟩) up)) => above_any (some ⟨gu, 0, none⟩) (some ⟨gd, 0, none⟩) Cu Cd up dn HUT.out HDT.out w h2 h1
                generalize decide (up < dn) = b1' at *
                generalize decide (dn < up) = b2' at *
                obtain ⟨p3, hp3⟩ : ∃ p3, p3 = decide (LO % 2 = 1) := ⟨_, rfl⟩
                rw [← hp3] at HR2
                have hpI : (LI % 2 == 1) = p3 := by rw [hp3, Bool.eq_iff_iff, beq_iff_eq, decide_eq_true_eq]; have := HLI.out; omega
                clear hp3 hI
                cases b1' <;> cases b2' <;> cases p3
                all_goals
                  go_wp2_with (go_at_call 94; first
                    | (with_reducible refine (HAB1.out _ HD6 HU6).mono ?_; rintro e w7 ⟨rfl, hb7⟩; have HV7 := Lib.hid (HV6.out.next hb7); have HD7 := Lib.hid (HD6.out.keep hb7); have HU7 := Lib.hid (HU6.out.keep hb7); clear hb7)
                    | (with_reducible refine (HAB2.out _ HD7 HU7).mono ?_; rintro e w8 ⟨rfl, hb8⟩; have HV8 := Lib.hid (HV7.out.next hb8); clear hb8))
                  go_meet
                  case rel => exact ⟨by have h2 := HR2.out; have h3 := HLI.out; simp at h2; simp only [Value.int.injEq, true_and]; omega, by first | exact HV8.out | exact HV7.out⟩
            case rest =>
              obtain ⟨rfl, hvs⟩ := hcut
              have HV := Lib.hid hvs
              clear hvs
              obtain ⟨RI, hRI⟩ : ∃ RI : Int, RI = ((R : Nat) : Int) := ⟨_, rfl⟩
              rw [← hRI]
              have hR0 : 0 ≤ RI := by omega
              have hR1 : RI < 9223372036854775808 := by have := HRI.out; omega
              have hor : bits BinOp.or IntKind.u64 RI 9223372036854775808 = RI + 9223372036854775808 := by
                rw [hRI, Fl.or_sign R (by have := HRI.out; omega)]; omega
              have HRV := Lib.hid hRI
              clear hRI HVS HC HLO HUC HRU HRR HLT HLI hLI0 hLI1 HL hL2
              have xf := fb_run
              have k4 : wc.cell? ⟨w.heap.size, 4, none⟩ = some (.bool c3) := by rw [cell_of_row _ _ _ _ _ _ HV.out.row]; rfl
              have k5 : wc.cell? ⟨w.heap.size, 5, none⟩ = some (.bool c4) := by rw [cell_of_row _ _ _ _ _ _ HV.out.row]; rfl
              have HO2 : Hid ((RI == 9218868437227405312) = O) := Lib.hid (by rw [HO.out, Bool.eq_iff_iff, beq_iff_eq, decide_eq_true_eq]; have := HRV.out; omega)
              cases s
              · have hY : Y = 0 := by
                  have := decide_eq_false_iff_not.1 hsg.symm
                  omega
                subst hY
                clear hsg
                by_cases h0 : RI = 0
                · subst h0
                  have hr0 : R = 0 := by have := HRV.out; omega
                  have HX2 : Hid (X = if (c3 && !c4) = true then 9223372036854775808 else 0) := Lib.hid (by rw [HX.out, hr0]; simp)
                  clear hr0
                  cases c3 <;> cases c4
                  all_goals
                    go_wp2
                    go_ret2
                    exact ⟨tup_eq' (by rw [HX2.out]; rfl) HO2.out, HV.out.below⟩
                · have h0b : (RI == 0) = false := by rw [beq_eq_false_iff_ne]; exact h0
                  have HX2 : Hid (X = RI.toNat) := Lib.hid (by
                    have h1 := HRV.out
                    have hr0 : ¬ R = 0 := by omega
                    rw [HX.out]; simp [hr0]; omega)
                  go_wp2
                  go_ret2
                  exact ⟨tup_eq' (by rw [HX2.out]) HO2.out, HV.out.below⟩
              · have hY : Y = 1 := of_decide_eq_true hsg.symm
                subst hY
                clear hsg
                have HX2 : Hid (X = (RI + 9223372036854775808).toNat) := Lib.hid (by
                  have h1 := HRV.out
                  rw [HX.out]; simp; omega)
                go_wp2
                go_ret2
                exact ⟨tup_eq' (by rw [HX2.out]) HO2.out, HV.out.below⟩
end Go.Proofs.Ytljelocomjbanaa

set_option linter.unusedSimpArgs false
set_option linter.unusedVariables false
set_option maxRecDepth 100000
namespace Go.Proofs.Ytljelocomjbanaa
open Go.RowKit Sm Qb
theorem kind_bits (k : Nat) (hk : k < 32) : k = (if k.testBit 0 then 1 else 0) + (if k.testBit 1 then 2 else 0) + (if k.testBit 2 then 4 else 0) + (if k.testBit 3 then 8 else 0) + (if k.testBit 4 then 16 else 0) := by
  have : ∀ k : _root_.Fin 32, k.val = (if k.val.testBit 0 then 1 else 0) + (if k.val.testBit 1 then 2 else 0) + (if k.val.testBit 2 then 4 else 0) + (if k.val.testBit 3 then 8 else 0) + (if k.val.testBit 4 then 16 else 0) := by decide +kernel
  exact this ⟨k, hk⟩
theorem sum_ends {w : World} {n h : Nat} {c0 c1 c2 c3 c4 : Bool} {e : Ending} {w' : World} (H : Qb.AddEnds w c0 c1 c2 c3 c4 n e w') (h0 : h.testBit 0 = c0) (h1 : h.testBit 1 = c1) (h2 : h.testBit 2 = c2) (h3 : h.testBit 3 = c3) (h4 : h.testBit 4 = c4) : SumEnds w n h e w' := by
  obtain ⟨A, C, he, hb, hl⟩ := H
  exact ⟨A, C, by rw [he]; unfold R6; rw [h0, h1, h2, h3, h4], hb, hl⟩
theorem cb_gives (b : Nat) (hb : b < 18446744073709551616) : CbGives b ((Fl.canon b : Nat) : Int) := fun w => refBits_any b hb w
set_option maxHeartbeats 1000000 in
theorem refAdd_any (A : Option Addr) (C n h b : Nat) (hn : n < top) (hb : b < 18446744073709551616) (w : World) (HA : Hid (BitAt w A n)) :
    Calls Try.prog 90 #[.agg (R6 A C h), .float .f64 b] w (SumEnds w ((n + unit b) % top) (h ||| kindB b)) := by
  have hc := Fl.canon_lt b hb
  have hcb := cb_gives b hb
  unfold R6
  by_cases hnan : Fl.nan b = true
  · have ec : Fl.canon b = 9221120237041090560 := by unfold Fl.canon; rw [hnan]; rfl
    have ek : kindB b = 25 := by unfold kindB; rw [if_pos hnan]
    have eu : unit b = 0 := by
      unfold unit
      rw [if_pos]
      unfold Fl.nan at hnan; rw [decide_eq_true_eq] at hnan; omega
    rw [ec] at hcb
    refine (radd_inf A C _ _ _ _ _ b _ (by decide) (by decide) hcb (by decide) true false (by decide) (by decide) w).mono ?_
    rintro e w' ⟨rfl, hbl⟩
    rw [ek, eu, Nat.add_zero, Nat.mod_eq_of_lt hn]
    refine ⟨A, C, ?_, HA.out.keep hbl, hbl⟩
    unfold R6
    simp only [Nat.testBit_or]
    rw [show Nat.testBit 25 0 = true from rfl, show Nat.testBit 25 1 = false from rfl, show Nat.testBit 25 2 = false from rfl, show Nat.testBit 25 3 = true from rfl, show Nat.testBit 25 4 = true from rfl]
    simp
  · have hnan' : Fl.nan b = false := by simpa using hnan
    have ec : Fl.canon b = b := Fl.canon_num b hnan'
    have hr : ¬ 9218868437227405312 < Fl.rung b := by unfold Fl.nan at hnan'; simpa using hnan'
    rw [ec] at hcb
    by_cases hinf : Fl.rung b = 9218868437227405312
    · have eu : unit b = 0 := by unfold unit; rw [if_pos (by omega)]
      have hrb := hinf
      unfold Fl.rung at hrb
      by_cases hs : 9223372036854775808 ≤ b
      · have ek : kindB b = 28 := by unfold kindB; rw [if_neg hnan, if_pos hinf, if_pos hs]
        refine (radd_inf A C _ _ _ _ _ b _ (by omega) (by omega) hcb (by omega) false true (by rw [bne_eq_false_iff_eq]; omega) (by rw [beq_iff_eq]; omega) w).mono ?_
        rintro e w' ⟨rfl, hbl⟩
        rw [ek, eu, Nat.add_zero, Nat.mod_eq_of_lt hn]
        refine ⟨A, C, ?_, HA.out.keep hbl, hbl⟩
        unfold R6
        simp only [Nat.testBit_or]
        rw [show Nat.testBit 28 0 = false from rfl, show Nat.testBit 28 1 = false from rfl, show Nat.testBit 28 2 = true from rfl, show Nat.testBit 28 3 = true from rfl, show Nat.testBit 28 4 = true from rfl]
        simp
      · have ek : kindB b = 26 := by unfold kindB; rw [if_neg hnan, if_pos hinf, if_neg hs]
        refine (radd_inf A C _ _ _ _ _ b _ (by omega) (by omega) hcb (by omega) false false (by rw [bne_eq_false_iff_eq]; omega) (by rw [beq_eq_false_iff_ne]; omega) w).mono ?_
        rintro e w' ⟨rfl, hbl⟩
        rw [ek, eu, Nat.add_zero, Nat.mod_eq_of_lt hn]
        refine ⟨A, C, ?_, HA.out.keep hbl, hbl⟩
        unfold R6
        simp only [Nat.testBit_or]
        rw [show Nat.testBit 26 0 = false from rfl, show Nat.testBit 26 1 = true from rfl, show Nat.testBit 26 2 = false from rfl, show Nat.testBit 26 3 = true from rfl, show Nat.testBit 26 4 = true from rfl]
        simp
    · have hfin : ¬ 9218868437227405312 ≤ Fl.rung b := by omega
      have ek : kindB b = if b = 9223372036854775808 then 8 else 24 := by unfold kindB; rw [if_neg hnan, if_neg hinf]
      have hrd : Fl.rung b = b % 9223372036854775808 := rfl
      obtain ⟨sg, hsg⟩ : ∃ sg, sg = decide (9223372036854775808 ≤ b) := ⟨_, rfl⟩
      have hsI : ((b : Int) / 9223372036854775808 == 1) = sg := by
        rw [hsg, Bool.eq_iff_iff, beq_iff_eq, decide_eq_true_eq]; omega
      have eu : unit b = if sg then neg (Fl.val (Fl.rung b)) else Fl.val (Fl.rung b) := by
        unfold unit; rw [if_neg hfin, hsg]; simp only [decide_eq_true_eq]
      by_cases hlo : Fl.rung b < 4503599627370496
      · have ev : Fl.val (Fl.rung b) = Fl.rung b * 2 ^ 0 := by unfold Fl.val Fl.mant Fl.shf; rw [if_pos hlo, if_pos hlo]
        refine (radd_lo A C n hn _ _ _ _ _ b _ (by omega) (by omega) hcb (Fl.rung b) (by omega) (by omega) hlo sg (decide (b ≠ 9223372036854775808)) hsI (by rw [Bool.eq_iff_iff, bne_iff_ne, decide_eq_true_eq]; omega) _ (Lib.hid rfl) w HA).mono ?_
        intro e w' H
        rw [← ev, ← eu] at H
        refine sum_ends H ?_ ?_ ?_ ?_ ?_
        all_goals
          rw [Nat.testBit_or, ek]
          by_cases h8 : b = 9223372036854775808
          · rw [if_pos h8]; simp [h8, show Nat.testBit 8 0 = false from rfl, show Nat.testBit 8 1 = false from rfl, show Nat.testBit 8 2 = false from rfl, show Nat.testBit 8 3 = true from rfl, show Nat.testBit 8 4 = false from rfl]
          · rw [if_neg h8]; simp [h8, show Nat.testBit 24 0 = false from rfl, show Nat.testBit 24 1 = false from rfl, show Nat.testBit 24 2 = false from rfl, show Nat.testBit 24 3 = true from rfl, show Nat.testBit 24 4 = true from rfl]
      · have ev : Fl.val (Fl.rung b) = (b % 4503599627370496 + 4503599627370496) * 2 ^ (Fl.rung b / 4503599627370496 - 1) := by
          unfold Fl.val Fl.mant Fl.shf
          rw [if_neg hlo, if_neg hlo, hrd, show b % 9223372036854775808 % 4503599627370496 = b % 4503599627370496 by omega, Nat.add_comm]
        have h8 : b ≠ 9223372036854775808 := fun h => by rw [h] at hlo; exact hlo (by decide)
        refine (radd_hi A C n hn _ _ _ _ _ b _ (by omega) (by omega) hcb (Fl.rung b / 4503599627370496) (b % 4503599627370496) _ _ (by omega) (by omega) (by omega) (by omega) (by omega) rfl rfl sg hsI (by rw [bne_iff_ne]; omega) _ (Lib.hid rfl) w HA).mono ?_
        intro e w' H
        rw [← ev, ← eu] at H
        refine sum_ends H ?_ ?_ ?_ ?_ ?_
        all_goals
          rw [Nat.testBit_or, ek, if_neg h8]
          simp [show Nat.testBit 24 0 = false from rfl, show Nat.testBit 24 1 = false from rfl, show Nat.testBit 24 2 = false from rfl, show Nat.testBit 24 3 = true from rfl, show Nat.testBit 24 4 = true from rfl]

theorem one6 (A : Option Addr) (C h : Nat) : (R6 A C h).all (·.oneCell') = true := by unfold R6; simp [Value.oneCell']
/-- While Of runs: the result's own block, the sum's block, and its bits. -/
structure RO (w : World) (gs : Nat) (A : Option Addr) (C n h : Nat) (wr : World) : Prop where
  below : Below w.heap.size w wr
  res : wr.heap[w.heap.size]? = some (.cells #[.slice none 0 0, .bool false, .bool false, .bool false, .bool false, .bool false] 98 (0, 0))
  row : wr.heap[gs]? = some (.cells (R6 A C h) 98 (0, 0))
  bits : BitAt wr A n
  lt : w.heap.size < gs
theorem RO.next {w wr w' : World} {A : Option Addr} {gs C n h : Nat} (H : RO w gs A C n h wr) (hb : Below wr.heap.size wr w') : RO w gs A C n h w' :=
  ⟨below_to H.below hb, row_keep H.res hb, row_keep H.row hb, H.bits.keep hb, H.lt⟩
theorem RO.drew {w wr : World} {A : Option Addr} {gs C n h : Nat} (H : RO w gs A C n h wr) : RO w gs A C n h wr.drew := H.next (Below.refl _ _).drew
theorem bits_apart {w : World} {A : Option Addr} {n g : Nat} {cs : Array Value} {t : TypeId} {fr : Nat × Nat} (h : BitAt w A n) (hr : w.heap[g]? = some (.cells cs t fr)) (hc : ∀ (i : Nat) (x : Nat), cs[i]? ≠ some (.int .u8 (x : Int))) {w' : World} (hk : Kept (fun k => k = g) w w') : BitAt w' A n :=
  ByAt.kept h hk (fun x hx _ e => by
    obtain ⟨b, off, e1, hb, hcl⟩ := h.get
    rw [e1] at hx
    injection hx with hx
    subst hx
    have e : b = g := e
    subst e
    have h0 := hcl 0 (by decide)
    rw [cell_of_row _ _ _ _ _ _ hr] at h0
    exact hc _ _ h0)
theorem R6_not (A : Option Addr) (C h : Nat) (i x : Nat) : (R6 A C h)[i]? ≠ some (.int .u8 (x : Int)) := by
  unfold R6
  intro e
  rcases (by omega : i = 0 ∨ i = 1 ∨ i = 2 ∨ i = 3 ∨ i = 4 ∨ i = 5 ∨ 6 ≤ i) with rfl | rfl | rfl | rfl | rfl | rfl | h6
  · simp at e
  · simp at e
  · simp at e
  · simp at e
  · simp at e
  · simp at e
  · rw [Array.getElem?_eq_none (by simpa using h6)] at e; cases e
theorem zero6_not (i x : Nat) : (#[.slice none 0 0, .bool false, .bool false, .bool false, .bool false, .bool false] : Array Value)[i]? ≠ some (.int .u8 (x : Int)) := by
  intro e
  rcases (by omega : i = 0 ∨ i = 1 ∨ i = 2 ∨ i = 3 ∨ i = 4 ∨ i = 5 ∨ 6 ≤ i) with rfl | rfl | rfl | rfl | rfl | rfl | h6
  · simp at e
  · simp at e
  · simp at e
  · simp at e
  · simp at e
  · simp at e
  · rw [Array.getElem?_eq_none (by simpa using h6)] at e; cases e
theorem RO.put {w wr : World} {A0 : Option Addr} {gs C0 n0 h0 : Nat} (H : RO w gs A0 C0 n0 h0 wr) (A : Option Addr) (C h n : Nat) (hb : BitAt wr A n) : RO w gs A C n h (wr.setRow gs (R6 A C h)) :=
  ⟨below_setRow H.below (Nat.le_of_lt H.lt) _, (setRow_other _ _ _ _ (Nat.ne_of_lt H.lt)).trans H.res, setRow_heap _ _ _ _ _ _ H.row, bits_apart hb H.row (R6_not _ _ _) (kept_setRowQ _ _ _), H.lt⟩
set_option maxHeartbeats 4000000 in
theorem refOf_any2 (a : Option Addr) (l : List Nat) (len cap : Nat) (hlen : Hid (len = l.length)) (hl : len ≤ 1000000) (w : World) (HA : Hid (FlAt w a l)) :
    Calls Try.prog 50 #[.slice a len cap] w (SumEnds w (accN l) (accH l)) := by
  have HZ : Hid (∀ w, Calls Try.prog 89 #[] w (SumEnds w 0 0)) := Lib.hid rnew_any
  go_enter Try.func50, Try.ntmps50
  go_wp2_with (first
    | (go_at_call 89; refine (HZ.out _).mono ?_; rintro e w1 ⟨A0, C0, rfl, hbt, hb1⟩; have HB1 := Lib.hid hb1; have HBT := Lib.hid hbt; clear hb1 hbt)
    | (refine wpList_store_row rfl 98 (.tmp 3) (.tmp 5) rfl _ (R6 A0 C0 0) rfl rfl _ _ (heap_alloc_new _ _) (iR6 _ _ _ _ _ _) rfl (one6 _ _ _) ?_; rw [World.setRow_alloc_new]))
  have HQ0 : Hid (RO w w1.heap.size A0 C0 0 0 (w1.alloc (.cells (R6 A0 C0 0) 98))) := Lib.hid (by
    have hb : Below w1.heap.size w1 (w1.alloc (.cells (R6 A0 C0 0) 98)) := (Below.refl _ _).alloc (Nat.le_refl _) _
    have h0 : Below w.heap.size w (w.alloc (.cells #[.slice none 0 0, .bool false, .bool false, .bool false, .bool false, .bool false] 98)) := (Below.refl _ _).alloc (Nat.le_refl _) _
    exact ⟨below_to (below_to h0 HB1.out) hb, row_keep (row_keep (heap_alloc_new' w _) HB1.out) hb, heap_alloc_new' w1 _, HBT.out.keep hb, by have := HB1.out.size; simp at this; omega⟩)
  obtain ⟨gs, hgs⟩ : ∃ gs, gs = w1.heap.size := ⟨_, rfl⟩
  rw [← hgs] at HQ0 ⊢
  clear hgs HBT HB1 HZ
  go_loopw [4] (fun i wr => ∃ (k : Nat) (Ak : Option Addr) (Ck : Nat), k ≤ len ∧ i = .int .i64 k ∧ RO w gs Ak Ck (accN (l.take k)) (accH (l.take k)) wr) (fun i _ => len - (intOf i).toNat)
  case atStart => exact ⟨0, A0, C0, by omega, rfl, HQ0.out⟩
  case round =>
    clear HQ0
    obtain ⟨k, Ak, Ck, hk, rfl, hq⟩ := hrel
    have HQ0 := Lib.hid hq
    clear hq
    by_cases hlt : k < len
    · have hkl : k < l.length := by have := hlen.out; omega
      obtain ⟨hx, g, off, rfl, hg, hc0⟩ := HA.out k l[k] (List.getElem?_eq_getElem hkl)
      have HADD : ∀ w, Hid (BitAt w Ak (accN (l.take k))) → Calls Try.prog 90 #[.agg (R6 Ak Ck (accH (l.take k))), .float .f64 l[k]] w (SumEnds w (accN (l.take (k + 1))) (accH (l.take (k + 1)))) := fun w hb => by
        rw [List.take_succ_eq_append_getElem hkl, accN_snoc, accH_snoc]
        exact refAdd_any Ak Ck _ _ _ (accN_lt _) hx w hb
      have HADD := Lib.hid HADD
      have HC0 := Lib.hid hc0
      clear hc0
      generalize l[k] = X at *
      have hkI : (k : Int) < (len : Int) := by omega
      go_wp2
      refine wp_region_held_drew (S := Below w.heap.size w) (by kernel_rfl) HQ0.out.below.drew (fun hHeld => ?_)
      have HQ := HQ0.out.drew
      have hc0 := HC0.out
      refine wpAnyH_take (i := 1) (v := .slice (some ⟨g, off, none⟩) len cap) rfl (by kernel_rfl) (by kernel_rfl) (by kernel_rfl) (fun _ _ _ h => h) (Or.inl ⟨by rfl, fun _ _ => rfl⟩) hHeld ?_
      try dsimp only
      try simp only [Act.put, List.getElem_toArray, List.getElem_cons_zero, List.getElem_cons_succ, List.setIfInBounds_toArray, List.set_cons_zero, List.set_cons_succ]
      refine wpAnyH_take (i := 2) (v := .int .i64 k) rfl (by kernel_rfl) (by kernel_rfl) (by kernel_rfl) (fun _ _ _ h => h) (Or.inl ⟨by rfl, fun _ _ => rfl⟩) hHeld ?_
      try dsimp only
      try simp only [Act.put, List.getElem_toArray, List.getElem_cons_zero, List.getElem_cons_succ, List.setIfInBounds_toArray, List.set_cons_zero, List.set_cons_succ]
      refine wpAnyH_take (i := 3) (v := .pointer (some ⟨g, off + k, none⟩)) rfl (by kernel_rfl) (by kernel_rfl) (by kernel_rfl) (fun _ _ _ h => h) (Or.inl ⟨by rfl, fun w _ => by go_simp⟩) hHeld ?_
      try dsimp only
      try simp only [Act.put, List.getElem_toArray, List.getElem_cons_zero, List.getElem_cons_succ, List.setIfInBounds_toArray, List.set_cons_zero, List.set_cons_succ]
      refine wpAnyH_take (i := 4) (v := .float .f64 X) rfl (by kernel_rfl) (by kernel_rfl) (by kernel_rfl) (fun _ _ _ h => h) (Or.inl ⟨by rfl, fun w hw => by have hc : w.cell? ⟨g, off + k, none⟩ = some (.float .f64 X) := (hw.cell (p := ⟨g, off + k, none⟩) hg).trans hc0; go_simp⟩) hHeld ?_
      try dsimp only
      try simp only [Act.put, List.getElem_toArray, List.getElem_cons_zero, List.getElem_cons_succ, List.setIfInBounds_toArray, List.set_cons_zero, List.set_cons_succ]
      refine wpAnyH_ready (rs := [0]) (by kernel_rfl) (by simp) (AllReadyH.cons rfl (fun K hK => ?_) AllReadyH.nil)
      rw [if_pos (by rfl)]
      refine wp_load_row 98 (.tmp 3) rfl gs rfl _ (R6 Ak Ck (accH (l.take k))) (0, 0) _ HQ.row uR6 rfl (iR6 _ _ _ _ _ _) ?_
      refine hK.out _ _ hHeld (fun hHeld => ?_)
      clear hK K
      try dsimp only
      try simp only [Act.put, List.getElem_toArray, List.getElem_cons_zero, List.getElem_cons_succ, List.setIfInBounds_toArray, List.set_cons_zero, List.set_cons_succ]
      refine wpAnyH_ready (rs := [5]) (by kernel_rfl) (by simp) (AllReadyH.cons rfl (fun K hK => ?_) AllReadyH.nil)
      go_simp
      refine (HADD.out _ (Lib.hid HQ.bits)).mono ?_
      rintro e w1 ⟨A2, C2, rfl, hbt, hb1⟩
      replace hHeld := below_to hHeld hb1
      replace HQ := HQ.next hb1
      refine hK.out _ _ hHeld (fun hHeld => ?_)
      clear hK K
      try dsimp only
      try simp only [Act.put, List.getElem_toArray, List.getElem_cons_zero, List.getElem_cons_succ, List.setIfInBounds_toArray, List.set_cons_zero, List.set_cons_succ]
      refine wpAnyH_ready (rs := [6]) (by kernel_rfl) (by simp) (AllReadyH.cons rfl (fun K hK => ?_) AllReadyH.nil)
      rw [if_pos (by rfl)]
      refine wp_store_row 98 (.tmp 3) (.tmp 17) rfl gs (R6 A2 C2 (accH (l.take (k + 1)))) rfl rfl _ _ HQ.row (iR6 _ _ _ _ _ _) rfl (one6 _ _ _) ?_
      have HQ2 := Lib.hid (HQ.put A2 C2 (accH (l.take (k + 1))) (accN (l.take (k + 1))) hbt)
      refine hK.out _ _ HQ2.out.below (fun _ => ?_)
      clear hK K
      refine wpAnyH_done (by kernel_rfl) ?_ _
      clear HQ0 HQ hc0 hHeld HADD hbt
      go_wp2
      go_roundw
      case rel => exact ⟨k + 1, A2, C2, by omega, by go_num, HQ2.out⟩
      case measure => simp [intOf]; omega
    · have hkl : l.take k = l := List.take_of_length_le (by have := hlen.out; omega)
      rw [hkl] at HQ0
      go_wp2_with (first
        | (refine wpList_load_row rfl 98 (.tmp 3) rfl gs rfl _ (R6 Ak Ck (accH l)) (0, 0) _ HQ0.out.row uR6 rfl (iR6 _ _ _ _ _ _) ?_)
        | (refine wpList_store_row rfl 98 (.tmp 2) (.tmp 18) rfl w.heap.size (R6 Ak Ck (accH l)) rfl rfl _ _ HQ0.out.res (iR6 _ _ _ _ _ _) rfl (one6 _ _ _) ?_))
      have hb2 : BitAt (wr.setRow w.heap.size (R6 Ak Ck (accH l))) Ak (accN l) := bits_apart HQ0.out.bits HQ0.out.res zero6_not (kept_setRowQ _ _ _)
      exact post_row 2 98 Try.results50 rfl w.heap.size 98 _ (0, 0) _ rfl (setRow_heap _ _ _ _ _ _ HQ0.out.res) uR6 rfl (iR6 _ _ _ _ _ _) ⟨Ak, Ck, rfl, hb2, below_setRow HQ0.out.below (Nat.le_refl _) _⟩
end Go.Proofs.Ytljelocomjbanaa

set_option linter.unusedSimpArgs false
set_option linter.unusedVariables false
set_option maxRecDepth 100000
namespace Go.Proofs.Ytljelocomjbanaa
open Go.RowKit Sm Qb
theorem inf_w (k : Int) (hk : k = 1 ∨ k = -1) : True := trivial
set_option maxHeartbeats 2000000 in
theorem rvalue_odd (A : Option Addr) (C : Nat) (c0 c1 c2 c3 c4 : Bool) (h : (c0 || c1 || c2) = true) (w : World) :
    Calls Try.prog 51 #[.agg #[.slice A 2240 C, .bool c0, .bool c1, .bool c2, .bool c3, .bool c4]] w fun e w' =>
      e = .returned (.tuple #[.float .f64 (if c0 || (c1 && c2) then 9221120237041090560 else if c1 then 9218868437227405312 else 18442240474082181120), .bool false]) ∧ Below w.heap.size w w' := by
  have HN : Hid (∀ w, Calls Try.prog 53 #[.int .u64 9221120237041090560] w fun e w' => e = .returned (.float .f64 9221120237041090560) ∧ w = w') := Lib.hid fun w => refOf_any 9221120237041090560 (by decide) w
  have HB := Lib.hid ((Below.refl w.heap.size w).alloc (Nat.le_refl _) (.cells #[.slice A 2240 C, .bool c0, .bool c1, .bool c2, .bool c3, .bool c4] 98))
  cases c0 <;> cases c1 <;> cases c2 <;> try (simp at h; done)
  all_goals
    clear h
    go_enter Try.func51, Try.ntmps51
    go_wp2_with (first
      | (go_at_call 53; (with_reducible refine (HN.out _).mono ?_); rintro e w' ⟨rfl, rfl⟩)
      | (go_at_call 84; (first | (with_reducible refine (inf_v _).mono ?_) | (with_reducible refine (inf_n _).mono ?_)); rintro e w' ⟨rfl, rfl⟩))
    go_ret2
    exact ⟨rfl, HB.out⟩
theorem has_bits : ∀ h : _root_.Fin 32, h.val.testBit 0 = decide (h.val % 2 = 1) ∧ (h.val.testBit 1 && h.val.testBit 2) = decide (h.val / 2 % 4 = 3) ∧ h.val.testBit 1 = decide (h.val / 2 % 2 = 1) ∧ h.val.testBit 2 = decide (h.val / 4 % 2 = 1) ∧ (h.val.testBit 3 && !h.val.testBit 4) = decide (h.val / 8 % 4 = 1) := by decide +kernel
theorem min_full (r : Nat) : (decide (min r 9218868437227405312 = 9218868437227405312)) = decide (9218868437227405312 ≤ r) := by
  rw [decide_eq_decide]; omega
theorem rvalue_any (A : Option Addr) (C n h : Nat) (hn : n < top) (hh : h < 32) (h8 : h = 8 → n = 0) (w : World) (HA : Hid (BitAt w A n)) :
    Calls Try.prog 51 #[.agg (R6 A C h)] w fun e w' => e = .returned (.tuple #[.float .f64 (valW n h), .bool (valO n h)]) ∧ Below w.heap.size w w' := by
  obtain ⟨t0, t12, t1, t2, t34⟩ := has_bits ⟨h, hh⟩
  simp only at t0 t12 t1 t2 t34
  unfold R6
  by_cases hodd : (h.testBit 0 || h.testBit 1 || h.testBit 2) = true
  · refine (rvalue_odd A C _ _ _ _ _ hodd w).mono ?_
    rintro e w' ⟨rfl, hb⟩
    refine ⟨tup_eq' ?_ ?_, hb⟩
    · unfold valW
      rw [t12, t0, t1]
      rw [t0, t1, t2] at hodd
      simp only [Bool.or_eq_true, decide_eq_true_eq] at hodd ⊢
      by_cases q : h % 2 = 1 ∨ h / 2 % 4 = 3
      · rw [if_pos q, if_pos q]
      · rw [if_neg q, if_neg q]
        by_cases q1 : h / 2 % 2 = 1
        · rw [if_pos q1, if_pos q1]
        · rw [if_neg q1, if_neg q1, if_pos (by omega)]
    · unfold valO
      rw [t0, t1, t2] at hodd
      simp only [Bool.or_eq_true, decide_eq_true_eq] at hodd
      by_cases q : h % 2 = 1 ∨ h / 2 % 4 = 3
      · rw [if_pos q]
      · rw [if_neg q]
        by_cases q1 : h / 2 % 2 = 1
        · rw [if_pos q1]
        · rw [if_neg q1, if_pos (by omega)]
  · have hf : h.testBit 0 = false ∧ h.testBit 1 = false ∧ h.testBit 2 = false := by
      revert hodd
      cases h.testBit 0 <;> cases h.testBit 1 <;> cases h.testBit 2 <;> simp
    obtain ⟨f0, f1, f2⟩ := hf
    rw [f0, f1, f2]
    rw [f0] at t0; rw [f1] at t1; rw [f2] at t2
    have u0 : ¬ h % 2 = 1 := of_decide_eq_false t0.symm
    have u1 : ¬ h / 2 % 2 = 1 := of_decide_eq_false t1.symm
    have u2 : ¬ h / 4 % 2 = 1 := of_decide_eq_false t2.symm
    refine (rvalue_fin A C n hn _ _ w HA (valO n h) (valW n h) (Lib.hid ?_) (Lib.hid ?_))
    · rw [Bool.and_assoc, t34]
      unfold valW
      rw [if_neg (by omega), if_neg u1, if_neg u2]
      by_cases e8 : h = 8
      · have hn0 := h8 e8
        subst hn0
        subst e8
        rw [if_pos rfl]
        have hs : sgn 0 = false := by unfold sgn; rw [decide_eq_false_iff_not]; have := top_pos; omega
        have hm : mag 0 = 0 := by unfold mag; rw [hs]; rfl
        rw [hs, hm, show rnd 0 = 0 by decide]
        simp
      · rw [if_neg e8, nearest_rnd, word_eq]
        have hz : decide (h / 8 % 4 = 1) = false := decide_eq_false (by omega)
        rw [hz, Bool.and_false, Bool.or_false]
    · rw [min_full]
      unfold valO
      rw [if_neg (by omega), if_neg u1, if_neg u2]
      by_cases e8 : h = 8
      · have hn0 := h8 e8
        subst hn0
        subst e8
        rw [if_pos rfl]
        have hs : sgn 0 = false := by unfold sgn; rw [decide_eq_false_iff_not]; have := top_pos; omega
        have hm : mag 0 = 0 := by unfold mag; rw [hs]; rfl
        rw [hm, show rnd 0 = 0 by decide]
        decide
      · rw [if_neg e8]
/-- Of minus noughts alone the sum is nought. -/
theorem acc8 (l : List Nat) : accH l = 8 → accN l = 0 := by
  have key : ∀ a b : _root_.Fin 32, (a.val ||| b.val = 8) → (b.val = 8 ∨ 24 ≤ b.val ∧ b.val ≤ 28) → b.val = 8 ∧ (a.val = 0 ∨ a.val = 8) := by decide +kernel
  have hz : ∀ l : List Nat, accH l = 0 → l = [] := fun l => by
    refine list_snoc (p := fun l => accH l = 0 → l = []) (fun _ => rfl) (fun l b _ h => ?_) l
    rw [accH_snoc] at h
    have h1 : kindB b = 0 := by
      have := @Nat.right_le_or (accH l) (kindB b); omega
    unfold kindB at h1
    exfalso
    revert h1
    repeat' split
    all_goals decide
  refine list_snoc (p := fun l => accH l = 8 → accN l = 0) (fun _ => rfl) (fun l b ih h => ?_) l
  rw [accH_snoc] at h
  have hk : kindB b = 8 ∨ 24 ≤ kindB b ∧ kindB b ≤ 28 := by
    unfold kindB
    repeat' split
    all_goals decide
  obtain ⟨h1, h2⟩ := key ⟨accH l, accH_lt l⟩ ⟨kindB b, kindB_lt b⟩ h hk
  simp only at h1 h2
  have hb : b = 9223372036854775808 := by
    unfold kindB at h1
    revert h1
    repeat' split
    all_goals first | (intro h1; assumption) | (intro h1; exact absurd h1 (by decide))
  have hu : unit b = 0 := by
    subst hb
    unfold unit
    rw [if_neg (by decide), if_pos (by decide)]
    decide +kernel
  have hn : accN l = 0 := by
    rcases h2 with h2 | h2
    · rw [hz l h2]; rfl
    · exact ih h2
  rw [accN_snoc, hn, hu]
  exact Nat.mod_eq_of_lt top_pos
end Go.Proofs.Ytljelocomjbanaa

set_option linter.unusedSimpArgs false
set_option linter.unusedVariables false
set_option maxRecDepth 8000
namespace Go.Proofs.Ytljelocomjbanaa
open Go.RowKit Go.WideShapes Col Sm Qb
theorem run_store_flT (w : World) (a : Addr) (y : Nat) (u : Value) (hc : w.cell? a = some u) (hf : w.frozen? a = false) : (store a (.float .f64 y)).run Try.prog w = .ok () (w.setCell a (.float .f64 y)) := by
  rw [run_store Try.prog w a _ _ rfl]
  simp [stored, hc, hf]
/-- The least of the first k values, and of one more. -/
structure PLo (l : List Nat) (k m : Nat) : Prop where
  mem : m ∈ l
  le : ∀ x ∈ l.take k, Fl.rank m ≤ Fl.rank x
structure PHi (l : List Nat) (k m : Nat) : Prop where
  mem : m ∈ l
  le : ∀ x ∈ l.take k, Fl.rank x ≤ Fl.rank m
theorem PLo.step {l : List Nat} {k m x : Nat} (h : PLo l k m) (hx : l[k]? = some x) : PLo l (k + 1) (if Fl.rank x < Fl.rank m then x else m) := by
  have ht : l.take (k + 1) = l.take k ++ [x] := by rw [List.take_add_one, hx]; rfl
  by_cases c : Fl.rank x < Fl.rank m
  · rw [if_pos c]
    refine ⟨List.mem_of_getElem? hx, fun y hy => ?_⟩
    rw [ht] at hy
    rcases List.mem_append.1 hy with hy | hy
    · have := h.le y hy; omega
    · have e : y = x := by simpa using hy
      subst e; exact Nat.le_refl _
  · rw [if_neg c]
    refine ⟨h.mem, fun y hy => ?_⟩
    rw [ht] at hy
    rcases List.mem_append.1 hy with hy | hy
    · exact h.le y hy
    · have e : y = x := by simpa using hy
      subst e; omega
theorem PHi.step {l : List Nat} {k m x : Nat} (h : PHi l k m) (hx : l[k]? = some x) : PHi l (k + 1) (if Fl.rank m < Fl.rank x then x else m) := by
  have ht : l.take (k + 1) = l.take k ++ [x] := by rw [List.take_add_one, hx]; rfl
  by_cases c : Fl.rank m < Fl.rank x
  · rw [if_pos c]
    refine ⟨List.mem_of_getElem? hx, fun y hy => ?_⟩
    rw [ht] at hy
    rcases List.mem_append.1 hy with hy | hy
    · have := h.le y hy; omega
    · have e : y = x := by simpa using hy
      subst e; exact Nat.le_refl _
  · rw [if_neg c]
    refine ⟨h.mem, fun y hy => ?_⟩
    rw [ht] at hy
    rcases List.mem_append.1 hy with hy | hy
    · exact h.le y hy
    · have e : y = x := by simpa using hy
      subst e; omega
theorem PLo.done {l : List Nat} {k m : Nat} (h : PLo l k m) (hk : l.length ≤ k) (hl : ∀ x ∈ l, x < 18446744073709551616) : Fl.canon m = accLo l := by
  have hne : l ≠ [] := fun e => by have := h.mem; rw [e] at this; cases this
  have hle := h.le
  rw [List.take_of_length_le hk] at hle
  exact IsLo.unique hl hl (fun _ => Iff.rfl) ⟨Fl.canon_canon m, ⟨m, h.mem, rfl⟩, fun x hx => by rw [Fl.rank_canon]; exact hle x hx⟩ (accLo_is l hne)
theorem PHi.done {l : List Nat} {k m : Nat} (h : PHi l k m) (hk : l.length ≤ k) (hl : ∀ x ∈ l, x < 18446744073709551616) : Fl.canon m = accHi l := by
  have hne : l ≠ [] := fun e => by have := h.mem; rw [e] at this; cases this
  have hle := h.le
  rw [List.take_of_length_le hk] at hle
  exact IsHi.unique hl hl (fun _ => Iff.rfl) ⟨Fl.canon_canon m, ⟨m, h.mem, rfl⟩, fun x hx => by rw [Fl.rank_canon]; exact hle x hx⟩ (accHi_is l hne)
/-- While Value runs: the result's own block, the telling so far. -/
structure RVv (w : World) (gA n X : Nat) (O : Bool) (m M : Nat) (wr : World) : Prop where
  below : Below w.heap.size w wr
  res : wr.heap[w.heap.size]? = some (.cells #[.int .u64 0, .float .f64 0, .bool false, .float .f64 0, .float .f64 0] 34 (0, 0))
  row : wr.heap[gA]? = some (.cells #[.int .u64 (n : Int), .float .f64 X, .bool O, .float .f64 m, .float .f64 M] 34 (0, 0))
  lt : w.heap.size < gA
section
variable {w wr w' : World} {gA n X m M : Nat} {O : Bool}
theorem RVv.next (H : RVv w gA n X O m M wr) (hb : Below wr.heap.size wr w') : RVv w gA n X O m M w' := ⟨below_to H.below hb, row_keep H.res hb, row_keep H.row hb, H.lt⟩
theorem RVv.set3 (H : RVv w gA n X O m M wr) (x : Nat) : RVv w gA n X O x M (wr.setCell ⟨gA, 3, none⟩ (.float .f64 x)) :=
  ⟨H.below.setCell (by show _ ≤ gA; have := H.lt; omega) _, (Below.heap_setCell _ _ _ _ (by show _ ≠ gA; have := H.lt; omega)).trans H.res, row_set (cs := [.int .u64 (n : Int), .float .f64 X, .bool O, .float .f64 m, .float .f64 M]) H.row 3 _, H.lt⟩
theorem RVv.set4 (H : RVv w gA n X O m M wr) (x : Nat) : RVv w gA n X O m x (wr.setCell ⟨gA, 4, none⟩ (.float .f64 x)) :=
  ⟨H.below.setCell (by show _ ≤ gA; have := H.lt; omega) _, (Below.heap_setCell _ _ _ _ (by show _ ≠ gA; have := H.lt; omega)).trans H.res, row_set (cs := [.int .u64 (n : Int), .float .f64 X, .bool O, .float .f64 m, .float .f64 M]) H.row 4 _, H.lt⟩
theorem RVv.c3 (H : RVv w gA n X O m M wr) : wr.cell? ⟨gA, 3, none⟩ = some (.float .f64 m) ∧ wr.frozen? ⟨gA, 3, none⟩ = false := ⟨by rw [cell_of_row _ _ _ _ _ _ H.row]; rfl, row_frozen H.row 3⟩
theorem RVv.c4 (H : RVv w gA n X O m M wr) : wr.cell? ⟨gA, 4, none⟩ = some (.float .f64 M) ∧ wr.frozen? ⟨gA, 4, none⟩ = false := ⟨by rw [cell_of_row _ _ _ _ _ _ H.row]; rfl, row_frozen H.row 4⟩
end
set_option maxHeartbeats 1000000 in
theorem refVal_nil (a : Option Addr) (cap : Nat) (w : World) : Calls Try.prog 19 #[.slice a 0 cap] w (TelEnds w ⟨0, 0, false, 0, 0⟩) := by
  go_enter Try.func19, Try.ntmps19
  go_wp2_with (refine wpList_store_row rfl 34 (.tmp 2) (.tmp 10) rfl w.heap.size #[.int .u64 0, .float .f64 0, .bool false, .float .f64 0, .float .f64 0] rfl rfl _ _ (heap_alloc_new' w _) (iA _ _ _ _ _) rfl (by simp [Value.oneCell']) ?_)
  exact post_row 2 34 Try.results19 rfl w.heap.size 34 _ (0, 0) _ rfl (setRow_heap _ _ _ _ _ _ (heap_alloc_new' w _)) uA rfl (iA _ _ _ _ _) ⟨rfl, below_setRow ((Below.refl _ _).alloc (Nat.le_refl _) _) (Nat.le_refl _) _⟩

set_option maxHeartbeats 8000000 in
theorem refVal_cons (a : Option Addr) (l : List Nat) (n cap : Nat) (hlen : Hid (n = l.length)) (h0 : 0 < n) (hn : n ≤ 1000000) (w : World) (HA : Hid (FlAt w a l)) :
    Calls Try.prog 19 #[.slice a n cap] w (TelEnds w ⟨n, valW (accN l) (accH l), valO (accN l) (accH l), accLo l, accHi l⟩) := by
  have HLTS : Hid (∀ x ∈ l, x < 18446744073709551616) := Lib.hid fun x hx => by
    obtain ⟨k, hk⟩ := List.getElem?_of_mem hx
    exact (HA.out k x hk).1
  have hnz : ((n : Int) == 0) = false := by rw [beq_eq_false_iff_ne]; omega
  have hnw : IntKind.u64.wrap (n : Int) = (n : Int) := by rw [IntKind.wrap_u64]; omega
  obtain ⟨x0, hx0⟩ : ∃ x0, l[0]? = some x0 := ⟨l[0]'(by have := hlen.out; omega), List.getElem?_eq_getElem _⟩
  obtain ⟨-, ga, off, rfl, hga, hc0⟩ := HA.out 0 x0 hx0
  replace hc0 : w.cell? ⟨ga, off, none⟩ = some (.float .f64 x0) := by simpa using hc0
  have HM0 : Hid (PLo l 0 x0 ∧ PHi l 0 x0) := Lib.hid ⟨⟨List.mem_of_getElem? hx0, fun x hx => by simp at hx⟩, ⟨List.mem_of_getElem? hx0, fun x hx => by simp at hx⟩⟩
  have HOF := Lib.hid fun (w1 : World) (hb : Below w.heap.size w w1) => refOf_any2 (some ⟨ga, off, none⟩) l n cap hlen hn w1 (Lib.hid (HA.out.keep hb))
  have HVA := Lib.hid fun (A : Option Addr) (C : Nat) (w1 : World) (hb : Hid (BitAt w1 A (accN l))) => rvalue_any A C (accN l) (accH l) (accN_lt l) (accH_lt l) (acc8 l) w1 hb
  have HXK : Hid (valW (accN l) (accH l) < 18446744073709551616) := Lib.hid (valW_lt _ _)
  have HXD : Hid (∀ m M, PLo l n m → PHi l n M → Fl.canon m = accLo l ∧ Fl.canon M = accHi l) := Lib.hid fun m M h1 h2 => ⟨h1.done (by have := hlen.out; omega) HLTS.out, h2.done (by have := hlen.out; omega) HLTS.out⟩
  generalize valW (accN l) (accH l) = X at *
  generalize valO (accN l) (accH l) = O at *
  have hb0 : Below w.heap.size w (w.alloc (.cells #[.int .u64 0, .float .f64 0, .bool false, .float .f64 0, .float .f64 0] 34)) := (Below.refl _ _).alloc (Nat.le_refl _) _
  have HB0 := Lib.hid hb0
  clear hb0 hx0
  go_enter Try.func19, Try.ntmps19
  go_upto_region 4 with (first
    | (go_at_call 50; refine (HOF.out _ HB0.out).mono ?_; rintro e w1 ⟨Ab, Cb, rfl, hbt, hb1⟩; have HBT := Lib.hid hbt; have HB1 := Lib.hid (below_to HB0.out hb1); have HR1 := Lib.hid (row_keep (heap_alloc_new' w _) hb1); clear hbt hb1)
    | (go_at_call 51; (with_reducible refine (HVA.out Ab Cb _ HBT).mono ?_); rintro e w2 ⟨rfl, hb2⟩; have HB2 := Lib.hid (below_to HB1.out hb2); have HRS := Lib.hid (row_keep HR1.out hb2); clear hb2))
  have HLT : Hid (w.heap.size < w2.heap.size) := Lib.hid (Array.getElem?_eq_some_iff.1 HRS.out).1
  refine wp_region_held_drew (S := Below w.heap.size w) (by kernel_rfl) HB2.out.drew (fun hHeld => ?_)
  refine wpAnyH_take (i := 0) (v := .slice (some ⟨ga, off, none⟩) n cap) rfl (by kernel_rfl) (by kernel_rfl) (by kernel_rfl) (fun _ _ _ h => h) (Or.inl ⟨by rfl, fun _ _ => rfl⟩) hHeld ?_
  try dsimp only
  try simp only [Act.put, List.getElem_toArray, List.getElem_cons_zero, List.getElem_cons_succ, List.setIfInBounds_toArray, List.set_cons_zero, List.set_cons_succ]
  refine wpAnyH_take (i := 3) (v := .float .f64 X) rfl (by kernel_rfl) (by kernel_rfl) (by kernel_rfl) (fun _ _ _ h => h) (Or.inl ⟨by rfl, fun _ _ => rfl⟩) hHeld ?_
  try dsimp only
  try simp only [Act.put, List.getElem_toArray, List.getElem_cons_zero, List.getElem_cons_succ, List.setIfInBounds_toArray, List.set_cons_zero, List.set_cons_succ]
  refine wpAnyH_take (i := 4) (v := .bool O) rfl (by kernel_rfl) (by kernel_rfl) (by kernel_rfl) (fun _ _ _ h => h) (Or.inl ⟨by rfl, fun _ _ => rfl⟩) hHeld ?_
  try dsimp only
  try simp only [Act.put, List.getElem_toArray, List.getElem_cons_zero, List.getElem_cons_succ, List.setIfInBounds_toArray, List.set_cons_zero, List.set_cons_succ]
  refine wpAnyH_take (i := 5) (v := .slice (some ⟨ga, off, none⟩) n cap) rfl (by kernel_rfl) (by kernel_rfl) (by kernel_rfl) (fun _ _ _ h => h) (Or.inl ⟨by rfl, fun _ _ => rfl⟩) hHeld ?_
  try dsimp only
  try simp only [Act.put, List.getElem_toArray, List.getElem_cons_zero, List.getElem_cons_succ, List.setIfInBounds_toArray, List.set_cons_zero, List.set_cons_succ]
  refine wpAnyH_take (i := 8) (v := .slice (some ⟨ga, off, none⟩) n cap) rfl (by kernel_rfl) (by kernel_rfl) (by kernel_rfl) (fun _ _ _ h => h) (Or.inl ⟨by rfl, fun _ _ => rfl⟩) hHeld ?_
  try dsimp only
  try simp only [Act.put, List.getElem_toArray, List.getElem_cons_zero, List.getElem_cons_succ, List.setIfInBounds_toArray, List.set_cons_zero, List.set_cons_succ]
  refine wpAnyH_take (i := 1) (v := .int .i64 (n : Int)) rfl (by kernel_rfl) (by kernel_rfl) (by kernel_rfl) (fun _ _ _ h => h) (Or.inl ⟨by rfl, fun w _ => by go_simp⟩) hHeld ?_
  try dsimp only
  try simp only [Act.put, List.getElem_toArray, List.getElem_cons_zero, List.getElem_cons_succ, List.setIfInBounds_toArray, List.set_cons_zero, List.set_cons_succ]
  refine wpAnyH_take (i := 2) (v := .int .u64 (n : Int)) rfl (by kernel_rfl) (by kernel_rfl) (by kernel_rfl) (fun _ _ _ h => h) (Or.inl ⟨by rfl, fun w _ => by have := hnw; go_simp⟩) hHeld ?_
  try dsimp only
  try simp only [Act.put, List.getElem_toArray, List.getElem_cons_zero, List.getElem_cons_succ, List.setIfInBounds_toArray, List.set_cons_zero, List.set_cons_succ]
  refine wpAnyH_take (i := 6) (v := .pointer (some ⟨ga, off, none⟩)) rfl (by kernel_rfl) (by kernel_rfl) (by kernel_rfl) (fun _ _ _ h => h) (Or.inl ⟨by rfl, fun w _ => by go_simp⟩) hHeld ?_
  try dsimp only
  try simp only [Act.put, List.getElem_toArray, List.getElem_cons_zero, List.getElem_cons_succ, List.setIfInBounds_toArray, List.set_cons_zero, List.set_cons_succ]
  refine wpAnyH_take (i := 9) (v := .pointer (some ⟨ga, off, none⟩)) rfl (by kernel_rfl) (by kernel_rfl) (by kernel_rfl) (fun _ _ _ h => h) (Or.inl ⟨by rfl, fun w _ => by go_simp⟩) hHeld ?_
  try dsimp only
  try simp only [Act.put, List.getElem_toArray, List.getElem_cons_zero, List.getElem_cons_succ, List.setIfInBounds_toArray, List.set_cons_zero, List.set_cons_succ]
  refine wpAnyH_take (i := 7) (v := .float .f64 x0) rfl (by kernel_rfl) (by kernel_rfl) (by kernel_rfl) (fun _ _ _ h => h) (Or.inl ⟨by rfl, fun w hw => by have hc : w.cell? ⟨ga, off, none⟩ = some (.float .f64 x0) := (hw.cell (p := ⟨ga, off, none⟩) hga).trans hc0; go_simp⟩) hHeld ?_
  try dsimp only
  try simp only [Act.put, List.getElem_toArray, List.getElem_cons_zero, List.getElem_cons_succ, List.setIfInBounds_toArray, List.set_cons_zero, List.set_cons_succ]
  refine wpAnyH_take (i := 10) (v := .float .f64 x0) rfl (by kernel_rfl) (by kernel_rfl) (by kernel_rfl) (fun _ _ _ h => h) (Or.inl ⟨by rfl, fun w hw => by have hc : w.cell? ⟨ga, off, none⟩ = some (.float .f64 x0) := (hw.cell (p := ⟨ga, off, none⟩) hga).trans hc0; go_simp⟩) hHeld ?_
  try dsimp only
  try simp only [Act.put, List.getElem_toArray, List.getElem_cons_zero, List.getElem_cons_succ, List.setIfInBounds_toArray, List.set_cons_zero, List.set_cons_succ]
  refine wpAnyH_take (i := 11) (v := .agg #[.int .u64 (n : Int), .float .f64 X, .bool O, .float .f64 x0, .float .f64 x0]) rfl (by kernel_rfl) (by kernel_rfl) (by kernel_rfl) (fun _ _ _ h => h) (Or.inl ⟨by rfl, fun w _ => by go_simp⟩) hHeld ?_
  try dsimp only
  try simp only [Act.put, List.getElem_toArray, List.getElem_cons_zero, List.getElem_cons_succ, List.setIfInBounds_toArray, List.set_cons_zero, List.set_cons_succ]
  refine wpAnyH_ready (rs := [12]) (by kernel_rfl) (by simp) (AllReadyH.cons rfl (fun K hK => ?_) AllReadyH.nil)
  go_simp
  have hA : Below w.heap.size w (w2.drew.alloc (.cells #[.int .u64 0, .float .f64 0, .bool false, .float .f64 0, .float .f64 0] 34)) := HB2.out.drew.alloc HB2.out.drew.size _
  refine hK.out _ _ hA (fun hHeld => ?_)
  clear hK K
  try dsimp only
  try simp only [Act.put, List.getElem_toArray, List.getElem_cons_zero, List.getElem_cons_succ, List.setIfInBounds_toArray, List.set_cons_zero, List.set_cons_succ]
  refine wpAnyH_ready (rs := [13]) (by kernel_rfl) (by simp) (AllReadyH.cons rfl (fun K hK => ?_) AllReadyH.nil)
  rw [if_pos (by rfl)]
  refine wp_store_row 34 (.tmp 5) (.tmp 28) rfl w2.heap.size #[.int .u64 (n : Int), .float .f64 X, .bool O, .float .f64 x0, .float .f64 x0] rfl rfl _ _ (heap_alloc_new' w2.drew _) (iA _ _ _ _ _) rfl (by simp [Value.oneCell']) ?_
  have HV0 : Hid (RVv w w2.heap.size n X O x0 x0 ((w2.drew.alloc (.cells #[.int .u64 0, .float .f64 0, .bool false, .float .f64 0, .float .f64 0] 34)).setRow w2.heap.size #[.int .u64 (n : Int), .float .f64 X, .bool O, .float .f64 x0, .float .f64 x0])) := Lib.hid ⟨below_setRow hA HB2.out.size _, (setRow_other _ _ _ _ (Nat.ne_of_lt HLT.out)).trans (row_keep HRS.out ((Below.refl _ _).drew.alloc (Nat.le_refl _) _)), setRow_heap _ _ _ _ _ _ (heap_alloc_new' w2.drew _), HLT.out⟩
  refine hK.out _ _ HV0.out.below (fun _ => ?_)
  clear hK K
  refine wpAnyH_done (by kernel_rfl) ?_ _
  clear hHeld hA HB2 HRS HR1 HB1 HBT HOF HVA HB0 hc0
  obtain ⟨gA, hgA⟩ : ∃ gA, gA = w2.heap.size := ⟨_, rfl⟩
  rw [← hgA] at HV0 HLT ⊢
  generalize World.setRow _ _ _ = w3 at *
  clear hgA
  go_wp2_with fail
  go_loopw [6] (fun i wr => ∃ (k m M : Nat), k ≤ n ∧ i = .int .i64 (k : Int) ∧ RVv w gA n X O m M wr ∧ PLo l k m ∧ PHi l k M) (fun i _ => n - (intOf i).toNat)
  case atStart => exact ⟨0, x0, x0, by omega, rfl, HV0.out, HM0.out.1, HM0.out.2⟩
  case round =>
    clear HV0 HM0
    obtain ⟨k, m, M, hk, rfl, hv, hpl, hph⟩ := hrel
    have HV := Lib.hid hv
    by_cases hlt : k < n
    · obtain ⟨x, hx⟩ : ∃ x, l[k]? = some x := ⟨l[k]'(by have := hlen.out; omega), List.getElem?_eq_getElem _⟩
      obtain ⟨hx64, ga', off', e, -, hck0⟩ := HA.out k x hx
      injection e with e; injection e with e1 e2
      subst e1; subst e2
      have HCK := Lib.hid hck0
      have hm64 : m < 18446744073709551616 := HLTS.out m hpl.mem
      have hM64 : M < 18446744073709551616 := HLTS.out M hph.mem
      have HPL := Lib.hid (hpl.step hx)
      have HPH := Lib.hid (hph.step hx)
      have HBF := fun w => before_any x m hx64 hm64 w
      have HBG := fun w => before_any M x hM64 hx64 w
      obtain ⟨c1, hc1⟩ : ∃ c1, c1 = decide (Fl.rank x < Fl.rank m) := ⟨_, rfl⟩
      obtain ⟨c2, hc2⟩ : ∃ c2, c2 = decide (Fl.rank M < Fl.rank x) := ⟨_, rfl⟩
      rw [← hc1] at HBF
      rw [← hc2] at HBG
      replace HPL : Hid (PLo l (k + 1) (if c1 = true then x else m)) := Lib.hid (by have h := HPL.out; rw [hc1]; simpa using h)
      replace HPH : Hid (PHi l (k + 1) (if c2 = true then x else M)) := Lib.hid (by have h := HPH.out; rw [hc2]; simpa using h)
      clear hc1 hc2 hv hpl hph hck0 hx hx64 hm64 hM64
      have hkI : (k : Int) < (n : Int) := by omega
      go_upto_region 8 with fail
      refine wp_region_held_drew (S := RVv w gA n X O m M) (by kernel_rfl) (HV.out.next (Below.refl _ _).drew) (fun hHeld => ?_)
      refine wpAnyH_take (i := 0) (v := .slice (some ⟨ga, off, none⟩) n cap) rfl (by kernel_rfl) (by kernel_rfl) (by kernel_rfl) (fun _ _ _ h => h) (Or.inl ⟨by rfl, fun _ _ => rfl⟩) hHeld ?_
      try dsimp only
      try simp only [Act.put, List.getElem_toArray, List.getElem_cons_zero, List.getElem_cons_succ, List.setIfInBounds_toArray, List.set_cons_zero, List.set_cons_succ]
      refine wpAnyH_take (i := 1) (v := .int .i64 (k : Int)) rfl (by kernel_rfl) (by kernel_rfl) (by kernel_rfl) (fun _ _ _ h => h) (Or.inl ⟨by rfl, fun _ _ => rfl⟩) hHeld ?_
      try dsimp only
      try simp only [Act.put, List.getElem_toArray, List.getElem_cons_zero, List.getElem_cons_succ, List.setIfInBounds_toArray, List.set_cons_zero, List.set_cons_succ]
      refine wpAnyH_take (i := 2) (v := .pointer (some ⟨ga, off + k, none⟩)) rfl (by kernel_rfl) (by kernel_rfl) (by kernel_rfl) (fun _ _ _ h => h) (Or.inl ⟨by rfl, fun w _ => by go_simp⟩) hHeld ?_
      try dsimp only
      try simp only [Act.put, List.getElem_toArray, List.getElem_cons_zero, List.getElem_cons_succ, List.setIfInBounds_toArray, List.set_cons_zero, List.set_cons_succ]
      refine wpAnyH_take (i := 3) (v := .float .f64 x) rfl (by kernel_rfl) (by kernel_rfl) (by kernel_rfl) (fun _ _ _ h => h) (Or.inl ⟨by rfl, fun w hw => by have hc : w.cell? ⟨ga, off + k, none⟩ = some (.float .f64 x) := (hw.below.cell (p := ⟨ga, off + k, none⟩) hga).trans HCK.out; go_simp⟩) hHeld ?_
      try dsimp only
      try simp only [Act.put, List.getElem_toArray, List.getElem_cons_zero, List.getElem_cons_succ, List.setIfInBounds_toArray, List.set_cons_zero, List.set_cons_succ]
      refine wpAnyH_take (i := 4) (v := .pointer (some ⟨gA, 3, none⟩)) rfl (by kernel_rfl) (by kernel_rfl) (by kernel_rfl) (fun _ _ _ h => h) (Or.inl ⟨by rfl, fun w _ => by first | rfl | go_simp⟩) hHeld ?_
      try dsimp only
      try simp only [Act.put, List.getElem_toArray, List.getElem_cons_zero, List.getElem_cons_succ, List.setIfInBounds_toArray, List.set_cons_zero, List.set_cons_succ]
      refine wpAnyH_take (i := 5) (v := .float .f64 m) rfl (by kernel_rfl) (by kernel_rfl) (by kernel_rfl) (fun _ _ _ h => h) (Or.inl ⟨by rfl, fun w hw => by have hc : w.cell? ⟨gA, 3, none⟩ = some (.float .f64 m) := hw.c3.1; go_simp⟩) hHeld ?_
      try dsimp only
      try simp only [Act.put, List.getElem_toArray, List.getElem_cons_zero, List.getElem_cons_succ, List.setIfInBounds_toArray, List.set_cons_zero, List.set_cons_succ]
      refine wpAnyH_ready (rs := [6]) (by kernel_rfl) (by simp) (AllReadyH.cons rfl (fun K hK => ?_) AllReadyH.nil)
      go_simp
      refine (HBF _).mono ?_
      rintro e w' ⟨rfl, rfl⟩
      refine hK.out _ _ hHeld (fun hHeld => ?_)
      clear hK K
      try dsimp only
      try simp only [Act.put, List.getElem_toArray, List.getElem_cons_zero, List.getElem_cons_succ, List.setIfInBounds_toArray, List.set_cons_zero, List.set_cons_succ]
      refine wpAnyH_done (by kernel_rfl) ?_ _
      have HW := Lib.hid (HV.out.next (Below.refl _ _).drew)
      clear HV hHeld
      generalize wr.drew = wy at *
      cases c1
      · skip
        go_upto_region 10 with fail
        refine wp_region_held_drew (S := RVv w gA n X O m M) (by kernel_rfl) (HW.out.next (Below.refl _ _).drew) (fun hHeld => ?_)
        refine wpAnyH_take (i := 0) (v := .pointer (some ⟨gA, 4, none⟩)) rfl (by kernel_rfl) (by kernel_rfl) (by kernel_rfl) (fun _ _ _ h => h) (Or.inl ⟨by rfl, fun w _ => by first | rfl | go_simp⟩) hHeld ?_
        try dsimp only
        try simp only [Act.put, List.getElem_toArray, List.getElem_cons_zero, List.getElem_cons_succ, List.setIfInBounds_toArray, List.set_cons_zero, List.set_cons_succ]
        refine wpAnyH_take (i := 1) (v := .float .f64 M) rfl (by kernel_rfl) (by kernel_rfl) (by kernel_rfl) (fun _ _ _ h => h) (Or.inl ⟨by rfl, fun w hw => by have hc : w.cell? ⟨gA, 4, none⟩ = some (.float .f64 M) := hw.c4.1; go_simp⟩) hHeld ?_
        try dsimp only
        try simp only [Act.put, List.getElem_toArray, List.getElem_cons_zero, List.getElem_cons_succ, List.setIfInBounds_toArray, List.set_cons_zero, List.set_cons_succ]
        refine wpAnyH_take (i := 2) (v := .slice (some ⟨ga, off, none⟩) n cap) rfl (by kernel_rfl) (by kernel_rfl) (by kernel_rfl) (fun _ _ _ h => h) (Or.inl ⟨by rfl, fun _ _ => rfl⟩) hHeld ?_
        try dsimp only
        try simp only [Act.put, List.getElem_toArray, List.getElem_cons_zero, List.getElem_cons_succ, List.setIfInBounds_toArray, List.set_cons_zero, List.set_cons_succ]
        refine wpAnyH_take (i := 3) (v := .int .i64 (k : Int)) rfl (by kernel_rfl) (by kernel_rfl) (by kernel_rfl) (fun _ _ _ h => h) (Or.inl ⟨by rfl, fun _ _ => rfl⟩) hHeld ?_
        try dsimp only
        try simp only [Act.put, List.getElem_toArray, List.getElem_cons_zero, List.getElem_cons_succ, List.setIfInBounds_toArray, List.set_cons_zero, List.set_cons_succ]
        refine wpAnyH_take (i := 4) (v := .pointer (some ⟨ga, off + k, none⟩)) rfl (by kernel_rfl) (by kernel_rfl) (by kernel_rfl) (fun _ _ _ h => h) (Or.inl ⟨by rfl, fun w _ => by go_simp⟩) hHeld ?_
        try dsimp only
        try simp only [Act.put, List.getElem_toArray, List.getElem_cons_zero, List.getElem_cons_succ, List.setIfInBounds_toArray, List.set_cons_zero, List.set_cons_succ]
        refine wpAnyH_take (i := 5) (v := .float .f64 x) rfl (by kernel_rfl) (by kernel_rfl) (by kernel_rfl) (fun _ _ _ h => h) (Or.inl ⟨by rfl, fun w hw => by have hc : w.cell? ⟨ga, off + k, none⟩ = some (.float .f64 x) := (hw.below.cell (p := ⟨ga, off + k, none⟩) hga).trans HCK.out; go_simp⟩) hHeld ?_
        try dsimp only
        try simp only [Act.put, List.getElem_toArray, List.getElem_cons_zero, List.getElem_cons_succ, List.setIfInBounds_toArray, List.set_cons_zero, List.set_cons_succ]
        refine wpAnyH_ready (rs := [6]) (by kernel_rfl) (by simp) (AllReadyH.cons rfl (fun K hK => ?_) AllReadyH.nil)
        go_simp
        refine (HBG _).mono ?_
        rintro e w' ⟨rfl, rfl⟩
        refine hK.out _ _ hHeld (fun hHeld => ?_)
        clear hK K
        try dsimp only
        try simp only [Act.put, List.getElem_toArray, List.getElem_cons_zero, List.getElem_cons_succ, List.setIfInBounds_toArray, List.set_cons_zero, List.set_cons_succ]
        refine wpAnyH_done (by kernel_rfl) ?_ _
        have HD := Lib.hid (HW.out.next (Below.refl _ _).drew)
        clear hHeld HW
        generalize World.drew wy = wx at *
        cases c2
        · go_wp2
          go_roundw
          case rel => exact ⟨k + 1, m, M, by omega, by go_num, HD.out, by have h := HPL.out; simpa using h, by have h := HPH.out; simpa using h⟩
          case measure => simp [intOf]; omega
        · obtain ⟨d4, f4⟩ := HD.out.c4
          have s4 := run_store_flT _ _ x _ d4 f4
          have HE := Lib.hid (HD.out.set4 x)
          have hck : wx.cell? ⟨ga, off + k, none⟩ = some (.float .f64 x) := (HD.out.below.cell (p := ⟨ga, off + k, none⟩) hga).trans HCK.out
          go_wp2
          go_roundw
          case rel => exact ⟨k + 1, m, x, by omega, by go_num, HE.out, by have h := HPL.out; simpa using h, by have h := HPH.out; simpa using h⟩
          case measure => simp [intOf]; omega
      · obtain ⟨d3, f3⟩ := HW.out.c3
        have s3 := run_store_flT _ _ x _ d3 f3
        have HW2 := Lib.hid (HW.out.set3 x)
        have hck : wy.cell? ⟨ga, off + k, none⟩ = some (.float .f64 x) := (HW.out.below.cell (p := ⟨ga, off + k, none⟩) hga).trans HCK.out
        go_upto_region 10 with fail
        refine wp_region_held_drew (S := RVv w gA n X O x M) (by kernel_rfl) (HW2.out.next (Below.refl _ _).drew) (fun hHeld => ?_)
        refine wpAnyH_take (i := 0) (v := .pointer (some ⟨gA, 4, none⟩)) rfl (by kernel_rfl) (by kernel_rfl) (by kernel_rfl) (fun _ _ _ h => h) (Or.inl ⟨by rfl, fun w _ => by first | rfl | go_simp⟩) hHeld ?_
        try dsimp only
        try simp only [Act.put, List.getElem_toArray, List.getElem_cons_zero, List.getElem_cons_succ, List.setIfInBounds_toArray, List.set_cons_zero, List.set_cons_succ]
        refine wpAnyH_take (i := 1) (v := .float .f64 M) rfl (by kernel_rfl) (by kernel_rfl) (by kernel_rfl) (fun _ _ _ h => h) (Or.inl ⟨by rfl, fun w hw => by have hc : w.cell? ⟨gA, 4, none⟩ = some (.float .f64 M) := hw.c4.1; go_simp⟩) hHeld ?_
        try dsimp only
        try simp only [Act.put, List.getElem_toArray, List.getElem_cons_zero, List.getElem_cons_succ, List.setIfInBounds_toArray, List.set_cons_zero, List.set_cons_succ]
        refine wpAnyH_take (i := 2) (v := .slice (some ⟨ga, off, none⟩) n cap) rfl (by kernel_rfl) (by kernel_rfl) (by kernel_rfl) (fun _ _ _ h => h) (Or.inl ⟨by rfl, fun _ _ => rfl⟩) hHeld ?_
        try dsimp only
        try simp only [Act.put, List.getElem_toArray, List.getElem_cons_zero, List.getElem_cons_succ, List.setIfInBounds_toArray, List.set_cons_zero, List.set_cons_succ]
        refine wpAnyH_take (i := 3) (v := .int .i64 (k : Int)) rfl (by kernel_rfl) (by kernel_rfl) (by kernel_rfl) (fun _ _ _ h => h) (Or.inl ⟨by rfl, fun _ _ => rfl⟩) hHeld ?_
        try dsimp only
        try simp only [Act.put, List.getElem_toArray, List.getElem_cons_zero, List.getElem_cons_succ, List.setIfInBounds_toArray, List.set_cons_zero, List.set_cons_succ]
        refine wpAnyH_take (i := 4) (v := .pointer (some ⟨ga, off + k, none⟩)) rfl (by kernel_rfl) (by kernel_rfl) (by kernel_rfl) (fun _ _ _ h => h) (Or.inl ⟨by rfl, fun w _ => by go_simp⟩) hHeld ?_
        try dsimp only
        try simp only [Act.put, List.getElem_toArray, List.getElem_cons_zero, List.getElem_cons_succ, List.setIfInBounds_toArray, List.set_cons_zero, List.set_cons_succ]
        refine wpAnyH_take (i := 5) (v := .float .f64 x) rfl (by kernel_rfl) (by kernel_rfl) (by kernel_rfl) (fun _ _ _ h => h) (Or.inl ⟨by rfl, fun w hw => by have hc : w.cell? ⟨ga, off + k, none⟩ = some (.float .f64 x) := (hw.below.cell (p := ⟨ga, off + k, none⟩) hga).trans HCK.out; go_simp⟩) hHeld ?_
        try dsimp only
        try simp only [Act.put, List.getElem_toArray, List.getElem_cons_zero, List.getElem_cons_succ, List.setIfInBounds_toArray, List.set_cons_zero, List.set_cons_succ]
        refine wpAnyH_ready (rs := [6]) (by kernel_rfl) (by simp) (AllReadyH.cons rfl (fun K hK => ?_) AllReadyH.nil)
        go_simp
        refine (HBG _).mono ?_
        rintro e w' ⟨rfl, rfl⟩
        refine hK.out _ _ hHeld (fun hHeld => ?_)
        clear hK K
        try dsimp only
        try simp only [Act.put, List.getElem_toArray, List.getElem_cons_zero, List.getElem_cons_succ, List.setIfInBounds_toArray, List.set_cons_zero, List.set_cons_succ]
        refine wpAnyH_done (by kernel_rfl) ?_ _
        have HD := Lib.hid (HW2.out.next (Below.refl _ _).drew)
        clear hHeld HW2
        generalize World.drew (wy.setCell ⟨gA, 3, none⟩ (.float .f64 x)) = wx at *
        cases c2
        · go_wp2
          go_roundw
          case rel => exact ⟨k + 1, x, M, by omega, by go_num, HD.out, by have h := HPL.out; simpa using h, by have h := HPH.out; simpa using h⟩
          case measure => simp [intOf]; omega
        · obtain ⟨d4, f4⟩ := HD.out.c4
          have s4 := run_store_flT _ _ x _ d4 f4
          have HE := Lib.hid (HD.out.set4 x)
          have hck : wx.cell? ⟨ga, off + k, none⟩ = some (.float .f64 x) := (HD.out.below.cell (p := ⟨ga, off + k, none⟩) hga).trans HCK.out
          go_wp2
          go_roundw
          case rel => exact ⟨k + 1, x, x, by omega, by go_num, HE.out, by have h := HPL.out; simpa using h, by have h := HPH.out; simpa using h⟩
          case measure => simp [intOf]; omega
    · obtain rfl : n = k := by omega
      obtain ⟨e1, e2⟩ := HXD.out m M hpl hph
      have HE := Lib.hid (And.intro e1 e2)
      have hm64 : m < 18446744073709551616 := HLTS.out m hpl.mem
      have hM64 : M < 18446744073709551616 := HLTS.out M hph.mem
      have HC1 : Hid (∀ w, Calls Try.prog 54 #[.float .f64 m] w fun e w' => e = .returned (.int .u64 (accLo l : Nat)) ∧ w = w') := Lib.hid fun w => by rw [← e1]; exact refBits_any m hm64 w
      have HC2 : Hid (∀ w, Calls Try.prog 54 #[.float .f64 M] w fun e w' => e = .returned (.int .u64 (accHi l : Nat)) ∧ w = w') := Lib.hid fun w => by rw [← e2]; exact refBits_any M hM64 w
      have HC3 : Hid (∀ w, Calls Try.prog 53 #[.int .u64 (accLo l : Nat)] w fun e w' => e = .returned (.float .f64 (accLo l)) ∧ w = w') := Lib.hid fun w => by
        have h := refOf_any (accLo l) (accLo_lt l HLTS.out) w
        rwa [← e1, Fl.canon_canon, e1] at h
      have HC4 : Hid (∀ w, Calls Try.prog 53 #[.int .u64 (accHi l : Nat)] w fun e w' => e = .returned (.float .f64 (accHi l)) ∧ w = w') := Lib.hid fun w => by
        have h := refOf_any (accHi l) (accHi_lt l HLTS.out) w
        rwa [← e2, Fl.canon_canon, e2] at h
      have HV1 := Lib.hid (hv.set3 (accLo l))
      obtain ⟨d3, f3⟩ := hv.c3
      have s3 := run_store_flT _ _ (accLo l) _ d3 f3
      obtain ⟨d4, f4⟩ := HV1.out.c4
      have s4 := run_store_flT _ _ (accHi l) _ d4 f4
      have HV2 := Lib.hid (HV1.out.set4 (accHi l))
      generalize accLo l = L1 at *
      generalize accHi l = L2 at *
      clear e1 e2 hpl hph hv hm64 hM64
      go_wp2_with (first
        | (go_at_call 54; (first | (with_reducible refine (HC1.out _).mono ?_) | (with_reducible refine (HC2.out _).mono ?_)); rintro e w' ⟨rfl, rfl⟩)
        | (go_at_call 53; (first | (with_reducible refine (HC3.out _).mono ?_) | (with_reducible refine (HC4.out _).mono ?_)); rintro e w' ⟨rfl, rfl⟩)
        | (refine wpList_load_row rfl 34 (.tmp 5) rfl gA rfl _ #[.int .u64 (n : Int), .float .f64 X, .bool O, .float .f64 L1, .float .f64 L2] (0, 0) _ HV2.out.row uA rfl (iA _ _ _ _ _) ?_)
        | (refine wpList_store_row rfl 34 (.tmp 2) (.tmp 69) rfl w.heap.size #[.int .u64 (n : Int), .float .f64 X, .bool O, .float .f64 L1, .float .f64 L2] rfl rfl _ _ HV2.out.res (iA _ _ _ _ _) rfl (by simp [Value.oneCell']) ?_))
      exact post_row 2 34 Try.results19 rfl w.heap.size 34 _ (0, 0) _ rfl (setRow_heap _ _ _ _ _ _ HV2.out.res) uA rfl (iA _ _ _ _ _) ⟨rfl, below_setRow HV2.out.below (Nat.le_refl _) _⟩
theorem tel_none2 : telB (telL []) ⟨0, 0, false, 0, 0⟩ = true := by
  unfold telL accLo accHi telB
  decide +kernel
theorem refVal_any (a : Option Addr) (l : List Nat) (n cap : Nat) (hlen : Hid (n = l.length)) (hn : n ≤ 1000000) (w : World) (HA : Hid (FlAt w a l)) :
    ∃ t : Tel, t.Ok ∧ telB (telL l) t = true ∧ Calls Try.prog 19 #[.slice a n cap] w (TelEnds w t) := by
  have hlt : ∀ x ∈ l, x < 18446744073709551616 := fun x hx => by
    obtain ⟨k, hk⟩ := List.getElem?_of_mem hx
    exact (HA.out k x hk).1
  by_cases h0 : n = 0
  · have hl : l = [] := List.length_eq_zero_iff.1 (by rw [← hlen.out]; exact h0)
    subst h0
    subst hl
    exact ⟨⟨0, 0, false, 0, 0⟩, ⟨by decide, by decide, by decide, by decide⟩, tel_none2, refVal_nil a cap w⟩
  · refine ⟨_, ⟨?_, ?_, ?_, ?_⟩, ?_, refVal_cons a l n cap hlen (by omega) hn w HA⟩
    · show n < _; omega
    · exact valW_lt _ _
    · exact accLo_lt l hlt
    · exact accHi_lt l hlt
    · have := hlen.out
      unfold telB telL
      simp [Fl.canon_canon, this]
end Go.Proofs.Ytljelocomjbanaa

set_option linter.unusedSimpArgs false
set_option linter.unusedVariables false
set_option maxRecDepth 8000
namespace Go.Proofs.Ytljelocomjbanaa
open Sm Qb
namespace Qb
theorem bt_lt (n i : Nat) : bt n i < 256 := Nat.mod_lt _ (by decide)
theorem bit_bt (n i j : Nat) (hj : j < 8) : bit n (8 * i + j) = bt n i / 2 ^ j % 2 := by
  unfold bit bt
  rw [show (256 : Nat) ^ i = 2 ^ (8 * i) by rw [show (256 : Nat) = 2 ^ 8 by decide, ← Nat.pow_mul], Nat.pow_add, ← Nat.div_div_eq_div_mul]
  generalize n / 2 ^ (8 * i) = x
  have h : j = 0 ∨ j = 1 ∨ j = 2 ∨ j = 3 ∨ j = 4 ∨ j = 5 ∨ j = 6 ∨ j = 7 := by omega
  rcases h with rfl | rfl | rfl | rfl | rfl | rfl | rfl | rfl <;> omega
theorem bt_step (n i k : Nat) (hk : k < 8) : bt n i % 2 ^ (k + 1) = bt n i % 2 ^ k + bit n (8 * i + k) * 2 ^ k := by
  rw [mod_bit, bit_bt n i k hk, Nat.mul_comm]; rfl
theorem bt_full (n i : Nat) : bt n i % 2 ^ 8 = bt n i := Nat.mod_eq_of_lt (bt_lt n i)
theorem bt_part (n i k : Nat) : bt n i % 2 ^ k < 256 := Nat.lt_of_le_of_lt (Nat.mod_le _ _) (bt_lt n i)
/-- Are the first k bits of byte i all s? -/
def smB (n s i : Nat) : Nat → Bool
  | 0 => true
  | k + 1 => smB n s i k && decide (bit n (8 * i + k) = s)
theorem sm_tests : ∀ (x : _root_.Fin 256) (s : _root_.Fin 2), ((((((((true && decide (x.val / 2 ^ 0 % 2 = s.val)) && decide (x.val / 2 ^ 1 % 2 = s.val)) && decide (x.val / 2 ^ 2 % 2 = s.val)) && decide (x.val / 2 ^ 3 % 2 = s.val)) && decide (x.val / 2 ^ 4 % 2 = s.val)) && decide (x.val / 2 ^ 5 % 2 = s.val)) && decide (x.val / 2 ^ 6 % 2 = s.val)) && decide (x.val / 2 ^ 7 % 2 = s.val)) = decide (x.val = 255 * s.val) := by decide +kernel
theorem smB_full (n s i : Nat) (hs : s ≤ 1) : smB n s i 8 = decide (bt n i = 255 * s) := by
  have h := sm_tests ⟨bt n i, bt_lt n i⟩ ⟨s, by omega⟩
  simp only at h
  rw [← h]
  simp only [smB]
  rw [bit_bt n i 0 (by decide), bit_bt n i 1 (by decide), bit_bt n i 2 (by decide), bit_bt n i 3 (by decide), bit_bt n i 4 (by decide), bit_bt n i 5 (by decide), bit_bt n i 6 (by decide), bit_bt n i 7 (by decide)]
theorem fl_at (n i : Nat) (h : i < 280) : (fl280 n 280)[i]? = some (bt n i) := by
  unfold fl280
  rw [List.getElem?_map, List.getElem?_range h, Option.map_some, if_pos h]
/-- The bit below byte m's, or nought. -/
def pvB (n m : Nat) : Nat := if m = 0 then 0 else bit n (8 * m - 1)
theorem sg_take (n m : Nat) (hm : m < 280) : sgB ((fl280 n 280).take m) = 255 * pvB n m := by
  cases m with
  | zero => rfl
  | succ k =>
    rw [sgB_of _ (bt n k) k (by rw [List.length_take, fl280_len]; omega) (by rw [List.getElem?_take, if_pos (by omega), fl_at n k (by omega)])]
    unfold pvB
    rw [if_neg (show ¬ (k + 1 = 0) by omega), show 8 * (k + 1) - 1 = 8 * k + 7 by omega, bit_bt n k 7 (by decide), show (2 : Nat) ^ 7 = 128 from rfl]
    have hb := bt_lt n k
    rw [Nat.mod_eq_of_lt (show bt n k / 128 < 2 by omega)]
    split <;> omega
theorem sp_bits (n m s : Nat) (hm : m < 280) (hs : bit n (8 * m + 7) = s) : spB ((fl280 n 280).take (m + 1)) = (smB n s m 8 && decide (pvB n m = s)) := by
  have hs1 : s ≤ 1 := by rw [← hs]; exact bit_le _ _
  have e : (fl280 n 280).take (m + 1) = (fl280 n 280).take m ++ [bt n m] := by rw [List.take_add_one, fl_at n m hm]; rfl
  rw [smB_full n s m hs1]
  unfold spB
  rw [e, List.getLast?_concat, List.dropLast_concat, sg_take n m hm]
  rw [bit_bt n m 7 (by decide), show (2 : Nat) ^ 7 = 128 from rfl] at hs
  have hb := bt_lt n m
  have hp : pvB n m ≤ 1 := by unfold pvB; split; · decide
                              · exact bit_le _ _
  generalize pvB n m = p at *
  generalize bt n m = x at *
  rw [Nat.mod_eq_of_lt (show x / 128 < 2 by omega)] at hs
  rw [Bool.eq_iff_iff, Bool.and_eq_true, beq_iff_eq, decide_eq_true_eq, decide_eq_true_eq]
  omega
/-- How far the bytes that the sign tells are struck off. -/
structure Stk (n s k : Nat) : Prop where
  le : k ≤ 280
  rest : strip (fl280 n 280) 280 = strip (fl280 n 280) k
  top : 0 < k → bit n (8 * k - 1) = s
theorem Stk.start (n s : Nat) (h : bit n 2239 = s) : Stk n s 280 := ⟨Nat.le_refl _, rfl, fun _ => h⟩
theorem Stk.sp {n s m : Nat} (H : Stk n s (m + 1)) : spB ((fl280 n 280).take (m + 1)) = (smB n s m 8 && decide (pvB n m = s)) :=
  sp_bits n m s (by have := H.le; omega) (by have := H.top (by omega); rw [show 8 * m + 7 = 8 * (m + 1) - 1 by omega]; exact this)
theorem Stk.on {n s m : Nat} (H : Stk n s (m + 1)) (h : (smB n s m 8 && decide (pvB n m = s)) = true) : Stk n s m := by
  have hsp := H.sp
  rw [h] at hsp
  refine ⟨by have := H.le; omega, H.rest.trans (strip_on _ (m + 1) (by omega) hsp), fun h0 => ?_⟩
  rw [Bool.and_eq_true, decide_eq_true_eq] at h
  have := h.2
  unfold pvB at this
  rw [if_neg (by omega)] at this
  exact this
theorem Stk.stop {n s m : Nat} (H : Stk n s (m + 1)) (h : (smB n s m 8 && decide (pvB n m = s)) = false) : strip (fl280 n 280) 280 = (fl280 n 280).take (m + 1) := by
  have hsp := H.sp
  rw [h] at hsp
  exact H.rest.trans (strip_end _ _ hsp)
theorem Stk.none {n s : Nat} (H : Stk n s 0) : strip (fl280 n 280) 280 = (fl280 n 280).take 0 := H.rest.trans rfl
theorem fl_next (n k : Nat) (hk : k < 280) : (fl280 n 280).take (k + 1) = (fl280 n 280).take k ++ [bt n k] := by rw [List.take_add_one, fl_at n k hk]; rfl
end Qb
end Go.Proofs.Ytljelocomjbanaa
