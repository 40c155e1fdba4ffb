/-
  The document's sums: Value of a finite sum.
-/
import Derived.Test.YtbimfopbilcdgaaQdR
import Derived.Test.YtbimfopbilcdgaaQcR
import Derived.Test.YtbimfopbilcdgaaZyQ
import Derived.Deep.DeepCutAuto
import Derived.Deep.CutBlock
set_option linter.unusedSimpArgs false
set_option linter.unusedVariables false
set_option maxRecDepth 100000
namespace Go.Proofs.Ytbimfopbilcdgaa
open Go.RowKit Sm Qb

/-- While Value runs: what is below, the struct's block, the bits at hand. -/
structure Qb.VS (w : World) (cs : Array Value) (A1 : Option Addr) (M : Nat) (wr : World) : Prop where
  below : Below w.heap.size w wr
  row : wr.heap[w.heap.size]? = some (.cells cs 158 (0, 0))
  bits : BitAt wr A1 M
theorem Qb.VS.next {w wr w' : World} {cs : Array Value} {A1 : Option Addr} {M : Nat} (H : Qb.VS w cs A1 M wr) (hb : Below wr.heap.size wr w') : Qb.VS w cs A1 M w' :=
  ⟨below_to H.below hb, row_keep H.row hb, H.bits.keep hb⟩
def Qb.Cut5 (w : World) (cs : Array Value) (M : Nat) (s : Value) (wx : World) : Prop := ∃ (g1 o1 C1 : Nat), s = .slice (some ⟨g1, o1, none⟩) 2240 C1 ∧ Qb.VS w cs (some ⟨g1, o1, none⟩) M wx
def Qb.Lp1 (M : Nat) (wx : World) (t i : Value) (wr : World) : Prop := ∃ k : Nat, k ≤ 2240 ∧ i = .int .i64 (k : Int) ∧ t = .int .i64 ((bitLen (M % 2 ^ k) : Nat) - 1 : Int) ∧ (wr = wx ∨ Below wx.heap.size wx wr)
set_option maxHeartbeats 8000000 in
theorem rvalue_fin (A : Option Addr) (C n : Nat) (hn : n < top) (c3 c4 : Bool) (w : World) (HA : Hid (BitAt w A n)) (O : Bool) (X : Nat) (HX : Hid (X = min (rnd (mag n)) 9218868437227405312 + if (sgn n || (decide (min (rnd (mag n)) 9218868437227405312 = 0) && c3 && !c4)) = true then 9223372036854775808 else 0)) (HO : Hid (O = decide (min (rnd (mag n)) 9218868437227405312 = 9218868437227405312))) :
    Calls Try.prog 96 #[.agg #[.slice A 2240 C, .bool false, .bool false, .bool false, .bool c3, .bool c4]] w fun e w' => e = .returned (.tuple #[.float .f64 X, .bool O]) ∧ Below w.heap.size w w' := by
  obtain ⟨M, hM⟩ : ∃ M, M = mag n := ⟨_, rfl⟩
  have hMt : M < top := by rw [hM]; exact mag_lt n hn
  obtain ⟨g, off, rfl, hg, hc⟩ := HA.out.get
  have hb0 : Below w.heap.size w (w.alloc (.cells #[.slice (some ⟨g, off, none⟩) 2240 C, .bool false, .bool false, .bool false, .bool c3, .bool c4] 158)) := (Below.refl _ _).alloc (Nat.le_refl _) _
  have cN : (w.alloc (.cells #[.slice (some ⟨g, off, none⟩) 2240 C, .bool false, .bool false, .bool false, .bool c3, .bool c4] 158)).cell? ⟨g, off + 2239, none⟩ = some (.int .u8 (bit n 2239 : Nat)) := (hb0.cell (p := ⟨g, off + 2239, none⟩) hg).trans (hc 2239 (by decide))
  have HV0 : Hid (Qb.VS w #[.slice (some ⟨g, off, none⟩) 2240 C, .bool false, .bool false, .bool false, .bool c3, .bool c4] (some ⟨g, off, none⟩) n (w.alloc (.cells #[.slice (some ⟨g, off, none⟩) 2240 C, .bool false, .bool false, .bool false, .bool c3, .bool c4] 158))) := Lib.hid ⟨hb0, heap_alloc_new' w _, HA.out.keep hb0⟩
  have hsg := sgn_bit n hn
  obtain ⟨s, hs⟩ : ∃ s, s = sgn n := ⟨_, rfl⟩
  rw [← hs] at hsg HX
  rw [← hM] at HX HO
  have HMG : Hid (M = if s = true then neg n else n) := Lib.hid (by rw [hM, hs]; rfl)
  have HTU := Lib.hid fun (C : Nat) (w : World) (h : Hid (BitAt w (some ⟨g, off, none⟩) n)) => rturn_any (some ⟨g, off, none⟩) C n (Nat.le_of_lt hn) w h
  have b1 := bit_le n 2239
  generalize bit n 2239 = Y at *
  clear hb0 hc hM hs HA
  have HMT := Lib.hid hMt
  clear hMt hn
  go_enter Try.func96, Try.ntmps96
  go_upto_region 9 with fail
  generalize hw0 : w.alloc _ = w0 at *
  clear hw0
  go_upto_if 37 with fail
  go_cut [5] from 13 to 146 (Qb.Cut5 w #[.slice (some ⟨g, off, none⟩) 2240 C, .bool false, .bool false, .bool false, .bool c3, .bool c4] M)
  case first =>
    cases s
    · have hY : Y = 0 := by
        have := decide_eq_false_iff_not.1 hsg.symm
        omega
      subst hY
      have HM2 : Hid (M = n) := Lib.hid (by rw [HMG.out]; rfl)
      clear hsg HMG
      go_wp2_with fail
      go_meet
      case rel => exact ⟨g, off, C, rfl, by rw [HM2.out]; exact HV0.out⟩
    · have hY : Y = 1 := of_decide_eq_true hsg.symm
      subst hY
      have HM2 : Hid (M = neg n) := Lib.hid (by rw [HMG.out]; rfl)
      clear hsg HMG
      go_wp2_with (go_at_call 124; (with_reducible refine (HTU.out _ _ (Lib.hid HV0.out.bits)).mono ?_); rintro e w1 ⟨g1, C1, rfl, hbt, hb1⟩; have HV1 := Lib.hid (HV0.out.next hb1); have HBT := Lib.hid hbt; clear hbt hb1)
      go_meet
      case rel => exact ⟨g1, 0, C1, rfl, HV1.out.below, HV1.out.row, by rw [HM2.out]; exact HBT.out⟩
  case rest =>
    obtain ⟨g1, o1, C1, rfl, hvs⟩ := hcut
    have HVS := Lib.hid hvs
    clear hvs HV0 HTU HMG cN
    obtain ⟨L, hL⟩ : ∃ L, L = bitLen M := ⟨_, rfl⟩
    have HL := Lib.hid hL
    have hL2 : L ≤ 2240 := by rw [hL]; exact len_le M HMT.out
    clear hL
    have HC : Hid (∀ (k : Nat) (wx : World), k < 2240 → Below wc.heap.size wc wx → wx.cell? ⟨g1, o1 + k, none⟩ = some (.int .u8 (bit M k : Nat))) := Lib.hid (by
      obtain ⟨g2, o2, e, hg, hc⟩ := HVS.out.bits.get
      injection e with e; injection e with e1 e2
      subst e1; subst e2
      exact fun k wx hk hb => (hb.cell (p := ⟨g1, o1 + k, none⟩) hg).trans (hc k hk))
    go_wp2_with fail
    go_loopw [6, 7] (fun t i wr => ∃ k : Nat, k ≤ 2240 ∧ i = .int .i64 (k : Int) ∧ t = .int .i64 (((bitLen (M % 2 ^ k) : Nat) : Int) - 1) ∧ wr = wc) (fun _ i _ => 2240 - (intOf i).toNat)
    case atStart => exact ⟨0, by omega, rfl, by rw [Nat.pow_zero, Nat.mod_one]; rfl, rfl⟩
    case round =>
      obtain ⟨k, hk, rfl, rfl, rfl⟩ := hrel
      by_cases hlt : k < 2240
      · have ck := HC.out k wr hlt (Below.refl _ _)
        have HLM := Lib.hid (len_mod M k)
        have bk := bit_le M k
        generalize bit M k = Y at *
        obtain ⟨B0, hB0⟩ : ∃ B0, B0 = bitLen (M % 2 ^ k) := ⟨_, rfl⟩
        rw [← hB0] at HLM ⊢
        clear hB0
        by_cases hY : Y = 1
        · subst hY
          have HLM2 : Hid (bitLen (M % 2 ^ (k + 1)) = k + 1) := Lib.hid (by rw [HLM.out, if_pos rfl])
          clear HLM
          go_wp2
          go_roundw
          case rel => exact ⟨k + 1, by omega, by go_num, by rw [HLM2.out]; go_num, by first | rfl | trivial⟩
          case measure => simp [intOf]; omega
        · have hY0 : Y = 0 := by omega
          subst hY0
          have HLM2 : Hid (bitLen (M % 2 ^ (k + 1)) = B0) := Lib.hid (by rw [HLM.out, if_neg (by decide)])
          clear HLM hY
          go_wp2
          go_roundw
          case rel => exact ⟨k + 1, by omega, by go_num, by rw [HLM2.out], by first | rfl | trivial⟩
          case measure => simp [intOf]; omega
      · have hk2 : k = 2240 := by omega
        subst hk2
        have hbl : bitLen (M % 2 ^ 2240) = L := by rw [← top_bits, Nat.mod_eq_of_lt HMT.out, HL.out]
        rw [hbl, show ((2240 : Nat) : Int) = (2240 : Int) from rfl]
        clear hbl
        obtain ⟨wa, rfl⟩ : ∃ wa, wa = wr := ⟨_, rfl⟩
        obtain ⟨LE, hLE⟩ : ∃ LE, LE = if L ≤ 53 then lo M else lowK M L 53 := ⟨_, rfl⟩
        have HLE := Lib.hid hLE
        clear hLE
        go_upto_block 2 with fail
        go_cut [8, 9] from 50 to 88 (fun s8 s9 wx => s8 = .int .u64 (LE : Nat) ∧ wx = wa)
        case first =>
          by_cases hL53 : L ≤ 53
          · have HLE2 : Hid (LE = lo M) := Lib.hid (by rw [HLE.out, if_pos hL53])
            have HE : Hid (lowK M L L = lo M) := Lib.hid (low_a M L HL.out hL53)
            have HZ : Hid (lowK M L 0 = 0) := Lib.hid (lowK_zero M L HL.out)
            go_wp2_with fail
            go_loopw [8, 9] (fun u i wr => ∃ k : Nat, k ≤ L ∧ i = .int .i64 (k : Int) ∧ u = .int .u64 (lowK M L k : Nat) ∧ wr = wa) (fun _ i _ => L - (intOf i).toNat)
            case atStart => exact ⟨0, by omega, rfl, by rw [HZ.out]; rfl, rfl⟩
            case round =>
              obtain ⟨k, hk, rfl, rfl, rfl⟩ := hrel
              by_cases hlt : k < L
              · obtain ⟨e, he⟩ : ∃ e, e = L - 1 - k := ⟨_, rfl⟩
                have HST : Hid (lowK M L (k + 1) = lowK M L k + bit M e * 2 ^ e) := Lib.hid (by rw [he]; exact lowK_a M L k hL53 hlt)
                have ck := HC.out e wr (by omega) (Below.refl _ _)
                have q0 : (0 : Int) ≤ (L : Int) - 1 - (k : Int) := by omega
                have q1 : (L : Int) - 1 - (k : Int) < 2240 := by omega
                have q3 : (k : Int) ≤ (L : Int) - 1 := by omega
                have bk := bit_le M e
                have hlow := lowK_lt M L (k + 1) HL.out hlt (by omega)
                rw [HST.out] at hlow
                have he53 : e < 53 := by omega
                have hsh : IntKind.u64.wrap (((bit M e : Nat) : Int) * 2 ^ e) = ((bit M e * 2 ^ e : Nat) : Int) := by
                  rw [Int.natCast_mul, Int.natCast_pow, IntKind.wrap_u64]
                  have : ((bit M e : Nat) : Int) * (2 : Int) ^ e = ((bit M e * 2 ^ e : Nat) : Int) := by rw [Int.natCast_mul, Int.natCast_pow]; rfl
                  rw [show ((2 : Nat) : Int) = 2 from rfl, this]
                  have h9 : bit M e * 2 ^ e < 9007199254740992 := by omega
                  generalize bit M e * 2 ^ e = z at *
                  omega
                obtain ⟨Z, hZ⟩ : ∃ Z, Z = bit M e * 2 ^ e := ⟨_, rfl⟩
                rw [← hZ] at HST hlow hsh
                generalize bit M e = Y at *
                generalize lowK M L k = P at *
                clear hZ
                rw [he] at ck hsh
                clear he he53
                go_wp2
                go_roundw
                case rel => exact ⟨k + 1, by omega, by go_num, by rw [HST.out]; go_num, by first | rfl | trivial⟩
                case measure => simp [intOf]; omega
              · obtain rfl : k = L := by omega
                rw [HE.out]
                go_wp2_with fail
                all_goals
                  go_meet
                  case rel => exact ⟨by rw [HLE2.out], rfl⟩
          · have HLE2 : Hid (LE = lowK M L 53) := Lib.hid (by rw [HLE.out, if_neg hL53])
            have HZ : Hid (lowK M L 0 = 0) := Lib.hid (lowK_zero M L HL.out)
            have hT1 : ¬ (L : Int) - 1 < 53 := by omega
            have hT2 : (53 : Int) ≤ (L : Int) - 1 := by omega
            go_wp2_with fail
            go_loopw [8, 9] (fun u i wr => ∃ k : Nat, k ≤ 53 ∧ i = .int .i64 (k : Int) ∧ u = .int .u64 (lowK M L k : Nat) ∧ wr = wa) (fun _ i _ => 53 - (intOf i).toNat)
            case atStart => exact ⟨0, by omega, rfl, by rw [HZ.out]; rfl, rfl⟩
            case round =>
              obtain ⟨k, hk, rfl, rfl, rfl⟩ := hrel
              by_cases hlt : k < 53
              · have q0 : (0 : Int) ≤ (L : Int) - 1 - (k : Int) := by omega
                have q1 : (L : Int) - 1 - (k : Int) < 2240 := by omega
                have q3 : (k : Int) ≤ (L : Int) - 1 := by omega
                by_cases h0 : k = 0
                · subst h0
                  have HST : Hid (lowK M L (0 + 1) = lowK M L 0) := Lib.hid (lowK_b0 M L HL.out hL53)
                  go_wp2
                  go_roundw
                  case rel => exact ⟨0 + 1, by omega, by go_num, by rw [HST.out], by first | rfl | trivial⟩
                  case measure => simp [intOf]
                · have h0' : 0 < k := by omega
                  obtain ⟨e, he⟩ : ∃ e, e = L - 1 - k := ⟨_, rfl⟩
                  have HST : Hid (lowK M L (k + 1) = lowK M L k + bit M e * 2 ^ (52 - k)) := Lib.hid (by rw [he]; exact lowK_b M L k HL.out hL53 hlt h0')
                  have ck := HC.out e wr (by omega) (Below.refl _ _)
                  have bk := bit_le M e
                  have hlow := lowK_lt M L (k + 1) HL.out (by omega) (by omega)
                  rw [HST.out] at hlow
                  have hsh : IntKind.u64.wrap (((bit M e : Nat) : Int) * 2 ^ (52 - k)) = ((bit M e * 2 ^ (52 - k) : Nat) : Int) := by
                    rw [Int.natCast_mul, Int.natCast_pow, IntKind.wrap_u64]
                    have : ((bit M e : Nat) : Int) * (2 : Int) ^ (52 - k) = ((bit M e * 2 ^ (52 - k) : Nat) : Int) := by rw [Int.natCast_mul, Int.natCast_pow]; rfl
                    rw [show ((2 : Nat) : Int) = 2 from rfl, this]
                    have h9 : bit M e * 2 ^ (52 - k) < 9007199254740992 := by omega
                    generalize bit M e * 2 ^ (52 - k) = z at *
                    omega
                  obtain ⟨Z, hZ⟩ : ∃ Z, Z = bit M e * 2 ^ (52 - k) := ⟨_, rfl⟩
                  rw [← hZ] at HST hlow hsh
                  generalize bit M e = Y at *
                  generalize lowK M L k = P at *
                  clear hZ
                  rw [he] at ck
                  clear he
                  have r0 : (0 : Int) ≤ 52 - (k : Int) := by omega
                  go_wp2
                  go_roundw
                  case rel => exact ⟨k + 1, by omega, by go_num, by rw [HST.out]; go_num, by first | rfl | trivial⟩
                  case measure => simp [intOf]; omega
              · obtain rfl : k = 53 := by omega
                rw [show ((53 : Nat) : Int) = (53 : Int) from rfl]
                go_wp2_with fail
                all_goals
                  go_meet
                  case rel => exact ⟨by rw [HLE2.out], rfl⟩
        case rest =>
          obtain ⟨rfl, rfl⟩ := hcut
          have HLT : Hid (lo M < 18446744073709551616) := Lib.hid (lo_lt64 M HMT.out)
          go_upto_if 90 with fail
          go_cut [8] from 89 to 96 (fun s8 wx => s8 = .int .u64 (lo M : Nat) ∧ wx = wc)
          case first =>
            by_cases hL53 : L ≤ 53
            · have HLE2 : Hid (LE = lo M) := Lib.hid (by rw [HLE.out, if_pos hL53])
              have hT2 : ¬ (53 : Int) ≤ (L : Int) - 1 := by omega
              go_wp2_with fail
              go_meet
              case rel => exact ⟨by rw [HLE2.out], rfl⟩
            · have HLE2 : Hid (LE + (L - 52) * 4503599627370496 = lo M) := Lib.hid (by rw [HLE.out, if_neg hL53]; exact low_b M L HL.out hL53)
              have hT2 : (53 : Int) ≤ (L : Int) - 1 := by omega
              have hlt := HLT.out
              rw [← HLE2.out] at hlt
              go_wp2_with fail
              go_meet
              case rel => exact ⟨by rw [← HLE2.out]; simp only [Value.int.injEq, true_and]; omega, rfl⟩
          case rest =>
            obtain ⟨rfl, rfl⟩ := hcut
            have HLO := Lib.hid (lo_le M)
            obtain ⟨R, hR⟩ : ∃ R, R = min (rnd M) 9218868437227405312 := ⟨_, rfl⟩
            have hRi : R ≤ 9218868437227405312 := by rw [hR]; exact Nat.min_le_right _ _
            have HRR := Lib.hid hR
            have HRI := Lib.hid hRi
            clear hRi
            have HUC := Lib.hid (up_cond M)
            obtain ⟨LI, hLI⟩ : ∃ LI : Int, LI = ((lo M : Nat) : Int) := ⟨_, rfl⟩
            rw [← hLI]
            rw [← hR] at HX HO
            have hLI0 : 0 ≤ LI := by omega
            have hLI1 : LI < 18446744073709551616 := by have := HLT.out; omega
            have HLI := Lib.hid hLI
            clear hLI
            have HRU := Lib.hid (rnd_up M)
            clear hR HLE
            go_upto_if 98 with fail
            go_cut [8, 10, 11] from 97 to 125 (fun s8 s10 s11 wx => s8 = .int .u64 (R : Nat) ∧ Qb.VS w #[.slice (some ⟨g, off, none⟩) 2240 C, .bool false, .bool false, .bool false, .bool c3, .bool c4] (some ⟨g1, o1, none⟩) M wx)
            case first =>
              by_cases hinf : 9218868437227405312 ≤ lo M
              · have HR2 : Hid (R = 9218868437227405312) := Lib.hid (by
                  have h1 := HRU.out
                  rw [HRR.out]; split at h1 <;> omega)
                have hI : (9218868437227405312 : Int) ≤ LI := by have := HLI.out; omega
                clear hinf
                go_wp2_with fail
                go_meet
                case rel => exact ⟨by rw [HR2.out]; rfl, HVS.out⟩
              · have hI : ¬ (9218868437227405312 : Int) ≤ LI := by have := HLI.out; omega
                have HVU : Hid (Fl.val (lo M + 1) < top) := Lib.hid (Nat.lt_of_le_of_lt (val_le_of_le (by omega)) val_inf)
                have HVL : Hid (Fl.val (lo M) < top) := Lib.hid (Nat.lt_of_le_of_lt HLO.out.1 HMT.out)
                have HW1 : Hid (∀ w, Calls Try.prog 126 #[.int .u64 LI] w (BitEnds w.heap.size w (Fl.val (lo M)))) := Lib.hid fun w => by rw [HLI.out]; exact whole_any (lo M) (by omega) w
                have HW2 : Hid (∀ w, Calls Try.prog 126 #[.int .u64 (LI + 1)] w (BitEnds w.heap.size w (Fl.val (lo M + 1)))) := Lib.hid fun w => by rw [HLI.out]; exact whole_any (lo M + 1) (by omega) w
                have HDN : Hid ((M + neg (Fl.val (lo M))) % top = M - Fl.val (lo M)) := Lib.hid (sub_top M _ HMT.out HLO.out.1)
                have HUP : Hid ((Fl.val (lo M + 1) + neg M) % top = Fl.val (lo M + 1) - M) := Lib.hid (sub_top _ M HVU.out (Nat.le_of_lt HLO.out.2))
                have HDT : Hid (M - Fl.val (lo M) < top) := Lib.hid (by have := HMT.out; omega)
                have HUT : Hid (Fl.val (lo M + 1) - M < top) := Lib.hid (by have := HVU.out; omega)
                obtain ⟨dn, hdn⟩ : ∃ dn, dn = M - Fl.val (lo M) := ⟨_, rfl⟩
                obtain ⟨up, hup⟩ : ∃ up, up = Fl.val (lo M + 1) - M := ⟨_, rfl⟩
                rw [← hdn] at HDN HDT HUC
                rw [← hup] at HUP HUT HUC
                have HR2 : Hid (R = lo M + (if rup M (drop M) = true then 1 else 0)) := Lib.hid (by
                  rw [HRR.out, HRU.out]
                  refine Nat.min_eq_left ?_
                  split <;> omega)
                rw [← HUC.out] at HR2
                generalize Fl.val (lo M) = VL at *
                generalize Fl.val (lo M + 1) = VU at *
                generalize lo M = LO at *
                clear hdn hup HLO HRU HUC HRR
                have hLO : LI < 9218868437227405312 := by omega
                clear hinf
                go_wp2_with fail
                refine (HW1.out _).mono ?_
                rintro e w1 ⟨ga, Ca, rfl, hba, hb1⟩
                have HV1 := Lib.hid (HVS.out.next hb1)
                have HA1 := Lib.hid hba
                clear hba hb1
                go_wp2_with fail
                refine (rturn_any (some ⟨ga, 0, none⟩) Ca VL (Nat.le_of_lt HVL.out) _ HA1).mono ?_
                rintro e w2 ⟨gb, Cb, rfl, hbb, hb2⟩
                have HV2 := Lib.hid (HV1.out.next hb2)
                have HB2 := Lib.hid hbb
                clear hbb hb2 HA1 HV1
                go_wp2_with fail
                refine (radd_any (some ⟨g1, o1, none⟩) (some ⟨gb, 0, none⟩) C1 Cb M (neg VL) _ (Lib.hid HV2.out.bits) HB2).mono ?_
                rw [HDN.out]
                rintro e w3 ⟨gd, Cd, rfl, hbd, hb3⟩
                have HV3 := Lib.hid (HV2.out.next hb3)
                have HD3 := Lib.hid hbd
                clear hbd hb3 HB2 HV2
                go_wp2_with fail
                refine (HW2.out _).mono ?_
                rintro e w4 ⟨ge, Ce, rfl, hbe, hb4⟩
                have HV4 := Lib.hid (HV3.out.next hb4)
                have HD4 := Lib.hid (HD3.out.keep hb4)
                have HE4 := Lib.hid hbe
                clear hbe hb4 HD3 HV3
                go_wp2_with fail
                refine (rturn_any (some ⟨g1, o1, none⟩) C1 M (Nat.le_of_lt HMT.out) _ (Lib.hid HV4.out.bits)).mono ?_
                rintro e w5 ⟨gf, Cf, rfl, hbf, hb5⟩
                have HV5 := Lib.hid (HV4.out.next hb5)
                have HD5 := Lib.hid (HD4.out.keep hb5)
                have HE5 := Lib.hid (HE4.out.keep hb5)
                have HF5 := Lib.hid hbf
                clear hbf hb5 HD4 HE4 HV4
                go_wp2_with fail
                refine (radd_any (some ⟨ge, 0, none⟩) (some ⟨gf, 0, none⟩) Ce Cf VU (neg M) _ HE5 HF5).mono ?_
                rw [HUP.out]
                rintro e w6 ⟨gu, Cu, rfl, hbu, hb6⟩
                have HV6 := Lib.hid (HV5.out.next hb6)
                have HD6 := Lib.hid (HD5.out.keep hb6)
                have HU6 := Lib.hid hbu
                clear hbu hb6 HD5 HE5 HF5 HV5
                have HAB1 := Lib.hid fun (w : World) (h1 : Hid (BitAt w (some ⟨gd, 0, none⟩) dn)) (h2 : Hid (BitAt w (some ⟨gu, 0, none⟩) up)) => above_any (some ⟨gd, 0, none⟩) (some ⟨gu, 0, none⟩) Cd Cu dn up HDT.out HUT.out w h1 h2
                have HAB2 := Lib.hid fun (w : World) (h1 : Hid (BitAt w (some ⟨gd, 0, none⟩) dn)) (h2 : Hid (BitAt w (some ⟨gu, 0, none⟩) up)) => above_any (some ⟨gu, 0, none⟩) (some ⟨gd, 0, none⟩) Cu Cd up dn HUT.out HDT.out w h2 h1
                generalize decide (up < dn) = b1' at *
                generalize decide (dn < up) = b2' at *
                obtain ⟨p3, hp3⟩ : ∃ p3, p3 = decide (LO % 2 = 1) := ⟨_, rfl⟩
                rw [← hp3] at HR2
                have hpI : (LI % 2 == 1) = p3 := by rw [hp3, Bool.eq_iff_iff, beq_iff_eq, decide_eq_true_eq]; have := HLI.out; omega
                clear hp3 hI
                cases b1' <;> cases b2' <;> cases p3
                all_goals
                  go_wp2_with (go_at_call 127; first
                    | (with_reducible refine (HAB1.out _ HD6 HU6).mono ?_; rintro e w7 ⟨rfl, hb7⟩; have HV7 := Lib.hid (HV6.out.next hb7); have HD7 := Lib.hid (HD6.out.keep hb7); have HU7 := Lib.hid (HU6.out.keep hb7); clear hb7)
                    | (with_reducible refine (HAB2.out _ HD7 HU7).mono ?_; rintro e w8 ⟨rfl, hb8⟩; have HV8 := Lib.hid (HV7.out.next hb8); clear hb8))
                  go_meet
                  case rel => exact ⟨by have h2 := HR2.out; have h3 := HLI.out; simp at h2; simp only [Value.int.injEq, true_and]; omega, by first | exact HV8.out | exact HV7.out⟩
            case rest =>
              obtain ⟨rfl, hvs⟩ := hcut
              have HV := Lib.hid hvs
              clear hvs
              obtain ⟨RI, hRI⟩ : ∃ RI : Int, RI = ((R : Nat) : Int) := ⟨_, rfl⟩
              rw [← hRI]
              have hR0 : 0 ≤ RI := by omega
              have hR1 : RI < 9223372036854775808 := by have := HRI.out; omega
              have hor : bits BinOp.or IntKind.u64 RI 9223372036854775808 = RI + 9223372036854775808 := by
                rw [hRI, Fl.or_sign R (by have := HRI.out; omega)]; omega
              have HRV := Lib.hid hRI
              clear hRI HVS HC HLO HUC HRU HRR HLT HLI hLI0 hLI1 HL hL2
              have xf := fb_run
              have k4 : wc.cell? ⟨w.heap.size, 4, none⟩ = some (.bool c3) := by rw [cell_of_row _ _ _ _ _ _ HV.out.row]; rfl
              have k5 : wc.cell? ⟨w.heap.size, 5, none⟩ = some (.bool c4) := by rw [cell_of_row _ _ _ _ _ _ HV.out.row]; rfl
              have HO2 : Hid ((RI == 9218868437227405312) = O) := Lib.hid (by rw [HO.out, Bool.eq_iff_iff, beq_iff_eq, decide_eq_true_eq]; have := HRV.out; omega)
              cases s
              · have hY : Y = 0 := by
                  have := decide_eq_false_iff_not.1 hsg.symm
                  omega
                subst hY
                clear hsg
                by_cases h0 : RI = 0
                · subst h0
                  have hr0 : R = 0 := by have := HRV.out; omega
                  have HX2 : Hid (X = if (c3 && !c4) = true then 9223372036854775808 else 0) := Lib.hid (by rw [HX.out, hr0]; simp)
                  clear hr0
                  cases c3 <;> cases c4
                  all_goals
                    go_wp2
                    go_ret2
                    exact ⟨tup_eq' (by rw [HX2.out]; rfl) HO2.out, HV.out.below⟩
                · have h0b : (RI == 0) = false := by rw [beq_eq_false_iff_ne]; exact h0
                  have HX2 : Hid (X = RI.toNat) := Lib.hid (by
                    have h1 := HRV.out
                    have hr0 : ¬ R = 0 := by omega
                    rw [HX.out]; simp [hr0]; omega)
                  go_wp2
                  go_ret2
                  exact ⟨tup_eq' (by rw [HX2.out]) HO2.out, HV.out.below⟩
              · have hY : Y = 1 := of_decide_eq_true hsg.symm
                subst hY
                clear hsg
                have HX2 : Hid (X = (RI + 9223372036854775808).toNat) := Lib.hid (by
                  have h1 := HRV.out
                  rw [HX.out]; simp; omega)
                go_wp2
                go_ret2
                exact ⟨tup_eq' (by rw [HX2.out]) HO2.out, HV.out.below⟩
end Go.Proofs.Ytbimfopbilcdgaa
