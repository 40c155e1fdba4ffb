/-
  Layer column: the reader's numbers: groups, Uint, Int, Text.
-/
import Derived.Test.YtifabkbdiiolfaaDoorCrK
import Derived.Test.YtifabkbdiiolfaaDoorCpK
set_option linter.unusedSimpArgs false
set_option linter.unusedVariables false
set_option maxRecDepth 8000
namespace Go.Proofs.YtifabkbdiiolfaaDoor
open Go.RowKit Go.WideShapes Col
theorem Yes.rd {g : Nat} {w w' : World} {v : Value} {q : List Nat} {e : Ending} (h : Yes g w v q e w') : e = .returned v ∧ Hid (Rd w' g q) ∧ Hid (Kept (Only g) w w') := h
theorem andNot128 (b : Nat) (h : b < 256) : bits BinOp.andNot IntKind.u8 (b : Int) 128 = ((b % 128 : Nat) : Int) := by
 have : ∀ b : Fin 256, bits BinOp.andNot IntKind.u8 ((b : Nat) : Int) 128 = (((b : Nat) % 128 : Nat) : Int) := by decide +kernel
 exact this ⟨b, h⟩
theorem wrap_shl (c s : Nat) : IntKind.u64.wrap ((c : Int) * 2 ^ s) = ((c * 2 ^ s % 18446744073709551616 : Nat) : Int) := by
 rw [IntKind.wrap_u64, Int.natCast_emod, Int.natCast_mul, Int.natCast_pow]; rfl
theorem shift_fits (c s : Nat) : (IntKind.u64.wrap ((c : Int) * 2 ^ s) / 2 ^ s == (c : Int)) = decide (c * 2 ^ s < 18446744073709551616) := by
 rw [wrap_shl]
 have hp : 0 < 2 ^ s := Nat.two_pow_pos s
 have e : (((c * 2 ^ s % 18446744073709551616 : Nat) : Int) / 2 ^ s) = ((c * 2 ^ s % 18446744073709551616 / 2 ^ s : Nat) : Int) := by
  rw [Int.natCast_ediv, Int.natCast_pow]; rfl
 rw [e, Bool.eq_iff_iff, beq_iff_eq, decide_eq_true_eq]
 constructor
 ·intro h
  have h : c * 2 ^ s % 18446744073709551616 / 2 ^ s = c := by omega
  have h1 := Nat.div_mul_le_self (c * 2 ^ s % 18446744073709551616) (2 ^ s)
  rw [h] at h1
  have h2 := Nat.mod_lt (c * 2 ^ s) (y := 18446744073709551616) (by decide)
  omega
 ·intro h
  rw [Nat.mod_eq_of_lt h, Nat.mul_div_cancel _ hp]
theorem or_shl (acc c s : Nat) (ha : acc < 2 ^ s) (h64 : acc < 18446744073709551616) (h : c * 2 ^ s < 18446744073709551616) : bits .or .u64 (acc : Int) (IntKind.u64.wrap ((c : Int) * 2 ^ s)) = ((acc + 2 ^ s * c : Nat) : Int) := by
 rw [wrap_shl, Nat.mod_eq_of_lt h, bits_or_u64_nat _ _ h64 h]
 congr 1
 rw [Nat.mul_comm c, Nat.or_comm, ← Nat.two_pow_add_eq_or_of_lt ha, Nat.add_comm]
theorem acc_next {acc c k : Nat} (ha : acc < 2 ^ (7 * k)) (hc : c < 128) : acc + 2 ^ (7 * k) * c < 2 ^ (7 * (k + 1)) := by
 rw [show 7 * (k + 1) = 7 * k + 7 by omega, Nat.pow_add]
 have : 2 ^ (7 * k) * c ≤ 2 ^ (7 * k) * 127 := Nat.mul_le_mul_left _ (by omega)
 omega
theorem fits8 {c k : Nat} (hk : k ≤ 8) (hc : c < 128) : c * 2 ^ (7 * k) < 18446744073709551616 := by
 have : 2 ^ (7 * k) ≤ 2 ^ 56 := Nat.pow_le_pow_right (by decide) (by omega)
 have h2 : c * 2 ^ (7 * k) ≤ 127 * 2 ^ 56 := Nat.mul_le_mul (by omega) this
 omega
theorem fits9 {c k : Nat} (hk : k ≤ 9) (hc : c ≤ 1) : c * 2 ^ (7 * k) < 18446744073709551616 := by
 have : 2 ^ (7 * k) ≤ 2 ^ 63 := Nat.pow_le_pow_right (by decide) (by omega)
 have h2 : c * 2 ^ (7 * k) ≤ 1 * 2 ^ 63 := Nat.mul_le_mul (by omega) this
 omega
theorem acc64 {acc k : Nat} (hk : k ≤ 9) (ha : acc < 2 ^ (7 * k)) : acc < 18446744073709551616 := by
 have : 2 ^ (7 * k) ≤ 2 ^ 63 := Nat.pow_le_pow_right (by decide) (by omega)
 omega
theorem acc_w {acc c k : Nat} (hk : k ≤ 9) (ha : acc < 2 ^ (7 * k)) (hc : c < 128) (hf : c * 2 ^ (7 * k) < 18446744073709551616) : acc + 2 ^ (7 * k) * c < 18446744073709551616 := by
 by_cases h8 : k ≤ 8
 ·exact acc64 (k := k + 1) (by omega) (acc_next ha hc)
 ·have h9 : k = 9 := by omega
  subst h9
  have e : 2 ^ (7 * 9) = 9223372036854775808 := by decide
  rw [e] at ha hf ⊢
  omega
set_option maxHeartbeats 1000000 in
theorem groups_yes (g : Nat) (q r : List Nat) (n : Nat) (hq : Hid (grp 0 q = some (n, r))) (hql : q.length ≤ 9223372036854775807) (w : World) (H : Hid (Rd w g q)) :
  Calls Tryd.prog 62 #[.pointer (some ⟨g, 0, none⟩)] w (Yes g w (.int .u64 (n : Int)) r) := by
 go_enter Tryd.func62, Tryd.ntmps62
 go_wp2
 go_loopw [3, 4] (fun u s wr => ∃ (k acc : Nat) (q' : List Nat), k ≤ 9 ∧ s = .int .i64 ((7 * k : Nat) : Int) ∧ u = .int .u64 (acc : Int) ∧ acc < 2 ^ (7 * k) ∧ plus k acc (grp k q') = some (n, r) ∧ Rd wr g q' ∧ Kept (Only g) w wr) (fun _ s _ => 70 - (intOf s).toNat)
 case atStart => exact ⟨0, 0, q, by omega, rfl, rfl, by simp, by rw [plus_zero]; exact hq.out, H.out, Kept.refl _ _⟩
 case round =>
  obtain ⟨k, acc, q', hk, rfl, rfl, ha, hp, hr, hkp⟩ := hrel
  have HP := Lib.hid hp
  have HR := Lib.hid hr
  have HK := Lib.hid hkp
  clear hp hr hkp
  rcases q' with _ | ⟨b, q'⟩
  ·have := HP.out; simp [plus, grp] at this
  ·have hb : b < 256 := by obtain ⟨A, C, h⟩ := HR.out; exact h.bytes.lt b (by simp)
   have h0 := andNot128 b hb
   have hc : b % 128 < 128 := Nat.mod_lt _ (by decide)
   have hfit : (b % 128) * 2 ^ (7 * k) < 18446744073709551616 := by
    by_cases h8 : k ≤ 8
    ·exact fits8 h8 hc
    ·refine fits9 hk ?_
     have := HP.out
     rw [grp] at this
     split at this
     ·cases this
     ·omega
   have h1 := (shift_fits (b % 128) (7 * k)).trans (decide_eq_true hfit)
   have h2 := or_shl acc (b % 128) (7 * k) ha (acc64 hk ha) hfit
   have hn := acc_next ha hc
   have hw := acc_w hk ha hc hfit
   obtain ⟨acc', hacc⟩ : ∃ x, x = acc + 2 ^ (7 * k) * (b % 128) := ⟨_, rfl⟩
   obtain ⟨c, hcc⟩ : ∃ x, x = b % 128 := ⟨_, rfl⟩
   rw [← hacc] at h2 hw hn
   rw [← hcc] at h0 h1 h2 hc
   have HC := Lib.hid hcc
   have HAC := Lib.hid hacc
   have HA := Lib.hid ha
   have HN := Lib.hid hn
   have HW := Lib.hid hw
   have hwc : IntKind.u64.wrap (c : Int) = (c : Int) := by rw [IntKind.wrap_u64]; omega
   clear ha hn hacc hcc hfit hw
   by_cases hb7 : b < 128
   ·have hb0 : ¬ (b = 0 ∧ 0 < k) := by
     rintro ⟨rfl, h⟩
     have := HP.out; rw [grp_zero h] at this; cases this
    have hbk : ¬ (9 < k ∨ (k = 9 ∧ 1 < b)) := by
     intro h
     have := HP.out; rw [grp, if_pos h] at this; cases this
    have HE : Hid (acc' = n ∧ q' = r) := Lib.hid (by
     have := HP.out
     rw [grp_end hbk hb7 hb0] at this
     simp only [plus, Option.map_some, Option.some.injEq, Prod.mk.injEq] at this
     rw [HAC.out]; exact ⟨by rw [← this.1, Nat.mod_eq_of_lt hb7], this.2⟩)
    clear hb0 hbk
    obtain ⟨rfl, rfl⟩ := HE.out
    by_cases hbz : b = 0
    ·have hkz : (7 * (k : Int) == 0) = true := by
      have : k = 0 := Nat.eq_zero_of_not_pos fun h => by
       have := HP.out; rw [hbz, grp_zero h] at this; cases this
      subst this; rfl
     have hbz' : ((b : Int) != 0) = false := by rw [hbz]; rfl
     have HB := Lib.hid hbz
     clear hbz
     go_wp2_with (first
      | (go_at_call 76; (with_reducible refine (byte_yes g b q' _ HR).mono ?_); rintro e w1 hy; obtain ⟨rfl, HR1, HK1⟩ := Yes.rd hy; clear hy)
      | (go_at_call 49; (with_reducible refine (check_true _ _).mono ?_); rintro e w2 ⟨rfl, rfl⟩))
     go_ret
     exact ⟨rfl, HR1.out, HK.out.trans HK1.out⟩
    ·have hbz' : ((b : Int) != 0) = true := by rw [bne_iff_ne]; omega
     go_wp2_with (first
      | (go_at_call 76; (with_reducible refine (byte_yes g b q' _ HR).mono ?_); rintro e w1 hy; obtain ⟨rfl, HR1, HK1⟩ := Yes.rd hy; clear hy)
      | (go_at_call 49; (with_reducible refine (check_true _ _).mono ?_); rintro e w2 ⟨rfl, rfl⟩))
     go_ret
     exact ⟨rfl, HR1.out, HK.out.trans HK1.out⟩
   ·have hk8 : k ≤ 8 := by
     rcases Nat.lt_or_ge 8 k with h | h
     ·have := HP.out; rw [grp, if_pos (by omega)] at this; cases this
     ·exact h
    have HP2 : Hid (plus (k + 1) acc' (grp (k + 1) q') = some (n, r)) := Lib.hid (by
     have := HP.out
     rwa [plus_on hk8 (by omega), ← HAC.out] at this)
    go_wp2_with (first
      | (go_at_call 76; (with_reducible refine (byte_yes g b q' _ HR).mono ?_); rintro e w1 hy; obtain ⟨rfl, HR1, HK1⟩ := Yes.rd hy; clear hy)
      | (go_at_call 49; (with_reducible refine (check_true _ _).mono ?_); rintro e w2 ⟨rfl, rfl⟩))
    go_roundw
    case rel => exact ⟨k + 1, acc', q', by omega, by go_num, rfl, HN.out, HP2.out, HR1.out, HK.out.trans HK1.out⟩
    case measure => simp [intOf]; omega
theorem shl_far (c k : Nat) (hk : 10 ≤ k) : Op.shift BinOp.shl IntKind.u64 (c : Int) IntKind.i64 (7 * (k : Int)) = pure (.int .u64 0) := by
 have hm : min (7 * (k : Int)).toNat IntKind.u64.bits = 64 := by
  have : IntKind.u64.bits = 64 := rfl
  rw [this]; omega
 unfold Op.shift
 rw [if_neg (by omega)]
 simp only [hm]
 rw [wrap_shl, Nat.mul_mod_left]; rfl
theorem shr_far (k : Nat) (hk : 10 ≤ k) : Op.shift BinOp.shr IntKind.u64 0 IntKind.i64 (7 * (k : Int)) = pure (.int .u64 0) := by
 unfold Op.shift
 rw [if_neg (by omega)]
 simp
theorem no_end {g : Nat} {w wr w' : World} (HK : Hid (Kept (Only g) w wr)) (h1 : Gone w' g) (h2 : Kept (Only g) wr w') : No g w (.panicked [gu g]) w' := ⟨rfl, h1, HK.out.trans h2⟩
set_option maxHeartbeats 2000000 in
theorem groups_no (g : Nat) (q : List Nat) (hq : Hid (grp 0 q = none)) (L : Nat) (HL : Hid (L = q.length)) (hql : L ≤ 1099511627776) (w : World) (H : Hid (Rd w g q)) :
  Calls Tryd.prog 62 #[.pointer (some ⟨g, 0, none⟩)] w (No g w) := by
 go_enter Tryd.func62, Tryd.ntmps62
 go_wp2
 go_loopw [3, 4] (fun u s wr => ∃ (k acc : Nat) (q' : List Nat), k + q'.length = L ∧ s = .int .i64 ((7 * k : Nat) : Int) ∧ u = .int .u64 (acc : Int) ∧ acc < 18446744073709551616 ∧ (k ≤ 9 → acc < 2 ^ (7 * k)) ∧ grp k q' = none ∧ Rd wr g q' ∧ Kept (Only g) w wr) (fun _ s _ => 7 * (L + 1) - (intOf s).toNat)
 case atStart => exact ⟨0, 0, q, by rw [HL.out]; omega, rfl, rfl, by simp, fun _ => by simp, hq.out, H.out, Kept.refl _ _⟩
 case round =>
  obtain ⟨k, acc, q', hk, rfl, rfl, ha, hap, hp, hr, hkp⟩ := hrel
  have HP := Lib.hid hp
  have HR := Lib.hid hr
  have HK := Lib.hid hkp
  have HKL := Lib.hid hk
  have HA := Lib.hid hap
  have HW := Lib.hid ha
  have hkL : k ≤ L := by omega
  clear hp hr hkp hk hap ha
  rcases q' with _ | ⟨b, q'⟩
  ·go_wp2_with (go_at_call 76; (with_reducible refine (byte_no g _ HR).mono ?_); rintro e w1 ⟨rfl, h1, h2⟩)
   exact ⟨rfl, no_end HK h1 h2⟩
  ·have hb : b < 256 := by obtain ⟨A, C, h⟩ := HR.out; exact h.bytes.lt b (by simp)
   have h0 := andNot128 b hb
   have hc : b % 128 < 128 := Nat.mod_lt _ (by decide)
   obtain ⟨c, hcc⟩ : ∃ x, x = b % 128 := ⟨_, rfl⟩
   rw [← hcc] at h0 hc
   have HC := Lib.hid hcc
   have hwc : IntKind.u64.wrap (c : Int) = (c : Int) := by rw [IntKind.wrap_u64]; omega
   have hkL' : k + 1 ≤ L := by have := HKL.out; simp at this; omega
   clear hcc
   by_cases h9 : k ≤ 9
   ·have h1 := shift_fits c (7 * k)
    by_cases hfit : c * 2 ^ (7 * k) < 18446744073709551616
    ·rw [decide_eq_true hfit] at h1
     have h2 := or_shl acc c (7 * k) (HA.out h9) HW.out hfit
     have HW' := Lib.hid (acc_w h9 (HA.out h9) hc hfit)
     have HN := Lib.hid (acc_next (HA.out h9) hc)
     obtain ⟨acc', hacc⟩ : ∃ x, x = acc + 2 ^ (7 * k) * c := ⟨_, rfl⟩
     rw [← hacc] at h2 HW' HN
     clear hacc
     by_cases hb7 : b < 128
     ·have hb0 : b = 0 ∧ 0 < k := by
       refine Classical.byContradiction fun h => ?_
       have hp := HP.out
       by_cases h99 : 9 < k ∨ (k = 9 ∧ 1 < b)
       ·have e : k = 9 := by omega
        rw [e] at hfit
        have := HC.out
        omega
       ·rw [grp_end h99 hb7 h] at hp; cases hp
      have hkz : (7 * (k : Int) == 0) = false := by rw [beq_eq_false_iff_ne]; omega
      have hbz' : ((b : Int) != 0) = false := by rw [hb0.1]; rfl
      have HB := Lib.hid hb0
      clear hb0 hfit
      go_wp2_with (first
      | (go_at_call 76; (with_reducible refine (byte_yes g b q' _ HR).mono ?_); rintro e w1 hy; obtain ⟨rfl, HR1, HK1⟩ := Yes.rd hy; clear hy)
      | (go_at_call 49; first
       | ((with_reducible refine (check_true _ _).mono ?_); rintro e w2 ⟨rfl, rfl⟩)
       | (obtain ⟨A, C, hR⟩ := HR1.out; (with_reducible refine (check_false g C A q' _ (Lib.hid hR)).mono ?_); rintro e w2 ⟨rfl, h1, h2⟩)))
      exact ⟨rfl, no_end HK h1 (HK1.out.trans h2)⟩
     ·have HP2 : Hid (grp (k + 1) q' = none) := Lib.hid (by
       have hp := HP.out
       by_cases h8 : k ≤ 8
       ·rw [grp_on h8 (by omega)] at hp
        rcases hg : grp (k + 1) q' with _ | p
        ·rfl
        ·rw [hg] at hp; cases hp
       ·exact grp_big _ (by omega) _)
      clear hfit
      go_wp2_with (first
      | (go_at_call 76; (with_reducible refine (byte_yes g b q' _ HR).mono ?_); rintro e w1 hy; obtain ⟨rfl, HR1, HK1⟩ := Yes.rd hy; clear hy)
      | (go_at_call 49; first
       | ((with_reducible refine (check_true _ _).mono ?_); rintro e w2 ⟨rfl, rfl⟩)
       | (obtain ⟨A, C, hR⟩ := HR1.out; (with_reducible refine (check_false g C A q' _ (Lib.hid hR)).mono ?_); rintro e w2 ⟨rfl, h1, h2⟩)))
      go_roundw
      case rel => exact ⟨k + 1, acc', q', by have := HKL.out; simp at this; omega, by go_num, rfl, HW'.out, fun _ => HN.out, HP2.out, HR1.out, HK.out.trans HK1.out⟩
      case measure => simp [intOf]; omega
    ·rw [decide_eq_false hfit] at h1
     clear hfit
     go_wp2_with (first
      | (go_at_call 76; (with_reducible refine (byte_yes g b q' _ HR).mono ?_); rintro e w1 hy; obtain ⟨rfl, HR1, HK1⟩ := Yes.rd hy; clear hy)
      | (go_at_call 49; first
       | ((with_reducible refine (check_true _ _).mono ?_); rintro e w2 ⟨rfl, rfl⟩)
       | (obtain ⟨A, C, hR⟩ := HR1.out; (with_reducible refine (check_false g C A q' _ (Lib.hid hR)).mono ?_); rintro e w2 ⟨rfl, h1, h2⟩)))
     exact ⟨rfl, no_end HK h1 (HK1.out.trans h2)⟩
   ·have s1 := shl_far c k (by omega)
    have s2 := shr_far k (by omega)
    have h2 : bits .or .u64 (acc : Int) 0 = (acc : Int) := by
     have := bits_or_u64_nat acc 0 HW.out (by decide)
     rwa [Nat.or_zero] at this
    by_cases hc0 : c = 0
    ·have h1 : ((0 : Int) == (c : Int)) = true := by rw [hc0]; rfl
     have HC0 := Lib.hid hc0
     clear hc0
     by_cases hb7 : b < 128
     ·have hb0 : b = 0 := by have := HC.out; have := HC0.out; omega
      have hkz : (7 * (k : Int) == 0) = false := by rw [beq_eq_false_iff_ne]; omega
      have hbz' : ((b : Int) != 0) = false := by rw [hb0]; rfl
      have HB := Lib.hid hb0
      clear hb0
      go_wp2_with (first
      | (go_at_call 76; (with_reducible refine (byte_yes g b q' _ HR).mono ?_); rintro e w1 hy; obtain ⟨rfl, HR1, HK1⟩ := Yes.rd hy; clear hy)
      | (go_at_call 49; first
       | ((with_reducible refine (check_true _ _).mono ?_); rintro e w2 ⟨rfl, rfl⟩)
       | (obtain ⟨A, C, hR⟩ := HR1.out; (with_reducible refine (check_false g C A q' _ (Lib.hid hR)).mono ?_); rintro e w2 ⟨rfl, h1, h2⟩)))
      exact ⟨rfl, no_end HK h1 (HK1.out.trans h2)⟩
     ·have HP2 : Hid (grp (k + 1) q' = none) := Lib.hid (grp_big _ (by omega) _)
      go_wp2_with (first
      | (go_at_call 76; (with_reducible refine (byte_yes g b q' _ HR).mono ?_); rintro e w1 hy; obtain ⟨rfl, HR1, HK1⟩ := Yes.rd hy; clear hy)
      | (go_at_call 49; first
       | ((with_reducible refine (check_true _ _).mono ?_); rintro e w2 ⟨rfl, rfl⟩)
       | (obtain ⟨A, C, hR⟩ := HR1.out; (with_reducible refine (check_false g C A q' _ (Lib.hid hR)).mono ?_); rintro e w2 ⟨rfl, h1, h2⟩)))
      go_roundw
      case rel => exact ⟨k + 1, acc, q', by have := HKL.out; simp at this; omega, by go_num, rfl, HW.out, fun h => by omega, HP2.out, HR1.out, HK.out.trans HK1.out⟩
      case measure => simp [intOf]; omega
    ·have h1 : ((0 : Int) == (c : Int)) = false := by rw [beq_eq_false_iff_ne]; omega
     go_wp2_with (first
      | (go_at_call 76; (with_reducible refine (byte_yes g b q' _ HR).mono ?_); rintro e w1 hy; obtain ⟨rfl, HR1, HK1⟩ := Yes.rd hy; clear hy)
      | (go_at_call 49; first
       | ((with_reducible refine (check_true _ _).mono ?_); rintro e w2 ⟨rfl, rfl⟩)
       | (obtain ⟨A, C, hR⟩ := HR1.out; (with_reducible refine (check_false g C A q' _ (Lib.hid hR)).mono ?_); rintro e w2 ⟨rfl, h1, h2⟩)))
     exact ⟨rfl, no_end HK h1 (HK1.out.trans h2)⟩
end Go.Proofs.YtifabkbdiiolfaaDoor
