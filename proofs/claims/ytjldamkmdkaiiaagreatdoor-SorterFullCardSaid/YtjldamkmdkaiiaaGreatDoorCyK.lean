/-
  Layer column: Try itself.
-/
import Derived.Test.YtjldamkmdkaiiaaGreatDoorGlK
import Derived.Test.YtjldamkmdkaiiaaGreatDoorCrK
import Derived.LaidEqlPtr
import Derived.Defers
set_option linter.unusedSimpArgs false
set_option linter.unusedVariables false
namespace Go.Proofs.YtjldamkmdkaiiaaGreatDoor
namespace Col
def ub (n : Nat) : List Nat := if h : n < 128 then [n] else (n % 128 + 128) :: ub (n / 128)
termination_by n
decreasing_by omega
theorem ub_lt {n : Nat} (h : n < 128) : ub n = [n] := by rw [ub, dif_pos h]
theorem ub_ge {n : Nat} (h : 128 ≤ n) : ub n = (n % 128 + 128) :: ub (n / 128) := by rw [ub, dif_neg (by omega)]
theorem ub_pos (n : Nat) : 0 < (ub n).length := by
 by_cases h : n < 128
 ·rw [ub_lt h]; simp
 ·rw [ub_ge (by omega)]; simp
theorem ub_len (k : Nat) : ∀ n : Nat, n < 2 ^ (7 * (k + 1)) → (ub n).length ≤ k + 1 := by
 induction k with
 | zero => intro n h; rw [ub_lt (by simpa using h)]; simp
 | succ k ih =>
  intro n h
  by_cases h1 : n < 128
  ·rw [ub_lt h1]; simp
  ·rw [ub_ge (by omega), List.length_cons]
   have : n / 128 < 2 ^ (7 * (k + 1)) := by
    rw [Nat.div_lt_iff_lt_mul (by decide)]
    rw [show 7 * (k + 1 + 1) = 7 * (k + 1) + 7 by omega, Nat.pow_add] at h
    exact h
   have := ih _ this
   omega
def grp : Nat → List Nat → Option (Nat × List Nat)
 | _, [] => none
 | k, b :: q => if 9 < k ∨ (k = 9 ∧ 1 < b) then none else if b < 128 then (if b = 0 ∧ 0 < k then none else some (b, q)) else (grp (k + 1) q).map fun p => (b % 128 + 128 * p.1, p.2)
theorem grp_big (k : Nat) (h : 9 < k) (q : List Nat) : grp k q = none := by
 cases q with
 | nil => rfl
 | cons b q => rw [grp, if_pos (.inl h)]
theorem grp_end {k b : Nat} {q : List Nat} (h : ¬ (9 < k ∨ (k = 9 ∧ 1 < b))) (hb : b < 128) (h0 : ¬ (b = 0 ∧ 0 < k)) : grp k (b :: q) = some (b, q) := by rw [grp, if_neg h, if_pos hb, if_neg h0]
theorem grp_zero {k : Nat} {q : List Nat} (h0 : 0 < k) : grp k (0 :: q) = none := by
 rw [grp]; split
 ·rfl
 ·rw [if_pos (by omega), if_pos ⟨rfl, h0⟩]
theorem grp_on {k b : Nat} {q : List Nat} (h : k ≤ 8) (hb : 128 ≤ b) : grp k (b :: q) = (grp (k + 1) q).map fun p => (b % 128 + 128 * p.1, p.2) := by rw [grp, if_neg (by omega), if_neg (by omega)]
def plus (k acc : Nat) (o : Option (Nat × List Nat)) : Option (Nat × List Nat) := o.map fun p => (acc + 2 ^ (7 * k) * p.1, p.2)
theorem plus_zero (o : Option (Nat × List Nat)) : plus 0 0 o = o := by
 cases o with
 | none => rfl
 | some p => simp [plus]
theorem plus_on {k acc b : Nat} {q : List Nat} (h : k ≤ 8) (hb : 128 ≤ b) : plus k acc (grp k (b :: q)) = plus (k + 1) (acc + 2 ^ (7 * k) * (b % 128)) (grp (k + 1) q) := by
 rw [grp_on h hb]
 unfold plus
 rw [Option.map_map]
 congr 1
 funext p
 have : 2 ^ (7 * (k + 1)) = 2 ^ (7 * k) * 128 := by rw [show 7 * (k + 1) = 7 * k + 7 by omega, Nat.pow_add]
 show (acc + 2 ^ (7 * k) * (b % 128 + 128 * p.1), p.2) = (acc + 2 ^ (7 * k) * (b % 128) + 2 ^ (7 * (k + 1)) * p.1, p.2)
 rw [this, Nat.mul_add, Nat.mul_assoc, Nat.add_assoc]
theorem grp_ub (r : List Nat) (n : Nat) : ∀ k, (k ≤ 9 ∧ n < 2 ^ (64 - 7 * k)) → (0 < n ∨ k = 0) → grp k (ub n ++ r) = some (n, r) := by
 induction n using Nat.strongRecOn with
 | ind n ih =>
  intro k hk h0
  have h9 : k = 9 → n ≤ 1 := fun h => by have := hk.2; rw [h] at this; simp at this; omega
  by_cases h : n < 128
  ·rw [ub_lt h]
   exact grp_end (by omega) h (by omega)
  ·have hk8 : k ≤ 8 := by omega
   rw [ub_ge (by omega), List.cons_append, grp_on hk8 (by omega), ih (n / 128) (by omega) (k + 1) ⟨by omega, ?_⟩ (by omega)]
   ·simp; omega
   ·rw [Nat.div_lt_iff_lt_mul (by decide)]
    have := hk.2
    rw [show 64 - 7 * k = (64 - 7 * (k + 1)) + 7 by omega, Nat.pow_add] at this
    exact this
theorem grp_lt (q : List Nat) : ∀ k n r, grp k q = some (n, r) → (k ≤ 9 ∧ ((∀ x ∈ q, x < 256) → n < 2 ^ (64 - 7 * k)) ∧ ∃ m, 0 < m ∧ r = q.drop m ∧ m ≤ q.length) := by
 induction q with
 | nil => intro k n r h; cases h
 | cons b q ih =>
  intro k n r h
  rw [grp] at h
  split at h
  ·cases h
  rename_i h1
  split at h
  ·split at h
   ·cases h
   ·injection h with h; injection h with h2 h3; subst h2; subst h3
    refine ⟨by omega, fun _ => ?_, 1, by omega, rfl, by simp⟩
    by_cases h9 : k = 9
    ·subst h9; simp; omega
    ·have : 2 ^ 8 ≤ 2 ^ (64 - 7 * k) := Nat.pow_le_pow_right (by decide) (by omega)
     omega
  ·rename_i h2
   rcases hg : grp (k + 1) q with _ | ⟨n', r'⟩
   ·rw [hg] at h; cases h
   ·rw [hg] at h
    simp only [Option.map_some, Option.some.injEq, Prod.mk.injEq] at h
    obtain ⟨i1, i2, m, i3, i4, i5⟩ := ih _ _ _ hg
    refine ⟨by omega, fun hx => ?_, m + 1, by omega, by rw [← h.2, i4]; rfl, by simp; omega⟩
    have i2 := i2 fun x hx' => hx x (List.mem_cons_of_mem _ hx')
    have : 2 ^ (64 - 7 * k) = 2 ^ (64 - 7 * (k + 1)) * 128 := by rw [show 64 - 7 * k = (64 - 7 * (k + 1)) + 7 by omega, Nat.pow_add]
    omega
end Col
end Go.Proofs.YtjldamkmdkaiiaaGreatDoor
set_option maxRecDepth 8000
namespace Go.Proofs.YtjldamkmdkaiiaaGreatDoor
open Go.RowKit Go.WideShapes Col
theorem Yes.rd {g : Nat} {w w' : World} {v : Value} {q : List Nat} {e : Ending} (h : Yes g w v q e w') : e = .returned v ∧ Hid (Rd w' g q) ∧ Hid (Kept (Only g) w w') := h
theorem andNot128 (b : Nat) (h : b < 256) : bits BinOp.andNot IntKind.u8 (b : Int) 128 = ((b % 128 : Nat) : Int) := by
 have : ∀ b : Fin 256, bits BinOp.andNot IntKind.u8 ((b : Nat) : Int) 128 = (((b : Nat) % 128 : Nat) : Int) := by decide +kernel
 exact this ⟨b, h⟩
theorem wrap_shl (c s : Nat) : IntKind.u64.wrap ((c : Int) * 2 ^ s) = ((c * 2 ^ s % 18446744073709551616 : Nat) : Int) := by
 rw [IntKind.wrap_u64, Int.natCast_emod, Int.natCast_mul, Int.natCast_pow]; rfl
theorem shift_fits (c s : Nat) : (IntKind.u64.wrap ((c : Int) * 2 ^ s) / 2 ^ s == (c : Int)) = decide (c * 2 ^ s < 18446744073709551616) := by
 rw [wrap_shl]
 have hp : 0 < 2 ^ s := Nat.two_pow_pos s
 have e : (((c * 2 ^ s % 18446744073709551616 : Nat) : Int) / 2 ^ s) = ((c * 2 ^ s % 18446744073709551616 / 2 ^ s : Nat) : Int) := by
  rw [Int.natCast_ediv, Int.natCast_pow]; rfl
 rw [e, Bool.eq_iff_iff, beq_iff_eq, decide_eq_true_eq]
 constructor
 ·intro h
  have h : c * 2 ^ s % 18446744073709551616 / 2 ^ s = c := by omega
  have h1 := Nat.div_mul_le_self (c * 2 ^ s % 18446744073709551616) (2 ^ s)
  rw [h] at h1
  have h2 := Nat.mod_lt (c * 2 ^ s) (y := 18446744073709551616) (by decide)
  omega
 ·intro h
  rw [Nat.mod_eq_of_lt h, Nat.mul_div_cancel _ hp]
theorem or_shl (acc c s : Nat) (ha : acc < 2 ^ s) (h64 : acc < 18446744073709551616) (h : c * 2 ^ s < 18446744073709551616) : bits .or .u64 (acc : Int) (IntKind.u64.wrap ((c : Int) * 2 ^ s)) = ((acc + 2 ^ s * c : Nat) : Int) := by
 rw [wrap_shl, Nat.mod_eq_of_lt h, bits_or_u64_nat _ _ h64 h]
 congr 1
 rw [Nat.mul_comm c, Nat.or_comm, ← Nat.two_pow_add_eq_or_of_lt ha, Nat.add_comm]
theorem acc_next {acc c k : Nat} (ha : acc < 2 ^ (7 * k)) (hc : c < 128) : acc + 2 ^ (7 * k) * c < 2 ^ (7 * (k + 1)) := by
 rw [show 7 * (k + 1) = 7 * k + 7 by omega, Nat.pow_add]
 have : 2 ^ (7 * k) * c ≤ 2 ^ (7 * k) * 127 := Nat.mul_le_mul_left _ (by omega)
 omega
theorem fits8 {c k : Nat} (hk : k ≤ 8) (hc : c < 128) : c * 2 ^ (7 * k) < 18446744073709551616 := by
 have : 2 ^ (7 * k) ≤ 2 ^ 56 := Nat.pow_le_pow_right (by decide) (by omega)
 have h2 : c * 2 ^ (7 * k) ≤ 127 * 2 ^ 56 := Nat.mul_le_mul (by omega) this
 omega
theorem fits9 {c k : Nat} (hk : k ≤ 9) (hc : c ≤ 1) : c * 2 ^ (7 * k) < 18446744073709551616 := by
 have : 2 ^ (7 * k) ≤ 2 ^ 63 := Nat.pow_le_pow_right (by decide) (by omega)
 have h2 : c * 2 ^ (7 * k) ≤ 1 * 2 ^ 63 := Nat.mul_le_mul (by omega) this
 omega
theorem acc64 {acc k : Nat} (hk : k ≤ 9) (ha : acc < 2 ^ (7 * k)) : acc < 18446744073709551616 := by
 have : 2 ^ (7 * k) ≤ 2 ^ 63 := Nat.pow_le_pow_right (by decide) (by omega)
 omega
theorem acc_w {acc c k : Nat} (hk : k ≤ 9) (ha : acc < 2 ^ (7 * k)) (hc : c < 128) (hf : c * 2 ^ (7 * k) < 18446744073709551616) : acc + 2 ^ (7 * k) * c < 18446744073709551616 := by
 by_cases h8 : k ≤ 8
 ·exact acc64 (k := k + 1) (by omega) (acc_next ha hc)
 ·have h9 : k = 9 := by omega
  subst h9
  have e : 2 ^ (7 * 9) = 9223372036854775808 := by decide
  rw [e] at ha hf ⊢
  omega
set_option maxHeartbeats 1000000 in
theorem groups_yes (g : Nat) (q r : List Nat) (n : Nat) (hq : Hid (grp 0 q = some (n, r))) (hql : q.length ≤ 9223372036854775807) (w : World) (H : Hid (Rd w g q)) :
  Calls Tryz.prog 190 #[.pointer (some ⟨g, 0, none⟩)] w (Yes g w (.int .u64 (n : Int)) r) := by
 go_enter Tryz.func190, Tryz.ntmps190
 go_wp2
 go_loopw [3, 4] (fun u s wr => ∃ (k acc : Nat) (q' : List Nat), k ≤ 9 ∧ s = .int .i64 ((7 * k : Nat) : Int) ∧ u = .int .u64 (acc : Int) ∧ acc < 2 ^ (7 * k) ∧ plus k acc (grp k q') = some (n, r) ∧ Rd wr g q' ∧ Kept (Only g) w wr) (fun _ s _ => 70 - (intOf s).toNat)
 case atStart => exact ⟨0, 0, q, by omega, rfl, rfl, by simp, by rw [plus_zero]; exact hq.out, H.out, Kept.refl _ _⟩
 case round =>
  obtain ⟨k, acc, q', hk, rfl, rfl, ha, hp, hr, hkp⟩ := hrel
  have HP := Lib.hid hp
  have HR := Lib.hid hr
  have HK := Lib.hid hkp
  clear hp hr hkp
  rcases q' with _ | ⟨b, q'⟩
  ·have := HP.out; simp [plus, grp] at this
  ·have hb : b < 256 := by obtain ⟨A, C, h⟩ := HR.out; exact h.bytes.lt b (by simp)
   have h0 := andNot128 b hb
   have hc : b % 128 < 128 := Nat.mod_lt _ (by decide)
   have hfit : (b % 128) * 2 ^ (7 * k) < 18446744073709551616 := by
    by_cases h8 : k ≤ 8
    ·exact fits8 h8 hc
    ·refine fits9 hk ?_
     have := HP.out
     rw [grp] at this
     split at this
     ·cases this
     ·omega
   have h1 := (shift_fits (b % 128) (7 * k)).trans (decide_eq_true hfit)
   have h2 := or_shl acc (b % 128) (7 * k) ha (acc64 hk ha) hfit
   have hn := acc_next ha hc
   have hw := acc_w hk ha hc hfit
   obtain ⟨acc', hacc⟩ : ∃ x, x = acc + 2 ^ (7 * k) * (b % 128) := ⟨_, rfl⟩
   obtain ⟨c, hcc⟩ : ∃ x, x = b % 128 := ⟨_, rfl⟩
   rw [← hacc] at h2 hw hn
   rw [← hcc] at h0 h1 h2 hc
   have HC := Lib.hid hcc
   have HAC := Lib.hid hacc
   have HA := Lib.hid ha
   have HN := Lib.hid hn
   have HW := Lib.hid hw
   have hwc : IntKind.u64.wrap (c : Int) = (c : Int) := by rw [IntKind.wrap_u64]; omega
   clear ha hn hacc hcc hfit hw
   by_cases hb7 : b < 128
   ·have hb0 : ¬ (b = 0 ∧ 0 < k) := by
     rintro ⟨rfl, h⟩
     have := HP.out; rw [grp_zero h] at this; cases this
    have hbk : ¬ (9 < k ∨ (k = 9 ∧ 1 < b)) := by
     intro h
     have := HP.out; rw [grp, if_pos h] at this; cases this
    have HE : Hid (acc' = n ∧ q' = r) := Lib.hid (by
     have := HP.out
     rw [grp_end hbk hb7 hb0] at this
     simp only [plus, Option.map_some, Option.some.injEq, Prod.mk.injEq] at this
     rw [HAC.out]; exact ⟨by rw [← this.1, Nat.mod_eq_of_lt hb7], this.2⟩)
    clear hb0 hbk
    obtain ⟨rfl, rfl⟩ := HE.out
    by_cases hbz : b = 0
    ·have hkz : (7 * (k : Int) == 0) = true := by
      have : k = 0 := Nat.eq_zero_of_not_pos fun h => by
       have := HP.out; rw [hbz, grp_zero h] at this; cases this
      subst this; rfl
     have hbz' : ((b : Int) != 0) = false := by rw [hbz]; rfl
     have HB := Lib.hid hbz
     clear hbz
     go_wp2_with (first
      | (go_at_call 172; (with_reducible refine (byte_yes g b q' _ HR).mono ?_); rintro e w1 hy; obtain ⟨rfl, HR1, HK1⟩ := Yes.rd hy; clear hy)
      | (go_at_call 121; (with_reducible refine (check_true _ _).mono ?_); rintro e w2 ⟨rfl, rfl⟩))
     go_ret
     exact ⟨rfl, HR1.out, HK.out.trans HK1.out⟩
    ·have hbz' : ((b : Int) != 0) = true := by rw [bne_iff_ne]; omega
     go_wp2_with (first
      | (go_at_call 172; (with_reducible refine (byte_yes g b q' _ HR).mono ?_); rintro e w1 hy; obtain ⟨rfl, HR1, HK1⟩ := Yes.rd hy; clear hy)
      | (go_at_call 121; (with_reducible refine (check_true _ _).mono ?_); rintro e w2 ⟨rfl, rfl⟩))
     go_ret
     exact ⟨rfl, HR1.out, HK.out.trans HK1.out⟩
   ·have hk8 : k ≤ 8 := by
     rcases Nat.lt_or_ge 8 k with h | h
     ·have := HP.out; rw [grp, if_pos (by omega)] at this; cases this
     ·exact h
    have HP2 : Hid (plus (k + 1) acc' (grp (k + 1) q') = some (n, r)) := Lib.hid (by
     have := HP.out
     rwa [plus_on hk8 (by omega), ← HAC.out] at this)
    go_wp2_with (first
      | (go_at_call 172; (with_reducible refine (byte_yes g b q' _ HR).mono ?_); rintro e w1 hy; obtain ⟨rfl, HR1, HK1⟩ := Yes.rd hy; clear hy)
      | (go_at_call 121; (with_reducible refine (check_true _ _).mono ?_); rintro e w2 ⟨rfl, rfl⟩))
    go_roundw
    case rel => exact ⟨k + 1, acc', q', by omega, by go_num, rfl, HN.out, HP2.out, HR1.out, HK.out.trans HK1.out⟩
    case measure => simp [intOf]; omega
theorem shl_far (c k : Nat) (hk : 10 ≤ k) : Op.shift BinOp.shl IntKind.u64 (c : Int) IntKind.i64 (7 * (k : Int)) = pure (.int .u64 0) := by
 have hm : min (7 * (k : Int)).toNat IntKind.u64.bits = 64 := by
  have : IntKind.u64.bits = 64 := rfl
  rw [this]; omega
 unfold Op.shift
 rw [if_neg (by omega)]
 simp only [hm]
 rw [wrap_shl, Nat.mul_mod_left]; rfl
theorem shr_far (k : Nat) (hk : 10 ≤ k) : Op.shift BinOp.shr IntKind.u64 0 IntKind.i64 (7 * (k : Int)) = pure (.int .u64 0) := by
 unfold Op.shift
 rw [if_neg (by omega)]
 simp
theorem no_end {g : Nat} {w wr w' : World} (HK : Hid (Kept (Only g) w wr)) (h1 : Gone w' g) (h2 : Kept (Only g) wr w') : No g w (.panicked [gu g]) w' := ⟨rfl, h1, HK.out.trans h2⟩
set_option maxHeartbeats 2000000 in
theorem groups_no (g : Nat) (q : List Nat) (hq : Hid (grp 0 q = none)) (L : Nat) (HL : Hid (L = q.length)) (hql : L ≤ 1099511627776) (w : World) (H : Hid (Rd w g q)) :
  Calls Tryz.prog 190 #[.pointer (some ⟨g, 0, none⟩)] w (No g w) := by
 go_enter Tryz.func190, Tryz.ntmps190
 go_wp2
 go_loopw [3, 4] (fun u s wr => ∃ (k acc : Nat) (q' : List Nat), k + q'.length = L ∧ s = .int .i64 ((7 * k : Nat) : Int) ∧ u = .int .u64 (acc : Int) ∧ acc < 18446744073709551616 ∧ (k ≤ 9 → acc < 2 ^ (7 * k)) ∧ grp k q' = none ∧ Rd wr g q' ∧ Kept (Only g) w wr) (fun _ s _ => 7 * (L + 1) - (intOf s).toNat)
 case atStart => exact ⟨0, 0, q, by rw [HL.out]; omega, rfl, rfl, by simp, fun _ => by simp, hq.out, H.out, Kept.refl _ _⟩
 case round =>
  obtain ⟨k, acc, q', hk, rfl, rfl, ha, hap, hp, hr, hkp⟩ := hrel
  have HP := Lib.hid hp
  have HR := Lib.hid hr
  have HK := Lib.hid hkp
  have HKL := Lib.hid hk
  have HA := Lib.hid hap
  have HW := Lib.hid ha
  have hkL : k ≤ L := by omega
  clear hp hr hkp hk hap ha
  rcases q' with _ | ⟨b, q'⟩
  ·go_wp2_with (go_at_call 172; (with_reducible refine (byte_no g _ HR).mono ?_); rintro e w1 ⟨rfl, h1, h2⟩)
   exact ⟨rfl, no_end HK h1 h2⟩
  ·have hb : b < 256 := by obtain ⟨A, C, h⟩ := HR.out; exact h.bytes.lt b (by simp)
   have h0 := andNot128 b hb
   have hc : b % 128 < 128 := Nat.mod_lt _ (by decide)
   obtain ⟨c, hcc⟩ : ∃ x, x = b % 128 := ⟨_, rfl⟩
   rw [← hcc] at h0 hc
   have HC := Lib.hid hcc
   have hwc : IntKind.u64.wrap (c : Int) = (c : Int) := by rw [IntKind.wrap_u64]; omega
   have hkL' : k + 1 ≤ L := by have := HKL.out; simp at this; omega
   clear hcc
   by_cases h9 : k ≤ 9
   ·have h1 := shift_fits c (7 * k)
    by_cases hfit : c * 2 ^ (7 * k) < 18446744073709551616
    ·rw [decide_eq_true hfit] at h1
     have h2 := or_shl acc c (7 * k) (HA.out h9) HW.out hfit
     have HW' := Lib.hid (acc_w h9 (HA.out h9) hc hfit)
     have HN := Lib.hid (acc_next (HA.out h9) hc)
     obtain ⟨acc', hacc⟩ : ∃ x, x = acc + 2 ^ (7 * k) * c := ⟨_, rfl⟩
     rw [← hacc] at h2 HW' HN
     clear hacc
     by_cases hb7 : b < 128
     ·have hb0 : b = 0 ∧ 0 < k := by
       refine Classical.byContradiction fun h => ?_
       have hp := HP.out
       by_cases h99 : 9 < k ∨ (k = 9 ∧ 1 < b)
       ·have e : k = 9 := by omega
        rw [e] at hfit
        have := HC.out
        omega
       ·rw [grp_end h99 hb7 h] at hp; cases hp
      have hkz : (7 * (k : Int) == 0) = false := by rw [beq_eq_false_iff_ne]; omega
      have hbz' : ((b : Int) != 0) = false := by rw [hb0.1]; rfl
      have HB := Lib.hid hb0
      clear hb0 hfit
      go_wp2_with (first
      | (go_at_call 172; (with_reducible refine (byte_yes g b q' _ HR).mono ?_); rintro e w1 hy; obtain ⟨rfl, HR1, HK1⟩ := Yes.rd hy; clear hy)
      | (go_at_call 121; first
       | ((with_reducible refine (check_true _ _).mono ?_); rintro e w2 ⟨rfl, rfl⟩)
       | (obtain ⟨A, C, hR⟩ := HR1.out; (with_reducible refine (check_false g C A q' _ (Lib.hid hR)).mono ?_); rintro e w2 ⟨rfl, h1, h2⟩)))
      exact ⟨rfl, no_end HK h1 (HK1.out.trans h2)⟩
     ·have HP2 : Hid (grp (k + 1) q' = none) := Lib.hid (by
       have hp := HP.out
       by_cases h8 : k ≤ 8
       ·rw [grp_on h8 (by omega)] at hp
        rcases hg : grp (k + 1) q' with _ | p
        ·rfl
        ·rw [hg] at hp; cases hp
       ·exact grp_big _ (by omega) _)
      clear hfit
      go_wp2_with (first
      | (go_at_call 172; (with_reducible refine (byte_yes g b q' _ HR).mono ?_); rintro e w1 hy; obtain ⟨rfl, HR1, HK1⟩ := Yes.rd hy; clear hy)
      | (go_at_call 121; first
       | ((with_reducible refine (check_true _ _).mono ?_); rintro e w2 ⟨rfl, rfl⟩)
       | (obtain ⟨A, C, hR⟩ := HR1.out; (with_reducible refine (check_false g C A q' _ (Lib.hid hR)).mono ?_); rintro e w2 ⟨rfl, h1, h2⟩)))
      go_roundw
      case rel => exact ⟨k + 1, acc', q', by have := HKL.out; simp at this; omega, by go_num, rfl, HW'.out, fun _ => HN.out, HP2.out, HR1.out, HK.out.trans HK1.out⟩
      case measure => simp [intOf]; omega
    ·rw [decide_eq_false hfit] at h1
     clear hfit
     go_wp2_with (first
      | (go_at_call 172; (with_reducible refine (byte_yes g b q' _ HR).mono ?_); rintro e w1 hy; obtain ⟨rfl, HR1, HK1⟩ := Yes.rd hy; clear hy)
      | (go_at_call 121; first
       | ((with_reducible refine (check_true _ _).mono ?_); rintro e w2 ⟨rfl, rfl⟩)
       | (obtain ⟨A, C, hR⟩ := HR1.out; (with_reducible refine (check_false g C A q' _ (Lib.hid hR)).mono ?_); rintro e w2 ⟨rfl, h1, h2⟩)))
     exact ⟨rfl, no_end HK h1 (HK1.out.trans h2)⟩
   ·have s1 := shl_far c k (by omega)
    have s2 := shr_far k (by omega)
    have h2 : bits .or .u64 (acc : Int) 0 = (acc : Int) := by
     have := bits_or_u64_nat acc 0 HW.out (by decide)
     rwa [Nat.or_zero] at this
    by_cases hc0 : c = 0
    ·have h1 : ((0 : Int) == (c : Int)) = true := by rw [hc0]; rfl
     have HC0 := Lib.hid hc0
     clear hc0
     by_cases hb7 : b < 128
     ·have hb0 : b = 0 := by have := HC.out; have := HC0.out; omega
      have hkz : (7 * (k : Int) == 0) = false := by rw [beq_eq_false_iff_ne]; omega
      have hbz' : ((b : Int) != 0) = false := by rw [hb0]; rfl
      have HB := Lib.hid hb0
      clear hb0
      go_wp2_with (first
      | (go_at_call 172; (with_reducible refine (byte_yes g b q' _ HR).mono ?_); rintro e w1 hy; obtain ⟨rfl, HR1, HK1⟩ := Yes.rd hy; clear hy)
      | (go_at_call 121; first
       | ((with_reducible refine (check_true _ _).mono ?_); rintro e w2 ⟨rfl, rfl⟩)
       | (obtain ⟨A, C, hR⟩ := HR1.out; (with_reducible refine (check_false g C A q' _ (Lib.hid hR)).mono ?_); rintro e w2 ⟨rfl, h1, h2⟩)))
      exact ⟨rfl, no_end HK h1 (HK1.out.trans h2)⟩
     ·have HP2 : Hid (grp (k + 1) q' = none) := Lib.hid (grp_big _ (by omega) _)
      go_wp2_with (first
      | (go_at_call 172; (with_reducible refine (byte_yes g b q' _ HR).mono ?_); rintro e w1 hy; obtain ⟨rfl, HR1, HK1⟩ := Yes.rd hy; clear hy)
      | (go_at_call 121; first
       | ((with_reducible refine (check_true _ _).mono ?_); rintro e w2 ⟨rfl, rfl⟩)
       | (obtain ⟨A, C, hR⟩ := HR1.out; (with_reducible refine (check_false g C A q' _ (Lib.hid hR)).mono ?_); rintro e w2 ⟨rfl, h1, h2⟩)))
      go_roundw
      case rel => exact ⟨k + 1, acc, q', by have := HKL.out; simp at this; omega, by go_num, rfl, HW.out, fun h => by omega, HP2.out, HR1.out, HK.out.trans HK1.out⟩
      case measure => simp [intOf]; omega
    ·have h1 : ((0 : Int) == (c : Int)) = false := by rw [beq_eq_false_iff_ne]; omega
     go_wp2_with (first
      | (go_at_call 172; (with_reducible refine (byte_yes g b q' _ HR).mono ?_); rintro e w1 hy; obtain ⟨rfl, HR1, HK1⟩ := Yes.rd hy; clear hy)
      | (go_at_call 121; first
       | ((with_reducible refine (check_true _ _).mono ?_); rintro e w2 ⟨rfl, rfl⟩)
       | (obtain ⟨A, C, hR⟩ := HR1.out; (with_reducible refine (check_false g C A q' _ (Lib.hid hR)).mono ?_); rintro e w2 ⟨rfl, h1, h2⟩)))
     exact ⟨rfl, no_end HK h1 (HK1.out.trans h2)⟩
namespace Col
def uP (most : Nat) (q : List Nat) : Option (Nat × List Nat) := (grp 0 q).bind fun p => if p.1 ≤ most then some p else none
theorem uP_some {most n : Nat} {q r : List Nat} (h : uP most q = some (n, r)) : grp 0 q = some (n, r) ∧ n ≤ most := by
 unfold uP at h
 rcases hg : grp 0 q with _ | p
 ·rw [hg] at h; cases h
 ·rw [hg] at h; simp only [Option.bind_some] at h
  split at h
  ·injection h with h; subst h; exact ⟨rfl, by assumption⟩
  ·cases h
theorem uP_none {most : Nat} {q : List Nat} (h : uP most q = none) : grp 0 q = none ∨ ∃ n r, grp 0 q = some (n, r) ∧ most < n := by
 unfold uP at h
 rcases hg : grp 0 q with _ | ⟨n, r⟩
 ·exact .inl rfl
 ·rw [hg] at h; simp only [Option.bind_some] at h
  split at h
  ·cases h
  ·exact .inr ⟨n, r, rfl, by omega⟩
def uz (n : Nat) : Int := if n % 2 = 1 then -((n / 2 : Nat) : Int) - 1 else ((n / 2 : Nat) : Int)
def zP (q : List Nat) : Option (Int × List Nat) := (grp 0 q).map fun p => (uz p.1, p.2)
def tP (most : Nat) (q : List Nat) : Option (List Nat × List Nat) := (uP most q).bind fun p => if p.1 ≤ p.2.length then some (p.2.take p.1, p.2.drop p.1) else none
theorem tP_some {most : Nat} {q s r : List Nat} (h : tP most q = some (s, r)) : ∃ n q', uP most q = some (n, q') ∧ n ≤ q'.length ∧ s = q'.take n ∧ r = q'.drop n := by
 unfold tP at h
 rcases hg : uP most q with _ | ⟨n, q'⟩
 ·rw [hg] at h; cases h
 ·rw [hg] at h; simp only [Option.bind_some] at h
  split at h
  ·injection h with h; injection h with h1 h2; exact ⟨n, q', rfl, by assumption, h1.symm, h2.symm⟩
  ·cases h
theorem tP_none {most : Nat} {q : List Nat} (h : tP most q = none) : uP most q = none ∨ ∃ n q', uP most q = some (n, q') ∧ q'.length < n := by
 unfold tP at h
 rcases hg : uP most q with _ | ⟨n, q'⟩
 ·exact .inl rfl
 ·rw [hg] at h; simp only [Option.bind_some] at h
  split at h
  ·cases h
  ·exact .inr ⟨n, q', rfl, by omega⟩
theorem zP_some {x : Int} {q r : List Nat} (h : zP q = some (x, r)) : ∃ n, grp 0 q = some (n, r) ∧ uz n = x := by
 unfold zP at h
 rcases hg : grp 0 q with _ | ⟨n, r'⟩
 ·rw [hg] at h; cases h
 ·rw [hg] at h; injection h with h; injection h with h1 h2; subst h2; exact ⟨n, rfl, h1⟩
theorem zP_none {q : List Nat} (h : zP q = none) : grp 0 q = none := by
 unfold zP at h
 rcases hg : grp 0 q with _ | p
 ·rfl
 ·rw [hg] at h; cases h
end Col
theorem Rd.lt {w : World} {g : Nat} {q : List Nat} (h : Rd w g q) : ∀ x ∈ q, x < 256 := by obtain ⟨A, C, h⟩ := h; exact h.bytes.lt
theorem grp_u64 {q r : List Nat} {n : Nat} (h : grp 0 q = some (n, r)) (hq : ∀ x ∈ q, x < 256) : n < 18446744073709551616 := by
 have := (grp_lt q 0 n r h).2.1 hq; simpa using this
theorem Yes.trans {g : Nat} {w w1 w' : World} {v : Value} {r : List Nat} {e : Ending} (HK : Hid (Kept (Only g) w w1)) (h : Yes g w1 v r e w') : Yes g w v r e w' := ⟨h.1, h.2.1, HK.out.trans h.2.2⟩
set_option maxHeartbeats 1000000 in
theorem uint_yes (g most n : Nat) (q r : List Nat) (hq : Hid (uP most q = some (n, r))) (hql : q.length ≤ 9223372036854775807) (w : World) (H : Hid (Rd w g q)) :
  Calls Tryz.prog 170 #[.pointer (some ⟨g, 0, none⟩), .int .u64 (most : Int)] w (Yes g w (.int .u64 (n : Int)) r) := by
 obtain ⟨A, C, h⟩ := H.out
 have HA := Lib.hid h
 obtain ⟨h1, h2⟩ := uP_some hq.out
 have H1 := Lib.hid h1
 clear h h1
 go_enter Tryz.func170, Tryz.ntmps170
 go_wp2_with (first
  | (go_at_call 145; refine (mayRead_yes g C A _ _ HA).mono ?_; rintro e w1 ⟨rfl, rfl⟩)
  | (go_at_call 190; (with_reducible refine (groups_yes g q r n H1 hql _ H).mono ?_); rintro e w1 hy; obtain ⟨rfl, HR1, HK1⟩ := Yes.rd hy; clear hy)
  | (go_at_call 121; (with_reducible refine (check_true _ _).mono ?_); rintro e w2 ⟨rfl, rfl⟩))
 go_ret
 exact ⟨rfl, HR1.out, HK1.out⟩
set_option maxHeartbeats 1000000 in
theorem uint_no (g most : Nat) (q : List Nat) (hq : Hid (uP most q = none)) (L : Nat) (HL : Hid (L = q.length)) (hql : L ≤ 1099511627776) (w : World) (H : Hid (Rd w g q)) :
  Calls Tryz.prog 170 #[.pointer (some ⟨g, 0, none⟩), .int .u64 (most : Int)] w (No g w) := by
 obtain ⟨A, C, h⟩ := H.out
 have HA := Lib.hid h
 have hB := Lib.hid h.bytes.lt
 clear h
 have hql2 : q.length ≤ 9223372036854775807 := by rw [← HL.out]; omega
 rcases uP_none hq.out with h1 | ⟨n, r, h1, h2⟩
 ·have H1 := Lib.hid h1
  clear h1
  go_enter Tryz.func170, Tryz.ntmps170
  go_wp2_with (first
   | (go_at_call 145; refine (mayRead_yes g C A _ _ HA).mono ?_; rintro e w1 ⟨rfl, rfl⟩)
   | (go_at_call 190; (with_reducible refine (groups_no g q H1 L HL hql _ H).mono ?_); rintro e w1 ⟨rfl, h1, h2⟩))
  exact ⟨rfl, rfl, h1, h2⟩
 ·have hn := grp_u64 h1 hB.out
  have H1 := Lib.hid h1
  have hd : ¬ n ≤ most := by omega
  have hd2 : decide (n ≤ most) = false := by simpa using h2
  clear h1
  go_enter Tryz.func170, Tryz.ntmps170
  go_wp2_with (first
   | (go_at_call 145; refine (mayRead_yes g C A _ _ HA).mono ?_; rintro e w1 ⟨rfl, rfl⟩)
   | (go_at_call 190; (with_reducible refine (groups_yes g q r n H1 hql2 _ H).mono ?_); rintro e w1 hy; obtain ⟨rfl, HR1, HK1⟩ := Yes.rd hy; clear hy)
   | (go_at_call 121; obtain ⟨A1, C1, hR⟩ := HR1.out; (with_reducible refine (check_false g C1 A1 r _ (Lib.hid hR)).mono ?_); rintro e w2 ⟨rfl, h1, h2⟩))
  exact ⟨rfl, no_end HK1 h1 h2⟩
theorem xor0_i64 (m : Nat) (h : m < 9223372036854775808) : bits BinOp.xor IntKind.i64 (m : Int) 0 = (m : Int) := by
 have h1 : (BitVec.ofInt 64 (m : Int)).toNat = m := by
  rw [BitVec.ofInt_natCast, BitVec.toNat_ofNat]; exact Nat.mod_eq_of_lt (by omega)
 have h0 : BitVec.ofInt 64 0 = 0#64 := by decide
 show IntKind.i64.wrap ((BitVec.ofInt 64 (m : Int) ^^^ BitVec.ofInt 64 0).toNat : Int) = _
 rw [h0, BitVec.xor_zero, h1, IntKind.wrap_i64]; omega
theorem xor1_i64 (m : Nat) (h : m < 9223372036854775808) : bits BinOp.xor IntKind.i64 (m : Int) (-1) = -(m : Int) - 1 := by
 have h1 : (BitVec.ofInt 64 (m : Int)).toNat = m := by
  rw [BitVec.ofInt_natCast, BitVec.toNat_ofNat]; exact Nat.mod_eq_of_lt (by omega)
 have h0 : BitVec.ofInt 64 (-1) = BitVec.allOnes 64 := by decide
 show IntKind.i64.wrap ((BitVec.ofInt 64 (m : Int) ^^^ BitVec.ofInt 64 (-1)).toNat : Int) = _
 rw [h0, BitVec.xor_allOnes, BitVec.toNat_not, h1, IntKind.wrap_i64]; omega
theorem ret_i64 {k : IntKind} {a b : Int} (h : a = b) : Ending.returned (.int k a) = .returned (.int k b) := by rw [h]
theorem and1 (n : Nat) (h : n < 18446744073709551616) : bits BinOp.and IntKind.u64 (n : Int) 1 = ((n % 2 : Nat) : Int) := by
 have := bits_and_u64_nat n 1 h (by decide)
 rw [Nat.and_one_is_mod] at this
 exact this
set_option maxHeartbeats 1000000 in
theorem int_yes (g : Nat) (x : Int) (q r : List Nat) (hq : Hid (zP q = some (x, r))) (hql : q.length ≤ 9223372036854775807) (w : World) (H : Hid (Rd w g q)) :
  Calls Tryz.prog 174 #[.pointer (some ⟨g, 0, none⟩)] w (Yes g w (.int .i64 x) r) := by
 obtain ⟨n, h1, hx⟩ := zP_some hq.out
 have hn := grp_u64 h1 H.out.lt
 have HU : Hid (uP 18446744073709551615 q = some (n, r)) := Lib.hid (by unfold uP; rw [h1]; simp; omega)
 have a1 := and1 n hn
 clear h1
 rcases Nat.mod_two_eq_zero_or_one n with h2 | h2
 ·rw [h2] at a1
  have HX : Hid (x = ((n / 2 : Nat) : Int)) := Lib.hid (by rw [← hx]; unfold uz; rw [if_neg (by omega)])
  clear hx h2
  go_enter Tryz.func174, Tryz.ntmps174
  go_wp2_with (go_at_call 170; (refine (uint_yes g 18446744073709551615 n q r HU hql _ H).mono ?_); rintro e w1 hy; obtain ⟨rfl, HR1, HK1⟩ := Yes.rd hy; clear hy)
  go_ret
  exact ⟨ret_i64 ((xor0_i64 (n / 2) (by omega)).trans HX.out.symm), HR1.out, HK1.out⟩
 ·rw [h2] at a1
  have HX : Hid (x = -((n / 2 : Nat) : Int) - 1) := Lib.hid (by rw [← hx]; unfold uz; rw [if_pos h2])
  clear hx h2
  go_enter Tryz.func174, Tryz.ntmps174
  go_wp2_with (go_at_call 170; (refine (uint_yes g 18446744073709551615 n q r HU hql _ H).mono ?_); rintro e w1 hy; obtain ⟨rfl, HR1, HK1⟩ := Yes.rd hy; clear hy)
  go_ret
  exact ⟨ret_i64 ((xor1_i64 (n / 2) (by omega)).trans HX.out.symm), HR1.out, HK1.out⟩
set_option maxHeartbeats 1000000 in
theorem int_no (g : Nat) (q : List Nat) (hq : Hid (zP q = none)) (L : Nat) (HL : Hid (L = q.length)) (hql : L ≤ 1099511627776) (w : World) (H : Hid (Rd w g q)) :
  Calls Tryz.prog 174 #[.pointer (some ⟨g, 0, none⟩)] w (No g w) := by
 have HU : Hid (uP 18446744073709551615 q = none) := Lib.hid (by unfold uP; rw [zP_none hq.out]; rfl)
 go_enter Tryz.func174, Tryz.ntmps174
 go_wp2_with (go_at_call 170; (refine (uint_no g 18446744073709551615 q HU L HL hql _ H).mono ?_); rintro e w1 ⟨rfl, h1, h2⟩)
 exact ⟨rfl, rfl, h1, h2⟩
theorem off_kept {g n : Nat} {w w' : World} {A : Option Addr} {q : List Nat} (h : ByAt w A q) (ho : Off (Only g) A q) (hk : Kept (Only g) w w') : Hid (ByAt w' A q) := h.kept hk ho
set_option maxHeartbeats 1000000 in
theorem text_yes (g most : Nat) (hm : most < 9223372036854775808) (q s r : List Nat) (hq : Hid (tP most q = some (s, r))) (hql : q.length ≤ 9223372036854775807) (w : World) (H : Hid (Rd w g q)) :
  Calls Tryz.prog 138 #[.pointer (some ⟨g, 0, none⟩), .int .i64 (most : Int)] w (Yes g w (.string (strB s)) r) := by
 obtain ⟨n, q', h1, h2, h3, h4⟩ := tP_some hq.out
 obtain ⟨A, C, h⟩ := H.out
 have HA := Lib.hid h
 have HU := Lib.hid h1
 have H3 := Lib.hid h3
 have H4 := Lib.hid h4
 have H2 := Lib.hid h2
 clear h h1 h3 h4 h2
 have hn := Lib.hid (grp_u64 (uP_some HU.out).1 H.out.lt)
 go_enter Tryz.func138, Tryz.ntmps138
 go_wp2_with (first
  | (go_at_call 145; refine (mayRead_yes g C A _ _ HA).mono ?_; rintro e w1 ⟨rfl, rfl⟩)
  | (go_at_call 121; (with_reducible refine (check_true _ _).mono ?_); rintro e w2 ⟨rfl, rfl⟩)
  | (go_at_call 170; (with_reducible refine (uint_yes g most n q q' HU hql _ H).mono ?_); rintro e w1 hy; obtain ⟨rfl, HR1, HK1⟩ := Yes.rd hy; clear hy)
  | (go_at_call 169; obtain ⟨A1, C1, hR⟩ := HR1.out; (with_reducible refine (take_yes g C1 A1 q' n q'.length (Lib.hid rfl) H2.out _ (Lib.hid hR)).mono ?_); rintro e w2 ⟨A2, C2, rfl, a1, a2, a3, a4, a5, a6, a7⟩; clear a7; have HB := off_kept (n := 0) a3 a4 a6; have h5 := conv_at n C2 HB (Below.refl _ _) (by rw [List.length_take]; have := H2.out; omega); have HR2 := Lib.hid a5; have HK2 := Lib.hid a6; clear a1 a2 a3 a4 a5 a6 hR))
 go_ret
 exact ⟨by rw [H3.out]; rfl, by rw [H4.out]; exact HR2.out, HK1.out.trans HK2.out⟩
set_option maxHeartbeats 1000000 in
theorem text_no (g most : Nat) (hm : most < 9223372036854775808) (q : List Nat) (hq : Hid (tP most q = none)) (L : Nat) (HL : Hid (L = q.length)) (hql : L ≤ 1099511627776) (w : World) (H : Hid (Rd w g q)) :
  Calls Tryz.prog 138 #[.pointer (some ⟨g, 0, none⟩), .int .i64 (most : Int)] w (No g w) := by
 obtain ⟨A, C, h⟩ := H.out
 have HA := Lib.hid h
 clear h
 have hql2 : q.length ≤ 9223372036854775807 := by rw [← HL.out]; omega
 rcases tP_none hq.out with h1 | ⟨n, q', h1, h2⟩
 ·have HU := Lib.hid h1
  clear h1
  go_enter Tryz.func138, Tryz.ntmps138
  go_wp2_with (first
   | (go_at_call 145; refine (mayRead_yes g C A _ _ HA).mono ?_; rintro e w1 ⟨rfl, rfl⟩)
   | (go_at_call 121; (with_reducible refine (check_true _ _).mono ?_); rintro e w2 ⟨rfl, rfl⟩)
   | (go_at_call 170; (with_reducible refine (uint_no g most q HU L HL hql _ H).mono ?_); rintro e w1 ⟨rfl, h1, h2⟩))
  exact ⟨rfl, rfl, h1, h2⟩
 ·have HU := Lib.hid h1
  have H2 := Lib.hid h2
  clear h1 h2
  have hn := Lib.hid (grp_u64 (uP_some HU.out).1 H.out.lt)
  go_enter Tryz.func138, Tryz.ntmps138
  go_wp2_with (first
   | (go_at_call 145; refine (mayRead_yes g C A _ _ HA).mono ?_; rintro e w1 ⟨rfl, rfl⟩)
   | (go_at_call 121; (with_reducible refine (check_true _ _).mono ?_); rintro e w2 ⟨rfl, rfl⟩)
   | (go_at_call 170; (with_reducible refine (uint_yes g most n q q' HU hql2 _ H).mono ?_); rintro e w1 hy; obtain ⟨rfl, HR1, HK1⟩ := Yes.rd hy; clear hy)
   | (go_at_call 169; obtain ⟨A1, C1, hR⟩ := HR1.out; (with_reducible refine (take_no g C1 A1 q' n q'.length (Lib.hid rfl) H2.out _ (Lib.hid hR)).mono ?_); rintro e w2 ⟨rfl, h1, h2⟩))
  exact ⟨rfl, no_end HK1 h1 h2⟩
theorem assert_gu (v : Value) (w : World) : (Instr.typeAssert (.iface 181 v) 20 181 true).run Tryz.prog w = .ok (.tuple #[v, .bool true]) w := by kernel_rfl
theorem infoRd : (Tryz.prog.info? 160).isSome = true := by kernel_rfl
theorem eql_ptr (g : Nat) (w : World) : (binOp BinOp.eql 138 (.pointer (some ⟨g, 0, none⟩)) (.pointer (some ⟨g, 0, none⟩))).run Tryz.prog w = .ok (.bool true) w := by
 obtain ⟨j, hj⟩ := Option.isSome_iff_exists.1 infoRd
 exact run_eql_ptr_same w _ Tryz.underlying138 hj
set_option maxHeartbeats 1000000 in
theorem threw_yes (g : Nat) (w : World) :
  Calls Tryz.prog 114 #[.pointer (some ⟨g, 0, none⟩), .iface 181 (.agg #[.pointer (some ⟨g, 0, none⟩)])] w fun e w' => e = .returned (.bool true) ∧ Below w.heap.size w w' := by
 have ha := assert_gu (.agg #[.pointer (some ⟨g, 0, none⟩)])
 have hp := eql_ptr g
 go_enter Tryz.func114, Tryz.ntmps114
 go_wp2
 go_ret
 exact ⟨rfl, (Below.refl _ _).alloc (Nat.le_refl _) _⟩
theorem try1_tmps (x : Value) : (#[x] ++ Array.replicate (Tryz.f113.ntmps - (#[x] : Array Value).size) undef) = #[x, undef, undef, undef, undef, undef, undef, undef, undef, undef, undef, undef, undef, undef, undef] := by
 rw [Tryz.ntmps113]; rfl
theorem Gone.cells {w : World} {g : Nat} (h : Gone w g) : ∃ x y z, w.cell? ⟨g, 0, none⟩ = some x ∧ w.cell? ⟨g, 1, none⟩ = some (.bool y) ∧ w.cell? ⟨g, 2, none⟩ = some (.bool z) ∧ w.frozen? ⟨g, 0, none⟩ = false ∧ w.frozen? ⟨g, 1, none⟩ = false ∧ w.frozen? ⟨g, 2, none⟩ = false := by
 obtain ⟨x, y, z, hrow⟩ := h
 exact ⟨x, y, z, by rw [cell_of_row _ _ _ _ _ _ hrow]; rfl, by rw [cell_of_row _ _ _ _ _ _ hrow]; rfl, by rw [cell_of_row _ _ _ _ _ _ hrow]; rfl, row_frozen hrow 0, row_frozen hrow 1, row_frozen hrow 2⟩
theorem kept_wipe (w : World) (g : Nat) (a b c : Value) : Kept (Only g) w (((w.setCell ⟨g, 0, none⟩ a).setCell ⟨g, 1, none⟩ b).setCell ⟨g, 2, none⟩ c) :=
 (((Kept.refl (Only g) w).setCell ⟨g, 0, none⟩ a (.inl rfl)).setCell ⟨g, 1, none⟩ b (.inl rfl)).setCell ⟨g, 2, none⟩ c (.inl rfl)
theorem try1_panicking (v g : Nat) (older : List PanicEntry) (w : World) (hv : w.cell? ⟨v, 0, none⟩ = some (.pointer (some ⟨g, 0, none⟩))) (hG : Hid (Gone w g)) (hvg : v ≠ g) (hlt : v < w.heap.size) :
  CallsD Tryz.prog 113 #[.pointer (some ⟨v, 0, none⟩)] (.panicking (gu g :: older)) w fun e u' w' =>
   e = .returned (.tuple #[]) ∧ u' = .panicking ({ v := .iface 181 (.agg #[.pointer (some ⟨g, 0, none⟩)]), recovered := true } :: older) ∧ Kept (Only g) w w' := by
 obtain ⟨x, y, z, c0, c1, c2, f0, f1, f2⟩ := hG.out.cells
 refine callsD_of_wpS Tryz.func113 rfl fun c₀ cs hu => ?_
 rw [try1_tmps]
 apply wpS_seq
 refine wpS_of_wp ?_
 go_wp2
 simp only [Exit.thenS]
 have hk := kept_wipe w g (.slice none 0 0) (.bool false) (.bool false)
 have hv2 := (hk.cell (p := ⟨v, 0, none⟩) hlt hvg).trans hv
 have HK := Lib.hid hk
 clear hk
 generalize ((w.setCell ⟨g, 0, none⟩ (.slice none 0 0)).setCell ⟨g, 1, none⟩ (.bool false)).setCell ⟨g, 2, none⟩ (.bool false) = w2 at *
 clear c0 c1 c2 f0 f1 f2 hv
 apply wpS_seq
 apply wpS_region
 simp [wpOpsS, go_sem, recoverD, hu, gu, Exit.thenS]
 refine wpS_of_wp ?_
 go_wp2_with (go_at_call 114; refine (threw_yes g _).mono ?_; rintro e w3 ⟨rfl, hb⟩)
 exact ⟨rfl, _, rfl, _, results_none rfl _ _ _, rfl, rfl, HK.out.trans (Kept.of_below hb)⟩
theorem try1_returning (v g : Nat) (w : World) (hv : w.cell? ⟨v, 0, none⟩ = some (.pointer (some ⟨g, 0, none⟩))) (hG : Hid (Gone w g)) (hvg : v ≠ g) (hlt : v < w.heap.size) :
  CallsD Tryz.prog 113 #[.pointer (some ⟨v, 0, none⟩)] .returning w fun e u' w' => e = .returned (.tuple #[]) ∧ u' = .returning ∧ Kept (Only g) w w' := by
 obtain ⟨x, y, z, c0, c1, c2, f0, f1, f2⟩ := hG.out.cells
 refine callsD_of_wpS Tryz.func113 rfl fun c₀ cs hu => ?_
 rw [try1_tmps]
 apply wpS_seq
 refine wpS_of_wp ?_
 go_wp2
 simp only [Exit.thenS]
 have hk := kept_wipe w g (.slice none 0 0) (.bool false) (.bool false)
 have HK := Lib.hid hk
 clear hk
 generalize ((w.setCell ⟨g, 0, none⟩ (.slice none 0 0)).setCell ⟨g, 1, none⟩ (.bool false)).setCell ⟨g, 2, none⟩ (.bool false) = w2 at *
 clear c0 c1 c2 f0 f1 f2 hv
 apply wpS_seq
 apply wpS_region
 simp [wpOpsS, go_sem, recoverD, hu, gu, Exit.thenS]
 refine wpS_of_wp ?_
 go_wp2
 exact ⟨rfl, .returning, by rw [← hu], _, results_none rfl _ _ _, rfl, rfl, HK.out⟩
def Tried (g : Nat) (S : Nat → Prop) (R : Bool → World → Prop) (w1 : World) (e : Ending) (w2 : World) : Prop :=
 Kept (fun k => S k ∨ k = g) w1 w2 ∧ ((∃ q', e = .returned (.tuple #[]) ∧ Rd w2 g q' ∧ R (decide (q' = [])) w2) ∨ (e = .panicked [gu g] ∧ Gone w2 g ∧ R false w2))
def TryEnds (S : Nat → Prop) (R : Bool → World → Prop) (w : World) (e : Ending) (w' : World) : Prop := ∃ b, e = .returned (.bool b) ∧ R b w' ∧ Kept S w w'
set_option maxHeartbeats 1000000 in
theorem try_any (F : Nat) (first cap : Array Value) (A : Option Addr) (C : Nat) (q : List Nat) (n : Nat) (hn : Hid (n = q.length)) (hC : n ≤ C) (hC' : C ≤ maxLen) (w : World) (HA : Hid (ByAt w A q)) (S : Nat → Prop) (hS : ∀ k, S k → k < w.heap.size) (R : Nat → Bool → World → Prop) (R' : Bool → World → Prop)
  (hR : ∀ g b w2 w3, w.heap.size ≤ g → R g b w2 → Kept (Only g) w2 w3 → R' b w3)
  (hf : ∀ g w1, w.heap.size ≤ g → Rd w1 g q → Below w.heap.size w w1 → Calls Tryz.prog F (first.push (.pointer (some ⟨g, 0, none⟩)) ++ cap) w1 (Tried g S (R g) w1))
  (hent : ∀ (args : Array Value) (w : World), (callFunc F args).run Tryz.prog w = .ok (.enter F args) w) :
  Calls Tryz.prog 90 #[.slice A n C, .func (.func F) first cap] w (TryEnds S R' w) := by
 have hmf : ∀ (fn : Fn) (first cap : Array Value) (w : World), (Instr.makeFunc fn first cap).run Tryz.prog w = .ok (.func fn first cap) w := fun _ _ _ _ => rfl
 have hnil : ∀ w : World, (binOp BinOp.eql 140 (.func (.func F) first cap) .nilFunc).run Tryz.prog w = .ok (.bool false) w := fun _ => by kernel_rfl
 have HS := Lib.hid hS
 have HR := Lib.hid hR
 have HF := Lib.hid hf
 clear hS hR hf
 obtain ⟨W2, hW2⟩ : ∃ W2, W2 = (w.alloc (.cells #[.slice A n C, .bool true, .bool false] 160)).alloc (.cells #[.pointer (some ⟨w.heap.size, 0, none⟩)] 138) := ⟨_, rfl⟩
 have hbl : Below w.heap.size w W2 := by
  rw [hW2]; exact ((Below.refl _ _).alloc (Nat.le_refl _) _).alloc (by simp) _
 have hrow : W2.heap[w.heap.size]? = some (.cells #[.slice A n C, .bool true, .bool false] 160 (0, 0)) := by
  rw [hW2]; exact heap_alloc2_old w _ _
 have hrd : Rd W2 w.heap.size q := ⟨A, C, by rw [← hn.out]; exact hrow, by rw [← hn.out]; exact hC, hC', HA.out.keep hbl, fun a ha h0 => by
  obtain ⟨b, off, e, hb, -⟩ := HA.out.spot h0
  rw [e] at ha; injection ha with ha; subst ha; exact hb⟩
 have hv : W2.cell? ⟨w.heap.size + 1, 0, none⟩ = some (.pointer (some ⟨w.heap.size, 0, none⟩)) := by
  rw [hW2]; have h := heap_alloc2_new w (.cells #[.slice A n C, .bool true, .bool false] 160) (.cells #[.pointer (some ⟨w.heap.size, 0, none⟩)] 138)
  rw [cell_of_row _ _ _ _ _ _ h]; rfl
 have hsz : w.heap.size + 1 < W2.heap.size := by rw [hW2]; simp
 have HW := Lib.hid hW2
 have HBL := Lib.hid hbl
 have HRD := Lib.hid hrd
 have HV := Lib.hid hv
 have HSZ := Lib.hid hsz
 clear hrow hbl hrd hv hsz hW2
 go_enter_defers Tryz.func90, Tryz.ntmps90
 go_wp2_with fail
 rw [← HW.out]
 refine (HF.out w.heap.size _ (Nat.le_refl _) HRD.out HBL.out).mono ?_
 have hvg : w.heap.size + 1 ≠ w.heap.size := by omega
 have fin : ∀ (w3 w4 : World) (b : Bool), Kept (fun k => S k ∨ k = w.heap.size) W2 w3 → Kept (Only w.heap.size) w3 w4 → R w.heap.size b w3 → TryEnds S R' w (.returned (.bool b)) w4 := fun w3 w4 b h1 h2 hr =>
  ⟨b, rfl, HR.out w.heap.size b w3 w4 (Nat.le_refl _) hr h2,
   ((Kept.of_below HBL.out).trans' h1 (fun i hi => by
    rcases hi with h | h
    ·exact .inl h
    ·exact .inr (by subst h; exact Nat.le_refl _))).trans' h2 (fun i hi => .inr (by have hi : i = w.heap.size := hi; subst hi; exact Nat.le_refl _))⟩
 have FIN := Lib.hid fin
 clear fin
 have keepv : ∀ (w3 : World), Kept (fun k => S k ∨ k = w.heap.size) W2 w3 → w3.cell? ⟨w.heap.size + 1, 0, none⟩ = some (.pointer (some ⟨w.heap.size, 0, none⟩)) ∧ w.heap.size + 1 < w3.heap.size := fun w3 h1 =>
  ⟨(h1.cell (p := ⟨w.heap.size + 1, 0, none⟩) HSZ.out (by
   rintro (h | h)
   ·have h2 := HS.out _ h
    have h2 : w.heap.size + 1 < w.heap.size := h2
    omega
   ·exact hvg h)).trans HV.out, Nat.lt_of_lt_of_le HSZ.out h1.size⟩
 have KV := Lib.hid keepv
 clear keepv
 rintro e w3 ⟨hk, ⟨q', rfl, hrd, hr⟩ | ⟨rfl, hg, hr⟩⟩
 ·obtain ⟨hv3, hz3⟩ := KV.out _ hk
  obtain ⟨A', C', hA⟩ := hrd
  have HK := Lib.hid hk
  have HRR := Lib.hid hr
  have HAA := Lib.hid hA
  have c0 := hA.c0
  have c2 := hA.c2
  have HG := Lib.hid hA.gone
  clear hk hr hA
  obtain ⟨N, hN⟩ : ∃ N, N = q'.length := ⟨_, rfl⟩
  rw [← hN] at c0
  have HN := Lib.hid hN
  clear hN
  by_cases hz : N = 0
  ·subst hz
   have hq : q' = [] := List.eq_nil_of_length_eq_zero HN.out.symm
   subst hq
   have HRT : Hid (R w.heap.size true w3) := Lib.hid (by have := HRR.out; simpa using this)
   clear HRR
   go_wp2
   refine leaves_cons (f := 113) (args := #[.pointer (some ⟨w.heap.size + 1, 0, none⟩)]) (by simp) (by simp [go_sem]) ?_
   refine (try1_returning _ _ _ hv3 HG hvg hz3).mono ?_
   rintro e u' w4 ⟨rfl, rfl, hk4⟩
   refine ⟨_, results_tmp (t := 4) rfl _ _ _, ?_⟩
   exact FIN.out _ _ _ HK.out hk4 HRT.out
  ·have hz2 : ((N : Int) == 0) = false := by rw [beq_eq_false_iff_ne]; omega
   have HZ := Lib.hid hz
   have hq : decide (q' = []) = false := by
    rw [decide_eq_false_iff_not]; intro h
    have := HN.out; rw [h] at this; exact HZ.out this
   rw [hq] at HRR
   clear hz hq
   go_wp2
   refine leaves_cons (f := 113) (args := #[.pointer (some ⟨w.heap.size + 1, 0, none⟩)]) (by simp) (by simp [go_sem]) ?_
   refine (try1_returning _ _ _ hv3 HG hvg hz3).mono ?_
   rintro e u' w4 ⟨rfl, rfl, hk4⟩
   refine ⟨_, results_tmp (t := 4) rfl _ _ _, ?_⟩
   exact FIN.out _ _ _ HK.out hk4 HRR.out
 ·obtain ⟨hv3, hz3⟩ := KV.out _ hk
  have HK := Lib.hid hk
  have HRR := Lib.hid hr
  have HG := Lib.hid hg
  clear hk hr hg
  go_wp2
  refine leaves_cons (f := 113) (args := #[.pointer (some ⟨w.heap.size + 1, 0, none⟩)]) (by simp) (by simp [go_sem]) ?_
  refine (try1_panicking _ _ [] _ hv3 HG hvg hz3).mono ?_
  rintro e u' w4 ⟨rfl, rfl, hk4⟩
  simp [Leaves, settle, results, Tryz.results90, go_sem]
  exact FIN.out _ _ _ HK.out hk4 HRR.out
end Go.Proofs.YtjldamkmdkaiiaaGreatDoor
