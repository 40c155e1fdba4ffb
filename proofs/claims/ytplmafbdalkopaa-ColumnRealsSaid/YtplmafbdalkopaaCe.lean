/-
  Layer column: getBits.
-/
import Derived.Test.YtplmafbdalkopaaCd
set_option linter.unusedSimpArgs false
set_option linter.unusedVariables false
set_option maxRecDepth 8000
namespace Go.Proofs.Ytplmafbdalkopaa
open Go.RowKit Go.WideShapes Col
namespace Col
/-- The number of some bytes. -/
def vlb : List Nat → Nat
  | [] => 0
  | b :: r => b + 256 * vlb r
theorem leb_vlb : ∀ l : List Nat, (∀ x ∈ l, x < 256) → leb l.length (vlb l) = l
  | [], _ => rfl
  | b :: r, h => by
    have hb := h b (List.mem_cons_self ..)
    rw [List.length_cons, leb, vlb, Nat.add_mul_mod_self_left, Nat.mod_eq_of_lt hb, Nat.add_mul_div_left _ _ (by decide), Nat.div_eq_of_lt hb, Nat.zero_add, leb_vlb r fun x hx => h x (List.mem_cons_of_mem _ hx)]
theorem vlb_lt : ∀ l : List Nat, (∀ x ∈ l, x < 256) → vlb l < 2 ^ (8 * l.length)
  | [], _ => by simp [vlb]
  | b :: r, h => by
    have hb := h b (List.mem_cons_self ..)
    have hr := vlb_lt r fun x hx => h x (List.mem_cons_of_mem _ hx)
    rw [List.length_cons, vlb, show 8 * (r.length + 1) = 8 + 8 * r.length by omega, Nat.pow_add]
    have : 2 ^ 8 * (vlb r + 1) ≤ 2 ^ 8 * 2 ^ (8 * r.length) := Nat.mul_le_mul_left _ hr
    omega
theorem vlb_leb : ∀ (k n : Nat), vlb (leb k n) = n % 2 ^ (8 * k)
  | 0, n => by simp [leb, vlb, Nat.mod_one]
  | k + 1, n => by
    rw [leb, vlb, vlb_leb k, show 8 * (k + 1) = 8 + 8 * k by omega, Nat.pow_add, show (2 : Nat) ^ 8 = 256 from rfl]
    rw [Nat.mod_mul]
/-- w bits from a place on. -/
def bitsAt (V at' w : Nat) : Nat := V / 2 ^ at' % 2 ^ w
theorem bits_step (V at' got i s : Nat) (h : at' + got = 8 * i + s) (hs : s < 8) : bitsAt V at' (got + (8 - s)) = bitsAt V at' got + 2 ^ got * (V / 2 ^ (8 * i) % 256 / 2 ^ s) := by
  unfold bitsAt
  rw [Nat.pow_add, Nat.mod_mul, Nat.div_div_eq_div_mul, ← Nat.pow_add, h]
  congr 2
  rw [Nat.pow_add, ← Nat.div_div_eq_div_mul]
  generalize V / 2 ^ (8 * i) = B
  have h8 : 256 = 2 ^ s * 2 ^ (8 - s) := by rw [← Nat.pow_add, show s + (8 - s) = 8 by omega]
  rw [h8, Nat.mod_mul_right_div_self]
theorem bitsAt_lt (V at' w : Nat) : bitsAt V at' w < 2 ^ w := Nat.mod_lt _ (Nat.two_pow_pos _)
theorem or_bits (d x got : Nat) (hd : d < 2 ^ got) (hg : got < 64) : bits .or .u64 (d : Int) (IntKind.u64.wrap ((x : Int) * 2 ^ got)) = (((d + 2 ^ got * x) % 18446744073709551616 : Nat) : Int) := by
  have h64 : 18446744073709551616 = 2 ^ got * 2 ^ (64 - got) := by rw [← Nat.pow_add, show got + (64 - got) = 64 by omega]
  have hd64 : d < 18446744073709551616 := Nat.lt_of_lt_of_le hd (by rw [h64]; exact Nat.le_mul_of_pos_right _ (Nat.two_pow_pos _))
  rw [wrap_shl, bits_or_u64_nat _ _ hd64 (Nat.mod_lt _ (by decide))]
  congr 1
  have e : x * 2 ^ got % 18446744073709551616 = 2 ^ got * (x % 2 ^ (64 - got)) := by
    rw [h64, Nat.mul_comm x, Nat.mul_mod_mul_left]
  rw [e, Nat.or_comm, ← Nat.two_pow_add_eq_or_of_lt hd]
  have hr : x % 2 ^ (64 - got) < 2 ^ (64 - got) := Nat.mod_lt _ (Nat.two_pow_pos _)
  have hx := Nat.mod_add_div x (2 ^ (64 - got))
  generalize x % 2 ^ (64 - got) = r at *
  have h1 : d + 2 ^ got * x = 2 ^ got * r + d + 18446744073709551616 * (x / 2 ^ (64 - got)) := by
    rw [h64]
    have : 2 ^ got * x = 2 ^ got * r + 2 ^ got * 2 ^ (64 - got) * (x / 2 ^ (64 - got)) := by
      rw [Nat.mul_assoc, ← Nat.mul_add, hx]
    omega
  rw [h1, Nat.add_mul_mod_self_left]
  have h2 : 2 ^ got * (r + 1) ≤ 2 ^ got * 2 ^ (64 - got) := Nat.mul_le_mul_left _ hr
  rw [← h64, Nat.mul_add] at h2
  rw [Nat.mod_eq_of_lt (by omega)]
theorem mask_w (d w : Nat) (hw : w ≤ 64) (hd : d < 18446744073709551616) : bits .and .u64 (d : Int) (IntKind.u64.wrap (IntKind.u64.wrap (2 ^ w) - 1)) = ((d % 2 ^ w : Nat) : Int) := by
  have hp : 0 < 2 ^ w := Nat.two_pow_pos _
  have hle : 2 ^ w ≤ 18446744073709551616 := by
    have : 2 ^ w ≤ 2 ^ 64 := Nat.pow_le_pow_right (by decide) hw
    exact this
  have e : IntKind.u64.wrap (IntKind.u64.wrap (2 ^ w) - 1) = ((2 ^ w - 1 : Nat) : Int) := by
    rw [show ((2 : Int) ^ w) = ((2 ^ w : Nat) : Int) from (Int.natCast_pow 2 w).symm, IntKind.wrap_u64, IntKind.wrap_u64]
    omega
  rw [e, bits_and_u64_nat _ _ hd (by omega), Nat.and_two_pow_sub_one_eq_mod]
end Col

theorem shr_u8 (b s : Nat) (hb : b < 256) (hs : s < 8) : ((b : Int) / 2 ^ s) = ((b / 2 ^ s : Nat) : Int) := by rw [Int.natCast_ediv, Int.natCast_pow]; rfl
def GB (V at' w : Nat) (w0 : World) (u v : Value) (wr : World) : Prop := ∃ (got d : Nat), v = .int .i64 (got : Int) ∧ u = .int .u64 (d : Int) ∧ d = bitsAt V at' got % 18446744073709551616 ∧ got ≤ w + 7 ∧ (got = 0 ∨ (at' + got) % 8 = 0) ∧ w0 = wr
set_option maxHeartbeats 2000000 in
theorem getBits_any (A : Option Addr) (K C V at' w : Nat) (hw : w ≤ 64) (hK : K ≤ 100000000) (hat : at' + w ≤ 8 * K) (hV : Hid (V < 2 ^ (8 * K))) (W : World) (HA : Hid (ByAt W A (leb K V))) :
    Calls Try.prog 93 #[.slice A K C, .int .i64 (at' : Int), .int .i64 (w : Int)] W fun e w' => e = .returned (.int .u64 (bitsAt V at' w : Nat)) ∧ W = w' := by
  go_enter Try.func93, Try.ntmps93
  go_wp2
  go_loopw [7, 8] (fun u v wr => GB V at' w W u v wr) (fun _ v _ => w - (intOf v).toNat)
  case atStart => exact ⟨0, 0, rfl, rfl, by unfold bitsAt; simp [Nat.mod_one], by omega, .inl rfl, rfl⟩
  case round =>
    obtain ⟨got, d, rfl, rfl, hd, hgw, hgm, rfl⟩ := hrel
    have HD := Lib.hid hd
    have HGM := Lib.hid hgm
    clear hd hgm
    by_cases hlt : got < w
    · obtain ⟨i, hi⟩ : ∃ i, i = (at' + got) / 8 := ⟨_, rfl⟩
      obtain ⟨s, hs⟩ : ∃ s, s = (at' + got) % 8 := ⟨_, rfl⟩
      have hs8 : s < 8 := by omega
      have his : at' + got = 8 * i + s := by omega
      have hiK : i < K := by omega
      have hiKi : (i : Int) < (K : Int) := by omega
      obtain ⟨b, hb⟩ : ∃ b, b = V / 2 ^ (8 * i) % 256 := ⟨_, rfl⟩
      obtain ⟨hb256, g, off, rfl, -, hc⟩ := HA.out i b (by rw [hb]; exact leb_get K V i hiK)
      obtain ⟨x, hx⟩ : ∃ x, x = b / 2 ^ s := ⟨_, rfl⟩
      have hshr := shr_u8 b s hb256 hs8
      rw [← hx] at hshr
      have hx256 : x < 256 := by rw [hx]; exact Nat.lt_of_le_of_lt (Nat.div_le_self _ _) hb256
      have hdlt : d < 2 ^ got := by rw [HD.out]; exact Nat.lt_of_le_of_lt (Nat.mod_le _ _) (bitsAt_lt V at' got)
      have hor := or_bits d x got hdlt (by omega)
      obtain ⟨d2, hd2⟩ : ∃ d2, d2 = (d + 2 ^ got * x) % 18446744073709551616 := ⟨_, rfl⟩
      rw [← hd2] at hor
      have HD2 : Hid (d2 = bitsAt V at' (got + (8 - s)) % 18446744073709551616) := Lib.hid (by
        rw [bits_step V at' got i s his hs8, ← hb, ← hx, hd2, HD.out, Nat.mod_add_mod])
      obtain ⟨p, hp⟩ : ∃ p, p = at' + got := ⟨_, rfl⟩
      have hpi : (at' : Int) + (got : Int) = (p : Int) := by omega
      have hqi : (p : Int) / 8 = (i : Int) := by omega
      have hqs : (p : Int) % 8 = (s : Int) := by omega
      have hqi2 : (p : Int).tdiv 8 = (i : Int) := by rw [Int.tdiv_eq_ediv_of_nonneg (by omega)]; exact hqi
      have hqs2 : (p : Int).tmod 8 = (s : Int) := by rw [Int.tmod_eq_emod_of_nonneg (by omega)]; exact hqs
      have hp9 : p ≤ 1000000000 := by omega
      have hxw : IntKind.u64.wrap (x : Int) = (x : Int) := by rw [IntKind.wrap_u64]; omega
      have HIS : Hid ((at' + (got + (8 - s))) % 8 = 0) := Lib.hid (by omega)
      obtain ⟨t, ht⟩ : ∃ t, t = 8 - s := ⟨_, rfl⟩
      have hti : (8 : Int) - (s : Int) = (t : Int) := by omega
      rw [← ht] at HD2 HIS
      have ht8 : t ≤ 8 := by omega
      have ht1 : 1 ≤ t := by omega
      have hg64 : (got : Int) < 64 := by omega
      have hs64 : (s : Int) < 64 := by omega
      clear hi hs his hb hx hd2 hp ht hdlt
      go_wp2
      go_roundw
      case rel => exact ⟨got + t, d2, by go_num, rfl, HD2.out, by omega, .inr HIS.out, by trivial⟩
      case measure => simp [intOf]; omega
    · have hd64 : d < 18446744073709551616 := by rw [HD.out]; exact Nat.mod_lt _ (by decide)
      have hmask := mask_w d w hw hd64
      have HM : Hid (d % 2 ^ w = bitsAt V at' w) := Lib.hid (by
        rw [HD.out]
        unfold bitsAt
        have h1 : 2 ^ w ∣ 18446744073709551616 := ⟨2 ^ (64 - w), by rw [← Nat.pow_add, show w + (64 - w) = 64 by omega]⟩
        have h2 : 2 ^ w ∣ 2 ^ got := ⟨2 ^ (got - w), by rw [← Nat.pow_add, show w + (got - w) = got by omega]⟩
        rw [Nat.mod_mod_of_dvd _ h1, Nat.mod_mod_of_dvd _ h2])
      rw [HM.out] at hmask
      have hw64 : (w : Int) ≤ 64 := by omega
      go_wp2
      go_ret
      exact ⟨rfl, rfl⟩
end Go.Proofs.Ytplmafbdalkopaa
