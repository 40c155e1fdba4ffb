/-
  CRC-32 as plain numbers: the code's halves of bytes, the document's bits, and what a turned bit does.
-/
import Derived.Test.YtpobfgokikfmbaaDoorRows
import Derived.Test.YtpobfgokikfmbaaDoorQPrds0
import Derived.WalkKit
import Derived.WalkSpells
import Derived.WalkLawsBesides
import Derived.Laws.BitsAllLaws
import Derived.Lib.Hide
import Derived.Lib.SlBytesConst
import Derived.Deep.QuietTactic
import Derived.BigQuiet
import Derived.Deep.AppendLies
import Derived.Laws.CopyOwn
import Derived.Maps.AppendAt
import Derived.Deep.RegionHeld3
import Derived.Deep.Draws
import Derived.Lib.AppendZerosOnto
import Derived.Deep.RegionLaw
import Derived.Lib.SliceRun
import Derived.Deep.MidRow
import Derived.Deep.WholeRow
import Derived.Test.YtpobfgokikfmbaaDoorQPrds8
import Derived.Test.YtpobfgokikfmbaaDoorQPrds7
set_option linter.unusedSimpArgs false
set_option linter.unusedVariables false
set_option maxRecDepth 8000
namespace Go.Proofs.YtpobfgokikfmbaaDoor
namespace Pg

theorem xor_left (a b c : Nat) : a ^^^ (b ^^^ c) = b ^^^ (a ^^^ c) := by rw [← Nat.xor_assoc, Nat.xor_comm a b, Nat.xor_assoc]
theorem xor_same {x y : Nat} (h : x ^^^ y = 0) : x = y := by
  have h2 : x ^^^ (x ^^^ y) = x := by rw [h, Nat.xor_zero]
  rw [← Nat.xor_assoc, Nat.xor_self, Nat.zero_xor] at h2; exact h2.symm
theorem xor_mod (x y : Nat) : (x ^^^ y) % 2 = (x + y) % 2 := by
  have h := @Nat.xor_mod_two_eq_one x y
  omega
def poly : Nat := 3988292384
def full : Nat := 4294967295
/-- A bit's step. -/
def step (x : Nat) : Nat := if x % 2 = 1 then x / 2 ^^^ poly else x / 2
def steps : Nat → Nat → Nat
  | 0, x => x
  | n + 1, x => steps n (step x)

theorem step_xor (x y : Nat) : step (x ^^^ y) = step x ^^^ step y := by
  have hm : (x ^^^ y) % 2 = (x + y) % 2 := xor_mod x y
  have hd : (x ^^^ y) / 2 = x / 2 ^^^ y / 2 := Nat.xor_div_two
  unfold step
  rw [hd, hm]
  by_cases hx : x % 2 = 1 <;> by_cases hy : y % 2 = 1
  · rw [if_neg (by omega), if_pos hx, if_pos hy, show (x / 2 ^^^ poly) ^^^ (y / 2 ^^^ poly) = (x / 2 ^^^ y / 2) ^^^ (poly ^^^ poly) by simp only [Nat.xor_assoc, Nat.xor_comm, xor_left], Nat.xor_self, Nat.xor_zero]
  · rw [if_pos (by omega), if_pos hx, if_neg hy]; simp only [Nat.xor_assoc, Nat.xor_comm, xor_left]
  · rw [if_pos (by omega), if_neg hx, if_pos hy]; simp only [Nat.xor_assoc]
  · rw [if_neg (by omega), if_neg hx, if_neg hy]
theorem steps_xor : ∀ (n x y : Nat), steps n (x ^^^ y) = steps n x ^^^ steps n y
  | 0, _, _ => rfl
  | n + 1, x, y => by show steps n (step (x ^^^ y)) = _; rw [step_xor, steps_xor n]; rfl
theorem step_two (y : Nat) : step (2 * y) = y := by unfold step; rw [if_neg (by omega)]; omega
theorem steps_add : ∀ (m n x : Nat), steps (m + n) x = steps n (steps m x)
  | 0, n, x => by rw [Nat.zero_add]; rfl
  | m + 1, n, x => by rw [Nat.succ_add]; exact steps_add m n (step x)
theorem steps_pow : ∀ (n y : Nat), steps n (2 ^ n * y) = y
  | 0, y => by simp [steps]
  | n + 1, y => by
    show steps n (step (2 ^ (n + 1) * y)) = y
    rw [Nat.pow_succ, show 2 ^ n * 2 * y = 2 * (2 ^ n * y) by rw [Nat.mul_comm (2 ^ n) 2, Nat.mul_assoc], step_two, steps_pow n]
theorem steps_zero : ∀ n : Nat, steps n 0 = 0
  | 0 => rfl
  | n + 1 => steps_zero n
theorem step_lt {x : Nat} (h : x < 4294967296) : step x < 4294967296 := by
  unfold step
  split
  · exact Nat.xor_lt_two_pow (n := 32) (by omega) (by decide)
  · omega
theorem steps_lt : ∀ (n : Nat) {x : Nat}, x < 4294967296 → steps n x < 4294967296
  | 0, _, h => h
  | n + 1, _, h => steps_lt n (step_lt h)
theorem step_ne {x : Nat} (h : x < 4294967296) (h0 : x ≠ 0) : step x ≠ 0 := by
  unfold step
  split
  · intro e
    have e2 : x / 2 = poly := xor_same e
    unfold poly at e2; omega
  · omega
theorem steps_ne : ∀ (n : Nat) {x : Nat}, x < 4294967296 → x ≠ 0 → steps n x ≠ 0
  | 0, _, _, h0 => h0
  | n + 1, _, h, h0 => steps_ne n (step_lt h) (step_ne h h0)
theorem steps_inj (n : Nat) {x y : Nat} (hx : x < 4294967296) (hy : y < 4294967296) (h : steps n x = steps n y) : x = y := by
  rcases Nat.decEq (x ^^^ y) 0 with h0 | h0
  · exact absurd (by rw [steps_xor, h, Nat.xor_self]) (steps_ne n (Nat.xor_lt_two_pow (n := 32) hx hy) h0)
  · exact xor_same h0
/-- A number's upper part and its lower bits. -/
theorem split_xor (k x : Nat) : x = 2 ^ k * (x / 2 ^ k) ^^^ x % 2 ^ k := by
  apply Nat.eq_of_testBit_eq
  intro i
  rw [Nat.testBit_xor, Nat.testBit_two_pow_mul, Nat.testBit_mod_two_pow]
  by_cases h : k ≤ i
  · rw [Nat.testBit_div_two_pow]
    simp [h, show ¬ i < k by omega, Nat.sub_add_cancel h, Nat.add_sub_cancel' h]
  · simp [h, show i < k by omega]
theorem steps_split (k x : Nat) : steps k x = x / 2 ^ k ^^^ steps k (x % 2 ^ k) := by
  conv => lhs; rw [split_xor k x]
  rw [steps_xor, steps_pow]

/-- The table of the halves. -/
def half (i : Nat) : Nat := (#[0, 498536548, 997073096, 651767980, 1994146192, 1802195444, 1303535960, 1342533948, 3988292384, 4027552580, 3604390888, 3412177804, 2607071920, 2262029012, 2685067896, 3183342108] : Array Nat).getD i 0
theorem half_steps : ∀ i : _root_.Fin 16, half i.val = steps 4 i.val := by decide +kernel
theorem half_lt : ∀ i : _root_.Fin 16, half i.val < 4294967296 := by decide +kernel
theorem by_half (x : Nat) : x / 16 ^^^ half (x % 16) = steps 4 x := by
  rw [steps_split 4 x, half_steps ⟨x % 16, Nat.mod_lt _ (by decide)⟩]

/-- The rest behind a byte; behind bytes; the sum of bytes. -/
def byteOn (c b : Nat) : Nat := steps 8 (c ^^^ b)
def on (c : Nat) (l : List Nat) : Nat := l.foldl byteOn c
def sum (l : List Nat) : Nat := on full l ^^^ full
theorem byteOn_half (c b : Nat) : byteOn c b = steps 4 (c ^^^ b) / 16 ^^^ half (steps 4 (c ^^^ b) % 16) := by
  rw [by_half]; exact steps_add 4 4 _
theorem byteOn_lt {c b : Nat} (hc : c < 4294967296) (hb : b < 256) : byteOn c b < 4294967296 := steps_lt 8 (Nat.xor_lt_two_pow (n := 32) hc (by omega))
theorem on_lt : ∀ (l : List Nat) {c : Nat}, c < 4294967296 → (∀ x ∈ l, x < 256) → on c l < 4294967296
  | [], _, h, _ => h
  | b :: l, c, h, hl => on_lt l (byteOn_lt h (hl b (by simp))) (fun x hx => hl x (by simp [hx]))
theorem sum_lt {l : List Nat} (h : ∀ x ∈ l, x < 256) : sum l < 4294967296 := Nat.xor_lt_two_pow (n := 32) (on_lt l (by decide) h) (by decide)
theorem on_snoc (c : Nat) (l : List Nat) (b : Nat) : on c (l ++ [b]) = byteOn (on c l) b := by unfold on; rw [List.foldl_append]; rfl

/-- The document's way: bit by bit. -/
def bitOn (c b : Nat) : Nat → Nat
  | 0 => c
  | k + 1 => if (bitOn c b k ^^^ b / 2 ^ k) % 2 = 1 then bitOn c b k / 2 ^^^ poly else bitOn c b k / 2
theorem bitOn_steps (c b : Nat) : ∀ k : Nat, steps k (c ^^^ b) = bitOn c b k ^^^ b / 2 ^ k
  | 0 => by simp [steps, bitOn]
  | k + 1 => by
    rw [steps_add k 1, bitOn_steps c b k]
    show step _ = _
    have hd : (bitOn c b k ^^^ b / 2 ^ k) / 2 = bitOn c b k / 2 ^^^ b / 2 ^ (k + 1) := by rw [Nat.xor_div_two, Nat.div_div_eq_div_mul, Nat.pow_succ]
    unfold step
    show _ = (if (bitOn c b k ^^^ b / 2 ^ k) % 2 = 1 then bitOn c b k / 2 ^^^ poly else bitOn c b k / 2) ^^^ b / 2 ^ (k + 1)
    rw [hd]
    split
    · simp only [Nat.xor_assoc, Nat.xor_comm, xor_left]
    · rfl
theorem bitOn_byte (c b : Nat) (hb : b < 256) : bitOn c b 8 = byteOn c b := by
  unfold byteOn
  rw [bitOn_steps c b 8, show b / 2 ^ 8 = 0 by omega, Nat.xor_zero]
theorem bitOn_lt (c b : Nat) (hc : c < 4294967296) : ∀ k : Nat, bitOn c b k < 4294967296
  | 0 => hc
  | k + 1 => by
    have h := bitOn_lt c b hc k
    unfold bitOn
    split
    · exact Nat.xor_lt_two_pow (n := 32) (by omega) (by decide)
    · omega

/-! Bytes as one number -/
def val : List Nat → Nat
  | [] => 0
  | b :: l => b + 256 * val l
theorem val_cons_xor (b : Nat) (l : List Nat) (hb : b < 256) : val (b :: l) = b ^^^ 256 * val l := by
  have h := split_xor 8 (b + 256 * val l)
  rw [show (b + 256 * val l) / 2 ^ 8 = val l by omega, show (b + 256 * val l) % 2 ^ 8 = b by omega] at h
  show b + 256 * val l = _
  rw [h]; exact Nat.xor_comm _ _
theorem on_val : ∀ (l : List Nat) (c : Nat), (∀ x ∈ l, x < 256) → on c l = steps (8 * l.length) (c ^^^ val l)
  | [], c, _ => by simp [on, val, steps]
  | b :: l, c, h => by
    show on (byteOn c b) l = _
    rw [on_val l _ (fun x hx => h x (by simp [hx])), val_cons_xor b l (h b (by simp)), List.length_cons, Nat.mul_succ, Nat.add_comm (8 * l.length) 8, steps_add 8]
    rw [← Nat.xor_assoc, steps_xor 8 (c ^^^ b), show 256 * val l = 2 ^ 8 * val l from rfl, steps_pow 8]; rfl
theorem val_append : ∀ (l m : List Nat), val (l ++ m) = val l + 256 ^ l.length * val m
  | [], m => by simp [val]
  | b :: l, m => by
    show b + 256 * val (l ++ m) = b + 256 * val l + 256 ^ (l.length + 1) * val m
    rw [val_append l m, Nat.pow_succ, Nat.mul_comm (256 ^ l.length) 256, Nat.mul_assoc]; omega
theorem val_lt : ∀ (l : List Nat), (∀ x ∈ l, x < 256) → val l < 256 ^ l.length
  | [], _ => by simp [val]
  | b :: l, h => by
    have h1 := h b (by simp)
    have h2 := val_lt l (fun x hx => h x (by simp [hx]))
    show b + 256 * val l < 256 ^ (l.length + 1)
    rw [Nat.pow_succ]; omega
/-- A number as four bytes. -/
def four (n : Nat) : List Nat := [n % 256, n / 256 % 256, n / 65536 % 256, n / 16777216 % 256]
theorem val_four (n : Nat) (h : n < 4294967296) : val (four n) = n := by unfold four val val val val val; omega
theorem four_lt (n : Nat) : ∀ x ∈ four n, x < 256 := by
  intro x hx; unfold four at hx; simp at hx; omega
theorem four_val : ∀ (l : List Nat), l.length = 4 → (∀ x ∈ l, x < 256) → four (val l) = l
  | [a, b, c, d], _, h => by
    have h1 := h a (by simp); have h2 := h b (by simp); have h3 := h c (by simp); have h4 := h d (by simp)
    show [_, _, _, _] = _
    simp only [val]
    rw [show (a + 256 * (b + 256 * (c + 256 * (d + 256 * 0)))) % 256 = a by omega, show (a + 256 * (b + 256 * (c + 256 * (d + 256 * 0)))) / 256 % 256 = b by omega,
      show (a + 256 * (b + 256 * (c + 256 * (d + 256 * 0)))) / 65536 % 256 = c by omega, show (a + 256 * (b + 256 * (c + 256 * (d + 256 * 0)))) / 16777216 % 256 = d by omega]
/-- Bytes with a sum behind them: the sum is theirs just if the whole leaves what it must. -/
theorem whole_iff (l m : List Nat) (hl : ∀ x ∈ l, x < 256) (hm : ∀ x ∈ m, x < 256) (h4 : m.length = 4) : val m = sum l ↔ on full (l ++ m) = steps 32 full := by
  have hmv := val_lt m hm
  rw [h4] at hmv
  have h1 : on full (l ++ m) = steps 32 (on full l ^^^ val m) := by
    unfold on; rw [List.foldl_append]
    show on (on full l) m = _
    rw [on_val m _ hm, h4]; rfl
  rw [h1]
  have hs := on_lt l (c := full) (by decide) hl
  constructor
  · intro h
    rw [h]; unfold sum
    rw [← Nat.xor_assoc, Nat.xor_self, Nat.zero_xor]
  · intro h
    have := steps_inj 32 (Nat.xor_lt_two_pow (n := 32) hs (by omega)) (by decide) h
    show val m = on full l ^^^ full
    generalize on full l = z at this ⊢
    rw [← this, ← Nat.xor_assoc, Nat.xor_self, Nat.zero_xor]
/-- Bytes of which some were turned: the rest is the turned one's too. -/
theorem on_turned (l l' : List Nat) (q s : Nat) (hl : ∀ x ∈ l, x < 256) (hl' : ∀ x ∈ l', x < 256) (hn : l'.length = l.length) (hv : val l' = val l ^^^ 2 ^ s * q) (hs : s ≤ 8 * l.length) :
    on full l' = on full l ^^^ steps (8 * l.length - s) q := by
  rw [on_val l' _ hl', on_val l _ hl, hn, hv, ← Nat.xor_assoc, steps_xor]
  congr 1
  obtain ⟨d, hd⟩ : ∃ d, 8 * l.length = s + d := ⟨8 * l.length - s, by omega⟩
  rw [hd, steps_add, steps_pow, Nat.add_sub_cancel_left]
theorem turned_ne (l l' : List Nat) (q s : Nat) (hl : ∀ x ∈ l, x < 256) (hl' : ∀ x ∈ l', x < 256) (hn : l'.length = l.length) (hv : val l' = val l ^^^ 2 ^ s * q) (hs : s ≤ 8 * l.length) (hq : q < 4294967296) (h0 : q ≠ 0) :
    on full l' ≠ on full l := by
  rw [on_turned l l' q s hl hl' hn hv hs]
  intro h
  have h2 : on full l ^^^ (on full l ^^^ steps (8 * l.length - s) q) = 0 := by rw [h, Nat.xor_self]
  rw [← Nat.xor_assoc, Nat.xor_self, Nat.zero_xor] at h2
  exact steps_ne _ hq h0 h2
end Pg
end Go.Proofs.YtpobfgokikfmbaaDoor

set_option linter.unusedSimpArgs false
set_option linter.unusedVariables false
set_option maxRecDepth 8000
namespace Go.Proofs.YtpobfgokikfmbaaDoor
open Go.RowKit

theorem ret_eqP {v v' : Value} (h : v = v') : Ending.returned v = Ending.returned v' := by rw [h]
/-- The table's cells. -/
def HalvesAt (w : World) : Prop := ∀ i : Nat, i < 16 → w.cell? ⟨0, i, none⟩ = some (.int .u32 (Pg.half i : Nat))

theorem take_snoc' (l : List Nat) (k : Nat) (h : k < l.length) : l.take (k + 1) = l.take k ++ [l[k]] := by
  rw [List.take_succ_eq_append_getElem h]
theorem on_take (c : Nat) (l : List Nat) (k : Nat) (h : k < l.length) : Pg.on c (l.take (k + 1)) = Pg.byteOn (Pg.on c (l.take k)) l[k] := by
  rw [take_snoc' l k h, Pg.on_snoc]

/-- One half's step, in the walk's words. -/
theorem half_round (z : Nat) (hz : z < 4294967296) : bits .and .u32 (z : Int) 15 = ((z % 16 : Nat) : Int) ∧ bits .xor .u32 ((z : Int) / 16) (Pg.half (z % 16) : Nat) = ((Pg.steps 4 z : Nat) : Int) ∧ Pg.steps 4 z < 4294967296 := by
  refine ⟨?_, ?_, Pg.steps_lt 4 hz⟩
  · have h := u32_and_nat z 15 hz (by decide)
    rw [nat_mask4] at h; exact h
  · have h := u32_xor_nat (z / 16) (Pg.half (z % 16)) (by omega) (Pg.half_lt ⟨z % 16, Nat.mod_lt _ (by decide)⟩)
    rw [Pg.by_half] at h
    rw [← h]; congr 1

set_option maxHeartbeats 1000000 in
theorem sum_any (a : Option Addr) (l : List Nat) (len cap : Nat) (hlen : Hid (len = l.length)) (hl : len ≤ maxLen) (w : World) (HA : Hid (ByAt w a l)) (HG : Hid (HalvesAt w)) :
    Calls Tryd.prog 24 #[.slice a len cap] w fun e w' => e = .returned (.int .u32 (Pg.sum l : Nat)) ∧ w = w' := by
  unfold maxLen at hl
  go_enter Tryd.func24, Tryd.ntmps24
  go_wp2
  go_loop [3, 8] (fun c i => ∃ k : Nat, k ≤ len ∧ i = .int .i64 k ∧ c = .int .u32 (Pg.on Pg.full (l.take k) : Nat)) (fun _ i => len - (intOf i).toNat)
  case atStart => exact ⟨0, Nat.zero_le _, rfl, rfl⟩
  case round =>
    obtain ⟨k, hk, rfl, rfl⟩ := hrel
    by_cases hlt : k < len
    · have hkl : k < l.length := by have := hlen.out; omega
      obtain ⟨hx, g, off, rfl, hg, hc⟩ := HA.out k l[k] (List.getElem?_eq_getElem hkl)
      have hst := Lib.hid (on_take Pg.full l k hkl)
      have hc0 : Pg.on Pg.full (l.take k) < 4294967296 := Pg.on_lt _ (by decide) (fun x hx => HA.out.lt x (List.mem_of_mem_take hx))
      generalize Pg.on Pg.full (l.take k) = c at *
      generalize l[k] = b at *
      have hz : c ^^^ b < 4294967296 := Nat.xor_lt_two_pow (n := 32) hc0 (by omega)
      have e0 : bits .xor .u32 (c : Int) (b : Int) = ((c ^^^ b : Nat) : Int) := u32_xor_nat c b hc0 (by omega)
      have hb8 : Hid (Pg.byteOn c b = Pg.steps 4 (Pg.steps 4 (c ^^^ b))) := Lib.hid (Pg.steps_add 4 4 _)
      generalize c ^^^ b = z at *
      obtain ⟨e1, e2, hz2⟩ := half_round z hz
      have hc1 := HG.out (z % 16) (Nat.mod_lt _ (by decide))
      have hi1 : (0 : Int) ≤ ((z % 16 : Nat) : Int) := by omega
      have hj1 : ((z % 16 : Nat) : Int) < 16 := by omega
      have hn1 : (((z % 16 : Nat) : Int)).toNat = z % 16 := by omega
      generalize Pg.steps 4 z = y at *
      obtain ⟨e3, e4, hz3⟩ := half_round y hz2
      have hc2 := HG.out (y % 16) (Nat.mod_lt _ (by decide))
      have hi2 : (0 : Int) ≤ ((y % 16 : Nat) : Int) := by omega
      have hj2 : ((y % 16 : Nat) : Int) < 16 := by omega
      have hn2 : (((y % 16 : Nat) : Int)).toNat = y % 16 := by omega
      generalize Pg.half (z % 16) = h1 at *
      generalize Pg.half (y % 16) = h2 at *
      generalize z % 16 = m1 at *
      generalize y % 16 = m2 at *
      go_wp2
      go_round
      case rel => exact ⟨k + 1, by omega, by go_num, by rw [hst.out, hb8.out]⟩
      case measure => simp [intOf]; omega
    · have hT : Hid (l.take k = l) := Lib.hid (List.take_of_length_le (by have := hlen.out; omega))
      have hc0 : Pg.on Pg.full (l.take k) < 4294967296 := Pg.on_lt _ (by decide) (fun x hx => HA.out.lt x (List.mem_of_mem_take hx))
      have hs : Hid (Pg.sum l = Pg.on Pg.full (l.take k) ^^^ 4294967295) := Lib.hid (by rw [hT.out]; rfl)
      generalize Pg.on Pg.full (l.take k) = c at *
      have e0 : bits .xor .u32 IntKind.u32.max (c : Int) = ((c ^^^ 4294967295 : Nat) : Int) := by
        rw [Nat.xor_comm]; exact u32_xor_nat 4294967295 c (by decide) hc0
      go_wp2
      go_ret
      exact ⟨ret_eqP (by rw [hs.out]; rfl), rfl⟩

/-- One bit's step of the document's way, in the walk's words. -/
theorem bit_round (c b k : Nat) (hc : c < 4294967296) (hb : b < 256) :
    bits .xor .u32 (c : Int) ((b : Int) / 2 ^ k % 4294967296) = ((c ^^^ b / 2 ^ k : Nat) : Int) := by
  have hl : b / 2 ^ k < 256 := Nat.lt_of_le_of_lt (Nat.div_le_self _ _) hb
  rw [← u32_xor_nat c (b / 2 ^ k) hc (by omega)]
  congr 1
  have e : (b : Int) / 2 ^ k = ((b / 2 ^ k : Nat) : Int) := by push_cast; rfl
  rw [e]
  generalize b / 2 ^ k = q at *
  omega

set_option maxHeartbeats 1000000 in
theorem refSum_any (a : Option Addr) (l : List Nat) (len cap : Nat) (hlen : Hid (len = l.length)) (hl : len ≤ maxLen) (w : World) (HA : Hid (ByAt w a l)) :
    Calls Tryd.prog 37 #[.slice a len cap] w fun e w' => e = .returned (.int .u32 (Pg.sum l : Nat)) ∧ w = w' := by
  unfold maxLen at hl
  go_enter Tryd.func37, Tryd.ntmps37
  go_wp2
  go_loop [3, 4] (fun c i => ∃ k : Nat, k ≤ len ∧ i = .int .i64 k ∧ c = .int .u32 (Pg.on Pg.full (l.take k) : Nat)) (fun _ i => len - (intOf i).toNat)
  case atStart => exact ⟨0, Nat.zero_le _, rfl, rfl⟩
  case round =>
    obtain ⟨k, hk, rfl, rfl⟩ := hrel
    by_cases hlt : k < len
    · have hkl : k < l.length := by have := hlen.out; omega
      obtain ⟨hx, g, off, rfl, hg, hc⟩ := HA.out k l[k] (List.getElem?_eq_getElem hkl)
      have hst := Lib.hid (on_take Pg.full l k hkl)
      have hc0 : Pg.on Pg.full (l.take k) < 4294967296 := Pg.on_lt _ (by decide) (fun x hx => HA.out.lt x (List.mem_of_mem_take hx))
      generalize Pg.on Pg.full (l.take k) = c at *
      generalize l[k] = b at *
      have hfin := Lib.hid (Pg.bitOn_byte c b hx)
      have hbl := Lib.hid (Pg.bitOn_lt c b hc0)
      go_wp2
      go_loop [3, 5] (fun c' i => ∃ j : Nat, j ≤ 8 ∧ i = .int .i64 j ∧ c' = .int .u32 (Pg.bitOn c b j : Nat)) (fun _ i => 8 - (intOf i).toNat)
      case atStart => exact ⟨0, Nat.zero_le _, rfl, rfl⟩
      case round =>
        obtain ⟨j, hj, rfl, rfl⟩ := hrel
        by_cases hjt : j < 8
        · have h1 := hbl.out j
          have hs1 : Hid (Pg.bitOn c b (j + 1) = if (Pg.bitOn c b j ^^^ b / 2 ^ j) % 2 = 1 then Pg.bitOn c b j / 2 ^^^ Pg.poly else Pg.bitOn c b j / 2) := rfl
          have e0 := bit_round (Pg.bitOn c b j) b j h1 hx
          generalize Pg.bitOn c b j = y at *
          have hp : bits .xor .u32 ((y : Int) / 2) 3988292384 = ((y / 2 ^^^ Pg.poly : Nat) : Int) := u32_xor_nat (y / 2) Pg.poly (by omega) (by decide)
          generalize (y ^^^ b / 2 ^ j) = z at *
          go_wp2
          · have hz : ((z : Int).tmod 2 == 1) = true := by assumption
            rw [Int.tmod_eq_emod_of_nonneg (by omega)] at hz
            go_round
            case rel => exact ⟨j + 1, by omega, by go_num, by rw [hs1.out, if_pos (by rw [beq_iff_eq] at hz; omega)]⟩
            case measure => simp [intOf]; omega
          · have hz : ((z : Int).tmod 2 == 1) = false := by assumption
            rw [Int.tmod_eq_emod_of_nonneg (by omega)] at hz
            go_round
            case rel => exact ⟨j + 1, by omega, by go_num, by rw [hs1.out, if_neg (by rw [beq_eq_false_iff_ne] at hz; omega)]; go_num⟩
            case measure => simp [intOf]; omega
        · go_wp2
          go_round
          case rel => exact ⟨k + 1, by omega, by go_num, by rw [hst.out, ← hfin.out, show j = 8 by omega]⟩
          case measure => simp [intOf]; omega
    · have hT : Hid (l.take k = l) := Lib.hid (List.take_of_length_le (by have := hlen.out; omega))
      have hc0 : Pg.on Pg.full (l.take k) < 4294967296 := Pg.on_lt _ (by decide) (fun x hx => HA.out.lt x (List.mem_of_mem_take hx))
      have hs : Hid (Pg.sum l = Pg.on Pg.full (l.take k) ^^^ 4294967295) := Lib.hid (by rw [hT.out]; rfl)
      generalize Pg.on Pg.full (l.take k) = c at *
      have e0 : bits .xor .u32 (c : Int) 4294967295 = ((c ^^^ 4294967295 : Nat) : Int) := u32_xor_nat c 4294967295 hc0 (by decide)
      go_wp2
      go_ret
      exact ⟨ret_eqP (by rw [hs.out]; rfl), rfl⟩
end Go.Proofs.YtpobfgokikfmbaaDoor

set_option linter.unusedSimpArgs false
set_option linter.unusedVariables false
set_option maxRecDepth 8000
namespace Go.Proofs.YtpobfgokikfmbaaDoor
open Go.RowKit

theorem HalvesAt.keep {w w' : World} (h : HalvesAt w) (hb : Below w.heap.size w w') : HalvesAt w' := fun i hi =>
  (hb.cell (p := ⟨0, i, none⟩) (World.block_lt_of_cell? w _ (h i hi))).trans (h i hi)
theorem digits_sum : Pg.sum [49, 50, 51, 52, 53, 54, 55, 56, 57] = 3421780262 := by decide +kernel
theorem HalvesAt.at {w w' : World} (h : Hid (HalvesAt w)) (hb : Below w.heap.size w w') : Hid (HalvesAt w') := h.out.keep hb

end Go.Proofs.YtpobfgokikfmbaaDoor

set_option linter.unusedSimpArgs false
set_option linter.unusedVariables false
set_option maxRecDepth 8000
namespace Go.Proofs.YtpobfgokikfmbaaDoor
open Go.RowKit

def fourC (n : Nat) : Array Value := #[bv (n % 256), bv (n / 256 % 256), bv (n / 65536 % 256), bv (n / 16777216 % 256)]
theorem fourC_list (n : Nat) : (fourC n).toList = bys (Pg.four n) := rfl
theorem fourC_mk (n : Nat) (a b c d : Int) (ha : a = ((n % 256 : Nat) : Int)) (hb : b = ((n / 256 % 256 : Nat) : Int)) (hc : c = ((n / 65536 % 256 : Nat) : Int)) (hd : d = ((n / 16777216 % 256 : Nat) : Int)) :
    #[Value.int .u8 a, .int .u8 b, .int .u8 c, .int .u8 d] = fourC n := by subst ha hb hc hd; rfl
set_option maxHeartbeats 1000000 in
theorem four_any (n : Nat) (hn : n < 4294967296) (w : World) :
    Calls Tryd.prog 36 #[.int .u32 n] w fun e w' => e = .returned (.slice (some ⟨w.heap.size, 0, none⟩) 4 4) ∧ w.alloc (.cells (fourC n) 5) = w' := by
  go_enter Tryd.func36, Tryd.ntmps36
  go_wp2
  go_ret
  exact ⟨rfl, alloc_eq _ (fourC_mk n _ _ _ _ (by omega) (by omega) (by omega) (by omega)).symm⟩

theorem or_join (a b c d : Nat) (ha : a < 256) (hb : b < 256) (hc : c < 256) (hd : d < 256) :
    a ||| b * 256 ||| c * 65536 ||| d * 16777216 = a + 256 * (b + 256 * (c + 256 * (d + 256 * 0))) := by
  have h1 : a ||| b * 256 = b * 256 + a := by rw [Nat.or_comm]; exact nat_join 8 (b * 256) a (by omega) (by omega)
  have h2 : (b * 256 + a) ||| c * 65536 = c * 65536 + (b * 256 + a) := by rw [Nat.or_comm]; exact nat_join 16 (c * 65536) _ (by omega) (by omega)
  have h3 : (c * 65536 + (b * 256 + a)) ||| d * 16777216 = d * 16777216 + (c * 65536 + (b * 256 + a)) := by rw [Nat.or_comm]; exact nat_join 24 (d * 16777216) _ (by omega) (by omega)
  rw [h1, h2, h3]; omega

set_option maxHeartbeats 1000000 in
theorem wordOf_any (a : Option Addr) (l : List Nat) (len cap : Nat) (hlen : Hid (len = l.length)) (h4 : 4 ≤ len) (hl : len ≤ maxLen) (w : World) (HA : Hid (ByAt w a l)) :
    Calls Tryd.prog 23 #[.slice a len cap] w fun e w' => e = .returned (.int .u32 (Pg.val (l.take 4) : Nat)) ∧ ∃ n, w' = w.drewN n := by
  unfold maxLen at hl
  obtain ⟨b0, b1, b2, b3, r, rfl⟩ : ∃ b0 b1 b2 b3 r, l = b0 :: b1 :: b2 :: b3 :: r := by
    have h := hlen.out
    match l, h with
    | b0 :: b1 :: b2 :: b3 :: r, _ => exact ⟨b0, b1, b2, b3, r, rfl⟩
    | [_, _, _], h => simp at h; omega
    | [_, _], h => simp at h; omega
    | [_], h => simp at h; omega
    | [], h => simp at h; omega
  obtain ⟨g, off, rfl, hg, hc⟩ := HA.out.spot (by simp)
  have c0 := hc 0 b0 rfl
  have c1 := hc 1 b1 rfl
  have c2 := hc 2 b2 rfl
  have c3 := hc 3 b3 rfl
  have l0 := HA.out.lt b0 (by simp)
  have l1 := HA.out.lt b1 (by simp)
  have l2 := HA.out.lt b2 (by simp)
  have l3 := HA.out.lt b3 (by simp)
  rw [Nat.add_zero] at c0
  clear hc
  have hj := Lib.hid (or_join b0 b1 b2 b3 l0 l1 l2 l3)
  have j0 : (0 : Int) < (len : Int) := by omega
  have j1 : (1 : Int) < (len : Int) := by omega
  have j2 : (2 : Int) < (len : Int) := by omega
  have j3 : (3 : Int) < (len : Int) := by omega
  have e1 : bits .or .u32 (b0 : Int) ((b1 : Int) * 256) = ((b0 ||| b1 * 256 : Nat) : Int) := u32_or_nat b0 (b1 * 256) (by omega) (by omega)
  have e2 : bits .or .u32 ((b0 ||| b1 * 256 : Nat) : Int) ((b2 : Int) * 65536) = ((b0 ||| b1 * 256 ||| b2 * 65536 : Nat) : Int) := u32_or_nat (b0 ||| b1 * 256) (b2 * 65536) (Nat.or_lt_two_pow (n := 32) (by omega) (by omega)) (by omega)
  have e3 : bits .or .u32 ((b0 ||| b1 * 256 ||| b2 * 65536 : Nat) : Int) ((b3 : Int) * 16777216) = ((b0 ||| b1 * 256 ||| b2 * 65536 ||| b3 * 16777216 : Nat) : Int) :=
    u32_or_nat (b0 ||| b1 * 256 ||| b2 * 65536) (b3 * 16777216) (Nat.or_lt_two_pow (n := 32) (Nat.or_lt_two_pow (n := 32) (by omega) (by omega)) (by omega)) (by omega)
  have hv : Hid (Pg.val ((b0 :: b1 :: b2 :: b3 :: r).take 4) = b0 + 256 * (b1 + 256 * (b2 + 256 * (b3 + 256 * 0)))) := rfl
  go_enter Tryd.func23, Tryd.ntmps23
  go_wp2
  go_quiet (fail)
  go_wp2
  go_ret
  exact ⟨ret_eqP (by rw [hv.out, ← hj.out]; rfl), _, rfl⟩
end Go.Proofs.YtpobfgokikfmbaaDoor

set_option linter.unusedSimpArgs false
set_option linter.unusedVariables false
set_option maxRecDepth 8000
namespace Go.Proofs.YtpobfgokikfmbaaDoor
open Go.RowKit

section
variable {w w' : World} {B n cap : Nat} {A : Option Addr} {l : List Nat}
end
set_option maxHeartbeats 1000000 in
theorem clone_any (a : Option Addr) (l : List Nat) (len cap : Nat) (hlen : Hid (len = l.length)) (hl : len ≤ 140737488355328) (w : World) (HA : Hid (ByAt w a l)) :
    Calls Tryd.prog 25 #[.slice a len cap] w (RetS w l) := by
  have q22 : ∀ (w : World) (a : Option Addr) (n c n' c' : Nat), (binOp .eql 22 (.slice a n c) (.slice none n' c')).run Tryd.prog w = .ok (.bool a.isNone) w := fun w a n c n' c' => Lib.run_eql_slice_nil w _ _ a n c n' c' Tryd.underlying22
  have hl9 : len ≤ maxLen := by unfold maxLen; omega
  rcases a with _ | ad
  · have e : l = [] := by
      rcases l with _ | ⟨x, r⟩
      · rfl
      · obtain ⟨-, g, off, e, -⟩ := HA.out 0 x rfl; cases e
    subst e
    have e : len = 0 := hlen.out
    subst e
    go_enter Tryd.func25, Tryd.ntmps25
    go_wp2
    go_ret
    exact ⟨none, 0, rfl, OwnS.nil _ _, Below.refl _ _⟩
  · have HA1 : Hid (ByAt (w.alloc (.cells #[] 5)) (some ad) l) := Lib.hid (HA.out.keep ((Below.refl _ _).alloc (Nat.le_refl _) _))
    have HO : Hid (OwnS (w.alloc (.cells #[] 5)) w.heap.size (some ⟨w.heap.size, 0, none⟩) 0 0 []) := Lib.hid ⟨World.ownsRow_made w #[] 0 (Nat.le_refl _) (Nat.zero_le _) (by simp), fun x hx => by cases hx⟩
    go_enter Tryd.func25, Tryd.ntmps25
    go_wp2_with (at_builtin; refine wpList_append_by rfl (.tmp 5) (.tmp 6) rfl w.heap.size (some ⟨w.heap.size, 0, none⟩) 0 0 [] rfl HO.out (some ad) len cap l rfl hlen.out HA1.out (by omega) (by simp) ?_; intro A' cap' w' hO hG hL)
    go_ret
    rw [Nat.zero_add, List.nil_append, hlen.out] at hO
    exact ⟨A', cap', by rw [← hlen.out]; rfl, hO, ((Below.refl _ w).alloc (Nat.le_refl _) _).grown hG (by simp) (by intro k hk; simp at hk; omega)⟩

/-! Cuts -/
end Go.Proofs.YtpobfgokikfmbaaDoor

set_option linter.unusedSimpArgs false
set_option linter.unusedVariables false
set_option maxRecDepth 8000
namespace Go.Proofs.YtpobfgokikfmbaaDoor
open Go.RowKit

/-- What Grow returns. -/
def RetG (w : World) (B n m : Nat) (l : List Nat) (e : Ending) (w' : World) : Prop := ∃ g cap cs, e = .returned (.slice (some ⟨g, 0, none⟩) n cap) ∧ Roomy w' B g n cap cs l ∧ n + m ≤ cap ∧ Below w.heap.size w w'

theorem zeroCells_len (n : Nat) : (Builtin.zeroCells (Value.int .u8 0).cells n).size = n := by
  unfold Builtin.zeroCells
  simp [Value.cells]

/-- There is no room: the append of Grow. -/
theorem grow_run (A : Option Addr) (n cap : Nat) (l : List Nat) (m : Nat) (B : Nat) (w : World) (HO : OwnS w B A n cap l) (hr : cap < n + m) (hbig : n + m ≤ 140737488355328) (hB : B ≤ w.heap.size) :
    ∃ W' G cs', (∀ ty, (Builtin.append_ #[22, 3] ty #[.slice A cap cap, .int .i64 ((n + m - cap : Nat) : Int)]).run Tryd.prog w = .ok (.slice (some ⟨w.heap.size, 0, none⟩) (n + m) G) W') ∧
      Roomy W' B w.heap.size n G cs' l ∧ n + m ≤ G ∧ Below w.heap.size w W' := by
  obtain ⟨hc1, hc2⟩ := HO.caps
  have hlen := HO.len
  obtain ⟨i0, hi0, hz0, hi1, hi2⟩ := info_parts infoU8
  obtain ⟨cs, hcl, hct, hold⟩ : ∃ cs : List Value, cs.length = cap ∧ cs.take n = bys l ∧ (Builtin.firstCells i0.size cap (.slice A cap cap)).run Tryd.prog w.drew = .ok cs.toArray w.drew := by
    rcases HO.1.2 with ⟨h1, h2⟩ | ⟨g, cap', cur, h1, hb, hrow, -, -, hs, ht⟩
    · cases h1
      have hl : l = [] := List.eq_nil_of_length_eq_zero hlen.symm
      subst hl
      exact ⟨[], rfl, rfl, run_firstCells_none w.drew i0.size 0 0 0⟩
    · cases h1
      refine ⟨cur.toList, by rw [Array.length_toList, hs, Nat.mul_one], by rw [← ht, Nat.mul_one], ?_⟩
      exact run_firstCells_some w.drew i0.size cap ⟨g, 0, none⟩ cap cap cur.toList (by rw [Array.length_toList, hs, hi1]) (fun j v hj => World.news_of_block (w := w.drew) hrow j v hj)
  have hck : cap + (n + m - cap) = n + m := by omega
  have hGn : n + m ≤ grownCap w (n + m) cap 5 := grownCap_ge w _ _ _
  have hG63 := grownCap_le_maxLen w (n + m) cap 5 (by unfold maxLen; omega)
  refine ⟨w.drew.alloc (.cells (cs.toArray ++ Builtin.zeroCells (Value.int .u8 0).cells (n + m - cap) ++ Builtin.zeroCells (Value.int .u8 0).cells (grownCap w (n + m) cap 5 - (n + m))) 5), grownCap w (n + m) cap 5, cs ++ ((Builtin.zeroCells (Value.int .u8 0).cells (n + m - cap)).toList ++ (Builtin.zeroCells (Value.int .u8 0).cells (grownCap w (n + m) cap 5 - (n + m))).toList), fun ty => ?_, ⟨?_, ?_, hG63, ?_, hB, HO.2⟩, hGn, ((Below.refl _ _).drew).alloc (Nat.le_refl _) _⟩
  · have h := Lib.run_append_grow_zeros w 22 3 ty 5 i0 (.int .u8 0) .i64 .i64 Tryd.underlying22 Tryd.underlying3 hi0 hz0 A cap cap cs hold (n + m - cap) (by omega) (by omega) (by omega) (by omega)
      (by rw [hi2]; omega) (by rw [hck]; exact growslice_fits (by omega) (by rw [hi2]; omega))
    rw [hck] at h
    exact h
  · rw [show w.heap.size = w.drew.heap.size from rfl, heap_alloc_new']
    congr 2
    simp
  · simp only [List.length_append, Array.length_toList, zeroCells_len, hcl]; omega
  · rw [List.take_append_of_le_length (by omega), hct]

end Go.Proofs.YtpobfgokikfmbaaDoor

set_option linter.unusedSimpArgs false
set_option linter.unusedVariables false
set_option maxRecDepth 8000
namespace Go.Proofs.YtpobfgokikfmbaaDoor
open Go.RowKit
namespace Pg
/-- How many bytes a page says it has; what is wrong with it; its parts. -/
def sz (q : List Nat) : Nat := val (q.take 4)
def errOf (q : List Nat) : Nat :=
  if q.length < 9 then 3 else if 1048576 < sz q then 3 else if q.length < sz q + 9 then 3 else if val ((q.drop (5 + sz q)).take 4) = sum (q.take (5 + sz q)) then 0 else 4
def errAt (l : List Nat) (i : Int) : Nat := if i < 0 ∨ (l.length : Int) < i then 1 else errOf (l.drop i.toNat)
def kindAt (l : List Nat) (i : Int) : Nat := if errAt l i = 0 then (l.drop i.toNat).getD 4 0 else 0
def bodyAt (l : List Nat) (i : Int) : List Nat := if errAt l i = 0 then ((l.drop i.toNat).drop 5).take (sz (l.drop i.toNat)) else []
def endAt (l : List Nat) (i : Int) : Int := if errAt l i = 0 then i + 9 + sz (l.drop i.toNat) else 0
theorem kind_err {l : List Nat} {i : Int} (h : errAt l i ≠ 0) : kindAt l i = 0 := if_neg h
theorem body_err {l : List Nat} {i : Int} (h : errAt l i ≠ 0) : bodyAt l i = [] := if_neg h
theorem end_err {l : List Nat} {i : Int} (h : errAt l i ≠ 0) : endAt l i = 0 := if_neg h
end Pg

/-- What a reading returns: the parts, or an error. -/
def RetQ (w : World) (l : List Nat) (i : Int) (e : Ending) (w' : World) : Prop := ∃ A cap, e = .returned (.tuple #[.int .u8 (Pg.kindAt l i : Nat), .slice A (Pg.bodyAt l i).length cap, .int .i64 (Pg.endAt l i), .int .i64 (Pg.errAt l i : Nat)]) ∧
  ByAt w' A (Pg.bodyAt l i) ∧ (Pg.bodyAt l i).length ≤ cap ∧ cap ≤ maxLen ∧ Below w.heap.size w w'
theorem RetQ.err {w w' : World} {l : List Nat} {i : Int} (c : Nat) (h : Pg.errAt l i = c) (hc : c ≠ 0) (hb : Below w.heap.size w w') : RetQ w l i (.returned (.tuple #[.int .u8 0, .slice none 0 0, .int .i64 0, .int .i64 (c : Nat)])) w' := by
  have h0 : Pg.errAt l i ≠ 0 := by rw [h]; exact hc
  refine ⟨none, 0, ?_, ?_, ?_, Nat.zero_le _, hb⟩
  · rw [Pg.kind_err h0, Pg.body_err h0, Pg.end_err h0, h]; rfl
  · rw [Pg.body_err h0]; exact ByAt.nil _ _
  · rw [Pg.body_err h0]; exact Nat.le_refl _

theorem wordOf_at (a : Option Addr) (l : List Nat) (len cap : Nat) (hlen : Hid (len = l.length)) (h4 : 4 ≤ len) (hl : len ≤ maxLen) (w : World) (HA : Hid (ByAt w a l)) :
    Calls Tryd.prog 23 #[.slice a len cap] w fun e w' => e = .returned (.int .u32 (Pg.sz l : Nat)) ∧ Below w.heap.size w w' :=
  (wordOf_any a l len cap hlen h4 hl w HA).mono fun _ _ ⟨h, n, hn⟩ => ⟨h, by rw [hn]; exact below_drewN (Below.refl _ _) n⟩
theorem wordOf_q (a : Option Addr) (l : List Nat) (N : Nat) (hN : Pg.val (l.take 4) = N) (len cap : Nat) (hlen : Hid (len = l.length)) (h4 : 4 ≤ len) (hl : len ≤ maxLen) (w : World) (HA : Hid (ByAt w a l)) :
    Calls Tryd.prog 23 #[.slice a len cap] w fun e w' => e = .returned (.int .u32 (N : Nat)) ∧ ∃ n, w' = w.drewN n := by
  rw [← hN]; exact wordOf_any a l len cap hlen h4 hl w HA
theorem sum_q (a : Option Addr) (l : List Nat) (N : Nat) (hN : Pg.sum l = N) (len cap : Nat) (hlen : Hid (len = l.length)) (hl : len ≤ maxLen) (w : World) (HA : Hid (ByAt w a l)) (HG : Hid (HalvesAt w)) :
    Calls Tryd.prog 24 #[.slice a len cap] w fun e w' => e = .returned (.int .u32 (N : Nat)) ∧ w' = w := by
  rw [← hN]; exact (sum_any a l len cap hlen hl w HA HG).mono fun _ _ ⟨h, hw⟩ => ⟨h, hw.symm⟩

set_option maxHeartbeats 1000000 in
/-- Where the place is none. -/
theorem read_arg (a : Option Addr) (l : List Nat) (len cap : Nat) (i : Int) (hlen : Hid (len = l.length)) (hl : len ≤ maxLen) (hi : i < 0 ∨ (len : Int) < i) (w : World) :
    Calls Tryd.prog 9 #[.slice a len cap, .int .i64 i] w (RetQ w l i) := by
  have he : Hid (Pg.errAt l i = 1) := Lib.hid (by unfold Pg.errAt; rw [if_pos]; rw [← hlen.out]; exact hi)
  unfold maxLen at hl
  by_cases h0 : i < 0
  all_goals
    (try (have h1 : (len : Int) < i := by omega))
    clear hi
    go_enter Tryd.func9, Tryd.ntmps9
    go_wp2
    refine bodyPost_ret (results_tmp4 rfl _ _ _) rfl ?_
    exact RetQ.err 1 he.out (by decide) (Below.refl _ _)

/-- What stands there, and from where it is taken. -/
structure Rest (w : World) (a : Option Addr) (l : List Nat) (len cap k : Nat) (A : Option Addr) (n C : Nat) (q : List Nat) : Prop where
  run : ∀ w, (Instr.slice 22 (.slice a len cap) (some (.int .i64 (k : Int))) none none).run Tryd.prog w = .ok (.slice A n C) w
  len : Hid (n = q.length)
  cap : n ≤ C
  cap' : C ≤ maxLen
  byAt : Hid (ByAt w A q)
  err : Pg.errAt l (k : Int) = Pg.errOf q
  drop : l.drop ((k : Int)).toNat = q
theorem rest_of (a : Option Addr) (l : List Nat) (len cap k : Nat) (hlen : Hid (len = l.length)) (hk : k ≤ len) (hc : len ≤ cap) (hl : cap ≤ maxLen) (w : World) (HA : Hid (ByAt w a l)) :
    ∃ A n C q, Rest w a l len cap k A n C q := by
  obtain ⟨A, C, hr, h1, h2, h3⟩ := cut_from a len cap k hk hc
  refine ⟨A, len - k, C, l.drop k, hr, Lib.hid (by rw [List.length_drop, hlen.out]), h1, by omega, Lib.hid (h3 w l hlen.out HA.out), ?_, rfl⟩
  unfold Pg.errAt
  rw [if_neg (by have := hlen.out; omega)]; rfl

set_option maxHeartbeats 1000000 in
theorem read_short (a : Option Addr) (l : List Nat) (len cap k : Nat) (hk : k ≤ len) (A : Option Addr) (n C : Nat) (q : List Nat) (w : World) (R : Hid (Rest w a l len cap k A n C q)) (hn : n < 9) (hl : len ≤ maxLen) :
    Calls Tryd.prog 9 #[.slice a len cap, .int .i64 (k : Int)] w (RetQ w l k) := by
  have he : Hid (Pg.errAt l k = 3) := Lib.hid (by rw [R.out.err]; unfold Pg.errOf; rw [if_pos (by rw [← R.out.len.out]; exact hn)])
  have hr := R.out.run
  have h1 : ¬ (len : Int) < (k : Int) := by omega
  unfold maxLen at hl
  go_enter Tryd.func9, Tryd.ntmps9
  go_wp2
  refine bodyPost_ret (results_tmp4 rfl _ _ _) rfl ?_
  exact RetQ.err 3 he.out (by decide) (Below.refl _ _)

set_option maxHeartbeats 1000000 in
/-- Where it says more than there is, or than may be. -/
theorem read_long (a : Option Addr) (l : List Nat) (len cap k : Nat) (hk : k ≤ len) (A : Option Addr) (n C : Nat) (q : List Nat) (w : World) (R : Hid (Rest w a l len cap k A n C q)) (hn : ¬ n < 9) (hl : len ≤ maxLen)
    (hs : 1048576 < Pg.sz q ∨ n < Pg.sz q + 9) (hz : Pg.sz q < 4294967296) :
    Calls Tryd.prog 9 #[.slice a len cap, .int .i64 (k : Int)] w (RetQ w l k) := by
  have hc' := R.out.cap'
  have hcn := R.out.cap
  have he : Hid (Pg.errAt l k = 3) := Lib.hid (by
    have hq := R.out.len.out
    rw [R.out.err]; unfold Pg.errOf
    rw [if_neg (by omega)]
    by_cases h : 1048576 < Pg.sz q
    · rw [if_pos h]
    · rw [if_neg h, if_pos (by omega)])
  have hr := R.out.run
  have HL := R.out.len
  have HQ := R.out.byAt
  have h1 : ¬ (len : Int) < (k : Int) := by omega
  unfold maxLen at hl hc'
  obtain ⟨N, hN⟩ : ∃ N, N = Pg.sz q := ⟨_, rfl⟩
  rw [← hN] at hs hz
  have HN := Lib.hid hN
  clear hN
  by_cases h2 : 1048576 < N
  all_goals
    (try (have h3 : n < N + 9 := by omega))
    clear hs
    go_enter Tryd.func9, Tryd.ntmps9
    go_wp2_with (go_at_call 23; (refine (wordOf_at A q n C HL (by omega) (by unfold maxLen; omega) w HQ).mono ?_); rintro e w2 ⟨rfl, hb⟩; rw [← HN.out]; have HB := Lib.hid hb; clear hb)
    refine bodyPost_ret (results_tmp4 rfl _ _ _) rfl ?_
    exact RetQ.err 3 he.out (by decide) HB.out
end Go.Proofs.YtpobfgokikfmbaaDoor

set_option linter.unusedSimpArgs false
set_option linter.unusedVariables false
set_option maxRecDepth 8000
namespace Go.Proofs.YtpobfgokikfmbaaDoor
open Go.RowKit

namespace Pg
/-- A page, but for its sum; a page. -/
def front (kind : Nat) (body : List Nat) : List Nat := four body.length ++ kind :: body
def lay (kind : Nat) (body : List Nat) : List Nat := front kind body ++ four (sum (front kind body))
theorem front_len (kind : Nat) (body : List Nat) : (front kind body).length = 5 + body.length := by unfold front four; simp; omega
theorem front_lt (kind : Nat) (body : List Nat) (hk : kind < 256) (hb : ∀ x ∈ body, x < 256) : ∀ x ∈ front kind body, x < 256 := by
  intro x hx
  unfold front at hx
  rcases List.mem_append.1 hx with h | h
  · exact four_lt _ x h
  · rcases List.mem_cons.1 h with h | h
    · omega
    · exact hb x h
end Pg

theorem sp1 {α : Type} (L Y body : List α) (x0 x1 x2 x3 x4 : α) : splice (L ++ x0 :: x1 :: x2 :: x3 :: x4 :: Y) (L.length + 5) body = L ++ (x0 :: x1 :: x2 :: x3 :: x4 :: (body ++ Y.drop body.length)) := by
  unfold splice
  rw [List.take_length_add_append, Nat.add_assoc, List.drop_length_add_append, Nat.add_comm 5]
  simp
theorem sp2 {α : Type} (L Y : List α) (x0 x1 x2 x3 : α) (f0 f1 f2 f3 : α) : splice (L ++ x0 :: x1 :: x2 :: x3 :: Y) L.length [f0, f1, f2, f3] = L ++ (f0 :: f1 :: f2 :: f3 :: Y) := by
  unfold splice
  rw [List.take_append_of_le_length (Nat.le_refl _), List.take_length, List.drop_length_add_append]
  simp
theorem sp3 {α : Type} (L Y : List α) (f0 f1 f2 f3 x v : α) : (L ++ f0 :: f1 :: f2 :: f3 :: x :: Y).set (L.length + 4) v = L ++ (f0 :: f1 :: f2 :: f3 :: v :: Y) := by
  rw [List.set_append_right _ _ (by omega), Nat.add_sub_cancel_left]; rfl
theorem sp4 {α : Type} (L Y body : List α) (f0 f1 f2 f3 v : α) : (L ++ (f0 :: f1 :: f2 :: f3 :: v :: (body ++ Y))).take (L.length + (5 + body.length)) = L ++ (f0 :: f1 :: f2 :: f3 :: v :: body) := by
  rw [List.take_length_add_append, Nat.add_comm 5]
  simp
/-- The row behind the two copies and the store. -/
theorem lay_row (cs : List Value) (l : List Nat) (n m kind : Nat) (body : List Nat) (hcs : cs.take n = bys l) (hn : n = l.length) (hm : m = body.length) (hc : n + 9 + m ≤ cs.length) :
    ((splice (splice cs (n + 5) (bys body)) n (bys (Pg.four m))).set (n + 4) (bv kind)).take (n + 5 + m) = bys (l ++ Pg.front kind body) := by
  obtain ⟨x, rfl⟩ : ∃ x, cs = bys l ++ x := ⟨cs.drop n, by rw [← hcs, List.take_append_drop]⟩
  have hll : (bys l).length = n := by rw [bys_length, hn]
  rw [List.length_append, hll] at hc
  obtain ⟨x0, x1, x2, x3, x4, y, rfl⟩ : ∃ x0 x1 x2 x3 x4 y, x = x0 :: x1 :: x2 :: x3 :: x4 :: y := by
    match x, hc with
    | x0 :: x1 :: x2 :: x3 :: x4 :: y, _ => exact ⟨x0, x1, x2, x3, x4, y, rfl⟩
    | [_, _, _, _], h => simp at h; omega
    | [_, _, _], h => simp at h; omega
    | [_, _], h => simp at h; omega
    | [_], h => simp at h; omega
    | [], h => simp at h; omega
  have hbl : (bys body).length = m := by rw [bys_length, hm]
  have e4 := sp4 (bys l) (y.drop (bys body).length) (bys body) (bv (m % 256)) (bv (m / 256 % 256)) (bv (m / 65536 % 256)) (bv (m / 16777216 % 256)) (bv kind)
  rw [hll, hbl, ← Nat.add_assoc] at e4
  have e1 := sp1 (bys l) y (bys body) x0 x1 x2 x3 x4
  rw [hll] at e1
  rw [e1]
  have e2 := sp2 (bys l) (x4 :: (bys body ++ y.drop (bys body).length)) x0 x1 x2 x3 (bv (m % 256)) (bv (m / 256 % 256)) (bv (m / 65536 % 256)) (bv (m / 16777216 % 256))
  rw [hll] at e2
  rw [show bys (Pg.four m) = [bv (m % 256), bv (m / 256 % 256), bv (m / 65536 % 256), bv (m / 16777216 % 256)] from rfl, e2]
  have e3 := sp3 (bys l) (bys body ++ y.drop (bys body).length) (bv (m % 256)) (bv (m / 256 % 256)) (bv (m / 65536 % 256)) (bv (m / 16777216 % 256)) x4 (bv kind)
  rw [hll] at e3
  rw [e3, hbl, e4]
  unfold Pg.front
  rw [← hm, bys_append, bys_append]
  rfl

/-- Behind the first copy: what is known of the row. -/
theorem Roomy.splice1 {w : World} {B g n m cap : Nat} {cs : List Value} {l body : List Nat} (h : Roomy w B g n cap cs l) (hm : m = body.length) (hc : n + (5 + m + 4) ≤ cap) : n + 5 + (bys body).length ≤ cs.length := by
  have := h.size
  rw [bys_length]; omega
theorem by_word {w w1 : World} (n : Nat) (h : w1 = w.alloc (.cells (fourC n) 5)) : ∀ (j : Nat) (v : Value), (bys (Pg.four n))[j]? = some v → w1.cell? ((⟨w.heap.size, 0, none⟩ : Addr).add j) = some v := fun j v hj => by
  subst h
  exact World.news_of_block (heap_alloc_new' w _) j v (by rw [fourC_list]; exact hj)

theorem by_word' {w : World} (n : Nat) : ∀ (j : Nat) (v : Value), (bys (Pg.four n))[j]? = some v → (w.alloc (.cells (fourC n) 5)).drew.cell? ((⟨w.heap.size, 0, none⟩ : Addr).add j) = some v := fun j v hj =>
  World.news_of_block (w := (w.alloc (.cells (fourC n) 5)).drew) (heap_alloc_new' w _) j v (by rw [fourC_list]; exact hj)
theorem four_min (m : Nat) : (bys (Pg.four m)).length = Nat.min 4 (5 + m) := by
  rw [show (bys (Pg.four m)).length = 4 from rfl]; exact (Nat.min_eq_left (by omega)).symm
theorem HalvesAt.keepB {w w' : World} {B : Nat} (h : HalvesAt w) (hb : Below B w w') (hB : 0 < B) : HalvesAt w' := fun i hi =>
  (hb.cell (p := ⟨0, i, none⟩) hB).trans (h i hi)
theorem by_four (w : World) (n : Nat) : ByAt (w.alloc (.cells (fourC n) 5)) (some ⟨w.heap.size, 0, none⟩) (Pg.four n) := ByAt.of_row _ (Pg.four_lt n) (heap_alloc_new' w _) (by rw [fourC_list]; exact ⟨[], by simp⟩)
theorem by_four_set (w : World) (a : Addr) (u : Value) (n : Nat) : ByAt ((w.setCell a u).alloc (.cells (fourC n) 5)) (some ⟨w.heap.size, 0, none⟩) (Pg.four n) := by rw [← setCell_size w a u]; exact by_four _ _
/-- What Lay returns: a slice of the call's own. -/
def RetL (w : World) (B n : Nat) (l : List Nat) (e : Ending) (w' : World) : Prop := ∃ A cap, e = .returned (.slice A n cap) ∧ OwnS w' B A n cap l ∧ Below B w w'

end Go.Proofs.YtpobfgokikfmbaaDoor

set_option linter.unusedSimpArgs false
set_option linter.unusedVariables false
set_option maxRecDepth 8000
namespace Go.Proofs.YtpobfgokikfmbaaDoor
open Go.RowKit Go.Sort Go.WideShapes Col
theorem uEvB : Tryd.prog.underlying 36 = some (.struct (Tryd.prog.fieldsOf 36)) := by kernel_rfl
theorem iEvB (x : Ev) : (Tryd.prog.info? 36).map (·.size) = some x.cells.length := by rw [cells_len]; kernel_rfl
theorem sizeEvB (x : Ev) : (#[Value.int .u64 0, .int .i64 0, .int .i64 0, .string { data := #[] }, .float .f64 0] : Array Value).size = x.cells.toArray.size := rfl
theorem oneEvB (x : Ev) : x.cells.toArray.all (·.oneCell') = true := by unfold Ev.cells; simp [Value.oneCell']
theorem evrB {w : World} {A : Option Addr} {l : List Ev} (h : EvAt w A l) (i : Nat) (x : Ev) (hx : l[i]? = some x) : ∃ g off, A = some ⟨g, off, none⟩ ∧ g < w.heap.size ∧ w.rangeAt g (off + i * 5) x.cells := by
  have h0 : (evs l)[i * 5 + 0]? = x.cells[0]? := by rw [evs_get l i 0 (by decide), hx]; rfl
  obtain ⟨g, off, e, hg, -⟩ := h (i * 5 + 0) (.int .u64 (x.off : Int)) (by rw [h0]; rfl)
  refine ⟨g, off, e, hg, fun j v hv => ?_⟩
  have hj : j < 5 := (List.getElem?_eq_some_iff.1 hv).1
  have h1 : (evs l)[i * 5 + j]? = some v := by rw [evs_get l i j hj, hx]; exact hv
  obtain ⟨g', off', e', -, hc⟩ := h _ _ h1
  rw [e] at e'; injection e' with e'; injection e' with b1 b2; subst b1; subst b2
  rw [Nat.add_assoc]; exact hc
/-- Events with the form of a log of 8 partitions. -/
structure FineE (x : Ev) : Prop where
  off : x.off < 1099511627776
  part : 0 ≤ x.part ∧ x.part < 8
  time : -1099511627776 ≤ x.time ∧ x.time ≤ 1099511627776
  key : x.key.size ≤ 32
  val : x.val < 18446744073709551616
def oI (x : Ev) : Int := (x.off : Int)
/-- A key's bytes. -/
def kL (x : Ev) : List Nat := nb x.key.data.toList
theorem kL_wf (x : Ev) : WfT (kL x) := nb_wf _
theorem kL_strB (x : Ev) : strB (kL x) = x.key := by
  have h := tb_nb x.key.data.toList
  unfold tb at h
  exact ByteArray.ext (Array.ext' h)
theorem kL_len (x : Ev) : (kL x).length = x.key.size := by
  unfold kL nb; rw [List.length_map]; rfl
/-- The columns of some events. -/
def evY (l : List Ev) : List Nat := (((txL (intsL (l.map oI)) ++ txL (intsL (l.map Ev.part))) ++ txL (intsL (l.map Ev.time))) ++ txL (textsL (l.map kL))) ++ txL (intsL ((l.map Ev.val).map rwI))
theorem map_snoc {α : Type} (f : Ev → α) (l : List Ev) (k : Nat) (x : Ev) (h : l[k]? = some x) : (l.map f).take (k + 1) = (l.map f).take k ++ [f x] := by
  rw [List.take_add_one, List.getElem?_map, h]; rfl
theorem kept_cellB (w : World) (g i : Nat) (u : Value) : Kept (fun j => j = g) w (w.setCell ⟨g, i, none⟩ u) := (Kept.refl _ _).setCell _ _ (.inl rfl)
/-- The five rows while they are filled. -/
structure EvL (w0 : World) (a b c d e : Nat) (o p t : List Int) (ky : List (List Nat)) (v : List Nat) (wr : World) : Prop where
  r1 : RowI wr a o
  r2 : RowI wr b p
  r3 : RowI wr c t
  r4 : RowT wr d ky
  r5 : RowF wr e v
  lt : w0.heap.size ≤ a ∧ a < b ∧ b < c ∧ c < d ∧ d < e ∧ e < wr.heap.size
  below : Below w0.heap.size w0 wr
section
variable {w0 wr w2 : World} {a b c d e : Nat} {o p t : List Int} {ky : List (List Nat)} {v : List Nat}
theorem EvL.keep (H : EvL w0 a b c d e o p t ky v wr) (hb : Below wr.heap.size wr w2) : EvL w0 a b c d e o p t ky v w2 :=
  have K : Kept (fun _ => False) wr w2 := Kept.of_below hb
  ⟨H.r1.keep K (fun h => h), H.r2.keep K (fun h => h), H.r3.keep K (fun h => h), H.r4.keep K (fun h => h), H.r5.keep K (fun h => h), ⟨H.lt.1, H.lt.2.1, H.lt.2.2.1, H.lt.2.2.2.1, H.lt.2.2.2.2.1, Nat.lt_of_lt_of_le H.lt.2.2.2.2.2 hb.size⟩, below_to H.below hb⟩
theorem EvL.set1 (H : EvL w0 a b c d e o p t ky v wr) (k : Nat) (x : Int) : EvL w0 a b c d e (o.set k x) p t ky v (wr.setCell ⟨a, k, none⟩ (.int .i64 x)) :=
  ⟨H.r1.set k x, H.r2.keep (kept_cellB wr a k _) (fun h => by have := H.lt; omega), H.r3.keep (kept_cellB wr a k _) (fun h => by have := H.lt; omega), H.r4.keep (kept_cellB wr a k _) (fun h => by have := H.lt; omega), H.r5.keep (kept_cellB wr a k _) (fun h => by have := H.lt; omega), by rw [setCell_size]; exact H.lt, H.below.setCell (by have := H.lt; show w0.heap.size ≤ a; omega) _⟩
theorem EvL.set2 (H : EvL w0 a b c d e o p t ky v wr) (k : Nat) (x : Int) : EvL w0 a b c d e o (p.set k x) t ky v (wr.setCell ⟨b, k, none⟩ (.int .i64 x)) :=
  ⟨H.r1.keep (kept_cellB wr b k _) (fun h => by have := H.lt; omega), H.r2.set k x, H.r3.keep (kept_cellB wr b k _) (fun h => by have := H.lt; omega), H.r4.keep (kept_cellB wr b k _) (fun h => by have := H.lt; omega), H.r5.keep (kept_cellB wr b k _) (fun h => by have := H.lt; omega), by rw [setCell_size]; exact H.lt, H.below.setCell (by have := H.lt; show w0.heap.size ≤ b; omega) _⟩
theorem EvL.set3 (H : EvL w0 a b c d e o p t ky v wr) (k : Nat) (x : Int) : EvL w0 a b c d e o p (t.set k x) ky v (wr.setCell ⟨c, k, none⟩ (.int .i64 x)) :=
  ⟨H.r1.keep (kept_cellB wr c k _) (fun h => by have := H.lt; omega), H.r2.keep (kept_cellB wr c k _) (fun h => by have := H.lt; omega), H.r3.set k x, H.r4.keep (kept_cellB wr c k _) (fun h => by have := H.lt; omega), H.r5.keep (kept_cellB wr c k _) (fun h => by have := H.lt; omega), by rw [setCell_size]; exact H.lt, H.below.setCell (by have := H.lt; show w0.heap.size ≤ c; omega) _⟩
theorem EvL.set4 (H : EvL w0 a b c d e o p t ky v wr) (k : Nat) (x : List Nat) : EvL w0 a b c d e o p t (ky.set k x) v (wr.setCell ⟨d, k, none⟩ (.string (strB x))) :=
  ⟨H.r1.keep (kept_cellB wr d k _) (fun h => by have := H.lt; omega), H.r2.keep (kept_cellB wr d k _) (fun h => by have := H.lt; omega), H.r3.keep (kept_cellB wr d k _) (fun h => by have := H.lt; omega), H.r4.set k x, H.r5.keep (kept_cellB wr d k _) (fun h => by have := H.lt; omega), by rw [setCell_size]; exact H.lt, H.below.setCell (by have := H.lt; show w0.heap.size ≤ d; omega) _⟩
theorem EvL.set5 (H : EvL w0 a b c d e o p t ky v wr) (k : Nat) (x : Nat) : EvL w0 a b c d e o p t ky (v.set k x) (wr.setCell ⟨e, k, none⟩ (.float .f64 x)) :=
  ⟨H.r1.keep (kept_cellB wr e k _) (fun h => by have := H.lt; omega), H.r2.keep (kept_cellB wr e k _) (fun h => by have := H.lt; omega), H.r3.keep (kept_cellB wr e k _) (fun h => by have := H.lt; omega), H.r4.keep (kept_cellB wr e k _) (fun h => by have := H.lt; omega), H.r5.set k x, by rw [setCell_size]; exact H.lt, H.below.setCell (by have := H.lt; show w0.heap.size ≤ e; omega) _⟩
end
theorem EvRow.c {w : World} {g : Nat} {x : Ev} (h : w.heap[g]? = some (.cells x.cells.toArray 36 (0, 0))) (j : Nat) (v : Value) (hv : x.cells[j]? = some v) : w.cell? ⟨g, j, none⟩ = some v := by
  rw [cell_of_row w g j _ _ _ h, List.getElem?_toArray]; exact hv
theorem oI_wf {l : List Ev} (h : ∀ x ∈ l, FineE x) : ∀ y ∈ l.map oI, Wf64 y := fun y hy => by
  obtain ⟨x, hx, rfl⟩ := List.mem_map.1 hy
  have := (h x hx).off
  unfold Wf64 oI
  omega
theorem part_wf {l : List Ev} (h : ∀ x ∈ l, FineE x) : ∀ y ∈ l.map Ev.part, Wf64 y := fun y hy => by
  obtain ⟨x, hx, rfl⟩ := List.mem_map.1 hy
  have := (h x hx).part
  unfold Wf64
  omega
theorem time_wf {l : List Ev} (h : ∀ x ∈ l, FineE x) : ∀ y ∈ l.map Ev.time, Wf64 y := fun y hy => by
  obtain ⟨x, hx, rfl⟩ := List.mem_map.1 hy
  have := (h x hx).time
  unfold Wf64
  omega
theorem val_lt {l : List Ev} (h : ∀ x ∈ l, FineE x) : ∀ y ∈ l.map Ev.val, y < 18446744073709551616 := fun y hy => by
  obtain ⟨x, hx, rfl⟩ := List.mem_map.1 hy
  exact (h x hx).val
theorem kL_all {l : List Ev} (h : ∀ x ∈ l, FineE x) : ∀ y ∈ l.map kL, WfT y ∧ y.length ≤ 32 := fun y hy => by
  obtain ⟨x, hx, rfl⟩ := List.mem_map.1 hy
  exact ⟨kL_wf x, by rw [kL_len]; exact (h x hx).key⟩
theorem ints_60 (l : List Int) (hw : ∀ y ∈ l, Wf64 y) (hn : l.length ≤ 60) : (intsL l).length ≤ 1223 := by
  have h1 := best_le 3 l 0 (by omega)
  have h2 := asL_len 0 l hw (by omega)
  unfold intsL
  omega
theorem flatB_le (ts : List (List Nat)) (h : ∀ s ∈ ts, s.length ≤ 32) : ((ts.map txL).flatten).length ≤ 42 * ts.length := by
  induction ts with
  | nil => exact Nat.le_refl _
  | cons a r ih =>
    have h1 := ih fun s hs => h s (by simp [hs])
    have h2 := h a (by simp)
    have h3 := ub10 (show a.length < 18446744073709551616 by omega)
    have h4 : (txL a).length = (ub a.length).length + a.length := by unfold txL; rw [List.length_append]
    rw [List.map_cons, List.flatten_cons, List.length_append, List.length_cons]
    omega
theorem texts_60 (l : List (List Nat)) (hw : ∀ x ∈ l, WfT x) (h32 : ∀ y ∈ l, y.length ≤ 32) (hn : l.length ≤ 60) : (textsL l).length ≤ 3760 := by
  have hu := uqL_len l
  have h1 := flatB_le (uqL l) fun s hs => h32 s (((uqL_facts l hw).2 s).1 hs)
  have h2 := ub10 (show (uqL l).length < 18446744073709551616 by omega)
  have h3 := ints_60 (l.map fun x => (plc (uqL l) x : Int)) (fun x hx => by obtain ⟨y, -, rfl⟩ := List.mem_map.1 hx; exact plc_wf (uqL l) (by omega) y) (by rw [List.length_map]; omega)
  unfold textsL
  rw [List.length_append, List.length_append]
  omega
theorem txL_le (D : List Nat) (m : Nat) (hm : m ≤ 1000000) (h : D.length ≤ m) : (txL D).length ≤ m + 10 := by
  have h3 := ub10 (show D.length < 18446744073709551616 by omega)
  unfold txL; rw [List.length_append]; omega
theorem halves_keep {B : Nat} {W w : World} (hGB : 0 < B) (hBw : B ≤ W.heap.size) (h : HalvesAt W) (hb : Below W.heap.size W w) : HalvesAt w := fun i hi => (hb.cell (p := ⟨0, i, none⟩) (Nat.lt_of_lt_of_le hGB hBw)).trans (h i hi)

end Go.Proofs.YtpobfgokikfmbaaDoor

set_option linter.unusedSimpArgs false
set_option linter.unusedVariables false
set_option maxRecDepth 8000
namespace Go.Proofs.YtpobfgokikfmbaaDoor
open Go.RowKit Go.Sort Go.WideShapes Col
theorem conv_sbY (s : List Nat) (hs : WfT s) (h1 : s.length ≤ 1000000) (n : Nat) (hn : n = s.length) (w : World) : ∃ (w' : World) (C : Nat), (convert 9 22 (.string (strB s))).run Tryd.prog w = .ok (.slice (some ⟨w.heap.size, 0, none⟩) n C) w' ∧ ByAt w' (some ⟨w.heap.size, 0, none⟩) s ∧ Below w.heap.size w w' ∧ n ≤ C ∧ C ≤ maxLen := by
  have h := Go.Lib.run_convert_string_bytes w 9 22 5 (strB s) Tryd.underlying9 Tryd.underlying22 Tryd.underlying5
  obtain ⟨w', C, h1', h2, h3⟩ := conv_sb s hs n hn w
  have e := h.symm.trans h1'
  injection e with e1 e2
  injection e1 with e3 e4 e5
  exact ⟨w', C, h1', h2, h3, by rw [← e5, ← e4]; exact grownCap_ge _ _ _ _, by rw [← e5]; exact grownCap_le_maxLen _ _ _ _ (by rw [strB_size]; unfold maxLen; omega)⟩
theorem tP_backY {most : Nat} (s : List Nat) (h : s.length ≤ most) (hl : s.length < 18446744073709551616) (r : List Nat) : tP most (txL s ++ r) = some (s, r) := by
  unfold tP txL
  rw [List.append_assoc, uP_back h hl]
  simp
theorem Rd.highY {w w' : World} {g : Nat} {q : List Nat} {S : Nat → Prop} (h : Rd w g q) (hk : Kept S w w') (hS : ∀ k, S k → g < k) : Rd w' g q := by
  obtain ⟨A, C, h⟩ := h
  exact ⟨A, C, h.keep hk (fun e => by have := hS _ e; omega) (fun a ha h0 e => by have := hS _ e; have := h.low a ha h0; omega)⟩
/-- How the reading of a column ends, where all goes well. -/
def ColY (P : Option Addr → Nat → Nat → World → Prop) (g : Nat) (r : List Nat) (w : World) (e : Ending) (w' : World) : Prop := ∃ A n c, e = .returned (.slice A n c) ∧ P A n c w' ∧ Rd w' g r ∧ Kept (Only g) w w'
set_option maxHeartbeats 4000000 in
theorem rcol_int64 (P : Option Addr → Nat → Nat → World → Prop) (D : List Nat) (hD : WfT D) (hDl : D.length ≤ 1000000) (HRD : Hid (∀ A C w, D.length ≤ C → C ≤ maxLen → ByAt w A D → Calls Tryd.prog 29 #[.slice A D.length C] w fun e w' => ∃ A' n' c', e = .returned (.tuple #[.slice A' n' c', .int .i64 0]) ∧ P A' n' c' w' ∧ Below w.heap.size w w'))
    (g : Nat) (r : List Nat) (hql : (txL D ++ r).length ≤ 1099511627776) (w : World) (H : Hid (Rd w g (txL D ++ r))) :
    Calls Tryd.prog 28 #[.pointer (some ⟨g, 0, none⟩), .func (.func 29) #[] #[]] w (ColY P g r w) := by
  have HT : Hid (tP 1048576 (txL D ++ r) = some (D, r)) := Lib.hid (tP_backY D (by omega) (by omega) r)
  obtain ⟨n, hn⟩ : ∃ n, n = D.length := ⟨_, rfl⟩
  have HCV := Lib.hid fun (w : World) => conv_sbY D hD hDl n hn w
  rw [← hn] at HRD
  have hent : ∀ (args : Array Value) (w : World), (callFunc 29 args).run Tryd.prog w = .ok (.enter 29 args) w := fun _ _ => by first | rfl | kernel_rfl
  clear hn hD hDl
  go_enter Tryd.func28, Tryd.ntmps28
  go_wp2_with (first
    | (go_at_call 48; refine (text_yes g 1048576 (by decide) _ D r HT (by omega) _ H).mono ?_; rintro e w1 hy; obtain ⟨rfl, HR1, HK1⟩ := Yes.rd hy; clear hy; obtain ⟨w2, C2, hcv, hby, hb2, hC2, hM2⟩ := HCV.out w1; have HBY := Lib.hid hby; have HB2 := Lib.hid hb2; clear hby hb2)
    | (refine (HRD.out _ C2 _ hC2 hM2 HBY.out).mono ?_; rintro e w3 ⟨A3, n3, c3, rfl, hp, hb3⟩; have HP := Lib.hid hp; have HB3 := Lib.hid (below_to HB2.out hb3); clear hcv hp hb3)
    | (go_at_call 34; (with_reducible refine (check_true _ _).mono ?_); rintro e w9 ⟨rfl, rfl⟩))
  go_ret
  exact ⟨A3, n3, c3, rfl, HP.out, HR1.out.highY (S := fun _ => False) (Kept.of_below HB3.out) (fun _ h => h.elim), HK1.out.trans (Kept.of_below HB3.out)⟩
set_option maxHeartbeats 4000000 in
theorem rcol_string (P : Option Addr → Nat → Nat → World → Prop) (D : List Nat) (hD : WfT D) (hDl : D.length ≤ 1000000) (HRD : Hid (∀ A C w, D.length ≤ C → C ≤ maxLen → ByAt w A D → Calls Tryd.prog 31 #[.slice A D.length C] w fun e w' => ∃ A' n' c', e = .returned (.tuple #[.slice A' n' c', .int .i64 0]) ∧ P A' n' c' w' ∧ Below w.heap.size w w'))
    (g : Nat) (r : List Nat) (hql : (txL D ++ r).length ≤ 1099511627776) (w : World) (H : Hid (Rd w g (txL D ++ r))) :
    Calls Tryd.prog 30 #[.pointer (some ⟨g, 0, none⟩), .func (.func 31) #[] #[]] w (ColY P g r w) := by
  have HT : Hid (tP 1048576 (txL D ++ r) = some (D, r)) := Lib.hid (tP_backY D (by omega) (by omega) r)
  obtain ⟨n, hn⟩ : ∃ n, n = D.length := ⟨_, rfl⟩
  have HCV := Lib.hid fun (w : World) => conv_sbY D hD hDl n hn w
  rw [← hn] at HRD
  have hent : ∀ (args : Array Value) (w : World), (callFunc 31 args).run Tryd.prog w = .ok (.enter 31 args) w := fun _ _ => by first | rfl | kernel_rfl
  clear hn hD hDl
  go_enter Tryd.func30, Tryd.ntmps30
  go_wp2_with (first
    | (go_at_call 48; refine (text_yes g 1048576 (by decide) _ D r HT (by omega) _ H).mono ?_; rintro e w1 hy; obtain ⟨rfl, HR1, HK1⟩ := Yes.rd hy; clear hy; obtain ⟨w2, C2, hcv, hby, hb2, hC2, hM2⟩ := HCV.out w1; have HBY := Lib.hid hby; have HB2 := Lib.hid hb2; clear hby hb2)
    | (refine (HRD.out _ C2 _ hC2 hM2 HBY.out).mono ?_; rintro e w3 ⟨A3, n3, c3, rfl, hp, hb3⟩; have HP := Lib.hid hp; have HB3 := Lib.hid (below_to HB2.out hb3); clear hcv hp hb3)
    | (go_at_call 34; (with_reducible refine (check_true _ _).mono ?_); rintro e w9 ⟨rfl, rfl⟩))
  go_ret
  exact ⟨A3, n3, c3, rfl, HP.out, HR1.out.highY (S := fun _ => False) (Kept.of_below HB3.out) (fun _ h => h.elim), HK1.out.trans (Kept.of_below HB3.out)⟩
set_option maxHeartbeats 4000000 in
theorem rcol_float64 (P : Option Addr → Nat → Nat → World → Prop) (D : List Nat) (hD : WfT D) (hDl : D.length ≤ 1000000) (HRD : Hid (∀ A C w, D.length ≤ C → C ≤ maxLen → ByAt w A D → Calls Tryd.prog 33 #[.slice A D.length C] w fun e w' => ∃ A' n' c', e = .returned (.tuple #[.slice A' n' c', .int .i64 0]) ∧ P A' n' c' w' ∧ Below w.heap.size w w'))
    (g : Nat) (r : List Nat) (hql : (txL D ++ r).length ≤ 1099511627776) (w : World) (H : Hid (Rd w g (txL D ++ r))) :
    Calls Tryd.prog 32 #[.pointer (some ⟨g, 0, none⟩), .func (.func 33) #[] #[]] w (ColY P g r w) := by
  have HT : Hid (tP 1048576 (txL D ++ r) = some (D, r)) := Lib.hid (tP_backY D (by omega) (by omega) r)
  obtain ⟨n, hn⟩ : ∃ n, n = D.length := ⟨_, rfl⟩
  have HCV := Lib.hid fun (w : World) => conv_sbY D hD hDl n hn w
  rw [← hn] at HRD
  have hent : ∀ (args : Array Value) (w : World), (callFunc 33 args).run Tryd.prog w = .ok (.enter 33 args) w := fun _ _ => by first | rfl | kernel_rfl
  clear hn hD hDl
  go_enter Tryd.func32, Tryd.ntmps32
  go_wp2_with (first
    | (go_at_call 48; refine (text_yes g 1048576 (by decide) _ D r HT (by omega) _ H).mono ?_; rintro e w1 hy; obtain ⟨rfl, HR1, HK1⟩ := Yes.rd hy; clear hy; obtain ⟨w2, C2, hcv, hby, hb2, hC2, hM2⟩ := HCV.out w1; have HBY := Lib.hid hby; have HB2 := Lib.hid hb2; clear hby hb2)
    | (refine (HRD.out _ C2 _ hC2 hM2 HBY.out).mono ?_; rintro e w3 ⟨A3, n3, c3, rfl, hp, hb3⟩; have HP := Lib.hid hp; have HB3 := Lib.hid (below_to HB2.out hb3); clear hcv hp hb3)
    | (go_at_call 34; (with_reducible refine (check_true _ _).mono ?_); rintro e w9 ⟨rfl, rfl⟩))
  go_ret
  exact ⟨A3, n3, c3, rfl, HP.out, HR1.out.highY (S := fun _ => False) (Kept.of_below HB3.out) (fun _ h => h.elim), HK1.out.trans (Kept.of_below HB3.out)⟩

theorem IsAt.keptY {S : Nat → Prop} {w w' : World} {a : Option Addr} {l : List Int} (h : IsAt w a l) (hk : Kept S w w') (ho : ∀ b, a = some b → ¬ S b.block) : IsAt w' a l := h.kept hk ho
theorem TxAt.keptY {S : Nat → Prop} {w w' : World} {a : Option Addr} {l : List (List Nat)} (h : TxAt w a l) (hk : Kept S w w') (ho : ∀ b, a = some b → ¬ S b.block) : TxAt w' a l := fun k x hx => by
  obtain ⟨h1, g, off, h2, h3, h4⟩ := h k x hx
  exact ⟨h1, g, off, h2, Nat.lt_of_lt_of_le h3 hk.size, (hk.cell (p := ⟨g, off + k, none⟩) h3 (fun e => ho ⟨g, off, none⟩ h2 e)).trans h4⟩
theorem FlAt.keptY {S : Nat → Prop} {w w' : World} {a : Option Addr} {l : List Nat} (h : FlAt w a l) (hk : Kept S w w') (ho : ∀ b, a = some b → ¬ S b.block) : FlAt w' a l := fun k x hx => by
  obtain ⟨h1, g, off, h2, h3, h4⟩ := h k x hx
  exact ⟨h1, g, off, h2, Nat.lt_of_lt_of_le h3 hk.size, (hk.cell (p := ⟨g, off + k, none⟩) h3 (fun e => ho ⟨g, off, none⟩ h2 e)).trans h4⟩
/-- A row that is no reader's. -/
theorem no_rd {w : World} {g L : Nat} {q : List Nat} {cs : Array Value} {t : TypeId} {fr : Nat × Nat} (h : Rd w g q) (hr : w.heap[L]? = some (.cells cs t fr)) (ht : t ≠ 66) : L ≠ g := fun e => by
  obtain ⟨A, C, h⟩ := h
  have h1 := h.row
  rw [← e, hr] at h1
  injection h1 with h1
  injection h1 with h2 h3
  exact ht h3
/-- What was read of a column of whole numbers, and so on. -/
def PI (l : List Int) (A : Option Addr) (n c : Nat) (w : World) : Prop := n = l.length ∧ n ≤ c ∧ c ≤ maxLen ∧ IsAt w A l ∧ ∀ b, A = some b → ∃ cs fr, w.heap[b.block]? = some (.cells cs 2 fr)
def PT (l : List (List Nat)) (A : Option Addr) (n c : Nat) (w : World) : Prop := n = l.length ∧ n ≤ c ∧ TxAt w A l ∧ ∀ b, A = some b → ∃ cs fr, w.heap[b.block]? = some (.cells cs 9 fr)
def PF (l : List Nat) (A : Option Addr) (n c : Nat) (w : World) : Prop := n = l.length ∧ n ≤ c ∧ FlAt w A l ∧ ∀ b, A = some b → ∃ cs fr, w.heap[b.block]? = some (.cells cs 34 fr)
section
variable {S : Nat → Prop} {w w' : World} {A : Option Addr} {n c g : Nat} {q : List Nat}
theorem PI.off {l : List Int} (h : PI l A n c w) (hr : Rd w g q) : ∀ b, A = some b → b.block ≠ g := fun b hb => by
  obtain ⟨cs, fr, h1⟩ := h.2.2.2.2 b hb
  exact no_rd hr h1 (by decide)
theorem PT.off {l : List (List Nat)} (h : PT l A n c w) (hr : Rd w g q) : ∀ b, A = some b → b.block ≠ g := fun b hb => by
  obtain ⟨cs, fr, h1⟩ := h.2.2.2 b hb
  exact no_rd hr h1 (by decide)
theorem PF.off {l : List Nat} (h : PF l A n c w) (hr : Rd w g q) : ∀ b, A = some b → b.block ≠ g := fun b hb => by
  obtain ⟨cs, fr, h1⟩ := h.2.2.2 b hb
  exact no_rd hr h1 (by decide)
theorem PI.kept {l : List Int} (h : PI l A n c w) (hk : Kept S w w') (ho : ∀ b, A = some b → ¬ S b.block) : PI l A n c w' := ⟨h.1, h.2.1, h.2.2.1, h.2.2.2.1.keptY hk ho, fun b hb => by
  obtain ⟨cs, fr, h1⟩ := h.2.2.2.2 b hb
  exact ⟨cs, fr, hk.heap h1 (ho b hb)⟩⟩
theorem PT.kept {l : List (List Nat)} (h : PT l A n c w) (hk : Kept S w w') (ho : ∀ b, A = some b → ¬ S b.block) : PT l A n c w' := ⟨h.1, h.2.1, h.2.2.1.keptY hk ho, fun b hb => by
  obtain ⟨cs, fr, h1⟩ := h.2.2.2 b hb
  exact ⟨cs, fr, hk.heap h1 (ho b hb)⟩⟩
theorem PF.kept {l : List Nat} (h : PF l A n c w) (hk : Kept S w w') (ho : ∀ b, A = some b → ¬ S b.block) : PF l A n c w' := ⟨h.1, h.2.1, h.2.2.1.keptY hk ho, fun b hb => by
  obtain ⟨cs, fr, h1⟩ := h.2.2.2 b hb
  exact ⟨cs, fr, hk.heap h1 (ho b hb)⟩⟩
end
theorem readI_yes (l : List Int) (hw : ∀ y ∈ l, Wf64 y) (hn : l.length ≤ 60) (A : Option Addr) (C : Nat) (w : World) (hC : (intsL l).length ≤ C) (hC' : C ≤ maxLen) (HA : ByAt w A (intsL l)) :
    Calls Tryd.prog 29 #[.slice A (intsL l).length C] w fun e w' => ∃ A' n' c', e = .returned (.tuple #[.slice A' n' c', .int .i64 0]) ∧ PI l A' n' c' w' ∧ Below w.heap.size w w' := by
  have h := readIntsC_any A C (intsL l) (intsL l).length (Lib.hid rfl) (by have := ints_60 l hw hn; omega) hC hC' w (Lib.hid HA)
  rw [riL_some (ints_back l hw (by omega))] at h
  refine h.mono fun e w' h1 => ?_
  obtain ⟨⟨A6, n6, c6, he, ho⟩, hb⟩ := h1
  refine ⟨A6, n6, c6, he, ⟨ho.len, ho.caps.1, ho.caps.2, ho.isAt, fun b hb2 => ?_⟩, hb⟩
  rcases ho.1.2 with ⟨h1, h2⟩ | ⟨g, cap', cur, h1, hb', hrow, _⟩
  · cases h1; cases hb2
  · cases h1; injection hb2 with hb2; subst hb2; exact ⟨_, _, hrow⟩
theorem readT_yes (l : List (List Nat)) (hw : ∀ x ∈ l, WfT x) (h32 : ∀ y ∈ l, y.length ≤ 32) (hn : l.length ≤ 60) (A : Option Addr) (C : Nat) (w : World) (hC : (textsL l).length ≤ C) (hC' : C ≤ maxLen) (HA : ByAt w A (textsL l)) :
    Calls Tryd.prog 31 #[.slice A (textsL l).length C] w fun e w' => ∃ A' n' c', e = .returned (.tuple #[.slice A' n' c', .int .i64 0]) ∧ PT l A' n' c' w' ∧ Below w.heap.size w w' := by
  have h := readTextsC_any A C (textsL l) (textsL l).length (Lib.hid rfl) (by have := texts_60 l hw h32 hn; omega) hC hC' w (Lib.hid HA)
  rw [rTL_some (texts_back l hw h32 (by omega))] at h
  refine h.mono fun e w' h1 => ?_
  obtain ⟨⟨L, n, he, hnl, hr⟩, hb⟩ := h1
  exact ⟨_, n, n, he, ⟨hnl, Nat.le_refl _, TxAt.of_row l hw hr ⟨[], by simp⟩, fun b hb2 => by injection hb2 with hb2; subst hb2; exact ⟨_, _, hr⟩⟩, hb⟩
theorem readF_yes (vs : List Nat) (hv : ∀ y ∈ vs, y < 18446744073709551616) (hn : vs.length ≤ 60) (A : Option Addr) (C : Nat) (w : World) (hC : (intsL (vs.map rwI)).length ≤ C) (hC' : C ≤ maxLen) (HA : ByAt w A (intsL (vs.map rwI))) :
    Calls Tryd.prog 33 #[.slice A (intsL (vs.map rwI)).length C] w fun e w' => ∃ A' n' c', e = .returned (.tuple #[.slice A' n' c', .int .i64 0]) ∧ PF (vs.map Fl.canon) A' n' c' w' ∧ Below w.heap.size w w' := by
  have hwf : ∀ y ∈ vs.map rwI, Wf64 y := fun y hy => by obtain ⟨u, -, rfl⟩ := List.mem_map.1 hy; exact rwI_wf u
  have hl : (vs.map rwI).length ≤ 60 := by rw [List.length_map]; exact hn
  have hmap : (vs.map rwI).map u64N = vs.map Fl.canon := by
    rw [List.map_map]
    exact List.map_congr_left fun y hy => u64N_rw y (hv y hy)
  have h := readRealsC_yes A C (intsL (vs.map rwI)) _ (Lib.hid rfl) (by have := ints_60 _ hwf hl; omega) hC hC' (vs.map rwI) (Lib.hid (ints_back _ hwf (by omega))) (Lib.hid fun y hy => by
    obtain ⟨u, hu, rfl⟩ := List.mem_map.1 hy
    rw [u64N_rw u (hv u hu), Fl.canon_canon]) (vs.map rwI).length (Lib.hid rfl) (by omega) w (Lib.hid HA)
  rw [hmap] at h
  refine h.mono fun e w' ⟨L, he, hr, hb⟩ => ?_
  exact ⟨_, _, _, he, ⟨by rw [List.length_map, List.length_map], Nat.le_refl _, hr.isAt (fun y hy => by obtain ⟨u, hu, rfl⟩ := List.mem_map.1 hy; exact Fl.canon_lt u (hv u hu)), fun b hb2 => by injection hb2 with hb2; subst hb2; exact ⟨_, _, hr⟩⟩, hb⟩
end Go.Proofs.YtpobfgokikfmbaaDoor
