/-
  What Sum gives, and the document's Sum: the sum of bytes.
-/
import Derived.Test.YtifabkbdiiolfaaDoorRows
import Derived.Test.YtifabkbdiiolfaaDoorByK
import Derived.WalkKit
import Derived.WalkSpells
import Derived.WalkLawsBesides
import Derived.Laws.BitsAllLaws
import Derived.Lib.Hide
set_option linter.unusedSimpArgs false
set_option linter.unusedVariables false
set_option maxRecDepth 8000
namespace Go.Proofs.YtifabkbdiiolfaaDoor
namespace Pg
theorem xor_left (a b c : Nat) : a ^^^ (b ^^^ c) = b ^^^ (a ^^^ c) := by rw [← Nat.xor_assoc, Nat.xor_comm a b, Nat.xor_assoc]
theorem xor_mod (x y : Nat) : (x ^^^ y) % 2 = (x + y) % 2 := by
 have h := @Nat.xor_mod_two_eq_one x y
 omega
def poly : Nat := 3988292384
def full : Nat := 4294967295
/-- A bit's step. -/
def step (x : Nat) : Nat := if x % 2 = 1 then x / 2 ^^^ poly else x / 2
def steps : Nat → Nat → Nat
 | 0, x => x
 | n + 1, x => steps n (step x)
theorem step_xor (x y : Nat) : step (x ^^^ y) = step x ^^^ step y := by
 have hm : (x ^^^ y) % 2 = (x + y) % 2 := xor_mod x y
 have hd : (x ^^^ y) / 2 = x / 2 ^^^ y / 2 := Nat.xor_div_two
 unfold step
 rw [hd, hm]
 by_cases hx : x % 2 = 1 <;> by_cases hy : y % 2 = 1
 ·rw [if_neg (by omega), if_pos hx, if_pos hy, show (x / 2 ^^^ poly) ^^^ (y / 2 ^^^ poly) = (x / 2 ^^^ y / 2) ^^^ (poly ^^^ poly) by simp only [Nat.xor_assoc, Nat.xor_comm, xor_left], Nat.xor_self, Nat.xor_zero]
 ·rw [if_pos (by omega), if_pos hx, if_neg hy]; simp only [Nat.xor_assoc, Nat.xor_comm, xor_left]
 ·rw [if_pos (by omega), if_neg hx, if_pos hy]; simp only [Nat.xor_assoc]
 ·rw [if_neg (by omega), if_neg hx, if_neg hy]
theorem steps_xor : ∀ (n x y : Nat), steps n (x ^^^ y) = steps n x ^^^ steps n y
 | 0, _, _ => rfl
 | n + 1, x, y => by show steps n (step (x ^^^ y)) = _; rw [step_xor, steps_xor n]; rfl
theorem step_two (y : Nat) : step (2 * y) = y := by unfold step; rw [if_neg (by omega)]; omega
theorem steps_add : ∀ (m n x : Nat), steps (m + n) x = steps n (steps m x)
 | 0, n, x => by rw [Nat.zero_add]; rfl
 | m + 1, n, x => by rw [Nat.succ_add]; exact steps_add m n (step x)
theorem steps_pow : ∀ (n y : Nat), steps n (2 ^ n * y) = y
 | 0, y => by simp [steps]
 | n + 1, y => by
  show steps n (step (2 ^ (n + 1) * y)) = y
  rw [Nat.pow_succ, show 2 ^ n * 2 * y = 2 * (2 ^ n * y) by rw [Nat.mul_comm (2 ^ n) 2, Nat.mul_assoc], step_two, steps_pow n]
theorem step_lt {x : Nat} (h : x < 4294967296) : step x < 4294967296 := by
 unfold step
 split
 ·exact Nat.xor_lt_two_pow (n := 32) (by omega) (by decide)
 ·omega
theorem steps_lt : ∀ (n : Nat) {x : Nat}, x < 4294967296 → steps n x < 4294967296
 | 0, _, h => h
 | n + 1, _, h => steps_lt n (step_lt h)
/-- A number's upper part and its lower bits. -/
theorem split_xor (k x : Nat) : x = 2 ^ k * (x / 2 ^ k) ^^^ x % 2 ^ k := by
 apply Nat.eq_of_testBit_eq
 intro i
 rw [Nat.testBit_xor, Nat.testBit_two_pow_mul, Nat.testBit_mod_two_pow]
 by_cases h : k ≤ i
 ·rw [Nat.testBit_div_two_pow]
  simp [h, show ¬ i < k by omega, Nat.sub_add_cancel h, Nat.add_sub_cancel' h]
 ·simp [h, show i < k by omega]
theorem steps_split (k x : Nat) : steps k x = x / 2 ^ k ^^^ steps k (x % 2 ^ k) := by
 conv => lhs; rw [split_xor k x]
 rw [steps_xor, steps_pow]
/-- The table of the halves. -/
def half (i : Nat) : Nat := (#[0, 498536548, 997073096, 651767980, 1994146192, 1802195444, 1303535960, 1342533948, 3988292384, 4027552580, 3604390888, 3412177804, 2607071920, 2262029012, 2685067896, 3183342108] : Array Nat).getD i 0
theorem half_steps : ∀ i : _root_.Fin 16, half i.val = steps 4 i.val := by decide +kernel
theorem half_lt : ∀ i : _root_.Fin 16, half i.val < 4294967296 := by decide +kernel
theorem by_half (x : Nat) : x / 16 ^^^ half (x % 16) = steps 4 x := by
 rw [steps_split 4 x, half_steps ⟨x % 16, Nat.mod_lt _ (by decide)⟩]
/-- The rest behind a byte; behind bytes; the sum of bytes. -/
def byteOn (c b : Nat) : Nat := steps 8 (c ^^^ b)
def on (c : Nat) (l : List Nat) : Nat := l.foldl byteOn c
def sum (l : List Nat) : Nat := on full l ^^^ full
theorem byteOn_lt {c b : Nat} (hc : c < 4294967296) (hb : b < 256) : byteOn c b < 4294967296 := steps_lt 8 (Nat.xor_lt_two_pow (n := 32) hc (by omega))
theorem on_lt : ∀ (l : List Nat) {c : Nat}, c < 4294967296 → (∀ x ∈ l, x < 256) → on c l < 4294967296
 | [], _, h, _ => h
 | b :: l, c, h, hl => on_lt l (byteOn_lt h (hl b (by simp))) (fun x hx => hl x (by simp [hx]))
theorem sum_lt {l : List Nat} (h : ∀ x ∈ l, x < 256) : sum l < 4294967296 := Nat.xor_lt_two_pow (n := 32) (on_lt l (by decide) h) (by decide)
theorem on_snoc (c : Nat) (l : List Nat) (b : Nat) : on c (l ++ [b]) = byteOn (on c l) b := by unfold on; rw [List.foldl_append]; rfl
/-- The document's way: bit by bit. -/
def bitOn (c b : Nat) : Nat → Nat
 | 0 => c
 | k + 1 => if (bitOn c b k ^^^ b / 2 ^ k) % 2 = 1 then bitOn c b k / 2 ^^^ poly else bitOn c b k / 2
theorem bitOn_steps (c b : Nat) : ∀ k : Nat, steps k (c ^^^ b) = bitOn c b k ^^^ b / 2 ^ k
 | 0 => by simp [steps, bitOn]
 | k + 1 => by
  rw [steps_add k 1, bitOn_steps c b k]
  show step _ = _
  have hd : (bitOn c b k ^^^ b / 2 ^ k) / 2 = bitOn c b k / 2 ^^^ b / 2 ^ (k + 1) := by rw [Nat.xor_div_two, Nat.div_div_eq_div_mul, Nat.pow_succ]
  unfold step
  show _ = (if (bitOn c b k ^^^ b / 2 ^ k) % 2 = 1 then bitOn c b k / 2 ^^^ poly else bitOn c b k / 2) ^^^ b / 2 ^ (k + 1)
  rw [hd]
  split
  ·simp only [Nat.xor_assoc, Nat.xor_comm, xor_left]
  ·rfl
theorem bitOn_byte (c b : Nat) (hb : b < 256) : bitOn c b 8 = byteOn c b := by
 unfold byteOn
 rw [bitOn_steps c b 8, show b / 2 ^ 8 = 0 by omega, Nat.xor_zero]
theorem bitOn_lt (c b : Nat) (hc : c < 4294967296) : ∀ k : Nat, bitOn c b k < 4294967296
 | 0 => hc
 | k + 1 => by
  have h := bitOn_lt c b hc k
  unfold bitOn
  split
  ·exact Nat.xor_lt_two_pow (n := 32) (by omega) (by decide)
  ·omega
/-! Bytes as one number -/
def val : List Nat → Nat
 | [] => 0
 | b :: l => b + 256 * val l
theorem val_lt : ∀ (l : List Nat), (∀ x ∈ l, x < 256) → val l < 256 ^ l.length
 | [], _ => by simp [val]
 | b :: l, h => by
  have h1 := h b (by simp)
  have h2 := val_lt l (fun x hx => h x (by simp [hx]))
  show b + 256 * val l < 256 ^ (l.length + 1)
  rw [Nat.pow_succ]; omega
/-- A number as four bytes. -/
def four (n : Nat) : List Nat := [n % 256, n / 256 % 256, n / 65536 % 256, n / 16777216 % 256]
theorem val_four (n : Nat) (h : n < 4294967296) : val (four n) = n := by unfold four val val val val val; omega
theorem four_lt (n : Nat) : ∀ x ∈ four n, x < 256 := by
 intro x hx; unfold four at hx; simp at hx; omega
end Pg
end Go.Proofs.YtifabkbdiiolfaaDoor

namespace Go.Proofs.YtifabkbdiiolfaaDoor
open Go.RowKit
theorem ret_eqP {v v' : Value} (h : v = v') : Ending.returned v = Ending.returned v' := by rw [h]
/-- The table's cells. -/
def HalvesAt (w : World) : Prop := ∀ i : Nat, i < 16 → w.cell? ⟨0, i, none⟩ = some (.int .u32 (Pg.half i : Nat))
theorem take_snoc' (l : List Nat) (k : Nat) (h : k < l.length) : l.take (k + 1) = l.take k ++ [l[k]] := by
 rw [List.take_succ_eq_append_getElem h]
theorem on_take (c : Nat) (l : List Nat) (k : Nat) (h : k < l.length) : Pg.on c (l.take (k + 1)) = Pg.byteOn (Pg.on c (l.take k)) l[k] := by
 rw [take_snoc' l k h, Pg.on_snoc]
/-- One half's step, in the walk's words. -/
theorem half_round (z : Nat) (hz : z < 4294967296) : bits .and .u32 (z : Int) 15 = ((z % 16 : Nat) : Int) ∧ bits .xor .u32 ((z : Int) / 16) (Pg.half (z % 16) : Nat) = ((Pg.steps 4 z : Nat) : Int) ∧ Pg.steps 4 z < 4294967296 := by
 refine ⟨?_, ?_, Pg.steps_lt 4 hz⟩
 ·have h := u32_and_nat z 15 hz (by decide)
  rw [nat_mask4] at h; exact h
 ·have h := u32_xor_nat (z / 16) (Pg.half (z % 16)) (by omega) (Pg.half_lt ⟨z % 16, Nat.mod_lt _ (by decide)⟩)
  rw [Pg.by_half] at h
  rw [← h]; congr 1
set_option maxHeartbeats 1000000 in
theorem sum_any (a : Option Addr) (l : List Nat) (len cap : Nat) (hlen : Hid (len = l.length)) (hl : len ≤ maxLen) (w : World) (HA : Hid (ByAt w a l)) (HG : Hid (HalvesAt w)) :
  Calls Tryd.prog 37 #[.slice a len cap] w fun e w' => e = .returned (.int .u32 (Pg.sum l : Nat)) ∧ w = w' := by
 unfold maxLen at hl
 go_enter Tryd.func37, Tryd.ntmps37
 go_wp2
 go_loop [3, 8] (fun c i => ∃ k : Nat, k ≤ len ∧ i = .int .i64 k ∧ c = .int .u32 (Pg.on Pg.full (l.take k) : Nat)) (fun _ i => len - (intOf i).toNat)
 case atStart => exact ⟨0, Nat.zero_le _, rfl, rfl⟩
 case round =>
  obtain ⟨k, hk, rfl, rfl⟩ := hrel
  by_cases hlt : k < len
  ·have hkl : k < l.length := by have := hlen.out; omega
   obtain ⟨hx, g, off, rfl, hg, hc⟩ := HA.out k l[k] (List.getElem?_eq_getElem hkl)
   have hst := Lib.hid (on_take Pg.full l k hkl)
   have hc0 : Pg.on Pg.full (l.take k) < 4294967296 := Pg.on_lt _ (by decide) (fun x hx => HA.out.lt x (List.mem_of_mem_take hx))
   generalize Pg.on Pg.full (l.take k) = c at *
   generalize l[k] = b at *
   have hz : c ^^^ b < 4294967296 := Nat.xor_lt_two_pow (n := 32) hc0 (by omega)
   have e0 : bits .xor .u32 (c : Int) (b : Int) = ((c ^^^ b : Nat) : Int) := u32_xor_nat c b hc0 (by omega)
   have hb8 : Hid (Pg.byteOn c b = Pg.steps 4 (Pg.steps 4 (c ^^^ b))) := Lib.hid (Pg.steps_add 4 4 _)
   generalize c ^^^ b = z at *
   obtain ⟨e1, e2, hz2⟩ := half_round z hz
   have hc1 := HG.out (z % 16) (Nat.mod_lt _ (by decide))
   have hi1 : (0 : Int) ≤ ((z % 16 : Nat) : Int) := by omega
   have hj1 : ((z % 16 : Nat) : Int) < 16 := by omega
   have hn1 : (((z % 16 : Nat) : Int)).toNat = z % 16 := by omega
   generalize Pg.steps 4 z = y at *
   obtain ⟨e3, e4, hz3⟩ := half_round y hz2
   have hc2 := HG.out (y % 16) (Nat.mod_lt _ (by decide))
   have hi2 : (0 : Int) ≤ ((y % 16 : Nat) : Int) := by omega
   have hj2 : ((y % 16 : Nat) : Int) < 16 := by omega
   have hn2 : (((y % 16 : Nat) : Int)).toNat = y % 16 := by omega
   generalize Pg.half (z % 16) = h1 at *
   generalize Pg.half (y % 16) = h2 at *
   generalize z % 16 = m1 at *
   generalize y % 16 = m2 at *
   go_wp2
   go_round
   case rel => exact ⟨k + 1, by omega, by go_num, by rw [hst.out, hb8.out]⟩
   case measure => simp [intOf]; omega
  ·have hT : Hid (l.take k = l) := Lib.hid (List.take_of_length_le (by have := hlen.out; omega))
   have hc0 : Pg.on Pg.full (l.take k) < 4294967296 := Pg.on_lt _ (by decide) (fun x hx => HA.out.lt x (List.mem_of_mem_take hx))
   have hs : Hid (Pg.sum l = Pg.on Pg.full (l.take k) ^^^ 4294967295) := Lib.hid (by rw [hT.out]; rfl)
   generalize Pg.on Pg.full (l.take k) = c at *
   have e0 : bits .xor .u32 IntKind.u32.max (c : Int) = ((c ^^^ 4294967295 : Nat) : Int) := by
    rw [Nat.xor_comm]; exact u32_xor_nat 4294967295 c (by decide) hc0
   go_wp2
   go_ret
   exact ⟨ret_eqP (by rw [hs.out]; rfl), rfl⟩
/-- One bit's step of the document's way, in the walk's words. -/
theorem bit_round (c b k : Nat) (hc : c < 4294967296) (hb : b < 256) :
  bits .xor .u32 (c : Int) ((b : Int) / 2 ^ k % 4294967296) = ((c ^^^ b / 2 ^ k : Nat) : Int) := by
 have hl : b / 2 ^ k < 256 := Nat.lt_of_le_of_lt (Nat.div_le_self _ _) hb
 rw [← u32_xor_nat c (b / 2 ^ k) hc (by omega)]
 congr 1
 have e : (b : Int) / 2 ^ k = ((b / 2 ^ k : Nat) : Int) := by push_cast; rfl
 rw [e]
 generalize b / 2 ^ k = q at *
 omega
set_option maxHeartbeats 1000000 in
theorem refSum_any (a : Option Addr) (l : List Nat) (len cap : Nat) (hlen : Hid (len = l.length)) (hl : len ≤ maxLen) (w : World) (HA : Hid (ByAt w a l)) :
  Calls Tryd.prog 44 #[.slice a len cap] w fun e w' => e = .returned (.int .u32 (Pg.sum l : Nat)) ∧ w = w' := by
 unfold maxLen at hl
 go_enter Tryd.func44, Tryd.ntmps44
 go_wp2
 go_loop [3, 4] (fun c i => ∃ k : Nat, k ≤ len ∧ i = .int .i64 k ∧ c = .int .u32 (Pg.on Pg.full (l.take k) : Nat)) (fun _ i => len - (intOf i).toNat)
 case atStart => exact ⟨0, Nat.zero_le _, rfl, rfl⟩
 case round =>
  obtain ⟨k, hk, rfl, rfl⟩ := hrel
  by_cases hlt : k < len
  ·have hkl : k < l.length := by have := hlen.out; omega
   obtain ⟨hx, g, off, rfl, hg, hc⟩ := HA.out k l[k] (List.getElem?_eq_getElem hkl)
   have hst := Lib.hid (on_take Pg.full l k hkl)
   have hc0 : Pg.on Pg.full (l.take k) < 4294967296 := Pg.on_lt _ (by decide) (fun x hx => HA.out.lt x (List.mem_of_mem_take hx))
   generalize Pg.on Pg.full (l.take k) = c at *
   generalize l[k] = b at *
   have hfin := Lib.hid (Pg.bitOn_byte c b hx)
   have hbl := Lib.hid (Pg.bitOn_lt c b hc0)
   go_wp2
   go_loop [3, 5] (fun c' i => ∃ j : Nat, j ≤ 8 ∧ i = .int .i64 j ∧ c' = .int .u32 (Pg.bitOn c b j : Nat)) (fun _ i => 8 - (intOf i).toNat)
   case atStart => exact ⟨0, Nat.zero_le _, rfl, rfl⟩
   case round =>
    obtain ⟨j, hj, rfl, rfl⟩ := hrel
    by_cases hjt : j < 8
    ·have h1 := hbl.out j
     have hs1 : Hid (Pg.bitOn c b (j + 1) = if (Pg.bitOn c b j ^^^ b / 2 ^ j) % 2 = 1 then Pg.bitOn c b j / 2 ^^^ Pg.poly else Pg.bitOn c b j / 2) := rfl
     have e0 := bit_round (Pg.bitOn c b j) b j h1 hx
     generalize Pg.bitOn c b j = y at *
     have hp : bits .xor .u32 ((y : Int) / 2) 3988292384 = ((y / 2 ^^^ Pg.poly : Nat) : Int) := u32_xor_nat (y / 2) Pg.poly (by omega) (by decide)
     generalize (y ^^^ b / 2 ^ j) = z at *
     go_wp2
     ·have hz : ((z : Int).tmod 2 == 1) = true := by assumption
      rw [Int.tmod_eq_emod_of_nonneg (by omega)] at hz
      go_round
      case rel => exact ⟨j + 1, by omega, by go_num, by rw [hs1.out, if_pos (by rw [beq_iff_eq] at hz; omega)]⟩
      case measure => simp [intOf]; omega
     ·have hz : ((z : Int).tmod 2 == 1) = false := by assumption
      rw [Int.tmod_eq_emod_of_nonneg (by omega)] at hz
      go_round
      case rel => exact ⟨j + 1, by omega, by go_num, by rw [hs1.out, if_neg (by rw [beq_eq_false_iff_ne] at hz; omega)]; go_num⟩
      case measure => simp [intOf]; omega
    ·go_wp2
     go_round
     case rel => exact ⟨k + 1, by omega, by go_num, by rw [hst.out, ← hfin.out, show j = 8 by omega]⟩
     case measure => simp [intOf]; omega
  ·have hT : Hid (l.take k = l) := Lib.hid (List.take_of_length_le (by have := hlen.out; omega))
   have hc0 : Pg.on Pg.full (l.take k) < 4294967296 := Pg.on_lt _ (by decide) (fun x hx => HA.out.lt x (List.mem_of_mem_take hx))
   have hs : Hid (Pg.sum l = Pg.on Pg.full (l.take k) ^^^ 4294967295) := Lib.hid (by rw [hT.out]; rfl)
   generalize Pg.on Pg.full (l.take k) = c at *
   have e0 : bits .xor .u32 (c : Int) 4294967295 = ((c ^^^ 4294967295 : Nat) : Int) := u32_xor_nat c 4294967295 hc0 (by decide)
   go_wp2
   go_ret
   exact ⟨ret_eqP (by rw [hs.out]; rfl), rfl⟩
end Go.Proofs.YtifabkbdiiolfaaDoor
