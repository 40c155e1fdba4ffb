/-
  Lists of bytes that a call owns; append of bytes; cuts; slices.Clone.
-/
import Derived.Test.YtifabkbdiiolfaaGreatDoorRows
import Derived.Test.YtifabkbdiiolfaaGreatDoorByK
import Derived.WalkKit
import Derived.WalkSpells
import Derived.WalkLawsBesides
import Derived.Laws.BitsAllLaws
import Derived.Lib.Hide
import Derived.Lib.SlBytesConst
import Derived.Deep.QuietTactic
import Derived.BigQuiet
import Derived.Deep.AppendLies
import Derived.Laws.CopyOwn
import Derived.Maps.AppendAt
import Derived.Deep.RegionHeld3
import Derived.Deep.Draws
set_option linter.unusedSimpArgs false
set_option linter.unusedVariables false
set_option maxRecDepth 8000
namespace Go.Proofs.YtifabkbdiiolfaaGreatDoor
namespace Pg
theorem xor_left (a b c : Nat) : a ^^^ (b ^^^ c) = b ^^^ (a ^^^ c) := by rw [← Nat.xor_assoc, Nat.xor_comm a b, Nat.xor_assoc]
theorem xor_same {x y : Nat} (h : x ^^^ y = 0) : x = y := by
 have h2 : x ^^^ (x ^^^ y) = x := by rw [h, Nat.xor_zero]
 rw [← Nat.xor_assoc, Nat.xor_self, Nat.zero_xor] at h2; exact h2.symm
theorem xor_mod (x y : Nat) : (x ^^^ y) % 2 = (x + y) % 2 := by
 have h := @Nat.xor_mod_two_eq_one x y
 omega
def poly : Nat := 3988292384
def full : Nat := 4294967295
/-- A bit's step. -/
def step (x : Nat) : Nat := if x % 2 = 1 then x / 2 ^^^ poly else x / 2
def steps : Nat → Nat → Nat
 | 0, x => x
 | n + 1, x => steps n (step x)
theorem step_xor (x y : Nat) : step (x ^^^ y) = step x ^^^ step y := by
 have hm : (x ^^^ y) % 2 = (x + y) % 2 := xor_mod x y
 have hd : (x ^^^ y) / 2 = x / 2 ^^^ y / 2 := Nat.xor_div_two
 unfold step
 rw [hd, hm]
 by_cases hx : x % 2 = 1 <;> by_cases hy : y % 2 = 1
 ·rw [if_neg (by omega), if_pos hx, if_pos hy, show (x / 2 ^^^ poly) ^^^ (y / 2 ^^^ poly) = (x / 2 ^^^ y / 2) ^^^ (poly ^^^ poly) by simp only [Nat.xor_assoc, Nat.xor_comm, xor_left], Nat.xor_self, Nat.xor_zero]
 ·rw [if_pos (by omega), if_pos hx, if_neg hy]; simp only [Nat.xor_assoc, Nat.xor_comm, xor_left]
 ·rw [if_pos (by omega), if_neg hx, if_pos hy]; simp only [Nat.xor_assoc]
 ·rw [if_neg (by omega), if_neg hx, if_neg hy]
theorem steps_xor : ∀ (n x y : Nat), steps n (x ^^^ y) = steps n x ^^^ steps n y
 | 0, _, _ => rfl
 | n + 1, x, y => by show steps n (step (x ^^^ y)) = _; rw [step_xor, steps_xor n]; rfl
theorem step_two (y : Nat) : step (2 * y) = y := by unfold step; rw [if_neg (by omega)]; omega
theorem steps_add : ∀ (m n x : Nat), steps (m + n) x = steps n (steps m x)
 | 0, n, x => by rw [Nat.zero_add]; rfl
 | m + 1, n, x => by rw [Nat.succ_add]; exact steps_add m n (step x)
theorem steps_pow : ∀ (n y : Nat), steps n (2 ^ n * y) = y
 | 0, y => by simp [steps]
 | n + 1, y => by
  show steps n (step (2 ^ (n + 1) * y)) = y
  rw [Nat.pow_succ, show 2 ^ n * 2 * y = 2 * (2 ^ n * y) by rw [Nat.mul_comm (2 ^ n) 2, Nat.mul_assoc], step_two, steps_pow n]
theorem step_lt {x : Nat} (h : x < 4294967296) : step x < 4294967296 := by
 unfold step
 split
 ·exact Nat.xor_lt_two_pow (n := 32) (by omega) (by decide)
 ·omega
theorem steps_lt : ∀ (n : Nat) {x : Nat}, x < 4294967296 → steps n x < 4294967296
 | 0, _, h => h
 | n + 1, _, h => steps_lt n (step_lt h)
theorem step_ne {x : Nat} (h : x < 4294967296) (h0 : x ≠ 0) : step x ≠ 0 := by
 unfold step
 split
 ·intro e
  have e2 : x / 2 = poly := xor_same e
  unfold poly at e2; omega
 ·omega
theorem steps_ne : ∀ (n : Nat) {x : Nat}, x < 4294967296 → x ≠ 0 → steps n x ≠ 0
 | 0, _, _, h0 => h0
 | n + 1, _, h, h0 => steps_ne n (step_lt h) (step_ne h h0)
theorem steps_inj (n : Nat) {x y : Nat} (hx : x < 4294967296) (hy : y < 4294967296) (h : steps n x = steps n y) : x = y := by
 rcases Nat.decEq (x ^^^ y) 0 with h0 | h0
 ·exact absurd (by rw [steps_xor, h, Nat.xor_self]) (steps_ne n (Nat.xor_lt_two_pow (n := 32) hx hy) h0)
 ·exact xor_same h0
/-- A number's upper part and its lower bits. -/
theorem split_xor (k x : Nat) : x = 2 ^ k * (x / 2 ^ k) ^^^ x % 2 ^ k := by
 apply Nat.eq_of_testBit_eq
 intro i
 rw [Nat.testBit_xor, Nat.testBit_two_pow_mul, Nat.testBit_mod_two_pow]
 by_cases h : k ≤ i
 ·rw [Nat.testBit_div_two_pow]
  simp [h, show ¬ i < k by omega, Nat.sub_add_cancel h, Nat.add_sub_cancel' h]
 ·simp [h, show i < k by omega]
theorem steps_split (k x : Nat) : steps k x = x / 2 ^ k ^^^ steps k (x % 2 ^ k) := by
 conv => lhs; rw [split_xor k x]
 rw [steps_xor, steps_pow]
/-- The table of the halves. -/
def half (i : Nat) : Nat := (#[0, 498536548, 997073096, 651767980, 1994146192, 1802195444, 1303535960, 1342533948, 3988292384, 4027552580, 3604390888, 3412177804, 2607071920, 2262029012, 2685067896, 3183342108] : Array Nat).getD i 0
theorem half_steps : ∀ i : _root_.Fin 16, half i.val = steps 4 i.val := by decide +kernel
theorem half_lt : ∀ i : _root_.Fin 16, half i.val < 4294967296 := by decide +kernel
theorem by_half (x : Nat) : x / 16 ^^^ half (x % 16) = steps 4 x := by
 rw [steps_split 4 x, half_steps ⟨x % 16, Nat.mod_lt _ (by decide)⟩]
/-- The rest behind a byte; behind bytes; the sum of bytes. -/
def byteOn (c b : Nat) : Nat := steps 8 (c ^^^ b)
def on (c : Nat) (l : List Nat) : Nat := l.foldl byteOn c
def sum (l : List Nat) : Nat := on full l ^^^ full
theorem byteOn_lt {c b : Nat} (hc : c < 4294967296) (hb : b < 256) : byteOn c b < 4294967296 := steps_lt 8 (Nat.xor_lt_two_pow (n := 32) hc (by omega))
theorem on_lt : ∀ (l : List Nat) {c : Nat}, c < 4294967296 → (∀ x ∈ l, x < 256) → on c l < 4294967296
 | [], _, h, _ => h
 | b :: l, c, h, hl => on_lt l (byteOn_lt h (hl b (by simp))) (fun x hx => hl x (by simp [hx]))
theorem sum_lt {l : List Nat} (h : ∀ x ∈ l, x < 256) : sum l < 4294967296 := Nat.xor_lt_two_pow (n := 32) (on_lt l (by decide) h) (by decide)
theorem on_snoc (c : Nat) (l : List Nat) (b : Nat) : on c (l ++ [b]) = byteOn (on c l) b := by unfold on; rw [List.foldl_append]; rfl
/-! Bytes as one number -/
def val : List Nat → Nat
 | [] => 0
 | b :: l => b + 256 * val l
theorem val_cons_xor (b : Nat) (l : List Nat) (hb : b < 256) : val (b :: l) = b ^^^ 256 * val l := by
 have h := split_xor 8 (b + 256 * val l)
 rw [show (b + 256 * val l) / 2 ^ 8 = val l by omega, show (b + 256 * val l) % 2 ^ 8 = b by omega] at h
 show b + 256 * val l = _
 rw [h]; exact Nat.xor_comm _ _
theorem on_val : ∀ (l : List Nat) (c : Nat), (∀ x ∈ l, x < 256) → on c l = steps (8 * l.length) (c ^^^ val l)
 | [], c, _ => by simp [on, val, steps]
 | b :: l, c, h => by
  show on (byteOn c b) l = _
  rw [on_val l _ (fun x hx => h x (by simp [hx])), val_cons_xor b l (h b (by simp)), List.length_cons, Nat.mul_succ, Nat.add_comm (8 * l.length) 8, steps_add 8]
  rw [← Nat.xor_assoc, steps_xor 8 (c ^^^ b), show 256 * val l = 2 ^ 8 * val l from rfl, steps_pow 8]; rfl
theorem val_lt : ∀ (l : List Nat), (∀ x ∈ l, x < 256) → val l < 256 ^ l.length
 | [], _ => by simp [val]
 | b :: l, h => by
  have h1 := h b (by simp)
  have h2 := val_lt l (fun x hx => h x (by simp [hx]))
  show b + 256 * val l < 256 ^ (l.length + 1)
  rw [Nat.pow_succ]; omega
/-- A number as four bytes. -/
def four (n : Nat) : List Nat := [n % 256, n / 256 % 256, n / 65536 % 256, n / 16777216 % 256]
theorem val_four (n : Nat) (h : n < 4294967296) : val (four n) = n := by unfold four val val val val val; omega
theorem four_lt (n : Nat) : ∀ x ∈ four n, x < 256 := by
 intro x hx; unfold four at hx; simp at hx; omega
/-- Bytes with a sum behind them: the sum is theirs just if the whole leaves what it must. -/
theorem whole_iff (l m : List Nat) (hl : ∀ x ∈ l, x < 256) (hm : ∀ x ∈ m, x < 256) (h4 : m.length = 4) : val m = sum l ↔ on full (l ++ m) = steps 32 full := by
 have hmv := val_lt m hm
 rw [h4] at hmv
 have h1 : on full (l ++ m) = steps 32 (on full l ^^^ val m) := by
  unfold on; rw [List.foldl_append]
  show on (on full l) m = _
  rw [on_val m _ hm, h4]; rfl
 rw [h1]
 have hs := on_lt l (c := full) (by decide) hl
 constructor
 ·intro h
  rw [h]; unfold sum
  rw [← Nat.xor_assoc, Nat.xor_self, Nat.zero_xor]
 ·intro h
  have := steps_inj 32 (Nat.xor_lt_two_pow (n := 32) hs (by omega)) (by decide) h
  show val m = on full l ^^^ full
  generalize on full l = z at this ⊢
  rw [← this, ← Nat.xor_assoc, Nat.xor_self, Nat.zero_xor]
/-- Bytes of which some were turned: the rest is the turned one's too. -/
theorem on_turned (l l' : List Nat) (q s : Nat) (hl : ∀ x ∈ l, x < 256) (hl' : ∀ x ∈ l', x < 256) (hn : l'.length = l.length) (hv : val l' = val l ^^^ 2 ^ s * q) (hs : s ≤ 8 * l.length) :
  on full l' = on full l ^^^ steps (8 * l.length - s) q := by
 rw [on_val l' _ hl', on_val l _ hl, hn, hv, ← Nat.xor_assoc, steps_xor]
 congr 1
 obtain ⟨d, hd⟩ : ∃ d, 8 * l.length = s + d := ⟨8 * l.length - s, by omega⟩
 rw [hd, steps_add, steps_pow, Nat.add_sub_cancel_left]
theorem turned_ne (l l' : List Nat) (q s : Nat) (hl : ∀ x ∈ l, x < 256) (hl' : ∀ x ∈ l', x < 256) (hn : l'.length = l.length) (hv : val l' = val l ^^^ 2 ^ s * q) (hs : s ≤ 8 * l.length) (hq : q < 4294967296) (h0 : q ≠ 0) :
  on full l' ≠ on full l := by
 rw [on_turned l l' q s hl hl' hn hv hs]
 intro h
 have h2 : on full l ^^^ (on full l ^^^ steps (8 * l.length - s) q) = 0 := by rw [h, Nat.xor_self]
 rw [← Nat.xor_assoc, Nat.xor_self, Nat.zero_xor] at h2
 exact steps_ne _ hq h0 h2
end Pg
end Go.Proofs.YtifabkbdiiolfaaGreatDoor

namespace Go.Proofs.YtifabkbdiiolfaaGreatDoor
open Go.RowKit
theorem ret_eqP {v v' : Value} (h : v = v') : Ending.returned v = Ending.returned v' := by rw [h]
/-- The table's cells. -/
def HalvesAt (w : World) : Prop := ∀ i : Nat, i < 16 → w.cell? ⟨0, i, none⟩ = some (.int .u32 (Pg.half i : Nat))
theorem take_snoc' (l : List Nat) (k : Nat) (h : k < l.length) : l.take (k + 1) = l.take k ++ [l[k]] := by
 rw [List.take_succ_eq_append_getElem h]
theorem on_take (c : Nat) (l : List Nat) (k : Nat) (h : k < l.length) : Pg.on c (l.take (k + 1)) = Pg.byteOn (Pg.on c (l.take k)) l[k] := by
 rw [take_snoc' l k h, Pg.on_snoc]
/-- One half's step, in the walk's words. -/
theorem half_round (z : Nat) (hz : z < 4294967296) : bits .and .u32 (z : Int) 15 = ((z % 16 : Nat) : Int) ∧ bits .xor .u32 ((z : Int) / 16) (Pg.half (z % 16) : Nat) = ((Pg.steps 4 z : Nat) : Int) ∧ Pg.steps 4 z < 4294967296 := by
 refine ⟨?_, ?_, Pg.steps_lt 4 hz⟩
 ·have h := u32_and_nat z 15 hz (by decide)
  rw [nat_mask4] at h; exact h
 ·have h := u32_xor_nat (z / 16) (Pg.half (z % 16)) (by omega) (Pg.half_lt ⟨z % 16, Nat.mod_lt _ (by decide)⟩)
  rw [Pg.by_half] at h
  rw [← h]; congr 1
set_option maxHeartbeats 1000000 in
theorem sum_any (a : Option Addr) (l : List Nat) (len cap : Nat) (hlen : Hid (len = l.length)) (hl : len ≤ maxLen) (w : World) (HA : Hid (ByAt w a l)) (HG : Hid (HalvesAt w)) :
  Calls Tryz.prog 73 #[.slice a len cap] w fun e w' => e = .returned (.int .u32 (Pg.sum l : Nat)) ∧ w = w' := by
 unfold maxLen at hl
 go_enter Tryz.func73, Tryz.ntmps73
 go_wp2
 go_loop [3, 8] (fun c i => ∃ k : Nat, k ≤ len ∧ i = .int .i64 k ∧ c = .int .u32 (Pg.on Pg.full (l.take k) : Nat)) (fun _ i => len - (intOf i).toNat)
 case atStart => exact ⟨0, Nat.zero_le _, rfl, rfl⟩
 case round =>
  obtain ⟨k, hk, rfl, rfl⟩ := hrel
  by_cases hlt : k < len
  ·have hkl : k < l.length := by have := hlen.out; omega
   obtain ⟨hx, g, off, rfl, hg, hc⟩ := HA.out k l[k] (List.getElem?_eq_getElem hkl)
   have hst := Lib.hid (on_take Pg.full l k hkl)
   have hc0 : Pg.on Pg.full (l.take k) < 4294967296 := Pg.on_lt _ (by decide) (fun x hx => HA.out.lt x (List.mem_of_mem_take hx))
   generalize Pg.on Pg.full (l.take k) = c at *
   generalize l[k] = b at *
   have hz : c ^^^ b < 4294967296 := Nat.xor_lt_two_pow (n := 32) hc0 (by omega)
   have e0 : bits .xor .u32 (c : Int) (b : Int) = ((c ^^^ b : Nat) : Int) := u32_xor_nat c b hc0 (by omega)
   have hb8 : Hid (Pg.byteOn c b = Pg.steps 4 (Pg.steps 4 (c ^^^ b))) := Lib.hid (Pg.steps_add 4 4 _)
   generalize c ^^^ b = z at *
   obtain ⟨e1, e2, hz2⟩ := half_round z hz
   have hc1 := HG.out (z % 16) (Nat.mod_lt _ (by decide))
   have hi1 : (0 : Int) ≤ ((z % 16 : Nat) : Int) := by omega
   have hj1 : ((z % 16 : Nat) : Int) < 16 := by omega
   have hn1 : (((z % 16 : Nat) : Int)).toNat = z % 16 := by omega
   generalize Pg.steps 4 z = y at *
   obtain ⟨e3, e4, hz3⟩ := half_round y hz2
   have hc2 := HG.out (y % 16) (Nat.mod_lt _ (by decide))
   have hi2 : (0 : Int) ≤ ((y % 16 : Nat) : Int) := by omega
   have hj2 : ((y % 16 : Nat) : Int) < 16 := by omega
   have hn2 : (((y % 16 : Nat) : Int)).toNat = y % 16 := by omega
   generalize Pg.half (z % 16) = h1 at *
   generalize Pg.half (y % 16) = h2 at *
   generalize z % 16 = m1 at *
   generalize y % 16 = m2 at *
   go_wp2
   go_round
   case rel => exact ⟨k + 1, by omega, by go_num, by rw [hst.out, hb8.out]⟩
   case measure => simp [intOf]; omega
  ·have hT : Hid (l.take k = l) := Lib.hid (List.take_of_length_le (by have := hlen.out; omega))
   have hc0 : Pg.on Pg.full (l.take k) < 4294967296 := Pg.on_lt _ (by decide) (fun x hx => HA.out.lt x (List.mem_of_mem_take hx))
   have hs : Hid (Pg.sum l = Pg.on Pg.full (l.take k) ^^^ 4294967295) := Lib.hid (by rw [hT.out]; rfl)
   generalize Pg.on Pg.full (l.take k) = c at *
   have e0 : bits .xor .u32 IntKind.u32.max (c : Int) = ((c ^^^ 4294967295 : Nat) : Int) := by
    rw [Nat.xor_comm]; exact u32_xor_nat 4294967295 c (by decide) hc0
   go_wp2
   go_ret
   exact ⟨ret_eqP (by rw [hs.out]; rfl), rfl⟩
end Go.Proofs.YtifabkbdiiolfaaGreatDoor

namespace Go.Proofs.YtifabkbdiiolfaaGreatDoor
open Go.RowKit
theorem HalvesAt.keep {w w' : World} (h : HalvesAt w) (hb : Below w.heap.size w w') : HalvesAt w' := fun i hi =>
 (hb.cell (p := ⟨0, i, none⟩) (World.block_lt_of_cell? w _ (h i hi))).trans (h i hi)
theorem HalvesAt.at {w w' : World} (h : Hid (HalvesAt w)) (hb : Below w.heap.size w w') : Hid (HalvesAt w') := h.out.keep hb
end Go.Proofs.YtifabkbdiiolfaaGreatDoor

namespace Go.Proofs.YtifabkbdiiolfaaGreatDoor
open Go.RowKit
def fourC (n : Nat) : Array Value := #[bv (n % 256), bv (n / 256 % 256), bv (n / 65536 % 256), bv (n / 16777216 % 256)]
theorem fourC_list (n : Nat) : (fourC n).toList = bys (Pg.four n) := rfl
theorem fourC_mk (n : Nat) (a b c d : Int) (ha : a = ((n % 256 : Nat) : Int)) (hb : b = ((n / 256 % 256 : Nat) : Int)) (hc : c = ((n / 65536 % 256 : Nat) : Int)) (hd : d = ((n / 16777216 % 256 : Nat) : Int)) :
  #[Value.int .u8 a, .int .u8 b, .int .u8 c, .int .u8 d] = fourC n := by subst ha hb hc hd; rfl
set_option maxHeartbeats 1000000 in
theorem word_any (n : Nat) (hn : n < 4294967296) (w : World) :
  Calls Tryz.prog 72 #[.int .u32 n] w fun e w' => e = .returned (.slice (some ⟨w.heap.size, 0, none⟩) 4 4) ∧ w.alloc (.cells (fourC n) 5) = w' := by
 go_enter Tryz.func72, Tryz.ntmps72
 go_wp2
 go_ret
 exact ⟨rfl, alloc_eq _ (fourC_mk n _ _ _ _ (by omega) (by omega) (by omega) (by omega)).symm⟩
theorem or_join (a b c d : Nat) (ha : a < 256) (hb : b < 256) (hc : c < 256) (hd : d < 256) :
  a ||| b * 256 ||| c * 65536 ||| d * 16777216 = a + 256 * (b + 256 * (c + 256 * (d + 256 * 0))) := by
 have h1 : a ||| b * 256 = b * 256 + a := by rw [Nat.or_comm]; exact nat_join 8 (b * 256) a (by omega) (by omega)
 have h2 : (b * 256 + a) ||| c * 65536 = c * 65536 + (b * 256 + a) := by rw [Nat.or_comm]; exact nat_join 16 (c * 65536) _ (by omega) (by omega)
 have h3 : (c * 65536 + (b * 256 + a)) ||| d * 16777216 = d * 16777216 + (c * 65536 + (b * 256 + a)) := by rw [Nat.or_comm]; exact nat_join 24 (d * 16777216) _ (by omega) (by omega)
 rw [h1, h2, h3]; omega
set_option maxHeartbeats 1000000 in
theorem wordOf_any (a : Option Addr) (l : List Nat) (len cap : Nat) (hlen : Hid (len = l.length)) (h4 : 4 ≤ len) (hl : len ≤ maxLen) (w : World) (HA : Hid (ByAt w a l)) :
  Calls Tryz.prog 76 #[.slice a len cap] w fun e w' => e = .returned (.int .u32 (Pg.val (l.take 4) : Nat)) ∧ ∃ n, w' = w.drewN n := by
 unfold maxLen at hl
 obtain ⟨b0, b1, b2, b3, r, rfl⟩ : ∃ b0 b1 b2 b3 r, l = b0 :: b1 :: b2 :: b3 :: r := by
  have h := hlen.out
  match l, h with
  | b0 :: b1 :: b2 :: b3 :: r, _ => exact ⟨b0, b1, b2, b3, r, rfl⟩
  | [_, _, _], h => simp at h; omega
  | [_, _], h => simp at h; omega
  | [_], h => simp at h; omega
  | [], h => simp at h; omega
 obtain ⟨g, off, rfl, hg, hc⟩ := HA.out.spot (by simp)
 have c0 := hc 0 b0 rfl
 have c1 := hc 1 b1 rfl
 have c2 := hc 2 b2 rfl
 have c3 := hc 3 b3 rfl
 have l0 := HA.out.lt b0 (by simp)
 have l1 := HA.out.lt b1 (by simp)
 have l2 := HA.out.lt b2 (by simp)
 have l3 := HA.out.lt b3 (by simp)
 rw [Nat.add_zero] at c0
 clear hc
 have hj := Lib.hid (or_join b0 b1 b2 b3 l0 l1 l2 l3)
 have j0 : (0 : Int) < (len : Int) := by omega
 have j1 : (1 : Int) < (len : Int) := by omega
 have j2 : (2 : Int) < (len : Int) := by omega
 have j3 : (3 : Int) < (len : Int) := by omega
 have e1 : bits .or .u32 (b0 : Int) ((b1 : Int) * 256) = ((b0 ||| b1 * 256 : Nat) : Int) := u32_or_nat b0 (b1 * 256) (by omega) (by omega)
 have e2 : bits .or .u32 ((b0 ||| b1 * 256 : Nat) : Int) ((b2 : Int) * 65536) = ((b0 ||| b1 * 256 ||| b2 * 65536 : Nat) : Int) := u32_or_nat (b0 ||| b1 * 256) (b2 * 65536) (Nat.or_lt_two_pow (n := 32) (by omega) (by omega)) (by omega)
 have e3 : bits .or .u32 ((b0 ||| b1 * 256 ||| b2 * 65536 : Nat) : Int) ((b3 : Int) * 16777216) = ((b0 ||| b1 * 256 ||| b2 * 65536 ||| b3 * 16777216 : Nat) : Int) :=
  u32_or_nat (b0 ||| b1 * 256 ||| b2 * 65536) (b3 * 16777216) (Nat.or_lt_two_pow (n := 32) (Nat.or_lt_two_pow (n := 32) (by omega) (by omega)) (by omega)) (by omega)
 have hv : Hid (Pg.val ((b0 :: b1 :: b2 :: b3 :: r).take 4) = b0 + 256 * (b1 + 256 * (b2 + 256 * (b3 + 256 * 0)))) := rfl
 go_enter Tryz.func76, Tryz.ntmps76
 go_wp2
 go_quiet (fail)
 go_wp2
 go_ret
 exact ⟨ret_eqP (by rw [hv.out, ← hj.out]; rfl), _, rfl⟩
end Go.Proofs.YtifabkbdiiolfaaGreatDoor

namespace Go.Proofs.YtifabkbdiiolfaaGreatDoor
open Go.RowKit
section
variable {w w' : World} {B n cap : Nat} {A : Option Addr} {l : List Nat}
end
set_option maxHeartbeats 1000000 in
theorem clone_any (a : Option Addr) (l : List Nat) (len cap : Nat) (hlen : Hid (len = l.length)) (hl : len ≤ 140737488355328) (w : World) (HA : Hid (ByAt w a l)) :
  Calls Tryz.prog 48 #[.slice a len cap] w (RetS w l) := by
 have q22 : ∀ (w : World) (a : Option Addr) (n c n' c' : Nat), (binOp .eql 29 (.slice a n c) (.slice none n' c')).run Tryz.prog w = .ok (.bool a.isNone) w := fun w a n c n' c' => Lib.run_eql_slice_nil w _ _ a n c n' c' Tryz.underlying29
 have hl9 : len ≤ maxLen := by unfold maxLen; omega
 rcases a with _ | ad
 ·have e : l = [] := by
   rcases l with _ | ⟨x, r⟩
   ·rfl
   ·obtain ⟨-, g, off, e, -⟩ := HA.out 0 x rfl; cases e
  subst e
  have e : len = 0 := hlen.out
  subst e
  go_enter Tryz.func48, Tryz.ntmps48
  go_wp2
  go_ret
  exact ⟨none, 0, rfl, OwnS.nil _ _, Below.refl _ _⟩
 ·have HA1 : Hid (ByAt (w.alloc (.cells #[] 5)) (some ad) l) := Lib.hid (HA.out.keep ((Below.refl _ _).alloc (Nat.le_refl _) _))
  have HO : Hid (OwnS (w.alloc (.cells #[] 5)) w.heap.size (some ⟨w.heap.size, 0, none⟩) 0 0 []) := Lib.hid ⟨World.ownsRow_made w #[] 0 (Nat.le_refl _) (Nat.zero_le _) (by simp), fun x hx => by cases hx⟩
  go_enter Tryz.func48, Tryz.ntmps48
  go_wp2_with (at_builtin; refine wpList_append_by rfl (.tmp 5) (.tmp 6) rfl w.heap.size (some ⟨w.heap.size, 0, none⟩) 0 0 [] rfl HO.out (some ad) len cap l rfl hlen.out HA1.out (by omega) (by simp) ?_; intro A' cap' w' hO hG hL)
  go_ret
  rw [Nat.zero_add, List.nil_append, hlen.out] at hO
  exact ⟨A', cap', by rw [← hlen.out]; rfl, hO, ((Below.refl _ w).alloc (Nat.le_refl _) _).grown hG (by simp) (by intro k hk; simp at hk; omega)⟩
/-! Cuts -/
end Go.Proofs.YtifabkbdiiolfaaGreatDoor
