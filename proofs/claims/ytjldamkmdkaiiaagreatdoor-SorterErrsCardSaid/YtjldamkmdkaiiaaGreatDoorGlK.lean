/-
  Contracts of slices.Grow and of Lay.
-/
import Derived.Test.YtjldamkmdkaiiaaGreatDoorRows
import Derived.Test.YtjldamkmdkaiiaaGreatDoorByK
import Derived.WalkKit
import Derived.WalkSpells
import Derived.WalkLawsBesides
import Derived.Laws.BitsAllLaws
import Derived.Lib.Hide
import Derived.Lib.SlBytesConst
import Derived.Deep.QuietTactic
import Derived.BigQuiet
import Derived.Deep.AppendLies
import Derived.Laws.CopyOwn
import Derived.Maps.AppendAt
import Derived.Deep.RegionHeld3
import Derived.Deep.Draws
import Derived.Lib.AppendZerosOnto
import Derived.Deep.RegionLaw
import Derived.Lib.SliceRun
import Derived.Test.YtjldamkmdkaiiaaGreatDoorTie
import Derived.Test.YtjldamkmdkaiiaaGreatDoorCards
import Derived.ProofKit
import Derived.Laws.Cover2
import Derived.WideKeyArgs
import Derived.Carry
import Derived.Deep.Slices
import Derived.LaidMore
import Derived.OpenShut
import Derived.Stop.Joined
import Derived.SevenTiedAt
import Derived.SizedLaws
set_option linter.unusedSimpArgs false
set_option linter.unusedVariables false
set_option maxRecDepth 8000
namespace Go.Proofs.YtjldamkmdkaiiaaGreatDoor
namespace Pg
theorem xor_left (a b c : Nat) : a ^^^ (b ^^^ c) = b ^^^ (a ^^^ c) := by rw [← Nat.xor_assoc, Nat.xor_comm a b, Nat.xor_assoc]
theorem xor_mod (x y : Nat) : (x ^^^ y) % 2 = (x + y) % 2 := by
 have h := @Nat.xor_mod_two_eq_one x y
 omega
def poly : Nat := 3988292384
def full : Nat := 4294967295
def step (x : Nat) : Nat := if x % 2 = 1 then x / 2 ^^^ poly else x / 2
def steps : Nat → Nat → Nat
 | 0, x => x
 | n + 1, x => steps n (step x)
theorem step_xor (x y : Nat) : step (x ^^^ y) = step x ^^^ step y := by
 have hm : (x ^^^ y) % 2 = (x + y) % 2 := xor_mod x y
 have hd : (x ^^^ y) / 2 = x / 2 ^^^ y / 2 := Nat.xor_div_two
 unfold step
 rw [hd, hm]
 by_cases hx : x % 2 = 1 <;> by_cases hy : y % 2 = 1
 ·rw [if_neg (by omega), if_pos hx, if_pos hy, show (x / 2 ^^^ poly) ^^^ (y / 2 ^^^ poly) = (x / 2 ^^^ y / 2) ^^^ (poly ^^^ poly) by simp only [Nat.xor_assoc, Nat.xor_comm, xor_left], Nat.xor_self, Nat.xor_zero]
 ·rw [if_pos (by omega), if_pos hx, if_neg hy]; simp only [Nat.xor_assoc, Nat.xor_comm, xor_left]
 ·rw [if_pos (by omega), if_neg hx, if_pos hy]; simp only [Nat.xor_assoc]
 ·rw [if_neg (by omega), if_neg hx, if_neg hy]
theorem steps_xor : ∀ (n x y : Nat), steps n (x ^^^ y) = steps n x ^^^ steps n y
 | 0, _, _ => rfl
 | n + 1, x, y => by show steps n (step (x ^^^ y)) = _; rw [step_xor, steps_xor n]; rfl
theorem step_two (y : Nat) : step (2 * y) = y := by unfold step; rw [if_neg (by omega)]; omega
theorem steps_add : ∀ (m n x : Nat), steps (m + n) x = steps n (steps m x)
 | 0, n, x => by rw [Nat.zero_add]; rfl
 | m + 1, n, x => by rw [Nat.succ_add]; exact steps_add m n (step x)
theorem steps_pow : ∀ (n y : Nat), steps n (2 ^ n * y) = y
 | 0, y => by simp [steps]
 | n + 1, y => by
  show steps n (step (2 ^ (n + 1) * y)) = y
  rw [Nat.pow_succ, show 2 ^ n * 2 * y = 2 * (2 ^ n * y) by rw [Nat.mul_comm (2 ^ n) 2, Nat.mul_assoc], step_two, steps_pow n]
theorem step_lt {x : Nat} (h : x < 4294967296) : step x < 4294967296 := by
 unfold step
 split
 ·exact Nat.xor_lt_two_pow (n := 32) (by omega) (by decide)
 ·omega
theorem steps_lt : ∀ (n : Nat) {x : Nat}, x < 4294967296 → steps n x < 4294967296
 | 0, _, h => h
 | n + 1, _, h => steps_lt n (step_lt h)
theorem split_xor (k x : Nat) : x = 2 ^ k * (x / 2 ^ k) ^^^ x % 2 ^ k := by
 apply Nat.eq_of_testBit_eq
 intro i
 rw [Nat.testBit_xor, Nat.testBit_two_pow_mul, Nat.testBit_mod_two_pow]
 by_cases h : k ≤ i
 ·rw [Nat.testBit_div_two_pow]
  simp [h, show ¬ i < k by omega, Nat.sub_add_cancel h, Nat.add_sub_cancel' h]
 ·simp [h, show i < k by omega]
theorem steps_split (k x : Nat) : steps k x = x / 2 ^ k ^^^ steps k (x % 2 ^ k) := by
 conv => lhs; rw [split_xor k x]
 rw [steps_xor, steps_pow]
def half (i : Nat) : Nat := (#[0, 498536548, 997073096, 651767980, 1994146192, 1802195444, 1303535960, 1342533948, 3988292384, 4027552580, 3604390888, 3412177804, 2607071920, 2262029012, 2685067896, 3183342108] : Array Nat).getD i 0
theorem half_steps : ∀ i : _root_.Fin 16, half i.val = steps 4 i.val := by decide +kernel
theorem half_lt : ∀ i : _root_.Fin 16, half i.val < 4294967296 := by decide +kernel
theorem by_half (x : Nat) : x / 16 ^^^ half (x % 16) = steps 4 x := by
 rw [steps_split 4 x, half_steps ⟨x % 16, Nat.mod_lt _ (by decide)⟩]
def byteOn (c b : Nat) : Nat := steps 8 (c ^^^ b)
def on (c : Nat) (l : List Nat) : Nat := l.foldl byteOn c
def sum (l : List Nat) : Nat := on full l ^^^ full
theorem byteOn_lt {c b : Nat} (hc : c < 4294967296) (hb : b < 256) : byteOn c b < 4294967296 := steps_lt 8 (Nat.xor_lt_two_pow (n := 32) hc (by omega))
theorem on_lt : ∀ (l : List Nat) {c : Nat}, c < 4294967296 → (∀ x ∈ l, x < 256) → on c l < 4294967296
 | [], _, h, _ => h
 | b :: l, c, h, hl => on_lt l (byteOn_lt h (hl b (by simp))) (fun x hx => hl x (by simp [hx]))
theorem sum_lt {l : List Nat} (h : ∀ x ∈ l, x < 256) : sum l < 4294967296 := Nat.xor_lt_two_pow (n := 32) (on_lt l (by decide) h) (by decide)
theorem on_snoc (c : Nat) (l : List Nat) (b : Nat) : on c (l ++ [b]) = byteOn (on c l) b := by unfold on; rw [List.foldl_append]; rfl
/-! Bytes as one number -/
def val : List Nat → Nat
 | [] => 0
 | b :: l => b + 256 * val l
theorem val_lt : ∀ (l : List Nat), (∀ x ∈ l, x < 256) → val l < 256 ^ l.length
 | [], _ => by simp [val]
 | b :: l, h => by
  have h1 := h b (by simp)
  have h2 := val_lt l (fun x hx => h x (by simp [hx]))
  show b + 256 * val l < 256 ^ (l.length + 1)
  rw [Nat.pow_succ]; omega
def four (n : Nat) : List Nat := [n % 256, n / 256 % 256, n / 65536 % 256, n / 16777216 % 256]
theorem val_four (n : Nat) (h : n < 4294967296) : val (four n) = n := by unfold four val val val val val; omega
theorem four_lt (n : Nat) : ∀ x ∈ four n, x < 256 := by
 intro x hx; unfold four at hx; simp at hx; omega
end Pg
end Go.Proofs.YtjldamkmdkaiiaaGreatDoor
namespace Go.Proofs.YtjldamkmdkaiiaaGreatDoor
open Go.RowKit
theorem ret_eqP {v v' : Value} (h : v = v') : Ending.returned v = Ending.returned v' := by rw [h]
def HalvesAt (w : World) : Prop := ∀ i : Nat, i < 16 → w.cell? ⟨2, i, none⟩ = some (.int .u32 (Pg.half i : Nat))
theorem take_snoc' (l : List Nat) (k : Nat) (h : k < l.length) : l.take (k + 1) = l.take k ++ [l[k]] := by
 rw [List.take_succ_eq_append_getElem h]
theorem on_take (c : Nat) (l : List Nat) (k : Nat) (h : k < l.length) : Pg.on c (l.take (k + 1)) = Pg.byteOn (Pg.on c (l.take k)) l[k] := by
 rw [take_snoc' l k h, Pg.on_snoc]
theorem half_round (z : Nat) (hz : z < 4294967296) : bits .and .u32 (z : Int) 15 = ((z % 16 : Nat) : Int) ∧ bits .xor .u32 ((z : Int) / 16) (Pg.half (z % 16) : Nat) = ((Pg.steps 4 z : Nat) : Int) ∧ Pg.steps 4 z < 4294967296 := by
 refine ⟨?_, ?_, Pg.steps_lt 4 hz⟩
 ·have h := u32_and_nat z 15 hz (by decide)
  rw [nat_mask4] at h; exact h
 ·have h := u32_xor_nat (z / 16) (Pg.half (z % 16)) (by omega) (Pg.half_lt ⟨z % 16, Nat.mod_lt _ (by decide)⟩)
  rw [Pg.by_half] at h
  rw [← h]; congr 1
set_option maxHeartbeats 1000000 in
theorem sum_any (a : Option Addr) (l : List Nat) (len cap : Nat) (hlen : Hid (len = l.length)) (hl : len ≤ maxLen) (w : World) (HA : Hid (ByAt w a l)) (HG : Hid (HalvesAt w)) :
  Calls Tryz.prog 102 #[.slice a len cap] w fun e w' => e = .returned (.int .u32 (Pg.sum l : Nat)) ∧ w = w' := by
 unfold maxLen at hl
 go_enter Tryz.func102, Tryz.ntmps102
 go_wp2
 go_loop [3, 8] (fun c i => ∃ k : Nat, k ≤ len ∧ i = .int .i64 k ∧ c = .int .u32 (Pg.on Pg.full (l.take k) : Nat)) (fun _ i => len - (intOf i).toNat)
 case atStart => exact ⟨0, Nat.zero_le _, rfl, rfl⟩
 case round =>
  obtain ⟨k, hk, rfl, rfl⟩ := hrel
  by_cases hlt : k < len
  ·have hkl : k < l.length := by have := hlen.out; omega
   obtain ⟨hx, g, off, rfl, hg, hc⟩ := HA.out k l[k] (List.getElem?_eq_getElem hkl)
   have hst := Lib.hid (on_take Pg.full l k hkl)
   have hc0 : Pg.on Pg.full (l.take k) < 4294967296 := Pg.on_lt _ (by decide) (fun x hx => HA.out.lt x (List.mem_of_mem_take hx))
   generalize Pg.on Pg.full (l.take k) = c at *
   generalize l[k] = b at *
   have hz : c ^^^ b < 4294967296 := Nat.xor_lt_two_pow (n := 32) hc0 (by omega)
   have e0 : bits .xor .u32 (c : Int) (b : Int) = ((c ^^^ b : Nat) : Int) := u32_xor_nat c b hc0 (by omega)
   have hb8 : Hid (Pg.byteOn c b = Pg.steps 4 (Pg.steps 4 (c ^^^ b))) := Lib.hid (Pg.steps_add 4 4 _)
   generalize c ^^^ b = z at *
   obtain ⟨e1, e2, hz2⟩ := half_round z hz
   have hc1 := HG.out (z % 16) (Nat.mod_lt _ (by decide))
   have hi1 : (0 : Int) ≤ ((z % 16 : Nat) : Int) := by omega
   have hj1 : ((z % 16 : Nat) : Int) < 16 := by omega
   have hn1 : (((z % 16 : Nat) : Int)).toNat = z % 16 := by omega
   generalize Pg.steps 4 z = y at *
   obtain ⟨e3, e4, hz3⟩ := half_round y hz2
   have hc2 := HG.out (y % 16) (Nat.mod_lt _ (by decide))
   have hi2 : (0 : Int) ≤ ((y % 16 : Nat) : Int) := by omega
   have hj2 : ((y % 16 : Nat) : Int) < 16 := by omega
   have hn2 : (((y % 16 : Nat) : Int)).toNat = y % 16 := by omega
   generalize Pg.half (z % 16) = h1 at *
   generalize Pg.half (y % 16) = h2 at *
   generalize z % 16 = m1 at *
   generalize y % 16 = m2 at *
   go_wp2
   go_round
   case rel => exact ⟨k + 1, by omega, by go_num, by rw [hst.out, hb8.out]⟩
   case measure => simp [intOf]; omega
  ·have hT : Hid (l.take k = l) := Lib.hid (List.take_of_length_le (by have := hlen.out; omega))
   have hc0 : Pg.on Pg.full (l.take k) < 4294967296 := Pg.on_lt _ (by decide) (fun x hx => HA.out.lt x (List.mem_of_mem_take hx))
   have hs : Hid (Pg.sum l = Pg.on Pg.full (l.take k) ^^^ 4294967295) := Lib.hid (by rw [hT.out]; rfl)
   generalize Pg.on Pg.full (l.take k) = c at *
   have e0 : bits .xor .u32 IntKind.u32.max (c : Int) = ((c ^^^ 4294967295 : Nat) : Int) := by
    rw [Nat.xor_comm]; exact u32_xor_nat 4294967295 c (by decide) hc0
   go_wp2
   go_ret
   exact ⟨ret_eqP (by rw [hs.out]; rfl), rfl⟩
theorem HalvesAt.keep {w w' : World} (h : HalvesAt w) (hb : Below w.heap.size w w') : HalvesAt w' := fun i hi =>
 (hb.cell (p := ⟨2, i, none⟩) (World.block_lt_of_cell? w _ (h i hi))).trans (h i hi)
theorem HalvesAt.at {w w' : World} (h : Hid (HalvesAt w)) (hb : Below w.heap.size w w') : Hid (HalvesAt w') := h.out.keep hb
def fourC (n : Nat) : Array Value := #[bv (n % 256), bv (n / 256 % 256), bv (n / 65536 % 256), bv (n / 16777216 % 256)]
theorem fourC_list (n : Nat) : (fourC n).toList = bys (Pg.four n) := rfl
theorem fourC_mk (n : Nat) (a b c d : Int) (ha : a = ((n % 256 : Nat) : Int)) (hb : b = ((n / 256 % 256 : Nat) : Int)) (hc : c = ((n / 65536 % 256 : Nat) : Int)) (hd : d = ((n / 16777216 % 256 : Nat) : Int)) :
  #[Value.int .u8 a, .int .u8 b, .int .u8 c, .int .u8 d] = fourC n := by subst ha hb hc hd; rfl
set_option maxHeartbeats 1000000 in
theorem word_any (n : Nat) (hn : n < 4294967296) (w : World) :
  Calls Tryz.prog 101 #[.int .u32 n] w fun e w' => e = .returned (.slice (some ⟨w.heap.size, 0, none⟩) 4 4) ∧ w.alloc (.cells (fourC n) 5) = w' := by
 go_enter Tryz.func101, Tryz.ntmps101
 go_wp2
 go_ret
 exact ⟨rfl, alloc_eq _ (fourC_mk n _ _ _ _ (by omega) (by omega) (by omega) (by omega)).symm⟩
theorem or_join (a b c d : Nat) (ha : a < 256) (hb : b < 256) (hc : c < 256) (hd : d < 256) :
  a ||| b * 256 ||| c * 65536 ||| d * 16777216 = a + 256 * (b + 256 * (c + 256 * (d + 256 * 0))) := by
 have h1 : a ||| b * 256 = b * 256 + a := by rw [Nat.or_comm]; exact nat_join 8 (b * 256) a (by omega) (by omega)
 have h2 : (b * 256 + a) ||| c * 65536 = c * 65536 + (b * 256 + a) := by rw [Nat.or_comm]; exact nat_join 16 (c * 65536) _ (by omega) (by omega)
 have h3 : (c * 65536 + (b * 256 + a)) ||| d * 16777216 = d * 16777216 + (c * 65536 + (b * 256 + a)) := by rw [Nat.or_comm]; exact nat_join 24 (d * 16777216) _ (by omega) (by omega)
 rw [h1, h2, h3]; omega
set_option maxHeartbeats 1000000 in
theorem wordOf_any (a : Option Addr) (l : List Nat) (len cap : Nat) (hlen : Hid (len = l.length)) (h4 : 4 ≤ len) (hl : len ≤ maxLen) (w : World) (HA : Hid (ByAt w a l)) :
  Calls Tryz.prog 112 #[.slice a len cap] w fun e w' => e = .returned (.int .u32 (Pg.val (l.take 4) : Nat)) ∧ ∃ n, w' = w.drewN n := by
 unfold maxLen at hl
 obtain ⟨b0, b1, b2, b3, r, rfl⟩ : ∃ b0 b1 b2 b3 r, l = b0 :: b1 :: b2 :: b3 :: r := by
  have h := hlen.out
  match l, h with
  | b0 :: b1 :: b2 :: b3 :: r, _ => exact ⟨b0, b1, b2, b3, r, rfl⟩
  | [_, _, _], h => simp at h; omega
  | [_, _], h => simp at h; omega
  | [_], h => simp at h; omega
  | [], h => simp at h; omega
 obtain ⟨g, off, rfl, hg, hc⟩ := HA.out.spot (by simp)
 have c0 := hc 0 b0 rfl
 have c1 := hc 1 b1 rfl
 have c2 := hc 2 b2 rfl
 have c3 := hc 3 b3 rfl
 have l0 := HA.out.lt b0 (by simp)
 have l1 := HA.out.lt b1 (by simp)
 have l2 := HA.out.lt b2 (by simp)
 have l3 := HA.out.lt b3 (by simp)
 rw [Nat.add_zero] at c0
 clear hc
 have hj := Lib.hid (or_join b0 b1 b2 b3 l0 l1 l2 l3)
 have j0 : (0 : Int) < (len : Int) := by omega
 have j1 : (1 : Int) < (len : Int) := by omega
 have j2 : (2 : Int) < (len : Int) := by omega
 have j3 : (3 : Int) < (len : Int) := by omega
 have e1 : bits .or .u32 (b0 : Int) ((b1 : Int) * 256) = ((b0 ||| b1 * 256 : Nat) : Int) := u32_or_nat b0 (b1 * 256) (by omega) (by omega)
 have e2 : bits .or .u32 ((b0 ||| b1 * 256 : Nat) : Int) ((b2 : Int) * 65536) = ((b0 ||| b1 * 256 ||| b2 * 65536 : Nat) : Int) := u32_or_nat (b0 ||| b1 * 256) (b2 * 65536) (Nat.or_lt_two_pow (n := 32) (by omega) (by omega)) (by omega)
 have e3 : bits .or .u32 ((b0 ||| b1 * 256 ||| b2 * 65536 : Nat) : Int) ((b3 : Int) * 16777216) = ((b0 ||| b1 * 256 ||| b2 * 65536 ||| b3 * 16777216 : Nat) : Int) :=
  u32_or_nat (b0 ||| b1 * 256 ||| b2 * 65536) (b3 * 16777216) (Nat.or_lt_two_pow (n := 32) (Nat.or_lt_two_pow (n := 32) (by omega) (by omega)) (by omega)) (by omega)
 have hv : Hid (Pg.val ((b0 :: b1 :: b2 :: b3 :: r).take 4) = b0 + 256 * (b1 + 256 * (b2 + 256 * (b3 + 256 * 0)))) := rfl
 go_enter Tryz.func112, Tryz.ntmps112
 go_wp2
 go_quiet (fail)
 go_wp2
 go_ret
 exact ⟨ret_eqP (by rw [hv.out, ← hj.out]; rfl), _, rfl⟩
section
variable {w w' : World} {B n cap : Nat} {A : Option Addr} {l : List Nat}
end
set_option maxHeartbeats 1000000 in
theorem clone_any (a : Option Addr) (l : List Nat) (len cap : Nat) (hlen : Hid (len = l.length)) (hl : len ≤ 140737488355328) (w : World) (HA : Hid (ByAt w a l)) :
  Calls Tryz.prog 74 #[.slice a len cap] w (RetS w l) := by
 have q22 : ∀ (w : World) (a : Option Addr) (n c n' c' : Nat), (binOp .eql 32 (.slice a n c) (.slice none n' c')).run Tryz.prog w = .ok (.bool a.isNone) w := fun w a n c n' c' => Lib.run_eql_slice_nil w _ _ a n c n' c' Tryz.underlying32
 have hl9 : len ≤ maxLen := by unfold maxLen; omega
 rcases a with _ | ad
 ·have e : l = [] := by
   rcases l with _ | ⟨x, r⟩
   ·rfl
   ·obtain ⟨-, g, off, e, -⟩ := HA.out 0 x rfl; cases e
  subst e
  have e : len = 0 := hlen.out
  subst e
  go_enter Tryz.func74, Tryz.ntmps74
  go_wp2
  go_ret
  exact ⟨none, 0, rfl, OwnS.nil _ _, Below.refl _ _⟩
 ·have HA1 : Hid (ByAt (w.alloc (.cells #[] 5)) (some ad) l) := Lib.hid (HA.out.keep ((Below.refl _ _).alloc (Nat.le_refl _) _))
  have HO : Hid (OwnS (w.alloc (.cells #[] 5)) w.heap.size (some ⟨w.heap.size, 0, none⟩) 0 0 []) := Lib.hid ⟨World.ownsRow_made w #[] 0 (Nat.le_refl _) (Nat.zero_le _) (by simp), fun x hx => by cases hx⟩
  go_enter Tryz.func74, Tryz.ntmps74
  go_wp2_with (at_builtin; refine wpList_append_by rfl (.tmp 5) (.tmp 6) rfl w.heap.size (some ⟨w.heap.size, 0, none⟩) 0 0 [] rfl HO.out (some ad) len cap l rfl hlen.out HA1.out (by omega) (by simp) ?_; intro A' cap' w' hO hG hL)
  go_ret
  rw [Nat.zero_add, List.nil_append, hlen.out] at hO
  exact ⟨A', cap', by rw [← hlen.out]; rfl, hO, ((Below.refl _ w).alloc (Nat.le_refl _) _).grown hG (by simp) (by intro k hk; simp at hk; omega)⟩
/-! Cuts -/
def RetG (w : World) (B n m : Nat) (l : List Nat) (e : Ending) (w' : World) : Prop := ∃ g cap cs, e = .returned (.slice (some ⟨g, 0, none⟩) n cap) ∧ Roomy w' B g n cap cs l ∧ n + m ≤ cap ∧ Below w.heap.size w w'
theorem zeroCells_len (n : Nat) : (Builtin.zeroCells (Value.int .u8 0).cells n).size = n := by
 unfold Builtin.zeroCells
 simp [Value.cells]
theorem grow_run (A : Option Addr) (n cap : Nat) (l : List Nat) (m : Nat) (B : Nat) (w : World) (HO : OwnS w B A n cap l) (hr : cap < n + m) (hbig : n + m ≤ 140737488355328) (hB : B ≤ w.heap.size) :
  ∃ W' G cs', (∀ ty, (Builtin.append_ #[32, 3] ty #[.slice A cap cap, .int .i64 ((n + m - cap : Nat) : Int)]).run Tryz.prog w = .ok (.slice (some ⟨w.heap.size, 0, none⟩) (n + m) G) W') ∧
   Roomy W' B w.heap.size n G cs' l ∧ n + m ≤ G ∧ Below w.heap.size w W' := by
 obtain ⟨hc1, hc2⟩ := HO.caps
 have hlen := HO.len
 obtain ⟨i0, hi0, hz0, hi1, hi2⟩ := info_parts infoU8
 obtain ⟨cs, hcl, hct, hold⟩ : ∃ cs : List Value, cs.length = cap ∧ cs.take n = bys l ∧ (Builtin.firstCells i0.size cap (.slice A cap cap)).run Tryz.prog w.drew = .ok cs.toArray w.drew := by
  rcases HO.1.2 with ⟨h1, h2⟩ | ⟨g, cap', cur, h1, hb, hrow, -, -, hs, ht⟩
  ·cases h1
   have hl : l = [] := List.eq_nil_of_length_eq_zero hlen.symm
   subst hl
   exact ⟨[], rfl, rfl, run_firstCells_none w.drew i0.size 0 0 0⟩
  ·cases h1
   refine ⟨cur.toList, by rw [Array.length_toList, hs, Nat.mul_one], by rw [← ht, Nat.mul_one], ?_⟩
   exact run_firstCells_some w.drew i0.size cap ⟨g, 0, none⟩ cap cap cur.toList (by rw [Array.length_toList, hs, hi1]) (fun j v hj => World.news_of_block (w := w.drew) hrow j v hj)
 have hck : cap + (n + m - cap) = n + m := by omega
 have hGn : n + m ≤ grownCap w (n + m) cap 5 := grownCap_ge w _ _ _
 have hG63 := grownCap_le_maxLen w (n + m) cap 5 (by unfold maxLen; omega)
 refine ⟨w.drew.alloc (.cells (cs.toArray ++ Builtin.zeroCells (Value.int .u8 0).cells (n + m - cap) ++ Builtin.zeroCells (Value.int .u8 0).cells (grownCap w (n + m) cap 5 - (n + m))) 5), grownCap w (n + m) cap 5, cs ++ ((Builtin.zeroCells (Value.int .u8 0).cells (n + m - cap)).toList ++ (Builtin.zeroCells (Value.int .u8 0).cells (grownCap w (n + m) cap 5 - (n + m))).toList), fun ty => ?_, ⟨?_, ?_, hG63, ?_, hB, HO.2⟩, hGn, ((Below.refl _ _).drew).alloc (Nat.le_refl _) _⟩
 ·have h := Lib.run_append_grow_zeros w 32 3 ty 5 i0 (.int .u8 0) .i64 .i64 Tryz.underlying32 Tryz.underlying3 hi0 hz0 A cap cap cs hold (n + m - cap) (by omega) (by omega) (by omega) (by omega)
   (by rw [hi2]; omega) (by rw [hck]; exact growslice_fits (by omega) (by rw [hi2]; omega))
  rw [hck] at h
  exact h
 ·rw [show w.heap.size = w.drew.heap.size from rfl, heap_alloc_new']
  congr 2
  simp
 ·simp only [List.length_append, Array.length_toList, zeroCells_len, hcl]; omega
 ·rw [List.take_append_of_le_length (by omega), hct]
set_option maxHeartbeats 400000 in
theorem grow_room (A : Option Addr) (n cap m : Nat) (w : World) (h1 : n ≤ cap) (h2 : cap ≤ 9223372036854775807) (hr : n + m ≤ cap) :
  Calls Tryz.prog 100 #[.slice A n cap, .int .i64 (m : Int)] w fun e w' => e = .returned (.slice A n cap) ∧ w = w' := by
 have h3 : ¬ ((m : Int) < 0) := by omega
 have h4 : ¬ ((m : Int) - ((cap : Int) - (n : Int)) > 0) := by omega
 go_enter Tryz.func100, Tryz.ntmps100
 go_wp2
 go_ret
 exact ⟨rfl, rfl⟩
set_option maxHeartbeats 400000 in
theorem grow_more (A : Option Addr) (n cap m : Nat) (w W' : World) (g G : Nat) (h1 : n ≤ cap) (h2 : cap ≤ 9223372036854775807) (hr : cap < n + m) (hbig : n + m ≤ 140737488355328) (hG : n + m ≤ G) (hG2 : G ≤ 9223372036854775807)
  (hA : A = none → cap = 0) (hrz : ∀ ty, (Builtin.append_ #[32, 3] ty #[.slice A cap cap, .int .i64 ((n + m - cap : Nat) : Int)]).run Tryz.prog w = .ok (.slice (some ⟨g, 0, none⟩) (n + m) G) W') :
  Calls Tryz.prog 100 #[.slice A n cap, .int .i64 (m : Int)] w fun e w' => e = .returned (.slice (some ⟨g, 0, none⟩) n G) ∧ W' = w' := by
 have h3 : ¬ ((m : Int) < 0) := by omega
 have h4 : (m : Int) - ((cap : Int) - (n : Int)) > 0 := by omega
 have hrz : ∀ ty, (Builtin.append_ #[32, 3] ty #[.slice A cap cap, .int .i64 ((m : Int) - ((cap : Int) - (n : Int)))]).run Tryz.prog w = .ok (.slice (some ⟨g, 0, none⟩) (n + m) G) W' := fun ty => by
  rw [show (m : Int) - ((cap : Int) - (n : Int)) = ((n + m - cap : Nat) : Int) by omega]; exact hrz ty
 obtain ⟨A1, C1, hcut, hsl⟩ : ∃ A1 C1, (∀ w, (Instr.slice 32 (.slice A n cap) none (some (.int .i64 (cap : Int))) none).run Tryz.prog w = .ok (.slice A1 cap C1) w) ∧ (A1 = A ∧ C1 = cap) := by
  refine ⟨A, cap, fun w => ?_, rfl, rfl⟩
  rw [run_slice_h w 32 A n cap Tryz.underlying32 .i64 (cap : Int) (by omega) (by omega)]
  rw [show (Go.sizeOf (Tryz.prog.elem 32)).run Tryz.prog w = .ok 1 w from by kernel_rfl]
  rcases A with _ | ⟨ab, ao, asp⟩
  ·simp [Result.andThen, sliced]
  ·simp [Result.andThen, sliced, Addr.add]
 obtain ⟨rfl, rfl⟩ := hsl
 go_enter Tryz.func100, Tryz.ntmps100
 go_wp2_with (at_builtin; refine Lib.wpList_append_run _ rfl _ _ _ _ rfl _ _ rfl rfl _ _ (hrz _) ?_)
 all_goals
  go_ret
  exact ⟨rfl, rfl⟩
theorem grow_any (A : Option Addr) (n cap : Nat) (l : List Nat) (m : Nat) (B : Nat) (w : World) (HO : Hid (OwnS w B A n cap l)) (hm : 0 < m) (hbig : n + m ≤ 140737488355328) (hB : B ≤ w.heap.size) :
  Calls Tryz.prog 100 #[.slice A n cap, .int .i64 (m : Int)] w (RetG w B n m l) := by
 obtain ⟨hc1, hc2⟩ := HO.out.caps
 have hlen := HO.out.len
 unfold maxLen at hc2
 by_cases hr : n + m ≤ cap
 ·refine (grow_room A n cap m w hc1 (by omega) hr).mono ?_
  rintro e w' ⟨rfl, rfl⟩
  rcases HO.out.1.2 with ⟨h1, h2⟩ | ⟨g, cap', cur, h1, hb, hrow, -, -, hs, ht⟩
  ·cases h1; omega
  ·cases h1
   exact ⟨g, cap, cur.toList, rfl, ⟨hrow, by rw [Array.length_toList, hs, Nat.mul_one], by unfold maxLen; omega, by rw [← ht, Nat.mul_one], hb, HO.out.2⟩, hr, Below.refl _ _⟩
 ·obtain ⟨W', G, cs', hrz, F, hG, hb⟩ := grow_run A n cap l m B w HO.out (by omega) hbig hB
  have hGm := F.cap
  unfold maxLen at hGm
  refine (grow_more A n cap m w W' w.heap.size G hc1 (by omega) (by omega) hbig hG (by omega) (fun hA => ?_) hrz).mono ?_
  ·subst hA
   rcases HO.out.1.2 with ⟨h1, h2⟩ | ⟨g, cap', cur, h1, _⟩
   ·cases h1; rfl
   ·cases h1
  ·rintro e w' ⟨rfl, rfl⟩
   exact ⟨_, _, _, rfl, F, hG, hb⟩
end Go.Proofs.YtjldamkmdkaiiaaGreatDoor
namespace Go.Proofs.YtjldamkmdkaiiaaGreatDoor
open Go.ChangeShapes Go.WideShapes Go.ChangeAt Go.WideElems Go.RowKit
theorem Tryz.own : ownKnob Tryz.prog.godebug = none := by kernel_rfl
theorem Tryz.laidOut : laidOutB Tryz.prog = true := by kernel_rfl
section
variable {H : Type} {enc : TypeId × Value → H} {P : Program}
theorem trodAll_keep {W W' : World} {sp : Nat → Bool} (hl : laidOutB P = true) (hs : ∀ x : MemPlace, x.block < W.heap.size → W.sameAt W' x) : ∀ (ts : List TypeId) (vs : List Value) (ds : List (DataW H)) (ps : List MemPlace),
  (∀ t, t ∈ ts → P.readableRec t = true ∧ t < P.types.size) → DataW.TrodAll enc P W 0 (fun _ => true) true ts vs ds ps → (∀ x, x ∈ ps → x.block < W.heap.size) → (∀ x, x ∈ ps → sp x.block = true) →
  DataW.TrodAll enc P W' 0 sp true ts vs ds ps
 | [], [], [], _, _, h, _, _ => h
 | t :: ts, v :: vs, d :: ds, ps, hr, ⟨p, q, hd, hrest, he⟩, hlt, hsp => by
  subst he
  refine ⟨p, q, ?_, trodAll_keep hl hs ts vs ds q (fun t ht => hr t (by simp [ht])) hrest (fun x hx => hlt x (by simp [hx])) (fun x hx => hsp x (by simp [hx])), rfl⟩
  exact WideElems.Trod_stays hl (hr t (by simp)).1 (hr t (by simp)).2 hd (fun x hx => hs x (hlt x (by simp [hx]))) (fun x hx => hsp x (by simp [hx]))
 | [], [], _ :: _, _, _, h, _, _ => h.elim
 | [], _ :: _, _, _, _, h, _, _ => h.elim
 | _ :: _, [], _, _, _, h, _, _ => h.elim
 | _ :: _, _ :: _, [], _, _, h, _, _ => h.elim
theorem post_law {f : Func} {s : ChangeSpec} {W W' : World} {args : Array Value} {ds : List (DataW H)} {before : List MemPlace} {tb : TypeId} (hl : laidOutB P = true)
  (hv : s.vars = []) (hW : DataW.Whole enc P f.params.toList s.vars false W args.toList ds [] before)
  (hrec : ∀ t, t ∈ f.params.toList → P.readableRec t = true ∧ t < P.types.size)
  (hres : (s.fn H ds).results = [.lit (.bool true)]) (hargs : (s.fn H ds).args = ds) (hvs : (s.fn H ds).vars = [])
  (hrt : f.resultTypes = #[tb]) (htb : P.underlying tb = some .bool) (hb : Below W.heap.size W W') : s.post enc P f false true false false W args (.bool true) W' := by
 have hlt : ∀ x, x ∈ before → x.block < W.heap.size := fun x hx => hW.lt x hx
 have hW2 := hW
 obtain ⟨p, q, hA, hV, rfl, -, -⟩ := hW2
 have hq : q = [] := by rw [hv] at hV; exact hV
 subst hq
 refine ⟨ds, [], p ++ [], [], p, [], hW, ?_, ?_, ?_, hb.frame _, fun h => by cases h⟩
 ·rw [List.append_nil, hres, hrt]
  exact trodAll_mk1 (shut_bool htb true)
 ·rw [List.append_nil, hargs]
  exact trodAll_keep hl (fun x hx => hb.same hx) _ _ _ _ hrec hA (fun x hx => hlt x (by simp [hx])) (fun x hx => by simpa using hlt x (by simp [hx]))
 ·rw [List.append_nil, hv, hvs]; rfl
end
theorem gHalves : Tryz.prog.globalNamed "headrace/page.halves" = some 2 := by kernel_rfl
theorem tHalves : (Tryz.prog.globals[2]?).map (·.type) = some 173 := by kernel_rfl
def laidHalves {H : Type} : List (String × DataW H) := [("headrace/page.halves", Rows.laid_headrace_page_halves)]
theorem laid_parts (i : Nat) (hi : i < 16) : ∃ parts : List (DataW Unit), (Rows.laid_headrace_page_halves : DataW Unit) = .agg parts ∧ parts[i]? = some (.lit (.int .u32 (Pg.half i : Nat))) := by
 refine ⟨_, rfl, ?_⟩
 exact match i, hi with
 | 0, _ => rfl
 | 1, _ => rfl
 | 2, _ => rfl
 | 3, _ => rfl
 | 4, _ => rfl
 | 5, _ => rfl
 | 6, _ => rfl
 | 7, _ => rfl
 | 8, _ => rfl
 | 9, _ => rfl
 | 10, _ => rfl
 | 11, _ => rfl
 | 12, _ => rfl
 | 13, _ => rfl
 | 14, _ => rfl
 | 15, _ => rfl
 | n + 16, h => absurd h (by omega)
theorem of_laid {W : World} (h : laidMetH Tryz.prog laidHalves W) : HalvesAt W := by
 rw [MakeChecks.laidMetH_plain _ _ _ (by kernel_rfl)] at h
 obtain ⟨ps, ⟨g0, t0, cs0, f0, p0, q0, hg0, ht0, hv0, hd0, _, _⟩, _, _⟩ := h
 obtain rfl := Option.some.inj (gHalves.symm.trans hg0)
 obtain rfl := Option.some.inj (tHalves.symm.trans ht0)
 obtain ⟨xs, m1, rfl, hx1, hlen, hn3, hel⟩ := DataW.trod_array Tryz.underlying173 hd0
 have c3 : Tryz.prog.cellsOf 148 = 1 := by kernel_rfl
 intro i hi
 obtain ⟨parts, hp, hpi⟩ := laid_parts i hi
 rw [hp] at hx1
 simp only [Prod.mk.injEq, DataW.agg.injEq] at hx1
 have hxi : xs[i]? = some (xs[i]'(by omega)) := List.getElem?_eq_getElem (by omega)
 have hi1 := hel i hi
 rw [c3, Nat.mul_one, hxi] at hi1
 obtain ⟨k, e1, e2, _⟩ := DataW.trod_int Tryz.underlying148 hi1
 have hk : k = (Pg.half i : Nat) := by
  rw [hx1.1, List.getElem?_map, hxi] at hpi
  simp only [Option.map_some, Option.some.injEq] at hpi
  rw [e2] at hpi
  simpa using hpi
 subst hk
 have hc := World.var?_cell hg0 hv0 i
 rw [hc, ← Array.getElem?_toList]
 have h2 : (cs0.toList.drop i)[0]? = some (.int .u32 (Pg.half i : Nat)) := by
  have h3 : ((cs0.toList.drop i).take 1)[0]? = some (.int .u32 (Pg.half i : Nat)) := by rw [e1]; rfl
  rw [List.getElem?_take] at h3
  simpa using h3
 rw [List.getElem?_drop] at h2
 simpa using h2
end Go.Proofs.YtjldamkmdkaiiaaGreatDoor
