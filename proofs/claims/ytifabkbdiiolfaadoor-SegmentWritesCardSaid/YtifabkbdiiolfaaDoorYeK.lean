/-
  Layer segment: the contract of placeOf, of four bytes.
-/
import Derived.BigRegion
import Derived.Deep.CutBlock
import Derived.Test.YtifabkbdiiolfaaDoorYgK
import Derived.Test.YtifabkbdiiolfaaDoorGrK
set_option linter.unusedSimpArgs false
set_option linter.unusedVariables false
set_option maxRecDepth 8000
namespace Go.Proofs.YtifabkbdiiolfaaDoor
open Go.RowKit Go.WideShapes Col
/-- Four bytes of a place, the first ones laid. -/
def plC (n k : Nat) : Array Value := #[bv (if 0 < k then n % 256 else 0), bv (if 1 < k then n / 256 % 256 else 0), bv (if 2 < k then n / 65536 % 256 else 0), bv (if 3 < k then n / 16777216 % 256 else 0)]
theorem plC_mk (n k : Nat) (a b c d : Int) (ha : a = ((if 0 < k then n % 256 else 0 : Nat) : Int)) (hb : b = ((if 1 < k then n / 256 % 256 else 0 : Nat) : Int)) (hc : c = ((if 2 < k then n / 65536 % 256 else 0 : Nat) : Int)) (hd : d = ((if 3 < k then n / 16777216 % 256 else 0 : Nat) : Int)) :
  #[Value.int .u8 a, .int .u8 b, .int .u8 c, .int .u8 d] = plC n k := by subst ha hb hc hd; rfl
theorem plL_0 (n : Nat) : plC n 0 = #[.int .u8 0, .int .u8 0, .int .u8 0, .int .u8 0] := rfl
theorem plL_1 (n : Nat) : plC n 1 = #[.int .u8 ((n % 256 : Nat) : Int), .int .u8 0, .int .u8 0, .int .u8 0] := rfl
theorem plL_2 (n : Nat) : plC n 2 = #[.int .u8 ((n % 256 : Nat) : Int), .int .u8 ((n / 256 % 256 : Nat) : Int), .int .u8 0, .int .u8 0] := rfl
theorem plL_3 (n : Nat) : plC n 3 = #[.int .u8 ((n % 256 : Nat) : Int), .int .u8 ((n / 256 % 256 : Nat) : Int), .int .u8 ((n / 65536 % 256 : Nat) : Int), .int .u8 0] := rfl
set_option maxHeartbeats 2000000 in
theorem layPlace_any (n : Nat) (hn : n < 4294967296) (w : World) :
  Calls Tryd.prog 15 #[.int .i64 (n : Int)] w fun e w' => e = .returned (.slice (some ⟨w.heap.size, 0, none⟩) 4 4) ∧ w.alloc (.cells (fourC n) 5) = w' := by
 have hmk : ∀ w : World, (Instr.makeSlice 24 (.int .i64 4) (.int .i64 4)).run Tryd.prog w = .ok (.slice (some ⟨w.heap.size, 0, none⟩) 4 4) (w.alloc (.cells #[.int .u8 0, .int .u8 0, .int .u8 0, .int .u8 0] 5)) := fun _ => by kernel_rfl
 go_enter Tryd.func15, Tryd.ntmps15
 go_wp2
 go_loopw [8] (fun i wr => ∃ k : Nat, k ≤ 4 ∧ i = .int .i64 (k : Int) ∧ wr = w.alloc (.cells (plC n k) 5)) (fun i _ => 4 - (intOf i).toNat)
 case atStart => exact ⟨0, by omega, rfl, rfl⟩
 case round =>
  obtain ⟨k, hk, rfl, rfl⟩ := hrel
  rcases (by omega : k = 0 ∨ k = 1 ∨ k = 2 ∨ k = 3 ∨ k = 4) with rfl | rfl | rfl | rfl | rfl
  ·rw [plL_0]
   go_wp2
   go_roundw
   case rel => exact ⟨1, by omega, by go_num, alloc_eq _ (plC_mk n 1 _ _ _ _ (by simp <;> omega) (by simp <;> omega) (by simp <;> omega) (by simp <;> omega))⟩
   case measure => simp [intOf]
  ·rw [plL_1]
   go_wp2
   go_roundw
   case rel => exact ⟨2, by omega, by go_num, alloc_eq _ (plC_mk n 2 _ _ _ _ (by simp <;> omega) (by simp <;> omega) (by simp <;> omega) (by simp <;> omega))⟩
   case measure => simp [intOf]
  ·rw [plL_2]
   go_wp2
   go_roundw
   case rel => exact ⟨3, by omega, by go_num, alloc_eq _ (plC_mk n 3 _ _ _ _ (by simp <;> omega) (by simp <;> omega) (by simp <;> omega) (by simp <;> omega))⟩
   case measure => simp [intOf]
  ·rw [plL_3]
   go_wp2
   go_roundw
   case rel => exact ⟨4, by omega, by go_num, alloc_eq _ (plC_mk n 4 _ _ _ _ (by simp <;> omega) (by simp <;> omega) (by simp <;> omega) (by simp <;> omega))⟩
   case measure => simp [intOf]
  ·go_wp2
   go_ret
   exact ⟨rfl, rfl⟩
end Go.Proofs.YtifabkbdiiolfaaDoor

namespace Go.Proofs.YtifabkbdiiolfaaDoor
open Go.RowKit Go.WideShapes Col
set_option maxHeartbeats 2000000 in
theorem placeOf_any (a : Option Addr) (b0 b1 b2 b3 c : Nat) (w : World) (HA : Hid (ByAt w a [b0, b1, b2, b3])) :
  Calls Tryd.prog 23 #[.slice a 4 c] w fun e w' => e = .returned (.int .u64 ((Pg.val [b0, b1, b2, b3] : Nat) : Int)) ∧ w = w' := by
 obtain ⟨g, off, rfl, hg, hc⟩ := HA.out.spot (by simp)
 have c0 := hc 0 b0 rfl
 have c1 := hc 1 b1 rfl
 have c2 := hc 2 b2 rfl
 have c3 := hc 3 b3 rfl
 have l0 := HA.out.lt b0 (by simp)
 have l1 := HA.out.lt b1 (by simp)
 have l2 := HA.out.lt b2 (by simp)
 have l3 := HA.out.lt b3 (by simp)
 rw [Nat.add_zero] at c0
 clear hc HA
 have hj := Lib.hid (or_join b0 b1 b2 b3 l0 l1 l2 l3)
 have e0 : bits .or .u64 0 (b0 : Int) = ((b0 : Nat) : Int) := by have := bits_or_u64_nat 0 b0 (by omega) (by omega); simpa using this
 have e1 : bits .or .u64 (b0 : Int) ((b1 : Int) * 256) = ((b0 ||| b1 * 256 : Nat) : Int) := bits_or_u64_nat b0 (b1 * 256) (by omega) (by omega)
 have e2 : bits .or .u64 ((b0 ||| b1 * 256 : Nat) : Int) ((b2 : Int) * 65536) = ((b0 ||| b1 * 256 ||| b2 * 65536 : Nat) : Int) := bits_or_u64_nat (b0 ||| b1 * 256) (b2 * 65536) (Nat.or_lt_two_pow (n := 64) (by omega) (by omega)) (by omega)
 have e3 : bits .or .u64 ((b0 ||| b1 * 256 ||| b2 * 65536 : Nat) : Int) ((b3 : Int) * 16777216) = ((b0 ||| b1 * 256 ||| b2 * 65536 ||| b3 * 16777216 : Nat) : Int) :=
  bits_or_u64_nat (b0 ||| b1 * 256 ||| b2 * 65536) (b3 * 16777216) (Nat.or_lt_two_pow (n := 64) (Nat.or_lt_two_pow (n := 64) (by omega) (by omega)) (by omega)) (by omega)
 obtain ⟨v2, hv2⟩ : ∃ v, v = b0 ||| b1 * 256 := ⟨_, rfl⟩
 obtain ⟨v3, hv3⟩ : ∃ v, v = b0 ||| b1 * 256 ||| b2 * 65536 := ⟨_, rfl⟩
 obtain ⟨v4, hv4⟩ : ∃ v, v = b0 ||| b1 * 256 ||| b2 * 65536 ||| b3 * 16777216 := ⟨_, rfl⟩
 rw [← hv4] at e3 hj
 rw [← hv3] at e3 e2
 rw [← hv2] at e2 e1
 clear hv2 hv3 hv4
 have hv : Hid (Pg.val [b0, b1, b2, b3] = b0 + 256 * (b1 + 256 * (b2 + 256 * (b3 + 256 * 0)))) := rfl
 go_enter Tryd.func23, Tryd.ntmps23
 go_wp2
 go_loopw [3, 8] (fun v i wr => wr = w ∧ ((i = .int .i64 0 ∧ v = .int .u64 0) ∨ (i = .int .i64 1 ∧ v = .int .u64 (b0 : Int)) ∨ (i = .int .i64 2 ∧ v = .int .u64 (v2 : Int)) ∨ (i = .int .i64 3 ∧ v = .int .u64 (v3 : Int)) ∨ (i = .int .i64 4 ∧ v = .int .u64 (v4 : Int)))) (fun _ i _ => 4 - (intOf i).toNat)
 case atStart => exact ⟨rfl, .inl ⟨rfl, rfl⟩⟩
 case round =>
  obtain ⟨rfl, ⟨rfl, rfl⟩ | ⟨rfl, rfl⟩ | ⟨rfl, rfl⟩ | ⟨rfl, rfl⟩ | ⟨rfl, rfl⟩⟩ := hrel
  ·go_wp2
   go_roundw
   case rel => exact ⟨by first | rfl | trivial, .inr (.inl ⟨rfl, rfl⟩)⟩
   case measure => simp [intOf]
  ·go_wp2
   go_roundw
   case rel => exact ⟨by first | rfl | trivial, .inr (.inr (.inl ⟨rfl, rfl⟩))⟩
   case measure => simp [intOf]
  ·go_wp2
   go_roundw
   case rel => exact ⟨by first | rfl | trivial, .inr (.inr (.inr (.inl ⟨rfl, rfl⟩)))⟩
   case measure => simp [intOf]
  ·go_wp2
   go_roundw
   case rel => exact ⟨by first | rfl | trivial, .inr (.inr (.inr (.inr ⟨rfl, rfl⟩)))⟩
   case measure => simp [intOf]
  ·go_wp2
   go_ret
   exact ⟨by rw [hv.out, ← hj.out]; rfl, rfl⟩
end Go.Proofs.YtifabkbdiiolfaaDoor
