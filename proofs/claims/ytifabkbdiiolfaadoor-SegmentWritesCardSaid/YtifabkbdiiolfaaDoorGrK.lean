/-
  Contracts of Read and One, and of the document's.
-/
import Derived.Lib.SlBytesConst
import Derived.Test.YtifabkbdiiolfaaDoorByK
import Derived.Test.YtifabkbdiiolfaaDoorGsK
import Derived.Deep.QuietTactic
import Derived.BigQuiet
import Derived.Deep.AppendLies
import Derived.Laws.CopyOwn
import Derived.Maps.AppendAt
import Derived.Deep.RegionHeld3
import Derived.Deep.Draws
set_option linter.unusedSimpArgs false
set_option linter.unusedVariables false
set_option maxRecDepth 8000
namespace Go.Proofs.YtifabkbdiiolfaaDoor
open Go.RowKit
theorem HalvesAt.keep {w w' : World} (h : HalvesAt w) (hb : Below w.heap.size w w') : HalvesAt w' := fun i hi =>
 (hb.cell (p := ⟨0, i, none⟩) (World.block_lt_of_cell? w _ (h i hi))).trans (h i hi)
theorem HalvesAt.at {w w' : World} (h : Hid (HalvesAt w)) (hb : Below w.heap.size w w') : Hid (HalvesAt w') := h.out.keep hb
end Go.Proofs.YtifabkbdiiolfaaDoor

namespace Go.Proofs.YtifabkbdiiolfaaDoor
open Go.RowKit
def fourC (n : Nat) : Array Value := #[bv (n % 256), bv (n / 256 % 256), bv (n / 65536 % 256), bv (n / 16777216 % 256)]
theorem fourC_list (n : Nat) : (fourC n).toList = bys (Pg.four n) := rfl
theorem fourC_mk (n : Nat) (a b c d : Int) (ha : a = ((n % 256 : Nat) : Int)) (hb : b = ((n / 256 % 256 : Nat) : Int)) (hc : c = ((n / 65536 % 256 : Nat) : Int)) (hd : d = ((n / 16777216 % 256 : Nat) : Int)) :
  #[Value.int .u8 a, .int .u8 b, .int .u8 c, .int .u8 d] = fourC n := by subst ha hb hc hd; rfl
set_option maxHeartbeats 1000000 in
theorem word_any (n : Nat) (hn : n < 4294967296) (w : World) :
  Calls Tryd.prog 36 #[.int .u32 n] w fun e w' => e = .returned (.slice (some ⟨w.heap.size, 0, none⟩) 4 4) ∧ w.alloc (.cells (fourC n) 5) = w' := by
 go_enter Tryd.func36, Tryd.ntmps36
 go_wp2
 go_ret
 exact ⟨rfl, alloc_eq _ (fourC_mk n _ _ _ _ (by omega) (by omega) (by omega) (by omega)).symm⟩
set_option maxHeartbeats 1000000 in
theorem four_any (n : Nat) (hn : n < 4294967296) (w : World) :
  Calls Tryd.prog 43 #[.int .u32 n] w fun e w' => e = .returned (.slice (some ⟨w.heap.size, 0, none⟩) 4 4) ∧ w.alloc (.cells (fourC n) 5) = w' := by
 go_enter Tryd.func43, Tryd.ntmps43
 go_wp2
 go_ret
 exact ⟨rfl, alloc_eq _ (fourC_mk n _ _ _ _ (by omega) (by omega) (by omega) (by omega)).symm⟩
theorem or_join (a b c d : Nat) (ha : a < 256) (hb : b < 256) (hc : c < 256) (hd : d < 256) :
  a ||| b * 256 ||| c * 65536 ||| d * 16777216 = a + 256 * (b + 256 * (c + 256 * (d + 256 * 0))) := by
 have h1 : a ||| b * 256 = b * 256 + a := by rw [Nat.or_comm]; exact nat_join 8 (b * 256) a (by omega) (by omega)
 have h2 : (b * 256 + a) ||| c * 65536 = c * 65536 + (b * 256 + a) := by rw [Nat.or_comm]; exact nat_join 16 (c * 65536) _ (by omega) (by omega)
 have h3 : (c * 65536 + (b * 256 + a)) ||| d * 16777216 = d * 16777216 + (c * 65536 + (b * 256 + a)) := by rw [Nat.or_comm]; exact nat_join 24 (d * 16777216) _ (by omega) (by omega)
 rw [h1, h2, h3]; omega
set_option maxHeartbeats 1000000 in
theorem wordOf_any (a : Option Addr) (l : List Nat) (len cap : Nat) (hlen : Hid (len = l.length)) (h4 : 4 ≤ len) (hl : len ≤ maxLen) (w : World) (HA : Hid (ByAt w a l)) :
  Calls Tryd.prog 45 #[.slice a len cap] w fun e w' => e = .returned (.int .u32 (Pg.val (l.take 4) : Nat)) ∧ ∃ n, w' = w.drewN n := by
 unfold maxLen at hl
 obtain ⟨b0, b1, b2, b3, r, rfl⟩ : ∃ b0 b1 b2 b3 r, l = b0 :: b1 :: b2 :: b3 :: r := by
  have h := hlen.out
  match l, h with
  | b0 :: b1 :: b2 :: b3 :: r, _ => exact ⟨b0, b1, b2, b3, r, rfl⟩
  | [_, _, _], h => simp at h; omega
  | [_, _], h => simp at h; omega
  | [_], h => simp at h; omega
  | [], h => simp at h; omega
 obtain ⟨g, off, rfl, hg, hc⟩ := HA.out.spot (by simp)
 have c0 := hc 0 b0 rfl
 have c1 := hc 1 b1 rfl
 have c2 := hc 2 b2 rfl
 have c3 := hc 3 b3 rfl
 have l0 := HA.out.lt b0 (by simp)
 have l1 := HA.out.lt b1 (by simp)
 have l2 := HA.out.lt b2 (by simp)
 have l3 := HA.out.lt b3 (by simp)
 rw [Nat.add_zero] at c0
 clear hc
 have hj := Lib.hid (or_join b0 b1 b2 b3 l0 l1 l2 l3)
 have j0 : (0 : Int) < (len : Int) := by omega
 have j1 : (1 : Int) < (len : Int) := by omega
 have j2 : (2 : Int) < (len : Int) := by omega
 have j3 : (3 : Int) < (len : Int) := by omega
 have e1 : bits .or .u32 (b0 : Int) ((b1 : Int) * 256) = ((b0 ||| b1 * 256 : Nat) : Int) := u32_or_nat b0 (b1 * 256) (by omega) (by omega)
 have e2 : bits .or .u32 ((b0 ||| b1 * 256 : Nat) : Int) ((b2 : Int) * 65536) = ((b0 ||| b1 * 256 ||| b2 * 65536 : Nat) : Int) := u32_or_nat (b0 ||| b1 * 256) (b2 * 65536) (Nat.or_lt_two_pow (n := 32) (by omega) (by omega)) (by omega)
 have e3 : bits .or .u32 ((b0 ||| b1 * 256 ||| b2 * 65536 : Nat) : Int) ((b3 : Int) * 16777216) = ((b0 ||| b1 * 256 ||| b2 * 65536 ||| b3 * 16777216 : Nat) : Int) :=
  u32_or_nat (b0 ||| b1 * 256 ||| b2 * 65536) (b3 * 16777216) (Nat.or_lt_two_pow (n := 32) (Nat.or_lt_two_pow (n := 32) (by omega) (by omega)) (by omega)) (by omega)
 have hv : Hid (Pg.val ((b0 :: b1 :: b2 :: b3 :: r).take 4) = b0 + 256 * (b1 + 256 * (b2 + 256 * (b3 + 256 * 0)))) := rfl
 go_enter Tryd.func45, Tryd.ntmps45
 go_wp2
 go_quiet (fail)
 go_wp2
 go_ret
 exact ⟨ret_eqP (by rw [hv.out, ← hj.out]; rfl), _, rfl⟩
end Go.Proofs.YtifabkbdiiolfaaDoor

namespace Go.Proofs.YtifabkbdiiolfaaDoor
open Go.RowKit
section
variable {w w' : World} {B n cap : Nat} {A : Option Addr} {l : List Nat}
end
set_option maxHeartbeats 1000000 in
theorem clone_any (a : Option Addr) (l : List Nat) (len cap : Nat) (hlen : Hid (len = l.length)) (hl : len ≤ 140737488355328) (w : World) (HA : Hid (ByAt w a l)) :
  Calls Tryd.prog 27 #[.slice a len cap] w (RetS w l) := by
 have q22 : ∀ (w : World) (a : Option Addr) (n c n' c' : Nat), (binOp .eql 24 (.slice a n c) (.slice none n' c')).run Tryd.prog w = .ok (.bool a.isNone) w := fun w a n c n' c' => Lib.run_eql_slice_nil w _ _ a n c n' c' Tryd.underlying24
 have hl9 : len ≤ maxLen := by unfold maxLen; omega
 rcases a with _ | ad
 ·have e : l = [] := by
   rcases l with _ | ⟨x, r⟩
   ·rfl
   ·obtain ⟨-, g, off, e, -⟩ := HA.out 0 x rfl; cases e
  subst e
  have e : len = 0 := hlen.out
  subst e
  go_enter Tryd.func27, Tryd.ntmps27
  go_wp2
  go_ret
  exact ⟨none, 0, rfl, OwnS.nil _ _, Below.refl _ _⟩
 ·have HA1 : Hid (ByAt (w.alloc (.cells #[] 5)) (some ad) l) := Lib.hid (HA.out.keep ((Below.refl _ _).alloc (Nat.le_refl _) _))
  have HO : Hid (OwnS (w.alloc (.cells #[] 5)) w.heap.size (some ⟨w.heap.size, 0, none⟩) 0 0 []) := Lib.hid ⟨World.ownsRow_made w #[] 0 (Nat.le_refl _) (Nat.zero_le _) (by simp), fun x hx => by cases hx⟩
  go_enter Tryd.func27, Tryd.ntmps27
  go_wp2_with (at_builtin; refine wpList_append_by rfl (.tmp 5) (.tmp 6) rfl w.heap.size (some ⟨w.heap.size, 0, none⟩) 0 0 [] rfl HO.out (some ad) len cap l rfl hlen.out HA1.out (by omega) (by simp) ?_; intro A' cap' w' hO hG hL)
  go_ret
  rw [Nat.zero_add, List.nil_append, hlen.out] at hO
  exact ⟨A', cap', by rw [← hlen.out]; rfl, hO, ((Below.refl _ w).alloc (Nat.le_refl _) _).grown hG (by simp) (by intro k hk; simp at hk; omega)⟩
/-! Cuts -/
end Go.Proofs.YtifabkbdiiolfaaDoor

namespace Go.Proofs.YtifabkbdiiolfaaDoor
open Go.RowKit
namespace Pg
/-- How many bytes a page says it has; what is wrong with it; its parts. -/
def sz (q : List Nat) : Nat := val (q.take 4)
def errOf (q : List Nat) : Nat :=
 if q.length < 9 then 3 else if 1048576 < sz q then 3 else if q.length < sz q + 9 then 3 else if val ((q.drop (5 + sz q)).take 4) = sum (q.take (5 + sz q)) then 0 else 4
def errAt (l : List Nat) (i : Int) : Nat := if i < 0 ∨ (l.length : Int) < i then 1 else errOf (l.drop i.toNat)
def kindAt (l : List Nat) (i : Int) : Nat := if errAt l i = 0 then (l.drop i.toNat).getD 4 0 else 0
def bodyAt (l : List Nat) (i : Int) : List Nat := if errAt l i = 0 then ((l.drop i.toNat).drop 5).take (sz (l.drop i.toNat)) else []
def endAt (l : List Nat) (i : Int) : Int := if errAt l i = 0 then i + 9 + sz (l.drop i.toNat) else 0
theorem kind_err {l : List Nat} {i : Int} (h : errAt l i ≠ 0) : kindAt l i = 0 := if_neg h
theorem body_err {l : List Nat} {i : Int} (h : errAt l i ≠ 0) : bodyAt l i = [] := if_neg h
theorem end_err {l : List Nat} {i : Int} (h : errAt l i ≠ 0) : endAt l i = 0 := if_neg h
end Pg
/-- What a reading returns: the parts, or an error. -/
def RetQ (w : World) (l : List Nat) (i : Int) (e : Ending) (w' : World) : Prop := ∃ A cap, e = .returned (.tuple #[.int .u8 (Pg.kindAt l i : Nat), .slice A (Pg.bodyAt l i).length cap, .int .i64 (Pg.endAt l i), .int .i64 (Pg.errAt l i : Nat)]) ∧
 ByAt w' A (Pg.bodyAt l i) ∧ (Pg.bodyAt l i).length ≤ cap ∧ cap ≤ maxLen ∧ Below w.heap.size w w'
theorem RetQ.err {w w' : World} {l : List Nat} {i : Int} (c : Nat) (h : Pg.errAt l i = c) (hc : c ≠ 0) (hb : Below w.heap.size w w') : RetQ w l i (.returned (.tuple #[.int .u8 0, .slice none 0 0, .int .i64 0, .int .i64 (c : Nat)])) w' := by
 have h0 : Pg.errAt l i ≠ 0 := by rw [h]; exact hc
 refine ⟨none, 0, ?_, ?_, ?_, Nat.zero_le _, hb⟩
 ·rw [Pg.kind_err h0, Pg.body_err h0, Pg.end_err h0, h]; rfl
 ·rw [Pg.body_err h0]; exact ByAt.nil _ _
 ·rw [Pg.body_err h0]; exact Nat.le_refl _
theorem wordOf_at (a : Option Addr) (l : List Nat) (len cap : Nat) (hlen : Hid (len = l.length)) (h4 : 4 ≤ len) (hl : len ≤ maxLen) (w : World) (HA : Hid (ByAt w a l)) :
  Calls Tryd.prog 45 #[.slice a len cap] w fun e w' => e = .returned (.int .u32 (Pg.sz l : Nat)) ∧ Below w.heap.size w w' :=
 (wordOf_any a l len cap hlen h4 hl w HA).mono fun _ _ ⟨h, n, hn⟩ => ⟨h, by rw [hn]; exact below_drewN (Below.refl _ _) n⟩
theorem wordOf_q (a : Option Addr) (l : List Nat) (N : Nat) (hN : Pg.val (l.take 4) = N) (len cap : Nat) (hlen : Hid (len = l.length)) (h4 : 4 ≤ len) (hl : len ≤ maxLen) (w : World) (HA : Hid (ByAt w a l)) :
  Calls Tryd.prog 45 #[.slice a len cap] w fun e w' => e = .returned (.int .u32 (N : Nat)) ∧ ∃ n, w' = w.drewN n := by
 rw [← hN]; exact wordOf_any a l len cap hlen h4 hl w HA
theorem sum_q (a : Option Addr) (l : List Nat) (N : Nat) (hN : Pg.sum l = N) (len cap : Nat) (hlen : Hid (len = l.length)) (hl : len ≤ maxLen) (w : World) (HA : Hid (ByAt w a l)) (HG : Hid (HalvesAt w)) :
  Calls Tryd.prog 37 #[.slice a len cap] w fun e w' => e = .returned (.int .u32 (N : Nat)) ∧ w' = w := by
 rw [← hN]; exact (sum_any a l len cap hlen hl w HA HG).mono fun _ _ ⟨h, hw⟩ => ⟨h, hw.symm⟩
set_option maxHeartbeats 1000000 in
/-- Where the place is none. -/
theorem read_arg (a : Option Addr) (l : List Nat) (len cap : Nat) (i : Int) (hlen : Hid (len = l.length)) (hl : len ≤ maxLen) (hi : i < 0 ∨ (len : Int) < i) (w : World) :
  Calls Tryd.prog 24 #[.slice a len cap, .int .i64 i] w (RetQ w l i) := by
 have he : Hid (Pg.errAt l i = 1) := Lib.hid (by unfold Pg.errAt; rw [if_pos]; rw [← hlen.out]; exact hi)
 unfold maxLen at hl
 by_cases h0 : i < 0
 all_goals
  (try (have h1 : (len : Int) < i := by omega))
  clear hi
  go_enter Tryd.func24, Tryd.ntmps24
  go_wp2
  refine bodyPost_ret (results_tmp4 rfl _ _ _) rfl ?_
  exact RetQ.err 1 he.out (by decide) (Below.refl _ _)
/-- What stands there, and from where it is taken. -/
structure Rest (w : World) (a : Option Addr) (l : List Nat) (len cap k : Nat) (A : Option Addr) (n C : Nat) (q : List Nat) : Prop where
 run : ∀ w, (Instr.slice 24 (.slice a len cap) (some (.int .i64 (k : Int))) none none).run Tryd.prog w = .ok (.slice A n C) w
 len : Hid (n = q.length)
 cap : n ≤ C
 cap' : C ≤ maxLen
 byAt : Hid (ByAt w A q)
 err : Pg.errAt l (k : Int) = Pg.errOf q
 drop : l.drop ((k : Int)).toNat = q
theorem rest_of (a : Option Addr) (l : List Nat) (len cap k : Nat) (hlen : Hid (len = l.length)) (hk : k ≤ len) (hc : len ≤ cap) (hl : cap ≤ maxLen) (w : World) (HA : Hid (ByAt w a l)) :
  ∃ A n C q, Rest w a l len cap k A n C q := by
 obtain ⟨A, C, hr, h1, h2, h3⟩ := cut_from a len cap k hk hc
 refine ⟨A, len - k, C, l.drop k, hr, Lib.hid (by rw [List.length_drop, hlen.out]), h1, by omega, Lib.hid (h3 w l hlen.out HA.out), ?_, rfl⟩
 unfold Pg.errAt
 rw [if_neg (by have := hlen.out; omega)]; rfl
set_option maxHeartbeats 1000000 in
theorem read_short (a : Option Addr) (l : List Nat) (len cap k : Nat) (hk : k ≤ len) (A : Option Addr) (n C : Nat) (q : List Nat) (w : World) (R : Hid (Rest w a l len cap k A n C q)) (hn : n < 9) (hl : len ≤ maxLen) :
  Calls Tryd.prog 24 #[.slice a len cap, .int .i64 (k : Int)] w (RetQ w l k) := by
 have he : Hid (Pg.errAt l k = 3) := Lib.hid (by rw [R.out.err]; unfold Pg.errOf; rw [if_pos (by rw [← R.out.len.out]; exact hn)])
 have hr := R.out.run
 have h1 : ¬ (len : Int) < (k : Int) := by omega
 unfold maxLen at hl
 go_enter Tryd.func24, Tryd.ntmps24
 go_wp2
 refine bodyPost_ret (results_tmp4 rfl _ _ _) rfl ?_
 exact RetQ.err 3 he.out (by decide) (Below.refl _ _)
set_option maxHeartbeats 1000000 in
/-- Where it says more than there is, or than may be. -/
theorem read_long (a : Option Addr) (l : List Nat) (len cap k : Nat) (hk : k ≤ len) (A : Option Addr) (n C : Nat) (q : List Nat) (w : World) (R : Hid (Rest w a l len cap k A n C q)) (hn : ¬ n < 9) (hl : len ≤ maxLen)
  (hs : 1048576 < Pg.sz q ∨ n < Pg.sz q + 9) (hz : Pg.sz q < 4294967296) :
  Calls Tryd.prog 24 #[.slice a len cap, .int .i64 (k : Int)] w (RetQ w l k) := by
 have hc' := R.out.cap'
 have hcn := R.out.cap
 have he : Hid (Pg.errAt l k = 3) := Lib.hid (by
  have hq := R.out.len.out
  rw [R.out.err]; unfold Pg.errOf
  rw [if_neg (by omega)]
  by_cases h : 1048576 < Pg.sz q
  ·rw [if_pos h]
  ·rw [if_neg h, if_pos (by omega)])
 have hr := R.out.run
 have HL := R.out.len
 have HQ := R.out.byAt
 have h1 : ¬ (len : Int) < (k : Int) := by omega
 unfold maxLen at hl hc'
 obtain ⟨N, hN⟩ : ∃ N, N = Pg.sz q := ⟨_, rfl⟩
 rw [← hN] at hs hz
 have HN := Lib.hid hN
 clear hN
 by_cases h2 : 1048576 < N
 all_goals
  (try (have h3 : n < N + 9 := by omega))
  clear hs
  go_enter Tryd.func24, Tryd.ntmps24
  go_wp2_with (go_at_call 45; (refine (wordOf_at A q n C HL (by omega) (by unfold maxLen; omega) w HQ).mono ?_); rintro e w2 ⟨rfl, hb⟩; rw [← HN.out]; have HB := Lib.hid hb; clear hb)
  refine bodyPost_ret (results_tmp4 rfl _ _ _) rfl ?_
  exact RetQ.err 3 he.out (by decide) HB.out
end Go.Proofs.YtifabkbdiiolfaaDoor
