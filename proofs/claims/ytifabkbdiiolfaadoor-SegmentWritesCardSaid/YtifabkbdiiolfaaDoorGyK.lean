/-
  The contract of Lay.
-/
import Derived.Lib.AppendZerosOnto
import Derived.Deep.RegionLaw
import Derived.Lib.SliceRun
import Derived.Test.YtifabkbdiiolfaaDoorByK
import Derived.Test.YtifabkbdiiolfaaDoorGrK
set_option linter.unusedSimpArgs false
set_option linter.unusedVariables false
set_option maxRecDepth 8000
namespace Go.Proofs.YtifabkbdiiolfaaDoor
open Go.RowKit
theorem zeroCells_len (n : Nat) : (Builtin.zeroCells (Value.int .u8 0).cells n).size = n := by
 unfold Builtin.zeroCells
 simp [Value.cells]
/-- There is no room: the append of Grow. -/
theorem grow_run (A : Option Addr) (n cap : Nat) (l : List Nat) (m : Nat) (B : Nat) (w : World) (HO : OwnS w B A n cap l) (hr : cap < n + m) (hbig : n + m ≤ 140737488355328) (hB : B ≤ w.heap.size) :
  ∃ W' G cs', (∀ ty, (Builtin.append_ #[24, 3] ty #[.slice A cap cap, .int .i64 ((n + m - cap : Nat) : Int)]).run Tryd.prog w = .ok (.slice (some ⟨w.heap.size, 0, none⟩) (n + m) G) W') ∧
   Roomy W' B w.heap.size n G cs' l ∧ n + m ≤ G ∧ Below w.heap.size w W' := by
 obtain ⟨hc1, hc2⟩ := HO.caps
 have hlen := HO.len
 obtain ⟨i0, hi0, hz0, hi1, hi2⟩ := info_parts infoU8
 obtain ⟨cs, hcl, hct, hold⟩ : ∃ cs : List Value, cs.length = cap ∧ cs.take n = bys l ∧ (Builtin.firstCells i0.size cap (.slice A cap cap)).run Tryd.prog w.drew = .ok cs.toArray w.drew := by
  rcases HO.1.2 with ⟨h1, h2⟩ | ⟨g, cap', cur, h1, hb, hrow, -, -, hs, ht⟩
  ·cases h1
   have hl : l = [] := List.eq_nil_of_length_eq_zero hlen.symm
   subst hl
   exact ⟨[], rfl, rfl, run_firstCells_none w.drew i0.size 0 0 0⟩
  ·cases h1
   refine ⟨cur.toList, by rw [Array.length_toList, hs, Nat.mul_one], by rw [← ht, Nat.mul_one], ?_⟩
   exact run_firstCells_some w.drew i0.size cap ⟨g, 0, none⟩ cap cap cur.toList (by rw [Array.length_toList, hs, hi1]) (fun j v hj => World.news_of_block (w := w.drew) hrow j v hj)
 have hck : cap + (n + m - cap) = n + m := by omega
 have hGn : n + m ≤ grownCap w (n + m) cap 5 := grownCap_ge w _ _ _
 have hG63 := grownCap_le_maxLen w (n + m) cap 5 (by unfold maxLen; omega)
 refine ⟨w.drew.alloc (.cells (cs.toArray ++ Builtin.zeroCells (Value.int .u8 0).cells (n + m - cap) ++ Builtin.zeroCells (Value.int .u8 0).cells (grownCap w (n + m) cap 5 - (n + m))) 5), grownCap w (n + m) cap 5, cs ++ ((Builtin.zeroCells (Value.int .u8 0).cells (n + m - cap)).toList ++ (Builtin.zeroCells (Value.int .u8 0).cells (grownCap w (n + m) cap 5 - (n + m))).toList), fun ty => ?_, ⟨?_, ?_, hG63, ?_, hB, HO.2⟩, hGn, ((Below.refl _ _).drew).alloc (Nat.le_refl _) _⟩
 ·have h := Lib.run_append_grow_zeros w 24 3 ty 5 i0 (.int .u8 0) .i64 .i64 Tryd.underlying24 Tryd.underlying3 hi0 hz0 A cap cap cs hold (n + m - cap) (by omega) (by omega) (by omega) (by omega)
   (by rw [hi2]; omega) (by rw [hck]; exact growslice_fits (by omega) (by rw [hi2]; omega))
  rw [hck] at h
  exact h
 ·rw [show w.heap.size = w.drew.heap.size from rfl, heap_alloc_new']
  congr 2
  simp
 ·simp only [List.length_append, Array.length_toList, zeroCells_len, hcl]; omega
 ·rw [List.take_append_of_le_length (by omega), hct]
set_option maxHeartbeats 400000 in
theorem grow_room (A : Option Addr) (n cap m : Nat) (w : World) (h1 : n ≤ cap) (h2 : cap ≤ 9223372036854775807) (hr : n + m ≤ cap) :
  Calls Tryd.prog 35 #[.slice A n cap, .int .i64 (m : Int)] w fun e w' => e = .returned (.slice A n cap) ∧ w = w' := by
 have h3 : ¬ ((m : Int) < 0) := by omega
 have h4 : ¬ ((m : Int) - ((cap : Int) - (n : Int)) > 0) := by omega
 go_enter Tryd.func35, Tryd.ntmps35
 go_wp2
 go_ret
 exact ⟨rfl, rfl⟩
set_option maxHeartbeats 400000 in
theorem grow_more (A : Option Addr) (n cap m : Nat) (w W' : World) (g G : Nat) (h1 : n ≤ cap) (h2 : cap ≤ 9223372036854775807) (hr : cap < n + m) (hbig : n + m ≤ 140737488355328) (hG : n + m ≤ G) (hG2 : G ≤ 9223372036854775807)
  (hA : A = none → cap = 0) (hrz : ∀ ty, (Builtin.append_ #[24, 3] ty #[.slice A cap cap, .int .i64 ((n + m - cap : Nat) : Int)]).run Tryd.prog w = .ok (.slice (some ⟨g, 0, none⟩) (n + m) G) W') :
  Calls Tryd.prog 35 #[.slice A n cap, .int .i64 (m : Int)] w fun e w' => e = .returned (.slice (some ⟨g, 0, none⟩) n G) ∧ W' = w' := by
 have h3 : ¬ ((m : Int) < 0) := by omega
 have h4 : (m : Int) - ((cap : Int) - (n : Int)) > 0 := by omega
 have hrz : ∀ ty, (Builtin.append_ #[24, 3] ty #[.slice A cap cap, .int .i64 ((m : Int) - ((cap : Int) - (n : Int)))]).run Tryd.prog w = .ok (.slice (some ⟨g, 0, none⟩) (n + m) G) W' := fun ty => by
  rw [show (m : Int) - ((cap : Int) - (n : Int)) = ((n + m - cap : Nat) : Int) by omega]; exact hrz ty
 obtain ⟨A1, C1, hcut, hsl⟩ : ∃ A1 C1, (∀ w, (Instr.slice 24 (.slice A n cap) none (some (.int .i64 (cap : Int))) none).run Tryd.prog w = .ok (.slice A1 cap C1) w) ∧ (A1 = A ∧ C1 = cap) := by
  refine ⟨A, cap, fun w => ?_, rfl, rfl⟩
  rw [run_slice_h w 24 A n cap Tryd.underlying24 .i64 (cap : Int) (by omega) (by omega)]
  rw [show (Go.sizeOf (Tryd.prog.elem 24)).run Tryd.prog w = .ok 1 w from by kernel_rfl]
  rcases A with _ | ⟨ab, ao, asp⟩
  ·simp [Result.andThen, sliced]
  ·simp [Result.andThen, sliced, Addr.add]
 obtain ⟨rfl, rfl⟩ := hsl
 go_enter Tryd.func35, Tryd.ntmps35
 go_wp2_with (at_builtin; refine Lib.wpList_append_run _ rfl _ _ _ _ rfl _ _ rfl rfl _ _ (hrz _) ?_)
 all_goals
  go_ret
  exact ⟨rfl, rfl⟩
end Go.Proofs.YtifabkbdiiolfaaDoor

namespace Go.Proofs.YtifabkbdiiolfaaDoor
open Go.RowKit
namespace Pg
/-- A page, but for its sum; a page. -/
def front (kind : Nat) (body : List Nat) : List Nat := four body.length ++ kind :: body
def lay (kind : Nat) (body : List Nat) : List Nat := front kind body ++ four (sum (front kind body))
theorem front_len (kind : Nat) (body : List Nat) : (front kind body).length = 5 + body.length := by unfold front four; simp; omega
theorem front_lt (kind : Nat) (body : List Nat) (hk : kind < 256) (hb : ∀ x ∈ body, x < 256) : ∀ x ∈ front kind body, x < 256 := by
 intro x hx
 unfold front at hx
 rcases List.mem_append.1 hx with h | h
 ·exact four_lt _ x h
 ·rcases List.mem_cons.1 h with h | h
  ·omega
  ·exact hb x h
end Pg
theorem sp1 {α : Type} (L Y body : List α) (x0 x1 x2 x3 x4 : α) : splice (L ++ x0 :: x1 :: x2 :: x3 :: x4 :: Y) (L.length + 5) body = L ++ (x0 :: x1 :: x2 :: x3 :: x4 :: (body ++ Y.drop body.length)) := by
 unfold splice
 rw [List.take_length_add_append, Nat.add_assoc, List.drop_length_add_append, Nat.add_comm 5]
 simp
theorem sp2 {α : Type} (L Y : List α) (x0 x1 x2 x3 : α) (f0 f1 f2 f3 : α) : splice (L ++ x0 :: x1 :: x2 :: x3 :: Y) L.length [f0, f1, f2, f3] = L ++ (f0 :: f1 :: f2 :: f3 :: Y) := by
 unfold splice
 rw [List.take_append_of_le_length (Nat.le_refl _), List.take_length, List.drop_length_add_append]
 simp
theorem sp3 {α : Type} (L Y : List α) (f0 f1 f2 f3 x v : α) : (L ++ f0 :: f1 :: f2 :: f3 :: x :: Y).set (L.length + 4) v = L ++ (f0 :: f1 :: f2 :: f3 :: v :: Y) := by
 rw [List.set_append_right _ _ (by omega), Nat.add_sub_cancel_left]; rfl
theorem sp4 {α : Type} (L Y body : List α) (f0 f1 f2 f3 v : α) : (L ++ (f0 :: f1 :: f2 :: f3 :: v :: (body ++ Y))).take (L.length + (5 + body.length)) = L ++ (f0 :: f1 :: f2 :: f3 :: v :: body) := by
 rw [List.take_length_add_append, Nat.add_comm 5]
 simp
/-- The row behind the two copies and the store. -/
theorem lay_row (cs : List Value) (l : List Nat) (n m kind : Nat) (body : List Nat) (hcs : cs.take n = bys l) (hn : n = l.length) (hm : m = body.length) (hc : n + 9 + m ≤ cs.length) :
  ((splice (splice cs (n + 5) (bys body)) n (bys (Pg.four m))).set (n + 4) (bv kind)).take (n + 5 + m) = bys (l ++ Pg.front kind body) := by
 obtain ⟨x, rfl⟩ : ∃ x, cs = bys l ++ x := ⟨cs.drop n, by rw [← hcs, List.take_append_drop]⟩
 have hll : (bys l).length = n := by rw [bys_length, hn]
 rw [List.length_append, hll] at hc
 obtain ⟨x0, x1, x2, x3, x4, y, rfl⟩ : ∃ x0 x1 x2 x3 x4 y, x = x0 :: x1 :: x2 :: x3 :: x4 :: y := by
  match x, hc with
  | x0 :: x1 :: x2 :: x3 :: x4 :: y, _ => exact ⟨x0, x1, x2, x3, x4, y, rfl⟩
  | [_, _, _, _], h => simp at h; omega
  | [_, _, _], h => simp at h; omega
  | [_, _], h => simp at h; omega
  | [_], h => simp at h; omega
  | [], h => simp at h; omega
 have hbl : (bys body).length = m := by rw [bys_length, hm]
 have e4 := sp4 (bys l) (y.drop (bys body).length) (bys body) (bv (m % 256)) (bv (m / 256 % 256)) (bv (m / 65536 % 256)) (bv (m / 16777216 % 256)) (bv kind)
 rw [hll, hbl, ← Nat.add_assoc] at e4
 have e1 := sp1 (bys l) y (bys body) x0 x1 x2 x3 x4
 rw [hll] at e1
 rw [e1]
 have e2 := sp2 (bys l) (x4 :: (bys body ++ y.drop (bys body).length)) x0 x1 x2 x3 (bv (m % 256)) (bv (m / 256 % 256)) (bv (m / 65536 % 256)) (bv (m / 16777216 % 256))
 rw [hll] at e2
 rw [show bys (Pg.four m) = [bv (m % 256), bv (m / 256 % 256), bv (m / 65536 % 256), bv (m / 16777216 % 256)] from rfl, e2]
 have e3 := sp3 (bys l) (bys body ++ y.drop (bys body).length) (bv (m % 256)) (bv (m / 256 % 256)) (bv (m / 65536 % 256)) (bv (m / 16777216 % 256)) x4 (bv kind)
 rw [hll] at e3
 rw [e3, hbl, e4]
 unfold Pg.front
 rw [← hm, bys_append, bys_append]
 rfl
/-- Behind the first copy: what is known of the row. -/
theorem Roomy.splice1 {w : World} {B g n m cap : Nat} {cs : List Value} {l body : List Nat} (h : Roomy w B g n cap cs l) (hm : m = body.length) (hc : n + (5 + m + 4) ≤ cap) : n + 5 + (bys body).length ≤ cs.length := by
 have := h.size
 rw [bys_length]; omega
theorem by_word' {w : World} (n : Nat) : ∀ (j : Nat) (v : Value), (bys (Pg.four n))[j]? = some v → (w.alloc (.cells (fourC n) 5)).drew.cell? ((⟨w.heap.size, 0, none⟩ : Addr).add j) = some v := fun j v hj =>
 World.news_of_block (w := (w.alloc (.cells (fourC n) 5)).drew) (heap_alloc_new' w _) j v (by rw [fourC_list]; exact hj)
theorem four_min (m : Nat) : (bys (Pg.four m)).length = Nat.min 4 (5 + m) := by
 rw [show (bys (Pg.four m)).length = 4 from rfl]; exact (Nat.min_eq_left (by omega)).symm
theorem HalvesAt.keepB {w w' : World} {B : Nat} (h : HalvesAt w) (hb : Below B w w') (hB : 0 < B) : HalvesAt w' := fun i hi =>
 (hb.cell (p := ⟨0, i, none⟩) hB).trans (h i hi)
theorem by_four (w : World) (n : Nat) : ByAt (w.alloc (.cells (fourC n) 5)) (some ⟨w.heap.size, 0, none⟩) (Pg.four n) := ByAt.of_row _ (Pg.four_lt n) (heap_alloc_new' w _) (by rw [fourC_list]; exact ⟨[], by simp⟩)
theorem by_four_set (w : World) (a : Addr) (u : Value) (n : Nat) : ByAt ((w.setCell a u).alloc (.cells (fourC n) 5)) (some ⟨w.heap.size, 0, none⟩) (Pg.four n) := by rw [← setCell_size w a u]; exact by_four _ _
/-- What Lay returns: a slice of the call's own. -/
def RetL (w : World) (B n : Nat) (l : List Nat) (e : Ending) (w' : World) : Prop := ∃ A cap, e = .returned (.slice A n cap) ∧ OwnS w' B A n cap l ∧ Below B w w'
end Go.Proofs.YtifabkbdiiolfaaDoor
