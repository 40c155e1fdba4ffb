/-
  Pages that were laid are read; the law PageLengths.
-/
import Derived.Lib.AppendZerosOnto
import Derived.Deep.RegionLaw
import Derived.Lib.SliceRun
import Derived.Test.YtifabkbdiiolfaaGreatDoorByK
import Derived.Test.YtifabkbdiiolfaaGreatDoorGcK
import Derived.Test.YtifabkbdiiolfaaGreatDoorGqK
import Derived.Laws.BytesArg
set_option linter.unusedSimpArgs false
set_option linter.unusedVariables false
set_option maxRecDepth 8000
namespace Go.Proofs.YtifabkbdiiolfaaGreatDoor
open Go.RowKit
theorem zeroCells_len (n : Nat) : (Builtin.zeroCells (Value.int .u8 0).cells n).size = n := by
 unfold Builtin.zeroCells
 simp [Value.cells]
/-- There is no room: the append of Grow. -/
theorem grow_run (A : Option Addr) (n cap : Nat) (l : List Nat) (m : Nat) (B : Nat) (w : World) (HO : OwnS w B A n cap l) (hr : cap < n + m) (hbig : n + m ≤ 140737488355328) (hB : B ≤ w.heap.size) :
  ∃ W' G cs', (∀ ty, (Builtin.append_ #[29, 3] ty #[.slice A cap cap, .int .i64 ((n + m - cap : Nat) : Int)]).run Tryz.prog w = .ok (.slice (some ⟨w.heap.size, 0, none⟩) (n + m) G) W') ∧
   Roomy W' B w.heap.size n G cs' l ∧ n + m ≤ G ∧ Below w.heap.size w W' := by
 obtain ⟨hc1, hc2⟩ := HO.caps
 have hlen := HO.len
 obtain ⟨i0, hi0, hz0, hi1, hi2⟩ := info_parts infoU8
 obtain ⟨cs, hcl, hct, hold⟩ : ∃ cs : List Value, cs.length = cap ∧ cs.take n = bys l ∧ (Builtin.firstCells i0.size cap (.slice A cap cap)).run Tryz.prog w.drew = .ok cs.toArray w.drew := by
  rcases HO.1.2 with ⟨h1, h2⟩ | ⟨g, cap', cur, h1, hb, hrow, -, -, hs, ht⟩
  ·cases h1
   have hl : l = [] := List.eq_nil_of_length_eq_zero hlen.symm
   subst hl
   exact ⟨[], rfl, rfl, run_firstCells_none w.drew i0.size 0 0 0⟩
  ·cases h1
   refine ⟨cur.toList, by rw [Array.length_toList, hs, Nat.mul_one], by rw [← ht, Nat.mul_one], ?_⟩
   exact run_firstCells_some w.drew i0.size cap ⟨g, 0, none⟩ cap cap cur.toList (by rw [Array.length_toList, hs, hi1]) (fun j v hj => World.news_of_block (w := w.drew) hrow j v hj)
 have hck : cap + (n + m - cap) = n + m := by omega
 have hGn : n + m ≤ grownCap w (n + m) cap 5 := grownCap_ge w _ _ _
 have hG63 := grownCap_le_maxLen w (n + m) cap 5 (by unfold maxLen; omega)
 refine ⟨w.drew.alloc (.cells (cs.toArray ++ Builtin.zeroCells (Value.int .u8 0).cells (n + m - cap) ++ Builtin.zeroCells (Value.int .u8 0).cells (grownCap w (n + m) cap 5 - (n + m))) 5), grownCap w (n + m) cap 5, cs ++ ((Builtin.zeroCells (Value.int .u8 0).cells (n + m - cap)).toList ++ (Builtin.zeroCells (Value.int .u8 0).cells (grownCap w (n + m) cap 5 - (n + m))).toList), fun ty => ?_, ⟨?_, ?_, hG63, ?_, hB, HO.2⟩, hGn, ((Below.refl _ _).drew).alloc (Nat.le_refl _) _⟩
 ·have h := Lib.run_append_grow_zeros w 29 3 ty 5 i0 (.int .u8 0) .i64 .i64 Tryz.underlying29 Tryz.underlying3 hi0 hz0 A cap cap cs hold (n + m - cap) (by omega) (by omega) (by omega) (by omega)
   (by rw [hi2]; omega) (by rw [hck]; exact growslice_fits (by omega) (by rw [hi2]; omega))
  rw [hck] at h
  exact h
 ·rw [show w.heap.size = w.drew.heap.size from rfl, heap_alloc_new']
  congr 2
  simp
 ·simp only [List.length_append, Array.length_toList, zeroCells_len, hcl]; omega
 ·rw [List.take_append_of_le_length (by omega), hct]
set_option maxHeartbeats 400000 in
theorem grow_room (A : Option Addr) (n cap m : Nat) (w : World) (h1 : n ≤ cap) (h2 : cap ≤ 9223372036854775807) (hr : n + m ≤ cap) :
  Calls Tryz.prog 71 #[.slice A n cap, .int .i64 (m : Int)] w fun e w' => e = .returned (.slice A n cap) ∧ w = w' := by
 have h3 : ¬ ((m : Int) < 0) := by omega
 have h4 : ¬ ((m : Int) - ((cap : Int) - (n : Int)) > 0) := by omega
 go_enter Tryz.func71, Tryz.ntmps71
 go_wp2
 go_ret
 exact ⟨rfl, rfl⟩
set_option maxHeartbeats 400000 in
theorem grow_more (A : Option Addr) (n cap m : Nat) (w W' : World) (g G : Nat) (h1 : n ≤ cap) (h2 : cap ≤ 9223372036854775807) (hr : cap < n + m) (hbig : n + m ≤ 140737488355328) (hG : n + m ≤ G) (hG2 : G ≤ 9223372036854775807)
  (hA : A = none → cap = 0) (hrz : ∀ ty, (Builtin.append_ #[29, 3] ty #[.slice A cap cap, .int .i64 ((n + m - cap : Nat) : Int)]).run Tryz.prog w = .ok (.slice (some ⟨g, 0, none⟩) (n + m) G) W') :
  Calls Tryz.prog 71 #[.slice A n cap, .int .i64 (m : Int)] w fun e w' => e = .returned (.slice (some ⟨g, 0, none⟩) n G) ∧ W' = w' := by
 have h3 : ¬ ((m : Int) < 0) := by omega
 have h4 : (m : Int) - ((cap : Int) - (n : Int)) > 0 := by omega
 have hrz : ∀ ty, (Builtin.append_ #[29, 3] ty #[.slice A cap cap, .int .i64 ((m : Int) - ((cap : Int) - (n : Int)))]).run Tryz.prog w = .ok (.slice (some ⟨g, 0, none⟩) (n + m) G) W' := fun ty => by
  rw [show (m : Int) - ((cap : Int) - (n : Int)) = ((n + m - cap : Nat) : Int) by omega]; exact hrz ty
 obtain ⟨A1, C1, hcut, hsl⟩ : ∃ A1 C1, (∀ w, (Instr.slice 29 (.slice A n cap) none (some (.int .i64 (cap : Int))) none).run Tryz.prog w = .ok (.slice A1 cap C1) w) ∧ (A1 = A ∧ C1 = cap) := by
  refine ⟨A, cap, fun w => ?_, rfl, rfl⟩
  rw [run_slice_h w 29 A n cap Tryz.underlying29 .i64 (cap : Int) (by omega) (by omega)]
  rw [show (Go.sizeOf (Tryz.prog.elem 29)).run Tryz.prog w = .ok 1 w from by kernel_rfl]
  rcases A with _ | ⟨ab, ao, asp⟩
  ·simp [Result.andThen, sliced]
  ·simp [Result.andThen, sliced, Addr.add]
 obtain ⟨rfl, rfl⟩ := hsl
 go_enter Tryz.func71, Tryz.ntmps71
 go_wp2_with (at_builtin; refine Lib.wpList_append_run _ rfl _ _ _ _ rfl _ _ rfl rfl _ _ (hrz _) ?_)
 all_goals
  go_ret
  exact ⟨rfl, rfl⟩
end Go.Proofs.YtifabkbdiiolfaaGreatDoor

namespace Go.Proofs.YtifabkbdiiolfaaGreatDoor
open Go.RowKit
namespace Pg
/-- A page, but for its sum; a page. -/
def front (kind : Nat) (body : List Nat) : List Nat := four body.length ++ kind :: body
def lay (kind : Nat) (body : List Nat) : List Nat := front kind body ++ four (sum (front kind body))
theorem front_len (kind : Nat) (body : List Nat) : (front kind body).length = 5 + body.length := by unfold front four; simp; omega
theorem front_lt (kind : Nat) (body : List Nat) (hk : kind < 256) (hb : ∀ x ∈ body, x < 256) : ∀ x ∈ front kind body, x < 256 := by
 intro x hx
 unfold front at hx
 rcases List.mem_append.1 hx with h | h
 ·exact four_lt _ x h
 ·rcases List.mem_cons.1 h with h | h
  ·omega
  ·exact hb x h
end Pg
theorem sp1 {α : Type} (L Y body : List α) (x0 x1 x2 x3 x4 : α) : splice (L ++ x0 :: x1 :: x2 :: x3 :: x4 :: Y) (L.length + 5) body = L ++ (x0 :: x1 :: x2 :: x3 :: x4 :: (body ++ Y.drop body.length)) := by
 unfold splice
 rw [List.take_length_add_append, Nat.add_assoc, List.drop_length_add_append, Nat.add_comm 5]
 simp
theorem sp2 {α : Type} (L Y : List α) (x0 x1 x2 x3 : α) (f0 f1 f2 f3 : α) : splice (L ++ x0 :: x1 :: x2 :: x3 :: Y) L.length [f0, f1, f2, f3] = L ++ (f0 :: f1 :: f2 :: f3 :: Y) := by
 unfold splice
 rw [List.take_append_of_le_length (Nat.le_refl _), List.take_length, List.drop_length_add_append]
 simp
theorem sp3 {α : Type} (L Y : List α) (f0 f1 f2 f3 x v : α) : (L ++ f0 :: f1 :: f2 :: f3 :: x :: Y).set (L.length + 4) v = L ++ (f0 :: f1 :: f2 :: f3 :: v :: Y) := by
 rw [List.set_append_right _ _ (by omega), Nat.add_sub_cancel_left]; rfl
theorem sp4 {α : Type} (L Y body : List α) (f0 f1 f2 f3 v : α) : (L ++ (f0 :: f1 :: f2 :: f3 :: v :: (body ++ Y))).take (L.length + (5 + body.length)) = L ++ (f0 :: f1 :: f2 :: f3 :: v :: body) := by
 rw [List.take_length_add_append, Nat.add_comm 5]
 simp
/-- The row behind the two copies and the store. -/
theorem lay_row (cs : List Value) (l : List Nat) (n m kind : Nat) (body : List Nat) (hcs : cs.take n = bys l) (hn : n = l.length) (hm : m = body.length) (hc : n + 9 + m ≤ cs.length) :
  ((splice (splice cs (n + 5) (bys body)) n (bys (Pg.four m))).set (n + 4) (bv kind)).take (n + 5 + m) = bys (l ++ Pg.front kind body) := by
 obtain ⟨x, rfl⟩ : ∃ x, cs = bys l ++ x := ⟨cs.drop n, by rw [← hcs, List.take_append_drop]⟩
 have hll : (bys l).length = n := by rw [bys_length, hn]
 rw [List.length_append, hll] at hc
 obtain ⟨x0, x1, x2, x3, x4, y, rfl⟩ : ∃ x0 x1 x2 x3 x4 y, x = x0 :: x1 :: x2 :: x3 :: x4 :: y := by
  match x, hc with
  | x0 :: x1 :: x2 :: x3 :: x4 :: y, _ => exact ⟨x0, x1, x2, x3, x4, y, rfl⟩
  | [_, _, _, _], h => simp at h; omega
  | [_, _, _], h => simp at h; omega
  | [_, _], h => simp at h; omega
  | [_], h => simp at h; omega
  | [], h => simp at h; omega
 have hbl : (bys body).length = m := by rw [bys_length, hm]
 have e4 := sp4 (bys l) (y.drop (bys body).length) (bys body) (bv (m % 256)) (bv (m / 256 % 256)) (bv (m / 65536 % 256)) (bv (m / 16777216 % 256)) (bv kind)
 rw [hll, hbl, ← Nat.add_assoc] at e4
 have e1 := sp1 (bys l) y (bys body) x0 x1 x2 x3 x4
 rw [hll] at e1
 rw [e1]
 have e2 := sp2 (bys l) (x4 :: (bys body ++ y.drop (bys body).length)) x0 x1 x2 x3 (bv (m % 256)) (bv (m / 256 % 256)) (bv (m / 65536 % 256)) (bv (m / 16777216 % 256))
 rw [hll] at e2
 rw [show bys (Pg.four m) = [bv (m % 256), bv (m / 256 % 256), bv (m / 65536 % 256), bv (m / 16777216 % 256)] from rfl, e2]
 have e3 := sp3 (bys l) (bys body ++ y.drop (bys body).length) (bv (m % 256)) (bv (m / 256 % 256)) (bv (m / 65536 % 256)) (bv (m / 16777216 % 256)) x4 (bv kind)
 rw [hll] at e3
 rw [e3, hbl, e4]
 unfold Pg.front
 rw [← hm, bys_append, bys_append]
 rfl
/-- Behind the first copy: what is known of the row. -/
theorem Roomy.splice1 {w : World} {B g n m cap : Nat} {cs : List Value} {l body : List Nat} (h : Roomy w B g n cap cs l) (hm : m = body.length) (hc : n + (5 + m + 4) ≤ cap) : n + 5 + (bys body).length ≤ cs.length := by
 have := h.size
 rw [bys_length]; omega
theorem by_word' {w : World} (n : Nat) : ∀ (j : Nat) (v : Value), (bys (Pg.four n))[j]? = some v → (w.alloc (.cells (fourC n) 5)).drew.cell? ((⟨w.heap.size, 0, none⟩ : Addr).add j) = some v := fun j v hj =>
 World.news_of_block (w := (w.alloc (.cells (fourC n) 5)).drew) (heap_alloc_new' w _) j v (by rw [fourC_list]; exact hj)
theorem four_min (m : Nat) : (bys (Pg.four m)).length = Nat.min 4 (5 + m) := by
 rw [show (bys (Pg.four m)).length = 4 from rfl]; exact (Nat.min_eq_left (by omega)).symm
theorem HalvesAt.keepB {w w' : World} {B : Nat} (h : HalvesAt w) (hb : Below B w w') (hB : 0 < B) : HalvesAt w' := fun i hi =>
 (hb.cell (p := ⟨0, i, none⟩) hB).trans (h i hi)
theorem by_four (w : World) (n : Nat) : ByAt (w.alloc (.cells (fourC n) 5)) (some ⟨w.heap.size, 0, none⟩) (Pg.four n) := ByAt.of_row _ (Pg.four_lt n) (heap_alloc_new' w _) (by rw [fourC_list]; exact ⟨[], by simp⟩)
theorem by_four_set (w : World) (a : Addr) (u : Value) (n : Nat) : ByAt ((w.setCell a u).alloc (.cells (fourC n) 5)) (some ⟨w.heap.size, 0, none⟩) (Pg.four n) := by rw [← setCell_size w a u]; exact by_four _ _
end Go.Proofs.YtifabkbdiiolfaaGreatDoor

namespace Go.Proofs.YtifabkbdiiolfaaGreatDoor
open Go.RowKit
def part (b0 b1 b2 b3 : Nat) : Nat → Nat
 | 0 => 0
 | 1 => b3
 | 2 => b3 * 256 + b2
 | 3 => (b3 * 256 + b2) * 256 + b1
 | _ => ((b3 * 256 + b2) * 256 + b1) * 256 + b0
end Go.Proofs.YtifabkbdiiolfaaGreatDoor

namespace Go.Proofs.YtifabkbdiiolfaaGreatDoor
open Go.RowKit
namespace Pg
def oneErr (l : List Nat) (kind : Nat) : Nat := if errAt l 0 ≠ 0 then errAt l 0 else if kindAt l 0 = kind ∧ endAt l 0 = (l.length : Int) then 0 else 3
def oneBody (l : List Nat) (kind : Nat) : List Nat := if oneErr l kind = 0 then bodyAt l 0 else []
end Pg
/-- What One returns: a body, or an error. -/
def RetO (w : World) (l : List Nat) (kind : Nat) (e : Ending) (w' : World) : Prop := ∃ A cap, e = .returned (.tuple #[.slice A (Pg.oneBody l kind).length cap, .int .i64 (Pg.oneErr l kind : Nat)]) ∧
 ByAt w' A (Pg.oneBody l kind) ∧ (Pg.oneBody l kind).length ≤ cap ∧ cap ≤ maxLen ∧ Below w.heap.size w w'
theorem tup2_eq {A : Option Addr} {n n' c : Nat} {e e' : Int} (h2 : n = n') (h4 : e = e') : Ending.returned (.tuple #[.slice A n c, .int .i64 e]) = Ending.returned (.tuple #[.slice A n' c, .int .i64 e']) := by rw [h2, h4]
theorem RetO.err {w w' : World} {l : List Nat} {kind : Nat} {c : Int} (h : Pg.oneErr l kind ≠ 0) (hc : c = ((Pg.oneErr l kind : Nat) : Int)) (hb : Below w.heap.size w w') : RetO w l kind (.returned (.tuple #[.slice none 0 0, .int .i64 c])) w' := by
 have hb0 : Pg.oneBody l kind = [] := if_neg h
 exact ⟨none, 0, by rw [hb0, hc]; rfl, by rw [hb0]; exact ByAt.nil _ _, by rw [hb0]; exact Nat.le_refl _, Nat.zero_le _, hb⟩
set_option maxHeartbeats 2000000 in
theorem one_any (a : Option Addr) (l : List Nat) (len cap : Nat) (kind : Nat) (hlen : Hid (len = l.length)) (hc : len ≤ cap) (hl : cap ≤ maxLen) (w : World) (HA : Hid (ByAt w a l)) (HG : Hid (HalvesAt w)) :
  Calls Tryz.prog 43 #[.slice a len cap, .int .u8 (kind : Int)] w (RetO w l kind) := by
 have HQ : Hid (Calls Tryz.prog 45 #[.slice a len cap, .int .i64 0] w (RetQ w l 0)) := Lib.hid (read_any a l len cap 0 hlen hc hl w HA HG)
 have hO : Hid (Pg.oneErr l kind = if Pg.errAt l 0 ≠ 0 then Pg.errAt l 0 else if Pg.kindAt l 0 = kind ∧ Pg.endAt l 0 = (l.length : Int) then 0 else 3) := rfl
 have hB : Hid (Pg.oneBody l kind = if Pg.oneErr l kind = 0 then Pg.bodyAt l 0 else []) := rfl
 have HE : Hid (Pg.endAt l 0 = (l.length : Int) ↔ Pg.endAt l 0 = (len : Int)) := Lib.hid (by rw [hlen.out])
 by_cases h0 : Pg.errAt l 0 = 0
 ·have t0 : (((Pg.errAt l 0 : Nat) : Int) != 0) = false := by rw [h0]; rfl
  have H0 := Lib.hid h0
  by_cases h1 : Pg.kindAt l 0 = kind
  ·have t1 : (((Pg.kindAt l 0 : Nat) : Int) != (kind : Int)) = false := by rw [h1]; simp
   by_cases h2 : Pg.endAt l 0 = (len : Int)
   ·have t2 : (Pg.endAt l 0 != (len : Int)) = false := by rw [h2]; simp
    have F : Hid (Pg.oneErr l kind = 0) := Lib.hid (by rw [hO.out, if_neg (by rw [h0]; exact fun h => h rfl), if_pos ⟨h1, HE.out.2 h2⟩])
    clear h0 h1 h2
    go_enter Tryz.func43, Tryz.ntmps43
    go_wp2_with (go_at_call 45; refine HQ.out.mono ?_; rintro e w2 ⟨A', cap', rfl, hA, hc1, hc2, hb⟩; have HA2 := Lib.hid hA; have HB2 := Lib.hid hb; clear hA hb)
    go_ret2
    have hbo : Pg.oneBody l kind = Pg.bodyAt l 0 := by rw [hB.out, if_pos F.out]
    exact ⟨A', cap', tup2_eq (by rw [hbo]) (by rw [F.out]; rfl), by rw [hbo]; exact HA2.out, by rw [hbo]; exact hc1, hc2, HB2.out⟩
   ·have t2 : (Pg.endAt l 0 != (len : Int)) = true := by simpa using h2
    have F : Hid (Pg.oneErr l kind = 3) := Lib.hid (by rw [hO.out, if_neg (by rw [h0]; exact fun h => h rfl), if_neg (fun h => h2 (HE.out.1 h.2))])
    clear h0 h1 h2
    go_enter Tryz.func43, Tryz.ntmps43
    go_wp2_with (go_at_call 45; refine HQ.out.mono ?_; rintro e w2 ⟨A', cap', rfl, hA, hc1, hc2, hb⟩; have HA2 := Lib.hid hA; have HB2 := Lib.hid hb; clear hA hb)
    go_ret2
    exact RetO.err (by rw [F.out]; decide) (by rw [F.out]; rfl) HB2.out
  ·have t1 : (((Pg.kindAt l 0 : Nat) : Int) != (kind : Int)) = true := by rw [bne_iff_ne]; omega
   have F : Hid (Pg.oneErr l kind = 3) := Lib.hid (by rw [hO.out, if_neg (by rw [h0]; exact fun h => h rfl), if_neg (fun h => h1 h.1)])
   clear h0 h1
   go_enter Tryz.func43, Tryz.ntmps43
   go_wp2_with (go_at_call 45; refine HQ.out.mono ?_; rintro e w2 ⟨A', cap', rfl, hA, hc1, hc2, hb⟩; have HA2 := Lib.hid hA; have HB2 := Lib.hid hb; clear hA hb)
   go_ret2
   exact RetO.err (by rw [F.out]; decide) (by rw [F.out]; rfl) HB2.out
 ·have t0 : (((Pg.errAt l 0 : Nat) : Int) != 0) = true := by rw [bne_iff_ne]; omega
  have F : Hid (Pg.oneErr l kind = Pg.errAt l 0) := Lib.hid (by rw [hO.out, if_pos h0])
  have H0 := Lib.hid h0
  clear h0
  go_enter Tryz.func43, Tryz.ntmps43
  go_wp2_with (go_at_call 45; refine HQ.out.mono ?_; rintro e w2 ⟨A', cap', rfl, hA, hc1, hc2, hb⟩; have HA2 := Lib.hid hA; have HB2 := Lib.hid hb; clear hA hb)
  go_ret2
  exact RetO.err (by rw [F.out]; exact H0.out) (by rw [F.out]) HB2.out
end Go.Proofs.YtifabkbdiiolfaaGreatDoor

namespace Go.Proofs.YtifabkbdiiolfaaGreatDoor
open Go.RowKit
namespace Pg
theorem lay_len (kind : Nat) (body : List Nat) : (lay kind body).length = 9 + body.length := by unfold lay four; rw [List.length_append, front_len]; simp; omega
theorem lay_lt (kind : Nat) (body : List Nat) (hk : kind < 256) (hb : ∀ x ∈ body, x < 256) : ∀ x ∈ lay kind body, x < 256 := fun x hx => (List.mem_append.1 hx).elim (front_lt kind body hk hb x) (four_lt _ x)
theorem front_four (kind : Nat) (body : List Nat) : front kind body = four body.length ++ kind :: body := rfl
theorem four_len (n : Nat) : (four n).length = 4 := rfl
/-- A page, where it stands. -/
theorem errOf_lay (kind : Nat) (body r : List Nat) (hk : kind < 256) (hb : ∀ x ∈ body, x < 256) (hm : body.length ≤ 1048576) : errOf (lay kind body ++ r) = 0 ∧ sz (lay kind body ++ r) = body.length ∧ (lay kind body ++ r).getD 4 0 = kind ∧ ((lay kind body ++ r).drop 5).take body.length = body := by
 have h1 : lay kind body ++ r = four body.length ++ (kind :: (body ++ (four (sum (front kind body)) ++ r))) := by unfold lay; rw [front_four]; simp
 have hs : sz (lay kind body ++ r) = body.length := by
  unfold sz
  rw [h1, List.take_append_of_le_length (by rw [four_len]; exact Nat.le_refl _), List.take_of_length_le (by rw [four_len]; exact Nat.le_refl _), val_four _ (by omega)]
 refine ⟨?_, hs, ?_, ?_⟩
 ·unfold errOf
  have hl : (lay kind body ++ r).length = 9 + body.length + r.length := by rw [List.length_append, lay_len]
  rw [hs, if_neg (by omega), if_neg (by omega), if_neg (by omega), if_pos]
  have h2 : lay kind body ++ r = front kind body ++ (four (sum (front kind body)) ++ r) := by unfold lay; rw [List.append_assoc]
  have hf := front_len kind body
  rw [h2, ← hf, List.take_append_of_le_length (Nat.le_refl _), List.take_length, List.drop_append_of_le_length (Nat.le_refl _), List.drop_length, List.nil_append, List.take_append_of_le_length (by rw [four_len]; exact Nat.le_refl _), List.take_of_length_le (by rw [four_len]; exact Nat.le_refl _)]
  exact val_four _ (sum_lt (front_lt kind body hk hb))
 ·rw [h1]; rfl
 ·rw [h1, show (four body.length ++ (kind :: (body ++ (four (sum (front kind body)) ++ r)))).drop 5 = body ++ (four (sum (front kind body)) ++ r) from rfl, List.take_append_of_le_length (Nat.le_refl _), List.take_length]
theorem read_lay (l : List Nat) (kind : Nat) (body r : List Nat) (i : Int) (hi : i = (l.length : Int)) (hk : kind < 256) (hb : ∀ x ∈ body, x < 256) (hm : body.length ≤ 1048576) :
  errAt (l ++ (lay kind body ++ r)) i = 0 ∧ kindAt (l ++ (lay kind body ++ r)) i = kind ∧ bodyAt (l ++ (lay kind body ++ r)) i = body ∧ endAt (l ++ (lay kind body ++ r)) i = i + 9 + body.length := by
 obtain ⟨h1, h2, h3, h4⟩ := errOf_lay kind body r hk hb hm
 have hd : (l ++ (lay kind body ++ r)).drop i.toNat = lay kind body ++ r := by
  rw [hi, Int.toNat_natCast, List.drop_append_of_le_length (Nat.le_refl _), List.drop_length, List.nil_append]
 have he : errAt (l ++ (lay kind body ++ r)) i = 0 := by
  unfold errAt
  rw [if_neg (by rw [List.length_append, hi]; omega), hd, h1]
 refine ⟨he, ?_, ?_, ?_⟩
 ·unfold kindAt; rw [if_pos he, hd, h3]
 ·unfold bodyAt; rw [if_pos he, hd, h2, h4]
 ·unfold endAt; rw [if_pos he, hd, h2]
end Pg
theorem Roomy.set4 {w : World} {B g k cap : Nat} {cs : List Value} {l : List Nat} (h : Roomy w B g k cap cs l) (n : Nat) (hn : n < 4294967296) (i0 i1 i2 i3 : Int) (h0 : i0 = ((n % 256 : Nat) : Int)) (h1 : i1 = ((n / 256 % 256 : Nat) : Int)) (h2 : i2 = ((n / 65536 % 256 : Nat) : Int)) (h3 : i3 = ((n / 16777216 % 256 : Nat) : Int))
  (hl : ∃ a b c d r, l = a :: b :: c :: d :: r) : Roomy ((((w.setCell ⟨g, 0, none⟩ (.int .u8 i0)).setCell ⟨g, 1, none⟩ (.int .u8 i1)).setCell ⟨g, 2, none⟩ (.int .u8 i2)).setCell ⟨g, 3, none⟩ (.int .u8 i3)) B g k cap ((((cs.set 0 (bv (n % 256))).set 1 (bv (n / 256 % 256))).set 2 (bv (n / 65536 % 256))).set 3 (bv (n / 16777216 % 256))) (Pg.four n ++ l.drop 4) := by
 obtain ⟨a, b, c, d, r, rfl⟩ := hl
 subst h0 h1 h2 h3
 exact (((h.set 0 (n % 256) (by omega)).set 1 (n / 256 % 256) (by omega)).set 2 (n / 65536 % 256) (by omega)).set 3 (n / 16777216 % 256) (by omega)
end Go.Proofs.YtifabkbdiiolfaaGreatDoor
