/-
  Layer segment: a stretch of a log: events whose offsets follow one another, of those that have the form.
-/
import Derived.Test.YtifabkbdiiolfaaGreatDoorYwK
open List renaming getElem_toArray → qz0, getElem_cons_zero → qz1, getElem_cons_succ → qz2, setIfInBounds_toArray → qz3, set_cons_zero → qz4, set_cons_succ → qz5
set_option linter.unusedSimpArgs false
set_option linter.unusedVariables false
set_option maxRecDepth 8000
namespace Go.Proofs.YtifabkbdiiolfaaGreatDoor
open Go.RowKit Go.WideShapes Col
def wantB (a b : Nat) (x y : Int) (e : Ev) : Bool := decide (a ≤ e.off) && (decide (e.off < b) && (decide (x ≤ e.time) && decide (e.time ≤ y)))
def mayB (a b : Nat) (x y : Int) (c : Ck) : Bool := decide (maxI (a : Int) (c.oa : Int) < (b : Int)) && (decide (maxI (a : Int) (c.oa : Int) ≤ (c.ob : Int)) && decide (maxI x c.ta ≤ minI y c.tz))
theorem boxesF (w : World) (c1 c2 : Array Value) (t1 t2 : TypeId) : ((w.alloc (.cells c1 t1)).alloc (.cells c2 t2)).heap[w.heap.size]? = some (.cells c1 t1 (0, 0)) ∧ ((w.alloc (.cells c1 t1)).alloc (.cells c2 t2)).heap[w.heap.size + 1]? = some (.cells c2 t2 (0, 0)) ∧ Below w.heap.size w ((w.alloc (.cells c1 t1)).alloc (.cells c2 t2)) :=
 ⟨heap_alloc2_old w _ _, heap_alloc2_new w _ _, ((Below.refl _ _).alloc (Nat.le_refl _) _).alloc (by simp) _⟩
set_option maxHeartbeats 2000000 in
theorem wants_any (a b : Nat) (x y : Int) (e : Ev) (w : World) : Calls Tryz.prog 18 #[.agg #[.int .u64 (a : Int), .int .u64 (b : Int), .int .i64 x, .int .i64 y], .agg #[.int .u64 (e.off : Int), .int .i64 e.part, .int .i64 e.time, .string e.key, .float .f64 e.val]] w fun r w' => r = .returned (.bool (wantB a b x y e)) ∧ Below w.heap.size w w' := by
 obtain ⟨h1, h2, h3⟩ := boxesF w #[.int .u64 (a : Int), .int .u64 (b : Int), .int .i64 x, .int .i64 y] #[.int .u64 (e.off : Int), .int .i64 e.part, .int .i64 e.time, .string e.key, .float .f64 e.val] 26 45
 have HB := Lib.hid h3
 have a0 : ((w.alloc (.cells #[.int .u64 (a : Int), .int .u64 (b : Int), .int .i64 x, .int .i64 y] 26)).alloc (.cells #[.int .u64 (e.off : Int), .int .i64 e.part, .int .i64 e.time, .string e.key, .float .f64 e.val] 45)).cell? ⟨w.heap.size, 0, none⟩ = some (.int .u64 (a : Int)) := by rw [cell_of_row _ _ _ _ _ _ h1]; rfl
 have a1 : ((w.alloc (.cells #[.int .u64 (a : Int), .int .u64 (b : Int), .int .i64 x, .int .i64 y] 26)).alloc (.cells #[.int .u64 (e.off : Int), .int .i64 e.part, .int .i64 e.time, .string e.key, .float .f64 e.val] 45)).cell? ⟨w.heap.size, 1, none⟩ = some (.int .u64 (b : Int)) := by rw [cell_of_row _ _ _ _ _ _ h1]; rfl
 have a2 : ((w.alloc (.cells #[.int .u64 (a : Int), .int .u64 (b : Int), .int .i64 x, .int .i64 y] 26)).alloc (.cells #[.int .u64 (e.off : Int), .int .i64 e.part, .int .i64 e.time, .string e.key, .float .f64 e.val] 45)).cell? ⟨w.heap.size, 2, none⟩ = some (.int .i64 x) := by rw [cell_of_row _ _ _ _ _ _ h1]; rfl
 have a3 : ((w.alloc (.cells #[.int .u64 (a : Int), .int .u64 (b : Int), .int .i64 x, .int .i64 y] 26)).alloc (.cells #[.int .u64 (e.off : Int), .int .i64 e.part, .int .i64 e.time, .string e.key, .float .f64 e.val] 45)).cell? ⟨w.heap.size, 3, none⟩ = some (.int .i64 y) := by rw [cell_of_row _ _ _ _ _ _ h1]; rfl
 have b0 : ((w.alloc (.cells #[.int .u64 (a : Int), .int .u64 (b : Int), .int .i64 x, .int .i64 y] 26)).alloc (.cells #[.int .u64 (e.off : Int), .int .i64 e.part, .int .i64 e.time, .string e.key, .float .f64 e.val] 45)).cell? ⟨w.heap.size + 1, 0, none⟩ = some (.int .u64 (e.off : Int)) := by rw [cell_of_row _ _ _ _ _ _ h2]; rfl
 have b2 : ((w.alloc (.cells #[.int .u64 (a : Int), .int .u64 (b : Int), .int .i64 x, .int .i64 y] 26)).alloc (.cells #[.int .u64 (e.off : Int), .int .i64 e.part, .int .i64 e.time, .string e.key, .float .f64 e.val] 45)).cell? ⟨w.heap.size + 1, 2, none⟩ = some (.int .i64 e.time) := by rw [cell_of_row _ _ _ _ _ _ h2]; rfl
 clear h1 h2 h3
 by_cases h1 : a ≤ e.off
 ·have i1 : (a : Int) ≤ (e.off : Int) := by omega
  by_cases h2 : e.off < b
  ·have i2 : (e.off : Int) < (b : Int) := by omega
   by_cases h3 : x ≤ e.time
   ·have i3 : x ≤ e.time := by omega
    by_cases h4 : e.time ≤ y
    ·have i4 : e.time ≤ y := by omega
     have HR : Hid (wantB a b x y e = true) := Lib.hid (by unfold wantB; simp [h1, h2, h3, h4])
     clear h1 h2 h3 h4
     go_enter Tryz.func18, Tryz.ntmps18
     go_wp2
     go_ret
     exact ⟨by rw [HR.out]; rfl, HB.out⟩
    ·have i4 : ¬ (e.time ≤ y) := by omega
     have j4 : decide (e.time ≤ y) = false := by rw [decide_eq_false_iff_not]; omega
     have HR : Hid (wantB a b x y e = false) := Lib.hid (by unfold wantB; simp [h4])
     clear h1 h2 h3 h4
     go_enter Tryz.func18, Tryz.ntmps18
     go_wp2
     go_ret
     exact ⟨by rw [HR.out]; rfl, HB.out⟩
   ·have i3 : ¬ (x ≤ e.time) := by omega
    have j3 : decide (x ≤ e.time) = false := by rw [decide_eq_false_iff_not]; omega
    have HR : Hid (wantB a b x y e = false) := Lib.hid (by unfold wantB; simp [h3])
    clear h1 h2 h3
    go_enter Tryz.func18, Tryz.ntmps18
    go_wp2
    go_ret
    exact ⟨by rw [HR.out]; rfl, HB.out⟩
  ·have i2 : ¬ ((e.off : Int) < (b : Int)) := by omega
   have j2 : decide ((e.off : Int) < (b : Int)) = false := by rw [decide_eq_false_iff_not]; omega
   have HR : Hid (wantB a b x y e = false) := Lib.hid (by unfold wantB; simp [h2])
   clear h1 h2
   go_enter Tryz.func18, Tryz.ntmps18
   go_wp2
   go_ret
   exact ⟨by rw [HR.out]; rfl, HB.out⟩
 ·have i1 : ¬ ((a : Int) ≤ (e.off : Int)) := by omega
  have j1 : decide ((a : Int) ≤ (e.off : Int)) = false := by rw [decide_eq_false_iff_not]; omega
  have HR : Hid (wantB a b x y e = false) := Lib.hid (by unfold wantB; simp [h1])
  clear h1
  go_enter Tryz.func18, Tryz.ntmps18
  go_wp2
  go_ret
  exact ⟨by rw [HR.out]; rfl, HB.out⟩
theorem run_maxU (ts : Array TypeId) (ty : TypeId) (a b : Int) (w : World) : (Builtin.max_ ts ty #[.int .u64 a, .int .u64 b]).run Tryz.prog w = .ok (.int .u64 (maxI a b)) w := by
 unfold maxI; simp [Builtin.max_, Builtin.max2]
set_option maxHeartbeats 2000000 in
theorem may_any (a b : Nat) (x y : Int) (c : Ck) (w : World) : Calls Tryz.prog 49 #[.agg #[.int .u64 (a : Int), .int .u64 (b : Int), .int .i64 x, .int .i64 y], .agg #[.int .i64 (c.rows : Int), .int .i64 (c.pl : Int), .int .u64 (c.oa : Int), .int .u64 (c.ob : Int), .int .i64 c.ta, .int .i64 c.tz, .string c.ka, .string c.kz]] w fun r w' => r = .returned (.bool (mayB a b x y c)) ∧ Below w.heap.size w w' := by
 obtain ⟨h1, h2, h3⟩ := boxesF w #[.int .u64 (a : Int), .int .u64 (b : Int), .int .i64 x, .int .i64 y] #[.int .i64 (c.rows : Int), .int .i64 (c.pl : Int), .int .u64 (c.oa : Int), .int .u64 (c.ob : Int), .int .i64 c.ta, .int .i64 c.tz, .string c.ka, .string c.kz] 26 77
 obtain ⟨v1, hv1⟩ : ∃ v1, v1 = ((w.alloc (.cells #[.int .u64 (a : Int), .int .u64 (b : Int), .int .i64 x, .int .i64 y] 26)).alloc (.cells #[.int .i64 (c.rows : Int), .int .i64 (c.pl : Int), .int .u64 (c.oa : Int), .int .u64 (c.ob : Int), .int .i64 c.ta, .int .i64 c.tz, .string c.ka, .string c.kz] 77)) := ⟨_, rfl⟩
 obtain ⟨b0, hb0⟩ : ∃ b0, b0 = w.heap.size := ⟨_, rfl⟩
 rw [← hv1, ← hb0] at h1 h2
 rw [← hv1] at h3
 have HB := Lib.hid h3
 have HR1 := Lib.hid h1
 have HR2 := Lib.hid h2
 have HV1 := Lib.hid hv1
 have HB0 := Lib.hid hb0
 clear h1 h2 h3 hv1 hb0
 have HMB : Hid (mayB a b x y c = (decide (maxI (a : Int) (c.oa : Int) < (b : Int)) && (decide (maxI (a : Int) (c.oa : Int) ≤ (c.ob : Int)) && decide (maxI x c.ta ≤ minI y c.tz)))) := Lib.hid rfl
 have HMN : Hid (∀ w : World, (Builtin.min_ #[2, 2] 2 #[.int .i64 y, .int .i64 c.tz]).run Tryz.prog w = .ok (.int .i64 (minI y c.tz)) w) := Lib.hid fun w => run_minI _ _ _ _ w
 go_enter Tryz.func49, Tryz.ntmps49
 go_upto_region 1 with fail
 rw [← HV1.out, ← HB0.out]
 refine wp_region_held_drew (S := Below v1.heap.size v1) (by kernel_rfl) (Below.refl _ _).drew (fun hHeld => ?_)
 refine wpAnyH_take (i := 0) (v := .pointer (some ⟨b0, 0, none⟩)) rfl (by kernel_rfl) (by kernel_rfl) (by kernel_rfl) (fun _ _ _ h => h) (Or.inl ⟨by rfl, fun w _ => by go_simp⟩) hHeld ?_
 try dsimp only
 try simp only [Act.put, qz0, qz1, qz2, qz3, qz4, qz5]
 refine wpAnyH_take (i := 1) (v := .int .u64 (a : Int)) rfl (by kernel_rfl) (by kernel_rfl) (by kernel_rfl) (fun _ _ _ h => h) (ylS lv_u64S rfl (.tmp 7) rfl b0 0 rfl _ (fun w hw => by rw [cell_of_row _ _ _ _ _ _ (row_keepS HR1.out hw)]; rfl)) hHeld ?_
 try dsimp only
 try simp only [Act.put, qz0, qz1, qz2, qz3, qz4, qz5]
 refine wpAnyH_take (i := 2) (v := .pointer (some ⟨b0 + 1, 2, none⟩)) rfl (by kernel_rfl) (by kernel_rfl) (by kernel_rfl) (fun _ _ _ h => h) (Or.inl ⟨by rfl, fun w _ => by go_simp⟩) hHeld ?_
 try dsimp only
 try simp only [Act.put, qz0, qz1, qz2, qz3, qz4, qz5]
 refine wpAnyH_take (i := 3) (v := .int .u64 (c.oa : Int)) rfl (by kernel_rfl) (by kernel_rfl) (by kernel_rfl) (fun _ _ _ h => h) (ylS lv_u64S rfl (.tmp 9) rfl (b0 + 1) 2 rfl _ (fun w hw => by rw [cell_of_row _ _ _ _ _ _ (row_keepS HR2.out hw)]; rfl)) hHeld ?_
 try dsimp only
 try simp only [Act.put, qz0, qz1, qz2, qz3, qz4, qz5]
 refine wpAnyH_take (i := 4) (v := .int .u64 (maxI (a : Int) (c.oa : Int))) rfl (by kernel_rfl) (by kernel_rfl) (by kernel_rfl) (fun _ _ _ h => h) (yb_max2 rfl (.tmp 8) (.tmp 10) _ rfl _ _ _ rfl rfl (fun w _ => run_maxU _ _ _ _ w)) hHeld ?_
 try dsimp only
 try simp only [Act.put, qz0, qz1, qz2, qz3, qz4, qz5]
 refine wpAnyH_take (i := 5) (v := .pointer (some ⟨b0, 2, none⟩)) rfl (by kernel_rfl) (by kernel_rfl) (by kernel_rfl) (fun _ _ _ h => h) (Or.inl ⟨by rfl, fun w _ => by go_simp⟩) hHeld ?_
 try dsimp only
 try simp only [Act.put, qz0, qz1, qz2, qz3, qz4, qz5]
 refine wpAnyH_take (i := 6) (v := .int .i64 x) rfl (by kernel_rfl) (by kernel_rfl) (by kernel_rfl) (fun _ _ _ h => h) (ylS lv_i64S rfl (.tmp 12) rfl b0 2 rfl _ (fun w hw => by rw [cell_of_row _ _ _ _ _ _ (row_keepS HR1.out hw)]; rfl)) hHeld ?_
 try dsimp only
 try simp only [Act.put, qz0, qz1, qz2, qz3, qz4, qz5]
 refine wpAnyH_take (i := 7) (v := .pointer (some ⟨b0 + 1, 4, none⟩)) rfl (by kernel_rfl) (by kernel_rfl) (by kernel_rfl) (fun _ _ _ h => h) (Or.inl ⟨by rfl, fun w _ => by go_simp⟩) hHeld ?_
 try dsimp only
 try simp only [Act.put, qz0, qz1, qz2, qz3, qz4, qz5]
 refine wpAnyH_take (i := 8) (v := .int .i64 c.ta) rfl (by kernel_rfl) (by kernel_rfl) (by kernel_rfl) (fun _ _ _ h => h) (ylS lv_i64S rfl (.tmp 14) rfl (b0 + 1) 4 rfl _ (fun w hw => by rw [cell_of_row _ _ _ _ _ _ (row_keepS HR2.out hw)]; rfl)) hHeld ?_
 try dsimp only
 try simp only [Act.put, qz0, qz1, qz2, qz3, qz4, qz5]
 refine wpAnyH_take (i := 9) (v := .int .i64 (maxI x c.ta)) rfl (by kernel_rfl) (by kernel_rfl) (by kernel_rfl) (fun _ _ _ h => h) (yb_max2 rfl (.tmp 13) (.tmp 15) _ rfl _ _ _ rfl rfl (fun w _ => run_maxI _ _ _ _ w)) hHeld ?_
 try dsimp only
 try simp only [Act.put, qz0, qz1, qz2, qz3, qz4, qz5]
 refine wpAnyH_take (i := 10) (v := .int .u64 (maxI (a : Int) (c.oa : Int))) rfl (by kernel_rfl) (by kernel_rfl) (by kernel_rfl) (fun _ _ _ h => h) (Or.inl ⟨by rfl, fun _ _ => rfl⟩) hHeld ?_
 try dsimp only
 try simp only [Act.put, qz0, qz1, qz2, qz3, qz4, qz5]
 refine wpAnyH_take (i := 11) (v := .int .i64 (maxI x c.ta)) rfl (by kernel_rfl) (by kernel_rfl) (by kernel_rfl) (fun _ _ _ h => h) (Or.inl ⟨by rfl, fun _ _ => rfl⟩) hHeld ?_
 try dsimp only
 try simp only [Act.put, qz0, qz1, qz2, qz3, qz4, qz5]
 refine wpAnyH_done (by kernel_rfl) ?_ _
 clear hHeld
 have a1 : v1.drew.cell? ⟨b0, 1, none⟩ = some (.int .u64 (b : Int)) := by rw [cell_of_row _ _ _ _ _ _ (row_keepS HR1.out (Below.refl _ _).drew)]; rfl
 have a3 : v1.drew.cell? ⟨b0, 3, none⟩ = some (.int .i64 y) := by rw [cell_of_row _ _ _ _ _ _ (row_keepS HR1.out (Below.refl _ _).drew)]; rfl
 have b3 : v1.drew.cell? ⟨b0 + 1, 3, none⟩ = some (.int .u64 (c.ob : Int)) := by rw [cell_of_row _ _ _ _ _ _ (row_keepS HR2.out (Below.refl _ _).drew)]; rfl
 have b5 : v1.drew.cell? ⟨b0 + 1, 5, none⟩ = some (.int .i64 c.tz) := by rw [cell_of_row _ _ _ _ _ _ (row_keepS HR2.out (Below.refl _ _).drew)]; rfl
 have HBE : Hid (Below w.heap.size w v1.drew) := Lib.hid HB.out.drew
 generalize v1.drew = v2 at *
 generalize maxI (a : Int) (c.oa : Int) = fr at *
 generalize maxI x c.ta = lo at *
 have hmn := HMN.out
 generalize minI y c.tz = hi at *
 by_cases h1 : fr < (b : Int)
 ·have i1 : fr < (b : Int) := h1
  by_cases h2 : fr ≤ (c.ob : Int)
  ·have i2 : fr ≤ (c.ob : Int) := h2
   have HR : Hid (mayB a b x y c = decide (lo ≤ hi)) := Lib.hid (by rw [HMB.out]; simp [h1, h2])
   clear h1 h2
   go_wp2
   go_ret
   exact ⟨by rw [HR.out]; rfl, HBE.out⟩
  ·have i2 : ¬ (fr ≤ (c.ob : Int)) := h2
   have j2 : decide (fr ≤ (c.ob : Int)) = false := by rw [decide_eq_false_iff_not]; exact h2
   have HR : Hid (mayB a b x y c = false) := Lib.hid (by rw [HMB.out]; simp [h2])
   clear h1 h2
   go_wp2
   go_ret
   exact ⟨by rw [HR.out]; rfl, HBE.out⟩
 ·have i1 : ¬ (fr < (b : Int)) := h1
  have j1 : decide (fr < (b : Int)) = false := by rw [decide_eq_false_iff_not]; exact h1
  have HR : Hid (mayB a b x y c = false) := Lib.hid (by rw [HMB.out]; simp [h1])
  clear h1
  go_wp2
  go_ret
  exact ⟨by rw [HR.out]; rfl, HBE.out⟩
/-- Where the page of the i-th chunk has to end. -/
def endB (cs : List Ck) (foot i : Nat) : Nat := match cs[i + 1]? with
 | some c => c.pl
 | none => foot
set_option maxHeartbeats 2000000 in
theorem endOf_any (bs p foot : Nat) (vb : Value) (g off n cap : Nat) (cs : List Ck) (hn : Hid (n = cs.length)) (hn9 : n ≤ 1000000) (i : Nat) (hi : i < n) (w : World)
  (HSG : Hid (w.heap[bs]? = some (.cells #[vb, .int .i64 (p : Int), .slice (some ⟨g, off, none⟩) n cap, .int .i64 (foot : Int)] 90 (0, 0)))) (HC : Hid (CkAt w (some ⟨g, off, none⟩) cs)) :
  Calls Tryz.prog 84 #[.pointer (some ⟨bs, 0, none⟩), .int .i64 (i : Int)] w fun r w' => r = .returned (.int .i64 (endB cs foot i : Nat)) ∧ w = w' := by
 have c2 : w.cell? ⟨bs, 2, none⟩ = some (.slice (some ⟨g, off, none⟩) n cap) := by rw [cell_of_row _ _ _ _ _ _ HSG.out]; rfl
 have c3 : w.cell? ⟨bs, 3, none⟩ = some (.int .i64 (foot : Int)) := by rw [cell_of_row _ _ _ _ _ _ HSG.out]; rfl
 obtain ⟨q, hq⟩ : ∃ q, q = i + 1 := ⟨_, rfl⟩
 have hiq : (i : Int) + 1 = (q : Int) := by omega
 have hwq : IntKind.i64.wrap (q : Int) = (q : Int) := by rw [IntKind.wrap_i64]; omega
 by_cases h : q < n
 ·obtain ⟨c, hc⟩ : ∃ c, cs[q]? = some c := ⟨_, List.getElem?_eq_getElem (by have := hn.out; omega)⟩
  obtain ⟨g', off', e, -, hr⟩ := ckr HC.out q c hc
  injection e with e; injection e with e1 e2; subst e1; subst e2
  have cp : w.cell? ⟨g, off + q * 8 + 1, none⟩ = some (.int .i64 (c.pl : Int)) := hr 1 _ rfl
  have HE : Hid (endB cs foot i = c.pl) := Lib.hid (by unfold endB; rw [← hq, hc])
  have hqi : (q : Int) < (n : Int) := by omega
  clear hr hc hq
  go_enter Tryz.func84, Tryz.ntmps84
  go_wp2
  go_ret
  exact ⟨by rw [HE.out]; rfl, rfl⟩
 ·have HE : Hid (endB cs foot i = foot) := Lib.hid (by unfold endB; rw [← hq, List.getElem?_eq_none (by have := hn.out; omega)])
  have hqi : ¬ ((q : Int) < (n : Int)) := by omega
  clear hq
  go_enter Tryz.func84, Tryz.ntmps84
  go_wp2
  go_ret
  exact ⟨by rw [HE.out]; rfl, rfl⟩
end Go.Proofs.YtifabkbdiiolfaaGreatDoor

namespace Go.Proofs.YtifabkbdiiolfaaGreatDoor
open Go.RowKit Go.WideShapes Col
def evOff (x : Ev) (o : Nat) : Ev := ⟨o, x.part, x.time, x.key, x.val⟩
def stB (fr : Nat) (p : Int) (o : List Ev) (x : Ev) : List Ev := if formB (evOff x (fr + o.length)) p = true then o ++ [evOff x (fr + o.length)] else o
def strE (fr : Nat) (p : Int) (l : List Ev) : List Ev := l.foldl (stB fr p) []
theorem strE_snoc (fr : Nat) (p : Int) (l : List Ev) (x : Ev) : strE fr p (l ++ [x]) = stB fr p (strE fr p l) x := by unfold strE; rw [List.foldl_append]; rfl
theorem strE_len (fr : Nat) (p : Int) (l : List Ev) : (strE fr p l).length ≤ l.length := by
 obtain ⟨n, hn⟩ : ∃ n, n = l.length := ⟨_, rfl⟩
 induction n generalizing l with
 | zero => obtain rfl : l = [] := List.length_eq_zero_iff.1 hn.symm; simp [strE]
 | succ n ih =>
  have h0 : l ≠ [] := by rintro rfl; simp at hn
  have e := List.dropLast_concat_getLast h0
  have hd : l.dropLast.length = n := by rw [List.length_dropLast]; omega
  have h1 := ih l.dropLast hd.symm
  have h2 : strE fr p l = stB fr p (strE fr p l.dropLast) (l.getLast h0) := by rw [← strE_snoc, e]
  rw [h2]; unfold stB
  split
  ·rw [List.length_append, List.length_singleton]; omega
  ·omega
/-- All of a stretch has the form, and its offsets follow one another. -/
theorem strE_ok (fr : Nat) (p : Int) : ∀ (l : List Ev) (o : List Ev), (∀ i x, o[i]? = some x → x.off = fr + i ∧ formB x p = true) → ∀ i x, (l.foldl (stB fr p) o)[i]? = some x → x.off = fr + i ∧ formB x p = true
 | [], o, h => h
 | a :: r, o, h => by
  rw [List.foldl_cons]
  refine strE_ok fr p r _ ?_
  intro i x hx
  unfold stB at hx
  split at hx
  ·rename_i hf
   rw [List.getElem?_append] at hx
   split at hx
   ·exact h i x hx
   ·rename_i hi
    have h0 : i - o.length = 0 := by
     rcases Nat.eq_zero_or_pos (i - o.length) with h | h
     ·exact h
     ·rw [List.getElem?_eq_none (by simp; omega)] at hx; cases hx
    rw [h0] at hx
    have hx : evOff a (fr + o.length) = x := by simpa using hx
    subst hx
    exact ⟨by show fr + o.length = _; omega, hf⟩
  ·exact h i x hx
theorem chk_of (p : Int) : ∀ (l : List Ev) (o : Option Nat) (b : Nat), (∀ i x, l[i]? = some x → x.off = b + i ∧ formB x p = true) → (∀ y, o = some y → b = y + 1) → chkL p o l = 0
 | [], _, _, _, _ => rfl
 | a :: r, o, b, h, ho => by
  obtain ⟨h1, h2⟩ := h 0 a rfl
  have h3 := chk_of p r (some a.off) (b + 1) (fun i x hx => by obtain ⟨h4, h5⟩ := h (i + 1) x hx; exact ⟨by omega, h5⟩) (fun y hy => by injection hy with hy; omega)
  unfold chkL
  rw [if_pos h2]
  rcases o with _ | y
  ·exact h3
  ·dsimp only
   rw [if_pos (by have := ho y rfl; omega)]
   exact h3
theorem strE_chk (fr : Nat) (p : Int) (l : List Ev) : chkL p none (strE fr p l) = 0 := chk_of p _ none fr (strE_ok fr p l [] (fun i x hx => by simp at hx)) (fun y hy => by cases hy)
theorem strE_off (fr : Nat) (p : Int) (l : List Ev) (i : Nat) (x : Ev) (h : (strE fr p l)[i]? = some x) : x.off = fr + i := (strE_ok fr p l [] (fun i x hx => by simp at hx) i x h).1
theorem form_le {x : Ev} {p q : Int} (h : formB x p = true) (hp : p ≤ q) : formB x q = true := by
 unfold formB at h ⊢
 simp only [Bool.and_eq_true, decide_eq_true_eq] at h ⊢
 omega
theorem strE_val (fr : Nat) (p : Int) : ∀ (l : List Ev) (o : List Ev), (∀ x ∈ l, x.val < 18446744073709551616) → (∀ x ∈ o, x.val < 18446744073709551616) → ∀ x ∈ l.foldl (stB fr p) o, x.val < 18446744073709551616
 | [], o, _, h => h
 | a :: r, o, hl, h => by
  rw [List.foldl_cons]
  refine strE_val fr p r _ (fun x hx => hl x (List.mem_cons_of_mem _ hx)) ?_
  intro x hx
  unfold stB at hx
  split at hx
  ·rcases List.mem_append.1 hx with e | e
   ·exact h x e
   ·rw [List.mem_singleton] at e; subst e
    exact hl a List.mem_cons_self
  ·exact h x hx
theorem strE_fine (fr : Nat) (p : Int) (hp : p ≤ 8) (l : List Ev) (hl : ∀ x ∈ l, x.val < 18446744073709551616) : ∀ x ∈ strE fr p l, FineE x := fun x hx =>
 by
 have h := form_le (chk_form _ _ (strE_chk fr p l) x hx) hp
 unfold formB at h
 simp only [Bool.and_eq_true, decide_eq_true_eq] at h
 obtain ⟨⟨⟨⟨⟨h1, h2⟩, h3⟩, h4⟩, h5⟩, h6⟩ := h
 exact ⟨h6, ⟨h1, h2⟩, ⟨h3, h4⟩, h5, strE_val fr p l [] hl (fun x hx => by cases hx) x hx⟩
set_option maxHeartbeats 4000000 in
theorem stretch_any (A0 : Option Addr) (n c : Nat) (l : List Ev) (hn : Hid (n = l.length)) (fr : Nat) (hfr : fr < 4294967296) (p : Int) (hc : n ≤ 300) (w : World) (HE : Hid (EvAt w A0 l)) :
  Calls Tryz.prog 12 #[.slice A0 n c, .int .u64 (fr : Int), .int .i64 p] w fun e w' => ∃ A m cap, e = .returned (.slice A m cap) ∧ OwnE w' w.heap.size A m cap (strE fr p (l.take 150)) ∧ m ≤ cap ∧ cap ≤ maxLen ∧ Below w.heap.size w w' := by
 have tail : ∀ k, (k = n ∨ k = 150) → k ≤ n → k ≤ 150 → l.take k = l.take 150 := fun k h h1 h2 => by
  rcases h with rfl | rfl
  ·rw [List.take_of_length_le (by have := hn.out; omega), List.take_of_length_le (by have := hn.out; omega)]
  ·rfl
 have HT := Lib.hid tail
 clear tail
 go_enter Tryz.func12, Tryz.ntmps12
 go_wp2
 go_loopw [7, 8] (fun u v wr => ∃ (k m : Nat) (A : Option Addr) (cap : Nat), k ≤ n ∧ k ≤ 150 ∧ m ≤ k ∧ u = .slice A m cap ∧ v = .int .i64 (k : Int) ∧ OwnE wr w.heap.size A m cap (strE fr p (l.take k)) ∧ m ≤ cap ∧ cap ≤ maxLen ∧ Below w.heap.size w wr) (fun _ v _ => n - (intOf v).toNat)
 case atStart => exact ⟨0, 0, none, 0, by omega, by omega, by omega, rfl, rfl, ownE_nil _ _, Nat.le_refl _, Nat.zero_le _, Below.refl _ _⟩
 case round =>
  obtain ⟨k, m, A, cap, hk, hk2, hm, rfl, rfl, ho, hkc, hcm, hb⟩ := hrel
  have HO := Lib.hid ho
  have HB := Lib.hid hb
  have HM : Hid (m = (strE fr p (l.take k)).length) := Lib.hid (by have h := ho.1; have e : (evs (strE fr p (l.take k))).length = (strE fr p (l.take k)).length * 5 := (by simp [evs_length]); omega)
  clear ho hb
  by_cases hlt : k < n
  ·by_cases h15 : k < 150
   ·obtain ⟨x, hx⟩ : ∃ x, l[k]? = some x := ⟨l[k]'(by have := hn.out; omega), List.getElem?_eq_getElem _⟩
    obtain ⟨g, off, rfl, hg, hr⟩ := evr (HE.out.keep HB.out) k x hx
    have HX := Lib.hid hr
    have HS : Hid (strE fr p (l.take (k + 1)) = stB fr p (strE fr p (l.take k)) x) := Lib.hid (by rw [List.take_add_one, hx]; exact strE_snoc fr p (l.take k) x)
    have hki : (k : Int) < (n : Int) := by omega
    have hk15 : (k : Int) < 150 := by omega
    have hwb : w.heap.size ≤ wr.heap.size := HB.out.size
    have hwm : IntKind.u64.wrap (m : Int) = (m : Int) := by rw [IntKind.wrap_u64]; omega
    have hwf : IntKind.u64.wrap ((fr : Int) + (m : Int)) = ((fr + m : Nat) : Int) := by rw [IntKind.wrap_u64]; omega
    obtain ⟨x1, hx1⟩ : ∃ x1, x1 = evOff x (fr + m) := ⟨_, rfl⟩
    have hofs : ((fr + m : Nat) : Int) = (x1.off : Int) := by rw [hx1]; rfl
    have hcel : (#[.int .u64 (x1.off : Int), .int .i64 x.part, .int .i64 x.time, .string x.key, .float .f64 x.val] : Array Value) = #[.int .u64 (x1.off : Int), .int .i64 x1.part, .int .i64 x1.time, .string x1.key, .float .f64 x1.val] := by rw [hx1]; rfl
    rw [hofs] at hwf
    have HFF : Hid (formB (evOff x (fr + m)) p = formB x1 p) := Lib.hid (by rw [hx1])
    have HXE := Lib.hid hx1
    obtain ⟨W1, hW1⟩ : ∃ W1, W1 = wr.alloc (.cells #[.int .u64 (x1.off : Int), .int .i64 x1.part, .int .i64 x1.time, .string x1.key, .float .f64 x1.val] 45) := ⟨_, rfl⟩
    have HR1 : Hid (W1.heap[wr.heap.size]? = some (.cells #[.int .u64 (x1.off : Int), .int .i64 x1.part, .int .i64 x1.time, .string x1.key, .float .f64 x1.val] 45 (0, 0))) := Lib.hid (by rw [hW1]; exact heap_alloc_new' wr _)
    have hb01 : Below wr.heap.size wr W1 := by rw [hW1]; exact (Below.refl _ _).alloc (Nat.le_refl _) _
    have HB1 : Hid (Below w.heap.size w W1) := Lib.hid (below_to HB.out hb01)
    have HO1 : Hid (OwnE W1 w.heap.size A m cap (strE fr p (l.take k))) := Lib.hid (ownE_keep HO.out hb01)
    have HW1 := Lib.hid hW1
    have HCL := Lib.hid hcel
    clear hb01 hr hg hx hx1 hW1 hcel hofs
    rcases hf : formB x1 p with _ | _
    ·have HSF : Hid (strE fr p (l.take (k + 1)) = strE fr p (l.take k)) := Lib.hid (by rw [HS.out]; unfold stB; rw [← HM.out, if_neg (by rw [HFF.out, hf]; decide)])
     have HFM := Lib.hid hf
     clear hf HS
     go_wp2_with (first
      | (refine wpList_load_mid rfl 45 (.tmp 22) rfl g (off + k * 5) rfl [.int .u64 (x.off : Int), .int .i64 x.part, .int .i64 x.time, .string x.key, .float .f64 x.val] _ HX.out uEvent rfl (iEvent x) ?_)
      | (refine wpList_store_row rfl 45 (.tmp 9) (.tmp 23) rfl wr.heap.size #[.int .u64 (x.off : Int), .int .i64 x.part, .int .i64 x.time, .string x.key, .float .f64 x.val] rfl rfl _ _ (heap_alloc_new' _ _) (iEvS x) (sizeEvB x) (oneEvS x) ?_; rw [World.setRow_alloc_new])
      | (refine wpList_load_row rfl 45 (.tmp 9) rfl wr.heap.size rfl _ #[.int .u64 (x1.off : Int), .int .i64 x1.part, .int .i64 x1.time, .string x1.key, .float .f64 x1.val] (0, 0) _ (by first | exact HR1.out | (rw [HCL.out, ← HW1.out]; exact HR1.out)) uEvent rfl (iEvS x1) ?_)
      | (go_at_call 33; (with_reducible refine (refForm_any x1 p _).mono ?_); rintro e w2 ⟨rfl, hb⟩; rw [HFM.out]; try rw [HCL.out, ← HW1.out] at hb; have HB2 := Lib.hid (below_to HB1.out hb); have HO2 := Lib.hid (ownE_keep HO1.out hb); clear hb))
     go_roundw
     case rel => exact ⟨k + 1, m, A, cap, by omega, by omega, by omega, rfl, by go_num, by rw [HSF.out]; exact HO2.out, hkc, hcm, HB2.out⟩
     case measure => simp [intOf]; omega
    ·have HSF : Hid (strE fr p (l.take (k + 1)) = strE fr p (l.take k) ++ [x1]) := Lib.hid (by rw [HS.out]; unfold stB; rw [← HM.out, if_pos (by rw [HFF.out]; exact hf), HXE.out])
     have HFM := Lib.hid hf
     clear hf HS
     go_wp2_with (first
      | (refine wpList_load_mid rfl 45 (.tmp 22) rfl g (off + k * 5) rfl [.int .u64 (x.off : Int), .int .i64 x.part, .int .i64 x.time, .string x.key, .float .f64 x.val] _ HX.out uEvent rfl (iEvent x) ?_)
      | (refine wpList_store_row rfl 45 (.tmp 9) (.tmp 23) rfl wr.heap.size #[.int .u64 (x.off : Int), .int .i64 x.part, .int .i64 x.time, .string x.key, .float .f64 x.val] rfl rfl _ _ (heap_alloc_new' _ _) (iEvS x) (sizeEvB x) (oneEvS x) ?_; rw [World.setRow_alloc_new])
      | (refine wpList_load_row rfl 45 (.tmp 9) rfl wr.heap.size rfl _ #[.int .u64 (x1.off : Int), .int .i64 x1.part, .int .i64 x1.time, .string x1.key, .float .f64 x1.val] (0, 0) _ (by first | exact HR2.out | exact HR1.out | (rw [HCL.out, ← HW1.out]; exact HR1.out)) uEvent rfl (iEvS x1) ?_)
      | (go_at_call 33; (with_reducible refine (refForm_any x1 p _).mono ?_); rintro e w2 ⟨rfl, hb⟩; rw [HFM.out]; try rw [HCL.out, ← HW1.out] at hb; have HB2 := Lib.hid (below_to HB1.out hb); have HO2 := Lib.hid (ownE_keep HO1.out hb); have HR2 := Lib.hid (row_keepS HR1.out hb); have HB2A := Lib.hid (HB2.out.alloc HB2.out.size (.cells #[.int .u64 (x1.off : Int), .int .i64 x1.part, .int .i64 x1.time, .string x1.key, .float .f64 x1.val] 45)); have HO2A := Lib.hid (ownE_keep HO2.out ((Below.refl w2.heap.size w2).alloc (Nat.le_refl _) (.cells #[.int .u64 (x1.off : Int), .int .i64 x1.part, .int .i64 x1.time, .string x1.key, .float .f64 x1.val] 45))); have hbs := HB2A.out.size; clear hb)
      | (at_builtin; refine wpList_append_ev rfl _ _ rfl w.heap.size A m cap (strE fr p (l.take k)) rfl HO2A.out (some ⟨w2.heap.size, 0, none⟩) 1 1 [x1] rfl rfl (evAt_new w2 [x1] _ rfl _) (fun h => by cases h) (m + 1) rfl (by omega) hbs ?_; intro A3 c3 w3 ho3 h31 h32 h33 hb3; have HO3 := Lib.hid ho3; have HC3 := Lib.hid (And.intro h31 h32); have HB3 := Lib.hid (HB2A.out.trans hb3); clear ho3 h31 h32 h33 hb3))
     go_roundw
     case rel => exact ⟨k + 1, m + 1, A3, c3, by omega, by omega, by omega, rfl, by go_num, by rw [HSF.out]; exact HO3.out, HC3.out.1, HC3.out.2, HB3.out⟩
     case measure => simp [intOf]; omega
   ·obtain rfl : k = 150 := by omega
    have hki : ((150 : Nat) : Int) < (n : Int) := by omega
    have hk15 : ¬ ((150 : Nat) : Int) < 150 := by omega
    go_wp2
    go_ret
    exact ⟨A, m, cap, rfl, HO.out, hkc, hcm, HB.out⟩
  ·obtain rfl : k = n := by omega
   have hki : ¬ (k : Int) < (k : Int) := by omega
   have HEND := Lib.hid (HT.out k (.inl rfl) hk hk2)
   go_wp2
   go_ret
   exact ⟨A, m, cap, rfl, by rw [← HEND.out]; exact HO.out, hkc, hcm, HB.out⟩
end Go.Proofs.YtifabkbdiiolfaaGreatDoor
