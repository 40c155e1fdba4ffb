/-
  Layer segment: a filter's Wants and May; where a chunk's page has to end.
-/
import Derived.Test.YtifabkbdiiolfaaGreatDoorPsgK
set_option linter.unusedSimpArgs false
set_option linter.unusedVariables false
set_option maxRecDepth 8000
namespace Go.Proofs.YtifabkbdiiolfaaGreatDoor
open Go.RowKit Go.WideShapes Col
def wantB (a b : Nat) (x y : Int) (e : Ev) : Bool := decide (a ≤ e.off) && (decide (e.off < b) && (decide (x ≤ e.time) && decide (e.time ≤ y)))
def mayB (a b : Nat) (x y : Int) (c : Ck) : Bool := decide (maxI (a : Int) (c.oa : Int) < (b : Int)) && (decide (maxI (a : Int) (c.oa : Int) ≤ (c.ob : Int)) && decide (maxI x c.ta ≤ minI y c.tz))
theorem boxesF (w : World) (c1 c2 : Array Value) (t1 t2 : TypeId) : ((w.alloc (.cells c1 t1)).alloc (.cells c2 t2)).heap[w.heap.size]? = some (.cells c1 t1 (0, 0)) ∧ ((w.alloc (.cells c1 t1)).alloc (.cells c2 t2)).heap[w.heap.size + 1]? = some (.cells c2 t2 (0, 0)) ∧ Below w.heap.size w ((w.alloc (.cells c1 t1)).alloc (.cells c2 t2)) :=
 ⟨heap_alloc2_old w _ _, heap_alloc2_new w _ _, ((Below.refl _ _).alloc (Nat.le_refl _) _).alloc (by simp) _⟩
set_option maxHeartbeats 2000000 in
theorem wants_any (a b : Nat) (x y : Int) (e : Ev) (w : World) : Calls Tryz.prog 18 #[.agg #[.int .u64 (a : Int), .int .u64 (b : Int), .int .i64 x, .int .i64 y], .agg #[.int .u64 (e.off : Int), .int .i64 e.part, .int .i64 e.time, .string e.key, .float .f64 e.val]] w fun r w' => r = .returned (.bool (wantB a b x y e)) ∧ Below w.heap.size w w' := by
 obtain ⟨h1, h2, h3⟩ := boxesF w #[.int .u64 (a : Int), .int .u64 (b : Int), .int .i64 x, .int .i64 y] #[.int .u64 (e.off : Int), .int .i64 e.part, .int .i64 e.time, .string e.key, .float .f64 e.val] 26 45
 have HB := Lib.hid h3
 have a0 : ((w.alloc (.cells #[.int .u64 (a : Int), .int .u64 (b : Int), .int .i64 x, .int .i64 y] 26)).alloc (.cells #[.int .u64 (e.off : Int), .int .i64 e.part, .int .i64 e.time, .string e.key, .float .f64 e.val] 45)).cell? ⟨w.heap.size, 0, none⟩ = some (.int .u64 (a : Int)) := by rw [cell_of_row _ _ _ _ _ _ h1]; rfl
 have a1 : ((w.alloc (.cells #[.int .u64 (a : Int), .int .u64 (b : Int), .int .i64 x, .int .i64 y] 26)).alloc (.cells #[.int .u64 (e.off : Int), .int .i64 e.part, .int .i64 e.time, .string e.key, .float .f64 e.val] 45)).cell? ⟨w.heap.size, 1, none⟩ = some (.int .u64 (b : Int)) := by rw [cell_of_row _ _ _ _ _ _ h1]; rfl
 have a2 : ((w.alloc (.cells #[.int .u64 (a : Int), .int .u64 (b : Int), .int .i64 x, .int .i64 y] 26)).alloc (.cells #[.int .u64 (e.off : Int), .int .i64 e.part, .int .i64 e.time, .string e.key, .float .f64 e.val] 45)).cell? ⟨w.heap.size, 2, none⟩ = some (.int .i64 x) := by rw [cell_of_row _ _ _ _ _ _ h1]; rfl
 have a3 : ((w.alloc (.cells #[.int .u64 (a : Int), .int .u64 (b : Int), .int .i64 x, .int .i64 y] 26)).alloc (.cells #[.int .u64 (e.off : Int), .int .i64 e.part, .int .i64 e.time, .string e.key, .float .f64 e.val] 45)).cell? ⟨w.heap.size, 3, none⟩ = some (.int .i64 y) := by rw [cell_of_row _ _ _ _ _ _ h1]; rfl
 have b0 : ((w.alloc (.cells #[.int .u64 (a : Int), .int .u64 (b : Int), .int .i64 x, .int .i64 y] 26)).alloc (.cells #[.int .u64 (e.off : Int), .int .i64 e.part, .int .i64 e.time, .string e.key, .float .f64 e.val] 45)).cell? ⟨w.heap.size + 1, 0, none⟩ = some (.int .u64 (e.off : Int)) := by rw [cell_of_row _ _ _ _ _ _ h2]; rfl
 have b2 : ((w.alloc (.cells #[.int .u64 (a : Int), .int .u64 (b : Int), .int .i64 x, .int .i64 y] 26)).alloc (.cells #[.int .u64 (e.off : Int), .int .i64 e.part, .int .i64 e.time, .string e.key, .float .f64 e.val] 45)).cell? ⟨w.heap.size + 1, 2, none⟩ = some (.int .i64 e.time) := by rw [cell_of_row _ _ _ _ _ _ h2]; rfl
 clear h1 h2 h3
 by_cases h1 : a ≤ e.off
 ·have i1 : (a : Int) ≤ (e.off : Int) := by omega
  by_cases h2 : e.off < b
  ·have i2 : (e.off : Int) < (b : Int) := by omega
   by_cases h3 : x ≤ e.time
   ·have i3 : x ≤ e.time := by omega
    by_cases h4 : e.time ≤ y
    ·have i4 : e.time ≤ y := by omega
     have HR : Hid (wantB a b x y e = true) := Lib.hid (by unfold wantB; simp [h1, h2, h3, h4])
     clear h1 h2 h3 h4
     go_enter Tryz.func18, Tryz.ntmps18
     go_wp2
     go_ret
     exact ⟨by rw [HR.out]; rfl, HB.out⟩
    ·have i4 : ¬ (e.time ≤ y) := by omega
     have j4 : decide (e.time ≤ y) = false := by rw [decide_eq_false_iff_not]; omega
     have HR : Hid (wantB a b x y e = false) := Lib.hid (by unfold wantB; simp [h4])
     clear h1 h2 h3 h4
     go_enter Tryz.func18, Tryz.ntmps18
     go_wp2
     go_ret
     exact ⟨by rw [HR.out]; rfl, HB.out⟩
   ·have i3 : ¬ (x ≤ e.time) := by omega
    have j3 : decide (x ≤ e.time) = false := by rw [decide_eq_false_iff_not]; omega
    have HR : Hid (wantB a b x y e = false) := Lib.hid (by unfold wantB; simp [h3])
    clear h1 h2 h3
    go_enter Tryz.func18, Tryz.ntmps18
    go_wp2
    go_ret
    exact ⟨by rw [HR.out]; rfl, HB.out⟩
  ·have i2 : ¬ ((e.off : Int) < (b : Int)) := by omega
   have j2 : decide ((e.off : Int) < (b : Int)) = false := by rw [decide_eq_false_iff_not]; omega
   have HR : Hid (wantB a b x y e = false) := Lib.hid (by unfold wantB; simp [h2])
   clear h1 h2
   go_enter Tryz.func18, Tryz.ntmps18
   go_wp2
   go_ret
   exact ⟨by rw [HR.out]; rfl, HB.out⟩
 ·have i1 : ¬ ((a : Int) ≤ (e.off : Int)) := by omega
  have j1 : decide ((a : Int) ≤ (e.off : Int)) = false := by rw [decide_eq_false_iff_not]; omega
  have HR : Hid (wantB a b x y e = false) := Lib.hid (by unfold wantB; simp [h1])
  clear h1
  go_enter Tryz.func18, Tryz.ntmps18
  go_wp2
  go_ret
  exact ⟨by rw [HR.out]; rfl, HB.out⟩
theorem run_maxU (ts : Array TypeId) (ty : TypeId) (a b : Int) (w : World) : (Builtin.max_ ts ty #[.int .u64 a, .int .u64 b]).run Tryz.prog w = .ok (.int .u64 (maxI a b)) w := by
 unfold maxI; simp [Builtin.max_, Builtin.max2]
set_option maxHeartbeats 2000000 in
theorem may_any (a b : Nat) (x y : Int) (c : Ck) (w : World) : Calls Tryz.prog 49 #[.agg #[.int .u64 (a : Int), .int .u64 (b : Int), .int .i64 x, .int .i64 y], .agg #[.int .i64 (c.rows : Int), .int .i64 (c.pl : Int), .int .u64 (c.oa : Int), .int .u64 (c.ob : Int), .int .i64 c.ta, .int .i64 c.tz, .string c.ka, .string c.kz]] w fun r w' => r = .returned (.bool (mayB a b x y c)) ∧ Below w.heap.size w w' := by
 obtain ⟨h1, h2, h3⟩ := boxesF w #[.int .u64 (a : Int), .int .u64 (b : Int), .int .i64 x, .int .i64 y] #[.int .i64 (c.rows : Int), .int .i64 (c.pl : Int), .int .u64 (c.oa : Int), .int .u64 (c.ob : Int), .int .i64 c.ta, .int .i64 c.tz, .string c.ka, .string c.kz] 26 77
 obtain ⟨v1, hv1⟩ : ∃ v1, v1 = ((w.alloc (.cells #[.int .u64 (a : Int), .int .u64 (b : Int), .int .i64 x, .int .i64 y] 26)).alloc (.cells #[.int .i64 (c.rows : Int), .int .i64 (c.pl : Int), .int .u64 (c.oa : Int), .int .u64 (c.ob : Int), .int .i64 c.ta, .int .i64 c.tz, .string c.ka, .string c.kz] 77)) := ⟨_, rfl⟩
 obtain ⟨b0, hb0⟩ : ∃ b0, b0 = w.heap.size := ⟨_, rfl⟩
 rw [← hv1, ← hb0] at h1 h2
 rw [← hv1] at h3
 have HB := Lib.hid h3
 have HR1 := Lib.hid h1
 have HR2 := Lib.hid h2
 have HV1 := Lib.hid hv1
 have HB0 := Lib.hid hb0
 clear h1 h2 h3 hv1 hb0
 have HMB : Hid (mayB a b x y c = (decide (maxI (a : Int) (c.oa : Int) < (b : Int)) && (decide (maxI (a : Int) (c.oa : Int) ≤ (c.ob : Int)) && decide (maxI x c.ta ≤ minI y c.tz)))) := Lib.hid rfl
 have HMN : Hid (∀ w : World, (Builtin.min_ #[2, 2] 2 #[.int .i64 y, .int .i64 c.tz]).run Tryz.prog w = .ok (.int .i64 (minI y c.tz)) w) := Lib.hid fun w => run_minI _ _ _ _ w
 go_enter Tryz.func49, Tryz.ntmps49
 go_upto_region 1 with fail
 rw [← HV1.out, ← HB0.out]
 refine wp_region_held_drew (S := Below v1.heap.size v1) (by kernel_rfl) (Below.refl _ _).drew (fun hHeld => ?_)
 refine wpAnyH_take (i := 0) (v := .pointer (some ⟨b0, 0, none⟩)) rfl (by kernel_rfl) (by kernel_rfl) (by kernel_rfl) (fun _ _ _ h => h) (Or.inl ⟨by rfl, fun w _ => by go_simp⟩) hHeld ?_
 try dsimp only
 try simp only [Act.put, List.getElem_toArray, List.getElem_cons_zero, List.getElem_cons_succ, List.setIfInBounds_toArray, List.set_cons_zero, List.set_cons_succ]
 refine wpAnyH_take (i := 1) (v := .int .u64 (a : Int)) rfl (by kernel_rfl) (by kernel_rfl) (by kernel_rfl) (fun _ _ _ h => h) (ylS lv_u64S rfl (.tmp 7) rfl b0 0 rfl _ (fun w hw => by rw [cell_of_row _ _ _ _ _ _ (row_keepS HR1.out hw)]; rfl)) hHeld ?_
 try dsimp only
 try simp only [Act.put, List.getElem_toArray, List.getElem_cons_zero, List.getElem_cons_succ, List.setIfInBounds_toArray, List.set_cons_zero, List.set_cons_succ]
 refine wpAnyH_take (i := 2) (v := .pointer (some ⟨b0 + 1, 2, none⟩)) rfl (by kernel_rfl) (by kernel_rfl) (by kernel_rfl) (fun _ _ _ h => h) (Or.inl ⟨by rfl, fun w _ => by go_simp⟩) hHeld ?_
 try dsimp only
 try simp only [Act.put, List.getElem_toArray, List.getElem_cons_zero, List.getElem_cons_succ, List.setIfInBounds_toArray, List.set_cons_zero, List.set_cons_succ]
 refine wpAnyH_take (i := 3) (v := .int .u64 (c.oa : Int)) rfl (by kernel_rfl) (by kernel_rfl) (by kernel_rfl) (fun _ _ _ h => h) (ylS lv_u64S rfl (.tmp 9) rfl (b0 + 1) 2 rfl _ (fun w hw => by rw [cell_of_row _ _ _ _ _ _ (row_keepS HR2.out hw)]; rfl)) hHeld ?_
 try dsimp only
 try simp only [Act.put, List.getElem_toArray, List.getElem_cons_zero, List.getElem_cons_succ, List.setIfInBounds_toArray, List.set_cons_zero, List.set_cons_succ]
 refine wpAnyH_take (i := 4) (v := .int .u64 (maxI (a : Int) (c.oa : Int))) rfl (by kernel_rfl) (by kernel_rfl) (by kernel_rfl) (fun _ _ _ h => h) (yb_max2 rfl (.tmp 8) (.tmp 10) _ rfl _ _ _ rfl rfl (fun w _ => run_maxU _ _ _ _ w)) hHeld ?_
 try dsimp only
 try simp only [Act.put, List.getElem_toArray, List.getElem_cons_zero, List.getElem_cons_succ, List.setIfInBounds_toArray, List.set_cons_zero, List.set_cons_succ]
 refine wpAnyH_take (i := 5) (v := .pointer (some ⟨b0, 2, none⟩)) rfl (by kernel_rfl) (by kernel_rfl) (by kernel_rfl) (fun _ _ _ h => h) (Or.inl ⟨by rfl, fun w _ => by go_simp⟩) hHeld ?_
 try dsimp only
 try simp only [Act.put, List.getElem_toArray, List.getElem_cons_zero, List.getElem_cons_succ, List.setIfInBounds_toArray, List.set_cons_zero, List.set_cons_succ]
 refine wpAnyH_take (i := 6) (v := .int .i64 x) rfl (by kernel_rfl) (by kernel_rfl) (by kernel_rfl) (fun _ _ _ h => h) (ylS lv_i64S rfl (.tmp 12) rfl b0 2 rfl _ (fun w hw => by rw [cell_of_row _ _ _ _ _ _ (row_keepS HR1.out hw)]; rfl)) hHeld ?_
 try dsimp only
 try simp only [Act.put, List.getElem_toArray, List.getElem_cons_zero, List.getElem_cons_succ, List.setIfInBounds_toArray, List.set_cons_zero, List.set_cons_succ]
 refine wpAnyH_take (i := 7) (v := .pointer (some ⟨b0 + 1, 4, none⟩)) rfl (by kernel_rfl) (by kernel_rfl) (by kernel_rfl) (fun _ _ _ h => h) (Or.inl ⟨by rfl, fun w _ => by go_simp⟩) hHeld ?_
 try dsimp only
 try simp only [Act.put, List.getElem_toArray, List.getElem_cons_zero, List.getElem_cons_succ, List.setIfInBounds_toArray, List.set_cons_zero, List.set_cons_succ]
 refine wpAnyH_take (i := 8) (v := .int .i64 c.ta) rfl (by kernel_rfl) (by kernel_rfl) (by kernel_rfl) (fun _ _ _ h => h) (ylS lv_i64S rfl (.tmp 14) rfl (b0 + 1) 4 rfl _ (fun w hw => by rw [cell_of_row _ _ _ _ _ _ (row_keepS HR2.out hw)]; rfl)) hHeld ?_
 try dsimp only
 try simp only [Act.put, List.getElem_toArray, List.getElem_cons_zero, List.getElem_cons_succ, List.setIfInBounds_toArray, List.set_cons_zero, List.set_cons_succ]
 refine wpAnyH_take (i := 9) (v := .int .i64 (maxI x c.ta)) rfl (by kernel_rfl) (by kernel_rfl) (by kernel_rfl) (fun _ _ _ h => h) (yb_max2 rfl (.tmp 13) (.tmp 15) _ rfl _ _ _ rfl rfl (fun w _ => run_maxI _ _ _ _ w)) hHeld ?_
 try dsimp only
 try simp only [Act.put, List.getElem_toArray, List.getElem_cons_zero, List.getElem_cons_succ, List.setIfInBounds_toArray, List.set_cons_zero, List.set_cons_succ]
 refine wpAnyH_take (i := 10) (v := .int .u64 (maxI (a : Int) (c.oa : Int))) rfl (by kernel_rfl) (by kernel_rfl) (by kernel_rfl) (fun _ _ _ h => h) (Or.inl ⟨by rfl, fun _ _ => rfl⟩) hHeld ?_
 try dsimp only
 try simp only [Act.put, List.getElem_toArray, List.getElem_cons_zero, List.getElem_cons_succ, List.setIfInBounds_toArray, List.set_cons_zero, List.set_cons_succ]
 refine wpAnyH_take (i := 11) (v := .int .i64 (maxI x c.ta)) rfl (by kernel_rfl) (by kernel_rfl) (by kernel_rfl) (fun _ _ _ h => h) (Or.inl ⟨by rfl, fun _ _ => rfl⟩) hHeld ?_
 try dsimp only
 try simp only [Act.put, List.getElem_toArray, List.getElem_cons_zero, List.getElem_cons_succ, List.setIfInBounds_toArray, List.set_cons_zero, List.set_cons_succ]
 refine wpAnyH_done (by kernel_rfl) ?_ _
 clear hHeld
 have a1 : v1.drew.cell? ⟨b0, 1, none⟩ = some (.int .u64 (b : Int)) := by rw [cell_of_row _ _ _ _ _ _ (row_keepS HR1.out (Below.refl _ _).drew)]; rfl
 have a3 : v1.drew.cell? ⟨b0, 3, none⟩ = some (.int .i64 y) := by rw [cell_of_row _ _ _ _ _ _ (row_keepS HR1.out (Below.refl _ _).drew)]; rfl
 have b3 : v1.drew.cell? ⟨b0 + 1, 3, none⟩ = some (.int .u64 (c.ob : Int)) := by rw [cell_of_row _ _ _ _ _ _ (row_keepS HR2.out (Below.refl _ _).drew)]; rfl
 have b5 : v1.drew.cell? ⟨b0 + 1, 5, none⟩ = some (.int .i64 c.tz) := by rw [cell_of_row _ _ _ _ _ _ (row_keepS HR2.out (Below.refl _ _).drew)]; rfl
 have HBE : Hid (Below w.heap.size w v1.drew) := Lib.hid HB.out.drew
 generalize v1.drew = v2 at *
 generalize maxI (a : Int) (c.oa : Int) = fr at *
 generalize maxI x c.ta = lo at *
 have hmn := HMN.out
 generalize minI y c.tz = hi at *
 by_cases h1 : fr < (b : Int)
 ·have i1 : fr < (b : Int) := h1
  by_cases h2 : fr ≤ (c.ob : Int)
  ·have i2 : fr ≤ (c.ob : Int) := h2
   have HR : Hid (mayB a b x y c = decide (lo ≤ hi)) := Lib.hid (by rw [HMB.out]; simp [h1, h2])
   clear h1 h2
   go_wp2
   go_ret
   exact ⟨by rw [HR.out]; rfl, HBE.out⟩
  ·have i2 : ¬ (fr ≤ (c.ob : Int)) := h2
   have j2 : decide (fr ≤ (c.ob : Int)) = false := by rw [decide_eq_false_iff_not]; exact h2
   have HR : Hid (mayB a b x y c = false) := Lib.hid (by rw [HMB.out]; simp [h2])
   clear h1 h2
   go_wp2
   go_ret
   exact ⟨by rw [HR.out]; rfl, HBE.out⟩
 ·have i1 : ¬ (fr < (b : Int)) := h1
  have j1 : decide (fr < (b : Int)) = false := by rw [decide_eq_false_iff_not]; exact h1
  have HR : Hid (mayB a b x y c = false) := Lib.hid (by rw [HMB.out]; simp [h1])
  clear h1
  go_wp2
  go_ret
  exact ⟨by rw [HR.out]; rfl, HBE.out⟩
/-- Where the page of the i-th chunk has to end. -/
def endB (cs : List Ck) (foot i : Nat) : Nat := match cs[i + 1]? with
 | some c => c.pl
 | none => foot
set_option maxHeartbeats 2000000 in
theorem endOf_any (bs p foot : Nat) (vb : Value) (g off n cap : Nat) (cs : List Ck) (hn : Hid (n = cs.length)) (hn9 : n ≤ 1000000) (i : Nat) (hi : i < n) (w : World)
  (HSG : Hid (w.heap[bs]? = some (.cells #[vb, .int .i64 (p : Int), .slice (some ⟨g, off, none⟩) n cap, .int .i64 (foot : Int)] 90 (0, 0)))) (HC : Hid (CkAt w (some ⟨g, off, none⟩) cs)) :
  Calls Tryz.prog 84 #[.pointer (some ⟨bs, 0, none⟩), .int .i64 (i : Int)] w fun r w' => r = .returned (.int .i64 (endB cs foot i : Nat)) ∧ w = w' := by
 have c2 : w.cell? ⟨bs, 2, none⟩ = some (.slice (some ⟨g, off, none⟩) n cap) := by rw [cell_of_row _ _ _ _ _ _ HSG.out]; rfl
 have c3 : w.cell? ⟨bs, 3, none⟩ = some (.int .i64 (foot : Int)) := by rw [cell_of_row _ _ _ _ _ _ HSG.out]; rfl
 obtain ⟨q, hq⟩ : ∃ q, q = i + 1 := ⟨_, rfl⟩
 have hiq : (i : Int) + 1 = (q : Int) := by omega
 have hwq : IntKind.i64.wrap (q : Int) = (q : Int) := by rw [IntKind.wrap_i64]; omega
 by_cases h : q < n
 ·obtain ⟨c, hc⟩ : ∃ c, cs[q]? = some c := ⟨_, List.getElem?_eq_getElem (by have := hn.out; omega)⟩
  obtain ⟨g', off', e, -, hr⟩ := ckr HC.out q c hc
  injection e with e; injection e with e1 e2; subst e1; subst e2
  have cp : w.cell? ⟨g, off + q * 8 + 1, none⟩ = some (.int .i64 (c.pl : Int)) := hr 1 _ rfl
  have HE : Hid (endB cs foot i = c.pl) := Lib.hid (by unfold endB; rw [← hq, hc])
  have hqi : (q : Int) < (n : Int) := by omega
  clear hr hc hq
  go_enter Tryz.func84, Tryz.ntmps84
  go_wp2
  go_ret
  exact ⟨by rw [HE.out]; rfl, rfl⟩
 ·have HE : Hid (endB cs foot i = foot) := Lib.hid (by unfold endB; rw [← hq, List.getElem?_eq_none (by have := hn.out; omega)])
  have hqi : ¬ ((q : Int) < (n : Int)) := by omega
  clear hq
  go_enter Tryz.func84, Tryz.ntmps84
  go_wp2
  go_ret
  exact ⟨by rw [HE.out]; rfl, rfl⟩
end Go.Proofs.YtifabkbdiiolfaaGreatDoor
