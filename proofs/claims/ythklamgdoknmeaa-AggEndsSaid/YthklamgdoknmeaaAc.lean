/-
  Layer agg: the contracts of Join, Add, Value, Len.
-/
import Derived.Test.YthklamgdoknmeaaAb
import Derived.Test.YthklamgdoknmeaaAa
set_option linter.unusedSimpArgs false
set_option linter.unusedVariables false
set_option maxRecDepth 8000
namespace Go.Proofs.Ythklamgdoknmeaa
open Go.RowKit Sm
/-- A load of the sum in a state that lies in a block. -/
theorem wpList_load_sum {ops : Array Oper} {rest : List Oper} {o : Oper} {a : Act} {w : World} {Q : Exit → Act → World → Prop} (hgd : o.guard = none) (x : Operand) (ho : o.op = .load 27 x) (g : Nat) (hx : a.eval x = .pointer (some ⟨g, 1, none⟩))
    (n : Nat) (f : Nat → Nat) (h lo hi : Nat) (H : StAt w g n f h lo hi) (hh : wpList Try.prog ops Q rest (a.put o.dst (.agg (P36 f h))) w) : wpList Try.prog ops Q (o :: rest) a w :=
  wpList_load_mid hgd 27 x ho g 1 hx _ _ H.mid u27 rfl (iP f h) (by rw [Array.toArray_toList]; exact hh)
theorem yb_load_sum {ops : Array Oper} {S : World → Prop} {op : Oper} {a : Act} (hw : Region.wanted op (yielded ops a.tmps) = true) (x : Operand) (ho : op.op = .load 27 x) (g : Nat) (hx : a.eval x = .pointer (some ⟨g, 1, none⟩))
    (n : Nat) (f : Nat → Nat) (h lo hi : Nat) (H : ∀ w, S w → StAt w g n f h lo hi) : YieldsIf Try.prog ops S op (.agg (P36 f h)) a := by
  have := yieldsIf_load_mid (P := Try.prog) (ops := ops) (S := S) hw 27 x ho g 1 hx (P36 f h).toList _ (fun w hS => (H w hS).mid) u27 rfl (iP f h)
  rwa [Array.toArray_toList] at this
theorem lv_u64 (w : World) (g j : Nat) (v : Value) (h : w.cell? ⟨g, j, none⟩ = some v) : (loadVar 24 ⟨g, j, none⟩).run Try.prog w = .ok v w := by
  go_simp
theorem yb_u64 {ops : Array Oper} {S : World → Prop} {op : Oper} {a : Act} (hw : Region.wanted op (yielded ops a.tmps) = true) (x : Operand) (ho : op.op = .load 24 x) (g j : Nat) (hx : a.eval x = .pointer (some ⟨g, j, none⟩)) (v : Value)
    (hS : ∀ w, S w → w.cell? ⟨g, j, none⟩ = some v) : YieldsIf Try.prog ops S op v a :=
  .inl ⟨hw, fun w hw' => by
    unfold execOp
    simp only [ho, hx, Instr.loadAt, Instr.sureAddr, Sem.run_bind, Sem.run_pure, Result.andThen_ok, lv_u64 w g j v (hS w hw')]⟩
theorem yb_bin {ops : Array Oper} {S : World → Prop} {op : Oper} {a : Act} (hw : Region.wanted op (yielded ops a.tmps) = true) (o : BinOp) (t t2 : TypeId) (x y : Operand) (ho : op.op = .binOp o t x y t2) (v1 v2 u : Value) (hx : a.eval x = v1) (hy : a.eval y = v2)
    (he : ∀ w, (eqGuard o t x y v1 v2).run Try.prog w = .ok () w) (h : ∀ w, (binOp o t v1 v2).run Try.prog w = .ok u w) : YieldsIf Try.prog ops S op u a :=
  .inl ⟨hw, fun w _ => by
    unfold execOp
    simp only [ho, hx, hy, Sem.run_bind, Sem.run_pure, he w, h w, Result.andThen_ok]⟩
/-- Three states in memory. -/
structure J3 (w0 : World) (c1 c2 c3 : Array Value) (w : World) : Prop where
  below : Below w0.heap.size w0 w
  r1 : w.heap[w0.heap.size]? = some (.cells c1 40 (0, 0))
  r2 : w.heap[w0.heap.size + 1]? = some (.cells c2 40 (0, 0))
  r3 : w.heap[w0.heap.size + 2]? = some (.cells c3 40 (0, 0))
theorem J3.start (w : World) (c1 c2 c3 : Array Value) : J3 w c1 c2 c3 (((w.alloc (.cells c1 40)).alloc (.cells c2 40)).alloc (.cells c3 40)) := by
  have e1 : (w.alloc (.cells c1 40)).heap.size = w.heap.size + 1 := by simp
  have e2 : ((w.alloc (.cells c1 40)).alloc (.cells c2 40)).heap.size = w.heap.size + 2 := by simp
  refine ⟨(((Below.refl _ _).alloc (Nat.le_refl _) _).alloc (by rw [e1]; omega) _).alloc (by rw [e2]; omega) _, ?_, ?_, ?_⟩
  · rw [Below.heap_alloc _ _ _ (by rw [e2]; omega)]; exact heap_alloc2_old w _ _
  · rw [Below.heap_alloc _ _ _ (by rw [e2]; omega)]; exact heap_alloc2_new w _ _
  · have h := heap_alloc_new ((w.alloc (.cells c1 40)).alloc (.cells c2 40)) (.cells c3 40)
    rwa [e2] at h
theorem J3.next {w0 w w' : World} {c1 c2 c3 : Array Value} (h : J3 w0 c1 c2 c3 w) (hb : Below w.heap.size w w') : J3 w0 c1 c2 c3 w' :=
  ⟨h.below.trans (hb.mono h.below.size), row_keep h.r1 hb, row_keep h.r2 hb, row_keep h.r3 hb⟩
structure J2 (w0 : World) (c1 c2 : Array Value) (w : World) : Prop where
  below : Below w0.heap.size w0 w
  r1 : w.heap[w0.heap.size]? = some (.cells c1 40 (0, 0))
  r2 : w.heap[w0.heap.size + 1]? = some (.cells c2 40 (0, 0))
theorem J2.next {w0 w w' : World} {c1 c2 : Array Value} (h : J2 w0 c1 c2 w) (hb : Below w.heap.size w w') : J2 w0 c1 c2 w' :=
  ⟨h.below.trans (hb.mono h.below.size), row_keep h.r1 hb, row_keep h.r2 hb⟩
theorem J3.drew {w0 w : World} {c1 c2 c3 : Array Value} (h : J3 w0 c1 c2 c3 w) : J3 w0 c1 c2 c3 w.drew := ⟨h.below.drew, h.r1, h.r2, h.r3⟩
theorem J3.put3 {w0 w : World} {c1 c2 c3 : Array Value} (h : J3 w0 c1 c2 c3 w) (c : Array Value) : Below w0.heap.size w0 (w.setRow (w0.heap.size + 2) c) ∧ (w.setRow (w0.heap.size + 2) c).heap[w0.heap.size + 2]? = some (.cells c 40 (0, 0)) :=
  ⟨below_setRow h.below (by omega) _, setRow_heap _ _ _ _ _ _ h.r3⟩
/-- What a call ends with that answers a state. -/
def StEnds (w : World) (n s h lo hi : Nat) (e : Ending) (w' : World) : Prop := e = .returned (.agg (T39 n (wd s) h lo hi)) ∧ Below w.heap.size w w'

theorem join_at0 : ∀ w : World, True := fun _ => trivial
set_option maxHeartbeats 4000000 in
theorem joinS_l (n1 s1 h1 lo1 hi1 n2 s2 h2 lo2 hi2 : Nat) (hA1 : (bits .and .u8 (h1 : Int) 8 != 0) = false) (w : World) :
    Calls Try.prog 26 #[.agg (T39 n1 (wd s1) h1 lo1 hi1), .agg (T39 n2 (wd s2) h2 lo2 hi2)] w (StEnds w n2 s2 h2 lo2 hi2) := by
  have HJ := Lib.hid (J3.start w (T39 n1 (wd s1) h1 lo1 hi1) (T39 n2 (wd s2) h2 lo2 hi2) (T39 0 (fun _ => 0) 0 0 0))
  go_enter Try.func26, Try.ntmps26
  go_wp2_with (first
    | (rw [zeros39]; refine wpList_load_sum rfl (.tmp 5) rfl w.heap.size rfl n1 (wd s1) h1 lo1 hi1 HJ.out.r1 ?_)
    | (go_at_call 19; (with_reducible refine (any_any s1 h1 _).mono ?_); rintro e w' ⟨rfl, hb⟩; rw [hA1]; have HK := Lib.hid (HJ.out.next hb); clear hb)
    | (refine wpList_load_row rfl 40 (.tmp 3) rfl (w.heap.size + 1) rfl _ (T39 n2 (wd s2) h2 lo2 hi2) (0, 0) _ HK.out.r2 uT rfl (iT _ _ _ _ _) ?_)
    | (refine wpList_store_row rfl 40 (.tmp 4) (.tmp 9) rfl (w.heap.size + 2) (T39 n2 (wd s2) h2 lo2 hi2) rfl rfl _ _ HK.out.r3 (iT _ _ _ _ _) (by rw [T39_size, T39_size]) (one39 _ _ _ _ _) ?_))
  have hp := HK.out.put3 (T39 n2 (wd s2) h2 lo2 hi2)
  exact post_row 4 40 Try.results26 rfl (w.heap.size + 2) 40 _ (0, 0) _ rfl hp.2 uT rfl (iT _ _ _ _ _) ⟨rfl, hp.1⟩
set_option maxHeartbeats 4000000 in
theorem joinS_r (n1 s1 h1 lo1 hi1 n2 s2 h2 lo2 hi2 : Nat) (hA1 : (bits .and .u8 (h1 : Int) 8 != 0) = true) (hA2 : (bits .and .u8 (h2 : Int) 8 != 0) = false) (w : World) :
    Calls Try.prog 26 #[.agg (T39 n1 (wd s1) h1 lo1 hi1), .agg (T39 n2 (wd s2) h2 lo2 hi2)] w (StEnds w n1 s1 h1 lo1 hi1) := by
  have HJ := Lib.hid (J3.start w (T39 n1 (wd s1) h1 lo1 hi1) (T39 n2 (wd s2) h2 lo2 hi2) (T39 0 (fun _ => 0) 0 0 0))
  go_enter Try.func26, Try.ntmps26
  go_wp2_with (first
    | (rw [zeros39]; refine wpList_load_sum rfl (.tmp 5) rfl w.heap.size rfl n1 (wd s1) h1 lo1 hi1 HJ.out.r1 ?_)
    | (refine wpList_load_sum rfl (.tmp 10) rfl (w.heap.size + 1) rfl n2 (wd s2) h2 lo2 hi2 HK.out.r2 ?_)
    | (go_at_call 19; (with_reducible refine (any_any s1 h1 _).mono ?_); rintro e w' ⟨rfl, hb⟩; rw [hA1]; have HK := Lib.hid (HJ.out.next hb); clear hb)
    | (go_at_call 19; (with_reducible refine (any_any s2 h2 _).mono ?_); rintro e w' ⟨rfl, hb⟩; rw [hA2]; have HL := Lib.hid (HK.out.next hb); clear hb)
    | (refine wpList_load_row rfl 40 (.tmp 2) rfl w.heap.size rfl _ (T39 n1 (wd s1) h1 lo1 hi1) (0, 0) _ HL.out.r1 uT rfl (iT _ _ _ _ _) ?_)
    | (refine wpList_store_row rfl 40 (.tmp 4) (.tmp 14) rfl (w.heap.size + 2) (T39 n1 (wd s1) h1 lo1 hi1) rfl rfl _ _ HL.out.r3 (iT _ _ _ _ _) (by rw [T39_size, T39_size]) (one39 _ _ _ _ _) ?_))
  have hp := HL.out.put3 (T39 n1 (wd s1) h1 lo1 hi1)
  exact post_row 4 40 Try.results26 rfl (w.heap.size + 2) 40 _ (0, 0) _ rfl hp.2 uT rfl (iT _ _ _ _ _) ⟨rfl, hp.1⟩

def minC (a b : Nat) : Nat := Fl.canon (Fl.minv (Fl.canon a) (Fl.canon b))
def maxC (a b : Nat) : Nat := Fl.canon (Fl.maxv (Fl.canon a) (Fl.canon b))
theorem minv_lt {a b : Nat} (ha : a < 18446744073709551616) (hb : b < 18446744073709551616) : Fl.minv (Fl.canon a) (Fl.canon b) < 18446744073709551616 := by
  unfold Fl.minv; split <;> exact Fl.canon_lt _ (Fl.canon_lt _ (by assumption))
theorem maxv_lt {a b : Nat} (ha : a < 18446744073709551616) (hb : b < 18446744073709551616) : Fl.maxv (Fl.canon a) (Fl.canon b) < 18446744073709551616 := by
  unfold Fl.maxv; split <;> exact Fl.canon_lt _ (Fl.canon_lt _ (by assumption))
theorem minC_eq (a b : Nat) : minC a b = Fl.canon (Fl.minv (Fl.canon a) (Fl.canon b)) := rfl
theorem maxC_eq (a b : Nat) : maxC a b = Fl.canon (Fl.maxv (Fl.canon a) (Fl.canon b)) := rfl
theorem bitsMin {a b : Nat} (ha : a < 18446744073709551616) (hb : b < 18446744073709551616) (w : World) : Calls Try.prog 59 #[.float .f64 (Fl.minv (Fl.canon a) (Fl.canon b))] w fun e w' => e = .returned (.int .u64 (minC a b : Nat)) ∧ w = w' := bits_any _ (minv_lt ha hb) w
theorem bitsMax {a b : Nat} (ha : a < 18446744073709551616) (hb : b < 18446744073709551616) (w : World) : Calls Try.prog 59 #[.float .f64 (Fl.maxv (Fl.canon a) (Fl.canon b))] w fun e w' => e = .returned (.int .u64 (maxC a b : Nat)) ∧ w = w' := bits_any _ (maxv_lt ha hb) w
attribute [irreducible] minC maxC
set_option maxHeartbeats 8000000 in
theorem joinS_b (n1 s1 h1 lo1 hi1 n2 s2 h2 lo2 hi2 : Nat) (k0 : n1 + n2 < 18446744073709551616) (k1 : lo1 < 18446744073709551616) (k2 : lo2 < 18446744073709551616) (k3 : hi1 < 18446744073709551616) (k4 : hi2 < 18446744073709551616) (q1 : h1 < 256) (q2 : h2 < 256)
    (hA1 : (bits .and .u8 (h1 : Int) 8 != 0) = true) (hA2 : (bits .and .u8 (h2 : Int) 8 != 0) = true) (w : World) :
    Calls Try.prog 26 #[.agg (T39 n1 (wd s1) h1 lo1 hi1), .agg (T39 n2 (wd s2) h2 lo2 hi2)] w (StEnds w (n1 + n2) ((s1 + s2) % top) (h1 ||| h2) (minC lo1 lo2) (maxC hi1 hi2)) := by
  have hadd : ∀ w : World, (binOp .add 24 (.int .u64 (n1 : Int)) (.int .u64 (n2 : Int))).run Try.prog w = .ok (.int .u64 ((n1 + n2 : Nat) : Int)) w := fun w => by
    have e : IntKind.u64.wrap ((n1 : Int) + (n2 : Int)) = ((n1 + n2 : Nat) : Int) := by rw [IntKind.wrap_u64]; omega
    rw [← e]; rfl
  have HJ := Lib.hid (J3.start w (T39 n1 (wd s1) h1 lo1 hi1) (T39 n2 (wd s2) h2 lo2 hi2) (T39 0 (fun _ => 0) 0 0 0))
  go_enter Try.func26, Try.ntmps26
  go_wp2_with (first
    | (rw [zeros39]; refine wpList_load_sum rfl (.tmp 5) rfl w.heap.size rfl n1 (wd s1) h1 lo1 hi1 HJ.out.r1 ?_)
    | (refine wpList_load_sum rfl (.tmp 10) rfl (w.heap.size + 1) rfl n2 (wd s2) h2 lo2 hi2 HK.out.r2 ?_)
    | (go_at_call 19; (with_reducible refine (any_any s1 h1 _).mono ?_); rintro e w' ⟨rfl, hb⟩; rw [hA1]; have HK := Lib.hid (HJ.out.next hb); clear hb)
    | (go_at_call 19; (with_reducible refine (any_any s2 h2 _).mono ?_); rintro e w' ⟨rfl, hb⟩; rw [hA2]; have HL := Lib.hid (HK.out.next hb); clear hb))
  refine wp_region_held_drew (S := J2 w (T39 n1 (wd s1) h1 lo1 hi1) (T39 n2 (wd s2) h2 lo2 hi2)) (by kernel_rfl) ⟨HL.out.drew.below, HL.out.drew.r1, HL.out.drew.r2⟩ (fun hHeld => ?_)
  have HR3 := HL.out.drew.r3
  refine wpAnyH_take (i := 0) (v := .pointer (some ⟨w.heap.size, 0, none⟩)) rfl (by kernel_rfl) (by kernel_rfl) (by kernel_rfl) (fun _ _ _ h => h) (Or.inl ⟨by rfl, fun w _ => by first | rfl | go_simp⟩) hHeld ?_
  try dsimp only
  try simp only [Act.put, List.getElem_toArray, List.getElem_cons_zero, List.getElem_cons_succ, List.setIfInBounds_toArray, List.set_cons_zero, List.set_cons_succ]
  refine wpAnyH_take (i := 1) (v := .int .u64 (n1 : Int)) rfl (by kernel_rfl) (by kernel_rfl) (by kernel_rfl) (fun _ _ _ h => h) (yb_u64 rfl (.tmp 15) rfl w.heap.size 0 rfl _ (fun w' hw' => StAt.c0 hw'.r1)) hHeld ?_
  try dsimp only
  try simp only [Act.put, List.getElem_toArray, List.getElem_cons_zero, List.getElem_cons_succ, List.setIfInBounds_toArray, List.set_cons_zero, List.set_cons_succ]
  refine wpAnyH_take (i := 2) (v := .pointer (some ⟨w.heap.size + 1, 0, none⟩)) rfl (by kernel_rfl) (by kernel_rfl) (by kernel_rfl) (fun _ _ _ h => h) (Or.inl ⟨by rfl, fun w _ => by first | rfl | go_simp⟩) hHeld ?_
  try dsimp only
  try simp only [Act.put, List.getElem_toArray, List.getElem_cons_zero, List.getElem_cons_succ, List.setIfInBounds_toArray, List.set_cons_zero, List.set_cons_succ]
  refine wpAnyH_take (i := 3) (v := .int .u64 (n2 : Int)) rfl (by kernel_rfl) (by kernel_rfl) (by kernel_rfl) (fun _ _ _ h => h) (yb_u64 rfl (.tmp 17) rfl (w.heap.size + 1) 0 rfl _ (fun w' hw' => StAt.c0 hw'.r2)) hHeld ?_
  try dsimp only
  try simp only [Act.put, List.getElem_toArray, List.getElem_cons_zero, List.getElem_cons_succ, List.setIfInBounds_toArray, List.set_cons_zero, List.set_cons_succ]
  refine wpAnyH_take (i := 4) (v := .int .u64 ((n1 + n2 : Nat) : Int)) rfl (by kernel_rfl) (by kernel_rfl) (by kernel_rfl) (fun _ _ _ h => h) (yb_bin rfl .add _ _ _ _ rfl _ _ _ rfl rfl (fun _ => rfl) hadd) hHeld ?_
  try dsimp only
  try simp only [Act.put, List.getElem_toArray, List.getElem_cons_zero, List.getElem_cons_succ, List.setIfInBounds_toArray, List.set_cons_zero, List.set_cons_succ]
  refine wpAnyH_take (i := 5) (v := .pointer (some ⟨w.heap.size, 1, none⟩)) rfl (by kernel_rfl) (by kernel_rfl) (by kernel_rfl) (fun _ _ _ h => h) (Or.inl ⟨by rfl, fun w _ => by first | rfl | go_simp⟩) hHeld ?_
  try dsimp only
  try simp only [Act.put, List.getElem_toArray, List.getElem_cons_zero, List.getElem_cons_succ, List.setIfInBounds_toArray, List.set_cons_zero, List.set_cons_succ]
  refine wpAnyH_take (i := 6) (v := .agg (P36 (wd s1) h1)) rfl (by kernel_rfl) (by kernel_rfl) (by kernel_rfl) (fun _ _ _ h => h) (yb_load_sum rfl (.tmp 20) rfl w.heap.size rfl n1 (wd s1) h1 lo1 hi1 (fun w' hw' => hw'.r1)) hHeld ?_
  try dsimp only
  try simp only [Act.put, List.getElem_toArray, List.getElem_cons_zero, List.getElem_cons_succ, List.setIfInBounds_toArray, List.set_cons_zero, List.set_cons_succ]
  refine wpAnyH_take (i := 7) (v := .pointer (some ⟨w.heap.size + 1, 1, none⟩)) rfl (by kernel_rfl) (by kernel_rfl) (by kernel_rfl) (fun _ _ _ h => h) (Or.inl ⟨by rfl, fun w _ => by first | rfl | go_simp⟩) hHeld ?_
  try dsimp only
  try simp only [Act.put, List.getElem_toArray, List.getElem_cons_zero, List.getElem_cons_succ, List.setIfInBounds_toArray, List.set_cons_zero, List.set_cons_succ]
  refine wpAnyH_take (i := 8) (v := .agg (P36 (wd s2) h2)) rfl (by kernel_rfl) (by kernel_rfl) (by kernel_rfl) (fun _ _ _ h => h) (yb_load_sum rfl (.tmp 22) rfl (w.heap.size + 1) rfl n2 (wd s2) h2 lo2 hi2 (fun w' hw' => hw'.r2)) hHeld ?_
  try dsimp only
  try simp only [Act.put, List.getElem_toArray, List.getElem_cons_zero, List.getElem_cons_succ, List.setIfInBounds_toArray, List.set_cons_zero, List.set_cons_succ]
  refine wpAnyH_take (i := 10) (v := .pointer (some ⟨w.heap.size, 37, none⟩)) rfl (by kernel_rfl) (by kernel_rfl) (by kernel_rfl) (fun _ _ _ h => h) (Or.inl ⟨by rfl, fun w _ => by first | rfl | go_simp⟩) hHeld ?_
  try dsimp only
  try simp only [Act.put, List.getElem_toArray, List.getElem_cons_zero, List.getElem_cons_succ, List.setIfInBounds_toArray, List.set_cons_zero, List.set_cons_succ]
  refine wpAnyH_take (i := 11) (v := .int .u64 (lo1 : Int)) rfl (by kernel_rfl) (by kernel_rfl) (by kernel_rfl) (fun _ _ _ h => h) (yb_u64 rfl (.tmp 25) rfl w.heap.size 37 rfl _ (fun w' hw' => StAt.c2 hw'.r1)) hHeld ?_
  try dsimp only
  try simp only [Act.put, List.getElem_toArray, List.getElem_cons_zero, List.getElem_cons_succ, List.setIfInBounds_toArray, List.set_cons_zero, List.set_cons_succ]
  refine wpAnyH_take (i := 13) (v := .pointer (some ⟨w.heap.size + 1, 37, none⟩)) rfl (by kernel_rfl) (by kernel_rfl) (by kernel_rfl) (fun _ _ _ h => h) (Or.inl ⟨by rfl, fun w _ => by first | rfl | go_simp⟩) hHeld ?_
  try dsimp only
  try simp only [Act.put, List.getElem_toArray, List.getElem_cons_zero, List.getElem_cons_succ, List.setIfInBounds_toArray, List.set_cons_zero, List.set_cons_succ]
  refine wpAnyH_take (i := 14) (v := .int .u64 (lo2 : Int)) rfl (by kernel_rfl) (by kernel_rfl) (by kernel_rfl) (fun _ _ _ h => h) (yb_u64 rfl (.tmp 28) rfl (w.heap.size + 1) 37 rfl _ (fun w' hw' => StAt.c2 hw'.r2)) hHeld ?_
  try dsimp only
  try simp only [Act.put, List.getElem_toArray, List.getElem_cons_zero, List.getElem_cons_succ, List.setIfInBounds_toArray, List.set_cons_zero, List.set_cons_succ]
  refine wpAnyH_take (i := 18) (v := .pointer (some ⟨w.heap.size, 38, none⟩)) rfl (by kernel_rfl) (by kernel_rfl) (by kernel_rfl) (fun _ _ _ h => h) (Or.inl ⟨by rfl, fun w _ => by first | rfl | go_simp⟩) hHeld ?_
  try dsimp only
  try simp only [Act.put, List.getElem_toArray, List.getElem_cons_zero, List.getElem_cons_succ, List.setIfInBounds_toArray, List.set_cons_zero, List.set_cons_succ]
  refine wpAnyH_take (i := 19) (v := .int .u64 (hi1 : Int)) rfl (by kernel_rfl) (by kernel_rfl) (by kernel_rfl) (fun _ _ _ h => h) (yb_u64 rfl (.tmp 33) rfl w.heap.size 38 rfl _ (fun w' hw' => StAt.c3 hw'.r1)) hHeld ?_
  try dsimp only
  try simp only [Act.put, List.getElem_toArray, List.getElem_cons_zero, List.getElem_cons_succ, List.setIfInBounds_toArray, List.set_cons_zero, List.set_cons_succ]
  refine wpAnyH_take (i := 21) (v := .pointer (some ⟨w.heap.size + 1, 38, none⟩)) rfl (by kernel_rfl) (by kernel_rfl) (by kernel_rfl) (fun _ _ _ h => h) (Or.inl ⟨by rfl, fun w _ => by first | rfl | go_simp⟩) hHeld ?_
  try dsimp only
  try simp only [Act.put, List.getElem_toArray, List.getElem_cons_zero, List.getElem_cons_succ, List.setIfInBounds_toArray, List.set_cons_zero, List.set_cons_succ]
  refine wpAnyH_take (i := 22) (v := .int .u64 (hi2 : Int)) rfl (by kernel_rfl) (by kernel_rfl) (by kernel_rfl) (fun _ _ _ h => h) (yb_u64 rfl (.tmp 36) rfl (w.heap.size + 1) 38 rfl _ (fun w' hw' => StAt.c3 hw'.r2)) hHeld ?_
  try dsimp only
  try simp only [Act.put, List.getElem_toArray, List.getElem_cons_zero, List.getElem_cons_succ, List.setIfInBounds_toArray, List.set_cons_zero, List.set_cons_succ]
  refine wpAnyH_ready (rs := [9]) (by kernel_rfl) (by simp) (AllReadyH.cons rfl (fun K hK => ?_) AllReadyH.nil)
  go_simp
  refine (join_any s1 s2 h1 h2 q1 q2 _).mono ?_
  rintro e w9 ⟨rfl, hb9⟩
  replace hHeld := hHeld.next hb9
  replace HR3 := row_keep HR3 hb9
  refine hK.out _ _ hHeld (fun hHeld => ?_)
  clear hK K
  try dsimp only
  try simp only [Act.put, List.getElem_toArray, List.getElem_cons_zero, List.getElem_cons_succ, List.setIfInBounds_toArray, List.set_cons_zero, List.set_cons_succ]
  refine wpAnyH_ready (rs := [12]) (by kernel_rfl) (by simp) (AllReadyH.cons rfl (fun K hK => ?_) AllReadyH.nil)
  go_simp
  refine (of_any lo1 k1 _).mono ?_
  rintro e w' ⟨rfl, rfl⟩
  refine hK.out _ _ hHeld (fun hHeld => ?_)
  clear hK K
  try dsimp only
  try simp only [Act.put, List.getElem_toArray, List.getElem_cons_zero, List.getElem_cons_succ, List.setIfInBounds_toArray, List.set_cons_zero, List.set_cons_succ]
  refine wpAnyH_ready (rs := [15]) (by kernel_rfl) (by simp) (AllReadyH.cons rfl (fun K hK => ?_) AllReadyH.nil)
  go_simp
  refine (of_any lo2 k2 _).mono ?_
  rintro e w' ⟨rfl, rfl⟩
  refine hK.out _ _ hHeld (fun hHeld => ?_)
  clear hK K
  try dsimp only
  try simp only [Act.put, List.getElem_toArray, List.getElem_cons_zero, List.getElem_cons_succ, List.setIfInBounds_toArray, List.set_cons_zero, List.set_cons_succ]
  refine wpAnyH_ready (rs := [16]) (by kernel_rfl) (by simp) (AllReadyH.cons rfl (fun K hK => ?_) AllReadyH.nil)
  go_simp
  refine (min_any _ _ (Fl.canon_lt _ k1) (Fl.canon_lt _ k2) _).mono ?_
  rintro e w' ⟨rfl, rfl⟩
  refine hK.out _ _ hHeld (fun hHeld => ?_)
  clear hK K
  try dsimp only
  try simp only [Act.put, List.getElem_toArray, List.getElem_cons_zero, List.getElem_cons_succ, List.setIfInBounds_toArray, List.set_cons_zero, List.set_cons_succ]
  refine wpAnyH_ready (rs := [17]) (by kernel_rfl) (by simp) (AllReadyH.cons rfl (fun K hK => ?_) AllReadyH.nil)
  go_simp
  refine (bitsMin k1 k2 _).mono ?_
  rintro e w' ⟨rfl, rfl⟩
  refine hK.out _ _ hHeld (fun hHeld => ?_)
  clear hK K
  try dsimp only
  try simp only [Act.put, List.getElem_toArray, List.getElem_cons_zero, List.getElem_cons_succ, List.setIfInBounds_toArray, List.set_cons_zero, List.set_cons_succ]
  refine wpAnyH_ready (rs := [20]) (by kernel_rfl) (by simp) (AllReadyH.cons rfl (fun K hK => ?_) AllReadyH.nil)
  go_simp
  refine (of_any hi1 k3 _).mono ?_
  rintro e w' ⟨rfl, rfl⟩
  refine hK.out _ _ hHeld (fun hHeld => ?_)
  clear hK K
  try dsimp only
  try simp only [Act.put, List.getElem_toArray, List.getElem_cons_zero, List.getElem_cons_succ, List.setIfInBounds_toArray, List.set_cons_zero, List.set_cons_succ]
  refine wpAnyH_ready (rs := [23]) (by kernel_rfl) (by simp) (AllReadyH.cons rfl (fun K hK => ?_) AllReadyH.nil)
  go_simp
  refine (of_any hi2 k4 _).mono ?_
  rintro e w' ⟨rfl, rfl⟩
  refine hK.out _ _ hHeld (fun hHeld => ?_)
  clear hK K
  try dsimp only
  try simp only [Act.put, List.getElem_toArray, List.getElem_cons_zero, List.getElem_cons_succ, List.setIfInBounds_toArray, List.set_cons_zero, List.set_cons_succ]
  refine wpAnyH_ready (rs := [24]) (by kernel_rfl) (by simp) (AllReadyH.cons rfl (fun K hK => ?_) AllReadyH.nil)
  go_simp
  refine (max_any _ _ (Fl.canon_lt _ k3) (Fl.canon_lt _ k4) _).mono ?_
  rintro e w' ⟨rfl, rfl⟩
  refine hK.out _ _ hHeld (fun hHeld => ?_)
  clear hK K
  try dsimp only
  try simp only [Act.put, List.getElem_toArray, List.getElem_cons_zero, List.getElem_cons_succ, List.setIfInBounds_toArray, List.set_cons_zero, List.set_cons_succ]
  refine wpAnyH_ready (rs := [25]) (by kernel_rfl) (by simp) (AllReadyH.cons rfl (fun K hK => ?_) AllReadyH.nil)
  go_simp
  refine (bitsMax k3 k4 _).mono ?_
  rintro e w' ⟨rfl, rfl⟩
  refine hK.out _ _ hHeld (fun hHeld => ?_)
  clear hK K
  try dsimp only
  try simp only [Act.put, List.getElem_toArray, List.getElem_cons_zero, List.getElem_cons_succ, List.setIfInBounds_toArray, List.set_cons_zero, List.set_cons_succ]
  refine wpAnyH_take (i := 26) (v := .agg (T39 (n1 + n2) (wd ((s1 + s2) % top)) (h1 ||| h2) (minC lo1 lo2) (maxC hi1 hi2))) rfl (by kernel_rfl) (by kernel_rfl) (by kernel_rfl) (fun _ _ _ h => h) (yb_build39 rfl _ _ _ _ rfl (n1 + n2) (wd ((s1 + s2) % top)) (h1 ||| h2) (minC lo1 lo2) (maxC hi1 hi2) rfl rfl rfl rfl) hHeld ?_
  try dsimp only
  try simp only [Act.put, List.getElem_toArray, List.getElem_cons_zero, List.getElem_cons_succ, List.setIfInBounds_toArray, List.set_cons_zero, List.set_cons_succ]
  refine wpAnyH_ready (rs := [27]) (by kernel_rfl) (by simp) (AllReadyH.cons rfl (fun K hK => ?_) AllReadyH.nil)
  rw [if_pos (by rfl)]
  have hp := J3.put3 ⟨hHeld.below, hHeld.r1, hHeld.r2, HR3⟩ (T39 (n1 + n2) (wd ((s1 + s2) % top)) (h1 ||| h2) (minC lo1 lo2) (maxC hi1 hi2))
  refine wp_store_row 40 (.tmp 4) (.tmp 41) rfl (w.heap.size + 2) (T39 (n1 + n2) (wd ((s1 + s2) % top)) (h1 ||| h2) (minC lo1 lo2) (maxC hi1 hi2)) rfl rfl _ _ HR3 (iT _ _ _ _ _) (by rw [T39_size, T39_size]) (one39 _ _ _ _ _) ?_
  refine hK.out _ _ ?_ (fun _ => ?_)
  · exact ⟨hp.1, (setRow_other _ _ _ _ (by omega)).trans hHeld.r1, (setRow_other _ _ _ _ (by omega)).trans hHeld.r2⟩
  clear hK K
  refine wpAnyH_done (by kernel_rfl) ?_ _
  go_wp2
  exact post_row 4 40 Try.results26 rfl (w.heap.size + 2) 40 _ (0, 0) _ rfl hp.2 uT rfl (iT _ _ _ _ _) ⟨rfl, hp.1⟩

end Go.Proofs.Ythklamgdoknmeaa
