/-
  Layer segment: the contract of check.
-/
import Derived.BigRegion
import Derived.Deep.CutBlock
import Derived.Deep.RegionHeld
import Derived.Test.YtifabkbdiiolfaaDoorYaK
open List renaming getElem_toArray → qz0, getElem_cons_zero → qz1, getElem_cons_succ → qz2, setIfInBounds_toArray → qz3, set_cons_zero → qz4, set_cons_succ → qz5
set_option linter.unusedSimpArgs false
set_option linter.unusedVariables false
set_option maxRecDepth 8000
namespace Go.Proofs.YtifabkbdiiolfaaDoor
open Go.RowKit Go.WideShapes
/-- The first fault of events that are to follow one another. -/
def chkL (p : Int) : Option Nat → List Ev → Nat
 | _, [] => 0
 | o, x :: r => if formB x p = true then (match o with | none => chkL p (some x.off) r | some y => if x.off = y + 1 then chkL p (some x.off) r else 8) else 3
def prevO (l : List Ev) (k : Nat) : Option Nat := if k = 0 then none else (l[k - 1]?).map Ev.off
theorem prevO_succ {l : List Ev} {k : Nat} {x : Ev} (hx : l[k]? = some x) : prevO l (k + 1) = some x.off := by
 unfold prevO; rw [if_neg (by omega), Nat.add_sub_cancel, hx]; rfl
theorem drop_at {l : List Ev} {k : Nat} {x : Ev} (hx : l[k]? = some x) : l.drop k = x :: l.drop (k + 1) := by
 obtain ⟨h, rfl⟩ := List.getElem?_eq_some_iff.1 hx
 exact List.drop_eq_getElem_cons h
theorem lv_u64S (w : World) (g j : Nat) (v : Value) (h : w.cell? ⟨g, j, none⟩ = some v) : (loadVar 31 ⟨g, j, none⟩).run Tryd.prog w = .ok v w := by
 go_simp
theorem yl_u64S {ops : Array Oper} {S : World → Prop} {op : Oper} {a : Act} (hw : Region.wanted op (yielded ops a.tmps) = true) (x : Operand) (ho : op.op = .load 31 x) (g j : Nat) (hx : a.eval x = .pointer (some ⟨g, j, none⟩)) (v : Value)
  (hS : ∀ w, S w → w.cell? ⟨g, j, none⟩ = some v) : YieldsIf Tryd.prog ops S op v a :=
 .inl ⟨hw, fun w hw' => by
  unfold execOp
  simp only [ho, hx, Instr.loadAt, Instr.sureAddr, Sem.run_bind, Sem.run_pure, Result.andThen_ok, lv_u64S w g j v (hS w hw')]⟩
theorem evA_row {w : World} {g : Nat} {x : Ev} (h : w.heap[g]? = some (.cells #[.int .u64 (x.off : Int), .int .i64 x.part, .int .i64 x.time, .string x.key, .float .f64 x.val] 34 (0, 0))) : w.cell? ⟨g, 0, none⟩ = some (.int .u64 (x.off : Int)) ∧ w.cell? ⟨g, 1, none⟩ = some (.int .i64 x.part) ∧ w.cell? ⟨g, 2, none⟩ = some (.int .i64 x.time) ∧ w.cell? ⟨g, 3, none⟩ = some (.string x.key) ∧ w.cell? ⟨g, 4, none⟩ = some (.float .f64 x.val) :=
 ⟨by rw [cell_of_row _ _ _ _ _ _ h]; rfl, by rw [cell_of_row _ _ _ _ _ _ h]; rfl, by rw [cell_of_row _ _ _ _ _ _ h]; rfl, by rw [cell_of_row _ _ _ _ _ _ h]; rfl, by rw [cell_of_row _ _ _ _ _ _ h]; rfl⟩
theorem row_keepS {w w' : World} {g : Nat} {o : Obj} (h : w.heap[g]? = some o) (hb : Below w.heap.size w w') : w'.heap[g]? = some o := (hb.block g (Array.getElem?_eq_some_iff.1 h).1).trans h
theorem iEvS (x : Ev) : (Tryd.prog.info? 34).map (·.size) = some (#[.int .u64 (x.off : Int), .int .i64 x.part, .int .i64 x.time, .string x.key, .float .f64 x.val] : Array Value).size := by kernel_rfl
theorem oneEvS (x : Ev) : (#[.int .u64 (x.off : Int), .int .i64 x.part, .int .i64 x.time, .string x.key, .float .f64 x.val] : Array Value).all (·.oneCell') = true := by simp [Value.oneCell']
theorem below_setRowS {B : Nat} {a w : World} (h : Below B a w) {g : Nat} (hg : B ≤ g) (cs : Array Value) : Below B a (w.setRow g cs) :=
 h.trans ⟨rfl, rfl, rfl, by simp, fun k hk => setRow_other w g k cs (by omega)⟩
set_option maxHeartbeats 4000000 in
theorem chk_any (a : Option Addr) (n c : Nat) (l : List Ev) (hn : Hid (n = l.length)) (hn9 : n ≤ 1100) (p : Int) (W : World) (HE : Hid (EvAt W a l)) :
  Calls Tryd.prog 9 #[.slice a n c, .int .i64 p] W fun e w' => e = .returned (.int .i64 ((chkL p none l : Nat) : Int)) ∧ Below W.heap.size W w' := by
 go_enter Tryd.func9, Tryd.ntmps9
 go_wp2
 go_loopw [9] (fun i wr => ∃ k : Nat, k ≤ n ∧ i = .int .i64 (k : Int) ∧ Hid (Below W.heap.size W wr) ∧ Hid (chkL p none l = chkL p (prevO l k) (l.drop k)) ∧ Hid (∀ j x, j < k → l[j]? = some x → formB x p = true)) (fun i _ => n - (intOf i).toNat)
 case atStart => exact ⟨0, by omega, rfl, Below.refl _ _, rfl, fun j x h => absurd h (by omega)⟩
 case round =>
  obtain ⟨k, hk, rfl, HB, HC, HF⟩ := hrel
  by_cases hlt : k < n
  ·obtain ⟨x, hx⟩ : ∃ x, l[k]? = some x := ⟨l[k]'(by have := hn.out; omega), List.getElem?_eq_getElem _⟩
   obtain ⟨g, off, rfl, hg, hr⟩ := evr (HE.out.keep HB.out) k x hx
   have HX := Lib.hid hr
   have HC2 : Hid (chkL p none l = if formB x p = true then (match prevO l k with | none => chkL p (some x.off) (l.drop (k + 1)) | some y => if x.off = y + 1 then chkL p (some x.off) (l.drop (k + 1)) else 8) else 3) := Lib.hid (by rw [HC.out, drop_at hx]; rfl)
   have HR0 : Hid ((wr.alloc (.cells #[.int .u64 (x.off : Int), .int .i64 x.part, .int .i64 x.time, .string x.key, .float .f64 x.val] 34)).heap[wr.heap.size]? = some (.cells #[.int .u64 (x.off : Int), .int .i64 x.part, .int .i64 x.time, .string x.key, .float .f64 x.val] 34 (0, 0))) := Lib.hid (heap_alloc_new' wr _)
   have HB0 : Hid (Below W.heap.size W (wr.alloc (.cells #[.int .u64 (x.off : Int), .int .i64 x.part, .int .i64 x.time, .string x.key, .float .f64 x.val] 34))) := Lib.hid (HB.out.alloc HB.out.size _)
   have HHX := Lib.hid hx
   have hlti : (k : Int) < (n : Int) := by omega
   clear hr hg hx
   rcases hf : formB x p with _ | _
   ·have HFM := Lib.hid hf
    have HC3 : Hid (chkL p none l = 3) := Lib.hid (by rw [HC2.out, hf]; rfl)
    clear hf HC2
    go_wp2_with (first
     | (refine wpList_load_mid rfl 34 (.tmp 12) rfl g (off + k * 5) rfl [.int .u64 (x.off : Int), .int .i64 x.part, .int .i64 x.time, .string x.key, .float .f64 x.val] _ HX.out uEvent rfl (iEvent x) ?_)
     | (refine wpList_store_row rfl 34 (.tmp 6) (.tmp 13) rfl wr.heap.size #[.int .u64 (x.off : Int), .int .i64 x.part, .int .i64 x.time, .string x.key, .float .f64 x.val] rfl rfl _ _ (heap_alloc_new' _ _) (iEvS x) (sizeEvB x) (oneEvS x) ?_; rw [World.setRow_alloc_new])
     | (refine wpList_load_row rfl 34 (.tmp 6) rfl wr.heap.size rfl _ #[.int .u64 (x.off : Int), .int .i64 x.part, .int .i64 x.time, .string x.key, .float .f64 x.val] (0, 0) _ HR0.out uEvent rfl (iEvS x) ?_)
     | (go_at_call 29; go_loud ((with_reducible refine (form_any x p _).mono ?_); rintro e w2 ⟨rfl, hb⟩; rw [HFM.out]; have HB2 := Lib.hid (below_to HB0.out hb); clear hb)))
    go_ret
    exact ⟨by rw [HC3.out]; rfl, HB2.out⟩
   ·have HFM := Lib.hid hf
    have HF2 : Hid (∀ j x, j < k + 1 → l[j]? = some x → formB x p = true) := Lib.hid fun j z hj hz => by
     by_cases e : j = k
     ·subst e; have e2 := HHX.out; rw [e2] at hz; injection hz with hz; rw [← hz]; exact HFM.out
     ·exact HF.out j z (by omega) hz
    have HC3 : Hid (chkL p none l = match prevO l k with | none => chkL p (some x.off) (l.drop (k + 1)) | some y => if x.off = y + 1 then chkL p (some x.off) (l.drop (k + 1)) else 8) := Lib.hid (by rw [HC2.out, hf]; rfl)
    clear hf HC2
    go_upto_region 6 with (first
     | (refine wpList_load_mid rfl 34 (.tmp 12) rfl g (off + k * 5) rfl [.int .u64 (x.off : Int), .int .i64 x.part, .int .i64 x.time, .string x.key, .float .f64 x.val] _ HX.out uEvent rfl (iEvent x) ?_)
     | (refine wpList_store_row rfl 34 (.tmp 6) (.tmp 13) rfl wr.heap.size #[.int .u64 (x.off : Int), .int .i64 x.part, .int .i64 x.time, .string x.key, .float .f64 x.val] rfl rfl _ _ (heap_alloc_new' _ _) (iEvS x) (sizeEvB x) (oneEvS x) ?_; rw [World.setRow_alloc_new])
     | (refine wpList_load_row rfl 34 (.tmp 6) rfl wr.heap.size rfl _ #[.int .u64 (x.off : Int), .int .i64 x.part, .int .i64 x.time, .string x.key, .float .f64 x.val] (0, 0) _ HR0.out uEvent rfl (iEvS x) ?_)
     | (go_at_call 29; (with_reducible refine (form_any x p _).mono ?_); rintro e w2 ⟨rfl, hb⟩; rw [HFM.out]; have HB2 := Lib.hid (below_to HB0.out hb); have HR2 := Lib.hid (row_keepS HR0.out hb); clear hb))
    obtain ⟨b6, hb6e⟩ : ∃ b6, b6 = wr.heap.size := ⟨_, rfl⟩
    rw [← hb6e] at HR2 ⊢
    obtain ⟨w3, hw3⟩ : ∃ w3, w3 = w2.drew := ⟨_, rfl⟩
    have HB3 : Hid (Below W.heap.size W w3) := Lib.hid (by rw [hw3]; exact HB2.out.drew)
    have hr6 : w3.heap[b6]? = some (.cells #[.int .u64 (x.off : Int), .int .i64 x.part, .int .i64 x.time, .string x.key, .float .f64 x.val] 34 (0, 0)) := by rw [hw3]; exact HR2.out
    have hb6 : b6 < w3.heap.size := (Array.getElem?_eq_some_iff.1 hr6).1
    have hc6 := (evA_row hr6).1
    refine wp_region_held_drew (S := Below w3.heap.size w3) (by kernel_rfl) (by rw [← hw3]; exact Below.refl _ _) (fun hHeld => ?_)
    rw [← hw3] at hHeld ⊢
    clear hw3 HB2 HR2 hb6e
    by_cases hk0 : k = 0
    ·subst hk0
     have HC4 : Hid (chkL p none l = chkL p (prevO l (0 + 1)) (l.drop (0 + 1))) := Lib.hid (by rw [HC3.out, prevO_succ HHX.out]; rfl)
     refine wpAnyH_take (i := 0) (v := .int .i64 0) rfl (by kernel_rfl) (by kernel_rfl) (by kernel_rfl) (fun _ _ _ h => h) (Or.inl ⟨by rfl, fun w _ => by first | rfl | go_simp⟩) hHeld ?_
     try dsimp only
     try simp only [Act.put, qz0, qz1, qz2, qz3, qz4, qz5]
     refine wpAnyH_take (i := 1) (v := .bool false) rfl (by kernel_rfl) (by kernel_rfl) (by kernel_rfl) (fun _ _ _ h => h) (Or.inl ⟨by rfl, fun w _ => by first | rfl | go_simp⟩) hHeld ?_
     try dsimp only
     try simp only [Act.put, qz0, qz1, qz2, qz3, qz4, qz5]
     refine wpAnyH_take (i := 2) (v := .bool false) rfl (by kernel_rfl) (by kernel_rfl) (by kernel_rfl) (fun _ _ _ h => h) (Or.inl ⟨by rfl, fun w _ => by first | rfl | go_simp⟩) hHeld ?_
     try dsimp only
     try simp only [Act.put, qz0, qz1, qz2, qz3, qz4, qz5]
     refine wpAnyH_take (i := 3) (v := undef) rfl (by kernel_rfl) (by kernel_rfl) (by kernel_rfl) (fun _ _ _ h => h) (Or.inr ⟨by rfl, rfl⟩) hHeld ?_
     try dsimp only
     try simp only [Act.put, qz0, qz1, qz2, qz3, qz4, qz5]
     refine wpAnyH_take (i := 4) (v := undef) rfl (by kernel_rfl) (by kernel_rfl) (by kernel_rfl) (fun _ _ _ h => h) (Or.inr ⟨by rfl, rfl⟩) hHeld ?_
     try dsimp only
     try simp only [Act.put, qz0, qz1, qz2, qz3, qz4, qz5]
     refine wpAnyH_take (i := 5) (v := undef) rfl (by kernel_rfl) (by kernel_rfl) (by kernel_rfl) (fun _ _ _ h => h) (Or.inr ⟨by rfl, rfl⟩) hHeld ?_
     try dsimp only
     try simp only [Act.put, qz0, qz1, qz2, qz3, qz4, qz5]
     refine wpAnyH_take (i := 6) (v := undef) rfl (by kernel_rfl) (by kernel_rfl) (by kernel_rfl) (fun _ _ _ h => h) (Or.inr ⟨by rfl, rfl⟩) hHeld ?_
     try dsimp only
     try simp only [Act.put, qz0, qz1, qz2, qz3, qz4, qz5]
     refine wpAnyH_take (i := 7) (v := undef) rfl (by kernel_rfl) (by kernel_rfl) (by kernel_rfl) (fun _ _ _ h => h) (Or.inr ⟨by rfl, rfl⟩) hHeld ?_
     try dsimp only
     try simp only [Act.put, qz0, qz1, qz2, qz3, qz4, qz5]
     refine wpAnyH_take (i := 8) (v := undef) rfl (by kernel_rfl) (by kernel_rfl) (by kernel_rfl) (fun _ _ _ h => h) (Or.inr ⟨by rfl, rfl⟩) hHeld ?_
     try dsimp only
     try simp only [Act.put, qz0, qz1, qz2, qz3, qz4, qz5]
     refine wpAnyH_take (i := 9) (v := undef) rfl (by kernel_rfl) (by kernel_rfl) (by kernel_rfl) (fun _ _ _ h => h) (Or.inr ⟨by rfl, rfl⟩) hHeld ?_
     try dsimp only
     try simp only [Act.put, qz0, qz1, qz2, qz3, qz4, qz5]
     refine wpAnyH_take (i := 10) (v := undef) rfl (by kernel_rfl) (by kernel_rfl) (by kernel_rfl) (fun _ _ _ h => h) (Or.inr ⟨by rfl, rfl⟩) hHeld ?_
     try dsimp only
     try simp only [Act.put, qz0, qz1, qz2, qz3, qz4, qz5]
     refine wpAnyH_take (i := 11) (v := undef) rfl (by kernel_rfl) (by kernel_rfl) (by kernel_rfl) (fun _ _ _ h => h) (Or.inr ⟨by rfl, rfl⟩) hHeld ?_
     try dsimp only
     try simp only [Act.put, qz0, qz1, qz2, qz3, qz4, qz5]
     refine wpAnyH_take (i := 12) (v := undef) rfl (by kernel_rfl) (by kernel_rfl) (by kernel_rfl) (fun _ _ _ h => h) (Or.inr ⟨by rfl, rfl⟩) hHeld ?_
     try dsimp only
     try simp only [Act.put, qz0, qz1, qz2, qz3, qz4, qz5]
     refine wpAnyH_take (i := 13) (v := .bool false) rfl (by kernel_rfl) (by kernel_rfl) (by kernel_rfl) (fun _ _ _ h => h) (Or.inl ⟨by rfl, fun w _ => by first | rfl | go_simp⟩) hHeld ?_
     try dsimp only
     try simp only [Act.put, qz0, qz1, qz2, qz3, qz4, qz5]
     refine wpAnyH_done (by kernel_rfl) ?_ _
     go_wp2
     go_roundw
     case rel => exact ⟨1, by omega, by go_num, HB3, HC4, HF2⟩
     case measure => simp [intOf]; omega
    ·obtain ⟨j, rfl⟩ : ∃ j, k = j + 1 := ⟨k - 1, by omega⟩
     obtain ⟨y, hy⟩ : ∃ y, l[j]? = some y := ⟨l[j]'(by have := hn.out; omega), List.getElem?_eq_getElem _⟩
     obtain ⟨g', off', hge, hg5, hry⟩ := evr (HE.out.keep HB3.out) j y hy
     injection hge with hge; injection hge with h1 h2; subst h1; subst h2
     have hy5 : w3.cell? ⟨g, off + j * 5, none⟩ = some (.int .u64 (y.off : Int)) := by have := hry 0 _ rfl; simpa using this
     have hyo : (y.off : Int) < 1099511627776 := by
      have h := HF.out j y (by omega) hy
      unfold formB at h
      simp only [Bool.and_eq_true, decide_eq_true_eq] at h
      omega
     have HC5 : Hid (chkL p none l = if x.off = y.off + 1 then chkL p (some x.off) (l.drop (j + 1 + 1)) else 8) := Lib.hid (by rw [HC3.out, prevO_succ hy])
     obtain ⟨k, hkk⟩ : ∃ k, k = j + 1 := ⟨_, rfl⟩
     rw [← hkk] at hk hlt hk0 HF2 HC5 hlti HHX ⊢
     have hjk : (k : Int) - 1 = (j : Int) := by omega
     have hjn : (j : Int) < (n : Int) := by omega
     have hwj : IntKind.i64.wrap (j : Int) = (j : Int) := by rw [IntKind.wrap_i64]; omega
     have hwo : IntKind.u64.wrap ((y.off : Int) + 1) = (y.off : Int) + 1 := by rw [IntKind.wrap_u64]; omega
     have hk0 : (0 : Int) < (k : Int) := by omega
     clear HC3 HX hry hy
     by_cases he : x.off = y.off + 1
     ·have hxy : ((x.off : Int) != (y.off : Int) + 1) = false := by rw [bne_eq_false_iff_eq]; omega
      have HC6 : Hid (chkL p none l = chkL p (prevO l (k + 1)) (l.drop (k + 1))) := Lib.hid (by rw [HC5.out, if_pos he, prevO_succ HHX.out])
      refine wpAnyH_take (i := 0) (v := .int .i64 (k : Int)) rfl (by kernel_rfl) (by kernel_rfl) (by kernel_rfl) (fun _ _ _ h => h) (Or.inl ⟨by rfl, fun w _ => by first | rfl | go_simp⟩) hHeld ?_
      try dsimp only
      try simp only [Act.put, qz0, qz1, qz2, qz3, qz4, qz5]
      refine wpAnyH_take (i := 1) (v := .bool true) rfl (by kernel_rfl) (by kernel_rfl) (by kernel_rfl) (fun _ _ _ h => h) (Or.inl ⟨by rfl, fun w _ => by have := hk0; go_simp⟩) hHeld ?_
      try dsimp only
      try simp only [Act.put, qz0, qz1, qz2, qz3, qz4, qz5]
      refine wpAnyH_take (i := 2) (v := .bool true) rfl (by kernel_rfl) (by kernel_rfl) (by kernel_rfl) (fun _ _ _ h => h) (Or.inl ⟨by rfl, fun w _ => by first | rfl | go_simp⟩) hHeld ?_
      try dsimp only
      try simp only [Act.put, qz0, qz1, qz2, qz3, qz4, qz5]
      refine wpAnyH_take (i := 3) (v := .pointer (some ⟨b6, 0, none⟩)) rfl (by kernel_rfl) (by kernel_rfl) (by kernel_rfl) (fun _ _ _ h => h) (Or.inl ⟨by rfl, fun w _ => by first | rfl | go_simp⟩) hHeld ?_
      try dsimp only
      try simp only [Act.put, qz0, qz1, qz2, qz3, qz4, qz5]
      refine wpAnyH_take (i := 4) (v := .int .u64 (x.off : Int)) rfl (by kernel_rfl) (by kernel_rfl) (by kernel_rfl) (fun _ _ _ h => h) (yl_u64S rfl (.tmp 21) rfl b6 0 rfl _ (fun w hw => (hw.cell (p := ⟨b6, 0, none⟩) hb6).trans hc6)) hHeld ?_
      try dsimp only
      try simp only [Act.put, qz0, qz1, qz2, qz3, qz4, qz5]
      refine wpAnyH_take (i := 5) (v := .slice (some ⟨g, off, none⟩) n c) rfl (by kernel_rfl) (by kernel_rfl) (by kernel_rfl) (fun _ _ _ h => h) (Or.inl ⟨by rfl, fun w _ => by first | rfl | go_simp⟩) hHeld ?_
      try dsimp only
      try simp only [Act.put, qz0, qz1, qz2, qz3, qz4, qz5]
      refine wpAnyH_take (i := 6) (v := .int .i64 (k : Int)) rfl (by kernel_rfl) (by kernel_rfl) (by kernel_rfl) (fun _ _ _ h => h) (Or.inl ⟨by rfl, fun w _ => by first | rfl | go_simp⟩) hHeld ?_
      try dsimp only
      try simp only [Act.put, qz0, qz1, qz2, qz3, qz4, qz5]
      refine wpAnyH_take (i := 7) (v := .int .i64 (j : Int)) rfl (by kernel_rfl) (by kernel_rfl) (by kernel_rfl) (fun _ _ _ h => h) (Or.inl ⟨by rfl, fun w _ => by have := hjk; have := hwj; go_simp⟩) hHeld ?_
      try dsimp only
      try simp only [Act.put, qz0, qz1, qz2, qz3, qz4, qz5]
      refine wpAnyH_take (i := 8) (v := .pointer (some ⟨g, off + j * 5, none⟩)) rfl (by kernel_rfl) (by kernel_rfl) (by kernel_rfl) (fun _ _ _ h => h) (Or.inl ⟨by rfl, fun w _ => by have := hjn; go_simp⟩) hHeld ?_
      try dsimp only
      try simp only [Act.put, qz0, qz1, qz2, qz3, qz4, qz5]
      refine wpAnyH_take (i := 9) (v := .pointer (some ⟨g, off + j * 5, none⟩)) rfl (by kernel_rfl) (by kernel_rfl) (by kernel_rfl) (fun _ _ _ h => h) (Or.inl ⟨by rfl, fun w _ => by first | rfl | go_simp⟩) hHeld ?_
      try dsimp only
      try simp only [Act.put, qz0, qz1, qz2, qz3, qz4, qz5]
      refine wpAnyH_take (i := 10) (v := .int .u64 (y.off : Int)) rfl (by kernel_rfl) (by kernel_rfl) (by kernel_rfl) (fun _ _ _ h => h) (yl_u64S rfl (.tmp 27) rfl g (off + j * 5) rfl _ (fun w hw => (hw.cell (p := ⟨g, off + j * 5, none⟩) hg5).trans hy5)) hHeld ?_
      try dsimp only
      try simp only [Act.put, qz0, qz1, qz2, qz3, qz4, qz5]
      refine wpAnyH_take (i := 11) (v := .int .u64 ((y.off : Int) + 1)) rfl (by kernel_rfl) (by kernel_rfl) (by kernel_rfl) (fun _ _ _ h => h) (Or.inl ⟨by rfl, fun w _ => by have := hwo; go_simp⟩) hHeld ?_
      try dsimp only
      try simp only [Act.put, qz0, qz1, qz2, qz3, qz4, qz5]
      refine wpAnyH_take (i := 12) (v := .bool false) rfl (by kernel_rfl) (by kernel_rfl) (by kernel_rfl) (fun _ _ _ h => h) (Or.inl ⟨by rfl, fun w _ => by have := hxy; go_simp⟩) hHeld ?_
      try dsimp only
      try simp only [Act.put, qz0, qz1, qz2, qz3, qz4, qz5]
      refine wpAnyH_take (i := 13) (v := .bool false) rfl (by kernel_rfl) (by kernel_rfl) (by kernel_rfl) (fun _ _ _ h => h) (Or.inl ⟨by rfl, fun w _ => by first | rfl | go_simp⟩) hHeld ?_
      try dsimp only
      try simp only [Act.put, qz0, qz1, qz2, qz3, qz4, qz5]
      refine wpAnyH_done (by kernel_rfl) ?_ _
      go_wp2
      go_roundw
      case rel => exact ⟨k + 1, by omega, by go_num, HB3, HC6, HF2⟩
      case measure => simp [intOf]; omega
     ·have hxy : ((x.off : Int) != (y.off : Int) + 1) = true := by rw [bne_iff_ne]; omega
      have HC6 : Hid (chkL p none l = 8) := Lib.hid (by rw [HC5.out, if_neg he])
      refine wpAnyH_take (i := 0) (v := .int .i64 (k : Int)) rfl (by kernel_rfl) (by kernel_rfl) (by kernel_rfl) (fun _ _ _ h => h) (Or.inl ⟨by rfl, fun w _ => by first | rfl | go_simp⟩) hHeld ?_
      try dsimp only
      try simp only [Act.put, qz0, qz1, qz2, qz3, qz4, qz5]
      refine wpAnyH_take (i := 1) (v := .bool true) rfl (by kernel_rfl) (by kernel_rfl) (by kernel_rfl) (fun _ _ _ h => h) (Or.inl ⟨by rfl, fun w _ => by have := hk0; go_simp⟩) hHeld ?_
      try dsimp only
      try simp only [Act.put, qz0, qz1, qz2, qz3, qz4, qz5]
      refine wpAnyH_take (i := 2) (v := .bool true) rfl (by kernel_rfl) (by kernel_rfl) (by kernel_rfl) (fun _ _ _ h => h) (Or.inl ⟨by rfl, fun w _ => by first | rfl | go_simp⟩) hHeld ?_
      try dsimp only
      try simp only [Act.put, qz0, qz1, qz2, qz3, qz4, qz5]
      refine wpAnyH_take (i := 3) (v := .pointer (some ⟨b6, 0, none⟩)) rfl (by kernel_rfl) (by kernel_rfl) (by kernel_rfl) (fun _ _ _ h => h) (Or.inl ⟨by rfl, fun w _ => by first | rfl | go_simp⟩) hHeld ?_
      try dsimp only
      try simp only [Act.put, qz0, qz1, qz2, qz3, qz4, qz5]
      refine wpAnyH_take (i := 4) (v := .int .u64 (x.off : Int)) rfl (by kernel_rfl) (by kernel_rfl) (by kernel_rfl) (fun _ _ _ h => h) (yl_u64S rfl (.tmp 21) rfl b6 0 rfl _ (fun w hw => (hw.cell (p := ⟨b6, 0, none⟩) hb6).trans hc6)) hHeld ?_
      try dsimp only
      try simp only [Act.put, qz0, qz1, qz2, qz3, qz4, qz5]
      refine wpAnyH_take (i := 5) (v := .slice (some ⟨g, off, none⟩) n c) rfl (by kernel_rfl) (by kernel_rfl) (by kernel_rfl) (fun _ _ _ h => h) (Or.inl ⟨by rfl, fun w _ => by first | rfl | go_simp⟩) hHeld ?_
      try dsimp only
      try simp only [Act.put, qz0, qz1, qz2, qz3, qz4, qz5]
      refine wpAnyH_take (i := 6) (v := .int .i64 (k : Int)) rfl (by kernel_rfl) (by kernel_rfl) (by kernel_rfl) (fun _ _ _ h => h) (Or.inl ⟨by rfl, fun w _ => by first | rfl | go_simp⟩) hHeld ?_
      try dsimp only
      try simp only [Act.put, qz0, qz1, qz2, qz3, qz4, qz5]
      refine wpAnyH_take (i := 7) (v := .int .i64 (j : Int)) rfl (by kernel_rfl) (by kernel_rfl) (by kernel_rfl) (fun _ _ _ h => h) (Or.inl ⟨by rfl, fun w _ => by have := hjk; have := hwj; go_simp⟩) hHeld ?_
      try dsimp only
      try simp only [Act.put, qz0, qz1, qz2, qz3, qz4, qz5]
      refine wpAnyH_take (i := 8) (v := .pointer (some ⟨g, off + j * 5, none⟩)) rfl (by kernel_rfl) (by kernel_rfl) (by kernel_rfl) (fun _ _ _ h => h) (Or.inl ⟨by rfl, fun w _ => by have := hjn; go_simp⟩) hHeld ?_
      try dsimp only
      try simp only [Act.put, qz0, qz1, qz2, qz3, qz4, qz5]
      refine wpAnyH_take (i := 9) (v := .pointer (some ⟨g, off + j * 5, none⟩)) rfl (by kernel_rfl) (by kernel_rfl) (by kernel_rfl) (fun _ _ _ h => h) (Or.inl ⟨by rfl, fun w _ => by first | rfl | go_simp⟩) hHeld ?_
      try dsimp only
      try simp only [Act.put, qz0, qz1, qz2, qz3, qz4, qz5]
      refine wpAnyH_take (i := 10) (v := .int .u64 (y.off : Int)) rfl (by kernel_rfl) (by kernel_rfl) (by kernel_rfl) (fun _ _ _ h => h) (yl_u64S rfl (.tmp 27) rfl g (off + j * 5) rfl _ (fun w hw => (hw.cell (p := ⟨g, off + j * 5, none⟩) hg5).trans hy5)) hHeld ?_
      try dsimp only
      try simp only [Act.put, qz0, qz1, qz2, qz3, qz4, qz5]
      refine wpAnyH_take (i := 11) (v := .int .u64 ((y.off : Int) + 1)) rfl (by kernel_rfl) (by kernel_rfl) (by kernel_rfl) (fun _ _ _ h => h) (Or.inl ⟨by rfl, fun w _ => by have := hwo; go_simp⟩) hHeld ?_
      try dsimp only
      try simp only [Act.put, qz0, qz1, qz2, qz3, qz4, qz5]
      refine wpAnyH_take (i := 12) (v := .bool true) rfl (by kernel_rfl) (by kernel_rfl) (by kernel_rfl) (fun _ _ _ h => h) (Or.inl ⟨by rfl, fun w _ => by have := hxy; go_simp⟩) hHeld ?_
      try dsimp only
      try simp only [Act.put, qz0, qz1, qz2, qz3, qz4, qz5]
      refine wpAnyH_take (i := 13) (v := .bool true) rfl (by kernel_rfl) (by kernel_rfl) (by kernel_rfl) (fun _ _ _ h => h) (Or.inl ⟨by rfl, fun w _ => by first | rfl | go_simp⟩) hHeld ?_
      try dsimp only
      try simp only [Act.put, qz0, qz1, qz2, qz3, qz4, qz5]
      refine wpAnyH_done (by kernel_rfl) ?_ _
      go_wp2
      go_ret
      exact ⟨by rw [HC6.out]; rfl, HB3.out⟩
  ·obtain rfl : k = n := by omega
   have HC0 : Hid (chkL p none l = 0) := Lib.hid (by rw [HC.out, List.drop_eq_nil_of_le (by have := hn.out; omega)]; rfl)
   go_wp2
   go_ret
   exact ⟨by rw [HC0.out]; rfl, HB.out⟩
end Go.Proofs.YtifabkbdiiolfaaDoor
