/-
  Layer mark: MarkNone, walked.
-/
import Derived.Test.YtgoibcolehcgcaaKg
import Derived.Outline
import Derived.Deep.CutBlock
set_option linter.unusedSimpArgs false
set_option linter.unusedVariables false
set_option maxRecDepth 8000
namespace Go.Proofs.Ytgoibcolehcgcaa
open Go.RowKit Go.WideShapes Mk
theorem and255 (q : Int) : ∃ m : Nat, m < 256 ∧ bits .and .i64 q 255 = (m : Int) := by
  refine ⟨(BitVec.ofInt 64 q).toNat &&& 255, by have := @Nat.and_le_right (BitVec.ofInt 64 q).toNat 255; omega, ?_⟩
  have h1 : (BitVec.ofInt 64 255).toNat = 255 := by decide
  show IntKind.i64.wrap ((BitVec.ofInt 64 q &&& BitVec.ofInt 64 255).toNat : Int) = _
  rw [BitVec.toNat_and, h1, IntKind.wrap_i64]
  have := @Nat.and_le_right (BitVec.ofInt 64 q).toNat 255
  omega
theorem lv_i64K (w : World) (g j : Nat) (v : Value) (h : w.cell? ⟨g, j, none⟩ = some v) : (loadVar 2 ⟨g, j, none⟩).run Try.prog w = .ok v w := by
  go_simp
theorem lv_intK (w : World) (g j : Nat) (v : Value) (h : w.cell? ⟨g, j, none⟩ = some v) : (loadVar 3 ⟨g, j, none⟩).run Try.prog w = .ok v w := by
  go_simp
theorem yb_i64K {ops : Array Oper} {S : World → Prop} {op : Oper} {a : Act} (hw : Region.wanted op (yielded ops a.tmps) = true) (x : Operand) (ho : op.op = .load 2 x) (g j : Nat) (hx : a.eval x = .pointer (some ⟨g, j, none⟩)) (v : Value)
    (hS : ∀ w, S w → w.cell? ⟨g, j, none⟩ = some v) : YieldsIf Try.prog ops S op v a :=
  .inl ⟨hw, fun w hw' => by
    unfold execOp
    simp only [ho, hx, Instr.loadAt, Instr.sureAddr, Sem.run_bind, Sem.run_pure, Result.andThen_ok, lv_i64K w g j v (hS w hw')]⟩
theorem yb_intK {ops : Array Oper} {S : World → Prop} {op : Oper} {a : Act} (hw : Region.wanted op (yielded ops a.tmps) = true) (x : Operand) (ho : op.op = .load 3 x) (g j : Nat) (hx : a.eval x = .pointer (some ⟨g, j, none⟩)) (v : Value)
    (hS : ∀ w, S w → w.cell? ⟨g, j, none⟩ = some v) : YieldsIf Try.prog ops S op v a :=
  .inl ⟨hw, fun w hw' => by
    unfold execOp
    simp only [ho, hx, Instr.loadAt, Instr.sureAddr, Sem.run_bind, Sem.run_pure, Result.andThen_ok, lv_intK w g j v (hS w hw')]⟩
set_option maxHeartbeats 1000000 in
theorem markNone_long (p b : Nat) (a : Option Addr) (ll c : Nat) (hL : 60 < ll) (hm : ll ≤ 9223372036854775807) (w : World) :
    Calls Try.prog 5 #[.int .u8 (p : Int), .slice a ll c, .int .u8 (b : Int)] w fun e w' => e = .returned (.bool true) ∧ Below w.heap.size w w' := by
  have HB0 := Below.refl w.heap.size w
  go_enter Try.func5, Try.ntmps5
  go_wp2_with (go_at_call 6; (with_reducible refine (awakeM_any _).mono ?_); rintro e w' ⟨rfl, hb1⟩; replace HB0 := below_to HB0 hb1; clear hb1)
  go_ret
  exact ⟨rfl, HB0⟩
/-- What New ends with, by itself. -/
theorem newM_at (n : Nat) (h1 : 1 ≤ n) (h8 : n ≤ 8) (w : World) : Calls Try.prog 7 #[.int .i64 (n : Int)] w (NewM w (n : Int) 0) := newM_yes (n : Int) (by omega) (by omega) w
/-- The marks of a law, in a block of its own. -/
structure MAt (W : World) (bM : Nat) (n : Int) (g : Nat → Option Int) (w : World) : Prop where
  below : Below W.heap.size W w
  row : w.heap[bM]? = some (.cells (MC n g) 28 (0, 0))
  ge : W.heap.size ≤ bM
section
variable {W w w' : World} {bM : Nat} {n : Int} {g : Nat → Option Int}
theorem MAt.next (h : MAt W bM n g w) (hb : Below w.heap.size w w') : MAt W bM n g w' := ⟨below_to h.below hb, row_keep h.row hb, h.ge⟩
theorem MAt.drew (h : MAt W bM n g w) : MAt W bM n g w.drew := ⟨h.below.drew, h.row, h.ge⟩
theorem MAt.put (h : MAt W bM n g w) (m : Int) (f : Nat → Option Int) : MAt W bM m f (w.setRow bM (MC m f)) := ⟨below_setRowK h.below h.ge _, setRow_heap _ _ _ _ _ _ h.row, h.ge⟩
end
theorem MAt.start {W w : World} (h : Below W.heap.size W w) (n : Int) (g : Nat → Option Int) : MAt W w.heap.size n g (w.alloc (.cells (MC n g) 28)) := ⟨h.alloc h.size _, heap_alloc_new' w _, h.size⟩
set_option maxHeartbeats 4000000 in
theorem markNone_core (p b : Nat) (hp : p < 256) (hb : b < 256) (l : List Sn) (a : Option Addr) (ll c : Nat) (hll : Hid (ll = l.length)) (h60 : ll ≤ 60) (W : World) (H : Hid (SnAt W a l)) :
    Calls Try.prog 5 #[.int .u8 (p : Int), .slice a ll c, .int .u8 (b : Int)] W fun e w' => e = .returned (.bool true) ∧ Below W.heap.size W w' := by
  go_enter Try.func5, Try.ntmps5
  go_upto_region 5 with (go_at_call 6; (with_reducible refine (awakeM_any _).mono ?_); rintro e w1 ⟨rfl, hb1⟩; have HB1 := Lib.hid hb1; clear hb1)
  obtain ⟨n, hn, h1, h8⟩ : ∃ n : Nat, 1 + (p : Int) % 8 = (n : Int) ∧ 1 ≤ n ∧ n ≤ 8 := ⟨1 + p % 8, by omega, by omega, by omega⟩
  rw [hn]
  obtain ⟨K, hK, hKn⟩ : ∃ K : Nat, (b : Int) % (n : Int) = (K : Int) ∧ K < n := ⟨b % n, by omega, Nat.mod_lt _ (by omega)⟩
  rw [hK]
  clear hn hK
  go_upto_region 6 with (first
    | (go_at_call 7; (with_reducible refine (newM_at n h1 h8 _).mono ?_); rintro e w2 ⟨rfl, hb⟩; have HM1 := Lib.hid (MAt.start (below_to HB1.out hb) 0 (fun _ => none)); clear hb)
    | (rw [zerosM]; refine wpList_store_row rfl 28 (.tmp 9) (.tmp 38) rfl w2.heap.size (MC (n : Int) (fun _ => none)) rfl rfl _ _ HM1.out.row (iM _ _) (by rw [MC_size, MC_size]) (MC_one _ _) ?_; have HM2 := Lib.hid (HM1.out.put (n : Int) (fun _ => none))))
  obtain ⟨bM, hbM⟩ : ∃ bM, bM = w2.heap.size := ⟨_, rfl⟩
  rw [← hbM] at HM2 ⊢
  clear hbM HM1 HB1
  go_wp2_with fail
  go_loopw [11] (fun i wr => ∃ k : Nat, k ≤ ll ∧ i = .int .i64 (k : Int) ∧ ∃ g, Hid (g K = none) ∧ Hid (MAt W bM (n : Int) g wr)) (fun i _ => ll - (intOf i).toNat)
  case atStart => exact ⟨0, by omega, rfl, _, Lib.hid rfl, HM2⟩
  case round =>
    obtain ⟨k, hk, rfl, g, HG, HM⟩ := hrel
    by_cases hlt : k < ll
    · obtain ⟨x, hx⟩ : ∃ x, l[k]? = some x := ⟨l[k]'(by have := hll.out; omega), List.getElem?_eq_getElem _⟩
      obtain ⟨bg, off, rfl, hg, c1, c2⟩ := H.out.cells k x hx
      obtain ⟨q, t⟩ := x
      have HC1 := Lib.hid c1
      have HC2 := Lib.hid c2
      have d1 : wr.cell? ⟨bg, off + k * 2, none⟩ = some (.int .i64 q) := (HM.out.below.cell (p := ⟨bg, off + k * 2, none⟩) hg).trans c1
      clear c1 c2 hx
      obtain ⟨m, hm, hand⟩ := and255 q
      obtain ⟨j, hj, hjn⟩ : ∃ j : Nat, (m : Int) % (n : Int) = (j : Int) ∧ j < n := ⟨m % n, by omega, Nat.mod_lt _ (by omega)⟩
      by_cases hjk : j = K
      · have hjk2 : ((j : Int) != (K : Int)) = false := by rw [bne_eq_false_iff_eq, hjk]
        go_wp2
        go_roundw
        case rel => exact ⟨k + 1, by omega, by go_num, g, HG, HM⟩
        case measure => simp [intOf]; omega
      · have hjk2 : ((j : Int) != (K : Int)) = true := by rw [bne_iff_ne]; omega
        go_upto_region 11 with fail
        rw [hj]
        clear hand hm d1 hjk2 hj
        have HG2 : Hid (see (n : Int) g (j : Int) t K = none) := Lib.hid (by unfold see; rw [if_neg (by omega)]; exact HG.out)
        have hlen : (k : Int) < (ll : Int) := by omega
        replace HM := Lib.hid HM.out.drew
        refine wp_region_held_drew (S := Below W.heap.size W) (by kernel_rfl) HM.out.below (fun hHeld => ?_)
        refine wpAnyH_take (i := 1) (v := .int .i64 (j : Int)) rfl (by kernel_rfl) (by kernel_rfl) (by kernel_rfl) (fun _ _ _ h => h) (Or.inl ⟨by rfl, fun w _ => by first | rfl | go_simp⟩) hHeld ?_
        try dsimp only
        try simp only [Act.put, List.getElem_toArray, List.getElem_cons_zero, List.getElem_cons_succ, List.setIfInBounds_toArray, List.set_cons_zero, List.set_cons_succ]
        refine wpAnyH_take (i := 2) (v := .slice (some ⟨bg, off, none⟩) ll c) rfl (by kernel_rfl) (by kernel_rfl) (by kernel_rfl) (fun _ _ _ h => h) (Or.inl ⟨by rfl, fun w _ => by first | rfl | go_simp⟩) hHeld ?_
        try dsimp only
        try simp only [Act.put, List.getElem_toArray, List.getElem_cons_zero, List.getElem_cons_succ, List.setIfInBounds_toArray, List.set_cons_zero, List.set_cons_succ]
        refine wpAnyH_take (i := 3) (v := .int .i64 (k : Int)) rfl (by kernel_rfl) (by kernel_rfl) (by kernel_rfl) (fun _ _ _ h => h) (Or.inl ⟨by rfl, fun w _ => by first | rfl | go_simp⟩) hHeld ?_
        try dsimp only
        try simp only [Act.put, List.getElem_toArray, List.getElem_cons_zero, List.getElem_cons_succ, List.setIfInBounds_toArray, List.set_cons_zero, List.set_cons_succ]
        refine wpAnyH_take (i := 4) (v := .pointer (some ⟨bg, off + k * 2, none⟩)) rfl (by kernel_rfl) (by kernel_rfl) (by kernel_rfl) (fun _ _ _ h => h) (Or.inl ⟨by rfl, fun w _ => by first | rfl | go_simp⟩) hHeld ?_
        try dsimp only
        try simp only [Act.put, List.getElem_toArray, List.getElem_cons_zero, List.getElem_cons_succ, List.setIfInBounds_toArray, List.set_cons_zero, List.set_cons_succ]
        refine wpAnyH_take (i := 5) (v := .pointer (some ⟨bg, off + k * 2 + 1, none⟩)) rfl (by kernel_rfl) (by kernel_rfl) (by kernel_rfl) (fun _ _ _ h => h) (Or.inl ⟨by rfl, fun w _ => by first | rfl | go_simp⟩) hHeld ?_
        try dsimp only
        try simp only [Act.put, List.getElem_toArray, List.getElem_cons_zero, List.getElem_cons_succ, List.setIfInBounds_toArray, List.set_cons_zero, List.set_cons_succ]
        refine wpAnyH_take (i := 6) (v := .int .i64 t) rfl (by kernel_rfl) (by kernel_rfl) (by kernel_rfl) (fun _ _ _ h => h) (yb_i64K rfl (.tmp 62) rfl bg (off + k * 2 + 1) rfl _ (fun w hw => (hw.cell (p := ⟨bg, off + k * 2 + 1, none⟩) hg).trans HC2.out)) hHeld ?_
        try dsimp only
        try simp only [Act.put, List.getElem_toArray, List.getElem_cons_zero, List.getElem_cons_succ, List.setIfInBounds_toArray, List.set_cons_zero, List.set_cons_succ]
        refine wpAnyH_ready (rs := [0]) (by kernel_rfl) (by simp) (AllReadyH.cons rfl (fun K hK => ?_) AllReadyH.nil)
        rw [if_pos (by rfl)]
        refine wp_load_row 28 (.tmp 9) rfl bM rfl _ (MC (n : Int) g) (0, 0) _ HM.out.row uM rfl (iM _ _) ?_
        refine hK.out _ _ HM.out.below (fun hHeld => ?_)
        clear hK K
        try dsimp only
        try simp only [Act.put, List.getElem_toArray, List.getElem_cons_zero, List.getElem_cons_succ, List.setIfInBounds_toArray, List.set_cons_zero, List.set_cons_succ]
        refine wpAnyH_ready (rs := [7]) (by kernel_rfl) (by simp) (AllReadyH.cons rfl (fun K hK => ?_) AllReadyH.nil)
        go_simp
        refine (seeM_any (n : Int) (j : Int) t g (by omega) _).mono ?_
        rintro e w7 ⟨rfl, hb7⟩
        replace HM := Lib.hid (HM.out.next hb7)
        clear hb7
        refine hK.out _ _ HM.out.below (fun hHeld => ?_)
        clear hK K
        try dsimp only
        try simp only [Act.put, List.getElem_toArray, List.getElem_cons_zero, List.getElem_cons_succ, List.setIfInBounds_toArray, List.set_cons_zero, List.set_cons_succ]
        refine wpAnyH_ready (rs := [8]) (by kernel_rfl) (by simp) (AllReadyH.cons rfl (fun K hK => ?_) AllReadyH.nil)
        rw [if_pos (by rfl)]
        refine wp_store_row 28 (.tmp 9) (.tmp 64) rfl bM (MC (n : Int) (see (n : Int) g (j : Int) t)) rfl rfl _ _ HM.out.row (iM _ _) (by rw [MC_size, MC_size]) (MC_one _ _) ?_
        replace HM := Lib.hid (HM.out.put (n : Int) (see (n : Int) g (j : Int) t))
        refine hK.out _ _ HM.out.below (fun hHeld => ?_)
        clear hK K
        refine wpAnyH_done (by kernel_rfl) ?_ _
        clear hHeld
        go_wp2
        go_roundw
        case rel => exact ⟨k + 1, by omega, by go_num, _, HG2, HM⟩
        case measure => simp [intOf]; omega
    · obtain rfl : k = ll := by omega
      have HL : Hid (lowO g n = none) := Lib.hid (lowO_none hKn HG.out)
      have HS : Hid (see (n : Int) g (K : Int) (-7) K = some (-7)) := Lib.hid (by unfold see; rw [if_pos ⟨rfl, by omega⟩, HG.out]; rfl)
      go_wp2_with (first
        | (refine wpList_load_row rfl 28 (.tmp 9) rfl bM rfl _ (MC (n : Int) g) (0, 0) _ HM.out.row uM rfl (iM _ _) ?_)
        | (refine wpList_load_row rfl 28 (.tmp 9) rfl bM rfl _ (MC (n : Int) g) (0, 0) _ HM5.out.row uM rfl (iM _ _) ?_)
        | (refine wpList_load_row rfl 28 (.tmp 9) rfl bM rfl _ (MC (n : Int) g) (0, 0) _ HM6.out.row uM rfl (iM _ _) ?_)
        | (go_at_call 11; (with_reducible refine (ofM_in (n : Int) K (see (n : Int) g (K : Int) (-7)) (by omega) (by omega) _).mono ?_); rintro e w8 ⟨rfl, hb⟩; rw [HS.out]; have HM8 := Lib.hid (HM7.out.next hb); clear hb)
        | (go_at_call 11; (with_reducible refine (ofM_in (n : Int) K g (by omega) (by omega) _).mono ?_); rintro e w5 ⟨rfl, hb⟩; rw [HG.out]; have HM5 := Lib.hid (HM.out.next hb); clear hb)
        | (go_at_call 8; (with_reducible refine (lowM_any n g (by omega) _).mono ?_); rintro e w6 ⟨rfl, hb⟩; rw [HL.out]; have HM6 := Lib.hid (HM5.out.next hb); clear hb)
        | (go_at_call 10; (with_reducible refine (seeM_any (n : Int) (K : Int) (-7) g (by omega) _).mono ?_); rintro e w7 ⟨rfl, hb⟩; have HM7 := Lib.hid (HM6.out.next hb); clear hb))
      go_ret
      exact ⟨rfl, HM8.out.below⟩
theorem markNone_any (p : Nat) (hp : p < 256) (a : Option Addr) (l : List Sn) (ll c : Nat) (hll : Hid (ll = l.length)) (hs : ll ≤ c) (hm' : c ≤ maxLen) (b : Nat) (hb : b < 256) (W : World) (H : Hid (SnAt W a l)) :
    Calls Try.prog 5 #[.int .u8 (p : Int), .slice a ll c, .int .u8 (b : Int)] W fun e w' => e = .returned (.bool true) ∧ Below W.heap.size W w' := by
  have hm : ll ≤ 9223372036854775807 := by unfold maxLen at hm'; omega
  by_cases hL : 60 < ll
  · exact markNone_long p b a ll c hL hm W
  · exact markNone_core p b hp hb l a ll c hll (by omega) W H
end Go.Proofs.Ytgoibcolehcgcaa
