/-
  Layer agg: the law AggSame, walked.
-/
import Derived.Test.YthklamgdoknmeaaAg
set_option linter.unusedSimpArgs false
set_option linter.unusedVariables false
set_option maxRecDepth 8000
namespace Go.Proofs.Ythklamgdoknmeaa
open Go.RowKit Go.WideShapes Col Sm
/-- A narrower class of worlds serves from here on. -/
theorem wpAnyH_more {P : Program} {ops : Array Oper} {Q : Exit → Act → World → Prop} {md : Region.Mode} {S S' : World → Prop} (h : ∀ w, S' w → S w) : ∀ {n : Nat} {listed : Array Bool} {a : Act} {w : World}, wpAnyH P md ops Q S' n listed a w → wpAnyH P md ops Q S n listed a w
  | 0, _, _, _, H => H
  | n + 1, _, _, _, H => ⟨H.1, fun i hi => wpOp_mono (fun _ _ h' => ⟨h _ h'.1, wpAnyH_more h h'.2⟩) (H.2 i hi)⟩
theorem ub_app {n m : Nat} {r q : List Nat} (hn : n < 18446744073709551616) (hm : m < 18446744073709551616) (h : ub n ++ r = ub m ++ q) : n = m ∧ r = q := by
  have h1 := grp_ub r n 0 ⟨by omega, hn⟩ (.inr rfl)
  have h2 := grp_ub q m 0 ⟨by omega, hm⟩ (.inr rfl)
  rw [h, h2] at h1
  injection h1 with h1
  injection h1 with h3 h4
  exact ⟨h3.symm, h4.symm⟩
theorem telBy_iff (a b : Tel) (ha : a.Ok) (hb : b.Ok) : telBy a = telBy b ↔ telB a b = true := by
  have bo : ∀ o : Bool, (if o = true then (1 : Nat) else 0) < 18446744073709551616 := fun o => by split <;> omega
  unfold telB
  simp only [Bool.and_eq_true, decide_eq_true_eq]
  constructor
  · intro h
    unfold telBy at h
    obtain ⟨h1, h⟩ := ub_app ha.c hb.c h
    obtain ⟨h2, h⟩ := ub_app (Fl.canon_lt _ ha.s) (Fl.canon_lt _ hb.s) h
    obtain ⟨h3, h⟩ := ub_app (bo _) (bo _) h
    obtain ⟨h4, h⟩ := ub_app (Fl.canon_lt _ ha.lo) (Fl.canon_lt _ hb.lo) h
    obtain ⟨h5, -⟩ := ub_app (r := []) (q := []) (Fl.canon_lt _ ha.hi) (Fl.canon_lt _ hb.hi) (by rw [h])
    refine ⟨⟨⟨⟨by omega, ?_⟩, h2⟩, h4⟩, h5⟩
    revert h3
    cases a.o <;> cases b.o <;> simp
  · rintro ⟨⟨⟨⟨h1, h2⟩, h3⟩, h4⟩, h5⟩
    unfold telBy
    rw [h2, h3, h4, h5, show a.c = b.c by omega]
theorem telB_self (a : Tel) : telB a a = true := by unfold telB; simp
theorem b_str {l m : List Nat} (hl : ∀ x ∈ l, x < 256) (hm : ∀ x ∈ m, x < 256) {b : Bool} (h : decide (l = m) = b) (w : World) : (binOp .eql 9 (.string (strB l)) (.string (strB m))).run Try.prog w = .ok (.bool b) w := by
  have h2 := beq_strB hl hm
  rw [h] at h2
  rw [← h2]
  go_simp
theorem b_bool (b : Bool) (w : World) : (binOp .eql 4 (.bool b) (.bool b)).run Try.prog w = .ok (.bool true) w := by
  cases b <;> rfl
theorem telBy_lt (t : Tel) : ∀ x ∈ telBy t, x < 256 := fun x hx => by
  unfold telBy at hx
  simp only [List.mem_append] at hx
  rcases hx with h | h | h | h | h <;> exact ub_bytes _ x h
theorem putk_nil {B : Nat} {w w' : World} {l : List Nat} {e : Ending} (h : PutK B w none l e w') : ∃ A n c, e = .returned (.slice A n c) ∧ ByAt w' A l ∧ n = l.length ∧ Below w.heap.size w w' := by
  obtain ⟨A, n, c, he, ho, hk, -⟩ := h
  exact ⟨A, n, c, he, ho.byAt, ho.len, hk.below (Nat.le_refl _) (fun k h => by cases h)⟩
theorem layV_nil (t : Tel) (ht : t.Ok) (w : World) :
    Calls Try.prog 33 #[.slice none 0 0, .agg #[.int .u64 (t.c : Int), .float .f64 t.s, .bool t.o, .float .f64 t.lo, .float .f64 t.hi]] w fun e w' => ∃ A n c, e = .returned (.slice A n c) ∧ ByAt w' A (telBy t) ∧ n = (telBy t).length ∧ Below w.heap.size w w' :=
  (layV_any w.heap.size none 0 0 [] t ht w (OwnS.nil _ _) (by decide) (Nat.le_refl _)).mono fun e w' h => putk_nil h
theorem yb_convS {ops : Array Oper} {S : World → Prop} {op : Oper} {a : Act} (hw : Region.wanted op (yielded ops a.tmps) = true) (x : Operand) (ho : op.op = .convert 29 9 x) (v u : Value) (hx : a.eval x = v)
    (h : ∀ w, S w → (convert 29 9 v).run Try.prog w = .ok u w) : YieldsIf Try.prog ops S op u a :=
  .inl ⟨hw, fun w hw' => by
    unfold execOp
    simp only [ho, hx, Sem.run_bind, Sem.run_pure, h w hw', Result.andThen_ok]⟩

set_option maxHeartbeats 8000000 in
theorem aggSame_law (x : Tel) (hx : x.Ok) (y : Tel) (hy : y.Ok) (W : World) :
    Calls Try.prog 8 #[.agg #[.int .u64 (x.c : Int), .float .f64 x.s, .bool x.o, .float .f64 x.lo, .float .f64 x.hi], .agg #[.int .u64 (y.c : Int), .float .f64 y.s, .bool y.o, .float .f64 y.lo, .float .f64 y.hi]] W fun e w' => e = .returned (.bool true) ∧ Below W.heap.size W w' := by
  obtain ⟨s, hs⟩ : ∃ s, s = telB x y := ⟨_, rfl⟩
  have HSM := Lib.hid fun w => aggSame_any x y hx hy w
  have HSR := Lib.hid fun w => refAggSame_any x y hx hy w
  have HSS := Lib.hid fun w => aggSame_any x x hx hx w
  have HEQ : Hid (decide (telBy x = telBy y) = s) := Lib.hid (by rw [hs, Bool.eq_iff_iff, decide_eq_true_eq]; exact telBy_iff x y hx hy)
  have HLX := Lib.hid fun w => layV_nil x hx w
  have HLY := Lib.hid fun w => layV_nil y hy w
  rw [← hs] at HSM HSR
  rw [telB_self] at HSS
  clear hs
  have HK := Lib.hid (Kp2.start W #[.int .u64 (x.c : Int), .float .f64 x.s, .bool x.o, .float .f64 x.lo, .float .f64 x.hi] #[.int .u64 (y.c : Int), .float .f64 y.s, .bool y.o, .float .f64 y.lo, .float .f64 y.hi] 44 44)
  go_enter Try.func8, Try.ntmps8
  go_wp2
  obtain ⟨HB, R1, R2⟩ := HK.out
  generalize hW0 : ((W.alloc (.cells #[.int .u64 (x.c : Int), .float .f64 x.s, .bool x.o, .float .f64 x.lo, .float .f64 x.hi] 44)).alloc (.cells #[.int .u64 (y.c : Int), .float .f64 y.s, .bool y.o, .float .f64 y.lo, .float .f64 y.hi] 44)) = w0 at *
  refine wp_region_held_drew (S := Below w0.drew.heap.size w0.drew) (by kernel_rfl) (Below.refl _ _) (fun hHeld => ?_)
  refine wpAnyH_ready (rs := [0]) (by kernel_rfl) (by simp) (AllReadyH.cons rfl (fun K hK => ?_) AllReadyH.nil)
  go_simp
  refine (awakeS_any _).mono ?_
  rintro e v1 ⟨rfl, hv1⟩
  refine hK.out _ _ hv1 (fun _ => ?_)
  clear hK K
  try dsimp only
  try simp only [Act.put, List.getElem_toArray, List.getElem_cons_zero, List.getElem_cons_succ, List.setIfInBounds_toArray, List.set_cons_zero, List.set_cons_succ]
  refine wpAnyH_more (S' := Below v1.heap.size v1) (fun w h => below_to hv1 h) ?_
  replace R1 := row_keep R1 hv1
  replace R2 := row_keep R2 hv1
  replace HB := below_to HB hv1
  clear hHeld
  have hHeld := Below.refl v1.heap.size v1
  refine wpAnyH_take (i := 1) (v := .bool true) rfl (by kernel_rfl) (by kernel_rfl) (by kernel_rfl) (fun _ _ _ h => h) (Or.inl ⟨by rfl, fun _ _ => rfl⟩) hHeld ?_
  try dsimp only
  try simp only [Act.put, List.getElem_toArray, List.getElem_cons_zero, List.getElem_cons_succ, List.setIfInBounds_toArray, List.set_cons_zero, List.set_cons_succ]
  refine wpAnyH_take (i := 2) (v := .agg #[.int .u64 (x.c : Int), .float .f64 x.s, .bool x.o, .float .f64 x.lo, .float .f64 x.hi]) rfl (by kernel_rfl) (by kernel_rfl) (by kernel_rfl) (fun _ _ _ h => h) (yieldsIf_row rfl 44 (.tmp 2) rfl W.heap.size rfl _ _ _ _ (fun w hw => row_keep R1 hw) uA rfl (iA _ _ _ _ _)) hHeld ?_
  try dsimp only
  try simp only [Act.put, List.getElem_toArray, List.getElem_cons_zero, List.getElem_cons_succ, List.setIfInBounds_toArray, List.set_cons_zero, List.set_cons_succ]
  refine wpAnyH_take (i := 3) (v := .agg #[.int .u64 (y.c : Int), .float .f64 y.s, .bool y.o, .float .f64 y.lo, .float .f64 y.hi]) rfl (by kernel_rfl) (by kernel_rfl) (by kernel_rfl) (fun _ _ _ h => h) (yieldsIf_row rfl 44 (.tmp 3) rfl (W.heap.size + 1) rfl _ _ _ _ (fun w hw => row_keep R2 hw) uA rfl (iA _ _ _ _ _)) hHeld ?_
  try dsimp only
  try simp only [Act.put, List.getElem_toArray, List.getElem_cons_zero, List.getElem_cons_succ, List.setIfInBounds_toArray, List.set_cons_zero, List.set_cons_succ]
  refine wpAnyH_take (i := 5) (v := .agg #[.int .u64 (x.c : Int), .float .f64 x.s, .bool x.o, .float .f64 x.lo, .float .f64 x.hi]) rfl (by kernel_rfl) (by kernel_rfl) (by kernel_rfl) (fun _ _ _ h => h) (yieldsIf_row rfl 44 (.tmp 2) rfl W.heap.size rfl _ _ _ _ (fun w hw => row_keep R1 hw) uA rfl (iA _ _ _ _ _)) hHeld ?_
  try dsimp only
  try simp only [Act.put, List.getElem_toArray, List.getElem_cons_zero, List.getElem_cons_succ, List.setIfInBounds_toArray, List.set_cons_zero, List.set_cons_succ]
  refine wpAnyH_take (i := 8) (v := .agg #[.int .u64 (y.c : Int), .float .f64 y.s, .bool y.o, .float .f64 y.lo, .float .f64 y.hi]) rfl (by kernel_rfl) (by kernel_rfl) (by kernel_rfl) (fun _ _ _ h => h) (yieldsIf_row rfl 44 (.tmp 3) rfl (W.heap.size + 1) rfl _ _ _ _ (fun w hw => row_keep R2 hw) uA rfl (iA _ _ _ _ _)) hHeld ?_
  try dsimp only
  try simp only [Act.put, List.getElem_toArray, List.getElem_cons_zero, List.getElem_cons_succ, List.setIfInBounds_toArray, List.set_cons_zero, List.set_cons_succ]
  refine wpAnyH_ready (rs := [4]) (by kernel_rfl) (by simp) (AllReadyH.cons rfl (fun K hK => ?_) AllReadyH.nil)
  go_simp
  refine (HSM.out _).mono ?_
  rintro e v2 ⟨rfl, hv2⟩
  refine hK.out _ _ hv2 (fun _ => ?_)
  clear hK K
  try dsimp only
  try simp only [Act.put, List.getElem_toArray, List.getElem_cons_zero, List.getElem_cons_succ, List.setIfInBounds_toArray, List.set_cons_zero, List.set_cons_succ]
  refine wpAnyH_more (S' := Below v2.heap.size v2) (fun w h => below_to hv2 h) ?_
  replace R1 := row_keep R1 hv2
  replace R2 := row_keep R2 hv2
  replace HB := below_to HB hv2
  clear hHeld
  have hHeld := Below.refl v2.heap.size v2
  refine wpAnyH_ready (rs := [6]) (by kernel_rfl) (by simp) (AllReadyH.cons rfl (fun K hK => ?_) AllReadyH.nil)
  go_simp
  refine (HLX.out _).mono ?_
  rintro e v3 ⟨Ax, nx, cx, rfl, hbx, hnx0, hv3⟩
  have hnx := Lib.hid hnx0
  clear hnx0
  refine hK.out _ _ hv3 (fun _ => ?_)
  clear hK K
  try dsimp only
  try simp only [Act.put, List.getElem_toArray, List.getElem_cons_zero, List.getElem_cons_succ, List.setIfInBounds_toArray, List.set_cons_zero, List.set_cons_succ]
  refine wpAnyH_more (S' := Below v3.heap.size v3) (fun w h => below_to hv3 h) ?_
  replace R1 := row_keep R1 hv3
  replace R2 := row_keep R2 hv3
  replace HB := below_to HB hv3
  clear hHeld
  have hHeld := Below.refl v3.heap.size v3
  refine wpAnyH_take (i := 7) (v := .string (strB (telBy x))) rfl (by kernel_rfl) (by kernel_rfl) (by kernel_rfl) (fun _ _ _ h => h) (yb_convS rfl (.tmp 11) rfl _ _ rfl (fun w hw => conv_by nx cx (hbx.keep hw) hnx.out)) hHeld ?_
  try dsimp only
  try simp only [Act.put, List.getElem_toArray, List.getElem_cons_zero, List.getElem_cons_succ, List.setIfInBounds_toArray, List.set_cons_zero, List.set_cons_succ]
  clear hbx hnx
  refine wpAnyH_ready (rs := [9]) (by kernel_rfl) (by simp) (AllReadyH.cons rfl (fun K hK => ?_) AllReadyH.nil)
  go_simp
  refine (HLY.out _).mono ?_
  rintro e v4 ⟨Ay, ny, cy, rfl, hby, hny0, hv4⟩
  have hny := Lib.hid hny0
  clear hny0
  refine hK.out _ _ hv4 (fun _ => ?_)
  clear hK K
  try dsimp only
  try simp only [Act.put, List.getElem_toArray, List.getElem_cons_zero, List.getElem_cons_succ, List.setIfInBounds_toArray, List.set_cons_zero, List.set_cons_succ]
  refine wpAnyH_more (S' := Below v4.heap.size v4) (fun w h => below_to hv4 h) ?_
  replace R1 := row_keep R1 hv4
  replace R2 := row_keep R2 hv4
  replace HB := below_to HB hv4
  clear hHeld
  have hHeld := Below.refl v4.heap.size v4
  refine wpAnyH_take (i := 10) (v := .string (strB (telBy y))) rfl (by kernel_rfl) (by kernel_rfl) (by kernel_rfl) (fun _ _ _ h => h) (yb_convS rfl (.tmp 14) rfl _ _ rfl (fun w hw => conv_by ny cy (hby.keep hw) hny.out)) hHeld ?_
  try dsimp only
  try simp only [Act.put, List.getElem_toArray, List.getElem_cons_zero, List.getElem_cons_succ, List.setIfInBounds_toArray, List.set_cons_zero, List.set_cons_succ]
  clear hby hny
  refine wpAnyH_take (i := 11) (v := .bool s) rfl (by kernel_rfl) (by kernel_rfl) (by kernel_rfl) (fun _ _ _ h => h) (yb_bin rfl .eql _ _ _ _ rfl _ _ _ rfl rfl (fun _ => rfl) (fun w => b_str (telBy_lt _) (telBy_lt _) HEQ.out w)) hHeld ?_
  try dsimp only
  try simp only [Act.put, List.getElem_toArray, List.getElem_cons_zero, List.getElem_cons_succ, List.setIfInBounds_toArray, List.set_cons_zero, List.set_cons_succ]
  refine wpAnyH_take (i := 12) (v := .bool true) rfl (by kernel_rfl) (by kernel_rfl) (by kernel_rfl) (fun _ _ _ h => h) (yb_bin rfl .eql _ _ _ _ rfl _ _ _ rfl rfl (fun _ => rfl) (fun w => b_bool s w)) hHeld ?_
  try dsimp only
  try simp only [Act.put, List.getElem_toArray, List.getElem_cons_zero, List.getElem_cons_succ, List.setIfInBounds_toArray, List.set_cons_zero, List.set_cons_succ]
  refine wpAnyH_take (i := 13) (v := .bool true) rfl (by kernel_rfl) (by kernel_rfl) (by kernel_rfl) (fun _ _ _ h => h) (Or.inl ⟨by rfl, fun _ _ => rfl⟩) hHeld ?_
  try dsimp only
  try simp only [Act.put, List.getElem_toArray, List.getElem_cons_zero, List.getElem_cons_succ, List.setIfInBounds_toArray, List.set_cons_zero, List.set_cons_succ]
  refine wpAnyH_take (i := 14) (v := .bool true) rfl (by kernel_rfl) (by kernel_rfl) (by kernel_rfl) (fun _ _ _ h => h) (Or.inl ⟨by rfl, fun _ _ => rfl⟩) hHeld ?_
  try dsimp only
  try simp only [Act.put, List.getElem_toArray, List.getElem_cons_zero, List.getElem_cons_succ, List.setIfInBounds_toArray, List.set_cons_zero, List.set_cons_succ]
  refine wpAnyH_take (i := 15) (v := .agg #[.int .u64 (x.c : Int), .float .f64 x.s, .bool x.o, .float .f64 x.lo, .float .f64 x.hi]) rfl (by kernel_rfl) (by kernel_rfl) (by kernel_rfl) (fun _ _ _ h => h) (yieldsIf_row rfl 44 (.tmp 2) rfl W.heap.size rfl _ _ _ _ (fun w hw => row_keep R1 hw) uA rfl (iA _ _ _ _ _)) hHeld ?_
  try dsimp only
  try simp only [Act.put, List.getElem_toArray, List.getElem_cons_zero, List.getElem_cons_succ, List.setIfInBounds_toArray, List.set_cons_zero, List.set_cons_succ]
  refine wpAnyH_take (i := 16) (v := .agg #[.int .u64 (y.c : Int), .float .f64 y.s, .bool y.o, .float .f64 y.lo, .float .f64 y.hi]) rfl (by kernel_rfl) (by kernel_rfl) (by kernel_rfl) (fun _ _ _ h => h) (yieldsIf_row rfl 44 (.tmp 3) rfl (W.heap.size + 1) rfl _ _ _ _ (fun w hw => row_keep R2 hw) uA rfl (iA _ _ _ _ _)) hHeld ?_
  try dsimp only
  try simp only [Act.put, List.getElem_toArray, List.getElem_cons_zero, List.getElem_cons_succ, List.setIfInBounds_toArray, List.set_cons_zero, List.set_cons_succ]
  refine wpAnyH_take (i := 18) (v := .agg #[.int .u64 (x.c : Int), .float .f64 x.s, .bool x.o, .float .f64 x.lo, .float .f64 x.hi]) rfl (by kernel_rfl) (by kernel_rfl) (by kernel_rfl) (fun _ _ _ h => h) (yieldsIf_row rfl 44 (.tmp 2) rfl W.heap.size rfl _ _ _ _ (fun w hw => row_keep R1 hw) uA rfl (iA _ _ _ _ _)) hHeld ?_
  try dsimp only
  try simp only [Act.put, List.getElem_toArray, List.getElem_cons_zero, List.getElem_cons_succ, List.setIfInBounds_toArray, List.set_cons_zero, List.set_cons_succ]
  refine wpAnyH_take (i := 19) (v := .agg #[.int .u64 (y.c : Int), .float .f64 y.s, .bool y.o, .float .f64 y.lo, .float .f64 y.hi]) rfl (by kernel_rfl) (by kernel_rfl) (by kernel_rfl) (fun _ _ _ h => h) (yieldsIf_row rfl 44 (.tmp 3) rfl (W.heap.size + 1) rfl _ _ _ _ (fun w hw => row_keep R2 hw) uA rfl (iA _ _ _ _ _)) hHeld ?_
  try dsimp only
  try simp only [Act.put, List.getElem_toArray, List.getElem_cons_zero, List.getElem_cons_succ, List.setIfInBounds_toArray, List.set_cons_zero, List.set_cons_succ]
  refine wpAnyH_ready (rs := [17]) (by kernel_rfl) (by simp) (AllReadyH.cons rfl (fun K hK => ?_) AllReadyH.nil)
  go_simp
  refine (HSM.out _).mono ?_
  rintro e v5 ⟨rfl, hv5⟩
  refine hK.out _ _ hv5 (fun _ => ?_)
  clear hK K
  try dsimp only
  try simp only [Act.put, List.getElem_toArray, List.getElem_cons_zero, List.getElem_cons_succ, List.setIfInBounds_toArray, List.set_cons_zero, List.set_cons_succ]
  refine wpAnyH_more (S' := Below v5.heap.size v5) (fun w h => below_to hv5 h) ?_
  replace R1 := row_keep R1 hv5
  replace R2 := row_keep R2 hv5
  replace HB := below_to HB hv5
  clear hHeld
  have hHeld := Below.refl v5.heap.size v5
  refine wpAnyH_ready (rs := [20]) (by kernel_rfl) (by simp) (AllReadyH.cons rfl (fun K hK => ?_) AllReadyH.nil)
  go_simp
  refine (HSR.out _).mono ?_
  rintro e v6 ⟨rfl, hv6⟩
  refine hK.out _ _ hv6 (fun _ => ?_)
  clear hK K
  try dsimp only
  try simp only [Act.put, List.getElem_toArray, List.getElem_cons_zero, List.getElem_cons_succ, List.setIfInBounds_toArray, List.set_cons_zero, List.set_cons_succ]
  refine wpAnyH_more (S' := Below v6.heap.size v6) (fun w h => below_to hv6 h) ?_
  replace R1 := row_keep R1 hv6
  replace R2 := row_keep R2 hv6
  replace HB := below_to HB hv6
  clear hHeld
  have hHeld := Below.refl v6.heap.size v6
  refine wpAnyH_take (i := 21) (v := .bool true) rfl (by kernel_rfl) (by kernel_rfl) (by kernel_rfl) (fun _ _ _ h => h) (yb_bin rfl .eql _ _ _ _ rfl _ _ _ rfl rfl (fun _ => rfl) (fun w => b_bool s w)) hHeld ?_
  try dsimp only
  try simp only [Act.put, List.getElem_toArray, List.getElem_cons_zero, List.getElem_cons_succ, List.setIfInBounds_toArray, List.set_cons_zero, List.set_cons_succ]
  refine wpAnyH_take (i := 22) (v := .bool true) rfl (by kernel_rfl) (by kernel_rfl) (by kernel_rfl) (fun _ _ _ h => h) (Or.inl ⟨by rfl, fun _ _ => rfl⟩) hHeld ?_
  try dsimp only
  try simp only [Act.put, List.getElem_toArray, List.getElem_cons_zero, List.getElem_cons_succ, List.setIfInBounds_toArray, List.set_cons_zero, List.set_cons_succ]
  refine wpAnyH_take (i := 23) (v := .bool true) rfl (by kernel_rfl) (by kernel_rfl) (by kernel_rfl) (fun _ _ _ h => h) (Or.inl ⟨by rfl, fun _ _ => rfl⟩) hHeld ?_
  try dsimp only
  try simp only [Act.put, List.getElem_toArray, List.getElem_cons_zero, List.getElem_cons_succ, List.setIfInBounds_toArray, List.set_cons_zero, List.set_cons_succ]
  refine wpAnyH_take (i := 24) (v := .agg #[.int .u64 (x.c : Int), .float .f64 x.s, .bool x.o, .float .f64 x.lo, .float .f64 x.hi]) rfl (by kernel_rfl) (by kernel_rfl) (by kernel_rfl) (fun _ _ _ h => h) (yieldsIf_row rfl 44 (.tmp 2) rfl W.heap.size rfl _ _ _ _ (fun w hw => row_keep R1 hw) uA rfl (iA _ _ _ _ _)) hHeld ?_
  try dsimp only
  try simp only [Act.put, List.getElem_toArray, List.getElem_cons_zero, List.getElem_cons_succ, List.setIfInBounds_toArray, List.set_cons_zero, List.set_cons_succ]
  refine wpAnyH_take (i := 25) (v := .agg #[.int .u64 (x.c : Int), .float .f64 x.s, .bool x.o, .float .f64 x.lo, .float .f64 x.hi]) rfl (by kernel_rfl) (by kernel_rfl) (by kernel_rfl) (fun _ _ _ h => h) (yieldsIf_row rfl 44 (.tmp 2) rfl W.heap.size rfl _ _ _ _ (fun w hw => row_keep R1 hw) uA rfl (iA _ _ _ _ _)) hHeld ?_
  try dsimp only
  try simp only [Act.put, List.getElem_toArray, List.getElem_cons_zero, List.getElem_cons_succ, List.setIfInBounds_toArray, List.set_cons_zero, List.set_cons_succ]
  refine wpAnyH_ready (rs := [26]) (by kernel_rfl) (by simp) (AllReadyH.cons rfl (fun K hK => ?_) AllReadyH.nil)
  go_simp
  refine (HSS.out _).mono ?_
  rintro e v7 ⟨rfl, hv7⟩
  refine hK.out _ _ hv7 (fun _ => ?_)
  clear hK K
  try dsimp only
  try simp only [Act.put, List.getElem_toArray, List.getElem_cons_zero, List.getElem_cons_succ, List.setIfInBounds_toArray, List.set_cons_zero, List.set_cons_succ]
  refine wpAnyH_more (S' := Below v7.heap.size v7) (fun w h => below_to hv7 h) ?_
  replace R1 := row_keep R1 hv7
  replace R2 := row_keep R2 hv7
  replace HB := below_to HB hv7
  clear hHeld
  have hHeld := Below.refl v7.heap.size v7
  refine wpAnyH_take (i := 27) (v := .bool true) rfl (by kernel_rfl) (by kernel_rfl) (by kernel_rfl) (fun _ _ _ h => h) (Or.inl ⟨by rfl, fun _ _ => rfl⟩) hHeld ?_
  try dsimp only
  try simp only [Act.put, List.getElem_toArray, List.getElem_cons_zero, List.getElem_cons_succ, List.setIfInBounds_toArray, List.set_cons_zero, List.set_cons_succ]
  refine wpAnyH_take (i := 28) (v := .bool true) rfl (by kernel_rfl) (by kernel_rfl) (by kernel_rfl) (fun _ _ _ h => h) (Or.inl ⟨by rfl, fun _ _ => rfl⟩) hHeld ?_
  try dsimp only
  try simp only [Act.put, List.getElem_toArray, List.getElem_cons_zero, List.getElem_cons_succ, List.setIfInBounds_toArray, List.set_cons_zero, List.set_cons_succ]
  refine wpAnyH_done (by kernel_rfl) ?_ _
  go_wp2
  go_ret
  exact ⟨rfl, HB⟩
end Go.Proofs.Ythklamgdoknmeaa
