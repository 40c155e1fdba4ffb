/-
  The law EventForms: walked.
-/
import Derived.Test.YtkmlplopfpgbfaaEf
set_option linter.unusedSimpArgs false
set_option linter.unusedVariables false
namespace Go.Proofs.Ytkmlplopfpgbfaa
open Go.RowKit Go.Sort

theorem yieldsIf_row {P : Program} {ops : Array Oper} {S : World → Prop} {op : Oper} {a : Act} (hw : Region.wanted op (yielded ops a.tmps) = true) (ty : TypeId) (x : Operand) (ho : op.op = .load ty x)
    (g : Nat) (hx : a.eval x = .pointer (some ⟨g, 0, none⟩)) (t : TypeId) (cs : Array Value) (fr : Nat × Nat) (d : TypeDesc) (hS : ∀ w, S w → w.heap[g]? = some (.cells cs t fr))
    (hu : P.underlying ty = some d) (hd : (match d with | .struct _ | .array _ _ => true | _ => false) = true) (hi : (P.info? ty).map (·.size) = some cs.size) : YieldsIf P ops S op (.agg cs) a :=
  .inl ⟨hw, fun w hw' => by
    unfold execOp
    simp only [ho, hx, Instr.loadAt, Instr.sureAddr, Sem.run_bind, Sem.run_pure, Result.andThen_ok, run_loadVar_row w g t ty cs fr d (hS w hw') hu hd hi]⟩
theorem uEv : Try.prog.underlying 25 = some (.struct (Try.prog.fieldsOf 25)) := by kernel_rfl
theorem sameB_self (x : Ev) : sameB x x = true := by unfold sameB keqB; simp
structure BB (W : World) (g h : Nat) (x y : Ev) (w : World) : Prop where
  l : Bx g h x y w
  r : Below W.heap.size W w
theorem row_keep' {w w' : World} {g : Nat} {o : Obj} (h : w.heap[g]? = some o) (hb : Below w.heap.size w w') : w'.heap[g]? = some o := (hb.block g (Array.getElem?_eq_some_iff.1 h).1).trans h
theorem BB.next {W : World} {g h : Nat} {x y : Ev} {w w' : World} (H : BB W g h x y w) (hb : Below w.heap.size w w') : BB W g h x y w' :=
  ⟨⟨row_keep' H.1.rx hb, row_keep' H.1.ry hb⟩, H.2.trans (hb.mono H.2.size)⟩
theorem BB.start (w : World) (x y : Ev) : BB w w.heap.size (w.heap.size + 1) x y ((w.alloc (.cells #[.int .u64 (x.off : Int), .int .i64 x.part, .int .i64 x.time, .string x.key, .float .f64 x.val] 25)).alloc (.cells #[.int .u64 (y.off : Int), .int .i64 y.part, .int .i64 y.time, .string y.key, .float .f64 y.val] 25)).drew :=
  ⟨Bx.start w x y, (((Below.refl w.heap.size w).alloc (Nat.le_refl _) _).alloc (by simp) _).drew⟩

set_option maxRecDepth 4000 in
set_option maxHeartbeats 4000000 in
theorem eventForms_core (x y : Ev) (p : Int) (F L1 L2 S1 : Bool) (w : World)
    (H1 : Hid (∀ w, Calls Try.prog 7 #[.agg #[.int .u64 (x.off : Int), .int .i64 x.part, .int .i64 x.time, .string x.key, .float .f64 x.val], .int .i64 p] w fun e w' => e = .returned (.bool F) ∧ Below w.heap.size w w'))
    (H2 : Hid (∀ w, Calls Try.prog 8 #[.agg #[.int .u64 (x.off : Int), .int .i64 x.part, .int .i64 x.time, .string x.key, .float .f64 x.val], .int .i64 p] w fun e w' => e = .returned (.bool F) ∧ Below w.heap.size w w'))
    (H3 : Hid (∀ w, Calls Try.prog 9 #[.agg #[.int .u64 (x.off : Int), .int .i64 x.part, .int .i64 x.time, .string x.key, .float .f64 x.val], .agg #[.int .u64 (y.off : Int), .int .i64 y.part, .int .i64 y.time, .string y.key, .float .f64 y.val]] w fun e w' => e = .returned (.bool L1) ∧ Below w.heap.size w w'))
    (H4 : Hid (∀ w, Calls Try.prog 10 #[.agg #[.int .u64 (x.off : Int), .int .i64 x.part, .int .i64 x.time, .string x.key, .float .f64 x.val], .agg #[.int .u64 (y.off : Int), .int .i64 y.part, .int .i64 y.time, .string y.key, .float .f64 y.val]] w fun e w' => e = .returned (.bool L1) ∧ Grew w w'))
    (H5 : Hid (∀ w, Calls Try.prog 9 #[.agg #[.int .u64 (y.off : Int), .int .i64 y.part, .int .i64 y.time, .string y.key, .float .f64 y.val], .agg #[.int .u64 (x.off : Int), .int .i64 x.part, .int .i64 x.time, .string x.key, .float .f64 x.val]] w fun e w' => e = .returned (.bool L2) ∧ Below w.heap.size w w'))
    (H6 : Hid (∀ w, Calls Try.prog 10 #[.agg #[.int .u64 (y.off : Int), .int .i64 y.part, .int .i64 y.time, .string y.key, .float .f64 y.val], .agg #[.int .u64 (x.off : Int), .int .i64 x.part, .int .i64 x.time, .string x.key, .float .f64 x.val]] w fun e w' => e = .returned (.bool L2) ∧ Grew w w'))
    (H7 : Hid (∀ w, Calls Try.prog 11 #[.agg #[.int .u64 (x.off : Int), .int .i64 x.part, .int .i64 x.time, .string x.key, .float .f64 x.val], .agg #[.int .u64 (y.off : Int), .int .i64 y.part, .int .i64 y.time, .string y.key, .float .f64 y.val]] w fun e w' => e = .returned (.bool S1) ∧ Below w.heap.size w w'))
    (H8 : Hid (∀ w, Calls Try.prog 12 #[.agg #[.int .u64 (x.off : Int), .int .i64 x.part, .int .i64 x.time, .string x.key, .float .f64 x.val], .agg #[.int .u64 (y.off : Int), .int .i64 y.part, .int .i64 y.time, .string y.key, .float .f64 y.val]] w fun e w' => e = .returned (.bool S1) ∧ Below w.heap.size w w'))
    (H9 : Hid (∀ w, Calls Try.prog 11 #[.agg #[.int .u64 (x.off : Int), .int .i64 x.part, .int .i64 x.time, .string x.key, .float .f64 x.val], .agg #[.int .u64 (x.off : Int), .int .i64 x.part, .int .i64 x.time, .string x.key, .float .f64 x.val]] w fun e w' => e = .returned (.bool true) ∧ Below w.heap.size w w')) :
    Calls Try.prog 3 #[.agg #[.int .u64 (x.off : Int), .int .i64 x.part, .int .i64 x.time, .string x.key, .float .f64 x.val], .agg #[.int .u64 (y.off : Int), .int .i64 y.part, .int .i64 y.time, .string y.key, .float .f64 y.val], .int .i64 p] w fun e w' => e = .returned (.bool true) ∧ Below w.heap.size w w' := by
  have HAW := Lib.hid fun w => awake_any w
  have HS := Lib.hid (BB.start w x y)
  have iX : (Try.prog.info? 25).map (·.size) = some (#[.int .u64 (x.off : Int), .int .i64 x.part, .int .i64 x.time, .string x.key, .float .f64 x.val] : Array Value).size := by kernel_rfl
  have iY : (Try.prog.info? 25).map (·.size) = some (#[.int .u64 (y.off : Int), .int .i64 y.part, .int .i64 y.time, .string y.key, .float .f64 y.val] : Array Value).size := by kernel_rfl
  have IX := Lib.hid iX
  have IY := Lib.hid iY
  clear iX iY
  go_enter Try.func3, Try.ntmps3
  go_wp2
  have hS := HS.out
  clear HS
  generalize World.alloc (World.alloc w _) _ = wz at *
  generalize w.heap.size + 1 = h at *
  generalize hg : w.heap.size = g at hS ⊢
  rw [← hg]
  rw [hg]
  clear hg
  have iX := IX.out
  have iY := IY.out
  refine wp_region_held_drew (S := BB w g h x y) (by kernel_rfl) hS (fun hHeld => ?_)
  refine wpAnyH_ready (rs := [0]) (by kernel_rfl) (by simp) (AllReadyH.cons rfl (fun K hK => ?_) AllReadyH.nil)
  go_simp
  refine (HAW.out _).mono ?_
  rintro e w1 ⟨rfl, hb⟩
  replace hHeld := hHeld.next hb
  clear hb
  refine hK.out _ _ hHeld (fun hHeld => ?_)
  clear hK K
  try dsimp only
  try simp only [Act.put, List.setIfInBounds_toArray, List.set_cons_zero, List.set_cons_succ]
  refine wpAnyH_take (i := 1) (v := .bool true) rfl (by kernel_rfl) (by kernel_rfl) (by kernel_rfl) (fun _ _ _ h => h) (Or.inl ⟨by rfl, fun _ _ => rfl⟩) hHeld ?_
  try dsimp only
  try simp only [Act.put, List.setIfInBounds_toArray, List.set_cons_zero, List.set_cons_succ]
  refine wpAnyH_take (i := 2) (v := .agg #[.int .u64 (x.off : Int), .int .i64 x.part, .int .i64 x.time, .string x.key, .float .f64 x.val]) rfl (by kernel_rfl) (by kernel_rfl) (by kernel_rfl) (fun _ _ _ h => h) (yieldsIf_row rfl 25 (.tmp 3) rfl g rfl _ _ _ _ (fun w' hw' => hw'.1.rx) uEv rfl iX) hHeld ?_
  try dsimp only
  try simp only [Act.put, List.setIfInBounds_toArray, List.set_cons_zero, List.set_cons_succ]
  refine wpAnyH_take (i := 3) (v := .int .i64 p) rfl (by kernel_rfl) (by kernel_rfl) (by kernel_rfl) (fun _ _ _ h => h) (Or.inl ⟨by rfl, fun _ _ => rfl⟩) hHeld ?_
  try dsimp only
  try simp only [Act.put, List.setIfInBounds_toArray, List.set_cons_zero, List.set_cons_succ]
  refine wpAnyH_take (i := 5) (v := .agg #[.int .u64 (x.off : Int), .int .i64 x.part, .int .i64 x.time, .string x.key, .float .f64 x.val]) rfl (by kernel_rfl) (by kernel_rfl) (by kernel_rfl) (fun _ _ _ h => h) (yieldsIf_row rfl 25 (.tmp 3) rfl g rfl _ _ _ _ (fun w' hw' => hw'.1.rx) uEv rfl iX) hHeld ?_
  try dsimp only
  try simp only [Act.put, List.setIfInBounds_toArray, List.set_cons_zero, List.set_cons_succ]
  refine wpAnyH_take (i := 6) (v := .int .i64 p) rfl (by kernel_rfl) (by kernel_rfl) (by kernel_rfl) (fun _ _ _ h => h) (Or.inl ⟨by rfl, fun _ _ => rfl⟩) hHeld ?_
  try dsimp only
  try simp only [Act.put, List.setIfInBounds_toArray, List.set_cons_zero, List.set_cons_succ]
  refine wpAnyH_ready (rs := [4]) (by kernel_rfl) (by simp) (AllReadyH.cons rfl (fun K hK => ?_) AllReadyH.nil)
  go_simp
  refine (H1.out _).mono ?_
  rintro e w2 ⟨rfl, hb⟩
  replace hHeld := hHeld.next hb
  clear hb
  refine hK.out _ _ hHeld (fun hHeld => ?_)
  clear hK K
  try dsimp only
  try simp only [Act.put, List.setIfInBounds_toArray, List.set_cons_zero, List.set_cons_succ]
  refine wpAnyH_ready (rs := [7]) (by kernel_rfl) (by simp) (AllReadyH.cons rfl (fun K hK => ?_) AllReadyH.nil)
  go_simp
  refine (H2.out _).mono ?_
  rintro e w3 ⟨rfl, hb⟩
  replace hHeld := hHeld.next hb
  clear hb
  refine hK.out _ _ hHeld (fun hHeld => ?_)
  clear hK K
  try dsimp only
  try simp only [Act.put, List.setIfInBounds_toArray, List.set_cons_zero, List.set_cons_succ]
  refine wpAnyH_take (i := 8) (v := .bool true) rfl (by kernel_rfl) (by kernel_rfl) (by kernel_rfl) (fun _ _ _ h => h) (Or.inl ⟨by rfl, fun w _ => by go_simp⟩) hHeld ?_
  try dsimp only
  try simp only [Act.put, List.setIfInBounds_toArray, List.set_cons_zero, List.set_cons_succ]
  refine wpAnyH_take (i := 9) (v := .bool true) rfl (by kernel_rfl) (by kernel_rfl) (by kernel_rfl) (fun _ _ _ h => h) (Or.inl ⟨by rfl, fun _ _ => rfl⟩) hHeld ?_
  try dsimp only
  try simp only [Act.put, List.setIfInBounds_toArray, List.set_cons_zero, List.set_cons_succ]
  refine wpAnyH_take (i := 10) (v := .bool true) rfl (by kernel_rfl) (by kernel_rfl) (by kernel_rfl) (fun _ _ _ h => h) (Or.inl ⟨by rfl, fun _ _ => rfl⟩) hHeld ?_
  try dsimp only
  try simp only [Act.put, List.setIfInBounds_toArray, List.set_cons_zero, List.set_cons_succ]
  refine wpAnyH_take (i := 11) (v := .agg #[.int .u64 (x.off : Int), .int .i64 x.part, .int .i64 x.time, .string x.key, .float .f64 x.val]) rfl (by kernel_rfl) (by kernel_rfl) (by kernel_rfl) (fun _ _ _ h => h) (yieldsIf_row rfl 25 (.tmp 3) rfl g rfl _ _ _ _ (fun w' hw' => hw'.1.rx) uEv rfl iX) hHeld ?_
  try dsimp only
  try simp only [Act.put, List.setIfInBounds_toArray, List.set_cons_zero, List.set_cons_succ]
  refine wpAnyH_take (i := 12) (v := .agg #[.int .u64 (y.off : Int), .int .i64 y.part, .int .i64 y.time, .string y.key, .float .f64 y.val]) rfl (by kernel_rfl) (by kernel_rfl) (by kernel_rfl) (fun _ _ _ h => h) (yieldsIf_row rfl 25 (.tmp 4) rfl h rfl _ _ _ _ (fun w' hw' => hw'.1.ry) uEv rfl iY) hHeld ?_
  try dsimp only
  try simp only [Act.put, List.setIfInBounds_toArray, List.set_cons_zero, List.set_cons_succ]
  refine wpAnyH_take (i := 14) (v := .agg #[.int .u64 (x.off : Int), .int .i64 x.part, .int .i64 x.time, .string x.key, .float .f64 x.val]) rfl (by kernel_rfl) (by kernel_rfl) (by kernel_rfl) (fun _ _ _ h => h) (yieldsIf_row rfl 25 (.tmp 3) rfl g rfl _ _ _ _ (fun w' hw' => hw'.1.rx) uEv rfl iX) hHeld ?_
  try dsimp only
  try simp only [Act.put, List.setIfInBounds_toArray, List.set_cons_zero, List.set_cons_succ]
  refine wpAnyH_take (i := 15) (v := .agg #[.int .u64 (y.off : Int), .int .i64 y.part, .int .i64 y.time, .string y.key, .float .f64 y.val]) rfl (by kernel_rfl) (by kernel_rfl) (by kernel_rfl) (fun _ _ _ h => h) (yieldsIf_row rfl 25 (.tmp 4) rfl h rfl _ _ _ _ (fun w' hw' => hw'.1.ry) uEv rfl iY) hHeld ?_
  try dsimp only
  try simp only [Act.put, List.setIfInBounds_toArray, List.set_cons_zero, List.set_cons_succ]
  refine wpAnyH_ready (rs := [13]) (by kernel_rfl) (by simp) (AllReadyH.cons rfl (fun K hK => ?_) AllReadyH.nil)
  go_simp
  refine (H3.out _).mono ?_
  rintro e w4 ⟨rfl, hb⟩
  replace hHeld := hHeld.next hb
  clear hb
  refine hK.out _ _ hHeld (fun hHeld => ?_)
  clear hK K
  try dsimp only
  try simp only [Act.put, List.setIfInBounds_toArray, List.set_cons_zero, List.set_cons_succ]
  refine wpAnyH_ready (rs := [16]) (by kernel_rfl) (by simp) (AllReadyH.cons rfl (fun K hK => ?_) AllReadyH.nil)
  go_simp
  refine (H4.out _).mono ?_
  rintro e w5 ⟨rfl, hb⟩
  replace hHeld := hHeld.next hb.below
  clear hb
  refine hK.out _ _ hHeld (fun hHeld => ?_)
  clear hK K
  try dsimp only
  try simp only [Act.put, List.setIfInBounds_toArray, List.set_cons_zero, List.set_cons_succ]
  refine wpAnyH_take (i := 17) (v := .bool true) rfl (by kernel_rfl) (by kernel_rfl) (by kernel_rfl) (fun _ _ _ h => h) (Or.inl ⟨by rfl, fun w _ => by go_simp⟩) hHeld ?_
  try dsimp only
  try simp only [Act.put, List.setIfInBounds_toArray, List.set_cons_zero, List.set_cons_succ]
  refine wpAnyH_take (i := 18) (v := .bool true) rfl (by kernel_rfl) (by kernel_rfl) (by kernel_rfl) (fun _ _ _ h => h) (Or.inl ⟨by rfl, fun _ _ => rfl⟩) hHeld ?_
  try dsimp only
  try simp only [Act.put, List.setIfInBounds_toArray, List.set_cons_zero, List.set_cons_succ]
  refine wpAnyH_take (i := 19) (v := .bool true) rfl (by kernel_rfl) (by kernel_rfl) (by kernel_rfl) (fun _ _ _ h => h) (Or.inl ⟨by rfl, fun _ _ => rfl⟩) hHeld ?_
  try dsimp only
  try simp only [Act.put, List.setIfInBounds_toArray, List.set_cons_zero, List.set_cons_succ]
  refine wpAnyH_take (i := 20) (v := .agg #[.int .u64 (y.off : Int), .int .i64 y.part, .int .i64 y.time, .string y.key, .float .f64 y.val]) rfl (by kernel_rfl) (by kernel_rfl) (by kernel_rfl) (fun _ _ _ h => h) (yieldsIf_row rfl 25 (.tmp 4) rfl h rfl _ _ _ _ (fun w' hw' => hw'.1.ry) uEv rfl iY) hHeld ?_
  try dsimp only
  try simp only [Act.put, List.setIfInBounds_toArray, List.set_cons_zero, List.set_cons_succ]
  refine wpAnyH_take (i := 21) (v := .agg #[.int .u64 (x.off : Int), .int .i64 x.part, .int .i64 x.time, .string x.key, .float .f64 x.val]) rfl (by kernel_rfl) (by kernel_rfl) (by kernel_rfl) (fun _ _ _ h => h) (yieldsIf_row rfl 25 (.tmp 3) rfl g rfl _ _ _ _ (fun w' hw' => hw'.1.rx) uEv rfl iX) hHeld ?_
  try dsimp only
  try simp only [Act.put, List.setIfInBounds_toArray, List.set_cons_zero, List.set_cons_succ]
  refine wpAnyH_take (i := 23) (v := .agg #[.int .u64 (y.off : Int), .int .i64 y.part, .int .i64 y.time, .string y.key, .float .f64 y.val]) rfl (by kernel_rfl) (by kernel_rfl) (by kernel_rfl) (fun _ _ _ h => h) (yieldsIf_row rfl 25 (.tmp 4) rfl h rfl _ _ _ _ (fun w' hw' => hw'.1.ry) uEv rfl iY) hHeld ?_
  try dsimp only
  try simp only [Act.put, List.setIfInBounds_toArray, List.set_cons_zero, List.set_cons_succ]
  refine wpAnyH_take (i := 24) (v := .agg #[.int .u64 (x.off : Int), .int .i64 x.part, .int .i64 x.time, .string x.key, .float .f64 x.val]) rfl (by kernel_rfl) (by kernel_rfl) (by kernel_rfl) (fun _ _ _ h => h) (yieldsIf_row rfl 25 (.tmp 3) rfl g rfl _ _ _ _ (fun w' hw' => hw'.1.rx) uEv rfl iX) hHeld ?_
  try dsimp only
  try simp only [Act.put, List.setIfInBounds_toArray, List.set_cons_zero, List.set_cons_succ]
  refine wpAnyH_ready (rs := [22]) (by kernel_rfl) (by simp) (AllReadyH.cons rfl (fun K hK => ?_) AllReadyH.nil)
  go_simp
  refine (H5.out _).mono ?_
  rintro e w6 ⟨rfl, hb⟩
  replace hHeld := hHeld.next hb
  clear hb
  refine hK.out _ _ hHeld (fun hHeld => ?_)
  clear hK K
  try dsimp only
  try simp only [Act.put, List.setIfInBounds_toArray, List.set_cons_zero, List.set_cons_succ]
  refine wpAnyH_ready (rs := [25]) (by kernel_rfl) (by simp) (AllReadyH.cons rfl (fun K hK => ?_) AllReadyH.nil)
  go_simp
  refine (H6.out _).mono ?_
  rintro e w7 ⟨rfl, hb⟩
  replace hHeld := hHeld.next hb.below
  clear hb
  refine hK.out _ _ hHeld (fun hHeld => ?_)
  clear hK K
  try dsimp only
  try simp only [Act.put, List.setIfInBounds_toArray, List.set_cons_zero, List.set_cons_succ]
  refine wpAnyH_take (i := 26) (v := .bool true) rfl (by kernel_rfl) (by kernel_rfl) (by kernel_rfl) (fun _ _ _ h => h) (Or.inl ⟨by rfl, fun w _ => by go_simp⟩) hHeld ?_
  try dsimp only
  try simp only [Act.put, List.setIfInBounds_toArray, List.set_cons_zero, List.set_cons_succ]
  refine wpAnyH_take (i := 27) (v := .bool true) rfl (by kernel_rfl) (by kernel_rfl) (by kernel_rfl) (fun _ _ _ h => h) (Or.inl ⟨by rfl, fun _ _ => rfl⟩) hHeld ?_
  try dsimp only
  try simp only [Act.put, List.setIfInBounds_toArray, List.set_cons_zero, List.set_cons_succ]
  refine wpAnyH_take (i := 28) (v := .bool true) rfl (by kernel_rfl) (by kernel_rfl) (by kernel_rfl) (fun _ _ _ h => h) (Or.inl ⟨by rfl, fun _ _ => rfl⟩) hHeld ?_
  try dsimp only
  try simp only [Act.put, List.setIfInBounds_toArray, List.set_cons_zero, List.set_cons_succ]
  refine wpAnyH_take (i := 29) (v := .agg #[.int .u64 (x.off : Int), .int .i64 x.part, .int .i64 x.time, .string x.key, .float .f64 x.val]) rfl (by kernel_rfl) (by kernel_rfl) (by kernel_rfl) (fun _ _ _ h => h) (yieldsIf_row rfl 25 (.tmp 3) rfl g rfl _ _ _ _ (fun w' hw' => hw'.1.rx) uEv rfl iX) hHeld ?_
  try dsimp only
  try simp only [Act.put, List.setIfInBounds_toArray, List.set_cons_zero, List.set_cons_succ]
  refine wpAnyH_take (i := 30) (v := .agg #[.int .u64 (y.off : Int), .int .i64 y.part, .int .i64 y.time, .string y.key, .float .f64 y.val]) rfl (by kernel_rfl) (by kernel_rfl) (by kernel_rfl) (fun _ _ _ h => h) (yieldsIf_row rfl 25 (.tmp 4) rfl h rfl _ _ _ _ (fun w' hw' => hw'.1.ry) uEv rfl iY) hHeld ?_
  try dsimp only
  try simp only [Act.put, List.setIfInBounds_toArray, List.set_cons_zero, List.set_cons_succ]
  refine wpAnyH_take (i := 32) (v := .agg #[.int .u64 (x.off : Int), .int .i64 x.part, .int .i64 x.time, .string x.key, .float .f64 x.val]) rfl (by kernel_rfl) (by kernel_rfl) (by kernel_rfl) (fun _ _ _ h => h) (yieldsIf_row rfl 25 (.tmp 3) rfl g rfl _ _ _ _ (fun w' hw' => hw'.1.rx) uEv rfl iX) hHeld ?_
  try dsimp only
  try simp only [Act.put, List.setIfInBounds_toArray, List.set_cons_zero, List.set_cons_succ]
  refine wpAnyH_take (i := 33) (v := .agg #[.int .u64 (y.off : Int), .int .i64 y.part, .int .i64 y.time, .string y.key, .float .f64 y.val]) rfl (by kernel_rfl) (by kernel_rfl) (by kernel_rfl) (fun _ _ _ h => h) (yieldsIf_row rfl 25 (.tmp 4) rfl h rfl _ _ _ _ (fun w' hw' => hw'.1.ry) uEv rfl iY) hHeld ?_
  try dsimp only
  try simp only [Act.put, List.setIfInBounds_toArray, List.set_cons_zero, List.set_cons_succ]
  refine wpAnyH_ready (rs := [31]) (by kernel_rfl) (by simp) (AllReadyH.cons rfl (fun K hK => ?_) AllReadyH.nil)
  go_simp
  refine (H7.out _).mono ?_
  rintro e w8 ⟨rfl, hb⟩
  replace hHeld := hHeld.next hb
  clear hb
  refine hK.out _ _ hHeld (fun hHeld => ?_)
  clear hK K
  try dsimp only
  try simp only [Act.put, List.setIfInBounds_toArray, List.set_cons_zero, List.set_cons_succ]
  refine wpAnyH_ready (rs := [34]) (by kernel_rfl) (by simp) (AllReadyH.cons rfl (fun K hK => ?_) AllReadyH.nil)
  go_simp
  refine (H8.out _).mono ?_
  rintro e w9 ⟨rfl, hb⟩
  replace hHeld := hHeld.next hb
  clear hb
  refine hK.out _ _ hHeld (fun hHeld => ?_)
  clear hK K
  try dsimp only
  try simp only [Act.put, List.setIfInBounds_toArray, List.set_cons_zero, List.set_cons_succ]
  refine wpAnyH_take (i := 35) (v := .bool true) rfl (by kernel_rfl) (by kernel_rfl) (by kernel_rfl) (fun _ _ _ h => h) (Or.inl ⟨by rfl, fun w _ => by go_simp⟩) hHeld ?_
  try dsimp only
  try simp only [Act.put, List.setIfInBounds_toArray, List.set_cons_zero, List.set_cons_succ]
  refine wpAnyH_take (i := 36) (v := .bool true) rfl (by kernel_rfl) (by kernel_rfl) (by kernel_rfl) (fun _ _ _ h => h) (Or.inl ⟨by rfl, fun _ _ => rfl⟩) hHeld ?_
  try dsimp only
  try simp only [Act.put, List.setIfInBounds_toArray, List.set_cons_zero, List.set_cons_succ]
  refine wpAnyH_take (i := 37) (v := .bool true) rfl (by kernel_rfl) (by kernel_rfl) (by kernel_rfl) (fun _ _ _ h => h) (Or.inl ⟨by rfl, fun _ _ => rfl⟩) hHeld ?_
  try dsimp only
  try simp only [Act.put, List.setIfInBounds_toArray, List.set_cons_zero, List.set_cons_succ]
  refine wpAnyH_take (i := 38) (v := .agg #[.int .u64 (x.off : Int), .int .i64 x.part, .int .i64 x.time, .string x.key, .float .f64 x.val]) rfl (by kernel_rfl) (by kernel_rfl) (by kernel_rfl) (fun _ _ _ h => h) (yieldsIf_row rfl 25 (.tmp 3) rfl g rfl _ _ _ _ (fun w' hw' => hw'.1.rx) uEv rfl iX) hHeld ?_
  try dsimp only
  try simp only [Act.put, List.setIfInBounds_toArray, List.set_cons_zero, List.set_cons_succ]
  refine wpAnyH_take (i := 39) (v := .agg #[.int .u64 (x.off : Int), .int .i64 x.part, .int .i64 x.time, .string x.key, .float .f64 x.val]) rfl (by kernel_rfl) (by kernel_rfl) (by kernel_rfl) (fun _ _ _ h => h) (yieldsIf_row rfl 25 (.tmp 3) rfl g rfl _ _ _ _ (fun w' hw' => hw'.1.rx) uEv rfl iX) hHeld ?_
  try dsimp only
  try simp only [Act.put, List.setIfInBounds_toArray, List.set_cons_zero, List.set_cons_succ]
  refine wpAnyH_ready (rs := [40]) (by kernel_rfl) (by simp) (AllReadyH.cons rfl (fun K hK => ?_) AllReadyH.nil)
  go_simp
  refine (H9.out _).mono ?_
  rintro e w10 ⟨rfl, hb⟩
  replace hHeld := hHeld.next hb
  clear hb
  refine hK.out _ _ hHeld (fun hHeld => ?_)
  clear hK K
  try dsimp only
  try simp only [Act.put, List.setIfInBounds_toArray, List.set_cons_zero, List.set_cons_succ]
  refine wpAnyH_take (i := 41) (v := .bool true) rfl (by kernel_rfl) (by kernel_rfl) (by kernel_rfl) (fun _ _ _ h => h) (Or.inl ⟨by rfl, fun _ _ => rfl⟩) hHeld ?_
  try dsimp only
  try simp only [Act.put, List.setIfInBounds_toArray, List.set_cons_zero, List.set_cons_succ]
  refine wpAnyH_ready (rs := [42]) (by kernel_rfl) (by simp) (AllReadyH.cons rfl (fun K hK => ?_) AllReadyH.nil)
  go_simp
  refine hK.out _ _ hHeld (fun hHeld => ?_)
  clear hK K
  refine wpAnyH_done (by kernel_rfl) ?_ _
  go_wp2
  go_ret
  exact ⟨rfl, hHeld.2⟩

theorem eventForms_any (x y : Ev) (hx : x.val < 18446744073709551616) (hy : y.val < 18446744073709551616) (p : Int) (w : World) :
    Calls Try.prog 3 #[.agg #[.int .u64 (x.off : Int), .int .i64 x.part, .int .i64 x.time, .string x.key, .float .f64 x.val], .agg #[.int .u64 (y.off : Int), .int .i64 y.part, .int .i64 y.time, .string y.key, .float .f64 y.val], .int .i64 p] w fun e w' => e = .returned (.bool true) ∧ Below w.heap.size w w' :=
  eventForms_core x y p _ _ _ _ w (Lib.hid fun w => form_any x p w) (Lib.hid fun w => refForm_any x p w) (Lib.hid fun w => evLess_any x y w) (Lib.hid fun w => evBefore_any x y w) (Lib.hid fun w => evLess_any y x w) (Lib.hid fun w => evBefore_any y x w)
    (Lib.hid fun w => evSame_any x y hx hy w) (Lib.hid fun w => refEvSame_any x y hx hy w) (Lib.hid fun w => by have h := evSame_any x x hx hx w; rw [sameB_self] at h; exact h)
end Go.Proofs.Ytkmlplopfpgbfaa
