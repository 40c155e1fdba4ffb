/-
  The walks of kind, of, Add, Value.
-/
import Derived.Test.YthklamgdoknmeaaSq
import Derived.Test.YthklamgdoknmeaaSu
import Derived.BigRegion
import Derived.Deep.RegionHeld3
set_option linter.unusedSimpArgs false
set_option linter.unusedVariables false
set_option maxRecDepth 8000
namespace Go.Proofs.Ythklamgdoknmeaa
open Go.RowKit Sm

theorem xor_low (r : Nat) (hr : r < 9223372036854775808) : r ^^^ 2 ^ 63 = r + 9223372036854775808 := by
  rw [Nat.add_comm]
  have h1 := Nat.two_pow_add_eq_or_of_lt (i := 63) (b := r) (by omega) 1
  have h2 : 9223372036854775808 + r = 9223372036854775808 ||| r := by simpa using h1
  rw [h2]
  apply Nat.eq_of_testBit_eq
  intro i
  rw [Nat.testBit_xor, Nat.testBit_or, show (9223372036854775808 : Nat) = 2 ^ 63 by decide]
  simp only [Nat.testBit_two_pow]
  by_cases hi : 63 = i
  · subst hi
    rw [Nat.testBit_lt_two_pow (show r < 2 ^ 63 by omega)]; rfl
  · simp [hi]
theorem neg_word (b : Nat) (hb : b < 18446744073709551616) : Op.negFloat .f64 b = if b < 9223372036854775808 then b + 9223372036854775808 else b - 9223372036854775808 := by
  show b ^^^ 2 ^ 63 = _
  by_cases h : b < 9223372036854775808
  · rw [if_pos h, xor_low b h]
  · rw [if_neg h]
    have e := xor_low (b - 9223372036854775808) (by omega)
    rw [show b - 9223372036854775808 + 9223372036854775808 = b by omega] at e
    exact (congrArg (· ^^^ 2 ^ 63) e.symm).trans (by show (b - 9223372036854775808 ^^^ 2 ^ 63) ^^^ 2 ^ 63 = _; rw [Nat.xor_assoc, Nat.xor_self, Nat.xor_zero])
theorem zero_order (b : Nat) (hb : b < 18446744073709551616) (hn : Fl.nan b = false) : (FloatKind.f64.format.order b 0 == some .eq) = decide (Fl.rung b = 0) := by
  rw [Fl.ord_eq b 0 hb (by decide) hn (by decide), decide_eq_decide]
  unfold Fl.key Fl.rung
  split <;> simp <;> omega
theorem gt_max (b : Nat) (hb : b < 18446744073709551616) (hn : Fl.nan b = false) : (FloatKind.f64.format.order b 9218868437227405311 == some .gt) = decide (b = 9218868437227405312) := by
  rw [Fl.ord_gt b _ hb (by decide) hn (by decide), decide_eq_decide]
  unfold Fl.key Fl.rung
  unfold Fl.nan Fl.rung at hn
  rw [decide_eq_false_iff_not] at hn
  split <;> simp <;> omega
theorem neg_nan (b : Nat) (hb : b < 18446744073709551616) (hn : Fl.nan b = false) : Fl.nan (Op.negFloat .f64 b) = false ∧ Op.negFloat .f64 b < 18446744073709551616 := by
  rw [neg_word b hb]
  unfold Fl.nan Fl.rung at hn ⊢
  rw [decide_eq_false_iff_not] at hn ⊢
  split <;> omega

set_option maxHeartbeats 400000 in
theorem isInf_pos (b : Nat) (hb : b < 18446744073709551616) (hn : Fl.nan b = false) (w : World) :
    Calls Try.prog 95 #[.float .f64 b, .int .i64 1] w fun e w' => e = .returned (.bool (decide (b = 9218868437227405312))) ∧ w = w' := by
  have hg := Lib.hid (gt_max b hb hn)
  go_enter Try.func95, Try.ntmps95
  go_wp2
  go_ret
  exact ⟨ret_eq (congrArg Value.bool hg.out), rfl⟩
set_option maxHeartbeats 400000 in
theorem isInf_neg (b : Nat) (hb : b < 18446744073709551616) (hn : Fl.nan b = false) (w : World) :
    Calls Try.prog 95 #[.float .f64 b, .int .i64 (-1)] w fun e w' => e = .returned (.bool (decide (b = 18442240474082181120))) ∧ w = w' := by
  have h2 := neg_nan b hb hn
  have hg := Lib.hid (gt_max _ h2.2 h2.1)
  have hng : ∀ w, (Op.unary .neg (.float .f64 b)).run Try.prog w = .ok (.float .f64 (Op.negFloat .f64 b)) w := fun w => rfl
  clear h2
  go_enter Try.func95, Try.ntmps95
  go_wp2
  go_ret
  refine ⟨ret_eq (congrArg Value.bool (hg.out.trans ?_)), rfl⟩
  rw [neg_word b hb, decide_eq_decide]
  split <;> omega

set_option maxHeartbeats 1000000 in
theorem kind_core (b : Nat) (c1 c2 c3 c4 c5 : Bool) (K : Nat) (hb : b < 18446744073709551616) (h1 : Fl.nan b = c1) (h2 : decide (b = 9218868437227405312) = c2) (h3 : decide (b = 18442240474082181120) = c3)
    (h4 : (FloatKind.f64.format.order b 0 == some .eq) = c4) (h5 : decide (9223372036854775808 ≤ b) = c5) (w : World) :
    Calls Try.prog 86 #[.float .f64 b] w fun e w' => e = .returned (.int .u8 (if c1 then 25 else if c2 then 26 else if c3 then 28 else if c4 && c5 then 8 else 24)) ∧ w = w' := by
  cases c1 <;> cases c2 <;> cases c3 <;> cases c4 <;> cases c5
  all_goals
    go_enter Try.func86, Try.ntmps86
    go_wp2_with (first
      | (go_at_call 73; refine (isNaN_any _ (by assumption) _).mono ?_; rintro e w' ⟨rfl, rfl⟩)
      | (go_at_call 96; refine (signbit_any _ (by assumption) _).mono ?_; rintro e w' ⟨rfl, rfl⟩)
      | (go_at_call 95; (first | (with_reducible refine (isInf_pos _ (by assumption) (by assumption) _).mono ?_) | (with_reducible refine (isInf_neg _ (by assumption) (by assumption) _).mono ?_)); rintro e w' ⟨rfl, rfl⟩))
    go_ret
    exact ⟨rfl, rfl⟩
theorem kind_any (b : Nat) (hb : b < 18446744073709551616) (w : World) :
    Calls Try.prog 86 #[.float .f64 b] w fun e w' => e = .returned (.int .u8 (kindB b : Nat)) ∧ w = w' := by
  refine (kind_core b _ _ _ _ _ 0 hb rfl rfl rfl rfl rfl w).mono ?_
  rintro e w' ⟨rfl, rfl⟩
  refine ⟨ret_eq (congrArg (Value.int .u8) ?_), rfl⟩
  cases hn : Fl.nan b
  · rw [zero_order b hb hn]
    unfold kindB
    rw [hn]
    unfold Fl.nan Fl.rung at hn
    rw [decide_eq_false_iff_not] at hn
    unfold Fl.rung
    simp only [Bool.false_eq_true, if_false, decide_eq_true_eq, Bool.and_eq_true]
    by_cases a1 : b = 9218868437227405312
    · rw [if_pos a1, if_pos (by omega), if_neg (by omega)]; rfl
    · rw [if_neg a1]
      by_cases a2 : b = 18442240474082181120
      · rw [if_pos a2, if_pos (by omega), if_pos (by omega)]; rfl
      · rw [if_neg a2, if_neg (show ¬ b % 9223372036854775808 = 9218868437227405312 by omega)]
        by_cases a3 : b = 9223372036854775808
        · rw [if_pos (by omega), if_pos a3]; rfl
        · rw [if_neg (by omega), if_neg a3]; rfl
  · unfold kindB; rw [hn]; rfl

/-! of -/
theorem lit36 (k : Nat) : (#[Value.int .u64 0, .int .u64 0, .int .u64 0, .int .u64 0, .int .u64 0, .int .u64 0, .int .u64 0, .int .u64 0, .int .u64 0, .int .u64 0, .int .u64 0, .int .u64 0, .int .u64 0, .int .u64 0, .int .u64 0, .int .u64 0, .int .u64 0, .int .u64 0, .int .u64 0, .int .u64 0, .int .u64 0, .int .u64 0, .int .u64 0, .int .u64 0, .int .u64 0, .int .u64 0, .int .u64 0, .int .u64 0, .int .u64 0, .int .u64 0, .int .u64 0, .int .u64 0, .int .u64 0, .int .u64 0, .int .u64 0, .int .u8 k] : Array Value) = P36 (fun _ => 0) k := by
  unfold P36; rw [← zeros35]; rfl

def SpGives (b : Nat) (neg : Bool) (M : Int) (S : Nat) (ok : Bool) : Prop := ∀ w, Calls Try.prog 87 #[.float .f64 b] w fun e w' => e = .returned (.tuple #[.bool neg, .int .u64 M, .int .i64 S, .bool ok]) ∧ w = w'
theorem SpGives.at {b : Nat} {neg : Bool} {M : Int} {S : Nat} {ok : Bool} (h : SpGives b neg M S ok) (w : World) : Calls Try.prog 87 #[.float .f64 b] w fun e w' => e = .returned (.tuple #[.bool neg, .int .u64 M, .int .i64 S, .bool ok]) ∧ w = w' := h w
def KdGives (b K : Nat) : Prop := ∀ w, Calls Try.prog 86 #[.float .f64 b] w fun e w' => e = .returned (.int .u8 K) ∧ w = w'
theorem KdGives.at {b K : Nat} (h : KdGives b K) (w : World) : Calls Try.prog 86 #[.float .f64 b] w fun e w' => e = .returned (.int .u8 K) ∧ w = w' := h w

/-! A whole array of words into a struct's block -/
def putAll (cur : Array Value) : Nat → List Value → Array Value
  | _, [] => cur
  | i, v :: r => putAll (cur.setIfInBounds i v) (i + 1) r
theorem putAll_get : ∀ (vs : List Value) (cur : Array Value) (i j : Nat), i + vs.length ≤ cur.size → (putAll cur i vs)[j]? = if i ≤ j ∧ j < i + vs.length then vs[j - i]? else cur[j]?
  | [], cur, i, j, _ => by rw [putAll, if_neg (by simp)]
  | v :: r, cur, i, j, h => by
    rw [putAll, putAll_get r _ (i + 1) j (by simp at h ⊢; omega)]
    simp only [List.length_cons] at h ⊢
    by_cases e : j = i
    · subst e
      rw [if_neg (by omega), if_pos (by omega), Nat.sub_self, Array.getElem?_setIfInBounds, if_pos rfl, if_pos (by omega)]; rfl
    · by_cases h2 : i ≤ j ∧ j < i + (r.length + 1)
      · rw [if_pos (by omega), if_pos h2, show j - i = (j - (i + 1)) + 1 by omega]; rfl
      · rw [if_neg (by omega), if_neg h2, Array.getElem?_setIfInBounds, if_neg (fun h => e h.symm)]
theorem setRow_self (w : World) (g : Nat) (cur : Array Value) (t : TypeId) (fr : Nat × Nat) (hg : w.heap[g]? = some (.cells cur t fr)) : w.setRow g cur = w := by
  have hv : w.heap[g]'(lt_of_row hg) = .cells cur t fr := (Array.getElem?_eq_some_iff.1 hg).2
  unfold World.setRow
  cases w with
  | mk heap tape drawn os output =>
    congr 1
    apply Array.ext
    · simp
    · intro k h1 h2
      simp only [Array.getElem_modify]
      split
      · rename_i hk; subst hk; simp at hv; simp [hv]
      · rfl
theorem run_storeCells_part {P : Program} (g : Nat) (t : TypeId) : ∀ (vs : List Value) (i : Nat) (cur : Array Value) (w : World), w.heap[g]? = some (.cells cur t (0, 0)) → i + vs.length ≤ cur.size → (∀ v ∈ vs, v.oneCell' = true) →
    (storeCells ⟨g, 0, none⟩ vs i).run P w = .ok () (w.setRow g (putAll cur i vs))
  | [], i, cur, w, hg, _, _ => by
    rw [putAll, setRow_self w g cur t _ hg]; rfl
  | v :: rest, i, cur, w, hg, hl, h1 => by
    have hi : i < cur.size := by simp at hl; omega
    have hadd : (⟨g, 0, none⟩ : Addr).add i = ⟨g, i, none⟩ := by unfold Addr.add; split <;> simp_all
    have hcell : w.cell? ⟨g, i, none⟩ = some cur[i] := by simp [World.cell?, hg, hi]
    have hfro : w.frozen? ⟨g, i, none⟩ = false := by simp [World.frozen?, hg]
    have hst : (store ((⟨g, 0, none⟩ : Addr).add i) v).run P w = .ok () (w.setRow g (cur.setIfInBounds i v)) := by
      rw [hadd, run_store P w _ v _ (h1 v (by simp)), hcell]
      simp [hfro, setCell_eq_setRow w g i cur t (0, 0) v hg]
    have ih := run_storeCells_part (P := P) g t rest (i + 1) (cur.setIfInBounds i v) (w.setRow g (cur.setIfInBounds i v)) (setRow_heap w g cur _ t _ hg) (by simp at hl ⊢; omega) (fun x hx => h1 x (by simp [hx]))
    simp only [storeCells, Sem.run_bind, hst, Result.andThen_ok, ih, setRow_setRow, putAll]
theorem putAll_words (f g : Nat → Nat) (h : Nat) : putAll (P36 f h) 0 (A35 g).toList = P36 g h := by
  apply Array.ext_getElem?
  intro j
  rw [putAll_get _ _ _ _ (by rw [P36_size]; simp [A35_size])]
  simp only [Array.length_toList, A35_size, Nat.zero_le, true_and, Nat.zero_add, Nat.sub_zero]
  by_cases hj : j < 35
  · rw [if_pos hj, P36_word _ _ _ hj, ← A35_get g j hj]; simp
  · rw [if_neg hj]
    by_cases h2 : j = 35
    · subst h2; rw [P36_has, P36_has]
    · rw [Array.getElem?_eq_none (by rw [P36_size]; omega), Array.getElem?_eq_none (by rw [P36_size]; omega)]
theorem wpList_put {ops : Array Oper} {rest : List Oper} {o : Oper} {a : Act} {w : World} {Q : Exit → Act → World → Prop} (hgd : o.guard = none) (x y : Operand) (ho : o.op = .store 25 x y)
    (g : Nat) (hx : a.eval x = .pointer (some ⟨g, 0, none⟩)) (f' : Nat → Nat) (hy : a.eval y = .agg (A35 f')) (f : Nat → Nat) (h : Nat) (t : TypeId) (hg : w.heap[g]? = some (.cells (P36 f h) t (0, 0)))
    (hh : wpList Try.prog ops Q rest (a.put o.dst undef) (w.setRow g (P36 f' h))) : wpList Try.prog ops Q (o :: rest) a w := by
  refine wpList_plain hgd fun _ hK => ?_
  have hrun : (storeVar 25 ⟨g, 0, none⟩ (.agg (A35 f'))).run Try.prog w = .ok () (w.setRow g (P36 f' h)) := by
    have hc := run_storeCells_part (P := Try.prog) g t (A35 f').toList 0 (P36 f h) w hg (by rw [P36_size]; simp [A35_size]) (fun v hv => (Array.all_eq_true_iff_forall_mem.1 (one35 f')) v (by simpa using hv))
    rw [putAll_words] at hc
    have hi := i35
    cases hq : Try.prog.info? 25 with
    | none => rw [hq] at hi; cases hi
    | some i =>
      have hs : i.size = (A35 f').size := by rw [hq] at hi; rw [A35_size]; simpa using hi
      simp [storeVar, sizeOf, typeInfo, hq, Value.cells, hs, hc]
  unfold Oper.wp execOp
  simp only [ho, hx, hy, Instr.storeAt, Instr.sureAddr, Sem.run_bind, Sem.run_pure, Result.andThen_ok, hrun]
  exact hK _ _ hh

theorem of_cells (K M S : Nat) (hM : M < 9007199254740992) (hS : S ≤ 2045) :
    ((P36 (fun _ => 0) K).setIfInBounds (S / 64) (.int .u64 (IntKind.u64.wrap ((M : Int) * 2 ^ (S % 64))))).setIfInBounds (S / 64 + 1) (.int .u64 ((M : Int) / 2 ^ (64 - S % 64))) = P36 (wd (M * 2 ^ S)) K := by
  have e1 : IntKind.u64.wrap ((M : Int) * 2 ^ (S % 64)) = ((M * 2 ^ (S % 64) % 18446744073709551616 : Nat) : Int) := by
    rw [IntKind.wrap_u64, Int.natCast_emod, Int.natCast_mul, Int.natCast_pow]; rfl
  have e2 : (M : Int) / 2 ^ (64 - S % 64) = ((M / 2 ^ (64 - S % 64) : Nat) : Int) := by
    rw [Int.natCast_ediv, Int.natCast_pow]; rfl
  rw [e1, e2, P36_set _ _ _ _ (by omega), P36_set _ _ _ _ (by omega)]
  refine P36_congr K (A35_congr fun i _ => ?_)
  rw [one_words M S i hM]
theorem setRow_alloc_new2 (w : World) (A : Obj) (c c' : Array Value) (t : TypeId) : ((w.alloc A).alloc (.cells c t)).setRow (w.heap.size + 1) c' = (w.alloc A).alloc (.cells c' t) := by
  have h := World.setRow_alloc_new (w.alloc A) c c' t
  rwa [show (w.alloc A).heap.size = w.heap.size + 1 by simp] at h
theorem built36 (K : Int) : Try.prog.built 27 [(1, .int .u8 K)] = some #[Value.int .u64 0, .int .u64 0, .int .u64 0, .int .u64 0, .int .u64 0, .int .u64 0, .int .u64 0, .int .u64 0, .int .u64 0, .int .u64 0, .int .u64 0, .int .u64 0, .int .u64 0, .int .u64 0, .int .u64 0, .int .u64 0, .int .u64 0, .int .u64 0, .int .u64 0, .int .u64 0, .int .u64 0, .int .u64 0, .int .u64 0, .int .u64 0, .int .u64 0, .int .u64 0, .int .u64 0, .int .u64 0, .int .u64 0, .int .u64 0, .int .u64 0, .int .u64 0, .int .u64 0, .int .u64 0, .int .u64 0, .int .u8 K] := by kernel_rfl
theorem wpList_build36 {ops : Array Oper} {rest : List Oper} {o : Oper} {a : Act} {w : World} {Q : Exit → Act → World → Prop} (hgd : o.guard = none) (x : Operand) (ho : o.op = .build 27 #[(1, x)]) (K : Nat) (hx : a.eval x = .int .u8 K)
    (h : wpList Try.prog ops Q rest (a.put o.dst (.agg (P36 (fun _ => 0) K))) w) : wpList Try.prog ops Q (o :: rest) a w := by
  have e : (#[(1, x)] : Array (Nat × Operand)).map (fun (i, x) => (i, a.eval x)) = #[(1, .int .u8 (K : Int))] := by simp [hx]
  refine wpList_build hgd _ _ ho ?_ ?_
  · rw [e]
    show (Try.prog.built 27 [(1, .int .u8 (K : Int))]).isSome = true
    rw [built36]; rfl
  · rw [e]
    show wpList _ _ _ _ (a.put o.dst (.agg ((Try.prog.built 27 [(1, .int .u8 (K : Int))]).getD #[]))) w
    rw [built36, Option.getD_some, lit36]
    exact h

/-- Two blocks are known. -/
structure Kp2 (w0 : World) (g1 : Nat) (c1 : Array Value) (t1 : TypeId) (g2 : Nat) (c2 : Array Value) (t2 : TypeId) (w : World) : Prop where
  below : Below w0.heap.size w0 w
  row1 : w.heap[g1]? = some (.cells c1 t1 (0, 0))
  row2 : w.heap[g2]? = some (.cells c2 t2 (0, 0))
theorem Kp2.next {w0 : World} {g1 g2 : Nat} {c1 c2 : Array Value} {t1 t2 : TypeId} {w w' : World} (h : Kp2 w0 g1 c1 t1 g2 c2 t2 w) (hb : Below w.heap.size w w') : Kp2 w0 g1 c1 t1 g2 c2 t2 w' :=
  ⟨h.below.trans (hb.mono h.below.size), (hb.block g1 (lt_of_row h.row1)).trans h.row1, (hb.block g2 (lt_of_row h.row2)).trans h.row2⟩
theorem Kp2.put2 {w0 : World} {g1 g2 : Nat} {c1 c2 : Array Value} {t1 t2 : TypeId} {w : World} (h : Kp2 w0 g1 c1 t1 g2 c2 t2 w) (hg : w0.heap.size ≤ g2) (hne : g1 ≠ g2) (c : Array Value) : Kp2 w0 g1 c1 t1 g2 c t2 (w.setRow g2 c) :=
  ⟨below_setRow h.below hg _, (setRow_other w g2 g1 c (by omega)).trans h.row1, setRow_heap _ _ _ _ _ _ h.row2⟩
theorem Kp2.start (w : World) (c1 c2 : Array Value) (t1 t2 : TypeId) : Kp2 w w.heap.size c1 t1 (w.heap.size + 1) c2 t2 ((w.alloc (.cells c1 t1)).alloc (.cells c2 t2)).drew :=
  ⟨((((Below.refl _ _).alloc (Nat.le_refl _) _).alloc (by simp) _)).drew, heap_alloc2_old w _ _, heap_alloc2_new w _ _⟩

set_option maxHeartbeats 1000000 in
theorem of_core (b K : Nat) (neg ok : Bool) (M S U N : Nat) (hk : KdGives b K) (hs : SpGives b neg M S ok) (hS : S ≤ 2045) (HM : Hid (M < 9007199254740992)) (HU : Hid (U = M * 2 ^ S)) (hN : neg = true → NgGives U N) (hN2 : neg = false → N = U) (w : World) :
    Calls Try.prog 72 #[.float .f64 b] w fun e w' => e = .returned (.agg (P36 (wd N) K)) ∧ Below w.heap.size w w' := by
  have HC := Lib.hid (of_cells K M S HM.out hS)
  rw [← HU.out] at HC
  cases neg
  all_goals first
    | (have hM := hN rfl; clear hN hN2)
    | (obtain rfl : U = N := (hN2 rfl).symm; clear hN)
  all_goals
    go_enter Try.func72, Try.ntmps72
    go_wp2_with (first
      | (go_at_call 86; (with_reducible refine (hk.at _).mono ?_); rintro e w' ⟨rfl, rfl⟩)
      | (refine wpList_build36 rfl (.tmp 11) rfl K rfl ?_)
      | (rw [zeros36]; refine wpList_store_row rfl 27 (.tmp 3) (.tmp 12) rfl (w.heap.size + 1) (P36 (fun _ => 0) K) rfl rfl _ _ (heap_alloc2_new w _ _) (i36 _ _) (by rw [P36_size, P36_size]) (one36 _ _) ?_; rw [setRow_alloc_new2])
      | (go_at_call 87; (with_reducible refine (hs.at _).mono ?_); rintro e w' ⟨rfl, rfl⟩))
    have g1 := P36_word (fun _ => 0) K (S / 64) (by omega)
    have g2 := P36_word (fun _ => 0) K (S / 64 + 1) (by omega)
    go_region
    rw [HC.out]
    clear g1 g2
    have hq := Kp2.start w (P36 (fun _ => 0) 0) (P36 (wd U) K) 27 27
    go_wp2_with (first
      | (refine wpList_words rfl (.tmp 39) rfl (w.heap.size + 1) rfl (wd U) K _ _ hq.row2 ?_)
      | (go_at_call 75; (with_reducible refine (hM.at _).mono ?_); rintro e w' ⟨rfl, hb⟩; replace hq := hq.next hb; clear hb)
      | (refine wpList_put rfl (.tmp 42) (.tmp 41) rfl (w.heap.size + 1) rfl (wd N) rfl (wd U) K _ hq.row2 ?_; replace hq := hq.put2 (by omega) (by omega) (P36 (wd N) K))
      | (refine wpList_load_row rfl 27 (.tmp 3) rfl (w.heap.size + 1) rfl _ (P36 (wd _) K) (0, 0) _ hq.row2 u27 rfl (i36 _ _) ?_)
      | (refine wpList_store_row rfl 27 (.tmp 2) (.tmp 43) rfl w.heap.size (P36 (wd _) K) rfl rfl _ _ hq.row1 (i36 _ _) (by rw [P36_size, P36_size]) (one36 _ _) ?_))
    exact post_row 2 27 Try.results72 rfl w.heap.size 27 _ (0, 0) _ rfl (setRow_heap _ _ _ _ _ _ hq.row1) u27 rfl (i36 _ _) ⟨rfl, below_setRow hq.below (Nat.le_refl _) _⟩
theorem val_zero_pow (r : Nat) : Fl.val r = Fl.mant r * 2 ^ Fl.shf r := rfl
/-- One number as a sum. -/
theorem of_one (b : Nat) (hb : b < 18446744073709551616) (w : World) :
    Calls Try.prog 72 #[.float .f64 b] w fun e w' => e = .returned (.agg (P36 (wd (unit b)) (kindB b))) ∧ Below w.heap.size w w' := by
  by_cases hi : Fl.rung b < 9218868437227405312
  · have hs : Fl.shf (Fl.rung b) ≤ 2045 := by unfold Fl.shf; split <;> omega
    have hv := val_lt _ hi
    have ht := top_33
    have hp := pw_pos 33
    refine of_core b (kindB b) (decide (9223372036854775808 ≤ b)) true (Fl.mant (Fl.rung b)) (Fl.shf (Fl.rung b)) (Fl.val (Fl.rung b)) (unit b) (fun w => kind_any b hb w) (fun w => ?_) hs (Fl.mant_lt _) rfl (fun h w => ?_) (fun h => ?_) w
    · by_cases h : Fl.rung b < 4503599627370496
      · exact split_small b hb h w
      · exact split_norm b hb (by omega) hi w
    · have e : unit b = neg (Fl.val (Fl.rung b)) := by
        unfold unit; rw [if_neg (by omega), if_pos (of_decide_eq_true h)]
      rw [e]
      exact negated_any _ (by omega) w
    · unfold unit; rw [if_neg (by omega), if_neg (of_decide_eq_false h)]
  · have e : unit b = 0 := by unfold unit; rw [if_pos (by omega)]
    rw [e]
    exact of_core b (kindB b) false false 0 0 0 0 (fun w => kind_any b hb w) (fun w => split_bad b hb (by omega) w) (by omega) (by show 0 < _; omega) rfl (fun h => by cases h) (fun _ => rfl) w

end Go.Proofs.Ythklamgdoknmeaa
