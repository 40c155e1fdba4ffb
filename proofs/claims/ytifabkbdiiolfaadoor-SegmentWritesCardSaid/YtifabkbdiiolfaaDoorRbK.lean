/-
  Layer column: the document's own As: plain, as distances, as runs.
-/
import Derived.Test.YtifabkbdiiolfaaDoorRaK
open List renaming getElem_toArray → qz0, getElem_cons_zero → qz1, getElem_cons_succ → qz2, setIfInBounds_toArray → qz3, set_cons_zero → qz4, set_cons_succ → qz5
set_option linter.unusedSimpArgs false
set_option linter.unusedVariables false
set_option maxRecDepth 20000
namespace Go.Proofs.YtifabkbdiiolfaaDoor
open Go.RowKit Go.WideShapes Col
theorem yb_bin {ops : Array Oper} {S : World → Prop} {op : Oper} {a : Act} (hw : Region.wanted op (yielded ops a.tmps) = true) (o : BinOp) (t t2 : TypeId) (x y : Operand) (ho : op.op = .binOp o t x y t2) (v1 v2 u : Value) (hx : a.eval x = v1) (hy : a.eval y = v2)
  (he : ∀ w, (eqGuard o t x y v1 v2).run Tryd.prog w = .ok () w) (h : ∀ w, (binOp o t v1 v2).run Tryd.prog w = .ok u w) : YieldsIf Tryd.prog ops S op u a :=
 .inl ⟨hw, fun w _ => by
  unfold execOp
  simp only [ho, hx, hy, Sem.run_bind, Sem.run_pure, he w, h w, Result.andThen_ok]⟩
theorem yb_len {ops : Array Oper} {S : World → Prop} {op : Oper} {a : Act} (hw : Region.wanted op (yielded ops a.tmps) = true) (x : Operand) (ho : op.op = .call { callee := .builtin .len, args := #[x], argTypes := #[68] }) (A : Option Addr) (n c : Nat) (hx : a.eval x = .slice A n c) : YieldsIf Tryd.prog ops S op (.int .i64 (n : Int)) a :=
 .inl ⟨hw, fun w _ => by
  unfold execOp
  simp only [ho, resolve, invoke, builtin, Sem.run_bind, Sem.run_pure, Result.andThen_ok, List.map_toArray, List.map_cons, List.map_nil, hx]
  rfl⟩
theorem lv_i64 (w : World) (g j : Nat) (v : Value) (h : w.cell? ⟨g, j, none⟩ = some v) : (loadVar 2 ⟨g, j, none⟩).run Tryd.prog w = .ok v w := by
 go_simp
theorem yb_ld {ops : Array Oper} {S : World → Prop} {op : Oper} {a : Act} (hw : Region.wanted op (yielded ops a.tmps) = true) (x : Operand) (ho : op.op = .load 2 x) (g j : Nat) (hx : a.eval x = .pointer (some ⟨g, j, none⟩)) (v : Value)
  (hS : ∀ w, S w → w.cell? ⟨g, j, none⟩ = some v) : YieldsIf Tryd.prog ops S op v a :=
 .inl ⟨hw, fun w hw' => by
  unfold execOp
  simp only [ho, hx, Instr.loadAt, Instr.sureAddr, Sem.run_bind, Sem.run_pure, Result.andThen_ok, lv_i64 w g j v (hS w hw')]⟩
theorem ix_i64 (g off m c k : Nat) (h : k < m) (w : World) : (Instr.indexAt 68 (.slice (some ⟨g, off, none⟩) m c) (.int .i64 (k : Int))).run Tryd.prog w = .ok (.pointer (some ⟨g, off + k, none⟩)) w := by
 have h1 : (k : Int) < (m : Int) := by omega
 first | (go_simp; done) | (go_simp; intro h; exfalso; omega)
theorem yb_ix {ops : Array Oper} {S : World → Prop} {op : Oper} {a : Act} (hw : Region.wanted op (yielded ops a.tmps) = true) (x y : Operand) (ho : op.op = .indexAddr 68 x y) (g off m c k : Nat) (hx : a.eval x = .slice (some ⟨g, off, none⟩) m c) (hy : a.eval y = .int .i64 (k : Int)) (h : k < m) : YieldsIf Tryd.prog ops S op (.pointer (some ⟨g, off + k, none⟩)) a :=
 .inl ⟨hw, fun w _ => by
  unfold execOp
  simp only [ho, hx, hy, Sem.run_bind, Sem.run_pure, Result.andThen_ok, ix_i64 g off m c k h w]⟩
theorem yb_pick {ops : Array Oper} {S : World → Prop} {op : Oper} {a : Act} (hw : Region.wanted op (yielded ops a.tmps) = true) (x y z : Operand) (ho : op.op = .pick x y z) (b : Bool) (v : Value) (hx : a.eval x = .bool b) (hv : (if b then a.eval y else a.eval z) = v) : YieldsIf Tryd.prog ops S op v a :=
 .inl ⟨hw, fun w _ => by
  unfold execOp
  subst hv
  cases b <;> simp only [ho, hx] <;> rfl⟩
theorem b_eq (x y : Int) (b : Bool) (h : (x == y) = b) (w : World) : (binOp .eql 2 (.int .i64 x) (.int .i64 y)).run Tryd.prog w = .ok (.bool b) w := by
 subst h
 first | rfl | go_simp
theorem b_add (k : Nat) (hk : k ≤ 5000) (w : World) : (binOp .add 3 (.int .i64 (k : Int)) (.int .i64 1)).run Tryd.prog w = .ok (.int .i64 ((k + 1 : Nat) : Int)) w := by
 have e : IntKind.i64.wrap ((k : Int) + 1) = ((k + 1 : Nat) : Int) := by rw [IntKind.wrap_i64]; omega
 rw [← e]; rfl
theorem b_lss (x y : Int) (b : Bool) (h : decide (x < y) = b) (w : World) : (binOp .lss 3 (.int .i64 x) (.int .i64 y)).run Tryd.prog w = .ok (.bool b) w := by
 subst h; rfl
/-- Bytes that a call owns, n of them at most. -/
def PB2 (W : World) (u : Value) (bytes : List Nat) (top : Nat) (wr : World) : Prop := ∃ (A : Option Addr) (n cap : Nat), u = .slice A n cap ∧ n ≤ top ∧ OwnS wr W.heap.size A n cap bytes ∧ Below W.heap.size W wr
def RP0 (W : World) (pre : List Nat) (l : List Int) (m : Nat) (u v : Value) (wr : World) : Prop := ∃ k : Nat, k ≤ m ∧ v = .int .i64 (k : Int) ∧ PB2 W u (pre ++ lpl (l.take k)) (20 + 10 * k) wr
def RP1 (W : World) (pre : List Nat) (l : List Int) (m : Nat) (u v : Value) (wr : World) : Prop := ∃ k : Nat, k ≤ m ∧ v = .int .i64 (k : Int) ∧ PB2 W u (pre ++ lde 0 (l.take k)) (20 + 10 * k) wr
/-- So far as the runs are told: k numbers are gone through, j of them, all alike, are not told yet. -/
def RP2 (W : World) (pre : List Nat) (l : List Int) (m : Nat) (u c v : Value) (wr : World) : Prop := ∃ (k j : Nat) (p : List Nat) (x : Int), k ≤ m ∧ j ≤ k ∧ v = .int .i64 (k : Int) ∧ c = .int .u64 (j : Int) ∧ PB2 W u p (20 + 20 * k) wr ∧ p ++ lru (l.drop (k - j)) = pre ++ lru l ∧ (∀ i, k - j ≤ i → i < k → l[i]? = some x) ∧ (0 < j → l[k]? = some x)
set_option maxHeartbeats 4000000 in
theorem refAs0_any (b : Option Addr) (m c : Nat) (l : List Int) (hm : Hid (m = l.length)) (hmc : m ≤ c) (hc : c ≤ 9223372036854775807) (hm1 : m ≤ 5000) (W : World) (HL : Hid (IsAt W b l)) :
  Calls Tryd.prog 59 #[.int .u8 0, .slice b m c] W (Puts W.heap.size W (asL 0 l)) := by
 have hmw : IntKind.u64.wrap (m : Int) = (m : Int) := by rw [IntKind.wrap_u64]; omega
 have HU := Lib.hid (refU_any m (by omega))
 have HU10 := Lib.hid (ub10 (show m < 18446744073709551616 by omega))
 have HO0 : Hid (OwnS (W.alloc (.cells #[.int .u8 0] 5)) W.heap.size (some ⟨W.heap.size, 0, none⟩) 1 1 [0]) := Lib.hid (OwnS.of_row (cs := [.int .u8 0]) (heap_alloc_new' W _) rfl (by decide) rfl rfl (Nat.le_refl _) (fun x hx => by simp at hx; omega))
 have HB0 : Hid (Below W.heap.size W (W.alloc (.cells #[.int .u8 0] 5))) := Lib.hid ((Below.refl _ _).alloc (Nat.le_refl _) _)
 have HRES : Hid (asL 0 l = ([0] ++ ub m) ++ lpl l) := Lib.hid (by rw [hm.out]; rfl)
 go_enter Tryd.func59, Tryd.ntmps59
 go_wp2_with (first
  | (go_at_call 17; refine (HU.out _).mono ?_; rintro e w2 hp; obtain ⟨A2, n2, c2, rfl, HO2, HB2, hn2⟩ := hp.at; have HN2 := Lib.hid hn2; have hn10 : n2 ≤ 10 := (by have := HU10.out; omega); have HO3 := Lib.hid (HO0.out.keep HB2.out); have HB3 := Lib.hid (below_to HB0.out HB2.out); clear hp hn2)
  | (refine wpList_append_by rfl (.tmp 22) (.tmp 26) rfl W.heap.size (some ⟨W.heap.size, 0, none⟩) 1 1 [0] rfl HO3.out A2 n2 c2 (ub m) rfl HN2.out HO2.out.byAt (by omega) HB3.out.size ?_; intro A4 c4 w4 ho4 hg4 hr4; have HO4 := Lib.hid ho4; have HB4 := Lib.hid (HB3.out.grown hg4 HB3.out.size HO3.out.base); have hn4 : 1 + n2 ≤ 20 := (by omega); clear ho4 hg4 hr4))
 obtain ⟨N4, hN4⟩ : ∃ N4, N4 = 1 + n2 := ⟨_, rfl⟩
 obtain ⟨pre, hpre⟩ : ∃ pre, pre = [0] ++ ub m := ⟨_, rfl⟩
 rw [← hN4] at HO4 hn4 ⊢
 rw [← hpre] at HO4 HRES
 clear hN4 hpre HO3 HB3 HO0 HB0 HO2 HB2 HU HN2 hn10
 have HST : Hid (RP0 W pre l m (.slice A4 N4 c4) (.int .i64 0) w4) := Lib.hid ⟨0, Nat.zero_le _, rfl, A4, N4, c4, rfl, by omega, by simpa [lpl, lde] using HO4.out, HB4.out⟩
 go_loopw [5, 6] (fun u v wr => RP0 W pre l m u v wr) (fun _ v _ => m - (intOf v).toNat)
 case atStart => exact HST.out
 case round =>
  obtain ⟨k, hk, rfl, A, n, cap, rfl, hn, ho, hb⟩ := hrel
  have HO := Lib.hid ho; have HB := Lib.hid hb
  clear ho hb HST HO4 HB4
  by_cases hlt : k < m
  ·obtain ⟨x, hx⟩ : ∃ x, l[k]? = some x := ⟨l[k]'(by have := hm.out; omega), List.getElem?_eq_getElem _⟩
   obtain ⟨hwx, g, off, rfl, -, hcx⟩ := (HL.out.keep HB.out) k x hx
   have HSN := Lib.hid (lpl_snoc l k x hx)
   have HW := Lib.hid hwx
   have HZ := Lib.hid (zz10 hwx)
   clear hx hwx
   go_wp2_with (first
    | (go_at_call 18; refine (refI_any x HW _).mono ?_; rintro e w2 hp; obtain ⟨A2, n2, c2, rfl, HO2, HB2, hn2⟩ := hp.at; have HN2 := Lib.hid hn2; have hn10 : n2 ≤ 10 := (by have := HZ.out; omega); have HOP := Lib.hid (HO.out.keep HB2.out); have HBP := Lib.hid (below_to HB.out HB2.out); clear hp hn2)
    | (refine wpList_append_by rfl (.tmp 37) (.tmp 42) rfl W.heap.size A n cap _ rfl HOP.out A2 n2 c2 (ub (zz x)) rfl HN2.out HO2.out.byAt (by omega) HBP.out.size ?_; intro A5 c5 w5 ho hg hr; have HO5 := Lib.hid ho; have HB5 := Lib.hid (HBP.out.grown hg HBP.out.size HOP.out.base); clear ho hg hr))
   go_roundw
   case rel => exact ⟨k + 1, by omega, by go_num, A5, _, c5, rfl, by omega, by rw [HSN.out, ← List.append_assoc]; exact HO5.out, HB5.out⟩
   case measure => simp [intOf]; omega
  ·obtain rfl : k = m := by omega
   have HT : Hid (l.take k = l) := Lib.hid (List.take_of_length_le (by have := hm.out; omega))
   rw [HT.out] at HO
   go_wp2
   go_ret
   exact ⟨A, n, cap, rfl, by rw [HRES.out]; exact HO.out, HB.out, HB.out.size⟩
set_option maxHeartbeats 4000000 in
theorem refAs1_any (b : Option Addr) (m c : Nat) (l : List Int) (hm : Hid (m = l.length)) (hmc : m ≤ c) (hc : c ≤ 9223372036854775807) (hm1 : m ≤ 5000) (W : World) (HL : Hid (IsAt W b l)) :
  Calls Tryd.prog 59 #[.int .u8 1, .slice b m c] W (Puts W.heap.size W (asL 1 l)) := by
 have hmw : IntKind.u64.wrap (m : Int) = (m : Int) := by rw [IntKind.wrap_u64]; omega
 have HU := Lib.hid (refU_any m (by omega))
 have HU10 := Lib.hid (ub10 (show m < 18446744073709551616 by omega))
 have HO0 : Hid (OwnS (W.alloc (.cells #[.int .u8 1] 5)) W.heap.size (some ⟨W.heap.size, 0, none⟩) 1 1 [1]) := Lib.hid (OwnS.of_row (cs := [.int .u8 1]) (heap_alloc_new' W _) rfl (by decide) rfl rfl (Nat.le_refl _) (fun x hx => by simp at hx; omega))
 have HB0 : Hid (Below W.heap.size W (W.alloc (.cells #[.int .u8 1] 5))) := Lib.hid ((Below.refl _ _).alloc (Nat.le_refl _) _)
 have HRES : Hid (asL 1 l = ([1] ++ ub m) ++ lde 0 l) := Lib.hid (by rw [hm.out]; rfl)
 go_enter Tryd.func59, Tryd.ntmps59
 go_wp2_with (first
  | (go_at_call 17; refine (HU.out _).mono ?_; rintro e w2 hp; obtain ⟨A2, n2, c2, rfl, HO2, HB2, hn2⟩ := hp.at; have HN2 := Lib.hid hn2; have hn10 : n2 ≤ 10 := (by have := HU10.out; omega); have HO3 := Lib.hid (HO0.out.keep HB2.out); have HB3 := Lib.hid (below_to HB0.out HB2.out); clear hp hn2)
  | (refine wpList_append_by rfl (.tmp 22) (.tmp 26) rfl W.heap.size (some ⟨W.heap.size, 0, none⟩) 1 1 [1] rfl HO3.out A2 n2 c2 (ub m) rfl HN2.out HO2.out.byAt (by omega) HB3.out.size ?_; intro A4 c4 w4 ho4 hg4 hr4; have HO4 := Lib.hid ho4; have HB4 := Lib.hid (HB3.out.grown hg4 HB3.out.size HO3.out.base); have hn4 : 1 + n2 ≤ 20 := (by omega); clear ho4 hg4 hr4))
 obtain ⟨N4, hN4⟩ : ∃ N4, N4 = 1 + n2 := ⟨_, rfl⟩
 obtain ⟨pre, hpre⟩ : ∃ pre, pre = [1] ++ ub m := ⟨_, rfl⟩
 rw [← hN4] at HO4 hn4 ⊢
 rw [← hpre] at HO4 HRES
 clear hN4 hpre HO3 HB3 HO0 HB0 HO2 HB2 HU HN2 hn10
 have HST : Hid (RP1 W pre l m (.slice A4 N4 c4) (.int .i64 0) w4) := Lib.hid ⟨0, Nat.zero_le _, rfl, A4, N4, c4, rfl, by omega, by simpa [lpl, lde] using HO4.out, HB4.out⟩
 go_loopw [5, 7] (fun u v wr => RP1 W pre l m u v wr) (fun _ v _ => m - (intOf v).toNat)
 case atStart => exact HST.out
 case round =>
  obtain ⟨k, hk, rfl, A, n, cap, rfl, hn, ho, hb⟩ := hrel
  have HO := Lib.hid ho; have HB := Lib.hid hb
  clear ho hb HST HO4 HB4
  by_cases hlt : k < m
  ·obtain ⟨x, hx⟩ : ∃ x, l[k]? = some x := ⟨l[k]'(by have := hm.out; omega), List.getElem?_eq_getElem _⟩
   obtain ⟨hwx, g, off, rfl, -, hcx⟩ := (HL.out.keep HB.out) k x hx
   have HSN := Lib.hid (lde_snoc l k x hx)
   by_cases hk0 : k = 0
   ·subst hk0
    rw [Nat.add_zero] at hcx
    obtain ⟨y, hy⟩ : ∃ y, y = wrap64 (x - 0) := ⟨_, rfl⟩
    have HY : Hid (sub64 x (lastOf 0 (l.take 0)) = y) := Lib.hid (by rw [hy]; exact sub64_eq x 0)
    have hyx : y = x := by rw [hy]; unfold wrap64; unfold Wf64 at hwx; omega
    rw [HY.out] at HSN
    subst hyx
    have HW := Lib.hid hwx
    have HZ := Lib.hid (zz10 hwx)
    have hxw : wrap64 y = y := by unfold wrap64; unfold Wf64 at hwx; omega
    obtain ⟨hw1, hw2⟩ := hwx
    clear hx hy HY
    go_wp2_with (first
     | (go_at_call 18; refine (refI_any y HW _).mono ?_; rintro e w2 hp; obtain ⟨A2, n2, c2, rfl, HO2, HB2, hn2⟩ := hp.at; have HN2 := Lib.hid hn2; have hn10 : n2 ≤ 10 := (by have := HZ.out; omega); have HOP := Lib.hid (HO.out.keep HB2.out); have HBP := Lib.hid (below_to HB.out HB2.out); clear hp hn2)
     | (refine wpList_append_by rfl (.tmp 59) (.tmp 66) rfl W.heap.size A n cap _ rfl HOP.out A2 n2 c2 (ub (zz y)) rfl HN2.out HO2.out.byAt (by omega) HBP.out.size ?_; intro A5 c5 w5 ho hg hr; have HO5 := Lib.hid ho; have HB5 := Lib.hid (HBP.out.grown hg HBP.out.size HOP.out.base); clear ho hg hr))
    go_roundw
    case rel => exact ⟨0 + 1, by omega, by go_num, A5, _, c5, rfl, by omega, by rw [HSN.out, ← List.append_assoc]; exact HO5.out, HB5.out⟩
    case measure => simp [intOf]; omega
   ·obtain ⟨j, rfl⟩ : ∃ j, k = j + 1 := ⟨k - 1, by omega⟩
    obtain ⟨z, hz⟩ : ∃ z, l[j]? = some z := ⟨l[j]'(by have := hm.out; omega), List.getElem?_eq_getElem _⟩
    have hcz : wr.cell? ⟨g, off + j, none⟩ = some (.int .i64 z) := by
     obtain ⟨-, g', off', e, hcz⟩ := int_cell (HL.out.keep HB.out) j z hz
     injection e with e; injection e with e1 e2; subst e1; subst e2
     exact hcz
    rw [lastOf_snoc 0 l j z hz] at HSN
    obtain ⟨y, hy⟩ : ∃ y, y = wrap64 (x - z) := ⟨_, rfl⟩
    rw [sub64_eq, ← hy] at HSN
    have HY := Lib.hid hy
    have HW : Hid (Wf64 y) := Lib.hid (by rw [hy]; exact wrap64_wf' _)
    have HZ := Lib.hid (zz10 HW.out)
    have hj1 : ((j + 1 : Nat) : Int) - 1 = (j : Int) := by omega
    have hjm : (j : Int) < (m : Int) := by omega
    have hj0 : (0 : Int) < ((j + 1 : Nat) : Int) := by omega
    clear hx hwx hy hz hk0
    go_wp2_with (first
     | (go_at_call 18; rw [← HY.out]; refine (refI_any y HW _).mono ?_; rintro e w2 hp; obtain ⟨A2, n2, c2, rfl, HO2, HB2, hn2⟩ := hp.at; have HN2 := Lib.hid hn2; have hn10 : n2 ≤ 10 := (by have := HZ.out; omega); have HOP := Lib.hid (HO.out.keep HB2.out); have HBP := Lib.hid (below_to HB.out HB2.out); clear hp hn2)
     | (refine wpList_append_by rfl (.tmp 59) (.tmp 66) rfl W.heap.size A n cap _ rfl HOP.out A2 n2 c2 (ub (zz y)) rfl HN2.out HO2.out.byAt (by omega) HBP.out.size ?_; intro A5 c5 w5 ho hg hr; have HO5 := Lib.hid ho; have HB5 := Lib.hid (HBP.out.grown hg HBP.out.size HOP.out.base); clear ho hg hr))
    go_roundw
    case rel => exact ⟨j + 1 + 1, by omega, by go_num, A5, _, c5, rfl, by omega, by rw [HSN.out, ← List.append_assoc]; exact HO5.out, HB5.out⟩
    case measure => simp [intOf]; omega
  ·obtain rfl : k = m := by omega
   have HT : Hid (l.take k = l) := Lib.hid (List.take_of_length_le (by have := hm.out; omega))
   rw [HT.out] at HO
   go_wp2
   go_ret
   exact ⟨A, n, cap, rfl, by rw [HRES.out]; exact HO.out, HB.out, HB.out.size⟩
set_option maxHeartbeats 4000000 in
theorem refAs2_any (b : Option Addr) (m c : Nat) (l : List Int) (hm : Hid (m = l.length)) (hmc : m ≤ c) (hc : c ≤ 9223372036854775807) (hm1 : m ≤ 5000) (W : World) (HL : Hid (IsAt W b l)) :
  Calls Tryd.prog 59 #[.int .u8 2, .slice b m c] W (Puts W.heap.size W (asL 2 l)) := by
 have hmw : IntKind.u64.wrap (m : Int) = (m : Int) := by rw [IntKind.wrap_u64]; omega
 have HU := Lib.hid (refU_any m (by omega))
 have HU10 := Lib.hid (ub10 (show m < 18446744073709551616 by omega))
 have HO0 : Hid (OwnS (W.alloc (.cells #[.int .u8 2] 5)) W.heap.size (some ⟨W.heap.size, 0, none⟩) 1 1 [2]) := Lib.hid (OwnS.of_row (cs := [.int .u8 2]) (heap_alloc_new' W _) rfl (by decide) rfl rfl (Nat.le_refl _) (fun x hx => by simp at hx; omega))
 have HB0 : Hid (Below W.heap.size W (W.alloc (.cells #[.int .u8 2] 5))) := Lib.hid ((Below.refl _ _).alloc (Nat.le_refl _) _)
 have HRES : Hid (asL 2 l = ([2] ++ ub m) ++ lru l) := Lib.hid (by rw [hm.out]; rfl)
 go_enter Tryd.func59, Tryd.ntmps59
 go_wp2_with (first
  | (go_at_call 17; refine (HU.out _).mono ?_; rintro e w2 hp; obtain ⟨A2, n2, c2, rfl, HO2, HB2, hn2⟩ := hp.at; have HN2 := Lib.hid hn2; have hn10 : n2 ≤ 10 := (by have := HU10.out; omega); have HO3 := Lib.hid (HO0.out.keep HB2.out); have HB3 := Lib.hid (below_to HB0.out HB2.out); clear hp hn2)
  | (refine wpList_append_by rfl (.tmp 22) (.tmp 26) rfl W.heap.size (some ⟨W.heap.size, 0, none⟩) 1 1 [2] rfl HO3.out A2 n2 c2 (ub m) rfl HN2.out HO2.out.byAt (by omega) HB3.out.size ?_; intro A4 c4 w4 ho4 hg4 hr4; have HO4 := Lib.hid ho4; have HB4 := Lib.hid (HB3.out.grown hg4 HB3.out.size HO3.out.base); have hn4 : 1 + n2 ≤ 20 := (by omega); clear ho4 hg4 hr4))
 obtain ⟨N4, hN4⟩ : ∃ N4, N4 = 1 + n2 := ⟨_, rfl⟩
 obtain ⟨pre, hpre⟩ : ∃ pre, pre = [2] ++ ub m := ⟨_, rfl⟩
 rw [← hN4] at HO4 hn4 ⊢
 rw [← hpre] at HO4 HRES
 clear hN4 hpre HO3 HB3 HO0 HB0 HO2 HB2 HU HN2 hn10
 have HST : Hid (RP2 W pre l m (.slice A4 N4 c4) (.int .u64 0) (.int .i64 0) w4) := Lib.hid ⟨0, 0, pre, 0, Nat.zero_le _, Nat.le_refl _, rfl, rfl, ⟨A4, N4, c4, rfl, by omega, HO4.out, HB4.out⟩, rfl, fun i h1 h2 => by omega, fun h => by omega⟩
 go_loopw [5, 9, 10] (fun u c v wr => RP2 W pre l m u c v wr) (fun _ _ v _ => m - (intOf v).toNat)
 case atStart => exact HST.out
 case round =>
  obtain ⟨k, j, p, y0, hk, hj, rfl, rfl, ⟨A, n, cap, rfl, hn, ho, hb⟩, hpp, hall, hjx⟩ := hrel
  have HO := Lib.hid ho; have HB := Lib.hid hb; have HP := Lib.hid hpp; have HALL := Lib.hid hall; have HJX := Lib.hid hjx
  clear ho hb HST HO4 HB4 hpp hall hjx
  by_cases hlt : k < m
  ·obtain ⟨x, hx⟩ : ∃ x, l[k]? = some x := ⟨l[k]'(by have := hm.out; omega), List.getElem?_eq_getElem _⟩
   have HX := Lib.hid hx
   obtain ⟨hwx, g, off, rfl, hg, hcx⟩ := (HL.out.keep HB.out) k x hx
   have HG := Lib.hid hg
   have HCX := Lib.hid hcx
   have HAX : Hid (∀ i, k - j ≤ i → i < k + 1 → l[i]? = some x) := Lib.hid fun i h1 h2 => by
    by_cases e : i = k
    ·subst e; exact hx
    ·have h3 := HALL.out i h1 (by omega)
     have h4 := HJX.out (by omega)
     rw [hx] at h4; injection h4 with h4; subst h4; exact h3
   have HW := Lib.hid hwx
   have HZ := Lib.hid (zz10 hwx)
   clear hx hwx hg
   by_cases hnx : k + 1 < m
   ·obtain ⟨z, hz⟩ : ∃ z, l[k + 1]? = some z := ⟨l[k + 1]'(by have := hm.out; omega), List.getElem?_eq_getElem _⟩
    have HZZ := Lib.hid hz
    have HCZ : Hid (wr.cell? ⟨g, off + (k + 1), none⟩ = some (.int .i64 z)) := Lib.hid (by
     obtain ⟨-, g', off', e, hcz⟩ := int_cell (HL.out.keep HB.out) (k + 1) z hz
     injection e with e; injection e with e1 e2; subst e1; subst e2
     exact hcz)
    have hnxi : ((k + 1 : Nat) : Int) < (m : Int) := by omega
    have hnxi2 : (k : Int) + 1 < (m : Int) := by omega
    clear hz hcx
    by_cases hzx : z = x
    ·subst hzx
     go_upto_region 22 with fail
     refine wp_region_held_drew (S := fun w => Below wr.heap.size wr w) (by kernel_rfl) ((Below.refl _ _).drew) (fun hHeld => ?_)
     refine wpAnyH_take (i := 0) (v := .int .i64 (k : Int)) rfl (by kernel_rfl) (by kernel_rfl) (by kernel_rfl) (fun _ _ _ h => h) (Or.inl ⟨by rfl, fun _ _ => rfl⟩) hHeld ?_
     try dsimp only
     try simp only [Act.put, qz0, qz1, qz2, qz3, qz4, qz5]
     refine wpAnyH_take (i := 1) (v := .int .i64 ((k + 1 : Nat) : Int)) rfl (by kernel_rfl) (by kernel_rfl) (by kernel_rfl) (fun _ _ _ h => h) (yb_bin rfl .add 3 3 (.tmp 76) (.const (.int .i64 1)) rfl _ _ _ rfl rfl (fun _ => rfl) (b_add k (by omega))) hHeld ?_
     try dsimp only
     try simp only [Act.put, qz0, qz1, qz2, qz3, qz4, qz5]
     refine wpAnyH_take (i := 2) (v := .slice (some ⟨g, off, none⟩) m c) rfl (by kernel_rfl) (by kernel_rfl) (by kernel_rfl) (fun _ _ _ h => h) (Or.inl ⟨by rfl, fun _ _ => rfl⟩) hHeld ?_
     try dsimp only
     try simp only [Act.put, qz0, qz1, qz2, qz3, qz4, qz5]
     refine wpAnyH_take (i := 3) (v := .int .i64 (m : Int)) rfl (by kernel_rfl) (by kernel_rfl) (by kernel_rfl) (fun _ _ _ h => h) (yb_len rfl (.tmp 78) rfl _ _ _ rfl) hHeld ?_
     try dsimp only
     try simp only [Act.put, qz0, qz1, qz2, qz3, qz4, qz5]
     refine wpAnyH_take (i := 4) (v := .bool true) rfl (by kernel_rfl) (by kernel_rfl) (by kernel_rfl) (fun _ _ _ h => h) (yb_bin rfl .lss 3 3 (.tmp 77) (.tmp 79) rfl _ _ _ rfl rfl (fun _ => rfl) (b_lss _ _ true (by simpa using hnxi))) hHeld ?_
     try dsimp only
     try simp only [Act.put, qz0, qz1, qz2, qz3, qz4, qz5]
     refine wpAnyH_take (i := 5) (v := .bool true) rfl (by kernel_rfl) (by kernel_rfl) (by kernel_rfl) (fun _ _ _ h => h) (Or.inl ⟨by rfl, fun _ _ => rfl⟩) hHeld ?_
     try dsimp only
     try simp only [Act.put, qz0, qz1, qz2, qz3, qz4, qz5]
     refine wpAnyH_take (i := 6) (v := .slice (some ⟨g, off, none⟩) m c) rfl (by kernel_rfl) (by kernel_rfl) (by kernel_rfl) (fun _ _ _ h => h) (Or.inl ⟨by rfl, fun _ _ => rfl⟩) hHeld ?_
     try dsimp only
     try simp only [Act.put, qz0, qz1, qz2, qz3, qz4, qz5]
     refine wpAnyH_take (i := 7) (v := .int .i64 (k : Int)) rfl (by kernel_rfl) (by kernel_rfl) (by kernel_rfl) (fun _ _ _ h => h) (Or.inl ⟨by rfl, fun _ _ => rfl⟩) hHeld ?_
     try dsimp only
     try simp only [Act.put, qz0, qz1, qz2, qz3, qz4, qz5]
     refine wpAnyH_take (i := 8) (v := .int .i64 ((k + 1 : Nat) : Int)) rfl (by kernel_rfl) (by kernel_rfl) (by kernel_rfl) (fun _ _ _ h => h) (yb_bin rfl .add 3 3 (.tmp 83) (.const (.int .i64 1)) rfl _ _ _ rfl rfl (fun _ => rfl) (b_add k (by omega))) hHeld ?_
     try dsimp only
     try simp only [Act.put, qz0, qz1, qz2, qz3, qz4, qz5]
     refine wpAnyH_take (i := 9) (v := .pointer (some ⟨g, off + (k + 1), none⟩)) rfl (by kernel_rfl) (by kernel_rfl) (by kernel_rfl) (fun _ _ _ h => h) (yb_ix rfl (.tmp 82) (.tmp 84) rfl g off m c (k + 1) rfl rfl hnx) hHeld ?_
     try dsimp only
     try simp only [Act.put, qz0, qz1, qz2, qz3, qz4, qz5]
     refine wpAnyH_take (i := 10) (v := .int .i64 z) rfl (by kernel_rfl) (by kernel_rfl) (by kernel_rfl) (fun _ _ _ h => h) (yb_ld rfl (.tmp 85) rfl g (off + (k + 1)) rfl _ (fun w hw => (hw.cell (p := ⟨g, off + (k + 1), none⟩) HG.out).trans HCZ.out)) hHeld ?_
     try dsimp only
     try simp only [Act.put, qz0, qz1, qz2, qz3, qz4, qz5]
     refine wpAnyH_take (i := 11) (v := .slice (some ⟨g, off, none⟩) m c) rfl (by kernel_rfl) (by kernel_rfl) (by kernel_rfl) (fun _ _ _ h => h) (Or.inl ⟨by rfl, fun _ _ => rfl⟩) hHeld ?_
     try dsimp only
     try simp only [Act.put, qz0, qz1, qz2, qz3, qz4, qz5]
     refine wpAnyH_take (i := 12) (v := .int .i64 (k : Int)) rfl (by kernel_rfl) (by kernel_rfl) (by kernel_rfl) (fun _ _ _ h => h) (Or.inl ⟨by rfl, fun _ _ => rfl⟩) hHeld ?_
     try dsimp only
     try simp only [Act.put, qz0, qz1, qz2, qz3, qz4, qz5]
     refine wpAnyH_take (i := 13) (v := .pointer (some ⟨g, off + k, none⟩)) rfl (by kernel_rfl) (by kernel_rfl) (by kernel_rfl) (fun _ _ _ h => h) (yb_ix rfl (.tmp 87) (.tmp 88) rfl g off m c k rfl rfl hlt) hHeld ?_
     try dsimp only
     try simp only [Act.put, qz0, qz1, qz2, qz3, qz4, qz5]
     refine wpAnyH_take (i := 14) (v := .int .i64 z) rfl (by kernel_rfl) (by kernel_rfl) (by kernel_rfl) (fun _ _ _ h => h) (yb_ld rfl (.tmp 89) rfl g (off + k) rfl _ (fun w hw => (hw.cell (p := ⟨g, off + k, none⟩) HG.out).trans HCX.out)) hHeld ?_
     try dsimp only
     try simp only [Act.put, qz0, qz1, qz2, qz3, qz4, qz5]
     refine wpAnyH_take (i := 15) (v := .bool true) rfl (by kernel_rfl) (by kernel_rfl) (by kernel_rfl) (fun _ _ _ h => h) (yb_bin rfl .eql 2 2 (.tmp 86) (.tmp 90) rfl _ _ _ rfl rfl (fun _ => rfl) (b_eq z z true (by simp))) hHeld ?_
     try dsimp only
     try simp only [Act.put, qz0, qz1, qz2, qz3, qz4, qz5]
     refine wpAnyH_take (i := 16) (v := .bool true) rfl (by kernel_rfl) (by kernel_rfl) (by kernel_rfl) (fun _ _ _ h => h) (yb_pick rfl (.tmp 81) (.tmp 91) (.const (.bool false)) rfl true _ rfl rfl) hHeld ?_
     try dsimp only
     try simp only [Act.put, qz0, qz1, qz2, qz3, qz4, qz5]
     refine wpAnyH_done (by kernel_rfl) ?_ _
     have HB9 := Lib.hid (below_to HB.out hHeld)
     have HO9 := Lib.hid (HO.out.keep hHeld)
     clear hHeld
     go_wp2
     go_roundw
     case rel => exact ⟨k + 1, j + 1, p, z, by omega, by omega, by go_num, by go_num, ⟨A, n, cap, rfl, by omega, HO9.out, HB9.out⟩, by rw [show k + 1 - (j + 1) = k - j by omega]; exact HP.out, fun i h1 h2 => HAX.out i (by omega) h2, fun _ => HZZ.out⟩
     case measure => simp [intOf]; omega
    ·have HST2 := Lib.hid (lru_step (l.drop (k - j)) x (j + 1) (by omega) (fun i hi => by rw [List.getElem?_drop]; exact HAX.out _ (by omega) (by omega)) (.inr ⟨z, by rw [List.getElem?_drop, show k - j + (j + 1) = k + 1 by omega]; exact HZZ.out, hzx⟩))
     have HNE := Lib.hid hzx
     clear hzx
     go_upto_region 22 with fail
     refine wp_region_held_drew (S := fun w => Below wr.heap.size wr w) (by kernel_rfl) ((Below.refl _ _).drew) (fun hHeld => ?_)
     refine wpAnyH_take (i := 0) (v := .int .i64 (k : Int)) rfl (by kernel_rfl) (by kernel_rfl) (by kernel_rfl) (fun _ _ _ h => h) (Or.inl ⟨by rfl, fun _ _ => rfl⟩) hHeld ?_
     try dsimp only
     try simp only [Act.put, qz0, qz1, qz2, qz3, qz4, qz5]
     refine wpAnyH_take (i := 1) (v := .int .i64 ((k + 1 : Nat) : Int)) rfl (by kernel_rfl) (by kernel_rfl) (by kernel_rfl) (fun _ _ _ h => h) (yb_bin rfl .add 3 3 (.tmp 76) (.const (.int .i64 1)) rfl _ _ _ rfl rfl (fun _ => rfl) (b_add k (by omega))) hHeld ?_
     try dsimp only
     try simp only [Act.put, qz0, qz1, qz2, qz3, qz4, qz5]
     refine wpAnyH_take (i := 2) (v := .slice (some ⟨g, off, none⟩) m c) rfl (by kernel_rfl) (by kernel_rfl) (by kernel_rfl) (fun _ _ _ h => h) (Or.inl ⟨by rfl, fun _ _ => rfl⟩) hHeld ?_
     try dsimp only
     try simp only [Act.put, qz0, qz1, qz2, qz3, qz4, qz5]
     refine wpAnyH_take (i := 3) (v := .int .i64 (m : Int)) rfl (by kernel_rfl) (by kernel_rfl) (by kernel_rfl) (fun _ _ _ h => h) (yb_len rfl (.tmp 78) rfl _ _ _ rfl) hHeld ?_
     try dsimp only
     try simp only [Act.put, qz0, qz1, qz2, qz3, qz4, qz5]
     refine wpAnyH_take (i := 4) (v := .bool true) rfl (by kernel_rfl) (by kernel_rfl) (by kernel_rfl) (fun _ _ _ h => h) (yb_bin rfl .lss 3 3 (.tmp 77) (.tmp 79) rfl _ _ _ rfl rfl (fun _ => rfl) (b_lss _ _ true (by simpa using hnxi))) hHeld ?_
     try dsimp only
     try simp only [Act.put, qz0, qz1, qz2, qz3, qz4, qz5]
     refine wpAnyH_take (i := 5) (v := .bool true) rfl (by kernel_rfl) (by kernel_rfl) (by kernel_rfl) (fun _ _ _ h => h) (Or.inl ⟨by rfl, fun _ _ => rfl⟩) hHeld ?_
     try dsimp only
     try simp only [Act.put, qz0, qz1, qz2, qz3, qz4, qz5]
     refine wpAnyH_take (i := 6) (v := .slice (some ⟨g, off, none⟩) m c) rfl (by kernel_rfl) (by kernel_rfl) (by kernel_rfl) (fun _ _ _ h => h) (Or.inl ⟨by rfl, fun _ _ => rfl⟩) hHeld ?_
     try dsimp only
     try simp only [Act.put, qz0, qz1, qz2, qz3, qz4, qz5]
     refine wpAnyH_take (i := 7) (v := .int .i64 (k : Int)) rfl (by kernel_rfl) (by kernel_rfl) (by kernel_rfl) (fun _ _ _ h => h) (Or.inl ⟨by rfl, fun _ _ => rfl⟩) hHeld ?_
     try dsimp only
     try simp only [Act.put, qz0, qz1, qz2, qz3, qz4, qz5]
     refine wpAnyH_take (i := 8) (v := .int .i64 ((k + 1 : Nat) : Int)) rfl (by kernel_rfl) (by kernel_rfl) (by kernel_rfl) (fun _ _ _ h => h) (yb_bin rfl .add 3 3 (.tmp 83) (.const (.int .i64 1)) rfl _ _ _ rfl rfl (fun _ => rfl) (b_add k (by omega))) hHeld ?_
     try dsimp only
     try simp only [Act.put, qz0, qz1, qz2, qz3, qz4, qz5]
     refine wpAnyH_take (i := 9) (v := .pointer (some ⟨g, off + (k + 1), none⟩)) rfl (by kernel_rfl) (by kernel_rfl) (by kernel_rfl) (fun _ _ _ h => h) (yb_ix rfl (.tmp 82) (.tmp 84) rfl g off m c (k + 1) rfl rfl hnx) hHeld ?_
     try dsimp only
     try simp only [Act.put, qz0, qz1, qz2, qz3, qz4, qz5]
     refine wpAnyH_take (i := 10) (v := .int .i64 z) rfl (by kernel_rfl) (by kernel_rfl) (by kernel_rfl) (fun _ _ _ h => h) (yb_ld rfl (.tmp 85) rfl g (off + (k + 1)) rfl _ (fun w hw => (hw.cell (p := ⟨g, off + (k + 1), none⟩) HG.out).trans HCZ.out)) hHeld ?_
     try dsimp only
     try simp only [Act.put, qz0, qz1, qz2, qz3, qz4, qz5]
     refine wpAnyH_take (i := 11) (v := .slice (some ⟨g, off, none⟩) m c) rfl (by kernel_rfl) (by kernel_rfl) (by kernel_rfl) (fun _ _ _ h => h) (Or.inl ⟨by rfl, fun _ _ => rfl⟩) hHeld ?_
     try dsimp only
     try simp only [Act.put, qz0, qz1, qz2, qz3, qz4, qz5]
     refine wpAnyH_take (i := 12) (v := .int .i64 (k : Int)) rfl (by kernel_rfl) (by kernel_rfl) (by kernel_rfl) (fun _ _ _ h => h) (Or.inl ⟨by rfl, fun _ _ => rfl⟩) hHeld ?_
     try dsimp only
     try simp only [Act.put, qz0, qz1, qz2, qz3, qz4, qz5]
     refine wpAnyH_take (i := 13) (v := .pointer (some ⟨g, off + k, none⟩)) rfl (by kernel_rfl) (by kernel_rfl) (by kernel_rfl) (fun _ _ _ h => h) (yb_ix rfl (.tmp 87) (.tmp 88) rfl g off m c k rfl rfl hlt) hHeld ?_
     try dsimp only
     try simp only [Act.put, qz0, qz1, qz2, qz3, qz4, qz5]
     refine wpAnyH_take (i := 14) (v := .int .i64 x) rfl (by kernel_rfl) (by kernel_rfl) (by kernel_rfl) (fun _ _ _ h => h) (yb_ld rfl (.tmp 89) rfl g (off + k) rfl _ (fun w hw => (hw.cell (p := ⟨g, off + k, none⟩) HG.out).trans HCX.out)) hHeld ?_
     try dsimp only
     try simp only [Act.put, qz0, qz1, qz2, qz3, qz4, qz5]
     refine wpAnyH_take (i := 15) (v := .bool false) rfl (by kernel_rfl) (by kernel_rfl) (by kernel_rfl) (fun _ _ _ h => h) (yb_bin rfl .eql 2 2 (.tmp 86) (.tmp 90) rfl _ _ _ rfl rfl (fun _ => rfl) (b_eq z x false (by rw [beq_eq_false_iff_ne]; exact HNE.out))) hHeld ?_
     try dsimp only
     try simp only [Act.put, qz0, qz1, qz2, qz3, qz4, qz5]
     refine wpAnyH_take (i := 16) (v := .bool false) rfl (by kernel_rfl) (by kernel_rfl) (by kernel_rfl) (fun _ _ _ h => h) (yb_pick rfl (.tmp 81) (.tmp 91) (.const (.bool false)) rfl true _ rfl rfl) hHeld ?_
     try dsimp only
     try simp only [Act.put, qz0, qz1, qz2, qz3, qz4, qz5]
     refine wpAnyH_done (by kernel_rfl) ?_ _
     have HB9 := Lib.hid (below_to HB.out hHeld)
     have HO9 := Lib.hid (HO.out.keep hHeld)
     have hc9 := (hHeld.cell (p := ⟨g, off + k, none⟩) HG.out).trans HCX.out
     clear hHeld
     generalize wr.drew = w9 at *
     have hj64 : j < 18446744073709551616 := by omega
     have HUJ := Lib.hid (refU_any j hj64)
     have HJ10 := Lib.hid (ub10 hj64)
     have HNEW : Hid (p ++ ub (zz x) ++ ub j ++ lru (l.drop (k + 1)) = pre ++ lru l) := Lib.hid (by
      rw [← HP.out, HST2.out, List.drop_drop, show k - j + (j + 1) = k + 1 by omega, show j + 1 - 1 = j by omega]; simp only [List.append_assoc])
     have hn6 : n ≤ 120000 := by omega
     go_wp2_with (first
      | (go_at_call 18; refine (refI_any x HW _).mono ?_; rintro e w2 hp; obtain ⟨A2, n2, c2, rfl, HO2, HB2, hn2⟩ := hp.at; have HN2 := Lib.hid hn2; have hn10 : n2 ≤ 10 := (by have := HZ.out; omega); have HOP := Lib.hid (HO9.out.keep HB2.out); have HBP := Lib.hid (below_to HB9.out HB2.out); clear hp hn2)
      | (refine wpList_append_by rfl (.tmp 95) (.tmp 100) rfl W.heap.size A n cap _ rfl HOP.out A2 n2 c2 (ub (zz x)) rfl HN2.out HO2.out.byAt (by omega) HBP.out.size ?_; intro A5 c5 w5 ho hg hr; have HO5 := Lib.hid ho; have HB5 := Lib.hid (HBP.out.grown hg HBP.out.size HOP.out.base); clear ho hg hr)
      | (go_at_call 17; refine (HUJ.out _).mono ?_; rintro e w6 hp; obtain ⟨A6, n6, c6, rfl, HO6, HB6, hn6'⟩ := hp.at; have HN6 := Lib.hid hn6'; have hn610 : n6 ≤ 10 := (by have := HJ10.out; omega); have HOQ := Lib.hid (HO5.out.keep HB6.out); have HBQ := Lib.hid (below_to HB5.out HB6.out); clear hp hn6')
      | (refine wpList_append_by rfl (.tmp 102) (.tmp 104) rfl W.heap.size A5 (n + n2) c5 _ rfl HOQ.out A6 n6 c6 (ub j) rfl HN6.out HO6.out.byAt (by omega) HBQ.out.size ?_; intro A7 c7 w7 ho hg hr; have HO7 := Lib.hid ho; have HB7 := Lib.hid (HBQ.out.grown hg HBQ.out.size HOQ.out.base); clear ho hg hr))
     go_roundw
     case rel => exact ⟨k + 1, 0, p ++ ub (zz x) ++ ub j, x, by omega, Nat.zero_le _, by go_num, rfl, ⟨A7, _, c7, rfl, by omega, HO7.out, HB7.out⟩, by rw [Nat.sub_zero]; exact HNEW.out, fun i h1 h2 => by omega, fun h => by omega⟩
     case measure => simp [intOf]; omega
   ·have HST2 := Lib.hid (lru_step (l.drop (k - j)) x (j + 1) (by omega) (fun i hi => by rw [List.getElem?_drop]; exact HAX.out _ (by omega) (by omega)) (.inl (by rw [List.length_drop, ← hm.out]; omega)))
    have hnxi : ¬ (((k + 1 : Nat) : Int) < (m : Int)) := by omega
    have hnxi2 : ¬ ((k : Int) + 1 < (m : Int)) := by omega
    clear hcx
    go_upto_region 22 with fail
    refine wp_region_held_drew (S := fun w => Below wr.heap.size wr w) (by kernel_rfl) ((Below.refl _ _).drew) (fun hHeld => ?_)
    refine wpAnyH_take (i := 0) (v := .int .i64 (k : Int)) rfl (by kernel_rfl) (by kernel_rfl) (by kernel_rfl) (fun _ _ _ h => h) (Or.inl ⟨by rfl, fun _ _ => rfl⟩) hHeld ?_
    try dsimp only
    try simp only [Act.put, qz0, qz1, qz2, qz3, qz4, qz5]
    refine wpAnyH_take (i := 1) (v := .int .i64 ((k + 1 : Nat) : Int)) rfl (by kernel_rfl) (by kernel_rfl) (by kernel_rfl) (fun _ _ _ h => h) (yb_bin rfl .add 3 3 (.tmp 76) (.const (.int .i64 1)) rfl _ _ _ rfl rfl (fun _ => rfl) (b_add k (by omega))) hHeld ?_
    try dsimp only
    try simp only [Act.put, qz0, qz1, qz2, qz3, qz4, qz5]
    refine wpAnyH_take (i := 2) (v := .slice (some ⟨g, off, none⟩) m c) rfl (by kernel_rfl) (by kernel_rfl) (by kernel_rfl) (fun _ _ _ h => h) (Or.inl ⟨by rfl, fun _ _ => rfl⟩) hHeld ?_
    try dsimp only
    try simp only [Act.put, qz0, qz1, qz2, qz3, qz4, qz5]
    refine wpAnyH_take (i := 3) (v := .int .i64 (m : Int)) rfl (by kernel_rfl) (by kernel_rfl) (by kernel_rfl) (fun _ _ _ h => h) (yb_len rfl (.tmp 78) rfl _ _ _ rfl) hHeld ?_
    try dsimp only
    try simp only [Act.put, qz0, qz1, qz2, qz3, qz4, qz5]
    refine wpAnyH_take (i := 4) (v := .bool false) rfl (by kernel_rfl) (by kernel_rfl) (by kernel_rfl) (fun _ _ _ h => h) (yb_bin rfl .lss 3 3 (.tmp 77) (.tmp 79) rfl _ _ _ rfl rfl (fun _ => rfl) (b_lss _ _ false (by simpa using hnxi))) hHeld ?_
    try dsimp only
    try simp only [Act.put, qz0, qz1, qz2, qz3, qz4, qz5]
    refine wpAnyH_take (i := 5) (v := .bool false) rfl (by kernel_rfl) (by kernel_rfl) (by kernel_rfl) (fun _ _ _ h => h) (Or.inl ⟨by rfl, fun _ _ => rfl⟩) hHeld ?_
    try dsimp only
    try simp only [Act.put, qz0, qz1, qz2, qz3, qz4, qz5]
    refine wpAnyH_take (i := 6) (v := undef) rfl (by kernel_rfl) (by kernel_rfl) (by kernel_rfl) (fun _ _ _ h => h) (Or.inr ⟨by rfl, rfl⟩) hHeld ?_
    try dsimp only
    try simp only [Act.put, qz0, qz1, qz2, qz3, qz4, qz5]
    refine wpAnyH_take (i := 7) (v := undef) rfl (by kernel_rfl) (by kernel_rfl) (by kernel_rfl) (fun _ _ _ h => h) (Or.inr ⟨by rfl, rfl⟩) hHeld ?_
    try dsimp only
    try simp only [Act.put, qz0, qz1, qz2, qz3, qz4, qz5]
    refine wpAnyH_take (i := 8) (v := undef) rfl (by kernel_rfl) (by kernel_rfl) (by kernel_rfl) (fun _ _ _ h => h) (Or.inr ⟨by rfl, rfl⟩) hHeld ?_
    try dsimp only
    try simp only [Act.put, qz0, qz1, qz2, qz3, qz4, qz5]
    refine wpAnyH_take (i := 9) (v := undef) rfl (by kernel_rfl) (by kernel_rfl) (by kernel_rfl) (fun _ _ _ h => h) (Or.inr ⟨by rfl, rfl⟩) hHeld ?_
    try dsimp only
    try simp only [Act.put, qz0, qz1, qz2, qz3, qz4, qz5]
    refine wpAnyH_take (i := 10) (v := undef) rfl (by kernel_rfl) (by kernel_rfl) (by kernel_rfl) (fun _ _ _ h => h) (Or.inr ⟨by rfl, rfl⟩) hHeld ?_
    try dsimp only
    try simp only [Act.put, qz0, qz1, qz2, qz3, qz4, qz5]
    refine wpAnyH_take (i := 11) (v := undef) rfl (by kernel_rfl) (by kernel_rfl) (by kernel_rfl) (fun _ _ _ h => h) (Or.inr ⟨by rfl, rfl⟩) hHeld ?_
    try dsimp only
    try simp only [Act.put, qz0, qz1, qz2, qz3, qz4, qz5]
    refine wpAnyH_take (i := 12) (v := undef) rfl (by kernel_rfl) (by kernel_rfl) (by kernel_rfl) (fun _ _ _ h => h) (Or.inr ⟨by rfl, rfl⟩) hHeld ?_
    try dsimp only
    try simp only [Act.put, qz0, qz1, qz2, qz3, qz4, qz5]
    refine wpAnyH_take (i := 13) (v := undef) rfl (by kernel_rfl) (by kernel_rfl) (by kernel_rfl) (fun _ _ _ h => h) (Or.inr ⟨by rfl, rfl⟩) hHeld ?_
    try dsimp only
    try simp only [Act.put, qz0, qz1, qz2, qz3, qz4, qz5]
    refine wpAnyH_take (i := 14) (v := undef) rfl (by kernel_rfl) (by kernel_rfl) (by kernel_rfl) (fun _ _ _ h => h) (Or.inr ⟨by rfl, rfl⟩) hHeld ?_
    try dsimp only
    try simp only [Act.put, qz0, qz1, qz2, qz3, qz4, qz5]
    refine wpAnyH_take (i := 15) (v := undef) rfl (by kernel_rfl) (by kernel_rfl) (by kernel_rfl) (fun _ _ _ h => h) (Or.inr ⟨by rfl, rfl⟩) hHeld ?_
    try dsimp only
    try simp only [Act.put, qz0, qz1, qz2, qz3, qz4, qz5]
    refine wpAnyH_take (i := 16) (v := .bool false) rfl (by kernel_rfl) (by kernel_rfl) (by kernel_rfl) (fun _ _ _ h => h) (yb_pick rfl (.tmp 81) (.tmp 91) (.const (.bool false)) rfl false _ rfl rfl) hHeld ?_
    try dsimp only
    try simp only [Act.put, qz0, qz1, qz2, qz3, qz4, qz5]
    refine wpAnyH_done (by kernel_rfl) ?_ _
    have HB9 := Lib.hid (below_to HB.out hHeld)
    have HO9 := Lib.hid (HO.out.keep hHeld)
    have hc9 := (hHeld.cell (p := ⟨g, off + k, none⟩) HG.out).trans HCX.out
    clear hHeld
    generalize wr.drew = w9 at *
    have hj64 : j < 18446744073709551616 := by omega
    have HUJ := Lib.hid (refU_any j hj64)
    have HJ10 := Lib.hid (ub10 hj64)
    have HNEW : Hid (p ++ ub (zz x) ++ ub j ++ lru (l.drop (k + 1)) = pre ++ lru l) := Lib.hid (by
     rw [← HP.out, HST2.out, List.drop_drop, show k - j + (j + 1) = k + 1 by omega, show j + 1 - 1 = j by omega]; simp only [List.append_assoc])
    have hn6 : n ≤ 120000 := by omega
    go_wp2_with (first
     | (go_at_call 18; refine (refI_any x HW _).mono ?_; rintro e w2 hp; obtain ⟨A2, n2, c2, rfl, HO2, HB2, hn2⟩ := hp.at; have HN2 := Lib.hid hn2; have hn10 : n2 ≤ 10 := (by have := HZ.out; omega); have HOP := Lib.hid (HO9.out.keep HB2.out); have HBP := Lib.hid (below_to HB9.out HB2.out); clear hp hn2)
     | (refine wpList_append_by rfl (.tmp 95) (.tmp 100) rfl W.heap.size A n cap _ rfl HOP.out A2 n2 c2 (ub (zz x)) rfl HN2.out HO2.out.byAt (by omega) HBP.out.size ?_; intro A5 c5 w5 ho hg hr; have HO5 := Lib.hid ho; have HB5 := Lib.hid (HBP.out.grown hg HBP.out.size HOP.out.base); clear ho hg hr)
     | (go_at_call 17; refine (HUJ.out _).mono ?_; rintro e w6 hp; obtain ⟨A6, n6, c6, rfl, HO6, HB6, hn6'⟩ := hp.at; have HN6 := Lib.hid hn6'; have hn610 : n6 ≤ 10 := (by have := HJ10.out; omega); have HOQ := Lib.hid (HO5.out.keep HB6.out); have HBQ := Lib.hid (below_to HB5.out HB6.out); clear hp hn6')
     | (refine wpList_append_by rfl (.tmp 102) (.tmp 104) rfl W.heap.size A5 (n + n2) c5 _ rfl HOQ.out A6 n6 c6 (ub j) rfl HN6.out HO6.out.byAt (by omega) HBQ.out.size ?_; intro A7 c7 w7 ho hg hr; have HO7 := Lib.hid ho; have HB7 := Lib.hid (HBQ.out.grown hg HBQ.out.size HOQ.out.base); clear ho hg hr))
    go_roundw
    case rel => exact ⟨k + 1, 0, p ++ ub (zz x) ++ ub j, x, by omega, Nat.zero_le _, by go_num, rfl, ⟨A7, _, c7, rfl, by omega, HO7.out, HB7.out⟩, by rw [Nat.sub_zero]; exact HNEW.out, fun i h1 h2 => by omega, fun h => by omega⟩
    case measure => simp [intOf]; omega
  ·obtain rfl : k = m := by omega
   have HE : Hid (p = pre ++ lru l) := Lib.hid (by
    have h := HP.out
    by_cases h0 : 0 < j
    ·have := HJX.out h0
     rw [List.getElem?_eq_none (by have := hm.out; omega)] at this; cases this
    ·rw [show k - j = k by omega, List.drop_of_length_le (by have := hm.out; omega), lru_nil, List.append_nil] at h; exact h)
   rw [HE.out] at HO
   go_wp2
   go_ret
   exact ⟨A, n, cap, rfl, by rw [HRES.out]; exact HO.out, HB.out, HB.out.size⟩
end Go.Proofs.YtifabkbdiiolfaaDoor
