/-
  The law ExactValues, walked.
-/
import Derived.Test.YthklamgdoknmeaaQj
import Derived.Test.YthklamgdoknmeaaQh
import Derived.Test.YthklamgdoknmeaaOs
set_option linter.unusedSimpArgs false
set_option linter.unusedVariables false
set_option maxRecDepth 8000
namespace Go.Proofs.Ythklamgdoknmeaa
open Go.RowKit Go.WideShapes Col Sm Qb
theorem wpAnyH_moreQ {P : Program} {ops : Array Oper} {Q : Exit → Act → World → Prop} {md : Region.Mode} {S S' : World → Prop} (h : ∀ w, S' w → S w) : ∀ {n : Nat} {listed : Array Bool} {a : Act} {w : World}, wpAnyH P md ops Q S' n listed a w → wpAnyH P md ops Q S n listed a w
  | 0, _, _, _, H => H
  | n + 1, _, _, _, H => ⟨H.1, fun i hi => wpOp_mono (fun _ _ h' => ⟨h _ h'.1, wpAnyH_moreQ h h'.2⟩) (H.2 i hi)⟩
theorem yb_binQ {ops : Array Oper} {S : World → Prop} {op : Oper} {a : Act} (hw : Region.wanted op (yielded ops a.tmps) = true) (o : BinOp) (t t2 : TypeId) (x y : Operand) (ho : op.op = .binOp o t x y t2) (v1 v2 u : Value) (hx : a.eval x = v1) (hy : a.eval y = v2)
    (he : ∀ w, (eqGuard o t x y v1 v2).run Try.prog w = .ok () w) (h : ∀ w, (binOp o t v1 v2).run Try.prog w = .ok u w) : YieldsIf Try.prog ops S op u a :=
  .inl ⟨hw, fun w _ => by
    unfold execOp
    simp only [ho, hx, hy, Sem.run_bind, Sem.run_pure, he w, h w, Result.andThen_ok]⟩
theorem yb_convQ {ops : Array Oper} {S : World → Prop} {op : Oper} {a : Act} (hw : Region.wanted op (yielded ops a.tmps) = true) (x : Operand) (ho : op.op = .convert 29 9 x) (v u : Value) (hx : a.eval x = v)
    (h : ∀ w, S w → (convert 29 9 v).run Try.prog w = .ok u w) : YieldsIf Try.prog ops S op u a :=
  .inl ⟨hw, fun w hw' => by
    unfold execOp
    simp only [ho, hx, Sem.run_bind, Sem.run_pure, h w hw', Result.andThen_ok]⟩
theorem b_strQ {l m : List Nat} (hl : ∀ x ∈ l, x < 256) (hm : ∀ x ∈ m, x < 256) {b : Bool} (h : decide (l = m) = b) (w : World) : (binOp .eql 9 (.string (strB l)) (.string (strB m))).run Try.prog w = .ok (.bool b) w := by
  have h2 := beq_strB hl hm
  rw [h] at h2
  rw [← h2]
  go_simp
theorem b_boolQ (b : Bool) (w : World) : (binOp .eql 4 (.bool b) (.bool b)).run Try.prog w = .ok (.bool true) w := by
  cases b <;> rfl
theorem b_gtQ {n : Nat} {b : Bool} (h : decide (0 < (n : Int)) = b) (w : World) : (binOp .gtr 3 (.int .i64 (n : Int)) (.int .i64 0)).run Try.prog w = .ok (.bool b) w := by
  rw [← h]
  rfl
theorem valW_ltQ (n h : Nat) : valW n h < 18446744073709551616 := by
  unfold valW
  split
  · decide
  · split
    · decide
    · split
      · decide
      · split
        · decide
        · exact (nearest_word _ _).2.1
theorem strip_subQ (l : List Nat) : ∀ (m : Nat), ∀ x ∈ strip l m, x ∈ l
  | 0 => fun x h => by unfold strip at h; simp at h
  | k + 1 => fun x h => by
    unfold strip at h
    split at h
    · exact strip_subQ l k x h
    · exact List.mem_of_mem_take h
def anyQ (h : Nat) : Bool := bits .and .u8 (h : Int) 8 != 0
theorem anyQ_tests : ∀ h k : _root_.Fin 32, anyQ (h.val ||| k.val) = (anyQ h.val || anyQ k.val) := by decide +kernel
theorem anyQ_kind (b : Nat) : anyQ (kindB b) = true := by
  unfold kindB
  repeat' split
  all_goals decide
theorem anyQ_acc (l : List Nat) : anyQ (accH l) = !l.isEmpty := by
  refine list_snoc (p := fun l => anyQ (accH l) = !l.isEmpty) rfl (fun l b _ => ?_) l
  rw [accH_snoc, anyQ_tests ⟨accH l, accH_lt l⟩ ⟨kindB b, kindB_lt b⟩]
  show (anyQ (accH l) || anyQ (kindB b)) = _
  rw [anyQ_kind]
  simp
theorem flag_sum : ∀ h : _root_.Fin 32, h.val = (((0 + 1 * (h.val.testBit 0).toNat) + 2 * (h.val.testBit 1).toNat) + 4 * (h.val.testBit 2).toNat) + 8 * (h.val.testBit 3).toNat + 16 * (h.val.testBit 4).toNat := by decide +kernel
/-- The document's bytes of any sum. -/
theorem rbytes_any (A : Option Addr) (C n h : Nat) (hh : h < 32) (w : World) (HA : Hid (BitAt w A n)) :
    Calls Try.prog 18 #[.agg (R6 A C h)] w fun e w' => ∃ A' m c, e = .returned (.slice A' m c) ∧ ByAt w' A' (h :: strip (fl280 n 280) 280) ∧ m = (h :: strip (fl280 n 280) 280).length ∧ Below w.heap.size w w' := by
  obtain ⟨g, off, rfl, -, -⟩ := HA.out.get
  have hb : ∀ b : Bool, b.toNat ≤ 1 := fun b => by cases b <;> decide
  have b0 := hb (h.testBit 0)
  have b1 := hb (h.testBit 1)
  have b2 := hb (h.testBit 2)
  have b3 := hb (h.testBit 3)
  refine (rbytes_core g off C n h (h.testBit 0) (h.testBit 1) (h.testBit 2) (h.testBit 3) (h.testBit 4) _ _ _ _ (Lib.hid rfl) (Lib.hid rfl) (Lib.hid rfl) (Lib.hid rfl) (Lib.hid (flag_sum ⟨h, hh⟩)) (Lib.hid ⟨by omega, by omega, by omega, by omega, by omega⟩) w HA).mono ?_
  rintro e w' ⟨A', m, c, he, ho, hbl, -⟩
  exact ⟨A', m, c, he, ho.byAt, ho.len, hbl⟩
set_option maxHeartbeats 1000000 in
theorem exactValues_long (a : Option Addr) (la ca : Nat) (hL : 30 < la) (w : World) :
    Calls Try.prog 3 #[.slice a la ca] w fun e w' => e = .returned (.bool true) ∧ Below w.heap.size w w' := by
  have HB := Below.refl w.heap.size w
  go_enter Try.func3, Try.ntmps3
  go_wp2_with (go_at_call 11; refine (awake_any _).mono ?_; rintro e w' ⟨rfl, hb1⟩; replace HB := HB.trans (hb1.mono HB.size); clear hb1)
  go_ret
  exact ⟨rfl, HB⟩
set_option maxHeartbeats 8000000 in
theorem exactValues_core (a : Option Addr) (l : List Nat) (la ca : Nat) (hla : Hid (la = l.length)) (hL : ¬ 30 < la) (W : World) (HA : Hid (FlAt W a l)) :
    Calls Try.prog 3 #[.slice a la ca] W fun e w' => e = .returned (.bool true) ∧ Below W.heap.size W w' := by
  have HOF := Lib.hid fun (w1 : World) (hb : Below W.heap.size W w1) => of_slice a l la ca hla (by omega) w1 (Lib.hid (FlAt.keep HA.out hb))
  have HRO := Lib.hid fun (w1 : World) (hb : Below W.heap.size W w1) => refOf_any2 a l la ca hla (by omega) w1 (Lib.hid (FlAt.keep HA.out hb))
  have HVL := Lib.hid fun (w1 : World) => value_any (accN l) (accH l) (accN_lt l) (accH_lt l) w1
  have HRV := Lib.hid fun (A : Option Addr) (C : Nat) (w1 : World) (hb : Hid (BitAt w1 A (accN l))) => rvalue_any A C (accN l) (accH l) (accN_lt l) (accH_lt l) (acc8 l) w1 hb
  have HRY0 := Lib.hid fun (A : Option Addr) (C : Nat) (w1 : World) (hb : Hid (BitAt w1 A (accN l))) => rbytes_any A C (accN l) (accH l) (accH_lt l) w1 hb
  have HSA : Hid (∀ w, Calls Try.prog 16 #[.float .f64 (valW (accN l) (accH l)), .bool (valO (accN l) (accH l)), .float .f64 (valW (accN l) (accH l)), .bool (valO (accN l) (accH l))] w fun e w' => e = .returned (.bool true) ∧ Below w.heap.size w w') :=
    Lib.hid fun w => (lawSame_self (valW (accN l) (accH l)) (valO (accN l) (accH l)) (valW_ltQ _ _) w).mono fun e w' h => ⟨h.1, h.2 ▸ Below.refl _ _⟩
  have HBY : Hid (∀ w, Calls Try.prog 17 #[.agg (P36 (wd (accN l)) (accH l))] w fun e w' => ∃ A' m c, e = .returned (.slice A' m c) ∧ ByAt w' A' (accH l :: strip (fl280 (accN l) 280) 280) ∧ m = (accH l :: strip (fl280 (accN l) 280) 280).length ∧ Below w.heap.size w w') :=
    Lib.hid fun w => (sumBytes_any (accN l) (accH l) (Nat.lt_trans (accH_lt l) (by decide)) w).mono fun e w' ⟨A', c, he, ho, hb⟩ => ⟨A', _, c, he, ho.byAt, rfl, hb⟩
  have HAN : Hid (∀ w, Calls Try.prog 19 #[.agg (P36 (wd (accN l)) (accH l))] w fun e w' => e = .returned (.bool (!l.isEmpty)) ∧ Below w.heap.size w w') := Lib.hid fun w => by
    have h := any_any (accN l) (accH l) w
    have e := anyQ_acc l
    unfold anyQ at e
    rw [e] at h
    exact h
  have HLL : Hid (∀ x ∈ (accH l :: strip (fl280 (accN l) 280) 280), x < 256) := Lib.hid fun x hx => by
    rcases List.mem_cons.1 hx with h | h
    · have := accH_lt l; omega
    · exact fl280_lt (accN l) 280 x (strip_subQ _ _ x h)
  have HGT : Hid (decide (0 < (la : Int)) = !l.isEmpty) := Lib.hid (by rw [hla.out]; cases l <;> simp <;> omega)
  generalize valW (accN l) (accH l) = X at *
  generalize valO (accN l) (accH l) = O at *
  generalize (accH l :: strip (fl280 (accN l) 280) 280) = L at *
  generalize (!l.isEmpty) = b at *
  generalize accN l = N at *
  generalize accH l = H at *
  go_enter Try.func3, Try.ntmps3
  go_upto_region 7 with (first
    | (go_at_call 11; refine (awake_any _).mono ?_; rintro e w1 ⟨rfl, hb⟩; have HB1 := Lib.hid hb; clear hb)
    | (go_at_call 12; refine (HOF.out _ HB1.out).mono ?_; rintro e w2 ⟨rfl, hb⟩; have HB2 := Lib.hid (below_to HB1.out hb); clear hb)
    | (rw [zeros36]; refine wpList_store_row rfl 27 (.tmp 3) (.tmp 18) rfl _ (P36 (wd N) H) rfl rfl _ _ (heap_alloc_new _ _) (i36 _ _) (by rw [P36_size, P36_size]) (one36 _ _) ?_; rw [World.setRow_alloc_new]; have HR1 := Lib.hid (heap_alloc_new' w2 (.cells (P36 (wd N) H) 27)); have HB3 := Lib.hid (HB2.out.alloc HB2.out.size (.cells (P36 (wd N) H) 27)))
    | (go_at_call 13; refine (HRO.out _ HB3.out).mono ?_; rintro e w3 ⟨Ab, Cb, rfl, hbt, hb⟩; have HBT := Lib.hid hbt; have HB4 := Lib.hid (below_to HB3.out hb); have HR2 := Lib.hid (row_keep HR1.out hb); clear hbt hb)
    | (refine wpList_store_row rfl 31 (.tmp 4) (.tmp 20) rfl _ (R6 Ab Cb H) rfl rfl _ _ (heap_alloc_new _ _) (iR6 _ _ _ _ _ _) rfl (one6 _ _ _) ?_; rw [World.setRow_alloc_new]; have hal : Below w3.heap.size w3 (w3.alloc (.cells (R6 Ab Cb H) 31)) := (Below.refl _ _).alloc (Nat.le_refl _) _; have HM1 := Lib.hid (heap_alloc_new' w3 (.cells (R6 Ab Cb H) 31)); have HB5 := Lib.hid (below_to HB4.out hal); have HR3 := Lib.hid (row_keep HR2.out hal); have HBT2 := Lib.hid (HBT.out.keep hal); clear hal)
    | (refine wpList_sum (.tmp 3) rfl _ rfl _ _ _ _ HR3.out rfl ?_)
    | (go_at_call 14; (with_reducible refine (HVL.out _).mono ?_); rintro e w5 ⟨rfl, hb⟩; have HB6 := Lib.hid (below_to HB5.out hb); have HR4 := Lib.hid (row_keep HR3.out hb); have HM2 := Lib.hid (row_keep HM1.out hb); have HBT3 := Lib.hid (HBT2.out.keep hb); clear hb)
    | (refine wpList_load_row rfl 31 (.tmp 4) rfl _ rfl _ (R6 Ab Cb H) (0, 0) _ HM2.out uR6 rfl (iR6 _ _ _ _ _ _) ?_)
    | (go_at_call 15; (with_reducible refine (HRV.out Ab Cb _ HBT3).mono ?_); rintro e w6 ⟨rfl, hb⟩; have HB7 := Lib.hid (below_to HB6.out hb); have HR5 := Lib.hid (row_keep HR4.out hb); have HM3 := Lib.hid (row_keep HM2.out hb); have HBT4 := Lib.hid (HBT3.out.keep hb); clear hb))
  have HRY : Hid (∀ w1 : World, Hid (BitAt w1 Ab N) → Calls Try.prog 18 #[.agg (R6 Ab Cb H)] w1 fun e w' => ∃ A' m c, e = .returned (.slice A' m c) ∧ ByAt w' A' L ∧ m = L.length ∧ Below w1.heap.size w1 w') := Lib.hid fun w1 hb => HRY0.out Ab Cb w1 hb
  have R1 := HR5.out
  have R2 := HM3.out
  have hdw : Below w6.heap.size w6 w6.drew := (Below.refl _ _).drew
  replace R1 := row_keep R1 hdw
  replace R2 := row_keep R2 hdw
  have hBT := HBT4.out.keep hdw
  have HB := below_to HB7.out hdw
  clear hdw HB1 HB2 HB3 HB4 HB5 HB6 HB7 HR1 HR2 HR3 HR4 HR5 HM1 HM2 HM3 HBT HBT2 HBT3 HBT4 HOF HRO HVL HRV HRY0
  refine wp_region_held_drew (S := Below w6.drew.heap.size w6.drew) (by kernel_rfl) (Below.refl _ _) (fun hHeld => ?_)
  generalize World.drew w6 = w0 at *
  generalize w2.heap.size = gS at *
  generalize w3.heap.size = gM at *
  refine wpAnyH_take (i := 0) (v := .float .f64 X) rfl (by kernel_rfl) (by kernel_rfl) (by kernel_rfl) (fun _ _ _ h => h) (Or.inl ⟨by rfl, fun _ _ => rfl⟩) hHeld ?_
  try dsimp only
  try simp only [Act.put, List.getElem_toArray, List.getElem_cons_zero, List.getElem_cons_succ, List.setIfInBounds_toArray, List.set_cons_zero, List.set_cons_succ]
  refine wpAnyH_take (i := 1) (v := .bool O) rfl (by kernel_rfl) (by kernel_rfl) (by kernel_rfl) (fun _ _ _ h => h) (Or.inl ⟨by rfl, fun _ _ => rfl⟩) hHeld ?_
  try dsimp only
  try simp only [Act.put, List.getElem_toArray, List.getElem_cons_zero, List.getElem_cons_succ, List.setIfInBounds_toArray, List.set_cons_zero, List.set_cons_succ]
  refine wpAnyH_take (i := 2) (v := .float .f64 X) rfl (by kernel_rfl) (by kernel_rfl) (by kernel_rfl) (fun _ _ _ h => h) (Or.inl ⟨by rfl, fun _ _ => rfl⟩) hHeld ?_
  try dsimp only
  try simp only [Act.put, List.getElem_toArray, List.getElem_cons_zero, List.getElem_cons_succ, List.setIfInBounds_toArray, List.set_cons_zero, List.set_cons_succ]
  refine wpAnyH_take (i := 3) (v := .bool O) rfl (by kernel_rfl) (by kernel_rfl) (by kernel_rfl) (fun _ _ _ h => h) (Or.inl ⟨by rfl, fun _ _ => rfl⟩) hHeld ?_
  try dsimp only
  try simp only [Act.put, List.getElem_toArray, List.getElem_cons_zero, List.getElem_cons_succ, List.setIfInBounds_toArray, List.set_cons_zero, List.set_cons_succ]
  refine wpAnyH_ready (rs := [4]) (by kernel_rfl) (by simp) (AllReadyH.cons rfl (fun K hK => ?_) AllReadyH.nil)
  go_simp
  refine (HSA.out _).mono ?_
  rintro e v1 ⟨rfl, hv1⟩
  refine hK.out _ _ hv1 (fun _ => ?_)
  clear hK K
  try dsimp only
  try simp only [Act.put, List.getElem_toArray, List.getElem_cons_zero, List.getElem_cons_succ, List.setIfInBounds_toArray, List.set_cons_zero, List.set_cons_succ]
  refine wpAnyH_moreQ (S' := Below v1.heap.size v1) (fun w h => below_to hv1 h) ?_
  replace R1 := row_keep R1 hv1
  replace R2 := row_keep R2 hv1
  replace hBT := hBT.keep hv1
  replace HB := below_to HB hv1
  clear hHeld
  have hHeld := Below.refl v1.heap.size v1
  refine wpAnyH_take (i := 5) (v := .bool true) rfl (by kernel_rfl) (by kernel_rfl) (by kernel_rfl) (fun _ _ _ h => h) (Or.inl ⟨by rfl, fun _ _ => rfl⟩) hHeld ?_
  try dsimp only
  try simp only [Act.put, List.getElem_toArray, List.getElem_cons_zero, List.getElem_cons_succ, List.setIfInBounds_toArray, List.set_cons_zero, List.set_cons_succ]
  refine wpAnyH_take (i := 6) (v := .agg (P36 (wd N) H)) rfl (by kernel_rfl) (by kernel_rfl) (by kernel_rfl) (fun _ _ _ h => h) (yieldsIf_row rfl 27 (.tmp 3) rfl gS rfl _ _ _ _ (fun w hw => row_keep R1 hw) u27 rfl (i36 _ _)) hHeld ?_
  try dsimp only
  try simp only [Act.put, List.getElem_toArray, List.getElem_cons_zero, List.getElem_cons_succ, List.setIfInBounds_toArray, List.set_cons_zero, List.set_cons_succ]
  refine wpAnyH_take (i := 9) (v := .agg (R6 Ab Cb H)) rfl (by kernel_rfl) (by kernel_rfl) (by kernel_rfl) (fun _ _ _ h => h) (yieldsIf_row rfl 31 (.tmp 4) rfl gM rfl _ _ _ _ (fun w hw => row_keep R2 hw) uR6 rfl (iR6 _ _ _ _ _ _)) hHeld ?_
  try dsimp only
  try simp only [Act.put, List.getElem_toArray, List.getElem_cons_zero, List.getElem_cons_succ, List.setIfInBounds_toArray, List.set_cons_zero, List.set_cons_succ]
  refine wpAnyH_ready (rs := [7]) (by kernel_rfl) (by simp) (AllReadyH.cons rfl (fun K hK => ?_) AllReadyH.nil)
  go_simp
  refine (HBY.out _).mono ?_
  rintro e v2 ⟨Ax, nx, cx, rfl, hbx, hnx0, hv2⟩
  have hnx := Lib.hid hnx0
  clear hnx0
  refine hK.out _ _ hv2 (fun _ => ?_)
  clear hK K
  try dsimp only
  try simp only [Act.put, List.getElem_toArray, List.getElem_cons_zero, List.getElem_cons_succ, List.setIfInBounds_toArray, List.set_cons_zero, List.set_cons_succ]
  refine wpAnyH_moreQ (S' := Below v2.heap.size v2) (fun w h => below_to hv2 h) ?_
  replace R1 := row_keep R1 hv2
  replace R2 := row_keep R2 hv2
  replace hBT := hBT.keep hv2
  replace HB := below_to HB hv2
  clear hHeld
  have hHeld := Below.refl v2.heap.size v2
  refine wpAnyH_take (i := 8) (v := .string (strB L)) rfl (by kernel_rfl) (by kernel_rfl) (by kernel_rfl) (fun _ _ _ h => h) (yb_convQ rfl (.tmp 38) rfl _ _ rfl (fun w hw => conv_by nx cx (hbx.keep hw) hnx.out)) hHeld ?_
  try dsimp only
  try simp only [Act.put, List.getElem_toArray, List.getElem_cons_zero, List.getElem_cons_succ, List.setIfInBounds_toArray, List.set_cons_zero, List.set_cons_succ]
  clear hbx hnx
  refine wpAnyH_ready (rs := [10]) (by kernel_rfl) (by simp) (AllReadyH.cons rfl (fun K hK => ?_) AllReadyH.nil)
  go_simp
  refine (HRY.out _ (Lib.hid hBT)).mono ?_
  rintro e v3 ⟨Ay, ny, cy, rfl, hby, hny0, hv3⟩
  have hny := Lib.hid hny0
  clear hny0
  refine hK.out _ _ hv3 (fun _ => ?_)
  clear hK K
  try dsimp only
  try simp only [Act.put, List.getElem_toArray, List.getElem_cons_zero, List.getElem_cons_succ, List.setIfInBounds_toArray, List.set_cons_zero, List.set_cons_succ]
  refine wpAnyH_moreQ (S' := Below v3.heap.size v3) (fun w h => below_to hv3 h) ?_
  replace R1 := row_keep R1 hv3
  replace R2 := row_keep R2 hv3
  replace hBT := hBT.keep hv3
  replace HB := below_to HB hv3
  clear hHeld
  have hHeld := Below.refl v3.heap.size v3
  refine wpAnyH_take (i := 11) (v := .string (strB L)) rfl (by kernel_rfl) (by kernel_rfl) (by kernel_rfl) (fun _ _ _ h => h) (yb_convQ rfl (.tmp 41) rfl _ _ rfl (fun w hw => conv_by ny cy (hby.keep hw) hny.out)) hHeld ?_
  try dsimp only
  try simp only [Act.put, List.getElem_toArray, List.getElem_cons_zero, List.getElem_cons_succ, List.setIfInBounds_toArray, List.set_cons_zero, List.set_cons_succ]
  clear hby hny
  refine wpAnyH_take (i := 12) (v := .bool true) rfl (by kernel_rfl) (by kernel_rfl) (by kernel_rfl) (fun _ _ _ h => h) (yb_binQ rfl .eql _ _ _ _ rfl _ _ _ rfl rfl (fun _ => rfl) (fun w => b_strQ HLL.out HLL.out (decide_eq_true rfl) w)) hHeld ?_
  try dsimp only
  try simp only [Act.put, List.getElem_toArray, List.getElem_cons_zero, List.getElem_cons_succ, List.setIfInBounds_toArray, List.set_cons_zero, List.set_cons_succ]
  refine wpAnyH_take (i := 13) (v := .bool true) rfl (by kernel_rfl) (by kernel_rfl) (by kernel_rfl) (fun _ _ _ h => h) (Or.inl ⟨by rfl, fun _ _ => rfl⟩) hHeld ?_
  try dsimp only
  try simp only [Act.put, List.getElem_toArray, List.getElem_cons_zero, List.getElem_cons_succ, List.setIfInBounds_toArray, List.set_cons_zero, List.set_cons_succ]
  refine wpAnyH_take (i := 14) (v := .bool true) rfl (by kernel_rfl) (by kernel_rfl) (by kernel_rfl) (fun _ _ _ h => h) (Or.inl ⟨by rfl, fun _ _ => rfl⟩) hHeld ?_
  try dsimp only
  try simp only [Act.put, List.getElem_toArray, List.getElem_cons_zero, List.getElem_cons_succ, List.setIfInBounds_toArray, List.set_cons_zero, List.set_cons_succ]
  refine wpAnyH_take (i := 15) (v := .agg (P36 (wd N) H)) rfl (by kernel_rfl) (by kernel_rfl) (by kernel_rfl) (fun _ _ _ h => h) (yieldsIf_row rfl 27 (.tmp 3) rfl gS rfl _ _ _ _ (fun w hw => row_keep R1 hw) u27 rfl (i36 _ _)) hHeld ?_
  try dsimp only
  try simp only [Act.put, List.getElem_toArray, List.getElem_cons_zero, List.getElem_cons_succ, List.setIfInBounds_toArray, List.set_cons_zero, List.set_cons_succ]
  refine wpAnyH_take (i := 17) (v := .slice a la ca) rfl (by kernel_rfl) (by kernel_rfl) (by kernel_rfl) (fun _ _ _ h => h) (Or.inl ⟨by rfl, fun _ _ => rfl⟩) hHeld ?_
  try dsimp only
  try simp only [Act.put, List.getElem_toArray, List.getElem_cons_zero, List.getElem_cons_succ, List.setIfInBounds_toArray, List.set_cons_zero, List.set_cons_succ]
  refine wpAnyH_take (i := 18) (v := .int .i64 (la : Int)) rfl (by kernel_rfl) (by kernel_rfl) (by kernel_rfl) (fun _ _ _ h => h) (Or.inl ⟨by rfl, fun w _ => by go_simp⟩) hHeld ?_
  try dsimp only
  try simp only [Act.put, List.getElem_toArray, List.getElem_cons_zero, List.getElem_cons_succ, List.setIfInBounds_toArray, List.set_cons_zero, List.set_cons_succ]
  refine wpAnyH_take (i := 19) (v := .bool b) rfl (by kernel_rfl) (by kernel_rfl) (by kernel_rfl) (fun _ _ _ h => h) (yb_binQ rfl .gtr _ _ _ _ rfl _ _ _ rfl rfl (fun _ => rfl) (fun w => b_gtQ HGT.out w)) hHeld ?_
  try dsimp only
  try simp only [Act.put, List.getElem_toArray, List.getElem_cons_zero, List.getElem_cons_succ, List.setIfInBounds_toArray, List.set_cons_zero, List.set_cons_succ]
  refine wpAnyH_ready (rs := [16]) (by kernel_rfl) (by simp) (AllReadyH.cons rfl (fun K hK => ?_) AllReadyH.nil)
  go_simp
  refine (HAN.out _).mono ?_
  rintro e v4 ⟨rfl, hv4⟩
  refine hK.out _ _ hv4 (fun _ => ?_)
  clear hK K
  try dsimp only
  try simp only [Act.put, List.getElem_toArray, List.getElem_cons_zero, List.getElem_cons_succ, List.setIfInBounds_toArray, List.set_cons_zero, List.set_cons_succ]
  refine wpAnyH_moreQ (S' := Below v4.heap.size v4) (fun w h => below_to hv4 h) ?_
  replace R1 := row_keep R1 hv4
  replace R2 := row_keep R2 hv4
  replace hBT := hBT.keep hv4
  replace HB := below_to HB hv4
  clear hHeld
  have hHeld := Below.refl v4.heap.size v4
  refine wpAnyH_take (i := 20) (v := .bool true) rfl (by kernel_rfl) (by kernel_rfl) (by kernel_rfl) (fun _ _ _ h => h) (yb_binQ rfl .eql _ _ _ _ rfl _ _ _ rfl rfl (fun _ => rfl) (fun w => b_boolQ b w)) hHeld ?_
  try dsimp only
  try simp only [Act.put, List.getElem_toArray, List.getElem_cons_zero, List.getElem_cons_succ, List.setIfInBounds_toArray, List.set_cons_zero, List.set_cons_succ]
  refine wpAnyH_take (i := 21) (v := .bool true) rfl (by kernel_rfl) (by kernel_rfl) (by kernel_rfl) (fun _ _ _ h => h) (Or.inl ⟨by rfl, fun _ _ => rfl⟩) hHeld ?_
  try dsimp only
  try simp only [Act.put, List.getElem_toArray, List.getElem_cons_zero, List.getElem_cons_succ, List.setIfInBounds_toArray, List.set_cons_zero, List.set_cons_succ]
  refine wpAnyH_take (i := 22) (v := .bool true) rfl (by kernel_rfl) (by kernel_rfl) (by kernel_rfl) (fun _ _ _ h => h) (Or.inl ⟨by rfl, fun _ _ => rfl⟩) hHeld ?_
  try dsimp only
  try simp only [Act.put, List.getElem_toArray, List.getElem_cons_zero, List.getElem_cons_succ, List.setIfInBounds_toArray, List.set_cons_zero, List.set_cons_succ]
  refine wpAnyH_done (by kernel_rfl) ?_ _
  go_wp2
  go_ret
  exact ⟨rfl, HB⟩
theorem exactValues_any (a : Option Addr) (l : List Nat) (la ca : Nat) (hla : Hid (la = l.length)) (_ : la ≤ ca) (_ : ca ≤ maxLen) (W : World) (HA : Hid (FlAt W a l)) :
    Calls Try.prog 3 #[.slice a la ca] W fun e w' => e = .returned (.bool true) ∧ Below W.heap.size W w' := by
  by_cases hL : 30 < la
  · exact exactValues_long a la ca hL W
  · exact exactValues_core a l la ca hla hL W HA
end Go.Proofs.Ythklamgdoknmeaa
