/-
  Layer column: lists of numbers with a point: Reals, the document's own, readReals where all goes well.
-/
import Derived.Test.YtjldamkmdkaiiaaGreatDoorCmK
import Derived.Test.YtjldamkmdkaiiaaGreatDoorEaK
set_option linter.unusedSimpArgs false
set_option linter.unusedVariables false
set_option maxRecDepth 8000
namespace Go.Proofs.YtjldamkmdkaiiaaGreatDoor
open Go.RowKit Go.WideShapes Col
def RdEnds (o : Option (List Int)) (w : World) (e : Ending) (w' : World) : Prop := match o with
 | some l => (∃ A n cap, e = .returned (.tuple #[.slice A n cap, .int .i64 0]) ∧ OwnI w' w.heap.size A n cap l) ∧ Below w.heap.size w w'
 | none => e = .returned (.tuple #[.slice none 0 0, .int .i64 3]) ∧ Below w.heap.size w w'
theorem rdl_no {q : List Nat} {cl B : Nat} {b : Bool} {w : World} (h : riL q = none) (hr : RdL q cl B b w) : b = false := by
 rcases b with _ | _
 ·rfl
 ·obtain ⟨A9, n9, c9, l9, e9, -⟩ := hr
  rw [h] at e9; cases e9
theorem rdl_yes {q : List Nat} {cl B : Nat} {b : Bool} {w : World} {l : List Int} (h : riL q = some l) (hr : RdL q cl B b w) : b = true := by
 rcases b with _ | _
 ·have hr : riL q = none := hr
  rw [h] at hr; cases hr
 ·rfl
set_option maxHeartbeats 2000000 in
theorem readListI_any (A : Option Addr) (C : Nat) (q : List Nat) (n : Nat) (hn : Hid (n = q.length)) (hn4 : n ≤ 1099511627776) (hC : n ≤ C) (hC' : C ≤ maxLen) (w : World) (HA : Hid (ByAt w A q)) :
  Calls Tryz.prog 139 #[.slice A n C, .func (.func 140) #[] #[]] w (RdEnds (riL q) w) := by
 obtain ⟨bf, w1, hbf, hw1, hrow1, hb1, hbf1⟩ := alloc_pt w (.func (.func 140) #[] #[]) 185
 obtain ⟨cl, w2, hcl, hw2, hrow2, hb2, hcl2⟩ := alloc_pt w1 (.slice none 0 0) 119
 have HW : Hid ((w.alloc (.cells #[.func (.func 140) #[] #[]] 185)).alloc (.cells #[.slice none 0 0] 119) = w2) := Lib.hid (by rw [hw2, hw1])
 have hsz : w1.heap.size = w.heap.size + 1 := by rw [hw1]; simp
 have HBF := Lib.hid hbf; have HCL : Hid (cl = w.heap.size + 1) := Lib.hid (by rw [hcl, hsz])
 have HB2 : Hid (Below w.heap.size w w2) := Lib.hid (below_to hb1 hb2)
 have hrf2 : w2.heap[bf]? = some (.cells #[.func (.func 140) #[] #[]] 185 (0, 0)) := (Kept.of_below (S := fun _ => False) hb2).heap hrow1 fun e => e
 have ht := try_any 171 #[] #[.pointer (some ⟨bf, 0, none⟩), .pointer (some ⟨cl, 0, none⟩)] A C q n hn hC hC' w2 (Lib.hid (HA.out.keep HB2.out)) (fun k => k = cl) (fun k hk => by have hk : k = cl := hk; omega)
  (fun g => RdL q cl (g + 1)) (RdL q cl w2.heap.size) (fun g b v2 v3 hg h hk => (h.keep hk (by omega) (Nat.lt_succ_self _)).less (by omega))
  (fun g v1 hg hr hb => listFn_any g bf cl q (by rw [← hn.out]; exact hn4) v1 (Lib.hid hr) (Lib.hid ((Kept.of_below (S := fun _ => False) hb).heap hrf2 fun e => e)) (Lib.hid ((Kept.of_below (S := fun _ => False) hb).heap hrow2 fun e => e)) (by omega) (by omega))
  (fun _ _ => by first | rfl | kernel_rfl)
 have HT := Lib.hid ht
 have HR2 := Lib.hid hrow2
 clear ht hbf hw1 hrow1 hb1 hcl hw2 hrow2 hb2 hrf2 hbf1
 go_enter Tryz.func139, Tryz.ntmps139
 go_upto_region 2 with fail
 have e1 : w.heap.size = bf := HBF.out.symm
 have e2 : w.heap.size + 1 = cl := HCL.out.symm
 have hx : ∀ (w3 : World) (b : Bool), RdL q cl w2.heap.size b w3 → Kept (fun k => k = cl) w2 w3 → Below w.heap.size w w3 := fun w3 b _ hk => HB2.out.trans (hk.below (B := w.heap.size) (by omega) fun k hk => by have hk : k = cl := hk; omega)
 have HX := Lib.hid hx
 clear hx
 rw [HW.out, e2, e1]
 clear e1 e2
 rcases ho : riL q with _ | l
 ·have HO := Lib.hid ho
  clear ho
  go_wp2_with (go_at_call 90; (with_reducible refine (HT.out).mono ?_); rintro e w3 ⟨b, rfl, hr, hk⟩; obtain rfl := rdl_no HO.out hr; have HB3 := Lib.hid (HX.out w3 false hr hk); clear hr hk)
  go_ret2
  rw [HO.out]
  exact ⟨rfl, HB3.out⟩
 ·have HO := Lib.hid ho
  clear ho
  go_wp2_with (go_at_call 90; (with_reducible refine (HT.out).mono ?_); rintro e w3 ⟨b, rfl, hr, hk⟩; obtain rfl := rdl_yes HO.out hr; have HB3 := Lib.hid (HX.out w3 true hr hk); obtain ⟨A9, n9, c9, l9, e9, hrow9, how9⟩ := hr; rw [HO.out] at e9; injection e9 with e9; subst e9; have HOW := Lib.hid (how9.more HB2.out.size); have c9c : w3.cell? ⟨cl, 0, none⟩ = some (.slice A9 n9 c9) := (by rw [cell_of_row _ _ _ _ _ _ hrow9]; rfl); clear hk hrow9 how9)
  go_ret2
  rw [HO.out]
  exact ⟨⟨A9, n9, c9, rfl, HOW.out⟩, HB3.out⟩
set_option maxHeartbeats 2000000 in
theorem readIntsC_any (A : Option Addr) (C : Nat) (q : List Nat) (n : Nat) (hn : Hid (n = q.length)) (hn4 : n ≤ 1099511627776) (hC : n ≤ C) (hC' : C ≤ maxLen) (w : World) (HA : Hid (ByAt w A q)) :
  Calls Tryz.prog 116 #[.slice A n C] w (RdEnds (riL q) w) := by
 have HT := Lib.hid (readListI_any A C q n hn hn4 hC hC' w HA)
 rcases ho : riL q with _ | l
 ·have HO := Lib.hid ho
  rw [ho] at HT
  clear ho
  go_enter Tryz.func116, Tryz.ntmps116
  go_wp2_with (go_at_call 139; (with_reducible refine (HT.out).mono ?_); rintro e w3 ⟨rfl, hb⟩; have HB := Lib.hid hb; clear hb)
  go_ret2
  exact ⟨rfl, HB.out⟩
 ·have HO := Lib.hid ho
  rw [ho] at HT
  clear ho
  go_enter Tryz.func116, Tryz.ntmps116
  go_wp2_with (go_at_call 139; (with_reducible refine (HT.out).mono ?_); rintro e w3 ⟨⟨A9, n9, c9, rfl, ho⟩, hb⟩; have HB := Lib.hid hb; have HOW := Lib.hid ho; clear hb ho)
  go_ret2
  exact ⟨⟨A9, n9, c9, rfl, HOW.out⟩, HB.out⟩
namespace Col
theorem grp_back (n : Nat) (hn : n < 18446744073709551616) (r : List Nat) : grp 0 (ub n ++ r) = some (n, r) := grp_ub r n 0 ⟨by omega, hn⟩ (.inr rfl)
theorem uP_back {most n : Nat} (hn : n ≤ most) (h : n < 18446744073709551616) (r : List Nat) : uP most (ub n ++ r) = some (n, r) := by
 unfold uP; rw [grp_back n h r]; simp [hn]
theorem zP_back {x : Int} (h : Wf64 x) (r : List Nat) : zP (ub (zz x) ++ r) = some (x, r) := by
 unfold zP; rw [grp_back _ (zz_lt h) r]; simp [uz_zz]
theorem drop_get {l : List Int} {k : Nat} (h : k < l.length) : ∃ x, l[k]? = some x ∧ l.drop k = x :: l.drop (k + 1) ∧ l.take (k + 1) = l.take k ++ [x] :=
 ⟨l[k], List.getElem?_eq_getElem h, List.drop_eq_getElem_cons h, by rw [List.take_add_one, List.getElem?_eq_getElem h]; rfl⟩
theorem plain_back (l : List Int) (hl : ∀ x ∈ l, Wf64 x) (r : List Nat) : ∀ k, k ≤ l.length → runS zP k (lpl l ++ r) = some (l.take k, lpl (l.drop k) ++ r)
 | 0, _ => by simp [runS]
 | k + 1, h => by
  obtain ⟨x, hx, h1, h2⟩ := drop_get (l := l) (k := k) (by omega)
  rw [runS, plain_back l hl r k (by omega), h1]
  have e : lpl (x :: l.drop (k + 1)) = ub (zz x) ++ lpl (l.drop (k + 1)) := by simp [lpl]
  simp only [Option.bind_some]
  rw [e, List.append_assoc, zP_back (hl x (List.mem_of_getElem? hx)), h2]; rfl
theorem delta_back (l : List Int) (hl : ∀ x ∈ l, Wf64 x) (r : List Nat) : ∀ k, k ≤ l.length → runS dstep k (0, lde 0 l ++ r) = some (l.take k, (lastOf 0 (l.take k), lde (lastOf 0 (l.take k)) (l.drop k) ++ r))
 | 0, _ => by simp [runS, lastOf]
 | k + 1, h => by
  obtain ⟨x, hx, h1, h2⟩ := drop_get (l := l) (k := k) (by omega)
  have hp := lastOf_wf (l.take k) fun y hy => hl y (List.mem_of_mem_take hy)
  have hwx := hl x (List.mem_of_getElem? hx)
  have hls := lastOf_snoc 0 l k x hx
  rw [runS, delta_back l hl r k (by omega), h1]
  generalize lastOf 0 (l.take k) = p at *
  have e : wrap64 (p + sub64 x p) = x := by
   rw [sub64_eq]; unfold wrap64; unfold Wf64 at *; omega
  simp only [Option.bind_some]
  rw [lde, List.append_assoc]
  unfold dstep
  simp only
  rw [zP_back (sub64_wf x p)]
  simp only [Option.map_some]
  rw [e, h2, ← h2, hls, h2]
theorem runN_take (x : Int) : ∀ t : List Int, t.take (runN x t) = List.replicate (runN x t) x
 | [] => rfl
 | y :: t => by
  unfold runN
  split
  ·rename_i h; subst h; rw [List.take_succ_cons, runN_take y t]; rfl
  ·rfl
theorem runs_back (n : Nat) : ∀ l : List Int, l.length ≤ n → l.length ≤ 1000000 → (∀ x ∈ l, Wf64 x) → ∀ r, rruns l.length (lru l ++ r) = some (l, r) := by
 induction n with
 | zero => intro l h _ _ r; rw [List.eq_nil_of_length_eq_zero (by omega : l.length = 0), lru_nil]; exact rruns_zero r
 | succ n ih =>
  intro l h h1 h2 r
  rcases l with _ | ⟨x, t⟩
  ·rw [lru_nil]; exact rruns_zero r
  ·have hr := runN_le x t
   have hk : runN x t < 18446744073709551616 := by simp at h1; omega
   have h3 := ih (t.drop (runN x t)) (by rw [List.length_drop]; simp at h; omega) (by rw [List.length_drop]; simp at h1; omega) (fun y hy => h2 y (List.mem_cons_of_mem _ (List.mem_of_mem_drop hy))) r
   rw [List.length_drop] at h3
   rw [lru, List.length_cons, List.append_assoc, rruns_yes (zP_back (h2 x (List.mem_cons_self ..)) _) (by rw [List.append_assoc]; exact uP_back hr hk _), h3]
   simp only [Option.map_some, List.replicate_succ, List.cons_append]
   rw [← runN_take, List.take_append_drop]
theorem pk_get (W : Nat) : ∀ (ds : List Nat) (i d : Nat), ds[i]? = some d → (∀ x ∈ ds, x < 2 ^ W) → bitsAt (pk W ds) (i * W) W = d
 | [], i, d, h, _ => by simp at h
 | e :: ds, 0, d, h, hd => by
  simp at h; subst h
  unfold bitsAt
  rw [pk, Nat.zero_mul, Nat.pow_zero, Nat.div_one, Nat.add_mul_mod_self_left, Nat.mod_eq_of_lt (hd _ (List.mem_cons_self ..))]
 | e :: ds, i + 1, d, h, hd => by
  have ih := pk_get W ds i d (by simpa using h) fun x hx => hd x (List.mem_cons_of_mem _ hx)
  unfold bitsAt at *
  rw [pk, Nat.add_mul, Nat.one_mul, Nat.add_comm (i * W), Nat.pow_add, ← Nat.div_div_eq_div_mul, Nat.add_mul_div_left _ _ (Nat.two_pow_pos _), Nat.div_eq_of_lt (hd e (List.mem_cons_self ..)), Nat.zero_add]
  exact ih
theorem packed_back (l : List Int) (hl : ∀ x ∈ l, Wf64 x) (r : List Nat) : rpk l.length (lpk l ++ r) = some (l, r) := by
 by_cases h0 : l.length = 0
 ·rw [List.eq_nil_of_length_eq_zero h0, lpk_nil]; rfl
 ·have hW := wid_le hl
  have hmn := mnL_wf hl
  have hpk := pk_lt (wid l) (digs l) dig_lt
  have hdl : (digs l).length = l.length := List.length_map ..
  rw [hdl, Nat.mul_comm] at hpk
  have hV : pk (wid l) (digs l) < 2 ^ (8 * ((l.length * wid l + 7) / 8)) := Nat.lt_of_lt_of_le hpk (Nat.pow_le_pow_right (by decide) (by omega))
  have hlen := leb_length ((l.length * wid l + 7) / 8) (pk (wid l) (digs l))
  have hget : ∀ (i : Nat) (x : Int), l[i]? = some x → pval (wid l) (pk (wid l) (digs l)) (mnL l) i = x := fun i x hx => by
   have hd : (digs l)[i]? = some (dig (mnL l) x) := by unfold digs; rw [List.getElem?_map, hx]; rfl
   unfold pval
   rw [pk_get _ _ i _ hd dig_lt]
   have h1 := mn_le (List.mem_of_getElem? hx)
   have h2 := hl x (List.mem_of_getElem? hx)
   unfold dig
   rw [IntKind.wrap_i64]; unfold wrap64; unfold Wf64 at *; omega
  rw [lpk_some (by omega)]
  generalize wid l = W at *
  generalize pk W (digs l) = V at *
  have ht : (leb ((l.length * W + 7) / 8) V ++ r).take ((l.length * W + 7) / 8) = leb ((l.length * W + 7) / 8) V := by
   rw [List.take_append_of_le_length (by omega), List.take_of_length_le (by omega)]
  have hdr : (leb ((l.length * W + 7) / 8) V ++ r).drop ((l.length * W + 7) / 8) = r := by
   rw [List.drop_append_of_le_length (by omega), List.drop_of_length_le (by omega), List.nil_append]
  rw [List.append_assoc, rpk_of h0 (zP_back hmn _), List.append_assoc]
  show rpk2 _ _ (W :: (leb _ V ++ r)) = _
  rw [rpk2_yes rfl ⟨hW, by rw [List.length_append, hlen]; omega, by rw [ht, vlb_leb, Nat.mod_eq_of_lt hV]; exact hpk⟩, ht, hdr, vlb_leb, Nat.mod_eq_of_lt hV]
  congr 2
  apply List.ext_getElem?
  intro i
  by_cases hi : i < l.length
  ·rw [List.getElem?_map, List.getElem?_range hi, List.getElem?_eq_getElem hi]
   exact congrArg some (hget i _ (List.getElem?_eq_getElem hi))
  ·rw [List.getElem?_eq_none (by simp; omega), List.getElem?_eq_none (by omega)]
theorem as_back (way : Nat) (hw : way < 4) (l : List Int) (hl : ∀ x ∈ l, Wf64 x) (hn : l.length ≤ 4096) : rI (asL way l) = some (l, []) := by
 unfold asL
 rw [List.append_assoc]
 show rI (way :: (ub l.length ++ _)) = _
 rw [rI_yes (uP_back hn (by omega) _)]
 have hcases : way = 0 ∨ way = 1 ∨ way = 2 ∨ way = 3 := by omega
 unfold rW
 rcases hcases with rfl | rfl | rfl | rfl
 ·have h := plain_back l hl [] l.length (Nat.le_refl _)
  rw [List.append_nil, List.take_length, List.drop_length, lpl_nil] at h
  simpa using h
 ·have h := delta_back l hl [] l.length (Nat.le_refl _)
  rw [List.append_nil, List.take_length, List.drop_length] at h
  simp [rdDelta, h, lde]
 ·have h := runs_back l.length l (Nat.le_refl _) (by omega) hl []
  rw [List.append_nil] at h
  simpa using h
 ·have h := packed_back l hl []
  rw [List.append_nil] at h
  simpa using h
theorem best_is (k : Nat) (l : List Int) : ∃ way, way ≤ k ∧ bestL k l = asL way l := by
 induction k with
 | zero => exact ⟨0, Nat.le_refl _, rfl⟩
 | succ k ih =>
  obtain ⟨way, h1, h2⟩ := ih
  show ∃ way, way ≤ k + 1 ∧ pickL (bestL k l) (asL (k + 1) l) = asL way l
  unfold pickL
  split
  ·exact ⟨k + 1, Nat.le_refl _, rfl⟩
  ·exact ⟨way, by omega, h2⟩
theorem ints_back (l : List Int) (hl : ∀ x ∈ l, Wf64 x) (hn : l.length ≤ 4096) : rI (intsL l) = some (l, []) := by
 obtain ⟨way, h1, h2⟩ := best_is 3 l
 unfold intsL; rw [h2]; exact as_back way (by omega) l hl hn
theorem pick_le (b p : List Nat) : (pickL b p).length ≤ b.length ∧ (pickL b p).length ≤ p.length := by unfold pickL; split <;> omega
theorem best_le (k : Nat) (l : List Int) : ∀ way, way ≤ k → (bestL k l).length ≤ (asL way l).length := by
 induction k with
 | zero => intro way h; rw [show way = 0 by omega]; exact Nat.le_refl _
 | succ k ih =>
  intro way h
  show (pickL (bestL k l) (asL (k + 1) l)).length ≤ _
  obtain ⟨h1, h2⟩ := pick_le (bestL k l) (asL (k + 1) l)
  by_cases e : way = k + 1
  ·rw [e]; exact h2
  ·exact Nat.le_trans h1 (ih way (by omega))
end Col
theorem Puts.at {B : Nat} {w w' : World} {l : List Nat} {e : Ending} (h : Puts B w l e w') : ∃ A n cap, e = .returned (.slice A n cap) ∧ Hid (OwnS w' B A n cap l) ∧ Hid (Below B w w') ∧ n = l.length := by
 obtain ⟨A, n, cap, he, ho, hb, -⟩ := h
 exact ⟨A, n, cap, he, ho, hb, ho.len⟩
end Go.Proofs.YtjldamkmdkaiiaaGreatDoor
set_option maxRecDepth 20000
namespace Go.Proofs.YtjldamkmdkaiiaaGreatDoor
open Go.RowKit Go.WideShapes Col
theorem yb_bin {ops : Array Oper} {S : World → Prop} {op : Oper} {a : Act} (hw : Region.wanted op (yielded ops a.tmps) = true) (o : BinOp) (t t2 : TypeId) (x y : Operand) (ho : op.op = .binOp o t x y t2) (v1 v2 u : Value) (hx : a.eval x = v1) (hy : a.eval y = v2)
  (he : ∀ w, (eqGuard o t x y v1 v2).run Tryz.prog w = .ok () w) (h : ∀ w, (binOp o t v1 v2).run Tryz.prog w = .ok u w) : YieldsIf Tryz.prog ops S op u a :=
 .inl ⟨hw, fun w _ => by
  unfold execOp
  simp only [ho, hx, hy, Sem.run_bind, Sem.run_pure, he w, h w, Result.andThen_ok]⟩
theorem yb_pick {ops : Array Oper} {S : World → Prop} {op : Oper} {a : Act} (hw : Region.wanted op (yielded ops a.tmps) = true) (x y z : Operand) (ho : op.op = .pick x y z) (b : Bool) (v : Value) (hx : a.eval x = .bool b) (hv : (if b then a.eval y else a.eval z) = v) : YieldsIf Tryz.prog ops S op v a :=
 .inl ⟨hw, fun w _ => by
  unfold execOp
  subst hv
  cases b <;> simp only [ho, hx] <;> rfl⟩
end Go.Proofs.YtjldamkmdkaiiaaGreatDoor
set_option maxRecDepth 8000
namespace Go.Proofs.YtjldamkmdkaiiaaGreatDoor
open Go.RowKit Go.WideShapes Col
theorem b_subN (a b : Nat) (h : b ≤ a) (h2 : a ≤ 100000000) (w : World) : (binOp .sub 3 (.int .i64 (a : Int)) (.int .i64 (b : Int))).run Tryz.prog w = .ok (.int .i64 ((a - b : Nat) : Int)) w := by
 have e : IntKind.i64.wrap ((a : Int) - (b : Int)) = ((a - b : Nat) : Int) := by rw [IntKind.wrap_i64]; omega
 rw [← e]; rfl
theorem yb_cv {ops : Array Oper} {S : World → Prop} {op : Oper} {a : Act} (hw : Region.wanted op (yielded ops a.tmps) = true) (f t : TypeId) (x : Operand) (ho : op.op = .convert f t x) (v u : Value) (hx : a.eval x = v)
  (h : ∀ w, (convert f t v).run Tryz.prog w = .ok u w) : YieldsIf Tryz.prog ops S op u a :=
 .inl ⟨hw, fun w hw' => by
  unfold execOp
  simp only [ho, hx, Sem.run_bind, Sem.run_pure, h w, Result.andThen_ok]⟩
namespace Col
theorem map_snoc (W V : Nat) (mn : Int) (i : Nat) : (List.range (i + 1)).map (pval W V mn) = (List.range i).map (pval W V mn) ++ [pval W V mn i] := by rw [List.range_succ, List.map_append]; rfl
end Col
def FlAt (w : World) (a : Option Addr) (l : List Nat) : Prop := ∀ (k x : Nat), l[k]? = some x → x < 18446744073709551616 ∧ ∃ g off, a = some ⟨g, off, none⟩ ∧ g < w.heap.size ∧ w.cell? ⟨g, off + k, none⟩ = some (.float .f64 x)
theorem FlAt.keep {w w' : World} {a : Option Addr} {l : List Nat} (h : FlAt w a l) (hb : Below w.heap.size w w') : FlAt w' a l := fun k x hx => by
 obtain ⟨h1, g, off, h2, h3, h4⟩ := h k x hx
 exact ⟨h1, g, off, h2, Nat.lt_of_lt_of_le h3 hb.size, (hb.cell (p := ⟨g, off + k, none⟩) h3).trans h4⟩
def fvs (l : List Nat) : List Value := l.map fun x => .float .f64 x
def RowF (w : World) (g : Nat) (l : List Nat) : Prop := w.heap[g]? = some (.cells (fvs l).toArray 49 (0, 0))
section
variable {w : World} {g : Nat} {l : List Nat}
theorem RowF.fr (h : RowF w g l) (i : Nat) : w.frozen? ⟨g, i, none⟩ = false := row_frozen h i
theorem RowF.cell (h : RowF w g l) (i x : Nat) (hx : l[i]? = some x) : w.cell? ⟨g, i, none⟩ = some (.float .f64 x) := by
 rw [cell_of_row _ _ _ _ _ _ h, List.getElem?_toArray]; unfold fvs; rw [List.getElem?_map, hx]; rfl
theorem RowF.at (h : RowF w g l) (i : Nat) (hi : i < l.length) : ∃ u, w.cell? ⟨g, i, none⟩ = some u := ⟨_, h.cell i _ (List.getElem?_eq_getElem hi)⟩
theorem RowF.set (h : RowF w g l) (i x : Nat) : RowF (w.setCell ⟨g, i, none⟩ (.float .f64 x)) g (l.set i x) := by
 unfold RowF at *
 rw [World.setCell]
 simp only [Array.getElem?_modify, if_pos, h, Option.map_some]
 have e : (fvs l).toArray.setIfInBounds i (.float .f64 x) = (fvs (l.set i x)).toArray := by
  unfold fvs; rw [List.map_set]; simp
 simp [e]
theorem RowF.keep {S : Nat → Prop} {w' : World} (h : RowF w g l) (hk : Kept S w w') (hg : ¬ S g) : RowF w' g l := hk.heap h hg
theorem RowF.isAt (h : RowF w g l) (hl : ∀ x ∈ l, x < 18446744073709551616) : FlAt w (some ⟨g, 0, none⟩) l := fun k x hx => ⟨hl x (List.mem_of_getElem? hx), g, 0, rfl, (Array.getElem?_eq_some_iff.1 h).1, by rw [Nat.zero_add]; exact h.cell k x hx⟩
end
theorem infoF64 : (Tryz.prog.info? 49).map (fun i => (i.zero, i.size, i.bytes)) = some (some (.float .f64 0), 1, 8) := by kernel_rfl
theorem rowF_zeros {w : World} {B g q : Nat} (h : w.ownsRow B 49 1 (.slice (some ⟨g, 0, none⟩) q q) q (madeCells (Value.float .f64 0).cells (q * 1)).toList) : RowF w g (List.replicate q 0) := by
 have e : fvs (List.replicate q 0) = List.replicate q (.float .f64 0) := by unfold fvs; rw [List.map_replicate]
 rw [Nat.mul_one, show (Value.float .f64 0).cells = #[.float .f64 0] from rfl, toList_madeCells_one, ← e] at h
 rcases h.2 with ⟨h1, h2⟩ | ⟨g', cap', cur, h1, hb, hrow, -, -, hs, ht⟩
 ·cases h1
 ·cases h1
  unfold RowF
  rw [hrow]
  have hc : cur = (fvs (List.replicate q 0)).toArray := by
   apply Array.ext'
   rw [← ht, Nat.mul_one, List.take_of_length_le (by rw [Array.length_toList, hs]; omega)]
  rw [hc]
theorem run_store_flC (w : World) (a : Addr) (y : Nat) (u : Value) (hc : w.cell? a = some u) (hf : w.frozen? a = false) : (store a (.float .f64 y)).run Tryz.prog w = .ok () (w.setCell a (.float .f64 y)) := by
 rw [run_store Tryz.prog w a _ _ rfl]
 simp [stored, hc, hf]
def rwI (b : Nat) : Int := IntKind.i64.wrap ((Fl.canon b : Nat) : Int)
theorem rwI_wf (b : Nat) : Wf64 (rwI b) := by unfold rwI Wf64; rw [IntKind.wrap_i64]; omega
def u64N (x : Int) : Nat := (IntKind.u64.wrap x).toNat
theorem u64N_eq (x : Int) : IntKind.u64.wrap x = ((u64N x : Nat) : Int) ∧ u64N x < 18446744073709551616 := by
 unfold u64N; rw [IntKind.wrap_u64]; omega
theorem u64N_rw (b : Nat) (hb : b < 18446744073709551616) : u64N (rwI b) = Fl.canon b := by
 have := Fl.canon_lt b hb
 unfold u64N rwI; rw [IntKind.wrap_u64, IntKind.wrap_i64]; omega
theorem rw_snoc (l : List Nat) (k b : Nat) (h : l[k]? = some b) : (l.map rwI).take (k + 1) = (l.map rwI).take k ++ [rwI b] := by
 rw [List.take_add_one, List.getElem?_map, h]; rfl
set_option maxHeartbeats 2000000 in
theorem reals_any (b : Option Addr) (n c : Nat) (l : List Nat) (hn : Hid (n = l.length)) (hn1 : n ≤ 4096) (W : World) (HL : Hid (FlAt W b l)) :
  Calls Tryz.prog 80 #[.slice b n c] W (Puts W.heap.size W (intsL (l.map rwI))) := by
 obtain ⟨iu, hiu, hz0, hz1, hz2⟩ := info_parts infoI64'
 have hzb : iu.bytes * n ≤ 281474976710656 := by rw [hz2]; omega
 have hnm : n ≤ maxLen := by unfold maxLen; omega
 have HLEN : Hid ((l.map rwI).length = n) := Lib.hid (by rw [List.length_map]; exact hn.out.symm)
 go_enter Tryz.func80, Tryz.ntmps80
 go_wp2_with (refine wpList_make_full _ rfl (.tmp 7) (.tmp 7) 119 rfl W.heap.size 2 iu (.int .i64 0) 1 Tryz.underlying119 hiu hz0 hz1 .i64 .i64 _ _ n rfl rfl rfl rfl hzb hnm (Nat.le_refl _) ?_; intro w1 own hgr; have HRI := Lib.hid (rowI_zeros own); have HB1 : Hid (Below W.heap.size W w1) := Lib.hid ((Below.refl _ W).grown hgr (Nat.le_refl _) (by intro k hk; cases hk)); clear own hgr)
 obtain ⟨L, hL⟩ : ∃ L, L = W.heap.size := ⟨_, rfl⟩
 rw [← hL] at HRI ⊢
 have HLE := Lib.hid hL
 clear hL
 go_loopw [11] (fun v wr => ∃ k : Nat, k ≤ n ∧ v = .int .i64 (k : Int) ∧ RowI wr L ((l.map rwI).take k ++ List.replicate (n - k) 0) ∧ Below L W wr) (fun v _ => n - (intOf v).toNat)
 case atStart => exact ⟨0, Nat.zero_le _, rfl, by simpa using HRI.out, by rw [HLE.out]; exact HB1.out⟩
 case round =>
  obtain ⟨k, hk, rfl, hrow, hb⟩ := hrel
  have HROW := Lib.hid hrow; have HB : Hid (Below W.heap.size W wr) := Lib.hid (HLE.out ▸ hb)
  clear hrow hb HRI HB1
  by_cases hlt : k < n
  ·obtain ⟨x, hx⟩ : ∃ x, l[k]? = some x := ⟨l[k]'(by have := hn.out; omega), List.getElem?_eq_getElem _⟩
   obtain ⟨hx64, g, off, rfl, -, hcx⟩ := (HL.out.keep HB.out) k x hx
   have HSN := Lib.hid (rw_snoc l k x hx)
   have HBI := Lib.hid (bits_any x hx64)
   have f2 := HROW.out.fr k
   obtain ⟨u2, c2⟩ := HROW.out.at k (by rw [List.length_append, List.length_replicate, List.length_take]; have := HLEN.out; omega)
   have HSET := Lib.hid (fill_set ((l.map rwI).take k) n k (by rw [List.length_take]; have := HLEN.out; omega) hlt (rwI x))
   obtain ⟨y, hy⟩ : ∃ y, y = Fl.canon x := ⟨_, rfl⟩
   rw [← hy] at HBI
   have hyw : IntKind.i64.wrap (y : Int) = rwI x := by rw [hy]; rfl
   clear hx hy
   go_wp2_with (go_at_call 99; refine (HBI.out _).mono ?_; rintro e w2 ⟨rfl, rfl⟩)
   go_roundw
   case rel => exact ⟨k + 1, by omega, by go_num, by rw [HSN.out, ← HSET.out]; exact HROW.out.set k (rwI x), by rw [HLE.out]; exact HB.out.setCell (Nat.le_refl _) _⟩
   case measure => simp [intOf]; omega
  ·obtain rfl : k = n := by omega
   have hr := HROW.out
   rw [Nat.sub_self, List.replicate_zero, List.append_nil, List.take_of_length_le (by have := HLEN.out; omega)] at hr
   have HO := Lib.hid (hr.own (B := L) (Nat.le_refl _) (fun x hx => by obtain ⟨y, -, rfl⟩ := List.mem_map.1 hx; exact rwI_wf y) (by rw [HLEN.out]; exact hnm))
   rw [HLEN.out] at HO
   have HI := Lib.hid (ints_any (some ⟨L, 0, none⟩) k k (l.map rwI) (Lib.hid HLEN.out.symm) (Nat.le_refl _) (by omega) (by omega) wr (Lib.hid HO.out.isAt))
   clear hr
   go_wp2_with (go_at_call 78; (with_reducible refine (HI.out).mono ?_); rintro e w2 ⟨A2, n2, c2, rfl, h1, h2, h3⟩; have HO2 := Lib.hid (h1.more HB.out.size); have HB2 := Lib.hid (below_to HB.out h2); clear h1 h2 h3)
   go_ret
   exact ⟨A2, n2, c2, rfl, HO2.out, HB2.out, HB2.out.size⟩
end Go.Proofs.YtjldamkmdkaiiaaGreatDoor
