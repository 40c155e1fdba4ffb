/-
  Layer ledger: changes laid: ledger.Lay.
-/
import Derived.Deep.WholeRow
import Derived.Test.YtbimfopbilcdgaaDoorLrkK
import Derived.Outline
set_option linter.unusedSimpArgs false
set_option linter.unusedVariables false
set_option maxRecDepth 8000
namespace Go.Proofs.YtbimfopbilcdgaaDoor
open Go.RowKit Go.WideShapes Col
theorem wpList_store_freshL {ops : Array Oper} {rest : List Oper} {o : Oper} {a : Act} {w0 : World} {Q : Exit → Act → World → Prop} (hgd : o.guard = none) (ty : TypeId) (x y : Operand) (ho : o.op = .store ty x y)
    (g : Nat) (c c' : Array Value) (t : TypeId) (hx : a.eval x = .pointer (some ⟨g, 0, none⟩)) (hgs : g = w0.heap.size) (hy : a.eval y = .agg c') (hi : (Tryd.prog.info? ty).map (·.size) = some c'.size) (hcc : c.size = c'.size) (h1 : c'.all (·.oneCell') = true)
    (h : wpList Tryd.prog ops Q rest (a.put o.dst undef) (w0.alloc (.cells c' t))) : wpList Tryd.prog ops Q (o :: rest) a (w0.alloc (.cells c t)) := by
  subst hgs
  refine wpList_store_row hgd ty x y ho w0.heap.size c' hx hy t c (heap_new w0 _) hi hcc h1 ?_
  rw [World.setRow_alloc_new]; exact h
theorem iChL : (Tryd.prog.info? 43).map (·.size) = some 10 := by kernel_rfl
theorem oneChL (c : Chg) : (#[.bool c.put, .int .u64 (c.rev : Int), .string c.p.key, .int .i64 c.p.s, .int .i64 c.p.e, .int .u64 (c.t.c : Int), .float .f64 c.t.s, .bool c.t.o, .float .f64 c.t.lo, .float .f64 c.t.hi] : Array Value).all (·.oneCell') = true := all_oneCell_toArray (ch_one c)
theorem chB_le (c : Chg) (h : ChgR c) : (chB c).length ≤ 123 := by
  have h1 := ub10 (show c.rev < 18446744073709551616 by have := h.rev; omega)
  have h2 := ub10 (show (byL c.p.key).length < 18446744073709551616 by have := h.key; omega)
  have h3 := ub10 (zz_lt h.s)
  have h4 := ub10 (zz_lt h.e)
  have h5 := telBy_len c.t h.t
  have h6 := h.key
  unfold chB
  simp only [List.length_cons, List.length_append]
  omega
theorem chsB_le (l : List Chg) (h : ∀ c ∈ l, ChgR c) : (chsB l).length ≤ 123 * l.length := by
  induction l with
  | nil => simp [chsB]
  | cons x r ih =>
    have h1 := chB_le x (h x (by simp))
    have h2 := ih fun y hy => h y (by simp [hy])
    unfold chsB at *
    rw [List.flatMap_cons, List.length_append, List.length_cons]; omega
theorem chsB_snoc (l : List Chg) (k : Nat) (x : Chg) (h : l[k]? = some x) : chsB (l.take (k + 1)) = chsB (l.take k) ++ chB x := by
  unfold chsB; rw [List.take_add_one, h]; simp
theorem halves_keepL {B : Nat} {W w : World} (hGB : 0 < B) (hBw : B ≤ W.heap.size) (h : HalvesAt W) (hb : Below W.heap.size W w) : HalvesAt w := fun i hi => (hb.cell (p := ⟨0, i, none⟩) (Nat.lt_of_lt_of_le hGB hBw)).trans (h i hi)
set_option maxHeartbeats 4000000 in
theorem ledLay_any (A : Option Addr) (n cap : Nat) (l : List Chg) (hn : Hid (n = l.length)) (hn7 : n ≤ 700) (hok : Hid (∀ c ∈ l, ChgR c)) (W : World) (HC : Hid (ChAt W A l)) (HG : Hid (HalvesAt W)) (hGB : 0 < W.heap.size) :
    Calls Tryd.prog 6 #[.slice A n cap] W fun e w' => ∃ A' n' cap', e = .returned (.slice A' n' cap') ∧ OwnS w' W.heap.size A' n' cap' (Pg.lay 108 (ub l.length ++ chsB l)) ∧ Below W.heap.size W w' := by
  have hwn : IntKind.u64.wrap (n : Int) = (n : Int) := by rw [IntKind.wrap_u64]; omega
  have HU0 := Lib.hid (putU_any W.heap.size none 0 0 [] n (by omega) W (Lib.hid (OwnS.nil _ _)) (by omega) (Nat.le_refl _))
  go_enter Tryd.func6, Tryd.ntmps6
  go_wp2_with fail
  refine HU0.out.mono ?_
  rintro e w1 ⟨A1, m1, cap1, rfl, ho, hk, -⟩
  have HO1 : Hid (OwnS w1 W.heap.size A1 m1 cap1 (ub n ++ chsB (l.take 0))) := Lib.hid (by rw [List.nil_append] at ho; simpa [chsB] using ho)
  have HB1 := Lib.hid hk
  clear ho hk HU0
  go_wp2_with fail
  go_loopw [3, 12] (fun q i wr => ∃ k : Nat, k ≤ n ∧ i = .int .i64 (k : Int) ∧ ∃ A m cap, q = .slice A m cap ∧ Hid (OwnS wr W.heap.size A m cap (ub n ++ chsB (l.take k))) ∧ Hid (Below W.heap.size W wr)) (fun _ i _ => n - (intOf i).toNat)
  case atStart => exact ⟨0, by omega, rfl, A1, m1, cap1, rfl, HO1, HB1⟩
  case round =>
    clear HO1 HB1
    obtain ⟨k, hk, rfl, Aq, m, capq, rfl, HO, HB⟩ := hrel
    have HM : Hid (m ≤ 10 + 123 * k) := Lib.hid (by
      have h1 := HO.out.len
      have h2 := chsB_le (l.take k) (fun y hy => hok.out y (List.mem_of_mem_take hy))
      have h3 := ub10 (show n < 18446744073709551616 by omega)
      rw [List.length_append] at h1
      have h4 : (l.take k).length ≤ k := by rw [List.length_take]; omega
      omega)
    by_cases hlt : k < n
    · obtain ⟨c, hx⟩ : ∃ x, l[k]? = some x := ⟨l[k]'(by have := hn.out; omega), List.getElem?_eq_getElem _⟩
      have HXO := Lib.hid (hok.out c (List.mem_of_getElem? hx))
      obtain ⟨ga, off, rfl, hga, hr⟩ := chr (HC.out.keep HB.out) k c hx
      have HR : Hid (wr.rangeAt ga (off + k * 10) [.bool c.put, .int .u64 (c.rev : Int), .string c.p.key, .int .i64 c.p.s, .int .i64 c.p.e, .int .u64 (c.t.c : Int), .float .f64 c.t.s, .bool c.t.o, .float .f64 c.t.lo, .float .f64 c.t.hi]) := Lib.hid hr
      have HSN := Lib.hid (chsB_snoc l k c hx)
      have hkn : (k : Int) < (n : Int) := by omega
      have hm5 : m ≤ 200000 := by have := HM.out; omega
      have hwk : IntKind.i64.wrap ((k : Int) + 1) = (k : Int) + 1 := IntWalk.i64_in _ (by omega)
      obtain ⟨w5, hw5⟩ : ∃ w5, w5 = wr.alloc (.cells #[.bool c.put, .int .u64 (c.rev : Int), .string c.p.key, .int .i64 c.p.s, .int .i64 c.p.e, .int .u64 (c.t.c : Int), .float .f64 c.t.s, .bool c.t.o, .float .f64 c.t.lo, .float .f64 c.t.hi] 43) := ⟨_, rfl⟩
      have HX : Hid (w5.heap[wr.heap.size]? = some (.cells #[.bool c.put, .int .u64 (c.rev : Int), .string c.p.key, .int .i64 c.p.s, .int .i64 c.p.e, .int .u64 (c.t.c : Int), .float .f64 c.t.s, .bool c.t.o, .float .f64 c.t.lo, .float .f64 c.t.hi] 43 (0, 0))) := Lib.hid (by rw [hw5]; exact heap_alloc_new' wr _)
      have hb5 : Below wr.heap.size wr w5 := by rw [hw5]; exact (Below.refl _ _).alloc (Nat.le_refl _) _
      have HO5 := Lib.hid (HO.out.keep hb5)
      have HB5 := Lib.hid (below_to HB.out hb5)
      have HW5 := Lib.hid hw5
      have HLC := Lib.hid (layChange_any W.heap.size Aq m capq _ c.put c.rev c.p.key c.p.s c.p.e c.t (Lib.hid HXO.out) w5 HO5 hm5 HB5.out.size)
      clear hb5 hw5 hr hx
      go_wp2_with (first
        | (refine wpList_load_mid rfl 43 (.tmp 14) rfl ga (off + k * 10) rfl [.bool c.put, .int .u64 (c.rev : Int), .string c.p.key, .int .i64 c.p.s, .int .i64 c.p.e, .int .u64 (c.t.c : Int), .float .f64 c.t.s, .bool c.t.o, .float .f64 c.t.lo, .float .f64 c.t.hi] _ HR.out uChL rfl iChL ?_)
        | (refine wpList_store_freshL rfl 43 (.tmp 5) (.tmp 15) rfl _ _ _ _ rfl (by simp) rfl iChL rfl (oneChL c) ?_; try rw [← HW5.out])
        | (refine wpList_load_row rfl 43 (.tmp 5) rfl wr.heap.size rfl _ #[.bool c.put, .int .u64 (c.rev : Int), .string c.p.key, .int .i64 c.p.s, .int .i64 c.p.e, .int .u64 (c.t.c : Int), .float .f64 c.t.s, .bool c.t.o, .float .f64 c.t.lo, .float .f64 c.t.hi] (0, 0) _ HX.out uChL rfl (by kernel_rfl) ?_)
        | (go_at_call 15; (with_reducible refine HLC.out.mono ?_); rintro e w6 ⟨A6, m6, c6, rfl, ho6, hb6, -⟩; have HO6 := Lib.hid ho6; have HB6 := Lib.hid (HB5.out.trans hb6); clear ho6 hb6))
      go_roundw
      case rel => exact ⟨k + 1, by omega, by go_num, A6, m6, c6, rfl, Lib.hid (by rw [HSN.out, ← List.append_assoc]; exact HO6.out), HB6⟩
      case measure => simp [intOf]; omega
    · obtain rfl : k = n := by omega
      have hkk : ¬ (k : Int) < (k : Int) := by omega
      have HBODY : Hid (ub k ++ chsB (l.take k) = ub l.length ++ chsB l) := Lib.hid (by rw [hn.out, List.take_length])
      rw [HBODY.out] at HO
      have hly := lay_any none 0 0 [] 108 Aq m capq (ub l.length ++ chsB l) W.heap.size wr (Lib.hid (OwnS.nil _ _)) (Lib.hid HO.out.len) (by have := HM.out; omega) (by decide) (Lib.hid HO.out.byAt) (Lib.hid (halves_keepL hGB (Nat.le_refl _) HG.out HB.out)) HB.out.size hGB
      rw [show ((108 : Nat) : Int) = 108 from rfl, List.nil_append] at hly
      have HLY := Lib.hid hly
      clear hly
      go_wp2_with (go_at_call 16; (with_reducible refine HLY.out.mono ?_); rintro e vz ⟨Az, cz, rfl, ho, hb⟩; have HOz := Lib.hid ho; have HBz := Lib.hid hb; clear ho hb)
      go_ret
      exact ⟨Az, _, cz, rfl, HOz.out, HB.out.trans HBz.out⟩
end Go.Proofs.YtbimfopbilcdgaaDoor

set_option linter.unusedSimpArgs false
set_option linter.unusedVariables false
set_option maxRecDepth 8000
namespace Go.Proofs.YtbimfopbilcdgaaDoor
open Go.RowKit Go.WideShapes Col
theorem wpAnyH_moreL {P : Program} {ops : Array Oper} {Q : Exit → Act → World → Prop} {md : Region.Mode} {S S' : World → Prop} (h : ∀ w, S' w → S w) : ∀ {n : Nat} {listed : Array Bool} {a : Act} {w : World}, wpAnyH P md ops Q S' n listed a w → wpAnyH P md ops Q S n listed a w
  | 0, _, _, _, H => H
  | n + 1, _, _, _, H => ⟨H.1, fun i hi => wpOp_mono (fun _ _ h' => ⟨h _ h'.1, wpAnyH_moreL h h'.2⟩) (H.2 i hi)⟩
theorem yb_convL {ops : Array Oper} {S : World → Prop} {op : Oper} {a : Act} (hw : Region.wanted op (yielded ops a.tmps) = true) (x : Operand) (ho : op.op = .convert 22 9 x) (v u : Value) (hx : a.eval x = v)
    (h : ∀ w, S w → (convert 22 9 v).run Tryd.prog w = .ok u w) : YieldsIf Tryd.prog ops S op u a :=
  .inl ⟨hw, fun w hw' => by
    unfold execOp
    simp only [ho, hx, Sem.run_bind, Sem.run_pure, h w hw', Result.andThen_ok]⟩
set_option maxHeartbeats 1000000 in
theorem ledgerReads_long (HAW : Hid (∀ W : World, Calls Tryd.prog 4 #[] W fun e w' => e = .returned (.bool true) ∧ Below W.heap.size W w')) (a : Option Addr) (la ca : Nat) (hL : 2000 < la) (hm : la ≤ 9223372036854775807) (w : World) :
    Calls Tryd.prog 3 #[.slice a la ca] w fun e w' => e = .returned (.bool true) ∧ Below w.heap.size w w' := by
  have hLi : (2000 : Int) < (la : Int) := by omega
  have HB0 := Below.refl w.heap.size w
  go_enter Tryd.func3, Tryd.ntmps3
  go_wp2_with (go_at_call 4; (with_reducible refine (HAW.out _).mono ?_); rintro e w' ⟨rfl, hb1⟩; replace HB0 := below_to HB0 hb1; clear hb1)
  go_ret
  exact ⟨rfl, HB0⟩
set_option maxHeartbeats 4000000 in
theorem ledgerReads_walk (HAW : Hid (∀ W : World, Calls Tryd.prog 4 #[] W fun e w' => e = .returned (.bool true) ∧ Below W.heap.size W w')) (a : Option Addr) (lp : List Nat) (la ca : Nat) (hla : Hid (la = lp.length)) (hac : la ≤ ca) (hcm : ca ≤ maxLen) (W : World) (HA : Hid (ByAt W a lp)) (HG : Hid (HalvesAt W)) :
    Calls Tryd.prog 3 #[.slice a la ca] W fun e w' => e = .returned (.bool true) ∧ Below W.heap.size W w' := by
  by_cases hL : 2000 < la
  · exact ledgerReads_long HAW a la ca hL (Nat.le_trans hac hcm) W
  have hLi : ¬ (2000 : Int) < (la : Int) := by omega
  have hcm2 : ca ≤ 9223372036854775807 := hcm
  have HGB : Hid (0 < W.heap.size) := Lib.hid (World.block_lt_of_cell? W _ (HG.out 0 (by decide)))
  have HB := Below.refl W.heap.size W
  go_enter Tryd.func3, Tryd.ntmps3
  go_wp2_with (go_at_call 4; (with_reducible refine (HAW.out _).mono ?_); rintro e w1 ⟨rfl, hb1⟩; replace HB := below_to HB hb1; clear hb1)
  refine (ledRead_any a la ca lp hla (by omega) hac hcm _ (Lib.hid (HA.out.keep HB)) (Lib.hid (HG.out.keep HB))).mono ?_
  rintro e w2 (⟨c, hc, rfl, hb⟩ | ⟨A, n, cap, l, rfl, ho, h1, h2, h3, hR, hP, h7, hb⟩)
  · have HB2 := Lib.hid (below_to HB hb)
    clear HB hb
    rcases hc with rfl | rfl
    · rw [show ((3 : Nat) : Int) = 3 from rfl]
      go_wp2_with fail
      go_ret
      exact ⟨rfl, HB2.out⟩
    · rw [show ((4 : Nat) : Int) = 4 from rfl]
      go_wp2_with fail
      go_ret
      exact ⟨rfl, HB2.out⟩
  · have HB2 := Lib.hid (below_to HB hb)
    have HR := Lib.hid hR
    have HP := Lib.hid hP
    have HO := Lib.hid ho
    clear HB hb hR hP ho
    go_upto_region 6 with fail
    obtain ⟨w9, hw9⟩ : ∃ w9, w9 = w2.drew := ⟨_, rfl⟩
    have HB : Below W.heap.size W w9 := by rw [hw9]; exact HB2.out.drew
    have hBP : ByAt w9 a lp := HA.out.keep HB
    have HLY := Lib.hid (ledLay_any A n cap l (Lib.hid HO.out.len) h7 HR w9 (Lib.hid (by rw [hw9]; exact HO.out.at'.keep (Below.refl _ _).drew)) (Lib.hid (HG.out.keep HB)) (Nat.lt_of_lt_of_le HGB.out HB.size))
    refine wp_region_held_drew (S := Below w9.heap.size w9) (by kernel_rfl) (by rw [← hw9]; exact Below.refl _ _) (fun hHeld => ?_)
    rw [← hw9] at hHeld ⊢
    clear hw9 HB2
    refine wpAnyH_take (i := 0) (v := .slice A n cap) rfl (by kernel_rfl) (by kernel_rfl) (by kernel_rfl) (fun _ _ _ h => h) (Or.inl ⟨by rfl, fun _ _ => rfl⟩) hHeld ?_
    try dsimp only
    try simp only [Act.put, List.getElem_toArray, List.getElem_cons_zero, List.getElem_cons_succ, List.setIfInBounds_toArray, List.set_cons_zero, List.set_cons_succ]
    refine wpAnyH_take (i := 3) (v := .slice a la ca) rfl (by kernel_rfl) (by kernel_rfl) (by kernel_rfl) (fun _ _ _ h => h) (Or.inl ⟨by rfl, fun _ _ => rfl⟩) hHeld ?_
    try dsimp only
    try simp only [Act.put, List.getElem_toArray, List.getElem_cons_zero, List.getElem_cons_succ, List.setIfInBounds_toArray, List.set_cons_zero, List.set_cons_succ]
    refine wpAnyH_take (i := 4) (v := .string (strB lp)) rfl (by kernel_rfl) (by kernel_rfl) (by kernel_rfl) (fun _ _ _ h => h) (yb_convL rfl (.tmp 34) rfl _ _ rfl (fun w hw => conv_by la ca (hBP.keep hw) hla.out)) hHeld ?_
    try dsimp only
    try simp only [Act.put, List.getElem_toArray, List.getElem_cons_zero, List.getElem_cons_succ, List.setIfInBounds_toArray, List.set_cons_zero, List.set_cons_succ]
    refine wpAnyH_ready (rs := [1]) (by kernel_rfl) (by simp) (AllReadyH.cons rfl (fun K hK => ?_) AllReadyH.nil)
    go_simp
    refine (HLY.out).mono ?_
    rintro e v1 ⟨A5, n5, c5, rfl, ho5, hb5⟩
    rw [← HP.out] at ho5
    have HY := ho5.byAt
    have HN5 := Lib.hid ho5.len
    clear ho5
    refine hK.out _ _ hb5 (fun _ => ?_)
    clear hK K
    try dsimp only
    try simp only [Act.put, List.getElem_toArray, List.getElem_cons_zero, List.getElem_cons_succ, List.setIfInBounds_toArray, List.set_cons_zero, List.set_cons_succ]
    refine wpAnyH_moreL (S' := Below v1.heap.size v1) (fun w h => below_to hb5 h) ?_
    replace HB := below_to HB hb5
    clear hHeld
    have hHeld := Below.refl v1.heap.size v1
    refine wpAnyH_take (i := 2) (v := .string (strB lp)) rfl (by kernel_rfl) (by kernel_rfl) (by kernel_rfl) (fun _ _ _ h => h) (yb_convL rfl (.tmp 32) rfl _ _ rfl (fun w hw => conv_by n5 c5 (HY.keep hw) HN5.out)) hHeld ?_
    try dsimp only
    try simp only [Act.put, List.getElem_toArray, List.getElem_cons_zero, List.getElem_cons_succ, List.setIfInBounds_toArray, List.set_cons_zero, List.set_cons_succ]
    refine wpAnyH_take (i := 5) (v := .bool true) rfl (by kernel_rfl) (by kernel_rfl) (by kernel_rfl) (fun _ _ _ h => h) (Or.inl ⟨by rfl, fun w _ => by go_simp⟩) hHeld ?_
    try dsimp only
    try simp only [Act.put, List.getElem_toArray, List.getElem_cons_zero, List.getElem_cons_succ, List.setIfInBounds_toArray, List.set_cons_zero, List.set_cons_succ]
    refine wpAnyH_take (i := 6) (v := .bool true) rfl (by kernel_rfl) (by kernel_rfl) (by kernel_rfl) (fun _ _ _ h => h) (Or.inl ⟨by rfl, fun _ _ => rfl⟩) hHeld ?_
    try dsimp only
    try simp only [Act.put, List.getElem_toArray, List.getElem_cons_zero, List.getElem_cons_succ, List.setIfInBounds_toArray, List.set_cons_zero, List.set_cons_succ]
    refine wpAnyH_done (by kernel_rfl) ?_ _
    go_wp2
    go_ret
    exact ⟨rfl, HB⟩
end Go.Proofs.YtbimfopbilcdgaaDoor
