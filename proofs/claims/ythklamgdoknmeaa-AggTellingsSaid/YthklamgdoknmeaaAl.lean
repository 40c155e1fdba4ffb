/-
  Layer agg: the law AggTellings, walked.
-/
import Derived.Test.YthklamgdoknmeaaAm
import Derived.Deep.DeepCutAuto
set_option linter.unusedSimpArgs false
set_option linter.unusedVariables false
set_option maxRecDepth 8000
namespace Go.Proofs.Ythklamgdoknmeaa
open Go.RowKit Go.WideShapes Col Sm
theorem wp_append_by {w : World} {o : Oper} {a : Act} {K : Act → World → Prop} {Q : Exit → Act → World → Prop} (s x : Operand)
    (ho : o.op = .call { callee := .builtin .append, args := #[s, x], argTypes := #[29, 29] })
    (B : Nat) (A : Option Addr) (n cap : Nat) (l : List Nat) (hs : a.eval s = .slice A n cap) (hown : OwnS w B A n cap l) (b : Option Addr) (m c : Nat) (l2 : List Nat) (hx : a.eval x = .slice b m c) (hm : m = l2.length) (h2 : ByAt w b l2)
    (hbytes : n + m ≤ 140737488355328) (hbase : B ≤ w.heap.size)
    (h : ∀ A' cap' w', OwnS w' B A' (n + m) cap' (l ++ l2) → w.grownBy w' (A.map (·.block)) → (A'.map (·.block) = A.map (·.block) ∨ A'.map (·.block) = some w.heap.size) → K (a.put o.dst (.slice A' (n + m) cap')) w') : o.wp Try.prog a w K Q := by
  obtain ⟨A', cap', w', hr, h3, h4, h5⟩ := run_append_by w B A n cap l hown b m c l2 hm h2 hbytes hbase o.type
  unfold Oper.wp execOp
  simp only [ho, resolve, invoke, builtin, Sem.run_bind, Sem.run_pure, Result.andThen_ok, List.map_toArray, List.map_cons, List.map_nil, hs, hx, hr]
  exact h A' cap' w' h3 h4 h5
theorem b_sne (s : ByteArray) (w : World) : (binOp .neq 9 (.string s) (.string s)).run Try.prog w = .ok (.bool false) w := by
  simp [binOp, Op.stringOp]
theorem b_sadd {l m : List Nat} (h : l.length + m.length ≤ 1000000) (w : World) : (binOp .add 9 (.string (strB l)) (.string (strB m))).run Try.prog w = .ok (.string (strB (l ++ m))) w := by
  have h1 := strB_size l
  have h2 := strB_size m
  rw [← strB_append]
  go_simp
  omega
theorem telC_ok (t : Tel) (h : t.Ok) : (telC t).Ok := ⟨h.c, Fl.canon_lt _ h.s, Fl.canon_lt _ h.lo, Fl.canon_lt _ h.hi⟩
theorem telB_C (t : Tel) : telB t (telC t) = true := by unfold telB telC; simp [Fl.canon_canon]
/-- Where a telling that was read lies. -/
def RT (bb : Nat) (t : Tel) (b : Bool) (w : World) : Prop := b = decide (t.c ≤ 1099511627776) ∧ (b = true → w.heap[bb]? = some (.cells #[.int .u64 ((telC t).c : Int), .float .f64 (telC t).s, .bool (telC t).o, .float .f64 (telC t).lo, .float .f64 (telC t).hi] 44 (0, 0)))
set_option maxHeartbeats 2000000 in
theorem telFn_any (g bb : Nat) (t : Tel) (ht : t.Ok) (z : Array Value) (hz : z.size = 5) (w : World) (hbg : bb < g) (hrow : Hid (w.heap[bb]? = some (.cells z 44 (0, 0)))) (H : Hid (Rd w g (telBy t))) :
    Calls Try.prog 35 #[.pointer (some ⟨g, 0, none⟩), .pointer (some ⟨bb, 0, none⟩)] w (Tried g (fun k => k = bb) (RT bb t) w) := by
  have hbw : bb < w.heap.size := (Array.getElem?_eq_some_iff.1 hrow.out).1
  have keep : ∀ w', Kept (fun k => k = g ∨ w.heap.size ≤ k) w w' → w'.heap[bb]? = some (.cells z 44 (0, 0)) := fun w' hk => hk.heap hrow.out (fun h => by omega)
  have KP := Lib.hid keep
  clear keep
  by_cases hc : t.c ≤ 1099511627776
  · have HV := Lib.hid (readValue_yes g t ht hc w H)
    go_enter Try.func35, Try.ntmps35
    go_wp2_with (first
      | (go_at_call 36; (with_reducible refine (HV.out).mono ?_); rintro e w1 ⟨rfl, hr, hk⟩; have HR := Lib.hid hr; have HK := Lib.hid hk; have HW := Lib.hid (KP.out w1 hk); clear hr hk)
      | (refine wpList_store_row rfl 44 (.tmp 1) (.tmp 4) rfl bb #[.int .u64 ((telC t).c : Int), .float .f64 (telC t).s, .bool (telC t).o, .float .f64 (telC t).lo, .float .f64 (telC t).hi] rfl rfl _ _ HW.out (iA _ _ _ _ _) (by rw [hz]; rfl) (by simp [Value.oneCell']) ?_))
    have hkr : Kept (fun k => k = bb) w1 (w1.setRow bb #[.int .u64 ((telC t).c : Int), .float .f64 (telC t).s, .bool (telC t).o, .float .f64 (telC t).lo, .float .f64 (telC t).hi]) := kept_setRow w1 _ _
    refine bodyPost_ret (results_none rfl _ _ _) rfl ⟨?_, .inl ⟨[], rfl, ?_, ?_⟩⟩
    · exact (HK.out.mono (S' := fun k => k = bb ∨ k = g) (fun k h => by rcases h with h | h; exact .inl (.inr h); exact .inr h)).trans' hkr (fun i hi => .inl (.inl hi))
    · obtain ⟨A, C, h⟩ := HR.out
      exact ⟨A, C, h.keep hkr (by omega) (fun a _ h0 => by simp at h0)⟩
    · exact ⟨by simp [hc], fun _ => setRow_heap _ _ _ _ _ _ HW.out⟩
  · have HV := Lib.hid (readValue_no g t ht (by omega) w H)
    go_enter Try.func35, Try.ntmps35
    go_wp2_with (go_at_call 36; (with_reducible refine (HV.out).mono ?_); rintro e w1 ⟨rfl, hg, hk⟩)
    exact ⟨rfl, hk.mono fun k h => by rcases h with h | h; exact .inl (.inr h); exact .inr h, .inr ⟨rfl, hg, by simp [hc], fun h => by cases h⟩⟩
set_option maxHeartbeats 1000000 in
theorem aggTellings_long (a : Option Addr) (la ca : Nat) (t : Tel) (hL : 300 < la) (w : World) :
    Calls Try.prog 7 #[.slice a la ca, .agg #[.int .u64 (t.c : Int), .float .f64 t.s, .bool t.o, .float .f64 t.lo, .float .f64 t.hi]] w fun e w' => e = .returned (.bool true) ∧ Below w.heap.size w w' := by
  have HB0 := (Below.refl w.heap.size w).alloc (Nat.le_refl _) (.cells #[.int .u64 (t.c : Int), .float .f64 t.s, .bool t.o, .float .f64 t.lo, .float .f64 t.hi] 44)
  go_enter Try.func7, Try.ntmps7
  go_wp2_with (go_at_call 20; refine (awakeS_any _).mono ?_; rintro e w' ⟨rfl, hb1⟩; replace HB0 := HB0.trans (hb1.mono HB0.size); clear hb1)
  go_ret
  exact ⟨rfl, HB0⟩

set_option maxHeartbeats 8000000 in
theorem aggTellings_core (a : Option Addr) (l : List Nat) (la ca : Nat) (hla : Hid (la = l.length)) (hac : la ≤ ca) (hcm : ca ≤ maxLen) (t : Tel) (ht : t.Ok) (hL : ¬ 300 < la) (W : World) (HA : Hid (ByAt W a l)) :
    Calls Try.prog 7 #[.slice a la ca, .agg #[.int .u64 (t.c : Int), .float .f64 t.s, .bool t.o, .float .f64 t.lo, .float .f64 t.hi]] W fun e w' => e = .returned (.bool true) ∧ Below W.heap.size W w' := by
  have hcm2 : ca ≤ 9223372036854775807 := hcm
  have HLT := Lib.hid (telBy_len t ht)
  have HRL : Hid (∀ w, Calls Try.prog 34 #[.agg #[.int .u64 (t.c : Int), .float .f64 t.s, .bool t.o, .float .f64 t.lo, .float .f64 t.hi]] w fun e w' => ∃ A n c, e = .returned (.slice A n c) ∧ ByAt w' A (telBy t) ∧ n = (telBy t).length ∧ Below w.heap.size w w') := Lib.hid fun w => (refLayV_any t ht w).mono fun e w' h => by
    obtain ⟨A, n, c, he, ho, hb, hn⟩ := h.at
    exact ⟨A, n, c, he, ho.out.byAt, hn, hb.out⟩
  have HLL : Hid (l.length + (telBy t).length ≤ 1000000) := Lib.hid (by have := hla.out; have := HLT.out; omega)
  have HRS : Hid (∀ w, Calls Try.prog 22 #[.agg #[.int .u64 (t.c : Int), .float .f64 t.s, .bool t.o, .float .f64 t.lo, .float .f64 t.hi], .agg #[.int .u64 ((telC t).c : Int), .float .f64 (telC t).s, .bool (telC t).o, .float .f64 (telC t).lo, .float .f64 (telC t).hi]] w fun e w' => e = .returned (.bool true) ∧ Below w.heap.size w w') := Lib.hid fun w => by
    have h := refAggSame_any t (telC t) ht (telC_ok t ht) w
    rwa [telB_C] at h
  have HB0 : Hid (Below W.heap.size W (W.alloc (.cells #[.int .u64 (t.c : Int), .float .f64 t.s, .bool t.o, .float .f64 t.lo, .float .f64 t.hi] 44))) := Lib.hid ((Below.refl _ _).alloc (Nat.le_refl _) _)
  have HR0 := Lib.hid (heap_alloc_new' W (.cells #[.int .u64 (t.c : Int), .float .f64 t.s, .bool t.o, .float .f64 t.lo, .float .f64 t.hi] 44))
  go_enter Try.func7, Try.ntmps7
  go_upto_region 3 with (go_at_call 20; refine (awakeS_any _).mono ?_; rintro e w1 ⟨rfl, hb⟩; have HB1 := Lib.hid (below_to HB0.out hb); have HR1 := Lib.hid (row_keep HR0.out hb); clear hb)
  obtain ⟨w1d, hw1d⟩ : ∃ w1d, w1d = w1.drew := ⟨_, rfl⟩
  have HB : Below W.heap.size W w1d := by rw [hw1d]; exact HB1.out.drew
  have R3 : w1d.heap[W.heap.size]? = some (.cells #[.int .u64 (t.c : Int), .float .f64 t.s, .bool t.o, .float .f64 t.lo, .float .f64 t.hi] 44 (0, 0)) := by rw [hw1d]; exact HR1.out
  clear HB0 HR0 HB1 HR1
  refine wp_region_held_drew (S := Below w1d.heap.size w1d) (by kernel_rfl) (by rw [← hw1d]; exact Below.refl _ _) (fun hHeld => ?_)
  rw [← hw1d] at hHeld ⊢
  clear hw1d
  refine wpAnyH_take (i := 0) (v := .slice a la ca) rfl (by kernel_rfl) (by kernel_rfl) (by kernel_rfl) (fun _ _ _ h => h) (Or.inl ⟨by rfl, fun _ _ => rfl⟩) hHeld ?_
  try dsimp only
  try simp only [Act.put, List.getElem_toArray, List.getElem_cons_zero, List.getElem_cons_succ, List.setIfInBounds_toArray, List.set_cons_zero, List.set_cons_succ]
  refine wpAnyH_take (i := 2) (v := .agg #[.int .u64 (t.c : Int), .float .f64 t.s, .bool t.o, .float .f64 t.lo, .float .f64 t.hi]) rfl (by kernel_rfl) (by kernel_rfl) (by kernel_rfl) (fun _ _ _ h => h) (yieldsIf_row rfl 44 (.tmp 3) rfl W.heap.size rfl _ _ _ _ (fun w hw => row_keep R3 hw) uA rfl (iA _ _ _ _ _)) hHeld ?_
  try dsimp only
  try simp only [Act.put, List.getElem_toArray, List.getElem_cons_zero, List.getElem_cons_succ, List.setIfInBounds_toArray, List.set_cons_zero, List.set_cons_succ]
  refine wpAnyH_ready (rs := [1]) (by kernel_rfl) (by simp) (AllReadyH.cons rfl (fun K hK => ?_) AllReadyH.nil)
  rw [if_pos (by rfl)]
  refine wp_append_by _ (.tmp 16) rfl W.heap.size none 0 0 [] rfl (OwnS.nil _ _) a la ca l rfl hla.out (HA.out.keep HB) (by omega) HB.size ?_
  intro A1 c1 w2 ho hg hr
  rw [Nat.zero_add] at ho ⊢
  rw [List.nil_append] at ho
  have HO1 := Lib.hid ho
  have hD2 : Below w1d.heap.size w1d w2 := (Below.refl _ _).grown hg (Nat.le_refl _) (fun k h => by cases h)
  have hA1 : ∀ k, MineK A1 k → w1d.heap.size ≤ k := fun k hk => by rcases hr with h | h; (unfold MineK at hk; rw [h] at hk; cases hk); (unfold MineK at hk; rw [h] at hk; injection hk with hk; omega)
  clear ho hg hr
  refine hK.out _ _ hD2 (fun hHeld => ?_)
  clear hK K
  try dsimp only
  try simp only [Act.put, List.getElem_toArray, List.getElem_cons_zero, List.getElem_cons_succ, List.setIfInBounds_toArray, List.set_cons_zero, List.set_cons_succ]
  refine wpAnyH_ready (rs := [3]) (by kernel_rfl) (by simp) (AllReadyH.cons rfl (fun K hK => ?_) AllReadyH.nil)
  go_simp
  refine (layV_any W.heap.size A1 la c1 l t ht w2 HO1 (by omega) (Nat.le_trans HB.size hD2.size)).mono ?_
  rintro e w3 hp
  obtain ⟨A3, n3, c3, rfl, HO3, HK3, HM3, hn3⟩ := hp.at
  have hD3 : Below w1d.heap.size w1d w3 := hD2.trans (HK3.out.below hD2.size hA1)
  have HN3 := Lib.hid hn3
  clear hp hn3 HK3 HM3 hD2 hA1 HO1
  refine hK.out _ _ hD3 (fun hHeld => ?_)
  clear hK K
  try dsimp only
  try simp only [Act.put, List.getElem_toArray, List.getElem_cons_zero, List.getElem_cons_succ, List.setIfInBounds_toArray, List.set_cons_zero, List.set_cons_succ]
  refine wpAnyH_ready (rs := [4]) (by kernel_rfl) (by simp) (AllReadyH.cons rfl (fun K hK => ?_) AllReadyH.nil)
  go_simp
  refine hK.out _ _ hD3 (fun hHeld => ?_)
  clear hK K
  refine wpAnyH_done (by kernel_rfl) ?_ _
  have HBW3 := Lib.hid (below_to HB hD3)
  have HRW3 := Lib.hid (row_keep R3 hD3)
  clear HB R3 hHeld hD3
  go_upto_region 4 with fail
  obtain ⟨w3d, hw3d⟩ : ∃ w3d, w3d = w3.drew := ⟨_, rfl⟩
  have HB : Below W.heap.size W w3d := by rw [hw3d]; exact HBW3.out.drew
  have R3 : w3d.heap[W.heap.size]? = some (.cells #[.int .u64 (t.c : Int), .float .f64 t.s, .bool t.o, .float .f64 t.lo, .float .f64 t.hi] 44 (0, 0)) := by rw [hw3d]; exact HRW3.out
  have hBQ : ByAt w3d A3 (l ++ telBy t) := by rw [hw3d]; exact HO3.out.byAt.keep (Below.refl _ _).drew
  have hBP : ByAt w3d a l := HA.out.keep HB
  have HCP := Lib.hid HO3.out.caps
  refine wp_region_held_drew (S := Below w3d.heap.size w3d) (by kernel_rfl) (by rw [← hw3d]; exact Below.refl _ _) (fun hHeld => ?_)
  rw [← hw3d] at hHeld ⊢
  clear hw3d HBW3 HRW3 HO3
  refine wpAnyH_take (i := 0) (v := .slice A3 n3 c3) rfl (by kernel_rfl) (by kernel_rfl) (by kernel_rfl) (fun _ _ _ h => h) (Or.inl ⟨by rfl, fun _ _ => rfl⟩) hHeld ?_
  try dsimp only
  try simp only [Act.put, List.getElem_toArray, List.getElem_cons_zero, List.getElem_cons_succ, List.setIfInBounds_toArray, List.set_cons_zero, List.set_cons_succ]
  refine wpAnyH_take (i := 1) (v := .string (strB (l ++ telBy t))) rfl (by kernel_rfl) (by kernel_rfl) (by kernel_rfl) (fun _ _ _ h => h) (yb_convS rfl (.tmp 20) rfl _ _ rfl (fun w hw => conv_by n3 c3 (hBQ.keep hw) HN3.out)) hHeld ?_
  try dsimp only
  try simp only [Act.put, List.getElem_toArray, List.getElem_cons_zero, List.getElem_cons_succ, List.setIfInBounds_toArray, List.set_cons_zero, List.set_cons_succ]
  refine wpAnyH_take (i := 2) (v := .slice a la ca) rfl (by kernel_rfl) (by kernel_rfl) (by kernel_rfl) (fun _ _ _ h => h) (Or.inl ⟨by rfl, fun _ _ => rfl⟩) hHeld ?_
  try dsimp only
  try simp only [Act.put, List.getElem_toArray, List.getElem_cons_zero, List.getElem_cons_succ, List.setIfInBounds_toArray, List.set_cons_zero, List.set_cons_succ]
  refine wpAnyH_take (i := 3) (v := .string (strB l)) rfl (by kernel_rfl) (by kernel_rfl) (by kernel_rfl) (fun _ _ _ h => h) (yb_convS rfl (.tmp 22) rfl _ _ rfl (fun w hw => conv_by la ca (hBP.keep hw) hla.out)) hHeld ?_
  try dsimp only
  try simp only [Act.put, List.getElem_toArray, List.getElem_cons_zero, List.getElem_cons_succ, List.setIfInBounds_toArray, List.set_cons_zero, List.set_cons_succ]
  refine wpAnyH_take (i := 4) (v := .agg #[.int .u64 (t.c : Int), .float .f64 t.s, .bool t.o, .float .f64 t.lo, .float .f64 t.hi]) rfl (by kernel_rfl) (by kernel_rfl) (by kernel_rfl) (fun _ _ _ h => h) (yieldsIf_row rfl 44 (.tmp 3) rfl W.heap.size rfl _ _ _ _ (fun w hw => row_keep R3 hw) uA rfl (iA _ _ _ _ _)) hHeld ?_
  try dsimp only
  try simp only [Act.put, List.getElem_toArray, List.getElem_cons_zero, List.getElem_cons_succ, List.setIfInBounds_toArray, List.set_cons_zero, List.set_cons_succ]
  refine wpAnyH_ready (rs := [5]) (by kernel_rfl) (by simp) (AllReadyH.cons rfl (fun K hK => ?_) AllReadyH.nil)
  go_simp
  refine (HRL.out _).mono ?_
  rintro e v1 ⟨A5, n5, c5, rfl, hy, hk, hv1⟩
  have HK5 := Lib.hid hk
  clear hk
  refine hK.out _ _ hv1 (fun _ => ?_)
  clear hK K
  try dsimp only
  try simp only [Act.put, List.getElem_toArray, List.getElem_cons_zero, List.getElem_cons_succ, List.setIfInBounds_toArray, List.set_cons_zero, List.set_cons_succ]
  refine wpAnyH_more (S' := Below v1.heap.size v1) (fun w h => below_to hv1 h) ?_
  replace R3 := row_keep R3 hv1
  replace hBQ := hBQ.keep hv1
  replace HB := below_to HB hv1
  clear hHeld
  have hHeld := Below.refl v1.heap.size v1
  refine wpAnyH_take (i := 6) (v := .string (strB (telBy t))) rfl (by kernel_rfl) (by kernel_rfl) (by kernel_rfl) (fun _ _ _ h => h) (yb_convS rfl (.tmp 25) rfl _ _ rfl (fun w hw => conv_by n5 c5 (hy.keep hw) HK5.out)) hHeld ?_
  try dsimp only
  try simp only [Act.put, List.getElem_toArray, List.getElem_cons_zero, List.getElem_cons_succ, List.setIfInBounds_toArray, List.set_cons_zero, List.set_cons_succ]
  clear hy HK5
  refine wpAnyH_take (i := 7) (v := .string (strB (l ++ telBy t))) rfl (by kernel_rfl) (by kernel_rfl) (by kernel_rfl) (fun _ _ _ h => h) (yb_bin rfl .add _ _ _ _ rfl _ _ _ rfl rfl (fun _ => rfl) (fun w => b_sadd HLL.out w)) hHeld ?_
  try dsimp only
  try simp only [Act.put, List.getElem_toArray, List.getElem_cons_zero, List.getElem_cons_succ, List.setIfInBounds_toArray, List.set_cons_zero, List.set_cons_succ]
  refine wpAnyH_take (i := 8) (v := .bool false) rfl (by kernel_rfl) (by kernel_rfl) (by kernel_rfl) (fun _ _ _ h => h) (yb_bin rfl .neq _ _ _ _ rfl _ _ _ rfl rfl (fun _ => rfl) (fun w => b_sne _ w)) hHeld ?_
  try dsimp only
  try simp only [Act.put, List.getElem_toArray, List.getElem_cons_zero, List.getElem_cons_succ, List.setIfInBounds_toArray, List.set_cons_zero, List.set_cons_succ]
  refine wpAnyH_done (by kernel_rfl) ?_ _
  clear hHeld hBP
  go_upto_region 7 with fail
  obtain ⟨w4, hw4⟩ : ∃ w4, w4 = v1.alloc (.cells #[.int .u64 0, .float .f64 0, .bool false, .float .f64 0, .float .f64 0] 44) := ⟨_, rfl⟩
  obtain ⟨bb, hbb⟩ : ∃ bb, bb = v1.heap.size := ⟨_, rfl⟩
  have hb4 : Below v1.heap.size v1 w4 := by rw [hw4]; exact (Below.refl _ _).alloc (Nat.le_refl _) _
  have HBW4 := Lib.hid (below_to HB hb4)
  have HR4 := Lib.hid (row_keep R3 hb4)
  have HZ4 : Hid (w4.heap[bb]? = some (.cells #[.int .u64 0, .float .f64 0, .bool false, .float .f64 0, .float .f64 0] 44 (0, 0))) := Lib.hid (by rw [hw4, hbb]; exact heap_alloc_new' v1 _)
  have HBS : Hid (W.heap.size < bb) := Lib.hid (by rw [hbb]; exact (Array.getElem?_eq_some_iff.1 R3).1)
  have hn3 := HN3.out
  rw [List.length_append] at hn3
  have hl1 := hla.out
  obtain ⟨A4, C4, rc, hc1, hc2, hcd⟩ := cut_from A3 n3 c3 la (by omega) HCP.out.1
  obtain ⟨n4, hn4⟩ : ∃ n4, n4 = n3 - la := ⟨_, rfl⟩
  rw [← hn4] at rc hc1
  have hby := hcd w4 _ HN3.out (hBQ.keep hb4)
  rw [List.drop_left' hl1.symm] at hby
  have hn4' : n4 = (telBy t).length := by omega
  have hbw : bb < w4.heap.size := (Array.getElem?_eq_some_iff.1 HZ4.out).1
  have ht := try_any 35 #[] #[.pointer (some ⟨bb, 0, none⟩)] A4 C4 (telBy t) n4 (Lib.hid hn4') hc1 (Nat.le_trans hc2 HCP.out.2) w4 (Lib.hid hby) (fun k => k = bb) (fun k hk => by omega)
    (fun _ => RT bb t) (RT bb t)
    (fun g b v2 v3 hg h hk => ⟨h.1, fun hb => hk.heap (h.2 hb) (fun e => by have e : bb = g := e; omega)⟩)
    (fun g v2 hg hr hb => telFn_any g bb t ht _ rfl v2 (by omega) (Lib.hid (row_keep HZ4.out hb)) (Lib.hid hr))
    (fun _ _ => by first | rfl | kernel_rfl)
  have HT := Lib.hid ht
  have HW4 := Lib.hid hw4
  have HBB := Lib.hid hbb
  have hmf : ∀ (fn : Fn) (first cap : Array Value) (w : World), (Instr.makeFunc fn first cap).run Try.prog w = .ok (.func fn first cap) w := fun _ _ _ _ => rfl
  clear ht hw4 hbb hby hcd hn4 hn4' hn3 hl1 hb4 hbw HB R3 hBQ
  rw [← HW4.out, ← HBB.out]
  go_upto_region 8 with (go_at_call 29; (with_reducible refine (HT.out).mono ?_); rintro e w8 ⟨b, rfl, hr, hk⟩; have HRT := Lib.hid hr; have HK8 := Lib.hid hk; clear hr hk)
  have HB8 : Hid (Below W.heap.size W w8) := Lib.hid (HBW4.out.trans (HK8.out.below HBW4.out.size (fun k hk => by have := HBS.out; omega)))
  have HR8 := Lib.hid (HK8.out.heap HR4.out (fun e => by have := HBS.out; have e : W.heap.size = bb := e; omega))
  obtain ⟨hb, hrw⟩ := HRT.out
  have TA := TelAt.of_row HR8.out
  obtain ⟨t0, t1, t2, t3, t4⟩ := TA
  clear HRT rc hmf
  by_cases hc : t.c ≤ 1099511627776
  · have hd : decide ((t.c : Int) ≤ 1099511627776) = true := decide_eq_true (by omega)
    rw [decide_eq_true hc] at hb
    subst hb
    have HRB := Lib.hid (hrw rfl)
    clear hrw
    obtain ⟨b0, b1, b2, b3, b4⟩ := TelAt.of_row HRB.out
    go_wp2_with (first
      | (go_at_call 22; (with_reducible refine (HRS.out _).mono ?_); rintro e w9 ⟨rfl, hb9⟩; have HB9 := Lib.hid (below_to HB8.out hb9); clear hb9))
    go_ret
    exact ⟨rfl, HB9.out⟩
  · have hd : decide ((t.c : Int) ≤ 1099511627776) = false := decide_eq_false (by omega)
    rw [decide_eq_false hc] at hb
    subst hb
    clear hrw
    go_wp2
    go_ret
    exact ⟨rfl, HB8.out⟩
theorem aggTellings_any (a : Option Addr) (l : List Nat) (la ca : Nat) (hla : Hid (la = l.length)) (hac : la ≤ ca) (hcm : ca ≤ maxLen) (t : Tel) (ht : t.Ok) (W : World) (HA : Hid (ByAt W a l)) :
    Calls Try.prog 7 #[.slice a la ca, .agg #[.int .u64 (t.c : Int), .float .f64 t.s, .bool t.o, .float .f64 t.lo, .float .f64 t.hi]] W fun e w' => e = .returned (.bool true) ∧ Below W.heap.size W w' := by
  by_cases hL : 300 < la
  · exact aggTellings_long a la ca t hL W
  · exact aggTellings_core a l la ca hla hac hcm t ht hL W HA

end Go.Proofs.Ythklamgdoknmeaa
