/-
  Layer agg: the law AggTellings, walked.
-/
import Derived.Deep.DeepCutAuto
import Derived.Test.YtljelocomjbanaaQPaback4
import Derived.Test.YtljelocomjbanaaQPaback5
import Derived.Test.YtljelocomjbanaaQPaback1
import Derived.Test.YtljelocomjbanaaQPaback3
set_option linter.unusedSimpArgs false
set_option linter.unusedVariables false
set_option maxRecDepth 8000
namespace Go.Proofs.Ytljelocomjbanaa
open Go.RowKit Go.WideShapes Col Sm
theorem wp_append_by {w : World} {o : Oper} {a : Act} {K : Act → World → Prop} {Q : Exit → Act → World → Prop} (s x : Operand)
    (ho : o.op = .call { callee := .builtin .append, args := #[s, x], argTypes := #[39, 39] })
    (B : Nat) (A : Option Addr) (n cap : Nat) (l : List Nat) (hs : a.eval s = .slice A n cap) (hown : OwnS w B A n cap l) (b : Option Addr) (m c : Nat) (l2 : List Nat) (hx : a.eval x = .slice b m c) (hm : m = l2.length) (h2 : ByAt w b l2)
    (hbytes : n + m ≤ 140737488355328) (hbase : B ≤ w.heap.size)
    (h : ∀ A' cap' w', OwnS w' B A' (n + m) cap' (l ++ l2) → w.grownBy w' (A.map (·.block)) → (A'.map (·.block) = A.map (·.block) ∨ A'.map (·.block) = some w.heap.size) → K (a.put o.dst (.slice A' (n + m) cap')) w') : o.wp Try.prog a w K Q := by
  obtain ⟨A', cap', w', hr, h3, h4, h5⟩ := run_append_by w B A n cap l hown b m c l2 hm h2 hbytes hbase o.type
  unfold Oper.wp execOp
  simp only [ho, resolve, invoke, builtin, Sem.run_bind, Sem.run_pure, Result.andThen_ok, List.map_toArray, List.map_cons, List.map_nil, hs, hx, hr]
  exact h A' cap' w' h3 h4 h5
theorem b_sne (s : ByteArray) (w : World) : (binOp .neq 9 (.string s) (.string s)).run Try.prog w = .ok (.bool false) w := by
  simp [binOp, Op.stringOp]
theorem b_sadd {l m : List Nat} (h : l.length + m.length ≤ 1000000) (w : World) : (binOp .add 9 (.string (strB l)) (.string (strB m))).run Try.prog w = .ok (.string (strB (l ++ m))) w := by
  have h1 := strB_size l
  have h2 := strB_size m
  rw [← strB_append]
  go_simp
  omega
theorem telC_ok (t : Tel) (h : t.Ok) : (telC t).Ok := ⟨h.c, Fl.canon_lt _ h.s, Fl.canon_lt _ h.lo, Fl.canon_lt _ h.hi⟩
theorem telB_C (t : Tel) : telB t (telC t) = true := by unfold telB telC; simp [Fl.canon_canon]
/-- Where a telling that was read lies. -/
def RT (bb : Nat) (t : Tel) (b : Bool) (w : World) : Prop := b = decide (t.c ≤ 1099511627776) ∧ (b = true → w.heap[bb]? = some (.cells #[.int .u64 ((telC t).c : Int), .float .f64 (telC t).s, .bool (telC t).o, .float .f64 (telC t).lo, .float .f64 (telC t).hi] 34 (0, 0)))
set_option maxHeartbeats 2000000 in
theorem telFn_any (g bb : Nat) (t : Tel) (ht : t.Ok) (z : Array Value) (hz : z.size = 5) (w : World) (hbg : bb < g) (hrow : Hid (w.heap[bb]? = some (.cells z 34 (0, 0)))) (H : Hid (Rd w g (telBy t))) :
    Calls Try.prog 29 #[.pointer (some ⟨g, 0, none⟩), .pointer (some ⟨bb, 0, none⟩)] w (Tried g (fun k => k = bb) (RT bb t) w) := by
  have hbw : bb < w.heap.size := (Array.getElem?_eq_some_iff.1 hrow.out).1
  have keep : ∀ w', Kept (fun k => k = g ∨ w.heap.size ≤ k) w w' → w'.heap[bb]? = some (.cells z 34 (0, 0)) := fun w' hk => hk.heap hrow.out (fun h => by omega)
  have KP := Lib.hid keep
  clear keep
  by_cases hc : t.c ≤ 1099511627776
  · have HV := Lib.hid (readValue_yes g t ht hc w H)
    go_enter Try.func29, Try.ntmps29
    go_wp2_with (first
      | (go_at_call 30; (with_reducible refine (HV.out).mono ?_); rintro e w1 ⟨rfl, hr, hk⟩; have HR := Lib.hid hr; have HK := Lib.hid hk; have HW := Lib.hid (KP.out w1 hk); clear hr hk)
      | (refine wpList_store_row rfl 34 (.tmp 1) (.tmp 4) rfl bb #[.int .u64 ((telC t).c : Int), .float .f64 (telC t).s, .bool (telC t).o, .float .f64 (telC t).lo, .float .f64 (telC t).hi] rfl rfl _ _ HW.out (iA _ _ _ _ _) (by rw [hz]; rfl) (by simp [Value.oneCell']) ?_))
    have hkr : Kept (fun k => k = bb) w1 (w1.setRow bb #[.int .u64 ((telC t).c : Int), .float .f64 (telC t).s, .bool (telC t).o, .float .f64 (telC t).lo, .float .f64 (telC t).hi]) := kept_setRow w1 _ _
    refine bodyPost_ret (results_none rfl _ _ _) rfl ⟨?_, .inl ⟨[], rfl, ?_, ?_⟩⟩
    · exact (HK.out.mono (S' := fun k => k = bb ∨ k = g) (fun k h => by rcases h with h | h; exact .inl (.inr h); exact .inr h)).trans' hkr (fun i hi => .inl (.inl hi))
    · obtain ⟨A, C, h⟩ := HR.out
      exact ⟨A, C, h.keep hkr (by omega) (fun a _ h0 => by simp at h0)⟩
    · exact ⟨by simp [hc], fun _ => setRow_heap _ _ _ _ _ _ HW.out⟩
  · have HV := Lib.hid (readValue_no g t ht (by omega) w H)
    go_enter Try.func29, Try.ntmps29
    go_wp2_with (go_at_call 30; (with_reducible refine (HV.out).mono ?_); rintro e w1 ⟨rfl, hg, hk⟩)
    exact ⟨rfl, hk.mono fun k h => by rcases h with h | h; exact .inl (.inr h); exact .inr h, .inr ⟨rfl, hg, by simp [hc], fun h => by cases h⟩⟩
set_option maxHeartbeats 1000000 in
theorem aggTellings_long (a : Option Addr) (la ca : Nat) (t : Tel) (hL : 300 < la) (w : World) :
    Calls Try.prog 5 #[.slice a la ca, .agg #[.int .u64 (t.c : Int), .float .f64 t.s, .bool t.o, .float .f64 t.lo, .float .f64 t.hi]] w fun e w' => e = .returned (.bool true) ∧ Below w.heap.size w w' := by
  have HB0 := (Below.refl w.heap.size w).alloc (Nat.le_refl _) (.cells #[.int .u64 (t.c : Int), .float .f64 t.s, .bool t.o, .float .f64 t.lo, .float .f64 t.hi] 34)
  go_enter Try.func5, Try.ntmps5
  go_wp2_with (go_at_call 15; refine (awakeS_any _).mono ?_; rintro e w' ⟨rfl, hb1⟩; replace HB0 := HB0.trans (hb1.mono HB0.size); clear hb1)
  go_ret
  exact ⟨rfl, HB0⟩

set_option maxHeartbeats 8000000 in
theorem aggTellings_core (a : Option Addr) (l : List Nat) (la ca : Nat) (hla : Hid (la = l.length)) (hac : la ≤ ca) (hcm : ca ≤ maxLen) (t : Tel) (ht : t.Ok) (hL : ¬ 300 < la) (W : World) (HA : Hid (ByAt W a l)) :
    Calls Try.prog 5 #[.slice a la ca, .agg #[.int .u64 (t.c : Int), .float .f64 t.s, .bool t.o, .float .f64 t.lo, .float .f64 t.hi]] W fun e w' => e = .returned (.bool true) ∧ Below W.heap.size W w' := by
  have hcm2 : ca ≤ 9223372036854775807 := hcm
  have HLT := Lib.hid (telBy_len t ht)
  have HRL : Hid (∀ w, Calls Try.prog 28 #[.agg #[.int .u64 (t.c : Int), .float .f64 t.s, .bool t.o, .float .f64 t.lo, .float .f64 t.hi]] w fun e w' => ∃ A n c, e = .returned (.slice A n c) ∧ ByAt w' A (telBy t) ∧ n = (telBy t).length ∧ Below w.heap.size w w') := Lib.hid fun w => (refLayV_any t ht w).mono fun e w' h => by
    obtain ⟨A, n, c, he, ho, hb, hn⟩ := h.at
    exact ⟨A, n, c, he, ho.out.byAt, hn, hb.out⟩
  have HLL : Hid (l.length + (telBy t).length ≤ 1000000) := Lib.hid (by have := hla.out; have := HLT.out; omega)
  have HRS : Hid (∀ w, Calls Try.prog 17 #[.agg #[.int .u64 (t.c : Int), .float .f64 t.s, .bool t.o, .float .f64 t.lo, .float .f64 t.hi], .agg #[.int .u64 ((telC t).c : Int), .float .f64 (telC t).s, .bool (telC t).o, .float .f64 (telC t).lo, .float .f64 (telC t).hi]] w fun e w' => e = .returned (.bool true) ∧ Below w.heap.size w w') := Lib.hid fun w => by
    have h := refAggSame_any t (telC t) ht (telC_ok t ht) w
    rwa [telB_C] at h
  have HB0 : Hid (Below W.heap.size W (W.alloc (.cells #[.int .u64 (t.c : Int), .float .f64 t.s, .bool t.o, .float .f64 t.lo, .float .f64 t.hi] 34))) := Lib.hid ((Below.refl _ _).alloc (Nat.le_refl _) _)
  have HR0 := Lib.hid (heap_alloc_new' W (.cells #[.int .u64 (t.c : Int), .float .f64 t.s, .bool t.o, .float .f64 t.lo, .float .f64 t.hi] 34))
  go_enter Try.func5, Try.ntmps5
  go_upto_region 3 with (go_at_call 15; refine (awakeS_any _).mono ?_; rintro e w1 ⟨rfl, hb⟩; have HB1 := Lib.hid (below_to HB0.out hb); have HR1 := Lib.hid (row_keep HR0.out hb); clear hb)
  obtain ⟨w1d, hw1d⟩ : ∃ w1d, w1d = w1.drew := ⟨_, rfl⟩
  have HB : Below W.heap.size W w1d := by rw [hw1d]; exact HB1.out.drew
  have R3 : w1d.heap[W.heap.size]? = some (.cells #[.int .u64 (t.c : Int), .float .f64 t.s, .bool t.o, .float .f64 t.lo, .float .f64 t.hi] 34 (0, 0)) := by rw [hw1d]; exact HR1.out
  clear HB0 HR0 HB1 HR1
  refine wp_region_held_drew (S := Below w1d.heap.size w1d) (by kernel_rfl) (by rw [← hw1d]; exact Below.refl _ _) (fun hHeld => ?_)
  rw [← hw1d] at hHeld ⊢
  clear hw1d
  refine wpAnyH_take (i := 0) (v := .slice a la ca) rfl (by kernel_rfl) (by kernel_rfl) (by kernel_rfl) (fun _ _ _ h => h) (Or.inl ⟨by rfl, fun _ _ => rfl⟩) hHeld ?_
  try dsimp only
  try simp only [Act.put, List.getElem_toArray, List.getElem_cons_zero, List.getElem_cons_succ, List.setIfInBounds_toArray, List.set_cons_zero, List.set_cons_succ]
  refine wpAnyH_take (i := 2) (v := .agg #[.int .u64 (t.c : Int), .float .f64 t.s, .bool t.o, .float .f64 t.lo, .float .f64 t.hi]) rfl (by kernel_rfl) (by kernel_rfl) (by kernel_rfl) (fun _ _ _ h => h) (yieldsIf_row rfl 34 (.tmp 3) rfl W.heap.size rfl _ _ _ _ (fun w hw => row_keep R3 hw) uA rfl (iA _ _ _ _ _)) hHeld ?_
  try dsimp only
  try simp only [Act.put, List.getElem_toArray, List.getElem_cons_zero, List.getElem_cons_succ, List.setIfInBounds_toArray, List.set_cons_zero, List.set_cons_succ]
  refine wpAnyH_ready (rs := [1]) (by kernel_rfl) (by simp) (AllReadyH.cons rfl (fun K hK => ?_) AllReadyH.nil)
  rw [if_pos (by rfl)]
  refine wp_append_by _ (.tmp 16) rfl W.heap.size none 0 0 [] rfl (OwnS.nil _ _) a la ca l rfl hla.out (HA.out.keep HB) (by omega) HB.size ?_
  intro A1 c1 w2 ho hg hr
  rw [Nat.zero_add] at ho ⊢
  rw [List.nil_append] at ho
  have HO1 := Lib.hid ho
  have hD2 : Below w1d.heap.size w1d w2 := (Below.refl _ _).grown hg (Nat.le_refl _) (fun k h => by cases h)
  have hA1 : ∀ k, MineK A1 k → w1d.heap.size ≤ k := fun k hk => by rcases hr with h | h; (unfold MineK at hk; rw [h] at hk; cases hk); (unfold MineK at hk; rw [h] at hk; injection hk with hk; omega)
  clear ho hg hr
  refine hK.out _ _ hD2 (fun hHeld => ?_)
  clear hK K
  try dsimp only
  try simp only [Act.put, List.getElem_toArray, List.getElem_cons_zero, List.getElem_cons_succ, List.setIfInBounds_toArray, List.set_cons_zero, List.set_cons_succ]
  refine wpAnyH_ready (rs := [3]) (by kernel_rfl) (by simp) (AllReadyH.cons rfl (fun K hK => ?_) AllReadyH.nil)
  go_simp
  refine (layV_any W.heap.size A1 la c1 l t ht w2 HO1 (by omega) (Nat.le_trans HB.size hD2.size)).mono ?_
  rintro e w3 hp
  obtain ⟨A3, n3, c3, rfl, HO3, HK3, HM3, hn3⟩ := hp.at
  have hD3 : Below w1d.heap.size w1d w3 := hD2.trans (HK3.out.below hD2.size hA1)
  have HN3 := Lib.hid hn3
  clear hp hn3 HK3 HM3 hD2 hA1 HO1
  refine hK.out _ _ hD3 (fun hHeld => ?_)
  clear hK K
  try dsimp only
  try simp only [Act.put, List.getElem_toArray, List.getElem_cons_zero, List.getElem_cons_succ, List.setIfInBounds_toArray, List.set_cons_zero, List.set_cons_succ]
  refine wpAnyH_ready (rs := [4]) (by kernel_rfl) (by simp) (AllReadyH.cons rfl (fun K hK => ?_) AllReadyH.nil)
  go_simp
  refine hK.out _ _ hD3 (fun hHeld => ?_)
  clear hK K
  refine wpAnyH_done (by kernel_rfl) ?_ _
  have HBW3 := Lib.hid (below_to HB hD3)
  have HRW3 := Lib.hid (row_keep R3 hD3)
  clear HB R3 hHeld hD3
  go_upto_region 4 with fail
  obtain ⟨w3d, hw3d⟩ : ∃ w3d, w3d = w3.drew := ⟨_, rfl⟩
  have HB : Below W.heap.size W w3d := by rw [hw3d]; exact HBW3.out.drew
  have R3 : w3d.heap[W.heap.size]? = some (.cells #[.int .u64 (t.c : Int), .float .f64 t.s, .bool t.o, .float .f64 t.lo, .float .f64 t.hi] 34 (0, 0)) := by rw [hw3d]; exact HRW3.out
  have hBQ : ByAt w3d A3 (l ++ telBy t) := by rw [hw3d]; exact HO3.out.byAt.keep (Below.refl _ _).drew
  have hBP : ByAt w3d a l := HA.out.keep HB
  have HCP := Lib.hid HO3.out.caps
  refine wp_region_held_drew (S := Below w3d.heap.size w3d) (by kernel_rfl) (by rw [← hw3d]; exact Below.refl _ _) (fun hHeld => ?_)
  rw [← hw3d] at hHeld ⊢
  clear hw3d HBW3 HRW3 HO3
  refine wpAnyH_take (i := 0) (v := .slice A3 n3 c3) rfl (by kernel_rfl) (by kernel_rfl) (by kernel_rfl) (fun _ _ _ h => h) (Or.inl ⟨by rfl, fun _ _ => rfl⟩) hHeld ?_
  try dsimp only
  try simp only [Act.put, List.getElem_toArray, List.getElem_cons_zero, List.getElem_cons_succ, List.setIfInBounds_toArray, List.set_cons_zero, List.set_cons_succ]
  refine wpAnyH_take (i := 1) (v := .string (strB (l ++ telBy t))) rfl (by kernel_rfl) (by kernel_rfl) (by kernel_rfl) (fun _ _ _ h => h) (yb_convS rfl (.tmp 20) rfl _ _ rfl (fun w hw => conv_by n3 c3 (hBQ.keep hw) HN3.out)) hHeld ?_
  try dsimp only
  try simp only [Act.put, List.getElem_toArray, List.getElem_cons_zero, List.getElem_cons_succ, List.setIfInBounds_toArray, List.set_cons_zero, List.set_cons_succ]
  refine wpAnyH_take (i := 2) (v := .slice a la ca) rfl (by kernel_rfl) (by kernel_rfl) (by kernel_rfl) (fun _ _ _ h => h) (Or.inl ⟨by rfl, fun _ _ => rfl⟩) hHeld ?_
  try dsimp only
  try simp only [Act.put, List.getElem_toArray, List.getElem_cons_zero, List.getElem_cons_succ, List.setIfInBounds_toArray, List.set_cons_zero, List.set_cons_succ]
  refine wpAnyH_take (i := 3) (v := .string (strB l)) rfl (by kernel_rfl) (by kernel_rfl) (by kernel_rfl) (fun _ _ _ h => h) (yb_convS rfl (.tmp 22) rfl _ _ rfl (fun w hw => conv_by la ca (hBP.keep hw) hla.out)) hHeld ?_
  try dsimp only
  try simp only [Act.put, List.getElem_toArray, List.getElem_cons_zero, List.getElem_cons_succ, List.setIfInBounds_toArray, List.set_cons_zero, List.set_cons_succ]
  refine wpAnyH_take (i := 4) (v := .agg #[.int .u64 (t.c : Int), .float .f64 t.s, .bool t.o, .float .f64 t.lo, .float .f64 t.hi]) rfl (by kernel_rfl) (by kernel_rfl) (by kernel_rfl) (fun _ _ _ h => h) (yieldsIf_row rfl 34 (.tmp 3) rfl W.heap.size rfl _ _ _ _ (fun w hw => row_keep R3 hw) uA rfl (iA _ _ _ _ _)) hHeld ?_
  try dsimp only
  try simp only [Act.put, List.getElem_toArray, List.getElem_cons_zero, List.getElem_cons_succ, List.setIfInBounds_toArray, List.set_cons_zero, List.set_cons_succ]
  refine wpAnyH_ready (rs := [5]) (by kernel_rfl) (by simp) (AllReadyH.cons rfl (fun K hK => ?_) AllReadyH.nil)
  go_simp
  refine (HRL.out _).mono ?_
  rintro e v1 ⟨A5, n5, c5, rfl, hy, hk, hv1⟩
  have HK5 := Lib.hid hk
  clear hk
  refine hK.out _ _ hv1 (fun _ => ?_)
  clear hK K
  try dsimp only
  try simp only [Act.put, List.getElem_toArray, List.getElem_cons_zero, List.getElem_cons_succ, List.setIfInBounds_toArray, List.set_cons_zero, List.set_cons_succ]
  refine wpAnyH_more (S' := Below v1.heap.size v1) (fun w h => below_to hv1 h) ?_
  replace R3 := row_keep R3 hv1
  replace hBQ := hBQ.keep hv1
  replace HB := below_to HB hv1
  clear hHeld
  have hHeld := Below.refl v1.heap.size v1
  refine wpAnyH_take (i := 6) (v := .string (strB (telBy t))) rfl (by kernel_rfl) (by kernel_rfl) (by kernel_rfl) (fun _ _ _ h => h) (yb_convS rfl (.tmp 25) rfl _ _ rfl (fun w hw => conv_by n5 c5 (hy.keep hw) HK5.out)) hHeld ?_
  try dsimp only
  try simp only [Act.put, List.getElem_toArray, List.getElem_cons_zero, List.getElem_cons_succ, List.setIfInBounds_toArray, List.set_cons_zero, List.set_cons_succ]
  clear hy HK5
  refine wpAnyH_take (i := 7) (v := .string (strB (l ++ telBy t))) rfl (by kernel_rfl) (by kernel_rfl) (by kernel_rfl) (fun _ _ _ h => h) (yb_bin rfl .add _ _ _ _ rfl _ _ _ rfl rfl (fun _ => rfl) (fun w => b_sadd HLL.out w)) hHeld ?_
  try dsimp only
  try simp only [Act.put, List.getElem_toArray, List.getElem_cons_zero, List.getElem_cons_succ, List.setIfInBounds_toArray, List.set_cons_zero, List.set_cons_succ]
  refine wpAnyH_take (i := 8) (v := .bool false) rfl (by kernel_rfl) (by kernel_rfl) (by kernel_rfl) (fun _ _ _ h => h) (yb_bin rfl .neq _ _ _ _ rfl _ _ _ rfl rfl (fun _ => rfl) (fun w => b_sne _ w)) hHeld ?_
  try dsimp only
  try simp only [Act.put, List.getElem_toArray, List.getElem_cons_zero, List.getElem_cons_succ, List.setIfInBounds_toArray, List.set_cons_zero, List.set_cons_succ]
  refine wpAnyH_done (by kernel_rfl) ?_ _
  clear hHeld hBP
  go_upto_region 7 with fail
  obtain ⟨w4, hw4⟩ : ∃ w4, w4 = v1.alloc (.cells #[.int .u64 0, .float .f64 0, .bool false, .float .f64 0, .float .f64 0] 34) := ⟨_, rfl⟩
  obtain ⟨bb, hbb⟩ : ∃ bb, bb = v1.heap.size := ⟨_, rfl⟩
  have hb4 : Below v1.heap.size v1 w4 := by rw [hw4]; exact (Below.refl _ _).alloc (Nat.le_refl _) _
  have HBW4 := Lib.hid (below_to HB hb4)
  have HR4 := Lib.hid (row_keep R3 hb4)
  have HZ4 : Hid (w4.heap[bb]? = some (.cells #[.int .u64 0, .float .f64 0, .bool false, .float .f64 0, .float .f64 0] 34 (0, 0))) := Lib.hid (by rw [hw4, hbb]; exact heap_alloc_new' v1 _)
  have HBS : Hid (W.heap.size < bb) := Lib.hid (by rw [hbb]; exact (Array.getElem?_eq_some_iff.1 R3).1)
  have hn3 := HN3.out
  rw [List.length_append] at hn3
  have hl1 := hla.out
  obtain ⟨A4, C4, rc, hc1, hc2, hcd⟩ := cut_from A3 n3 c3 la (by omega) HCP.out.1
  obtain ⟨n4, hn4⟩ : ∃ n4, n4 = n3 - la := ⟨_, rfl⟩
  rw [← hn4] at rc hc1
  have hby := hcd w4 _ HN3.out (hBQ.keep hb4)
  rw [List.drop_left' hl1.symm] at hby
  have hn4' : n4 = (telBy t).length := by omega
  have hbw : bb < w4.heap.size := (Array.getElem?_eq_some_iff.1 HZ4.out).1
  have ht := try_any 29 #[] #[.pointer (some ⟨bb, 0, none⟩)] A4 C4 (telBy t) n4 (Lib.hid hn4') hc1 (Nat.le_trans hc2 HCP.out.2) w4 (Lib.hid hby) (fun k => k = bb) (fun k hk => by omega)
    (fun _ => RT bb t) (RT bb t)
    (fun g b v2 v3 hg h hk => ⟨h.1, fun hb => hk.heap (h.2 hb) (fun e => by have e : bb = g := e; omega)⟩)
    (fun g v2 hg hr hb => telFn_any g bb t ht _ rfl v2 (by omega) (Lib.hid (row_keep HZ4.out hb)) (Lib.hid hr))
    (fun _ _ => by first | rfl | kernel_rfl)
  have HT := Lib.hid ht
  have HW4 := Lib.hid hw4
  have HBB := Lib.hid hbb
  have hmf : ∀ (fn : Fn) (first cap : Array Value) (w : World), (Instr.makeFunc fn first cap).run Try.prog w = .ok (.func fn first cap) w := fun _ _ _ _ => rfl
  clear ht hw4 hbb hby hcd hn4 hn4' hn3 hl1 hb4 hbw HB R3 hBQ
  rw [← HW4.out, ← HBB.out]
  go_upto_region 8 with (go_at_call 23; (with_reducible refine (HT.out).mono ?_); rintro e w8 ⟨b, rfl, hr, hk⟩; have HRT := Lib.hid hr; have HK8 := Lib.hid hk; clear hr hk)
  have HB8 : Hid (Below W.heap.size W w8) := Lib.hid (HBW4.out.trans (HK8.out.below HBW4.out.size (fun k hk => by have := HBS.out; omega)))
  have HR8 := Lib.hid (HK8.out.heap HR4.out (fun e => by have := HBS.out; have e : W.heap.size = bb := e; omega))
  obtain ⟨hb, hrw⟩ := HRT.out
  have TA := TelAt.of_row HR8.out
  obtain ⟨t0, t1, t2, t3, t4⟩ := TA
  clear HRT rc hmf
  by_cases hc : t.c ≤ 1099511627776
  · have hd : decide ((t.c : Int) ≤ 1099511627776) = true := decide_eq_true (by omega)
    rw [decide_eq_true hc] at hb
    subst hb
    have HRB := Lib.hid (hrw rfl)
    clear hrw
    obtain ⟨b0, b1, b2, b3, b4⟩ := TelAt.of_row HRB.out
    go_wp2_with (first
      | (go_at_call 17; (with_reducible refine (HRS.out _).mono ?_); rintro e w9 ⟨rfl, hb9⟩; have HB9 := Lib.hid (below_to HB8.out hb9); clear hb9))
    go_ret
    exact ⟨rfl, HB9.out⟩
  · have hd : decide ((t.c : Int) ≤ 1099511627776) = false := decide_eq_false (by omega)
    rw [decide_eq_false hc] at hb
    subst hb
    clear hrw
    go_wp2
    go_ret
    exact ⟨rfl, HB8.out⟩
theorem aggTellings_any (a : Option Addr) (l : List Nat) (la ca : Nat) (hla : Hid (la = l.length)) (hac : la ≤ ca) (hcm : ca ≤ maxLen) (t : Tel) (ht : t.Ok) (W : World) (HA : Hid (ByAt W a l)) :
    Calls Try.prog 5 #[.slice a la ca, .agg #[.int .u64 (t.c : Int), .float .f64 t.s, .bool t.o, .float .f64 t.lo, .float .f64 t.hi]] W fun e w' => e = .returned (.bool true) ∧ Below W.heap.size W w' := by
  by_cases hL : 300 < la
  · exact aggTellings_long a la ca t hL W
  · exact aggTellings_core a l la ca hla hac hcm t ht hL W HA

end Go.Proofs.Ytljelocomjbanaa

set_option linter.unusedSimpArgs false
set_option linter.unusedVariables false
set_option maxRecDepth 8000
namespace Go.Proofs.Ytljelocomjbanaa
open Go.RowKit Go.WideShapes Col Sm
/-- Where a state that was read lies. -/
def RTS (bb n N h lo hi : Nat) (b : Bool) (w : World) : Prop := b = true ∧ StAt w bb n (wd N) h lo hi
set_option maxHeartbeats 2000000 in
theorem stFn_any (g bb n N h lo hi : Nat) (hn : n ≤ 1099511627776) (hN : N < top) (hh : h < 256) (hp : Poss h N) (hlo : lo < 18446744073709551616) (hhi : hi < 18446744073709551616) (K1 : Hid (Fl.canon lo = lo)) (K2 : Hid (Fl.canon hi = hi)) (b : Bool)
    (HB : Hid ((bits .and .u8 (h : Int) 8 != 0) = b)) (HGT : Hid (decide (0 < (n : Int)) = b)) (HZ : n = 0 → lo = 0 ∧ hi = 0) (w : World) (hbg : bb < g) (n0 h0 lo0 hi0 : Nat) (f0 : Nat → Nat) (hrow : Hid (StAt w bb n0 f0 h0 lo0 hi0)) (H : Hid (Rd w g (stBy n N h lo hi))) :
    Calls Try.prog 24 #[.pointer (some ⟨g, 0, none⟩), .pointer (some ⟨bb, 0, none⟩)] w (Tried g (fun k => k = bb) (RTS bb n N h lo hi) w) := by
  have hbw : bb < w.heap.size := (Array.getElem?_eq_some_iff.1 hrow.out).1
  have keep : ∀ w', Kept (fun k => k = g ∨ w.heap.size ≤ k) w w' → StAt w' bb n0 f0 h0 lo0 hi0 := fun w' hk => hk.heap hrow.out (fun h => by omega)
  have KP := Lib.hid keep
  clear keep
  have HV := Lib.hid (stRead_yes g n N h lo hi hn hN hh hp hlo hhi K1 K2 b HB HGT HZ w H)
  clear HZ
  go_enter Try.func24, Try.ntmps24
  go_wp2_with (first
    | (go_at_call 25; (with_reducible refine (HV.out).mono ?_); rintro e w1 ⟨rfl, hr, hk⟩; have HR := Lib.hid hr; have HK := Lib.hid hk; have HW := Lib.hid (KP.out w1 hk); clear hr hk)
    | (refine wpList_store_row rfl 29 (.tmp 1) (.tmp 4) rfl bb (T39 n (wd N) h lo hi) rfl rfl _ _ HW.out (iT _ _ _ _ _) (by rw [T39_size, T39_size]) (one39 _ _ _ _ _) ?_))
  have hkr : Kept (fun k => k = bb) w1 (w1.setRow bb (T39 n (wd N) h lo hi)) := kept_setRow w1 _ _
  refine bodyPost_ret (results_none rfl _ _ _) rfl ⟨?_, .inl ⟨[], rfl, ?_, ?_⟩⟩
  · exact (HK.out.mono (S' := fun k => k = bb ∨ k = g) (fun k h => by rcases h with h | h; exact .inl (.inr h); exact .inr h)).trans' hkr (fun i hi => .inl (.inl hi))
  · obtain ⟨A, C, h⟩ := HR.out
    exact ⟨A, C, h.keep hkr (by omega) (fun a _ h0 => by simp at h0)⟩
  · exact ⟨rfl, setRow_heap _ _ _ _ _ _ HW.out⟩
end Go.Proofs.Ytljelocomjbanaa

set_option linter.unusedSimpArgs false
set_option linter.unusedVariables false
set_option maxRecDepth 8000
namespace Go.Proofs.Ytljelocomjbanaa.Sm
open Ieee Fl

/-- The greatest rung that isn't above m units. -/
def lo (m : Nat) : Nat := drop m * 4503599627370496 + m / 2 ^ drop m
theorem val_form (s q : Nat) (hq : q < 9007199254740992) (h : s = 0 ∨ 4503599627370496 ≤ q) : val (s * 4503599627370496 + q) = q * 2 ^ s := by
  unfold val mant shf
  by_cases h1 : s * 4503599627370496 + q < 4503599627370496
  · have hs : s = 0 := by omega
    subst hs
    rw [if_pos h1, if_pos h1]; simp
  · rw [if_neg h1, if_neg h1]
    have hs : s = 0 ∨ 4503599627370496 ≤ q := h
    have e1 : (s * 4503599627370496 + q) / 4503599627370496 - 1 = s := by omega
    have e2 : 4503599627370496 + (s * 4503599627370496 + q) % 4503599627370496 = q := by omega
    rw [e1, e2]
theorem quot_ge (m : Nat) : drop m = 0 ∨ 4503599627370496 ≤ m / 2 ^ drop m := by
  by_cases h : drop m = 0
  · exact Or.inl h
  · right
    have hm : m ≠ 0 := by intro e; subst e; exact h (by decide)
    have h2 := (bitLen_spec m).2 hm
    have e : 2 ^ (bitLen m - 1) = 4503599627370496 * 2 ^ drop m := by
      rw [show (4503599627370496 : Nat) = 2 ^ 52 from rfl, ← Nat.pow_add]; congr 1; unfold drop at *; omega
    rw [e] at h2
    exact (Nat.le_div_iff_mul_le (Nat.two_pow_pos _)).2 h2
theorem val_lo (m : Nat) : val (lo m) = m / 2 ^ drop m * 2 ^ drop m := val_form _ _ (quot_lt m) (quot_ge m)
theorem val_hi (m : Nat) : val (lo m + 1) = (m / 2 ^ drop m + 1) * 2 ^ drop m := by
  have hq := quot_lt m
  have hg := quot_ge m
  unfold lo
  generalize m / 2 ^ drop m = q at *
  generalize drop m = s at *
  by_cases h : q + 1 < 9007199254740992
  · rw [Nat.add_assoc, val_form s (q + 1) h (by omega)]
  · have e : s * 4503599627370496 + q + 1 = (s + 1) * 4503599627370496 + 4503599627370496 := by omega
    rw [e, val_form (s + 1) 4503599627370496 (by decide) (Or.inr (Nat.le_refl _)), show q + 1 = 4503599627370496 * 2 by omega, Nat.pow_succ, Nat.mul_comm (2 ^ s) 2, Nat.mul_assoc]
/-- m lies from its rung on, below the next one. -/
theorem lo_le (m : Nat) : val (lo m) ≤ m ∧ m < val (lo m + 1) := by
  rw [val_lo, val_hi]
  have hp : 0 < 2 ^ drop m := Nat.two_pow_pos _
  have e := Nat.div_add_mod m (2 ^ drop m)
  have hr := Nat.mod_lt m hp
  rw [Nat.add_mul, Nat.one_mul, Nat.mul_comm (m / 2 ^ drop m)]
  omega
theorem val_le_of_le {r q : Nat} (h : r ≤ q) : val r ≤ val q := by
  rcases Nat.lt_or_ge r q with h1 | h1
  · exact Nat.le_of_lt (val_lt_of_lt h1)
  · rw [Nat.le_antisymm h h1]; exact Nat.le_refl _
theorem lo_mono {a b : Nat} (h : a ≤ b) : lo a ≤ lo b := by
  rcases Nat.lt_or_ge (lo b) (lo a) with h1 | h1
  · have h2 := val_le_of_le (show lo b + 1 ≤ lo a by omega)
    have := (lo_le a).1
    have := (lo_le b).2
    omega
  · exact h1
/-- Which of the two: the nearer one; of two alike the even one. -/
theorem up_iff (m : Nat) : rup m (drop m) = true ↔ val (lo m) + val (lo m + 1) < 2 * m ∨ val (lo m) + val (lo m + 1) = 2 * m ∧ lo m % 2 = 1 := by
  rw [val_lo, val_hi]
  have hpar : lo m % 2 = m / 2 ^ drop m % 2 := by unfold lo; omega
  rw [hpar]
  have e := Nat.div_add_mod m (2 ^ drop m)
  have hp : 0 < 2 ^ drop m := Nat.two_pow_pos _
  have hs : drop m ≤ m.log2 + 2 := by
    unfold drop
    by_cases h0 : m = 0
    · subst h0; decide
    · rw [len_log m h0]; omega
  have hc := cut_rup false m (drop m) hs
  unfold Toward.cut at hc
  dsimp only at hc
  rw [Nat.min_eq_left hs, Nat.shiftLeft_eq, Nat.one_mul] at hc
  have hc2 : rup m (drop m) = (decide (2 ^ drop m < 2 * (m % 2 ^ drop m)) || (2 ^ drop m == 2 * (m % 2 ^ drop m) && m / 2 ^ drop m % 2 == 1)) := by
    have h := Nat.add_left_cancel hc
    revert h
    cases rup m (drop m) <;> cases (decide (2 ^ drop m < 2 * (m % 2 ^ drop m)) || (2 ^ drop m == 2 * (m % 2 ^ drop m) && m / 2 ^ drop m % 2 == 1)) <;> simp
  rw [hc2]
  simp only [Bool.or_eq_true, Bool.and_eq_true, decide_eq_true_eq, beq_iff_eq]
  rw [Nat.add_mul, Nat.one_mul, Nat.mul_comm (m / 2 ^ drop m)]
  generalize 2 ^ drop m * (m / 2 ^ drop m) = L at *
  generalize 2 ^ drop m = g at *
  generalize m % g = r at *
  generalize m / g % 2 = p at *
  omega
theorem rnd_cases (m : Nat) : rup m (drop m) = true ∧ rnd m = lo m + 1 ∨ rup m (drop m) = false ∧ rnd m = lo m := by
  unfold rnd lo
  cases rup m (drop m)
  · exact Or.inr ⟨Eq.refl _, Nat.add_zero _⟩
  · exact Or.inl ⟨Eq.refl _, Eq.refl _⟩
theorem rnd_mono {a b : Nat} (h : a ≤ b) : rnd a ≤ rnd b := by
  have hl := lo_mono h
  have ua := up_iff a
  have ub := up_iff b
  rcases Nat.lt_or_ge (lo a) (lo b) with h1 | h1
  · rcases rnd_cases a with ⟨-, e⟩ | ⟨-, e⟩ <;> rcases rnd_cases b with ⟨-, f⟩ | ⟨-, f⟩ <;> omega
  · have e : lo a = lo b := Nat.le_antisymm hl h1
    rw [← e] at ub
    rcases rnd_cases a with ⟨x, p⟩ | ⟨x, p⟩ <;> rcases rnd_cases b with ⟨y, q⟩ | ⟨y, q⟩
    · omega
    · rw [x] at ua
      rw [y] at ub
      have := ua.1 rfl
      have : ¬ (val (lo a) + val (lo a + 1) < 2 * b ∨ val (lo a) + val (lo a + 1) = 2 * b ∧ lo a % 2 = 1) := fun h => by have := ub.2 h; cases this
      omega
    · omega
    · omega
/-- No rung's number lies nearer than that of the rung that rounding gives: not the next one, not the one ahead. -/
theorem rnd_near (m : Nat) : (m : Int) - val (rnd m) ≤ (val (rnd m + 1) : Int) - m ∧ (val (rnd m) : Int) - m ≤ (val (rnd m + 1) : Int) - m ∧
    (0 < rnd m → (m : Int) - val (rnd m) ≤ (m : Int) - val (rnd m - 1) ∧ (val (rnd m) : Int) - m ≤ (m : Int) - val (rnd m - 1)) := by
  have h := lo_le m
  have u := up_iff m
  rcases rnd_cases m with ⟨x, e⟩ | ⟨x, e⟩
  · rw [x] at u
    have := u.1 rfl
    have h2 := val_lt_of_lt (show lo m + 1 < lo m + 1 + 1 by omega)
    rw [e, Nat.add_sub_cancel]
    omega
  · rw [x] at u
    have u2 : ¬ (val (lo m) + val (lo m + 1) < 2 * m ∨ val (lo m) + val (lo m + 1) = 2 * m ∧ lo m % 2 = 1) := fun h => by have := u.2 h; cases this
    rw [e]
    refine ⟨by omega, by omega, fun h0 => ?_⟩
    have h2 := val_lt_of_lt (show lo m - 1 < lo m by omega)
    omega
end Go.Proofs.Ytljelocomjbanaa.Sm

set_option linter.unusedSimpArgs false
set_option linter.unusedVariables false
set_option maxRecDepth 8000
namespace Go.Proofs.Ytljelocomjbanaa
open Go.RowKit Sm
namespace Qb

/-- A number's bit; its first bits, and noughts behind them. -/
def bit (n i : Nat) : Nat := n / 2 ^ i % 2
def bl (n k : Nat) : List Nat := (List.range 2240).map fun i => if i < k then bit n i else 0
theorem bit_le (n i : Nat) : bit n i ≤ 1 := by unfold bit; omega
theorem bl_len (n k : Nat) : (bl n k).length = 2240 := by unfold bl; simp
theorem bl_lt (n k : Nat) : ∀ x ∈ bl n k, x < 256 := fun x hx => by
  unfold bl at hx
  obtain ⟨i, -, rfl⟩ := List.mem_map.1 hx
  split
  · have := bit_le n i; omega
  · decide
theorem bl_at (n k i : Nat) (h : i < 2240) : (bl n k)[i]? = some (if i < k then bit n i else 0) := by
  unfold bl
  rw [List.getElem?_map, List.getElem?_range h]; rfl
theorem bl_set (n k : Nat) (hk : k < 2240) : (bl n k).set k (bit n k) = bl n (k + 1) := by
  apply List.ext_getElem?
  intro i
  rw [List.getElem?_set]
  unfold bl
  simp only [List.getElem?_map, List.length_map, List.length_range]
  by_cases e : k = i
  · subst e
    simp [hk]
  · simp only [e, if_false]
    by_cases hi : i < 2240
    · rw [List.getElem?_range hi]
      simp only [Option.map_some]
      by_cases h : i < k
      · rw [if_pos h, if_pos (by omega)]
      · rw [if_neg h, if_neg (by omega)]
    · rw [List.getElem?_eq_none (by simpa using hi)]; rfl
theorem bl_zero (n : Nat) : bl n 0 = List.replicate 2240 0 := by
  rw [List.eq_replicate_iff]
  refine ⟨bl_len n 0, fun x hx => ?_⟩
  unfold bl at hx
  obtain ⟨i, -, rfl⟩ := List.mem_map.1 hx
  rfl
theorem bl_none : bl 0 2240 = List.replicate 2240 0 := by
  rw [List.eq_replicate_iff]
  refine ⟨bl_len 0 2240, fun x hx => ?_⟩
  unfold bl at hx
  obtain ⟨i, -, rfl⟩ := List.mem_map.1 hx
  unfold bit
  simp
theorem pw_two (k m : Nat) (h : 64 * k = m) : pw k = 2 ^ m := by subst h; simp only [pw]
theorem top_bits : top = 2 ^ 2240 := top_eq.trans (pw_two 35 2240 rfl)
theorem two_next (m n : Nat) (h : n = m + 1) : 2 ^ n = 2 ^ m * 2 := by rw [h, Nat.pow_succ]

theorem mod_bit (n k : Nat) : n % 2 ^ (k + 1) = n % 2 ^ k + 2 ^ k * bit n k := by unfold bit; rw [Nat.pow_succ, Nat.mod_mul]
/-- The carry into place k of a sum. -/
def cy (a b k : Nat) : Nat := (a % 2 ^ k + b % 2 ^ k) / 2 ^ k
theorem cy_zero (a b : Nat) : cy a b 0 = 0 := by simp [cy, Nat.mod_one]
theorem cy_le (a b k : Nat) : cy a b k ≤ 1 := by
  have h1 := Nat.mod_lt a (Nat.two_pow_pos k)
  have h2 := Nat.mod_lt b (Nat.two_pow_pos k)
  have : cy a b k < 2 := (Nat.div_lt_iff_lt_mul (Nat.two_pow_pos k)).2 (by omega)
  omega
theorem cy_step (a b k : Nat) : a % 2 ^ (k + 1) + b % 2 ^ (k + 1) = (a % 2 ^ k + b % 2 ^ k) % 2 ^ k + 2 ^ k * (bit a k + bit b k + cy a b k) := by
  have h := Nat.div_add_mod (a % 2 ^ k + b % 2 ^ k) (2 ^ k)
  rw [mod_bit a k, mod_bit b k, Nat.mul_add, Nat.mul_add]
  unfold cy at *
  omega
theorem cy_succ (a b k : Nat) : cy a b (k + 1) = (bit a k + bit b k + cy a b k) / 2 := by
  have hp := Nat.two_pow_pos k
  have e : cy a b (k + 1) = (a % 2 ^ (k + 1) + b % 2 ^ (k + 1)) / (2 ^ k * 2) := by unfold cy; rw [Nat.pow_succ]
  rw [e, cy_step, ← Nat.div_div_eq_div_mul, Nat.add_mul_div_left _ _ hp, Nat.div_eq_of_lt (Nat.mod_lt _ hp), Nat.zero_add]
theorem bit_add (a b k : Nat) : bit (a + b) k = (bit a k + bit b k + cy a b k) % 2 := by
  have hp := Nat.two_pow_pos k
  have h1 : (a + b) % 2 ^ (k + 1) / 2 ^ k = bit (a + b) k := by
    rw [mod_bit, Nat.add_mul_div_left _ _ hp, Nat.div_eq_of_lt (Nat.mod_lt _ hp), Nat.zero_add]
  have h2 : (a + b) % 2 ^ (k + 1) = (a % 2 ^ (k + 1) + b % 2 ^ (k + 1)) % 2 ^ (k + 1) := Nat.add_mod _ _ _
  rw [← h1, h2, cy_step, Nat.pow_succ, Nat.mod_mul_right_div_self, Nat.add_mul_div_left _ _ hp, Nat.div_eq_of_lt (Nat.mod_lt _ hp), Nat.zero_add]
theorem bit_mod (n k j : Nat) (h : k < j) : bit (n % 2 ^ j) k = bit n k := by
  unfold bit
  obtain ⟨d, rfl⟩ : ∃ d, j = k + 1 + d := ⟨j - (k + 1), by omega⟩
  rw [Nat.pow_add, Nat.pow_succ, Nat.mul_assoc, Nat.mod_mul_right_div_self, Nat.mod_mul_right_mod]
theorem bit_sum (a b k : Nat) (hk : k < 2240) : bit ((a + b) % top) k = (bit a k + bit b k + cy a b k) % 2 := by
  rw [top_bits, bit_mod _ _ _ hk, bit_add]
/-- Are the bits below place k all noughts? -/
def zc (n k : Nat) : Nat := if n % 2 ^ k = 0 then 1 else 0
theorem zc_zero (n : Nat) : zc n 0 = 1 := by simp [zc, Nat.mod_one]
theorem zc_le (n k : Nat) : zc n k ≤ 1 := by unfold zc; split <;> omega
theorem zc_succ (n k : Nat) : zc n (k + 1) = (1 - bit n k + zc n k) / 2 := by
  have hp := Nat.two_pow_pos k
  have hb := bit_le n k
  unfold zc
  rw [mod_bit]
  by_cases h : n % 2 ^ k = 0
  · rw [if_pos h, h, Nat.zero_add]
    rcases (show bit n k = 0 ∨ bit n k = 1 by omega) with e | e <;> rw [e]
    · simp
    · rw [if_neg (by omega)]
  · rw [if_neg h, if_neg (by omega)]
    omega
theorem mul_lts (m a b c : Nat) (hm : m = 2 ^ a) (h : a + b < c) : m * 2 ^ b < 2 ^ c := by
  subst hm; rw [← Nat.pow_add]; exact Nat.pow_lt_pow_right (by decide) h
theorem pow_dvds (a b : Nat) (h : a ≤ b) : 2 ^ a ∣ 2 ^ b := Nat.pow_dvd_pow 2 h
theorem bit_neg (n k : Nat) (hn : n ≤ top) (hk : k < 2240) : bit (neg n) k = (1 - bit n k + zc n k) % 2 := by
  have hp := Nat.two_pow_pos k
  have hb := bit_le n k
  have hd : 2 ^ (k + 1) ∣ top := top_bits ▸ pow_dvds (k + 1) 2240 (by omega)
  have e1 : bit (neg n) k = neg n % 2 ^ (k + 1) / 2 ^ k := by
    rw [mod_bit, Nat.add_mul_div_left _ _ hp, Nat.div_eq_of_lt (Nat.mod_lt _ hp), Nat.zero_add]
  have e2 : neg n % 2 ^ (k + 1) = (2 ^ (k + 1) - n % 2 ^ (k + 1)) % 2 ^ (k + 1) := by
    unfold neg
    rw [Nat.mod_mod_of_dvd _ hd]
    exact sub_mod_of top _ n hd hn (Nat.two_pow_pos _)
  rw [e1, e2, mod_bit n k]
  unfold zc
  have hr := Nat.mod_lt n hp
  have ep : 2 ^ (k + 1) = 2 ^ k * 2 := Nat.pow_succ ..
  rw [ep]
  by_cases h : n % 2 ^ k = 0
  · rw [if_pos h, h, Nat.zero_add]
    rcases (show bit n k = 0 ∨ bit n k = 1 by omega) with e | e <;> rw [e]
    · rw [Nat.mul_zero, Nat.sub_zero, Nat.mod_self]; simp
    · rw [Nat.mul_one, show 2 ^ k * 2 - 2 ^ k = 2 ^ k by omega, Nat.mod_eq_of_lt (by omega), Nat.div_self hp]
  · rw [if_neg h]
    rcases (show bit n k = 0 ∨ bit n k = 1 by omega) with e | e <;> rw [e]
    · rw [Nat.mul_zero, Nat.add_zero, Nat.mod_eq_of_lt (by omega)]
      rw [Nat.div_eq_of_lt_le (k := 1) (by omega) (by omega)]
    · rw [Nat.mul_one, Nat.mod_eq_of_lt (by omega), Nat.div_eq_of_lt (by omega)]
/-- What a world has for bits. -/
def BitAt (w : World) (a : Option Addr) (n : Nat) : Prop := ByAt w a (bl n 2240)
theorem BitAt.get {w : World} {a : Option Addr} {n : Nat} (h : BitAt w a n) : ∃ g off, a = some ⟨g, off, none⟩ ∧ g < w.heap.size ∧ ∀ k : Nat, k < 2240 → w.cell? ⟨g, off + k, none⟩ = some (.int .u8 (bit n k : Nat)) := by
  obtain ⟨g, off, e, hg, hc⟩ := ByAt.spot h (by rw [bl_len]; omega)
  exact ⟨g, off, e, hg, fun k hk => hc k _ (by rw [bl_at _ _ _ hk, if_pos hk])⟩
theorem BitAt.keep {w w' : World} {a : Option Addr} {n : Nat} (h : BitAt w a n) (hb : Below w.heap.size w w') : BitAt w' a n := ByAt.keep h hb
/-- How a call ends that answers with bits. -/
def BitEnds (B : Nat) (w : World) (n : Nat) (e : Ending) (w' : World) : Prop := ∃ g C, e = .returned (.slice (some ⟨g, 0, none⟩) 2240 C) ∧ BitAt w' (some ⟨g, 0, none⟩) n ∧ Below B w w'
/-- Bits that are being written at block g. -/
structure Bw (w0 : World) (B g : Nat) (n k : Nat) (w : World) : Prop where
  below : Below B w0 w
  row : w.heap[g]? = some (.cells (bys (bl n k)).toArray 5 (0, 0))
theorem Bw.start (w : World) (n : Nat) : Bw w w.heap.size w.heap.size n 0 (w.alloc (.cells (bys (List.replicate 2240 0)).toArray 5)) :=
  ⟨(Below.refl _ _).alloc (Nat.le_refl _) _, by rw [bl_zero]; exact heap_alloc_new' w _⟩
theorem Bw.step {w0 w : World} {B g n k : Nat} (H : Bw w0 B g n k w) (hg : B ≤ g) (hk : k < 2240) (v : Int) (hv : v = ((bit n k : Nat) : Int)) : Bw w0 B g n (k + 1) (w.setCell ⟨g, k, none⟩ (.int .u8 v)) := by
  subst hv
  refine ⟨H.below.setCell (by show _ ≤ g; omega) _, ?_⟩
  rw [← bl_set n k hk, bys_set]
  exact row_set H.row k _
theorem Bw.bits {w0 w : World} {B g n : Nat} (H : Bw w0 B g n 2240 w) : BitAt w (some ⟨g, 0, none⟩) n :=
  ByAt.of_row _ (bl_lt n 2240) H.row ⟨[], by simp⟩
end Qb
end Go.Proofs.Ytljelocomjbanaa

set_option linter.unusedSimpArgs false
set_option linter.unusedVariables false
set_option maxRecDepth 8000
namespace Go.Proofs.Ytljelocomjbanaa
open Sm Fl
namespace Qb
theorem half_step (M j : Nat) : M / 2 ^ j = 2 * (M / 2 ^ (j + 1)) + bit M j := by
  unfold bit; rw [Nat.pow_succ, ← Nat.div_div_eq_div_mul]; omega
theorem sgn_bit (n : Nat) (hn : n < top) : sgn n = decide (bit n 2239 = 1) := by
  unfold sgn bit
  rw [decide_eq_decide]
  have e : top = 2 ^ 2239 * 2 := top_bits.trans (two_next 2239 2240 rfl)
  have hp : 0 < 2 ^ 2239 := Nat.two_pow_pos 2239
  rw [e] at hn ⊢
  generalize 2 ^ 2239 = K at *
  have h2 : n / K < 2 := (Nat.div_lt_iff_lt_mul hp).2 (by omega)
  rw [Nat.mod_eq_of_lt h2]
  constructor
  · intro h
    have : 1 ≤ n / K := (Nat.le_div_iff_mul_le hp).2 (by omega)
    omega
  · intro h
    have : 1 * K ≤ n := (Nat.le_div_iff_mul_le hp).1 (by omega)
    omega
theorem len_mod (M k : Nat) : bitLen (M % 2 ^ (k + 1)) = if bit M k = 1 then k + 1 else bitLen (M % 2 ^ k) := by
  rw [mod_bit]
  have hr := Nat.mod_lt M (Nat.two_pow_pos k)
  by_cases h : bit M k = 1
  · rw [if_pos h, h, Nat.mul_one]
    have h1 := bitLen_spec (M % 2 ^ k + 2 ^ k)
    have hne : M % 2 ^ k + 2 ^ k ≠ 0 := by have := Nat.two_pow_pos k; omega
    have h2 := h1.2 hne
    have h3 : 2 ^ k < 2 ^ bitLen (M % 2 ^ k + 2 ^ k) := by have := h1.1; omega
    have h4 : k < bitLen (M % 2 ^ k + 2 ^ k) := (Nat.pow_lt_pow_iff_right (by decide)).1 h3
    have h5 : 2 ^ (bitLen (M % 2 ^ k + 2 ^ k) - 1) < 2 ^ (k + 1) := by rw [Nat.pow_succ]; omega
    have h6 := (Nat.pow_lt_pow_iff_right (by decide)).1 h5
    omega
  · have h0 : bit M k = 0 := by have := bit_le M k; omega
    rw [if_neg h, h0]; simp
/-- The highest k bits of a number that has L. -/
def hi (M L k : Nat) : Nat := M / 2 ^ (L - k)
theorem hi_zero (M L : Nat) (h : L = bitLen M) : hi M L 0 = 0 := by
  unfold hi
  rw [Nat.sub_zero, h]
  exact Nat.div_eq_of_lt (bitLen_spec M).1
theorem hi_step (M L k : Nat) (h : k < L) : hi M L (k + 1) = 2 * hi M L k + bit M (L - 1 - k) := by
  unfold hi
  have e1 : L - k = (L - (k + 1)) + 1 := by omega
  have e2 : L - 1 - k = L - (k + 1) := by omega
  rw [e1, e2, half_step M (L - (k + 1))]
theorem hi_first (M L : Nat) (h : L = bitLen M) (h0 : 0 < L) : hi M L 1 = 1 ∧ bit M (L - 1) = 1 := by
  have hM : M ≠ 0 := fun e => by subst e; rw [show bitLen 0 = 0 by decide] at h; omega
  have h1 := (bitLen_spec M).2 hM
  have h2 := (bitLen_spec M).1
  rw [← h] at h1 h2
  have e : M / 2 ^ (L - 1) = 1 := by
    have hp := Nat.two_pow_pos (L - 1)
    have ep : 2 ^ L = 2 ^ (L - 1) * 2 := by rw [← Nat.pow_succ]; congr 1; omega
    rw [ep] at h2
    have a1 : M / 2 ^ (L - 1) < 2 := (Nat.div_lt_iff_lt_mul hp).2 (by omega)
    have a2 : 1 ≤ M / 2 ^ (L - 1) := (Nat.le_div_iff_mul_le hp).2 (by omega)
    omega
  refine ⟨e, ?_⟩
  unfold bit; rw [e]
theorem hi_lt (M L k : Nat) (h : L = bitLen M) (hk : k ≤ L) : hi M L k < 2 ^ k := by
  unfold hi
  have h2 := (bitLen_spec M).1
  rw [← h] at h2
  refine (Nat.div_lt_iff_lt_mul (Nat.two_pow_pos _)).2 ?_
  rw [← Nat.pow_add, show k + (L - k) = L by omega]
  exact h2
theorem hi_ge (M L k : Nat) (h : L = bitLen M) (hk : k ≤ L) (h0 : 0 < k) : 2 ^ (k - 1) ≤ hi M L k := by
  have hM : M ≠ 0 := fun e => by subst e; rw [show bitLen 0 = 0 by decide] at h; omega
  have h1 := (bitLen_spec M).2 hM
  rw [← h] at h1
  unfold hi
  refine (Nat.le_div_iff_mul_le (Nat.two_pow_pos _)).2 ?_
  rw [← Nat.pow_add, show k - 1 + (L - k) = L - 1 by omega]
  exact h1
/-- What the loop has of the word, behind k bits. -/
def lowK (M L k : Nat) : Nat := if L ≤ 53 then hi M L k * 2 ^ (L - k) else if k = 0 then 0 else (hi M L k - 2 ^ (k - 1)) * 2 ^ (53 - k)
theorem lowK_zero (M L : Nat) (h : L = bitLen M) : lowK M L 0 = 0 := by
  unfold lowK; rw [hi_zero M L h]; simp
theorem lowK_a (M L k : Nat) (hL : L ≤ 53) (hk : k < L) : lowK M L (k + 1) = lowK M L k + bit M (L - 1 - k) * 2 ^ (L - 1 - k) := by
  unfold lowK
  rw [if_pos hL, if_pos hL, hi_step M L k hk]
  have e : 2 ^ (L - k) = 2 * 2 ^ (L - 1 - k) := by rw [show L - k = (L - 1 - k) + 1 by omega, Nat.pow_succ, Nat.mul_comm]
  rw [e, show L - (k + 1) = L - 1 - k by omega, Nat.add_mul]
  congr 1
  rw [Nat.mul_comm 2 (hi M L k), Nat.mul_assoc]
theorem lowK_b0 (M L : Nat) (h : L = bitLen M) (hL : ¬ L ≤ 53) : lowK M L 1 = lowK M L 0 := by
  unfold lowK
  rw [if_neg hL, if_neg hL, if_pos rfl, if_neg (by decide), (hi_first M L h (by omega)).1]
  try simp
theorem lowK_b (M L k : Nat) (h : L = bitLen M) (hL : ¬ L ≤ 53) (hk : k < 53) (h0 : 0 < k) : lowK M L (k + 1) = lowK M L k + bit M (L - 1 - k) * 2 ^ (52 - k) := by
  unfold lowK
  rw [if_neg hL, if_neg hL, if_neg (by omega), if_neg (by omega), hi_step M L k (by omega)]
  have hg := hi_ge M L k h (by omega) h0
  have e1 : 2 ^ k = 2 * 2 ^ (k - 1) := by
    obtain ⟨j, rfl⟩ : ∃ j, k = j + 1 := ⟨k - 1, by omega⟩
    rw [Nat.add_sub_cancel, Nat.pow_succ, Nat.mul_comm]
  have e2 : 2 ^ (53 - k) = 2 * 2 ^ (52 - k) := by rw [show 53 - k = (52 - k) + 1 by omega, Nat.pow_succ, Nat.mul_comm]
  rw [show k + 1 - 1 = k by omega, show 53 - (k + 1) = 52 - k by omega, e1, e2]
  generalize 2 ^ (k - 1) = p at *
  generalize 2 ^ (52 - k) = q at *
  generalize hi M L k = H at *
  generalize bit M (L - 1 - k) = b at *
  obtain ⟨d, rfl⟩ : ∃ d, H = p + d := ⟨H - p, by omega⟩
  rw [show 2 * (p + d) + b - 2 * p = 2 * d + b by omega, Nat.add_sub_cancel_left, Nat.add_mul, Nat.mul_comm 2 d, Nat.mul_assoc]
theorem lowK_lt (M L k : Nat) (h : L = bitLen M) (hk : k ≤ L) (hk2 : k ≤ 53) : lowK M L k < 9007199254740992 := by
  unfold lowK
  have hl := hi_lt M L k h hk
  by_cases hL : L ≤ 53
  · rw [if_pos hL]
    have h1 : hi M L k * 2 ^ (L - k) < 2 ^ k * 2 ^ (L - k) := Nat.mul_lt_mul_of_pos_right hl (Nat.two_pow_pos _)
    rw [← Nat.pow_add, show k + (L - k) = L by omega] at h1
    have : 2 ^ L ≤ 2 ^ 53 := Nat.pow_le_pow_right (by decide) hL
    rw [show (2 : Nat) ^ 53 = 9007199254740992 from rfl] at this
    omega
  · rw [if_neg hL]
    split
    · decide
    · rename_i h0
      have h1 : (hi M L k - 2 ^ (k - 1)) * 2 ^ (53 - k) < 2 ^ k * 2 ^ (53 - k) := Nat.mul_lt_mul_of_pos_right (by have := Nat.two_pow_pos (k - 1); omega) (Nat.two_pow_pos _)
      rw [← Nat.pow_add, show k + (53 - k) = 53 by omega, show (2 : Nat) ^ 53 = 9007199254740992 from rfl] at h1
      exact h1
theorem low_a (M L : Nat) (h : L = bitLen M) (hL : L ≤ 53) : lowK M L L = lo M := by
  unfold lowK lo drop hi
  rw [if_pos hL, ← h, show L - 53 = 0 by omega, Nat.sub_self]; simp
theorem low_b (M L : Nat) (h : L = bitLen M) (hL : ¬ L ≤ 53) : lowK M L 53 + (L - 52) * 4503599627370496 = lo M := by
  unfold lowK lo drop
  have hg := hi_ge M L 53 h (by omega) (by decide)
  rw [if_neg hL, if_neg (by decide), ← h]
  unfold hi at *
  rw [show (2 : Nat) ^ (53 - 1) = 4503599627370496 from rfl] at *
  rw [show (2 : Nat) ^ (53 - 53) = 1 from rfl, Nat.mul_one]
  omega
theorem lo_lt64 (M : Nat) (hM : M < top) : lo M < 18446744073709551616 := by
  have h1 := quot_lt M
  have h2 := len_le M hM
  unfold lo drop at *
  omega
theorem sub_top (M v : Nat) (hM : M < top) (hv : v ≤ M) : (M + neg v) % top = M - v := by
  unfold neg
  by_cases h0 : v = 0
  · subst h0
    rw [Nat.sub_zero, Nat.mod_self, Nat.add_zero, Nat.sub_zero, Nat.mod_eq_of_lt hM]
  · rw [Nat.mod_eq_of_lt (a := top - v) (by omega), show M + (top - v) = (M - v) + top by omega, Nat.add_mod_right, Nat.mod_eq_of_lt (by omega)]
/-- Is the next one nearer? -/
theorem up_cond (M : Nat) : (decide (val (lo M + 1) - M < M - val (lo M)) || (!decide (M - val (lo M) < val (lo M + 1) - M) && decide (lo M % 2 = 1))) = rup M (drop M) := by
  have h := lo_le M
  have u := up_iff M
  rw [Bool.eq_iff_iff, u]
  simp only [Bool.or_eq_true, Bool.and_eq_true, Bool.not_eq_true', decide_eq_true_eq, decide_eq_false_iff_not]
  omega
theorem rnd_up (M : Nat) : rnd M = lo M + (if rup M (drop M) = true then 1 else 0) := by
  rcases rnd_cases M with ⟨h, e⟩ | ⟨h, e⟩
  · rw [e, h, if_pos rfl]
  · rw [e, h, if_neg (by decide), Nat.add_zero]
theorem pow_les (m S a b c : Nat) (hm : m ≤ 2 ^ a) (hS : S ≤ b) (hc : a + b ≤ c) : m * 2 ^ S ≤ 2 ^ c := by
  have h1 : m * 2 ^ S ≤ 2 ^ a * 2 ^ b := Nat.mul_le_mul hm (Nat.pow_le_pow_right (by decide) hS)
  rw [← Nat.pow_add] at h1
  exact Nat.le_trans h1 (Nat.pow_le_pow_right (by decide) hc)
theorem small_top (m S : Nat) (hm : m ≤ 9007199254740992) (hS : S ≤ 2046) : m * 2 ^ S ≤ top := by
  have h := pow_les m S 53 2046 2240 hm hS (by decide)
  rw [top_bits]
  exact h
theorem val_inf : val 9218868437227405312 < top := by
  have h : val 9218868437227405312 = 4503599627370496 * 2 ^ 2046 := by
    have hm : mant 9218868437227405312 = 4503599627370496 := by decide
    have hs : shf 9218868437227405312 = 2046 := by decide
    unfold val
    rw [hm, hs]
  rw [h, top_bits]
  exact mul_lts 4503599627370496 52 2046 2240 rfl (by decide)
end Qb
end Go.Proofs.Ytljelocomjbanaa

set_option linter.unusedSimpArgs false
set_option linter.unusedVariables false
set_option maxRecDepth 100000
namespace Go.Proofs.Ytljelocomjbanaa
open Go.RowKit Sm Qb

theorem Qb.Bw.drew {w0 w : World} {B g n k : Nat} (H : Bw w0 B g n k w) : Bw w0 B g n k w.drew := ⟨below_drewN H.below 1, H.row⟩
theorem make_bits : ∀ w' : World, (Instr.makeSlice 39 (.int .i64 2240) (.int .i64 2240)).run Try.prog w' = .ok (.slice (some ⟨w'.heap.size, 0, none⟩) 2240 2240) (w'.alloc (.cells (bys (List.replicate 2240 0)).toArray 5)) := make_bys 2240 (by decide)

set_option maxHeartbeats 2000000 in
theorem radd_any (A1 A2 : Option Addr) (C1 C2 m n : Nat) (w : World) (H1 : Hid (BitAt w A1 m)) (H2 : Hid (BitAt w A2 n)) :
    Calls Try.prog 92 #[.slice A1 2240 C1, .slice A2 2240 C2] w (BitEnds w.heap.size w ((m + n) % top)) := by
  obtain ⟨g1, o1, rfl, hg1, hc1⟩ := H1.out.get
  obtain ⟨g2, o2, rfl, hg2, hc2⟩ := H2.out.get
  have HC1 := Lib.hid hc1
  have HC2 := Lib.hid hc2
  clear hc1 hc2
  have hmk := make_bits
  have HS := Lib.hid (Bw.start w ((m + n) % top))
  obtain ⟨N, hN⟩ : ∃ N, N = (m + n) % top := ⟨_, rfl⟩
  rw [← hN] at HS ⊢
  have HN := Lib.hid hN
  clear hN
  generalize bys (List.replicate 2240 0) = Z at *
  go_enter Try.func92, Try.ntmps92
  go_wp2
  clear hmk
  go_loopw [6, 7] (fun c i wr => ∃ k : Nat, k ≤ 2240 ∧ i = .int .i64 k ∧ c = .int .u8 (cy m n k : Nat) ∧ Bw w w.heap.size w.heap.size N k wr) (fun _ i _ => 2240 - (intOf i).toNat)
  case atStart => exact ⟨0, by omega, rfl, by rw [cy_zero]; rfl, HS.out⟩
  case round =>
    obtain ⟨k, hk, rfl, rfl, hB⟩ := hrel
    have HB := Lib.hid hB
    clear hB
    by_cases hlt : k < 2240
    · have c1 : wr.cell? ⟨g1, o1 + k, none⟩ = some (.int .u8 (bit m k : Nat)) := (HB.out.below.cell (p := ⟨g1, o1 + k, none⟩) hg1).trans (HC1.out k hlt)
      have c2 : wr.cell? ⟨g2, o2 + k, none⟩ = some (.int .u8 (bit n k : Nat)) := (HB.out.below.cell (p := ⟨g2, o2 + k, none⟩) hg2).trans (HC2.out k hlt)
      have hl : k < (bys (bl N k)).length := by rw [bys_length, bl_len]; exact hlt
      have c3 := row_cell HB.out.row k hl
      have f3 := row_frozen HB.out.row k
      have HV := Lib.hid (show bit N k = (bit m k + bit n k + cy m n k) % 2 from (by rw [HN.out]; exact bit_sum m n k hlt))
      have HY := Lib.hid (cy_succ m n k)
      have b1 := bit_le m k
      have b2 := bit_le n k
      have b3 := cy_le m n k
      generalize bit m k = X at *
      generalize bit n k = Y at *
      generalize cy m n k = T at *
      generalize (bys (bl N k))[k] = y at *
      clear hl
      go_wp2_with (first | go_region | go_quiet (fail))
      go_roundw
      case rel => exact ⟨k + 1, by omega, by go_num, by rw [HY.out]; first | rfl | (simp only [Value.int.injEq, true_and]; omega), by first | exact (HB.out.step (Nat.le_refl _) hlt _ (by rw [HV.out]; try omega)).drew | exact HB.out.step (Nat.le_refl _) hlt _ (by rw [HV.out]; try omega)⟩
      case measure => simp [intOf]; omega
    · have hk2 : k = 2240 := by omega
      subst hk2
      rw [show ((2240 : Nat) : Int) = (2240 : Int) from rfl]
      go_wp2
      go_ret
      exact ⟨_, _, rfl, HB.out.bits, HB.out.below⟩

set_option maxHeartbeats 2000000 in
theorem rturn_any (A1 : Option Addr) (C1 n : Nat) (hn : n ≤ top) (w : World) (H1 : Hid (BitAt w A1 n)) :
    Calls Try.prog 91 #[.slice A1 2240 C1] w (BitEnds w.heap.size w (neg n)) := by
  obtain ⟨g1, o1, rfl, hg1, hc1⟩ := H1.out.get
  have HC1 := Lib.hid hc1
  clear hc1
  have hmk := make_bits
  have HS := Lib.hid (Bw.start w (neg n))
  have HBN := Lib.hid (fun k (hk : k < 2240) => bit_neg n k hn hk)
  clear hn
  obtain ⟨N, hN⟩ : ∃ N, N = neg n := ⟨_, rfl⟩
  rw [← hN] at HS HBN ⊢
  clear hN
  generalize bys (List.replicate 2240 0) = Z at *
  go_enter Try.func91, Try.ntmps91
  go_wp2
  clear hmk
  go_loopw [4, 5] (fun c i wr => ∃ k : Nat, k ≤ 2240 ∧ i = .int .i64 k ∧ c = .int .u8 (zc n k : Nat) ∧ Bw w w.heap.size w.heap.size N k wr) (fun _ i _ => 2240 - (intOf i).toNat)
  case atStart => exact ⟨0, by omega, rfl, by rw [zc_zero]; rfl, HS.out⟩
  case round =>
    obtain ⟨k, hk, rfl, rfl, hB⟩ := hrel
    have HB := Lib.hid hB
    clear hB
    by_cases hlt : k < 2240
    · have c1 : wr.cell? ⟨g1, o1 + k, none⟩ = some (.int .u8 (bit n k : Nat)) := (HB.out.below.cell (p := ⟨g1, o1 + k, none⟩) hg1).trans (HC1.out k hlt)
      have hl : k < (bys (bl N k)).length := by rw [bys_length, bl_len]; exact hlt
      have c3 := row_cell HB.out.row k hl
      have f3 := row_frozen HB.out.row k
      have HV := Lib.hid (HBN.out k hlt)
      have HY := Lib.hid (zc_succ n k)
      have b1 := bit_le n k
      have b3 := zc_le n k
      generalize bit n k = X at *
      generalize zc n k = T at *
      generalize (bys (bl N k))[k] = y at *
      clear hl
      go_wp2_with (first | go_region | go_quiet (fail))
      go_roundw
      case rel => exact ⟨k + 1, by omega, by go_num, by rw [HY.out]; first | rfl | (simp only [Value.int.injEq, true_and]; omega), by first | exact (HB.out.step (Nat.le_refl _) hlt _ (by rw [HV.out]; try omega)).drew | exact HB.out.step (Nat.le_refl _) hlt _ (by rw [HV.out]; try omega)⟩
      case measure => simp [intOf]; omega
    · have hk2 : k = 2240 := by omega
      subst hk2
      rw [show ((2240 : Nat) : Int) = (2240 : Int) from rfl]
      go_wp2
      go_ret
      exact ⟨_, _, rfl, HB.out.bits, HB.out.below⟩
end Go.Proofs.Ytljelocomjbanaa

set_option linter.unusedSimpArgs false
set_option linter.unusedVariables false
set_option maxRecDepth 100000
namespace Go.Proofs.Ytljelocomjbanaa
open Go.RowKit Sm Qb
namespace Qb
/-- A number's bits, moved up. -/
theorem bit_up (x S j : Nat) : bit (x * 2 ^ S) j = if j < S then 0 else bit x (j - S) := by
  unfold bit
  by_cases h : j < S
  · rw [if_pos h]
    obtain ⟨d, rfl⟩ : ∃ d, S = j + (d + 1) := ⟨S - j - 1, by omega⟩
    rw [Nat.pow_add, ← Nat.mul_assoc, Nat.mul_right_comm, Nat.mul_div_cancel _ (Nat.two_pow_pos j), Nat.pow_succ, ← Nat.mul_assoc, Nat.mul_mod_left]
  · rw [if_neg h]
    obtain ⟨d, rfl⟩ : ∃ d, j = S + d := ⟨j - S, by omega⟩
    rw [Nat.pow_add, ← Nat.div_div_eq_div_mul, Nat.mul_div_cancel _ (Nat.two_pow_pos S), Nat.add_sub_cancel_left]
theorem bit_low (m i t : Nat) : bit (m % 2 ^ i) t = if t < i then bit m t else 0 := by
  by_cases h : t < i
  · rw [if_pos h, bit_mod _ _ _ h]
  · rw [if_neg h]
    unfold bit
    have h1 := Nat.mod_lt m (Nat.two_pow_pos i)
    have h2 : 2 ^ i ≤ 2 ^ t := Nat.pow_le_pow_right (by decide) (by omega)
    rw [Nat.div_eq_of_lt (by omega)]
theorem bl_up (m S i : Nat) (h : S + i < 2240) : (bl (m % 2 ^ i * 2 ^ S) 2240).set (S + i) (bit m i) = bl (m % 2 ^ (i + 1) * 2 ^ S) 2240 := by
  apply List.ext_getElem?
  intro j
  rw [List.getElem?_set]
  by_cases hj : j < 2240
  · rw [bl_at _ _ _ hj, bl_at _ _ _ hj, if_pos hj, if_pos hj, bl_len, bit_up, bit_up, bit_low, bit_low]
    by_cases e : S + i = j
    · subst e
      rw [if_pos rfl, if_pos hj, if_neg (by omega), Nat.add_sub_cancel_left, if_pos (by omega)]
    · rw [if_neg e]
      by_cases h1 : j < S
      · rw [if_pos h1, if_pos h1]
      · rw [if_neg h1, if_neg h1]
        by_cases h2 : j - S < i
        · rw [if_pos h2, if_pos (by omega)]
        · rw [if_neg h2, if_neg (by omega)]
  · rw [if_neg (by omega), List.getElem?_eq_none (by rw [bl_len]; omega), List.getElem?_eq_none (by rw [bl_len]; omega)]
theorem Bw.up {w0 w : World} {B g m S i : Nat} (H : Bw w0 B g (m % 2 ^ i * 2 ^ S) 2240 w) (hg : B ≤ g) (h : S + i < 2240) (v : Int) (hv : v = ((bit m i : Nat) : Int)) (j : Nat) (hj : j = S + i) :
    Bw w0 B g (m % 2 ^ (i + 1) * 2 ^ S) 2240 (w.setCell ⟨g, j, none⟩ (.int .u8 v)) := by
  subst hv; subst hj
  refine ⟨H.below.setCell (by show _ ≤ g; omega) _, ?_⟩
  rw [← bl_up m S i h, bys_set]
  exact row_set H.row _ _
theorem Bw.start0 (w : World) (m S : Nat) : Bw w w.heap.size w.heap.size (m % 2 ^ 0 * 2 ^ S) 2240 (w.alloc (.cells (bys (List.replicate 2240 0)).toArray 5)) :=
  ⟨(Below.refl _ _).alloc (Nat.le_refl _) _, by rw [Nat.pow_zero, Nat.mod_one, Nat.zero_mul, bl_none]; exact heap_alloc_new' w _⟩
theorem cast_bit (m i : Nat) : (m : Int) / 2 ^ i % 2 = ((bit m i : Nat) : Int) := by
  unfold bit
  rw [Int.natCast_emod, Int.natCast_ediv, Int.natCast_pow]; rfl
theorem cast_bit8 (m i : Nat) : Int.tmod ((m : Int) / 2 ^ i) 2 % 256 = ((bit m i : Nat) : Int) := by
  have h := cast_bit m i
  have h0 : (0 : Int) ≤ (m : Int) / 2 ^ i := Int.ediv_nonneg (by omega) (Int.le_of_lt (Int.pow_pos (by decide)))
  rw [Int.tmod_eq_emod_of_nonneg h0, h]
  have := bit_le m i
  omega
theorem bit_top {m n k : Nat} (h : m / 2 ^ (k + 1) = n / 2 ^ (k + 1)) (h2 : bit m k ≠ bit n k) : decide (n < m) = decide (bit n k < bit m k) := by
  have hp := Nat.two_pow_pos k
  have e1 : m / 2 ^ k = 2 * (m / 2 ^ (k + 1)) + bit m k := by
    unfold bit; rw [Nat.pow_succ, ← Nat.div_div_eq_div_mul]; omega
  have e2 : n / 2 ^ k = 2 * (n / 2 ^ (k + 1)) + bit n k := by
    unfold bit; rw [Nat.pow_succ, ← Nat.div_div_eq_div_mul]; omega
  have b1 := bit_le m k
  have b2 := bit_le n k
  rw [decide_eq_decide]
  constructor
  · intro hl
    have := Nat.div_le_div_right (c := 2 ^ k) (Nat.le_of_lt hl)
    omega
  · intro hl
    rcases Nat.lt_or_ge n m with hc | hc
    · exact hc
    · have := Nat.div_le_div_right (c := 2 ^ k) hc
      omega
theorem div_same {m n k : Nat} (h : m / 2 ^ (k + 1) = n / 2 ^ (k + 1)) (h2 : bit m k = bit n k) : m / 2 ^ k = n / 2 ^ k := by
  have e1 : m / 2 ^ k = 2 * (m / 2 ^ (k + 1)) + bit m k := by
    unfold bit; rw [Nat.pow_succ, ← Nat.div_div_eq_div_mul]; omega
  have e2 : n / 2 ^ k = 2 * (n / 2 ^ (k + 1)) + bit n k := by
    unfold bit; rw [Nat.pow_succ, ← Nat.div_div_eq_div_mul]; omega
  omega
end Qb

set_option maxHeartbeats 2000000 in
/-- The bits of m, S places up: E is its exponent's field, M what is below it. -/
theorem whole_core (r E M m S : Nat) (hE : (r : Int) / 4503599627370496 % 2048 = (E : Int)) (hM : (r : Int) % 4503599627370496 = (M : Int)) (hM2 : M < 4503599627370496) (hr : r < 18446744073709551616) (hE2 : E < 2048)
    (h : E = 0 ∧ m = M ∧ S = 0 ∨ 0 < E ∧ m = M + 4503599627370496 ∧ S = E - 1) (w : World) :
    Calls Try.prog 93 #[.int .u64 (r : Int)] w (BitEnds w.heap.size w (m * 2 ^ S)) := by
  have hmk := make_bits
  have HS := Lib.hid (Bw.start0 w m S)
  have HM53 := Lib.hid (show m % 2 ^ 53 = m from Nat.mod_eq_of_lt (by rw [show (2 : Nat) ^ 53 = 9007199254740992 from rfl]; omega))
  generalize bys (List.replicate 2240 0) = Z at *
  rcases h with ⟨rfl, rfl, rfl⟩ | ⟨h0, hm2, hS2⟩
  · go_enter Try.func93, Try.ntmps93
    go_wp2
    clear hmk
    go_loopw [6] (fun i wr => ∃ k : Nat, k ≤ 53 ∧ i = .int .i64 k ∧ Bw w w.heap.size w.heap.size (m % 2 ^ k * 2 ^ 0) 2240 wr) (fun i _ => 53 - (intOf i).toNat)
    case atStart => exact ⟨0, by omega, rfl, HS.out⟩
    case round =>
      obtain ⟨k, hk, rfl, hB⟩ := hrel
      have HB := Lib.hid hB
      clear hB
      by_cases hlt : k < 53
      · have hl : k < (bys (bl (m % 2 ^ k * 2 ^ 0) 2240)).length := by rw [bys_length, bl_len]; omega
        have c3 := row_cell HB.out.row k hl
        have f3 := row_frozen HB.out.row k
        have hc := cast_bit m k
        have b1 := bit_le m k
        have HV := Lib.hid (show bit m k = bit m k from rfl)
        generalize (bys (bl (m % 2 ^ k * 2 ^ 0) 2240))[k] = y at *
        clear hl
        go_wp2
        go_roundw
        case rel => exact ⟨k + 1, by omega, by go_num, HB.out.up (Nat.le_refl _) (by omega) _ (by first | rfl | exact hc | exact cast_bit8 m k | omega) _ (by omega)⟩
        case measure => simp [intOf]; omega
      · have hk2 : k = 53 := by omega
        subst hk2
        rw [show ((53 : Nat) : Int) = (53 : Int) from rfl]
        go_wp2
        go_ret
        have hb := HB.out
        rw [HM53.out] at hb
        exact ⟨_, _, rfl, hb.bits, hb.below⟩
  · have hmI : (M : Int) + 4503599627370496 = (m : Int) := by omega
    have hSE : (E : Int) - 1 = (S : Int) := by omega
    clear hm2 hS2
    go_enter Try.func93, Try.ntmps93
    go_wp2
    clear hmk
    go_loopw [6] (fun i wr => ∃ k : Nat, k ≤ 53 ∧ i = .int .i64 k ∧ Bw w w.heap.size w.heap.size (m % 2 ^ k * 2 ^ S) 2240 wr) (fun i _ => 53 - (intOf i).toNat)
    case atStart => exact ⟨0, by omega, rfl, HS.out⟩
    case round =>
      obtain ⟨k, hk, rfl, hB⟩ := hrel
      have HB := Lib.hid hB
      clear hB
      by_cases hlt : k < 53
      · have hl : S + k < (bys (bl (m % 2 ^ k * 2 ^ S) 2240)).length := by rw [bys_length, bl_len]; omega
        have c3 := row_cell HB.out.row (S + k) hl
        have f3 := row_frozen HB.out.row (S + k)
        have hc := cast_bit m k
        have b1 := bit_le m k
        generalize (bys (bl (m % 2 ^ k * 2 ^ S) 2240))[S + k] = y at *
        have q0 : (0 : Int) ≤ (S : Int) + (k : Int) := by omega
        have q1 : (S : Int) + (k : Int) < 2240 := by omega
        have q2 : ((S : Int) + (k : Int)).toNat = S + k := by omega
        clear hl
        go_wp2
        go_roundw
        case rel => exact ⟨k + 1, by omega, by go_num, HB.out.up (Nat.le_refl _) (by omega) _ (by first | rfl | exact hc | exact cast_bit8 m k | omega) _ (by omega)⟩
        case measure => simp [intOf]; omega
      · have hk2 : k = 53 := by omega
        subst hk2
        rw [show ((53 : Nat) : Int) = (53 : Int) from rfl]
        go_wp2
        go_ret
        have hb := HB.out
        rw [HM53.out] at hb
        exact ⟨_, _, rfl, hb.bits, hb.below⟩
theorem whole_any (r : Nat) (hr : r ≤ 9218868437227405312) (w : World) : Calls Try.prog 93 #[.int .u64 (r : Int)] w (BitEnds w.heap.size w (Fl.val r)) := by
  unfold Fl.val Fl.mant Fl.shf
  by_cases h : r < 4503599627370496
  · rw [if_pos h, if_pos h]
    exact whole_core r 0 (r % 4503599627370496) r 0 (by omega) (by omega) (by omega) (by omega) (by omega) (.inl ⟨rfl, by omega, rfl⟩) w
  · rw [if_neg h, if_neg h]
    exact whole_core r (r / 4503599627370496) (r % 4503599627370496) _ _ (by omega) (by omega) (by omega) (by omega) (by omega) (.inr ⟨by omega, by omega, rfl⟩) w

set_option maxHeartbeats 2000000 in
theorem above_any (A1 A2 : Option Addr) (C1 C2 m n : Nat) (hm : m < top) (hn : n < top) (w : World) (H1 : Hid (BitAt w A1 m)) (H2 : Hid (BitAt w A2 n)) :
    Calls Try.prog 94 #[.slice A1 2240 C1, .slice A2 2240 C2] w fun e w' => e = .returned (.bool (decide (n < m))) ∧ Below w.heap.size w w' := by
  obtain ⟨g1, o1, rfl, hg1, hc1⟩ := H1.out.get
  obtain ⟨g2, o2, rfl, hg2, hc2⟩ := H2.out.get
  have HC1 := Lib.hid hc1
  have HC2 := Lib.hid hc2
  have HT : Hid (m / 2 ^ 2240 = n / 2 ^ 2240) := Lib.hid (by rw [← top_bits, Nat.div_eq_of_lt hm, Nat.div_eq_of_lt hn])
  clear hc1 hc2 hm hn
  go_enter Try.func94, Try.ntmps94
  go_wp2
  go_loopw [5] (fun i wr => ∃ k : Nat, k ≤ 2240 ∧ i = .int .i64 ((k : Int) - 1) ∧ m / 2 ^ k = n / 2 ^ k ∧ Below w.heap.size w wr) (fun i _ => (intOf i + 1).toNat)
  case atStart => exact ⟨2240, by omega, rfl, HT.out, Below.refl _ _⟩
  case round =>
    obtain ⟨k, hk, rfl, hmn, hB⟩ := hrel
    have HB := Lib.hid hB
    have HMN := Lib.hid hmn
    clear hB hmn
    by_cases hlt : 0 < k
    · obtain ⟨j, rfl⟩ : ∃ j, k = j + 1 := ⟨k - 1, by omega⟩
      have c1 : wr.cell? ⟨g1, o1 + j, none⟩ = some (.int .u8 (bit m j : Nat)) := (HB.out.cell (p := ⟨g1, o1 + j, none⟩) hg1).trans (HC1.out j (by omega))
      have c2 : wr.cell? ⟨g2, o2 + j, none⟩ = some (.int .u8 (bit n j : Nat)) := (HB.out.cell (p := ⟨g2, o2 + j, none⟩) hg2).trans (HC2.out j (by omega))
      have hj : ((j + 1 : Nat) : Int) - 1 = (j : Int) := by omega
      rw [hj]
      have HD := Lib.hid (fun h2 => bit_top (m := m) (n := n) (k := j) HMN.out h2)
      have HE := Lib.hid (fun h2 => div_same (m := m) (n := n) (k := j) HMN.out h2)
      have b1 := bit_le m j
      have b2 := bit_le n j
      generalize bit m j = X at *
      generalize bit n j = Y at *
      by_cases hxy : X = Y
      · subst hxy
        have HE2 := Lib.hid (HE.out rfl)
        clear HD
        go_wp2_with (first | go_region | go_quiet (fail))
        go_roundw
        case rel => exact ⟨j, by omega, by first | rfl | go_num, HE2.out, by first | exact HB.out | exact HB.out.drew | exact HB.out.drew.drew⟩
        case measure => simp [intOf]; try omega
      · have HD2 := Lib.hid (HD.out hxy)
        have hne : ((X : Int) == (Y : Int)) = false := by rw [beq_eq_false_iff_ne]; omega
        clear HE
        rcases Nat.lt_or_ge Y X with hyx | hyx
        · have hl2 : (decide ((Y : Int) < (X : Int))) = true := by rw [decide_eq_true_eq]; omega
          go_wp2_with (first | go_region | go_quiet (fail))
          go_ret
          exact ⟨ret_eq (congrArg Value.bool (by rw [HD2.out]; first | exact (decide_eq_true hyx).symm | exact (decide_eq_false (by omega)).symm | rfl)), by first | exact HB.out | exact HB.out.drew | exact HB.out.drew.drew⟩
        · have hl2 : (decide ((Y : Int) < (X : Int))) = false := by rw [decide_eq_false_iff_not]; omega
          go_wp2_with (first | go_region | go_quiet (fail))
          go_ret
          exact ⟨ret_eq (congrArg Value.bool (by have := HD2.out; rw [this]; try exact (decide_eq_false (by omega)).symm)), by first | exact HB.out | exact HB.out.drew | exact HB.out.drew.drew⟩
    · obtain rfl : k = 0 := by omega
      have HF : Hid (m = n) := Lib.hid (by have := HMN.out; simpa using this)
      rw [show ((0 : Nat) : Int) - 1 = -1 from rfl]
      go_wp2
      go_ret
      exact ⟨ret_eq (congrArg Value.bool (by rw [HF.out]; try simp)), HB.out⟩
end Go.Proofs.Ytljelocomjbanaa


set_option linter.unusedSimpArgs false
set_option linter.unusedVariables false
set_option maxRecDepth 100000
namespace Go.Proofs.Ytljelocomjbanaa
open Go.RowKit Sm Qb
namespace Qb
/-- A document's sum as a struct: where its bits lie, and what it has. -/
def R6 (A : Option Addr) (C : Nat) (h : Nat) : Array Value := #[.slice A 2240 C, .bool (h.testBit 0), .bool (h.testBit 1), .bool (h.testBit 2), .bool (h.testBit 3), .bool (h.testBit 4)]
/-- How a call ends that answers with a sum. -/
def SumEnds (w : World) (n h : Nat) (e : Ending) (w' : World) : Prop := ∃ A C, e = .returned (.agg (R6 A C h)) ∧ BitAt w' A n ∧ Below w.heap.size w w'
/-- The cells of a sum. -/
def r6 (v : Value) (c0 c1 c2 c3 c4 : Bool) : Array Value := #[v, .bool c0, .bool c1, .bool c2, .bool c3, .bool c4]
end Qb
theorem uR6 : Try.prog.underlying 98 = some (.struct (Try.prog.fieldsOf 98)) := by kernel_rfl
theorem iR6 (v : Value) (c0 c1 c2 c3 c4 : Bool) : (Try.prog.info? 98).map (·.size) = some (#[v, .bool c0, .bool c1, .bool c2, .bool c3, .bool c4] : Array Value).size := by kernel_rfl

set_option maxHeartbeats 1000000 in
theorem rnew_any (w : World) : Calls Try.prog 89 #[] w (SumEnds w 0 0) := by
  have hmk := make_bits
  have HB : Hid (Qb.BitAt ((w.alloc (.cells #[.slice (some ⟨w.heap.size + 1, 0, none⟩) 2240 2240, .bool false, .bool false, .bool false, .bool false, .bool false] 98)).alloc (.cells (bys (List.replicate 2240 0)).toArray 5)) (some ⟨w.heap.size + 1, 0, none⟩) 0) := Lib.hid (by
    refine ByAt.of_row _ (bl_lt 0 2240) (cs := (bys (List.replicate 2240 0)).toArray) (t := 5) (fr := (0, 0)) ?_ ⟨[], by rw [bl_none]; simp⟩
    exact heap_alloc2_new w _ _)
  generalize bys (List.replicate 2240 0) = Z at *
  go_enter Try.func89, Try.ntmps89
  go_wp2
  exact post_row 0 98 Try.results89 rfl w.heap.size 98 _ (0, 0) _ rfl (heap_alloc2_old w _ _) uR6 rfl (iR6 _ _ _ _ _ _) ⟨_, _, rfl, HB.out, ((Below.refl _ _).alloc (Nat.le_refl _) _).alloc (by simp) _⟩

/-- What is neither a number nor finite: no bits are added. -/
theorem or_bitsQ (h k : Nat) (x : Bool) (i : Nat) (hk : k.testBit i = x) : (h ||| k).testBit i = (h.testBit i || x) := by rw [Nat.testBit_or, hk]
theorem R6_or (A : Option Addr) (C h k : Nat) : R6 A C (h ||| k) = #[.slice A 2240 C, .bool (h.testBit 0 || k.testBit 0), .bool (h.testBit 1 || k.testBit 1), .bool (h.testBit 2 || k.testBit 2), .bool (h.testBit 3 || k.testBit 3), .bool (h.testBit 4 || k.testBit 4)] := by
  unfold R6; simp only [Nat.testBit_or]

def CbGives (b : Nat) (B : Int) : Prop := ∀ w, Calls Try.prog 54 #[.float .f64 b] w fun e w' => e = .returned (.int .u64 B) ∧ w = w'
theorem CbGives.at {b : Nat} {B : Int} (h : CbGives b B) (w : World) : Calls Try.prog 54 #[.float .f64 b] w fun e w' => e = .returned (.int .u64 B) ∧ w = w' := h w

set_option maxHeartbeats 1000000 in
theorem radd_inf (A : Option Addr) (C : Nat) (c0 c1 c2 c3 c4 : Bool) (b : Nat) (B : Int) (hb0 : 0 ≤ B) (hb1 : B < 18446744073709551616) (hb : CbGives b B) (hE : B / 4503599627370496 % 2048 = 2047) (nn sg : Bool) (hn : (B % 4503599627370496 != 0) = nn) (hs : (B / 9223372036854775808 == 1) = sg) (w : World) :
    Calls Try.prog 90 #[.agg #[.slice A 2240 C, .bool c0, .bool c1, .bool c2, .bool c3, .bool c4], .float .f64 b] w fun e w' =>
      e = .returned (.agg #[.slice A 2240 C, .bool (c0 || nn), .bool (c1 || (!nn && !sg)), .bool (c2 || (!nn && sg)), .bool true, .bool true]) ∧ Below w.heap.size w w' := by
  cases nn <;> cases sg
  all_goals
    go_enter Try.func90, Try.ntmps90
    go_wp2_with (go_at_call 54; (with_reducible refine (hb.at _).mono ?_); rintro e w' ⟨rfl, rfl⟩)
    refine post_row 4 98 Try.results90 rfl (w.heap.size + 1) 98 _ (0, 0) _ rfl (heap_alloc2_new w _ _) uR6 rfl (iR6 _ _ _ _ _ _) ⟨by simp, ((Below.refl _ _).alloc (Nat.le_refl _) _).alloc (by simp) _⟩

/-- How Add ends. -/
def Qb.AddEnds (w : World) (c0 c1 c2 c3 c4 : Bool) (n : Nat) (e : Ending) (w' : World) : Prop := ∃ A C, e = .returned (.agg #[.slice A 2240 C, .bool c0, .bool c1, .bool c2, .bool c3, .bool c4]) ∧ BitAt w' A n ∧ Below w.heap.size w w'
theorem kept_setRowQ (w : World) (g : Nat) (c : Array Value) : Kept (fun k => k = g) w (w.setRow g c) :=
  ⟨rfl, rfl, rfl, by show w.heap.size ≤ (w.heap.modify g _).size; simp, fun k _ hn => setRow_other w g k c hn⟩
theorem Qb.BitAt.off {w w' : World} {a : Option Addr} {n g : Nat} {v : Value} (h : BitAt w a n) (hk : Kept (fun k => k = g) w w') (hc : w.cell? ⟨g, 0, none⟩ = some v) (hv : ∀ x : Nat, v ≠ .int .u8 (x : Int)) (ha : ∀ x, a = some x → x.off = 0) : BitAt w' a n :=
  ByAt.kept h hk (fun x hx _ e => by
    obtain ⟨b, off, e1, hb, hcl⟩ := h.get
    rw [e1] at hx
    injection hx with hx
    subst hx
    have h0 := ha _ e1
    have h0 : off = 0 := h0
    subst h0
    have e : b = g := e
    subst e
    have := hcl 0 (by decide)
    rw [hc] at this
    injection this with this
    exact hv _ this)

/-- Behind the struct and the result, bits that are being written. -/
structure Qb.Ad (w0 : World) (v : Value) (c0 c1 c2 c3 c4 : Bool) (n : Nat) (w : World) : Prop where
  below : Below w0.heap.size w0 w
  row1 : w.heap[w0.heap.size]? = some (.cells #[v, .bool c0, .bool c1, .bool c2, .bool c3, .bool c4] 98 (0, 0))
  row2 : w.heap[w0.heap.size + 1]? = some (.cells #[.slice none 0 0, .bool false, .bool false, .bool false, .bool false, .bool false] 98 (0, 0))
  row3 : w.heap[w0.heap.size + 2]? = some (.cells (bys (bl n 2240)).toArray 5 (0, 0))
theorem Qb.Ad.start (w : World) (v : Value) (c0 c1 c2 c3 c4 : Bool) (n : Nat) (hn : n = 0) : Qb.Ad w v c0 c1 c2 c3 c4 n (((w.alloc (.cells #[v, .bool c0, .bool c1, .bool c2, .bool c3, .bool c4] 98)).alloc (.cells #[.slice none 0 0, .bool false, .bool false, .bool false, .bool false, .bool false] 98)).alloc (.cells (bys (List.replicate 2240 0)).toArray 5)) := by
  subst hn
  have e1 : (w.alloc (.cells #[v, .bool c0, .bool c1, .bool c2, .bool c3, .bool c4] 98)).heap.size = w.heap.size + 1 := by simp
  have e2 : ((w.alloc (.cells #[v, .bool c0, .bool c1, .bool c2, .bool c3, .bool c4] 98)).alloc (.cells #[.slice none 0 0, .bool false, .bool false, .bool false, .bool false, .bool false] 98)).heap.size = w.heap.size + 2 := by simp
  refine ⟨(((Below.refl _ _).alloc (Nat.le_refl _) _).alloc (by rw [e1]; omega) _).alloc (by rw [e2]; omega) _, ?_, ?_, ?_⟩
  · rw [Below.heap_alloc _ _ _ (by rw [e2]; omega)]; exact heap_alloc2_old w _ _
  · rw [Below.heap_alloc _ _ _ (by rw [e2]; omega)]; exact heap_alloc2_new w _ _
  · rw [bl_none]
    have h := heap_alloc_new' ((w.alloc (.cells #[v, .bool c0, .bool c1, .bool c2, .bool c3, .bool c4] 98)).alloc (.cells #[.slice none 0 0, .bool false, .bool false, .bool false, .bool false, .bool false] 98)) (.cells (bys (List.replicate 2240 0)).toArray 5)
    rwa [e2] at h
theorem Qb.Ad.next {w0 w w' : World} {v : Value} {c0 c1 c2 c3 c4 : Bool} {n : Nat} (H : Qb.Ad w0 v c0 c1 c2 c3 c4 n w) (hb : Below w.heap.size w w') : Qb.Ad w0 v c0 c1 c2 c3 c4 n w' :=
  ⟨H.below.trans (hb.mono H.below.size), (hb.block _ (Array.getElem?_eq_some_iff.1 H.row1).1).trans H.row1, (hb.block _ (Array.getElem?_eq_some_iff.1 H.row2).1).trans H.row2, (hb.block _ (Array.getElem?_eq_some_iff.1 H.row3).1).trans H.row3⟩
theorem Qb.Ad.up {w0 w : World} {v : Value} {c0 c1 c2 c3 c4 : Bool} {m S i : Nat} (H : Qb.Ad w0 v c0 c1 c2 c3 c4 (m % 2 ^ i * 2 ^ S) w) (h : S + i < 2240) (x : Int) (hx : x = ((bit m i : Nat) : Int)) (j : Nat) (hj : j = S + i) :
    Qb.Ad w0 v c0 c1 c2 c3 c4 (m % 2 ^ (i + 1) * 2 ^ S) (w.setCell ⟨w0.heap.size + 2, j, none⟩ (.int .u8 x)) := by
  subst hx; subst hj
  refine ⟨H.below.setCell (by show _ ≤ w0.heap.size + 2; omega) _, (Below.heap_setCell _ _ _ _ (by show _ ≠ w0.heap.size + 2; omega)).trans H.row1, (Below.heap_setCell _ _ _ _ (by show _ ≠ w0.heap.size + 2; omega)).trans H.row2, ?_⟩
  rw [← bl_up m S i h, bys_set]
  exact row_set H.row3 _ _
theorem Qb.Ad.bits {w0 w : World} {v : Value} {c0 c1 c2 c3 c4 : Bool} {n : Nat} (H : Qb.Ad w0 v c0 c1 c2 c3 c4 n w) : BitAt w (some ⟨w0.heap.size + 2, 0, none⟩) n :=
  ByAt.of_row _ (bl_lt n 2240) H.row3 ⟨[], by simp⟩
theorem Qb.Ad.cell {w0 w : World} {v : Value} {c0 c1 c2 c3 c4 : Bool} {n : Nat} (H : Qb.Ad w0 v c0 c1 c2 c3 c4 n w) : w.cell? ⟨w0.heap.size, 0, none⟩ = some v := by
  rw [cell_of_row _ _ _ _ _ _ H.row1]; rfl
theorem Qb.Ad.store {w0 w : World} {v v' : Value} {c0 c1 c2 c3 c4 : Bool} {n : Nat} (H : Qb.Ad w0 v c0 c1 c2 c3 c4 n w) : Qb.Ad w0 v' c0 c1 c2 c3 c4 n (w.setCell ⟨w0.heap.size, 0, none⟩ v') := by
  refine ⟨H.below.setCell (by show _ ≤ w0.heap.size; omega) _, ?_, (Below.heap_setCell _ _ _ _ (by show _ ≠ w0.heap.size; omega)).trans H.row2, (Below.heap_setCell _ _ _ _ (by show _ ≠ w0.heap.size; omega)).trans H.row3⟩
  exact row_set (cs := [v, .bool c0, .bool c1, .bool c2, .bool c3, .bool c4]) H.row1 0 v'

def TuGives (n : Nat) : Prop := ∀ (A : Option Addr) (C : Nat) (w : World), Hid (BitAt w A n) → Calls Try.prog 91 #[.slice A 2240 C] w (BitEnds w.heap.size w (neg n))
theorem TuGives.at {n : Nat} (h : TuGives n) (A : Option Addr) (C : Nat) (w : World) (H : Hid (BitAt w A n)) : Calls Try.prog 91 #[.slice A 2240 C] w (BitEnds w.heap.size w (neg n)) := h A C w H

set_option maxHeartbeats 4000000 in
theorem radd_lo (A : Option Addr) (C n : Nat) (hn : n < top) (c0 c1 c2 c3 c4 : Bool) (b : Nat) (B : Int) (hb0 : 0 ≤ B) (hb1 : B < 18446744073709551616) (hb : CbGives b B) (m : Nat) (hE : B / 4503599627370496 % 2048 = 0) (hM : B % 4503599627370496 = (m : Int)) (hM2 : m < 4503599627370496)
    (sg nz : Bool) (hs : (B / 9223372036854775808 == 1) = sg) (hz : (B != 9223372036854775808) = nz) (N : Nat) (HNN : Hid ((n + (if sg then neg (m * 2 ^ 0) else m * 2 ^ 0)) % top = N)) (w : World) (HA : Hid (BitAt w A n)) :
    Calls Try.prog 90 #[.agg #[.slice A 2240 C, .bool c0, .bool c1, .bool c2, .bool c3, .bool c4], .float .f64 b] w fun e w' => Qb.AddEnds w c0 c1 c2 true (c4 || nz) N e w' := by
  have hmk := make_bits
  have HS := fun d0 d1 d2 d3 d4 v => Lib.hid (Qb.Ad.start w v d0 d1 d2 d3 d4 (m % 2 ^ 0 * 2 ^ 0) (by rw [Nat.pow_zero, Nat.mod_one, Nat.zero_mul]))
  have HM53 := Lib.hid (show m % 2 ^ 53 = m from Nat.mod_eq_of_lt (by rw [show (2 : Nat) ^ 53 = 9007199254740992 from rfl]; omega))
  have HTU : TuGives (m * 2 ^ 0) := fun A C w h => rturn_any A C _ (small_top m 0 (by omega) (by omega)) w h
  generalize bys (List.replicate 2240 0) = Z at *
  cases nz
  all_goals
    go_enter Try.func90, Try.ntmps90
    go_wp2_with (go_at_call 54; (with_reducible refine (hb.at _).mono ?_); rintro e w' ⟨rfl, rfl⟩)
    clear hmk
    go_loopw [10] (fun i wr => ∃ k : Nat, k ≤ 53 ∧ i = .int .i64 k ∧ ∃ d4, d4 = (c4 || (B != 9223372036854775808)) ∧ Qb.Ad w (.slice A 2240 C) c0 c1 c2 true d4 (m % 2 ^ k * 2 ^ 0) wr) (fun i _ => 53 - (intOf i).toNat)
    case atStart => exact ⟨0, by omega, rfl, _, by first | rfl | (rw [hz]; simp), (HS _ _ _ _ _ _).out⟩
    case round =>
      obtain ⟨k, hk, rfl, d4, rfl, hB⟩ := hrel
      have HB := Lib.hid hB
      clear hB
      by_cases hlt : k < 53
      · have hl : k < (bys (bl (m % 2 ^ k * 2 ^ 0) 2240)).length := by rw [bys_length, bl_len]; omega
        have c3 := row_cell HB.out.row3 (k) hl
        have f3 := row_frozen HB.out.row3 (k)
        have hc := cast_bit m k
        have b1 := bit_le m k
        generalize (bys (bl (m % 2 ^ k * 2 ^ 0) 2240))[k] = y at *
        clear hl
        go_wp2
        go_roundw
        case rel => exact ⟨k + 1, by omega, by go_num, _, rfl, HB.out.up (by omega) _ (by first | rfl | exact hc | exact cast_bit8 m k | omega) _ (by omega)⟩
        case measure => simp [intOf]; omega
      · have hk2 : k = 53 := by omega
        subst hk2
        have hb := HB.out
        rw [HM53.out] at hb
        have HB2 := Lib.hid hb
        have hc := hb.cell
        clear hb HB
        rw [show ((53 : Nat) : Int) = (53 : Int) from rfl]
        cases sg
        all_goals
          go_wp2_with (first
            | (go_at_call 91; (with_reducible refine (HTU.at _ _ _ (Lib.hid HB2.out.bits)).mono ?_); rintro e w2 ⟨g2, C2, rfl, hbt, hb2⟩; have HBT := Lib.hid hbt; have HB3 := Lib.hid (HB2.out.next hb2); have hc2 := HB3.out.cell; clear hbt hb2 hc)
            | (go_at_call 92; (first
                | (with_reducible refine (radd_any A _ C _ n _ _ (Lib.hid (HA.out.keep HB3.out.below)) HBT).mono ?_)
                | (with_reducible refine (radd_any A _ C _ n _ _ (Lib.hid (HA.out.keep HB2.out.below)) (Lib.hid HB2.out.bits)).mono ?_)); rintro e w5 ⟨g5, C5, rfl, hbt5, hb5⟩; have HBT5 := Lib.hid hbt5; (first | have HB5 := Lib.hid (HB3.out.next hb5) | have HB5 := Lib.hid (HB2.out.next hb5)); have hc5 := HB5.out.cell; have f5 := row_frozen HB5.out.row1 0; have HB6 := Lib.hid (HB5.out.store (v' := .slice (some ⟨g5, 0, none⟩) 2240 C5)); clear hbt5 hb5)
            | (refine wpList_load_row rfl 98 (.tmp 2) rfl w.heap.size rfl _ _ (0, 0) _ HB6.out.row1 uR6 rfl (iR6 _ _ _ _ _ _) ?_)
            | (refine wpList_store_row rfl 98 (.tmp 4) (.tmp 66) rfl (w.heap.size + 1) _ rfl rfl _ _ HB6.out.row2 (iR6 _ _ _ _ _ _) rfl (by simp [Value.oneCell']) ?_))
          have hbt := HBT5.out
          have k1 : Kept (fun k => k = w.heap.size) w5 (w5.setCell ⟨w.heap.size, 0, none⟩ (.slice (some ⟨g5, 0, none⟩) 2240 C5)) := (Kept.refl _ _).setCell _ _ (.inl rfl)
          have hbt2 := hbt.off k1 hc5 (fun x h => by cases h) (fun x h => by injection h with h; rw [← h])
          have hc6 : (w5.setCell ⟨w.heap.size, 0, none⟩ (.slice (some ⟨g5, 0, none⟩) 2240 C5)).cell? ⟨w.heap.size + 1, 0, none⟩ = some (.slice none 0 0) := by rw [cell_of_row _ _ _ _ _ _ HB6.out.row2]; rfl
          have hbt3 := fun c => hbt2.off (kept_setRowQ _ (w.heap.size + 1) c) hc6 (fun x h => by cases h) (fun x h => by injection h with h; rw [← h])
          refine post_row 4 98 Try.results90 rfl (w.heap.size + 1) 98 _ (0, 0) _ rfl (setRow_heap _ _ _ _ _ _ HB6.out.row2) uR6 rfl (iR6 _ _ _ _ _ _) ⟨some ⟨g5, 0, none⟩, C5, by rw [hz], ?_, ?_⟩
          · rw [← HNN.out]; first | exact hbt3 _ | (rw [if_neg (by decide)]; exact hbt3 _) | (rw [if_pos rfl]; exact hbt3 _)
          · exact below_setRow HB6.out.below (by omega) _

set_option maxHeartbeats 4000000 in
theorem radd_hi (A : Option Addr) (C n : Nat) (hn : n < top) (c0 c1 c2 c3 c4 : Bool) (b : Nat) (B : Int) (hb0 : 0 ≤ B) (hb1 : B < 18446744073709551616) (hb : CbGives b B) (E M m S : Nat) (hE : B / 4503599627370496 % 2048 = (E : Int)) (hM : B % 4503599627370496 = (M : Int)) (hM2 : M < 4503599627370496) (hE2 : E < 2047) (E0 : 0 < E) (hm : m = M + 4503599627370496) (hS : S = E - 1)
    (sg : Bool) (hs : (B / 9223372036854775808 == 1) = sg) (hz : (B != 9223372036854775808) = true) (N : Nat) (HNN : Hid ((n + (if sg then neg (m * 2 ^ S) else m * 2 ^ S)) % top = N)) (w : World) (HA : Hid (BitAt w A n)) :
    Calls Try.prog 90 #[.agg #[.slice A 2240 C, .bool c0, .bool c1, .bool c2, .bool c3, .bool c4], .float .f64 b] w fun e w' => Qb.AddEnds w c0 c1 c2 true true N e w' := by
  have hmI : (M : Int) + 4503599627370496 = (m : Int) := by omega
  have hSE : (E : Int) - 1 = (S : Int) := by omega
  have hS2 : S < 2046 := by omega
  clear hm hS
  have hmk := make_bits
  have HS := fun d0 d1 d2 d3 d4 v => Lib.hid (Qb.Ad.start w v d0 d1 d2 d3 d4 (m % 2 ^ 0 * 2 ^ S) (by rw [Nat.pow_zero, Nat.mod_one, Nat.zero_mul]))
  have HM53 := Lib.hid (show m % 2 ^ 53 = m from Nat.mod_eq_of_lt (by rw [show (2 : Nat) ^ 53 = 9007199254740992 from rfl]; omega))
  have HTU : TuGives (m * 2 ^ S) := fun A C w h => rturn_any A C _ (small_top m S (by omega) (by omega)) w h
  generalize bys (List.replicate 2240 0) = Z at *
  skip
  all_goals
    go_enter Try.func90, Try.ntmps90
    go_wp2_with (go_at_call 54; (with_reducible refine (hb.at _).mono ?_); rintro e w' ⟨rfl, rfl⟩)
    clear hmk
    go_loopw [10] (fun i wr => ∃ k : Nat, k ≤ 53 ∧ i = .int .i64 k ∧ ∃ d4, d4 = (c4 || (B != 9223372036854775808)) ∧ Qb.Ad w (.slice A 2240 C) c0 c1 c2 true d4 (m % 2 ^ k * 2 ^ S) wr) (fun i _ => 53 - (intOf i).toNat)
    case atStart => exact ⟨0, by omega, rfl, _, by first | rfl | (rw [hz]; simp), (HS _ _ _ _ _ _).out⟩
    case round =>
      obtain ⟨k, hk, rfl, d4, rfl, hB⟩ := hrel
      have HB := Lib.hid hB
      clear hB
      by_cases hlt : k < 53
      · have hl : S + k < (bys (bl (m % 2 ^ k * 2 ^ S) 2240)).length := by rw [bys_length, bl_len]; omega
        have c3 := row_cell HB.out.row3 (S + k) hl
        have f3 := row_frozen HB.out.row3 (S + k)
        have hc := cast_bit m k
        have b1 := bit_le m k
        generalize (bys (bl (m % 2 ^ k * 2 ^ S) 2240))[S + k] = y at *
        have q0 : (0 : Int) ≤ (S : Int) + (k : Int) := by omega
        have q1 : (S : Int) + (k : Int) < 2240 := by omega
        have q2 : ((S : Int) + (k : Int)).toNat = S + k := by omega
        clear hl
        go_wp2
        go_roundw
        case rel => exact ⟨k + 1, by omega, by go_num, _, rfl, HB.out.up (by omega) _ (by first | rfl | exact hc | exact cast_bit8 m k | omega) _ (by omega)⟩
        case measure => simp [intOf]; omega
      · have hk2 : k = 53 := by omega
        subst hk2
        have hb := HB.out
        rw [HM53.out] at hb
        have HB2 := Lib.hid hb
        have hc := hb.cell
        clear hb HB
        rw [show ((53 : Nat) : Int) = (53 : Int) from rfl]
        cases sg
        all_goals
          go_wp2_with (first
            | (go_at_call 91; (with_reducible refine (HTU.at _ _ _ (Lib.hid HB2.out.bits)).mono ?_); rintro e w2 ⟨g2, C2, rfl, hbt, hb2⟩; have HBT := Lib.hid hbt; have HB3 := Lib.hid (HB2.out.next hb2); have hc2 := HB3.out.cell; clear hbt hb2 hc)
            | (go_at_call 92; (first
                | (with_reducible refine (radd_any A _ C _ n _ _ (Lib.hid (HA.out.keep HB3.out.below)) HBT).mono ?_)
                | (with_reducible refine (radd_any A _ C _ n _ _ (Lib.hid (HA.out.keep HB2.out.below)) (Lib.hid HB2.out.bits)).mono ?_)); rintro e w5 ⟨g5, C5, rfl, hbt5, hb5⟩; have HBT5 := Lib.hid hbt5; (first | have HB5 := Lib.hid (HB3.out.next hb5) | have HB5 := Lib.hid (HB2.out.next hb5)); have hc5 := HB5.out.cell; have f5 := row_frozen HB5.out.row1 0; have HB6 := Lib.hid (HB5.out.store (v' := .slice (some ⟨g5, 0, none⟩) 2240 C5)); clear hbt5 hb5)
            | (refine wpList_load_row rfl 98 (.tmp 2) rfl w.heap.size rfl _ _ (0, 0) _ HB6.out.row1 uR6 rfl (iR6 _ _ _ _ _ _) ?_)
            | (refine wpList_store_row rfl 98 (.tmp 4) (.tmp 66) rfl (w.heap.size + 1) _ rfl rfl _ _ HB6.out.row2 (iR6 _ _ _ _ _ _) rfl (by simp [Value.oneCell']) ?_))
          have hbt := HBT5.out
          have k1 : Kept (fun k => k = w.heap.size) w5 (w5.setCell ⟨w.heap.size, 0, none⟩ (.slice (some ⟨g5, 0, none⟩) 2240 C5)) := (Kept.refl _ _).setCell _ _ (.inl rfl)
          have hbt2 := hbt.off k1 hc5 (fun x h => by cases h) (fun x h => by injection h with h; rw [← h])
          have hc6 : (w5.setCell ⟨w.heap.size, 0, none⟩ (.slice (some ⟨g5, 0, none⟩) 2240 C5)).cell? ⟨w.heap.size + 1, 0, none⟩ = some (.slice none 0 0) := by rw [cell_of_row _ _ _ _ _ _ HB6.out.row2]; rfl
          have hbt3 := fun c => hbt2.off (kept_setRowQ _ (w.heap.size + 1) c) hc6 (fun x h => by cases h) (fun x h => by injection h with h; rw [← h])
          refine post_row 4 98 Try.results90 rfl (w.heap.size + 1) 98 _ (0, 0) _ rfl (setRow_heap _ _ _ _ _ _ HB6.out.row2) uR6 rfl (iR6 _ _ _ _ _ _) ⟨some ⟨g5, 0, none⟩, C5, by rw [hz, Bool.or_true], ?_, ?_⟩
          · rw [← HNN.out]; first | exact hbt3 _ | (rw [if_neg (by decide)]; exact hbt3 _) | (rw [if_pos rfl]; exact hbt3 _)
          · exact below_setRow HB6.out.below (by omega) _

end Go.Proofs.Ytljelocomjbanaa
