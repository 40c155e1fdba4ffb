/-
  Layer mark: the law MarkReads, walked.
-/
import Derived.Test.YtgoibcolehcgcaaKm
import Derived.Outline
import Derived.Deep.CutBlock
set_option linter.unusedSimpArgs false
set_option linter.unusedVariables false
set_option maxRecDepth 8000
namespace Go.Proofs.Ytgoibcolehcgcaa
open Go.RowKit Go.WideShapes Mk Col
/-- A narrower class of worlds serves from here on. -/
theorem wpAnyH_moreK {P : Program} {ops : Array Oper} {Q : Exit → Act → World → Prop} {md : Region.Mode} {S S' : World → Prop} (h : ∀ w, S' w → S w) : ∀ {n : Nat} {listed : Array Bool} {a : Act} {w : World}, wpAnyH P md ops Q S' n listed a w → wpAnyH P md ops Q S n listed a w
  | 0, _, _, _, H => H
  | n + 1, _, _, _, H => ⟨H.1, fun i hi => wpOp_mono (fun _ _ h' => ⟨h _ h'.1, wpAnyH_moreK h h'.2⟩) (H.2 i hi)⟩
theorem yieldsIf_row {P : Program} {ops : Array Oper} {S : World → Prop} {op : Oper} {a : Act} (hw : Region.wanted op (yielded ops a.tmps) = true) (ty : TypeId) (x : Operand) (ho : op.op = .load ty x)
    (g : Nat) (hx : a.eval x = .pointer (some ⟨g, 0, none⟩)) (t : TypeId) (cs : Array Value) (fr : Nat × Nat) (d : TypeDesc) (hS : ∀ w, S w → w.heap[g]? = some (.cells cs t fr))
    (hu : P.underlying ty = some d) (hd : (match d with | .struct _ | .array _ _ => true | _ => false) = true) (hi : (P.info? ty).map (·.size) = some cs.size) : YieldsIf P ops S op (.agg cs) a :=
  .inl ⟨hw, fun w hw' => by
    unfold execOp
    simp only [ho, hx, Instr.loadAt, Instr.sureAddr, Sem.run_bind, Sem.run_pure, Result.andThen_ok, run_loadVar_row w g t ty cs fr d (hS w hw') hu hd hi]⟩
theorem yb_convK {ops : Array Oper} {S : World → Prop} {op : Oper} {a : Act} (hw : Region.wanted op (yielded ops a.tmps) = true) (x : Operand) (ho : op.op = .convert 42 9 x) (v u : Value) (hx : a.eval x = v)
    (h : ∀ w, S w → (convert 42 9 v).run Try.prog w = .ok u w) : YieldsIf Try.prog ops S op u a :=
  .inl ⟨hw, fun w hw' => by
    unfold execOp
    simp only [ho, hx, Sem.run_bind, Sem.run_pure, h w hw', Result.andThen_ok]⟩
theorem MC_kind (n : Int) (g : Nat → Option Int) (i : Nat) (x : Int) (h : (MC n g)[i]? = some (.int .u8 x)) : False := by
  have hm := Array.mem_of_getElem? h
  unfold MC ML two at hm
  simp at hm
/-- Where marks that were read lie. -/
def RM (bb : Nat) (q : List Nat) (b : Bool) (w : World) : Prop := b = true → ∃ (n : Nat) (G : Nat → Option Int), w.heap[bb]? = some (.cells (MC (n : Int) G) 28 (0, 0)) ∧ q = mkB n G ∧ n ≤ 8 ∧ MWf G
set_option maxHeartbeats 2000000 in
theorem mreadFn_any (rb bb : Nat) (q : List Nat) (hql : q.length ≤ 1000) (w : World) (hbg : bb < rb) (hrow : Hid (w.heap[bb]? = some (.cells (MC 0 (fun _ => none)) 28 (0, 0)))) (H : Hid (Rd w rb q)) :
    Calls Try.prog 15 #[.pointer (some ⟨rb, 0, none⟩), .pointer (some ⟨bb, 0, none⟩)] w (Tried rb (fun k => k = bb) (RM bb q) w) := by
  have hbw : bb < w.heap.size := (Array.getElem?_eq_some_iff.1 hrow.out).1
  have HV := Lib.hid (readM_any rb q hql w H)
  go_enter Try.func15, Try.ntmps15
  go_wp2_with fail
  refine (HV.out).mono ?_
  rintro e w1 ⟨hk, ⟨n, G, r, rfl, hr, hq, hn8, hw⟩ | ⟨rfl, hg⟩⟩
  · have HW := Lib.hid (hk.heap hrow.out (fun h => by omega))
    have HK := Lib.hid hk
    have HR := Lib.hid hr
    have HQ := Lib.hid hq
    have HWF := Lib.hid hw
    clear hk hr hq hw
    go_wp2_with (refine wpList_store_row rfl 28 (.tmp 1) (.tmp 4) rfl bb (MC (n : Int) G) rfl rfl _ _ HW.out (iM _ _) (by rw [MC_size, MC_size]) (MC_one _ _) ?_)
    have hkr := kept_setRowK w1 bb (MC (n : Int) G)
    refine bodyPost_ret (results_none rfl _ _ _) rfl ⟨?_, .inl ⟨r, rfl, ?_, ?_⟩⟩
    · exact (HK.out.mono (S' := fun k => k = bb ∨ k = rb) (fun k h => by rcases h with h | h; exact .inl (.inr h); exact .inr h)).trans' hkr (fun i hi => .inl (.inl hi))
    · obtain ⟨A, C, h⟩ := HR.out
      refine ⟨A, C, h.keep hkr (by omega) (fun a ha h0 hs => ?_)⟩
      obtain ⟨b, off, e, hb, hc⟩ := h.bytes.spot h0
      rw [e] at ha; injection ha with ha; subst ha
      have hs : b = bb := hs
      subst hs
      have hc0 := hc 0 r[0] (List.getElem?_eq_getElem h0)
      rw [cell_of_row _ _ _ _ _ _ HW.out] at hc0
      exact MC_kind _ _ _ _ hc0
    · intro hd
      have hr0 : r = [] := of_decide_eq_true hd
      exact ⟨n, G, setRow_heap _ _ _ _ _ _ HW.out, by rw [HQ.out, hr0, List.append_nil], hn8, HWF.out⟩
  · exact ⟨rfl, hk.mono fun k h => by rcases h with h | h; exact .inl (.inr h); exact .inr h, .inr ⟨rfl, hg, fun h => by cases h⟩⟩
set_option maxHeartbeats 1000000 in
theorem markReads_long (a : Option Addr) (la ca : Nat) (hL : 300 < la) (hm : la ≤ 9223372036854775807) (w : World) :
    Calls Try.prog 4 #[.slice a la ca] w fun e w' => e = .returned (.bool true) ∧ Below w.heap.size w w' := by
  have HB0 := Below.refl w.heap.size w
  go_enter Try.func4, Try.ntmps4
  go_wp2_with (go_at_call 6; (with_reducible refine (awakeM_any _).mono ?_); rintro e w' ⟨rfl, hb1⟩; replace HB0 := below_to HB0 hb1; clear hb1)
  go_ret
  exact ⟨rfl, HB0⟩
set_option maxHeartbeats 4000000 in
theorem markReads_core (a : Option Addr) (l : List Nat) (la ca : Nat) (hla : Hid (la = l.length)) (hac : la ≤ ca) (hcm : ca ≤ maxLen) (hL : la ≤ 300) (W : World) (HA : Hid (ByAt W a l)) :
    Calls Try.prog 4 #[.slice a la ca] W fun e w' => e = .returned (.bool true) ∧ Below W.heap.size W w' := by
  have hcm2 : ca ≤ 9223372036854775807 := hcm
  go_enter Try.func4, Try.ntmps4
  go_upto_region 4 with (go_at_call 6; (with_reducible refine (awakeM_any _).mono ?_); rintro e w1 ⟨rfl, hb1⟩; have HB1 := Lib.hid hb1; clear hb1)
  rw [zerosM]
  obtain ⟨w4, hw4⟩ : ∃ w4, w4 = w1.alloc (.cells (MC 0 (fun _ => none)) 28) := ⟨_, rfl⟩
  obtain ⟨bb, hbb⟩ : ∃ bb, bb = w1.heap.size := ⟨_, rfl⟩
  have HBW4 : Hid (Below W.heap.size W w4) := Lib.hid (by rw [hw4]; exact HB1.out.alloc HB1.out.size _)
  have HZ4 : Hid (w4.heap[bb]? = some (.cells (MC 0 (fun _ => none)) 28 (0, 0))) := Lib.hid (by rw [hw4, hbb]; exact heap_alloc_new' w1 _)
  have HBS : Hid (W.heap.size ≤ bb) := Lib.hid (by rw [hbb]; exact HB1.out.size)
  rw [← hw4, ← hbb]
  have hbw : bb < w4.heap.size := (Array.getElem?_eq_some_iff.1 HZ4.out).1
  clear hw4 hbb
  have ht := try_any 15 #[] #[.pointer (some ⟨bb, 0, none⟩)] a ca l la hla hac hcm w4 (Lib.hid (HA.out.keep HBW4.out)) (fun k => k = bb) (fun k hk => by omega)
    (fun _ => RM bb l) (RM bb l)
    (fun g b v2 v3 hg h hk hb => by
      obtain ⟨n, G, h1, h2, h3, h4⟩ := h hb
      exact ⟨n, G, hk.heap h1 (fun e => by have e : bb = g := e; omega), h2, h3, h4⟩)
    (fun g v2 hg hr hb => mreadFn_any g bb l (by have := hla.out; omega) v2 (by omega) (Lib.hid (row_keep HZ4.out hb)) (Lib.hid hr))
    (fun _ _ => by first | rfl | kernel_rfl)
  have HT := Lib.hid ht
  have hmf : ∀ (fn : Fn) (first cap : Array Value) (w : World), (Instr.makeFunc fn first cap).run Try.prog w = .ok (.func fn first cap) w := fun _ _ _ _ => rfl
  clear ht hbw
  go_upto_region 5 with (go_at_call 14; (with_reducible refine (HT.out).mono ?_); rintro e w8 ⟨b, rfl, hr, hk⟩; have HRT := Lib.hid hr; have HK8 := Lib.hid hk; clear hr hk)
  have HB8 : Hid (Below W.heap.size W w8) := Lib.hid (HBW4.out.trans (HK8.out.below HBW4.out.size (fun k hk => by have := HBS.out; omega)))
  clear hmf HT
  cases b
  · replace HB8 := Lib.hid HB8.out.drew
    refine wp_region_held_drew (S := fun _ => True) (by kernel_rfl) trivial (fun hHeld => ?_)
    refine wpAnyH_take (i := 0) (v := .bool false) rfl (by kernel_rfl) (by kernel_rfl) (by kernel_rfl) (fun _ _ _ h => h) (Or.inl ⟨by rfl, fun _ _ => rfl⟩) hHeld ?_
    try dsimp only
    try simp only [Act.put, List.getElem_toArray, List.getElem_cons_zero, List.getElem_cons_succ, List.setIfInBounds_toArray, List.set_cons_zero, List.set_cons_succ]
    refine wpAnyH_take (i := 1) (v := .bool true) rfl (by kernel_rfl) (by kernel_rfl) (by kernel_rfl) (fun _ _ _ h => h) (Or.inl ⟨by rfl, fun w _ => by go_simp⟩) hHeld ?_
    try dsimp only
    try simp only [Act.put, List.getElem_toArray, List.getElem_cons_zero, List.getElem_cons_succ, List.setIfInBounds_toArray, List.set_cons_zero, List.set_cons_succ]
    refine wpAnyH_take (i := 2) (v := .bool true) rfl (by kernel_rfl) (by kernel_rfl) (by kernel_rfl) (fun _ _ _ h => h) (Or.inl ⟨by rfl, fun _ _ => rfl⟩) hHeld ?_
    try dsimp only
    try simp only [Act.put, List.getElem_toArray, List.getElem_cons_zero, List.getElem_cons_succ, List.setIfInBounds_toArray, List.set_cons_zero, List.set_cons_succ]
    refine wpAnyH_take (i := 3) (v := undef) rfl (by kernel_rfl) (by kernel_rfl) (by kernel_rfl) (fun _ _ _ h => h) (Or.inr ⟨by rfl, rfl⟩) hHeld ?_
    try dsimp only
    try simp only [Act.put, List.getElem_toArray, List.getElem_cons_zero, List.getElem_cons_succ, List.setIfInBounds_toArray, List.set_cons_zero, List.set_cons_succ]
    refine wpAnyH_take (i := 4) (v := undef) rfl (by kernel_rfl) (by kernel_rfl) (by kernel_rfl) (fun _ _ _ h => h) (Or.inr ⟨by rfl, rfl⟩) hHeld ?_
    try dsimp only
    try simp only [Act.put, List.getElem_toArray, List.getElem_cons_zero, List.getElem_cons_succ, List.setIfInBounds_toArray, List.set_cons_zero, List.set_cons_succ]
    refine wpAnyH_take (i := 5) (v := undef) rfl (by kernel_rfl) (by kernel_rfl) (by kernel_rfl) (fun _ _ _ h => h) (Or.inr ⟨by rfl, rfl⟩) hHeld ?_
    try dsimp only
    try simp only [Act.put, List.getElem_toArray, List.getElem_cons_zero, List.getElem_cons_succ, List.setIfInBounds_toArray, List.set_cons_zero, List.set_cons_succ]
    refine wpAnyH_take (i := 6) (v := undef) rfl (by kernel_rfl) (by kernel_rfl) (by kernel_rfl) (fun _ _ _ h => h) (Or.inr ⟨by rfl, rfl⟩) hHeld ?_
    try dsimp only
    try simp only [Act.put, List.getElem_toArray, List.getElem_cons_zero, List.getElem_cons_succ, List.setIfInBounds_toArray, List.set_cons_zero, List.set_cons_succ]
    refine wpAnyH_take (i := 7) (v := undef) rfl (by kernel_rfl) (by kernel_rfl) (by kernel_rfl) (fun _ _ _ h => h) (Or.inr ⟨by rfl, rfl⟩) hHeld ?_
    try dsimp only
    try simp only [Act.put, List.getElem_toArray, List.getElem_cons_zero, List.getElem_cons_succ, List.setIfInBounds_toArray, List.set_cons_zero, List.set_cons_succ]
    refine wpAnyH_take (i := 8) (v := undef) rfl (by kernel_rfl) (by kernel_rfl) (by kernel_rfl) (fun _ _ _ h => h) (Or.inr ⟨by rfl, rfl⟩) hHeld ?_
    try dsimp only
    try simp only [Act.put, List.getElem_toArray, List.getElem_cons_zero, List.getElem_cons_succ, List.setIfInBounds_toArray, List.set_cons_zero, List.set_cons_succ]
    refine wpAnyH_take (i := 9) (v := .bool true) rfl (by kernel_rfl) (by kernel_rfl) (by kernel_rfl) (fun _ _ _ h => h) (Or.inl ⟨by rfl, fun _ _ => rfl⟩) hHeld ?_
    try dsimp only
    try simp only [Act.put, List.getElem_toArray, List.getElem_cons_zero, List.getElem_cons_succ, List.setIfInBounds_toArray, List.set_cons_zero, List.set_cons_succ]
    refine wpAnyH_take (i := 10) (v := .bool true) rfl (by kernel_rfl) (by kernel_rfl) (by kernel_rfl) (fun _ _ _ h => h) (Or.inl ⟨by rfl, fun _ _ => rfl⟩) hHeld ?_
    try dsimp only
    try simp only [Act.put, List.getElem_toArray, List.getElem_cons_zero, List.getElem_cons_succ, List.setIfInBounds_toArray, List.set_cons_zero, List.set_cons_succ]
    refine wpAnyH_done (by kernel_rfl) ?_ _
    go_wp2
    go_ret
    exact ⟨rfl, HB8.out⟩
  · obtain ⟨n, G, hrow, hml, hn8, hwf⟩ := HRT.out rfl
    have HWF := Lib.hid hwf
    have HML := Lib.hid hml
    obtain ⟨w9, hw9⟩ : ∃ w9, w9 = w8.drew := ⟨_, rfl⟩
    have HB : Below W.heap.size W w9 := by rw [hw9]; exact HB8.out.drew
    have R3 : w9.heap[bb]? = some (.cells (MC (n : Int) G) 28 (0, 0)) := by rw [hw9]; exact hrow
    have hBP : ByAt w9 a l := HA.out.keep HB
    clear hwf hml hrow HRT HK8 HZ4
    refine wp_region_held_drew (S := Below w9.heap.size w9) (by kernel_rfl) (by rw [← hw9]; exact Below.refl _ _) (fun hHeld => ?_)
    rw [← hw9] at hHeld ⊢
    clear hw9 HB8
    refine wpAnyH_take (i := 0) (v := .bool true) rfl (by kernel_rfl) (by kernel_rfl) (by kernel_rfl) (fun _ _ _ h => h) (Or.inl ⟨by rfl, fun _ _ => rfl⟩) hHeld ?_
    try dsimp only
    try simp only [Act.put, List.getElem_toArray, List.getElem_cons_zero, List.getElem_cons_succ, List.setIfInBounds_toArray, List.set_cons_zero, List.set_cons_succ]
    refine wpAnyH_take (i := 1) (v := .bool false) rfl (by kernel_rfl) (by kernel_rfl) (by kernel_rfl) (fun _ _ _ h => h) (Or.inl ⟨by rfl, fun w _ => by go_simp⟩) hHeld ?_
    try dsimp only
    try simp only [Act.put, List.getElem_toArray, List.getElem_cons_zero, List.getElem_cons_succ, List.setIfInBounds_toArray, List.set_cons_zero, List.set_cons_succ]
    refine wpAnyH_take (i := 2) (v := .bool false) rfl (by kernel_rfl) (by kernel_rfl) (by kernel_rfl) (fun _ _ _ h => h) (Or.inl ⟨by rfl, fun _ _ => rfl⟩) hHeld ?_
    try dsimp only
    try simp only [Act.put, List.getElem_toArray, List.getElem_cons_zero, List.getElem_cons_succ, List.setIfInBounds_toArray, List.set_cons_zero, List.set_cons_succ]
    refine wpAnyH_take (i := 3) (v := .agg (MC (n : Int) G)) rfl (by kernel_rfl) (by kernel_rfl) (by kernel_rfl) (fun _ _ _ h => h) (yieldsIf_row rfl 28 (.tmp 3) rfl bb rfl _ _ _ _ (fun w hw => row_keep R3 hw) uM rfl (iM _ _)) hHeld ?_
    try dsimp only
    try simp only [Act.put, List.getElem_toArray, List.getElem_cons_zero, List.getElem_cons_succ, List.setIfInBounds_toArray, List.set_cons_zero, List.set_cons_succ]
    refine wpAnyH_take (i := 6) (v := .slice a la ca) rfl (by kernel_rfl) (by kernel_rfl) (by kernel_rfl) (fun _ _ _ h => h) (Or.inl ⟨by rfl, fun _ _ => rfl⟩) hHeld ?_
    try dsimp only
    try simp only [Act.put, List.getElem_toArray, List.getElem_cons_zero, List.getElem_cons_succ, List.setIfInBounds_toArray, List.set_cons_zero, List.set_cons_succ]
    refine wpAnyH_take (i := 7) (v := .string (strB l)) rfl (by kernel_rfl) (by kernel_rfl) (by kernel_rfl) (fun _ _ _ h => h) (yb_convK rfl (.tmp 22) rfl _ _ rfl (fun w hw => conv_by la ca (hBP.keep hw) hla.out)) hHeld ?_
    try dsimp only
    try simp only [Act.put, List.getElem_toArray, List.getElem_cons_zero, List.getElem_cons_succ, List.setIfInBounds_toArray, List.set_cons_zero, List.set_cons_succ]
    refine wpAnyH_ready (rs := [4]) (by kernel_rfl) (by simp) (AllReadyH.cons rfl (fun K hK => ?_) AllReadyH.nil)
    rw [if_pos (by rfl)]
    go_simp
    refine (layM_nil n hn8 G HWF _).mono ?_
    rintro e v1 ⟨A5, n5, c5, rfl, ho5, hb5⟩
    have HY := ho5.byAt
    have HN5 := Lib.hid ho5.len
    clear ho5
    refine hK.out _ _ hb5 (fun _ => ?_)
    clear hK K
    try dsimp only
    try simp only [Act.put, List.getElem_toArray, List.getElem_cons_zero, List.getElem_cons_succ, List.setIfInBounds_toArray, List.set_cons_zero, List.set_cons_succ]
    refine wpAnyH_moreK (S' := Below v1.heap.size v1) (fun w h => below_to hb5 h) ?_
    replace HB := below_to HB hb5
    clear hHeld
    have hHeld := Below.refl v1.heap.size v1
    refine wpAnyH_take (i := 5) (v := .string (strB l)) rfl (by kernel_rfl) (by kernel_rfl) (by kernel_rfl) (fun _ _ _ h => h) (yb_convK rfl (.tmp 20) rfl _ _ rfl (fun w hw => by have h := conv_by n5 c5 (HY.keep hw) HN5.out; rwa [← HML.out] at h)) hHeld ?_
    try dsimp only
    try simp only [Act.put, List.getElem_toArray, List.getElem_cons_zero, List.getElem_cons_succ, List.setIfInBounds_toArray, List.set_cons_zero, List.set_cons_succ]
    refine wpAnyH_take (i := 8) (v := .bool true) rfl (by kernel_rfl) (by kernel_rfl) (by kernel_rfl) (fun _ _ _ h => h) (Or.inl ⟨by rfl, fun w _ => by go_simp⟩) hHeld ?_
    try dsimp only
    try simp only [Act.put, List.getElem_toArray, List.getElem_cons_zero, List.getElem_cons_succ, List.setIfInBounds_toArray, List.set_cons_zero, List.set_cons_succ]
    refine wpAnyH_take (i := 9) (v := .bool true) rfl (by kernel_rfl) (by kernel_rfl) (by kernel_rfl) (fun _ _ _ h => h) (Or.inl ⟨by rfl, fun _ _ => rfl⟩) hHeld ?_
    try dsimp only
    try simp only [Act.put, List.getElem_toArray, List.getElem_cons_zero, List.getElem_cons_succ, List.setIfInBounds_toArray, List.set_cons_zero, List.set_cons_succ]
    refine wpAnyH_take (i := 10) (v := .bool true) rfl (by kernel_rfl) (by kernel_rfl) (by kernel_rfl) (fun _ _ _ h => h) (Or.inl ⟨by rfl, fun _ _ => rfl⟩) hHeld ?_
    try dsimp only
    try simp only [Act.put, List.getElem_toArray, List.getElem_cons_zero, List.getElem_cons_succ, List.setIfInBounds_toArray, List.set_cons_zero, List.set_cons_succ]
    refine wpAnyH_done (by kernel_rfl) ?_ _
    go_wp2
    go_ret
    exact ⟨rfl, HB⟩
theorem markReads_any (a : Option Addr) (l : List Nat) (la ca : Nat) (hla : Hid (la = l.length)) (hac : la ≤ ca) (hcm : ca ≤ maxLen) (W : World) (HA : Hid (ByAt W a l)) :
    Calls Try.prog 4 #[.slice a la ca] W fun e w' => e = .returned (.bool true) ∧ Below W.heap.size W w' := by
  by_cases hL : la ≤ 300
  · exact markReads_core a l la ca hla hac hcm hL W HA
  · exact markReads_long a la ca (by omega) (by unfold maxLen at hcm; omega) W
end Go.Proofs.Ytgoibcolehcgcaa
