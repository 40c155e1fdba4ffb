/-
  Layer segment: Range and Parts of a segment that has chunks.
-/
import Derived.Test.YtifabkbdiiolfaaGreatDoorYzbK
set_option linter.unusedSimpArgs false
set_option linter.unusedVariables false
set_option maxRecDepth 8000
namespace Go.Proofs.YtifabkbdiiolfaaGreatDoor
open Go.RowKit Go.WideShapes Col
/-- What a scan of an opened written segment answers. -/
theorem scan_any (bs ps : Nat) (M : List Ev) (h0 : 0 < M.length) (h9 : M.length ≤ 900) (hck : Hid (chkL (ps : Int) none M = 0)) (hfin : Hid (∀ x ∈ M, FineE x)) (hby : Hid (∀ x ∈ segB ps M, x < 256)) (hlen : (segB ps M).length ≤ 1000000)
  (fa fb : Nat) (fx fy : Int) (w : World) (HS : Hid (SegAt w bs (segB ps M) ps (segCk M) (segPg M).length)) (HG : Hid (HalvesAt w)) :
  Calls Tryz.prog 16 #[.pointer (some ⟨bs, 0, none⟩), .agg #[.int .u64 (fa : Int), .int .u64 (fb : Int), .int .i64 fx, .int .i64 fy]] w fun e w' => ∃ A m cap, e = .returned (.tuple #[.slice A m cap, .int .i64 (scN fa fb fx fy M (segN M) : Nat), .int .i64 0]) ∧ OwnE w' w.heap.size A m cap (scO fa fb fx fy M (segN M)) ∧ m ≤ cap ∧ cap ≤ maxLen ∧ Below w.heap.size w w' := by
 obtain ⟨A, n, c, A2, n2, c2, h1, h2, h3, h4, h5, h6⟩ := HS.out
 have hn2 : n2 = (segCk M).length := by have h := h6.1; rw [cks_length] at h; omega
 have hNN : 0 < segN M ∧ segN M ≤ 15 := by unfold segN; omega
 have hcl := segCk_len M
 have hCA := h6.at'
 obtain ⟨ck0, hck0⟩ : ∃ x, (segCk M)[0]? = some x := ⟨_, List.getElem?_eq_getElem (by omega)⟩
 obtain ⟨gc, oc, rfl, -, -⟩ := ckr hCA 0 ck0 hck0
 have e : segN M = n2 := by omega
 have hs := scan_core bs ps (segPg M).length gc oc n2 c2 (.slice A n c) (segCk M) (Lib.hid hn2) (Lib.hid (by omega)) (fun i => (pcs M i).map canE) (Lib.hid fun i => by
   rw [List.length_map, pcs_len (l := M) (j := i) h0]; exact (lnC_facts h0).2.1) (fun k => scO fa fb fx fy M k) (fun k => scN fa fb fx fy M k) (Lib.hid ⟨by simp [scO], by simp [scN]⟩) fa fb fx fy
  (Lib.hid fun k c hc hm => ⟨scO_skip hck.out hc hm, by rw [scN_succ _ _ _ _ hc, hm]; rfl⟩)
  (Lib.hid fun k c hc hm => ⟨scO_succ fa fb fx fy (wrS_get M (segN M) k c hc).1, by rw [scN_succ _ _ _ _ hc, hm]; rfl⟩)
  (Lib.hid fun k => Nat.le_trans (scO_len fa fb fx fy M k) h9) (Lib.hid fun k => scN_le fa fb fx fy M k) w (Lib.hid h1) (Lib.hid hCA)
  (Lib.hid fun i ck hc v hb => seg_rows bs ps M h0 h9 hck hfin hby hlen A n c gc oc n2 c2 h2 h4 h5 hn2 w HG (Lib.hid h3) (Lib.hid h1) (Lib.hid hCA) i ck hc v hb)
 rw [e]
 exact hs
theorem can_same {M : List Ev} (hv : ∀ x ∈ M, FineE x) : ∀ (k : Nat) (x y : Ev), (M.map canE)[k]? = some x → M[k]? = some y → sameB x y = true ∧ x.val < 18446744073709551616 ∧ y.val < 18446744073709551616 := fun k x y hx hy => by
 rw [List.getElem?_map, hy] at hx
 have hx : canE y = x := by simpa using hx
 subst hx
 have h := (hv y (List.mem_of_getElem? hy)).val
 exact ⟨by unfold sameB keqB canE; simp [Fl.canon_canon], Fl.canon_lt _ h, h⟩
end Go.Proofs.YtifabkbdiiolfaaGreatDoor

set_option linter.unusedSimpArgs false
set_option linter.unusedVariables false
set_option maxRecDepth 8000
namespace Go.Proofs.YtifabkbdiiolfaaGreatDoor
open Go.RowKit Go.WideShapes Col
theorem results_tmp2R {fn : Func} {t u : Tmp} (h : fn.results = #[.tmp t, .tmp u]) (tmps : Array Value) (P : Program) (w : World) :
  (results fn tmps).run P w = .ok (.tuple #[tmps.getD t undef, tmps.getD u undef]) w := by simp [results, h]
theorem parts_any (bs ps : Nat) (va vc : Value) (foot : Int) (w : World) (HSG : Hid (w.heap[bs]? = some (.cells #[va, .int .i64 (ps : Int), vc, .int .i64 foot] 90 (0, 0)))) :
  Calls Tryz.prog 20 #[.pointer (some ⟨bs, 0, none⟩)] w fun e w' => e = .returned (.int .i64 (ps : Int)) ∧ w = w' := by
 have c1 : w.cell? ⟨bs, 1, none⟩ = some (.int .i64 (ps : Int)) := by rw [cell_of_row _ _ _ _ _ _ HSG.out]; rfl
 go_enter Tryz.func20, Tryz.ntmps20
 go_wp2
 go_ret
 exact ⟨rfl, rfl⟩
set_option maxHeartbeats 2000000 in
theorem range_any (bs ps foot gc oc N c2 q y : Nat) (vb : Value) (CS : List Ck) (hN : N = q + 1) (hN15 : N ≤ 1000) (c0 cN : Ck) (h0 : CS[0]? = some c0) (hq : CS[q]? = some cN) (hy : y = cN.ob + 1) (hy4 : cN.ob < 1099511627776) (w : World)
  (HSG : Hid (w.heap[bs]? = some (.cells #[vb, .int .i64 (ps : Int), .slice (some ⟨gc, oc, none⟩) N c2, .int .i64 (foot : Int)] 90 (0, 0)))) (HCA : Hid (CkAt w (some ⟨gc, oc, none⟩) CS)) :
  Calls Tryz.prog 15 #[.pointer (some ⟨bs, 0, none⟩)] w fun e w' => e = .returned (.tuple #[.int .u64 (c0.oa : Int), .int .u64 (y : Int)]) ∧ Below w.heap.size w w' := by
 have HC0 : Hid (∀ v, Below w.heap.size w v → ∀ (k : Nat) (u : Value), c0.cells[k]? = some u → v.cell? ⟨gc, oc + k, none⟩ = some u) := Lib.hid fun v hb k u hu => by
  obtain ⟨g', o', e, h1, h2⟩ := ckr (HCA.out.keep hb) 0 c0 h0
  injection e with e; injection e with e1 e2; subst e1; subst e2
  have := h2 k u hu
  simpa using this
 have HCN : Hid (∀ v, Below w.heap.size w v → ∀ (k : Nat) (u : Value), cN.cells[k]? = some u → v.cell? ⟨gc, oc + q * 8 + k, none⟩ = some u) := Lib.hid fun v hb k u hu => by
  obtain ⟨g', o', e, h1, h2⟩ := ckr (HCA.out.keep hb) q cN hq
  injection e with e; injection e with e1 e2; subst e1; subst e2
  exact h2 k u hu
 have cb2 : w.cell? ⟨bs, 2, none⟩ = some (.slice (some ⟨gc, oc, none⟩) N c2) := by rw [cell_of_row _ _ _ _ _ _ HSG.out]; rfl
 have HQ : Hid ((N : Int) - 1 = (q : Int) ∧ IntKind.i64.wrap (q : Int) = (q : Int) ∧ (q : Int) < (N : Int) ∧ (0 : Int) < (N : Int)) := Lib.hid ⟨by omega, by rw [IntKind.wrap_i64]; omega, by omega, by omega⟩
 have HY : Hid (IntKind.u64.wrap ((cN.ob : Int) + 1) = (y : Int)) := Lib.hid (by rw [IntKind.wrap_u64]; omega)
 have hni : ((N : Int) == 0) = false := by rw [beq_eq_false_iff_ne]; omega
 clear hN hy h0 hq
 go_enter Tryz.func15, Tryz.ntmps15
 go_upto_region 3 with fail
 refine wp_region_held_drew (S := Below w.heap.size w) (by kernel_rfl) (Below.refl _ _).drew (fun hHeld => ?_)
 refine wpAnyH_take (i := 0) (v := .pointer (some ⟨bs, 0, none⟩)) rfl (by kernel_rfl) (by kernel_rfl) (by kernel_rfl) (fun _ _ _ h => h) (Or.inl ⟨by rfl, fun _ _ => rfl⟩) hHeld ?_
 try dsimp only
 try simp only [Act.put, List.getElem_toArray, List.getElem_cons_zero, List.getElem_cons_succ, List.setIfInBounds_toArray, List.set_cons_zero, List.set_cons_succ]
 refine wpAnyH_take (i := 1) (v := .pointer (some ⟨bs, 0, none⟩)) rfl (by kernel_rfl) (by kernel_rfl) (by kernel_rfl) (fun _ _ _ h => h) (Or.inl ⟨by rfl, fun w _ => by go_simp⟩) hHeld ?_
 try dsimp only
 try simp only [Act.put, List.getElem_toArray, List.getElem_cons_zero, List.getElem_cons_succ, List.setIfInBounds_toArray, List.set_cons_zero, List.set_cons_succ]
 refine wpAnyH_take (i := 2) (v := .pointer (some ⟨bs, 2, none⟩)) rfl (by kernel_rfl) (by kernel_rfl) (by kernel_rfl) (fun _ _ _ h => h) (Or.inl ⟨by rfl, fun w _ => by go_simp⟩) hHeld ?_
 try dsimp only
 try simp only [Act.put, List.getElem_toArray, List.getElem_cons_zero, List.getElem_cons_succ, List.setIfInBounds_toArray, List.set_cons_zero, List.set_cons_succ]
 refine wpAnyH_take (i := 3) (v := .slice (some ⟨gc, oc, none⟩) N c2) rfl (by kernel_rfl) (by kernel_rfl) (by kernel_rfl) (fun _ _ _ h => h) (ylS lv_cksS rfl (.tmp 16) rfl bs 2 rfl _ (fun w hw => by rw [cell_of_row _ _ _ _ _ _ (row_keepS HSG.out hw)]; rfl)) hHeld ?_
 try dsimp only
 try simp only [Act.put, List.getElem_toArray, List.getElem_cons_zero, List.getElem_cons_succ, List.setIfInBounds_toArray, List.set_cons_zero, List.set_cons_succ]
 refine wpAnyH_take (i := 4) (v := .pointer (some ⟨gc, oc, none⟩)) rfl (by kernel_rfl) (by kernel_rfl) (by kernel_rfl) (fun _ _ _ h => h) (Or.inl ⟨by rfl, fun w _ => by have h9 := HQ.out.2.2.2; first | (go_simp; done) | (go_simp; intro h; exfalso; omega)⟩) hHeld ?_
 try dsimp only
 try simp only [Act.put, List.getElem_toArray, List.getElem_cons_zero, List.getElem_cons_succ, List.setIfInBounds_toArray, List.set_cons_zero, List.set_cons_succ]
 refine wpAnyH_take (i := 5) (v := .pointer (some ⟨gc, oc + 2, none⟩)) rfl (by kernel_rfl) (by kernel_rfl) (by kernel_rfl) (fun _ _ _ h => h) (Or.inl ⟨by rfl, fun w _ => by go_simp⟩) hHeld ?_
 try dsimp only
 try simp only [Act.put, List.getElem_toArray, List.getElem_cons_zero, List.getElem_cons_succ, List.setIfInBounds_toArray, List.set_cons_zero, List.set_cons_succ]
 refine wpAnyH_take (i := 6) (v := .int .u64 (c0.oa : Int)) rfl (by kernel_rfl) (by kernel_rfl) (by kernel_rfl) (fun _ _ _ h => h) (ylS lv_u64S rfl (.tmp 19) rfl gc (oc + 2) rfl _ (fun w hw => HC0.out w hw 2 _ rfl)) hHeld ?_
 try dsimp only
 try simp only [Act.put, List.getElem_toArray, List.getElem_cons_zero, List.getElem_cons_succ, List.setIfInBounds_toArray, List.set_cons_zero, List.set_cons_succ]
 refine wpAnyH_take (i := 7) (v := .pointer (some ⟨bs, 0, none⟩)) rfl (by kernel_rfl) (by kernel_rfl) (by kernel_rfl) (fun _ _ _ h => h) (Or.inl ⟨by rfl, fun _ _ => rfl⟩) hHeld ?_
 try dsimp only
 try simp only [Act.put, List.getElem_toArray, List.getElem_cons_zero, List.getElem_cons_succ, List.setIfInBounds_toArray, List.set_cons_zero, List.set_cons_succ]
 refine wpAnyH_take (i := 8) (v := .pointer (some ⟨bs, 0, none⟩)) rfl (by kernel_rfl) (by kernel_rfl) (by kernel_rfl) (fun _ _ _ h => h) (Or.inl ⟨by rfl, fun w _ => by go_simp⟩) hHeld ?_
 try dsimp only
 try simp only [Act.put, List.getElem_toArray, List.getElem_cons_zero, List.getElem_cons_succ, List.setIfInBounds_toArray, List.set_cons_zero, List.set_cons_succ]
 refine wpAnyH_take (i := 9) (v := .pointer (some ⟨bs, 2, none⟩)) rfl (by kernel_rfl) (by kernel_rfl) (by kernel_rfl) (fun _ _ _ h => h) (Or.inl ⟨by rfl, fun w _ => by go_simp⟩) hHeld ?_
 try dsimp only
 try simp only [Act.put, List.getElem_toArray, List.getElem_cons_zero, List.getElem_cons_succ, List.setIfInBounds_toArray, List.set_cons_zero, List.set_cons_succ]
 refine wpAnyH_take (i := 10) (v := .slice (some ⟨gc, oc, none⟩) N c2) rfl (by kernel_rfl) (by kernel_rfl) (by kernel_rfl) (fun _ _ _ h => h) (ylS lv_cksS rfl (.tmp 23) rfl bs 2 rfl _ (fun w hw => by rw [cell_of_row _ _ _ _ _ _ (row_keepS HSG.out hw)]; rfl)) hHeld ?_
 try dsimp only
 try simp only [Act.put, List.getElem_toArray, List.getElem_cons_zero, List.getElem_cons_succ, List.setIfInBounds_toArray, List.set_cons_zero, List.set_cons_succ]
 refine wpAnyH_take (i := 11) (v := .pointer (some ⟨bs, 0, none⟩)) rfl (by kernel_rfl) (by kernel_rfl) (by kernel_rfl) (fun _ _ _ h => h) (Or.inl ⟨by rfl, fun _ _ => rfl⟩) hHeld ?_
 try dsimp only
 try simp only [Act.put, List.getElem_toArray, List.getElem_cons_zero, List.getElem_cons_succ, List.setIfInBounds_toArray, List.set_cons_zero, List.set_cons_succ]
 refine wpAnyH_take (i := 12) (v := .pointer (some ⟨bs, 0, none⟩)) rfl (by kernel_rfl) (by kernel_rfl) (by kernel_rfl) (fun _ _ _ h => h) (Or.inl ⟨by rfl, fun w _ => by go_simp⟩) hHeld ?_
 try dsimp only
 try simp only [Act.put, List.getElem_toArray, List.getElem_cons_zero, List.getElem_cons_succ, List.setIfInBounds_toArray, List.set_cons_zero, List.set_cons_succ]
 refine wpAnyH_take (i := 13) (v := .pointer (some ⟨bs, 2, none⟩)) rfl (by kernel_rfl) (by kernel_rfl) (by kernel_rfl) (fun _ _ _ h => h) (Or.inl ⟨by rfl, fun w _ => by go_simp⟩) hHeld ?_
 try dsimp only
 try simp only [Act.put, List.getElem_toArray, List.getElem_cons_zero, List.getElem_cons_succ, List.setIfInBounds_toArray, List.set_cons_zero, List.set_cons_succ]
 refine wpAnyH_take (i := 14) (v := .slice (some ⟨gc, oc, none⟩) N c2) rfl (by kernel_rfl) (by kernel_rfl) (by kernel_rfl) (fun _ _ _ h => h) (ylS lv_cksS rfl (.tmp 27) rfl bs 2 rfl _ (fun w hw => by rw [cell_of_row _ _ _ _ _ _ (row_keepS HSG.out hw)]; rfl)) hHeld ?_
 try dsimp only
 try simp only [Act.put, List.getElem_toArray, List.getElem_cons_zero, List.getElem_cons_succ, List.setIfInBounds_toArray, List.set_cons_zero, List.set_cons_succ]
 refine wpAnyH_take (i := 15) (v := .int .i64 (N : Int)) rfl (by kernel_rfl) (by kernel_rfl) (by kernel_rfl) (fun _ _ _ h => h) (Or.inl ⟨by rfl, fun w _ => by go_simp⟩) hHeld ?_
 try dsimp only
 try simp only [Act.put, List.getElem_toArray, List.getElem_cons_zero, List.getElem_cons_succ, List.setIfInBounds_toArray, List.set_cons_zero, List.set_cons_succ]
 refine wpAnyH_take (i := 16) (v := .int .i64 (q : Int)) rfl (by kernel_rfl) (by kernel_rfl) (by kernel_rfl) (fun _ _ _ h => h) (Or.inl ⟨by rfl, fun w _ => by have h9 := HQ.out.1; have h8 := HQ.out.2.1; go_simp⟩) hHeld ?_
 try dsimp only
 try simp only [Act.put, List.getElem_toArray, List.getElem_cons_zero, List.getElem_cons_succ, List.setIfInBounds_toArray, List.set_cons_zero, List.set_cons_succ]
 refine wpAnyH_take (i := 17) (v := .pointer (some ⟨gc, oc + q * 8, none⟩)) rfl (by kernel_rfl) (by kernel_rfl) (by kernel_rfl) (fun _ _ _ h => h) (Or.inl ⟨by rfl, fun w _ => by have h9 := HQ.out.2.2.1; go_simp⟩) hHeld ?_
 try dsimp only
 try simp only [Act.put, List.getElem_toArray, List.getElem_cons_zero, List.getElem_cons_succ, List.setIfInBounds_toArray, List.set_cons_zero, List.set_cons_succ]
 refine wpAnyH_take (i := 18) (v := .pointer (some ⟨gc, oc + q * 8 + 3, none⟩)) rfl (by kernel_rfl) (by kernel_rfl) (by kernel_rfl) (fun _ _ _ h => h) (Or.inl ⟨by rfl, fun w _ => by go_simp⟩) hHeld ?_
 try dsimp only
 try simp only [Act.put, List.getElem_toArray, List.getElem_cons_zero, List.getElem_cons_succ, List.setIfInBounds_toArray, List.set_cons_zero, List.set_cons_succ]
 refine wpAnyH_take (i := 19) (v := .int .u64 (cN.ob : Int)) rfl (by kernel_rfl) (by kernel_rfl) (by kernel_rfl) (fun _ _ _ h => h) (ylS lv_u64S rfl (.tmp 32) rfl gc (oc + q * 8 + 3) rfl _ (fun w hw => HCN.out w hw 3 _ rfl)) hHeld ?_
 try dsimp only
 try simp only [Act.put, List.getElem_toArray, List.getElem_cons_zero, List.getElem_cons_succ, List.setIfInBounds_toArray, List.set_cons_zero, List.set_cons_succ]
 refine wpAnyH_take (i := 20) (v := .int .u64 (y : Int)) rfl (by kernel_rfl) (by kernel_rfl) (by kernel_rfl) (fun _ _ _ h => h) (Or.inl ⟨by rfl, fun w _ => by have h9 := HY.out; go_simp⟩) hHeld ?_
 try dsimp only
 try simp only [Act.put, List.getElem_toArray, List.getElem_cons_zero, List.getElem_cons_succ, List.setIfInBounds_toArray, List.set_cons_zero, List.set_cons_succ]
 refine wpAnyH_take (i := 21) (v := .int .u64 (c0.oa : Int)) rfl (by kernel_rfl) (by kernel_rfl) (by kernel_rfl) (fun _ _ _ h => h) (Or.inl ⟨by rfl, fun _ _ => rfl⟩) hHeld ?_
 try dsimp only
 try simp only [Act.put, List.getElem_toArray, List.getElem_cons_zero, List.getElem_cons_succ, List.setIfInBounds_toArray, List.set_cons_zero, List.set_cons_succ]
 refine wpAnyH_take (i := 22) (v := .int .u64 (y : Int)) rfl (by kernel_rfl) (by kernel_rfl) (by kernel_rfl) (fun _ _ _ h => h) (Or.inl ⟨by rfl, fun _ _ => rfl⟩) hHeld ?_
 try dsimp only
 try simp only [Act.put, List.getElem_toArray, List.getElem_cons_zero, List.getElem_cons_succ, List.setIfInBounds_toArray, List.set_cons_zero, List.set_cons_succ]
 refine wpAnyH_done (by kernel_rfl) ?_ _
 clear hHeld
 go_wp2
 exact bodyPost_ret (results_tmp2R rfl _ _ _) rfl ⟨rfl, (Below.refl _ _).drew⟩
end Go.Proofs.YtifabkbdiiolfaaGreatDoor
