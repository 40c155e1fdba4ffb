/-
  Layer segment: event.Lay, of which all blocks but the list's own are kept.
-/
import Derived.Test.YtifabkbdiiolfaaDoorYlK
import Derived.Test.YtifabkbdiiolfaaDoorJaK
set_option linter.unusedSimpArgs false
set_option linter.unusedVariables false
set_option maxRecDepth 8000
namespace Go.Proofs.YtifabkbdiiolfaaDoor
open Go.RowKit Go.Sort Go.WideShapes Col
set_option maxHeartbeats 16000000 in
theorem evLayK_any (B : Nat) (A : Option Addr) (np cap0 : Nat) (q : List Nat) (b : Option Addr) (n c : Nat) (l : List Ev) (hn : Hid (n = l.length)) (hn6 : n ≤ 64) (hnp : np ≤ 900000) (hfin : Hid (∀ x ∈ l, FineE x)) (W : World) (HQ : Hid (OwnS W B A np cap0 q)) (HE : Hid (EvAt W b l)) (HG : Hid (HalvesAt W)) (hBw : B ≤ W.heap.size) (hGB : 0 < B) :
  Calls Tryd.prog 12 #[.slice A np cap0, .slice b n c] W (RetLK W B A (np + 5 + (evY l).length + 4) (q ++ Pg.lay 101 (evY l))) := by
 obtain ⟨iu, hiu, iuz0, iuz1, iuz2⟩ := info_parts infoI64'
 obtain ⟨js, hjs, jsz0, jsz1, jsz2⟩ := info_parts infoStr
 obtain ⟨jf, hjf, jfz0, jfz1, jfz2⟩ := info_parts infoF64
 have iub : iu.bytes * n ≤ 281474976710656 := by rw [iuz2]; omega
 have jsb : js.bytes * n ≤ 281474976710656 := by rw [jsz2]; omega
 have jfb : jf.bytes * n ≤ 281474976710656 := by rw [jfz2]; omega
 have hnm : n ≤ maxLen := by unfold maxLen; omega
 go_enter Tryd.func12, Tryd.ntmps12
 go_wp2_with (first
  | (refine wpList_make_full _ rfl (.tmp 14) (.tmp 14) 68 rfl W.heap.size 2 iu (.int .i64 0) 1 Tryd.underlying68 hiu iuz0 iuz1 .i64 .i64 _ _ n rfl rfl rfl rfl iub hnm (Nat.le_refl _) ?_; intro w1 own hgr; have HR1 := Lib.hid (rowI_zeros own); have HG1 : Hid (Below W.heap.size W w1) := Lib.hid ((Below.refl _ W).grown hgr (Nat.le_refl _) (by intro k hk; cases hk)); clear own hgr)
  | (refine wpList_make_full _ rfl (.tmp 17) (.tmp 17) 68 rfl w1.heap.size 2 iu (.int .i64 0) 1 Tryd.underlying68 hiu iuz0 iuz1 .i64 .i64 _ _ n rfl rfl rfl rfl iub hnm (Nat.le_refl _) ?_; intro w2 own hgr; have HR2 := Lib.hid (rowI_zeros own); have HG2 : Hid (Below w1.heap.size w1 w2) := Lib.hid ((Below.refl _ w1).grown hgr (Nat.le_refl _) (by intro k hk; cases hk)); clear own hgr)
  | (refine wpList_make_full _ rfl (.tmp 20) (.tmp 20) 68 rfl w2.heap.size 2 iu (.int .i64 0) 1 Tryd.underlying68 hiu iuz0 iuz1 .i64 .i64 _ _ n rfl rfl rfl rfl iub hnm (Nat.le_refl _) ?_; intro w3 own hgr; have HR3 := Lib.hid (rowI_zeros own); have HG3 : Hid (Below w2.heap.size w2 w3) := Lib.hid ((Below.refl _ w2).grown hgr (Nat.le_refl _) (by intro k hk; cases hk)); clear own hgr)
  | (refine wpList_make_full _ rfl (.tmp 23) (.tmp 23) 69 rfl w3.heap.size 9 js (.string { data := #[] }) 1 Tryd.underlying69 hjs jsz0 jsz1 .i64 .i64 _ _ n rfl rfl rfl rfl jsb hnm (Nat.le_refl _) ?_; intro w4 own hgr; have HR4 := Lib.hid (rowT_zeros own); have HG4 : Hid (Below w3.heap.size w3 w4) := Lib.hid ((Below.refl _ w3).grown hgr (Nat.le_refl _) (by intro k hk; cases hk)); clear own hgr)
  | (refine wpList_make_full _ rfl (.tmp 26) (.tmp 26) 70 rfl w4.heap.size 32 jf (.float .f64 0) 1 Tryd.underlying70 hjf jfz0 jfz1 .i64 .i64 _ _ n rfl rfl rfl rfl jfb hnm (Nat.le_refl _) ?_; intro w5 own hgr; have HR5 := Lib.hid (rowF_zeros own); have HG5 : Hid (Below w4.heap.size w4 w5) := Lib.hid ((Below.refl _ w4).grown hgr (Nat.le_refl _) (by intro k hk; cases hk)); clear own hgr))
 have HL : Hid (EvL W W.heap.size w1.heap.size w2.heap.size w3.heap.size w4.heap.size (List.replicate n 0) (List.replicate n 0) (List.replicate n 0) (List.replicate n []) (List.replicate n 0) w5) := Lib.hid (by
  have k (u v : World) (h : Below u.heap.size u v) : Kept (fun _ => False) u v := Kept.of_below h
  have l1 := (Array.getElem?_eq_some_iff.1 HR1.out).1
  have l2 := (Array.getElem?_eq_some_iff.1 HR2.out).1
  have l3 := (Array.getElem?_eq_some_iff.1 HR3.out).1
  have l4 := (Array.getElem?_eq_some_iff.1 HR4.out).1
  have l5 := (Array.getElem?_eq_some_iff.1 HR5.out).1
  have b15 := below_to (below_to (below_to HG2.out HG3.out) HG4.out) HG5.out
  have b25 := below_to (below_to HG3.out HG4.out) HG5.out
  have b35 := below_to HG4.out HG5.out
  exact ⟨HR1.out.keep (k _ _ b15) (fun h => h), HR2.out.keep (k _ _ b25) (fun h => h), HR3.out.keep (k _ _ b35) (fun h => h), HR4.out.keep (k _ _ HG5.out) (fun h => h), HR5.out, ⟨Nat.le_refl _, l1, l2, l3, l4, l5⟩, below_to HG1.out b15⟩)
 generalize w1.heap.size = L2 at *
 generalize w2.heap.size = L3 at *
 generalize w3.heap.size = L4 at *
 generalize w4.heap.size = L5 at *
 obtain ⟨L1, hL1⟩ : ∃ L1, L1 = W.heap.size := ⟨_, rfl⟩
 rw [← hL1] at HL ⊢
 clear HR1 HR2 HR3 HR4 HR5 HG1 HG2 HG3 HG4 HG5 hL1
 go_loopw [30] (fun v wr => ∃ k : Nat, k ≤ n ∧ v = .int .i64 (k : Int) ∧ EvL W L1 L2 L3 L4 L5 ((l.map oI).take k ++ List.replicate (n - k) 0) ((l.map Ev.part).take k ++ List.replicate (n - k) 0) ((l.map Ev.time).take k ++ List.replicate (n - k) 0) ((l.map kL).take k ++ List.replicate (n - k) []) ((l.map Ev.val).take k ++ List.replicate (n - k) 0) wr) (fun v _ => n - (intOf v).toNat)
 case atStart => exact ⟨0, Nat.zero_le _, rfl, by simpa using HL.out⟩
 case round =>
  obtain ⟨k, hk, rfl, hl⟩ := hrel
  have HK := Lib.hid hl
  clear hl HL
  by_cases hlt : k < n
  ·have hki : (k : Int) < (n : Int) := by omega
   obtain ⟨x, hx⟩ : ∃ x, l[k]? = some x := ⟨_, List.getElem?_eq_getElem (by have := hn.out; omega)⟩
   have HF := Lib.hid (hfin.out x (List.mem_of_getElem? hx))
   obtain ⟨g, off, rfl, hg, hr⟩ := evrB (HE.out.keep HK.out.below) k x hx
   have HR := Lib.hid hr
   have S1 := Lib.hid (map_snoc oI l k x hx)
   have T1 := Lib.hid (fill_set ((l.map oI).take k) n k (by rw [List.length_take, List.length_map]; have := hn.out; omega) hlt (oI x))
   have S2 := Lib.hid (map_snoc Ev.part l k x hx)
   have T2 := Lib.hid (fill_set ((l.map Ev.part).take k) n k (by rw [List.length_take, List.length_map]; have := hn.out; omega) hlt (x.part))
   have S3 := Lib.hid (map_snoc Ev.time l k x hx)
   have T3 := Lib.hid (fill_set ((l.map Ev.time).take k) n k (by rw [List.length_take, List.length_map]; have := hn.out; omega) hlt (x.time))
   have S4 := Lib.hid (map_snoc kL l k x hx)
   have T4 := Lib.hid (fill_setT ((l.map kL).take k) n k (by rw [List.length_take, List.length_map]; have := hn.out; omega) hlt (kL x))
   have S5 := Lib.hid (map_snoc Ev.val l k x hx)
   have T5 := Lib.hid (fill_setN ((l.map Ev.val).take k) n k (by rw [List.length_take, List.length_map]; have := hn.out; omega) hlt (x.val))
   have hlen : ∀ (f : Ev → Int), k < ((l.map f).take k ++ List.replicate (n - k) 0).length := fun f => by rw [List.length_append, List.length_replicate, List.length_take, List.length_map]; have := hn.out; omega
   have hlenT : k < ((l.map kL).take k ++ List.replicate (n - k) []).length := by rw [List.length_append, List.length_replicate, List.length_take, List.length_map]; have := hn.out; omega
   have hlenF : k < ((l.map Ev.val).take k ++ List.replicate (n - k) 0).length := by rw [List.length_append, List.length_replicate, List.length_take, List.length_map]; have := hn.out; omega
   have HLI := Lib.hid hlen; have HLT := Lib.hid hlenT; have HLF := Lib.hid hlenF
   have how : IntKind.i64.wrap (x.off : Int) = oI x := by rw [IntKind.wrap_i64]; have := HF.out.off; unfold oI; omega
   clear hx hr hlen hlenT hlenF
   go_upto_region 9 with (first
    | (refine wpList_load_mid rfl 34 (.tmp 33) rfl g (off + k * 5) rfl x.cells _ HR.out uEvB rfl (iEvB x) ?_)
    | (refine wpList_store_row rfl 34 (.tmp 11) (.tmp 34) rfl wr.heap.size x.cells.toArray rfl rfl _ _ (heap_alloc_new' _ _) (by rw [List.size_toArray]; exact iEvB x) (sizeEvB x) (oneEvB x) ?_; rw [World.setRow_alloc_new]))
   have HEV := Lib.hid (heap_alloc_new' wr (.cells x.cells.toArray 34))
   have HB0 := Lib.hid ((Below.refl wr.heap.size wr).alloc (Nat.le_refl _) (.cells x.cells.toArray 34))
   have HK0 := Lib.hid (HK.out.keep HB0.out)
   have HE5 : Hid (L5 < wr.heap.size) := Lib.hid HK.out.lt.2.2.2.2.2
   obtain ⟨bE, hbE⟩ : ∃ bE, bE = wr.heap.size := ⟨_, rfl⟩
   rw [← hbE] at HEV HE5 ⊢
   generalize wr.alloc _ = x0 at *
   clear HB0 HR hbE
   have f := HK0.out.r1.fr k
   obtain ⟨u, cu⟩ := HK0.out.r1.at k (HLI.out oI)
   have ce := EvRow.c HEV.out 0 (.int .u64 (x.off : Int)) rfl
   go_upto_region 10 with fail
   have HK1 := Lib.hid (HK0.out.set1 k (oI x))
   have HEV2 := Lib.hid ((kept_cellB x0 L1 k (.int .i64 (oI x))).heap HEV.out (fun h => by have := HK0.out.lt; have := HE5.out; omega))
   clear HEV f cu ce HK0
   generalize x0.setCell _ _ = x1 at *
   have HEV := HEV2
   clear HEV2
   have f := HK1.out.r2.fr k
   obtain ⟨u, cu⟩ := HK1.out.r2.at k (HLI.out Ev.part)
   have ce := EvRow.c HEV.out 1 (.int .i64 x.part) rfl
   go_upto_region 11 with fail
   have HK2 := Lib.hid (HK1.out.set2 k (x.part))
   have HEV2 := Lib.hid ((kept_cellB x1 L2 k (.int .i64 x.part)).heap HEV.out (fun h => by have := HK1.out.lt; have := HE5.out; omega))
   clear HEV f cu ce HK1
   generalize x1.setCell _ _ = x2 at *
   have HEV := HEV2
   clear HEV2
   have f := HK2.out.r3.fr k
   obtain ⟨u, cu⟩ := HK2.out.r3.at k (HLI.out Ev.time)
   have ce := EvRow.c HEV.out 2 (.int .i64 x.time) rfl
   go_upto_region 12 with fail
   have HK3 := Lib.hid (HK2.out.set3 k (x.time))
   have HEV2 := Lib.hid ((kept_cellB x2 L3 k (.int .i64 x.time)).heap HEV.out (fun h => by have := HK2.out.lt; have := HE5.out; omega))
   clear HEV f cu ce HK2
   generalize x2.setCell _ _ = x3 at *
   have HEV := HEV2
   clear HEV2
   have f := HK3.out.r4.fr k
   obtain ⟨u, cu⟩ := HK3.out.r4.at k HLT.out
   have ce := EvRow.c HEV.out 3 (.string x.key) rfl
   go_upto_region 13 with fail
   have h4 := HK3.out.set4 k (kL x)
   rw [kL_strB] at h4
   have HK4 := Lib.hid h4
   clear h4
   have HEV2 := Lib.hid ((kept_cellB x3 L4 k (.string x.key)).heap HEV.out (fun h => by have := HK3.out.lt; have := HE5.out; omega))
   clear HEV f cu ce HK3
   generalize x3.setCell _ _ = x4 at *
   have HEV := HEV2
   clear HEV2
   have f := HK4.out.r5.fr k
   obtain ⟨u, cu⟩ := HK4.out.r5.at k HLF.out
   have ce := EvRow.c HEV.out 4 (.float .f64 x.val) rfl
   have hst := run_store_flC x4 ⟨L5, k, none⟩ x.val u cu f
   go_wp2_with fail
   go_roundw
   case rel =>
    refine ⟨k + 1, by omega, by go_num, ?_⟩
    rw [S1.out, S2.out, S3.out, S4.out, S5.out, ← T1.out, ← T2.out, ← T3.out, ← T4.out, ← T5.out]
    exact HK4.out.set5 k x.val
   case measure => simp [intOf]; omega
  ·obtain rfl : k = n := by omega
   have hki : ¬ (k : Int) < (k : Int) := by omega
   have hln : ∀ (f : Ev → Int), (l.map f).take k ++ List.replicate (k - k) 0 = l.map f := fun f => by
    rw [Nat.sub_self, List.replicate_zero, List.append_nil, List.take_of_length_le (by rw [List.length_map]; have := hn.out; omega)]
   have hlT : (l.map kL).take k ++ List.replicate (k - k) [] = l.map kL := by
    rw [Nat.sub_self, List.replicate_zero, List.append_nil, List.take_of_length_le (by rw [List.length_map]; have := hn.out; omega)]
   have hlF : (l.map Ev.val).take k ++ List.replicate (k - k) 0 = l.map Ev.val := by
    rw [Nat.sub_self, List.replicate_zero, List.append_nil, List.take_of_length_le (by rw [List.length_map]; have := hn.out; omega)]
   rw [hln oI, hln Ev.part, hln Ev.time, hlT, hlF] at HK
   have HI1 := Lib.hid (ints_row wr L1 k (l.map oI) (by rw [List.length_map]; exact hn.out) hn6 (oI_wf hfin.out) HK.out.r1)
   have HI2 := Lib.hid (ints_row wr L2 k (l.map Ev.part) (by rw [List.length_map]; exact hn.out) hn6 (part_wf hfin.out) HK.out.r2)
   have HI3 := Lib.hid (ints_row wr L3 k (l.map Ev.time) (by rw [List.length_map]; exact hn.out) hn6 (time_wf hfin.out) HK.out.r3)
   have HKW : Hid (∀ y ∈ l.map kL, WfT y ∧ y.length ≤ 32) := Lib.hid (kL_all hfin.out)
   have HI4 : Hid (∀ w', Below wr.heap.size wr w' → Calls Tryd.prog 33 #[.slice (some ⟨L4, 0, none⟩) k k] w' (Puts w'.heap.size w' (textsL (l.map kL)))) := Lib.hid fun w' hb => textsC_any (some ⟨L4, 0, none⟩) k k (l.map kL) (Lib.hid (by rw [List.length_map]; exact hn.out)) (by omega) (Lib.hid fun y hy => Nat.le_trans (HKW.out y hy).2 (by decide)) w' (Lib.hid ((TxAt.of_row _ (fun y hy => (HKW.out y hy).1) HK.out.r4 ⟨[], by simp⟩).keep hb))
   have HI5 : Hid (∀ w', Below wr.heap.size wr w' → Calls Tryd.prog 34 #[.slice (some ⟨L5, 0, none⟩) k k] w' (Puts w'.heap.size w' (intsL ((l.map Ev.val).map rwI)))) := Lib.hid fun w' hb => reals_any (some ⟨L5, 0, none⟩) k k (l.map Ev.val) (Lib.hid (by rw [List.length_map]; exact hn.out)) (by omega) w' (Lib.hid ((HK.out.r5.isAt (val_lt hfin.out)).keep hb))
   have z1 := ints_60 (l.map oI) (oI_wf hfin.out) (by rw [List.length_map]; have := hn.out; omega)
   have z2 := ints_60 (l.map Ev.part) (part_wf hfin.out) (by rw [List.length_map]; have := hn.out; omega)
   have z3 := ints_60 (l.map Ev.time) (time_wf hfin.out) (by rw [List.length_map]; have := hn.out; omega)
   have z4 := texts_60 (l.map kL) (fun y hy => (HKW.out y hy).1) (fun y hy => (HKW.out y hy).2) (by rw [List.length_map]; have := hn.out; omega)
   have z5 := ints_60 ((l.map Ev.val).map rwI) (fun y hy => by obtain ⟨u, -, rfl⟩ := List.mem_map.1 hy; exact rwI_wf u) (by rw [List.length_map, List.length_map]; have := hn.out; omega)
   have HEV : Hid (evY l = (((txL (intsL (l.map oI)) ++ txL (intsL (l.map Ev.part))) ++ txL (intsL (l.map Ev.time))) ++ txL (textsL (l.map kL))) ++ txL (intsL ((l.map Ev.val).map rwI))) := Lib.hid rfl
   have HWW := Lib.hid HK.out.below
   generalize intsL (l.map oI) = D1 at *
   generalize intsL (l.map Ev.part) = D2 at *
   generalize intsL (l.map Ev.time) = D3 at *
   generalize textsL (l.map kL) = D4 at *
   generalize intsL ((l.map Ev.val).map rwI) = D5 at *
   have Z1 := Lib.hid (txL_le D1 1303 (by omega) z1); have Z2 := Lib.hid (txL_le D2 1303 (by omega) z2); have Z3 := Lib.hid (txL_le D3 1303 (by omega) z3); have Z4 := Lib.hid (txL_le D4 4010 (by omega) z4); have Z5 := Lib.hid (txL_le D5 1303 (by omega) z5)
   have Y1 := Lib.hid z1; have Y2 := Lib.hid z2; have Y3 := Lib.hid z3; have Y4 := Lib.hid z4; have Y5 := Lib.hid z5
   clear hln hlT hlF HKW z1 z2 z3 z4 z5
   go_wp2_with (first
    | (go_at_call 32; (with_reducible refine (HI1.out wr (Below.refl _ _)).mono ?_); rintro e v1 ⟨A1, n1, c1, rfl, h1, h2, h3⟩; have B1 : Hid (Below wr.heap.size wr v1) := Lib.hid (below_to (Below.refl _ _) h2); have hcv := conv_by n1 c1 h1.byAt h1.len; have W1 : Hid (WfT D1) := Lib.hid h1.byAt.lt; have hbz : v1.heap.size ≤ v1.heap.size := Nat.le_refl _; clear h1 h2 h3)
    | (go_at_call 31; (with_reducible refine (putT_any v1.heap.size none 0 0 [] D1 W1.out (by have := Y1.out; omega) v1 (Lib.hid (OwnS.nil _ _)) (by omega) hbz).mono ?_); rintro e v2 ⟨A2, n2, c2, rfl, h1, h2, h3⟩; rw [List.nil_append] at h1; have P2 := Lib.hid h1; have hn2 : n2 ≤ 1313 := (by have := h1.len; have := Z1.out; omega); have B2 : Hid (Below wr.heap.size wr v2) := Lib.hid (below_to B1.out h2); have hbz : v1.heap.size ≤ v2.heap.size := Nat.le_trans hbz h3; clear h1 h2 h3 hcv)
    | (go_at_call 32; (with_reducible refine (HI2.out v2 B2.out).mono ?_); rintro e v3 ⟨A3, n3, c3, rfl, h1, h2, h3⟩; have B3 : Hid (Below wr.heap.size wr v3) := Lib.hid (below_to B2.out h2); have hcv := conv_by n3 c3 h1.byAt h1.len; have W2 : Hid (WfT D2) := Lib.hid h1.byAt.lt; have P3 := Lib.hid (P2.out.keep h2); have hbz : v1.heap.size ≤ v3.heap.size := Nat.le_trans hbz h3; clear h1 h2 h3)
    | (go_at_call 31; (with_reducible refine (putT_any v1.heap.size A2 n2 c2 (txL D1) D2 W2.out (by have := Y2.out; omega) v3 P3 (by omega) hbz).mono ?_); rintro e v4 ⟨A4, n4, c4, rfl, h1, h2, h3⟩; have P4 := Lib.hid h1; have hn4 : n4 ≤ 2626 := (by have e1 := h1.len; have e2 := P3.out.len; rw [List.length_append] at e1; have := Z2.out; omega); have B4 : Hid (Below wr.heap.size wr v4) := Lib.hid (B3.out.trans (h2.mono (Nat.le_trans B1.out.size (Nat.le_refl _)))); have hbz : v1.heap.size ≤ v4.heap.size := Nat.le_trans hbz h3; clear h1 h2 h3 hcv)
    | (go_at_call 32; (with_reducible refine (HI3.out v4 B4.out).mono ?_); rintro e v5 ⟨A5, n5, c5, rfl, h1, h2, h3⟩; have B5 : Hid (Below wr.heap.size wr v5) := Lib.hid (below_to B4.out h2); have hcv := conv_by n5 c5 h1.byAt h1.len; have W3 : Hid (WfT D3) := Lib.hid h1.byAt.lt; have P5 := Lib.hid (P4.out.keep h2); have hbz : v1.heap.size ≤ v5.heap.size := Nat.le_trans hbz h3; clear h1 h2 h3)
    | (go_at_call 31; (with_reducible refine (putT_any v1.heap.size A4 n4 c4 (txL D1 ++ txL D2) D3 W3.out (by have := Y3.out; omega) v5 P5 (by omega) hbz).mono ?_); rintro e v6 ⟨A6, n6, c6, rfl, h1, h2, h3⟩; have P6 := Lib.hid h1; have hn6 : n6 ≤ 3939 := (by have e1 := h1.len; have e2 := P5.out.len; rw [List.length_append] at e1; have := Z3.out; omega); have B6 : Hid (Below wr.heap.size wr v6) := Lib.hid (B5.out.trans (h2.mono (Nat.le_trans B1.out.size (Nat.le_refl _)))); have hbz : v1.heap.size ≤ v6.heap.size := Nat.le_trans hbz h3; clear h1 h2 h3 hcv)
    | (go_at_call 33; (with_reducible refine (HI4.out v6 B6.out).mono ?_); rintro e v7 ⟨A7, n7, c7, rfl, h1, h2, h3⟩; have B7 : Hid (Below wr.heap.size wr v7) := Lib.hid (below_to B6.out h2); have hcv := conv_by n7 c7 h1.byAt h1.len; have W4 : Hid (WfT D4) := Lib.hid h1.byAt.lt; have P7 := Lib.hid (P6.out.keep h2); have hbz : v1.heap.size ≤ v7.heap.size := Nat.le_trans hbz h3; clear h1 h2 h3)
    | (go_at_call 31; (with_reducible refine (putT_any v1.heap.size A6 n6 c6 ((txL D1 ++ txL D2) ++ txL D3) D4 W4.out (by have := Y4.out; omega) v7 P7 (by omega) hbz).mono ?_); rintro e v8 ⟨A8, n8, c8, rfl, h1, h2, h3⟩; have P8 := Lib.hid h1; have hn8 : n8 ≤ 7959 := (by have e1 := h1.len; have e2 := P7.out.len; rw [List.length_append] at e1; have := Z4.out; omega); have B8 : Hid (Below wr.heap.size wr v8) := Lib.hid (B7.out.trans (h2.mono (Nat.le_trans B1.out.size (Nat.le_refl _)))); have hbz : v1.heap.size ≤ v8.heap.size := Nat.le_trans hbz h3; clear h1 h2 h3 hcv)
    | (go_at_call 34; (with_reducible refine (HI5.out v8 B8.out).mono ?_); rintro e v9 ⟨A9, n9, c9, rfl, h1, h2, h3⟩; have B9 : Hid (Below wr.heap.size wr v9) := Lib.hid (below_to B8.out h2); have hcv := conv_by n9 c9 h1.byAt h1.len; have W5 : Hid (WfT D5) := Lib.hid h1.byAt.lt; have P9 := Lib.hid (P8.out.keep h2); have hbz : v1.heap.size ≤ v9.heap.size := Nat.le_trans hbz h3; clear h1 h2 h3)
    | (go_at_call 31; (with_reducible refine (putT_any v1.heap.size A8 n8 c8 (((txL D1 ++ txL D2) ++ txL D3) ++ txL D4) D5 W5.out (by have := Y5.out; omega) v9 P9 (by omega) hbz).mono ?_); rintro e v10 ⟨A10, n10, c10, rfl, h1, h2, h3⟩; have P10 := Lib.hid h1; have hn10 : n10 ≤ 9272 := (by have e1 := h1.len; have e2 := P9.out.len; rw [List.length_append] at e1; have := Z5.out; omega); have B10 : Hid (Below wr.heap.size wr v10) := Lib.hid (B9.out.trans (h2.mono (Nat.le_trans B1.out.size (Nat.le_refl _)))); have hbz : v1.heap.size ≤ v10.heap.size := Nat.le_trans hbz h3; clear h1 h2 h3 hcv)
    | (go_at_call 13; have hly := (layK_any A np cap0 q 101 A10 n10 c10 ((((txL D1 ++ txL D2) ++ txL D3) ++ txL D4) ++ txL D5) B v10 (Lib.hid (HQ.out.keep (below_to HWW.out B10.out))) (Lib.hid P10.out.len) (by omega) (by decide) (Lib.hid P10.out.byAt) (Lib.hid (halves_keep hGB hBw HG.out (below_to HWW.out B10.out))) (Nat.le_trans hBw (Nat.le_trans HWW.out.size B10.out.size)) hGB); rw [show ((101 : Nat) : Int) = 101 from rfl] at hly; (with_reducible refine hly.mono ?_); rintro e vz ⟨Az, cz, rfl, ho, hb, hmi⟩; have HOz := Lib.hid ho; have HBz := Lib.hid hb; have HMz := Lib.hid hmi; clear ho hb hmi))
   go_ret
   have hz := HOz.out
   rw [← HEV.out, show n10 = (evY l).length by rw [HEV.out]; exact P10.out.len] at hz
   exact ⟨Az, cz, by rw [← show n10 = (evY l).length by rw [HEV.out]; exact P10.out.len]; rfl, hz, (Kept.of_below (below_to HWW.out B10.out)).trans HBz.out, fun k hk => (HMz.out k hk).imp id (fun h => Nat.le_trans (below_to HWW.out B10.out).size h)⟩
end Go.Proofs.YtifabkbdiiolfaaDoor
