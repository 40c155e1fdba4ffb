/-
  Layer whole: WholePanes.
-/
import Derived.Test.YtbimfopbilcdgaaZqmR
import Derived.Test.YtbimfopbilcdgaaZtR
import Derived.Test.YtbimfopbilcdgaaZmaR
set_option linter.unusedSimpArgs false
set_option linter.unusedVariables false
set_option maxRecDepth 8000
namespace Go.Proofs.Ytbimfopbilcdgaa
open Go.RowKit Go.Sort Sm

theorem ses_there {c : Cf} (h : c.Ok) (l : List Ev) (hk : c.kind = 2) : ∀ x ∈ l, SesP c.size l x (wS c.size l x) := fun x hx => by
  obtain ⟨g, hg, e1, e2, e3⟩ := ses_cover h hk l x hx
  exact (wS_is h.size1 (p := g.p) ⟨tight_grps h hk l g hg, shut_grps h hk l g hg, e1, e2, e3⟩).1
/-- The document's panes of events are told alike the program's. -/
theorem doc_is {c : Cf} (h : c.Ok) {l : List Ev} (hl : EvFit l) {ps : List Pz} (hd : DocP (addA (dIts c l l)) ps) : Alk (panesL c l) ps := by
  refine doc_alike h hl (ses_there h l) hd (fun y hy v hv => ?_)
  obtain ⟨e1, e2⟩ := doc_groups h l (ses_there h l)
  obtain ⟨g, hg, eg⟩ := map_mem e1.symm y hy
  have hp := e2 g hg y hy eg
  exact ((grps_ok h hl).ok g hg).1 v (hp.mem_iff.2 hv)
set_option maxHeartbeats 8000000 in
theorem panesW_any (x : Cn) (hx : x.Ok) (a : Option Addr) (n cp : Nat) (ps : List Pt) (hn : n = ps.length) (hp : ∀ p ∈ ps, p.Ok) (W : World) (HA : Hid (PtAt W a ps)) :
    Calls Try.prog 4 #[x.v, .slice a n cp] W fun e w' => e = .returned (.bool true) ∧ Below W.heap.size W w' := by
  have HN := Lib.hid hn
  have HP := Lib.hid hp
  clear hn hp
  have HAWK := Lib.hid awake13_any
  have HCF := Lib.hid (config_cn x hx)
  have HWX : Hid (Below W.heap.size W (W.alloc (.cells #[.int .u8 x.a, .int .u8 x.b, .int .u8 x.c, .int .u8 x.d, .int .u8 x.e, .int .u8 x.f, .int .u8 x.g] 60))) := Lib.hid ((Below.refl _ _).alloc (Nat.le_refl _) _)
  have HRX : Hid ((W.alloc (.cells #[.int .u8 x.a, .int .u8 x.b, .int .u8 x.c, .int .u8 x.d, .int .u8 x.e, .int .u8 x.f, .int .u8 x.g] 60)).heap[W.heap.size]? = some (.cells #[.int .u8 x.a, .int .u8 x.b, .int .u8 x.c, .int .u8 x.d, .int .u8 x.e, .int .u8 x.f, .int .u8 x.g] 60 (0, 0))) := Lib.hid (heap_new W _)
  clear hx
  go_enter Try.func4, Try.ntmps4
  go_upto_region 4 with (first
    | (go_at_call 37; (with_reducible refine (HAWK.out _).mono ?_); rintro e w1 ⟨rfl, hb1⟩; have HB1 := Lib.hid (HWX.out.trans (hb1.mono HWX.out.size)); have HR1 := Lib.hid (row_keep HRX.out hb1); clear hb1)
    | (refine wpList_load_row rfl 60 (.tmp 2) rfl W.heap.size rfl _ #[.int .u8 x.a, .int .u8 x.b, .int .u8 x.c, .int .u8 x.d, .int .u8 x.e, .int .u8 x.f, .int .u8 x.g] (0, 0) _ HR1.out uCn rfl (by kernel_rfl) ?_)
    | (go_at_call 38; (with_reducible refine (HCF.out _).mono ?_); rintro e w2 ⟨c, hc, hc30, hc3, rfl, hb2⟩; have HC := Lib.hid hc; have HC30 := Lib.hid (And.intro hc30 hc3); have HB2 := Lib.hid (bto HB1.out hb2); clear hc hc30 hc3 hb2))
  have HLG : Hid (∀ w, Below W.heap.size W w → Calls Try.prog 39 #[c.v, .slice a n cp, .int .i64 30] w (LgEnds w (lgL c ps (min n 30)))) := Lib.hid fun w hb => log_any c HC.out a n cp ps HP.out 30 HN.out (by omega) w (Lib.hid (HA.out.keep hb))
  have HFT : Hid (EvFit (lgL c ps (min n 30))) := Lib.hid (lgL_fit c ps HP.out _ (by have := HN.out; omega) (by omega))
  generalize lgL c ps (min n 30) = l at *
  obtain ⟨w3, hw3⟩ : ∃ w3, w3 = w2.alloc (.cells #[.int .u8 (c.kind : Int), .int .i64 c.size, .int .i64 c.step, .int .i64 c.late, .int .i64 c.skew, .int .i64 c.parts, .int .u64 (c.cut : Int)] 64) := ⟨_, rfl⟩
  rw [← hw3]
  have HB3 : Hid (Below W.heap.size W w3) := Lib.hid (by rw [hw3]; exact HB2.out.alloc HB2.out.size _)
  obtain ⟨bc, hbc⟩ : ∃ bc, bc = w2.heap.size := ⟨_, rfl⟩
  have HRC : Hid (w3.heap[bc]? = some (.cells #[.int .u8 (c.kind : Int), .int .i64 c.size, .int .i64 c.step, .int .i64 c.late, .int .i64 c.skew, .int .i64 c.parts, .int .u64 (c.cut : Int)] 64 (0, 0))) := Lib.hid (by rw [hw3, hbc]; exact heap_new w2 _)
  rw [← hbc]
  clear hw3 hbc
  go_upto_region 5 with (first
    | (refine wpList_load_row rfl 64 (.tmp 5) rfl bc rfl _ #[.int .u8 (c.kind : Int), .int .i64 c.size, .int .i64 c.step, .int .i64 c.late, .int .i64 c.skew, .int .i64 c.parts, .int .u64 (c.cut : Int)] (0, 0) _ HRC.out uCf rfl (by kernel_rfl) ?_)
    | (go_at_call 39; (with_reducible refine (HLG.out _ HB3.out).mono ?_); rintro e w4 ⟨Al, nl, cl, rfl, hnl, hol, hb4⟩; have HNL := Lib.hid hnl; have HOL := Lib.hid hol; have HB4 := Lib.hid (bto HB3.out hb4); have HRC4 := Lib.hid (row_keep HRC.out hb4); clear hnl hol hb4))
  have HP1 : Hid (∀ w, Below w4.heap.size w4 w → Calls Try.prog 41 #[c.v, .slice Al nl cl] w (PzEnds w (panesL c l))) := Lib.hid fun w hw => panes13_any c HC.out Al nl cl l HFT.out w (Lib.hid ((evSl_own HOL.out).keep hw))
  have HP2 : Hid (∀ w, Below w4.heap.size w4 w → Calls Try.prog 42 #[c.v, .slice Al nl cl] w (DPEnds w (addA (dIts c l l)))) := Lib.hid fun w hw => dpanes_any c HC.out Al nl cl l HFT.out w _ (Lib.hid (ownE_keep HOL.out hw))
  have HDA : Hid (∀ ps, DocP (addA (dIts c l l)) ps → Alk (panesL c l) ps) := Lib.hid fun ps hd => doc_is HC.out HFT.out hd
  have HPOK := Lib.hid (pz_ok HC.out HFT.out)
  have HFEW := Lib.hid (pz_few HC.out HFT.out)
  refine wp_region_held_drew (S := fun w' => Below w4.heap.size w4 w') (by kernel_rfl) ((Below.refl _ w4).drew) (fun hHeld => ?_)
  refine wpAnyH_take (i := 0) (v := .agg #[.int .u8 (c.kind : Int), .int .i64 c.size, .int .i64 c.step, .int .i64 c.late, .int .i64 c.skew, .int .i64 c.parts, .int .u64 (c.cut : Int)]) rfl (by kernel_rfl) (by kernel_rfl) (by kernel_rfl) (fun _ _ _ h => h) (yieldsIf_row rfl 64 (.tmp 5) rfl bc rfl _ _ _ _ (fun w hw => row_keep HRC4.out hw) uCf rfl (by kernel_rfl)) hHeld ?_
  try dsimp only
  try simp only [Act.put, List.getElem_toArray, List.getElem_cons_zero, List.getElem_cons_succ, List.setIfInBounds_toArray, List.set_cons_zero, List.set_cons_succ]
  refine wpAnyH_take (i := 1) (v := .slice Al nl cl) rfl (by kernel_rfl) (by kernel_rfl) (by kernel_rfl) (fun _ _ _ h => h) (Or.inl ⟨by rfl, fun _ _ => rfl⟩) hHeld ?_
  try dsimp only
  try simp only [Act.put, List.getElem_toArray, List.getElem_cons_zero, List.getElem_cons_succ, List.setIfInBounds_toArray, List.set_cons_zero, List.set_cons_succ]
  refine wpAnyH_take (i := 3) (v := .agg #[.int .u8 (c.kind : Int), .int .i64 c.size, .int .i64 c.step, .int .i64 c.late, .int .i64 c.skew, .int .i64 c.parts, .int .u64 (c.cut : Int)]) rfl (by kernel_rfl) (by kernel_rfl) (by kernel_rfl) (fun _ _ _ h => h) (yieldsIf_row rfl 64 (.tmp 5) rfl bc rfl _ _ _ _ (fun w hw => row_keep HRC4.out hw) uCf rfl (by kernel_rfl)) hHeld ?_
  try dsimp only
  try simp only [Act.put, List.getElem_toArray, List.getElem_cons_zero, List.getElem_cons_succ, List.setIfInBounds_toArray, List.set_cons_zero, List.set_cons_succ]
  refine wpAnyH_take (i := 4) (v := .slice Al nl cl) rfl (by kernel_rfl) (by kernel_rfl) (by kernel_rfl) (fun _ _ _ h => h) (Or.inl ⟨by rfl, fun _ _ => rfl⟩) hHeld ?_
  try dsimp only
  try simp only [Act.put, List.getElem_toArray, List.getElem_cons_zero, List.getElem_cons_succ, List.setIfInBounds_toArray, List.set_cons_zero, List.set_cons_succ]
  refine wpAnyH_ready (rs := [2]) (by kernel_rfl) (by simp) (AllReadyH.cons rfl (fun K hK => ?_) AllReadyH.nil)
  go_simp
  refine (HP1.out _ hHeld).mono ?_
  rintro e v1 ⟨A1, n1, c1, rfl, hn1, -, -, -, ho1, hb1⟩
  replace hHeld := bto hHeld hb1
  have HN1 := Lib.hid hn1
  have HO1 := Lib.hid ho1
  clear hn1 ho1 hb1
  refine hK.out _ _ hHeld (fun hHeld => ?_)
  clear hK K
  try dsimp only
  try simp only [Act.put, List.getElem_toArray, List.getElem_cons_zero, List.getElem_cons_succ, List.setIfInBounds_toArray, List.set_cons_zero, List.set_cons_succ]
  refine wpAnyH_ready (rs := [5]) (by kernel_rfl) (by simp) (AllReadyH.cons rfl (fun K hK => ?_) AllReadyH.nil)
  go_simp
  refine (HP2.out _ hHeld).mono ?_
  rintro e v2 ⟨A2, n2, c2, ps2, rfl, ho2, hd2, hb2⟩
  replace hHeld := bto hHeld hb2
  have HO1b := Lib.hid (HO1.out.below hb2 (fun g' off e => (HO1.out.lt g' off e).1))
  have HO2 := Lib.hid ho2
  have HAL := Lib.hid (HDA.out _ hd2)
  have HOK2 := Lib.hid hd2.ok
  have h12 : n2 = n1 := by have h1 := ho2.len; have h2 := HAL.out.len; have h3 := HN1.out; omega
  subst h12
  clear ho2 hd2 hb2
  refine hK.out _ _ hHeld (fun hHeld => ?_)
  clear hK K
  try dsimp only
  try simp only [Act.put, List.getElem_toArray, List.getElem_cons_zero, List.getElem_cons_succ, List.setIfInBounds_toArray, List.set_cons_zero, List.set_cons_succ]
  refine wpAnyH_ready (rs := [6]) (by kernel_rfl) (by simp) (AllReadyH.cons rfl (fun K hK => ?_) AllReadyH.nil)
  go_simp
  refine (rsameZ A1 A2 n2 c1 c2 _ _ (panesL c l) ps2 (by have h1 := HN1.out; have h2 := HFEW.out; omega) HPOK.out HOK2.out HAL.out _ HO1b HO2).mono ?_
  rintro e v3 ⟨rfl, hb3⟩
  replace hHeld := bto hHeld hb3
  refine hK.out _ _ hHeld (fun hHeld => ?_)
  clear hK K
  try dsimp only
  try simp only [Act.put, List.getElem_toArray, List.getElem_cons_zero, List.getElem_cons_succ, List.setIfInBounds_toArray, List.set_cons_zero, List.set_cons_succ]
  refine wpAnyH_ready (rs := [7]) (by kernel_rfl) (by simp) (AllReadyH.cons rfl (fun K hK => ?_) AllReadyH.nil)
  go_simp
  refine hK.out _ _ hHeld (fun _ => ?_)
  clear hK K
  refine wpAnyH_done (by kernel_rfl) ?_ _
  go_wp2
  go_ret
  exact ⟨rfl, HB4.out.trans (hHeld.mono HB4.out.size)⟩
end Go.Proofs.Ytbimfopbilcdgaa
