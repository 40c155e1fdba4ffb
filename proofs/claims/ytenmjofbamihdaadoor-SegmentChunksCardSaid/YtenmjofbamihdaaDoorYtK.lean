/-
  The law SegmentChunks: what is told of a segment's chunks is so; and which of them may have an event that is wanted.
-/
import Derived.Test.YtenmjofbamihdaaDoorYjK
set_option linter.unusedSimpArgs false
set_option linter.unusedVariables false
set_option maxRecDepth 8000
namespace Go.Proofs.YtenmjofbamihdaaDoor
open Go.RowKit Go.WideShapes Col
theorem uFl : Tryd.prog.underlying 33 = some (.struct (Tryd.prog.fieldsOf 33)) := by kernel_rfl
theorem iFl (fa fb : Nat) (fx fy : Int) : (Tryd.prog.info? 33).map (·.size) = some ([.int .u64 (fa : Int), .int .u64 (fb : Int), .int .i64 fx, .int .i64 fy] : List Value).length := by kernel_rfl
theorem rem8S (a : Nat) : ((a : Int)).tmod 8 = ((a % 8 : Nat) : Int) := by rw [Int.tmod_eq_emod_of_nonneg (by omega)]; omega
theorem row_range {w : World} {b : Nat} {cs : List Value} {t : TypeId} (h : w.heap[b]? = some (.cells cs.toArray t (0, 0))) : w.rangeAt b 0 cs := fun j u hu => by
  rw [Nat.zero_add, cell_of_row _ _ _ _ _ _ h, ← Array.getElem?_toList]; exact hu
set_option maxHeartbeats 8000000 in
theorem segmentChunks_any (A0 : Option Addr) (l : List Ev) (n c0 : Nat) (hn : Hid (n = l.length)) (hnc : n ≤ c0) (hcm : c0 ≤ maxLen) (hv : ∀ x ∈ l, x.val < 18446744073709551616) (pt : Nat) (hpt : pt < 256)
    (fa fb : Nat) (fx fy : Int) (hf : fa < 18446744073709551616 ∧ fb < 18446744073709551616 ∧ Wf64 fx ∧ Wf64 fy) (w : World) (HE : Hid (EvAt w A0 l)) (HG : Hid (HalvesAt w)) :
    Calls Tryd.prog 4 #[.slice A0 n c0, .int .u8 (pt : Int), .agg #[.int .u64 (fa : Int), .int .u64 (fb : Int), .int .i64 fx, .int .i64 fy]] w fun e w' => e = .returned (.bool true) ∧ Below w.heap.size w w' := by
  have HB0 : Hid (Below w.heap.size w (w.alloc (.cells #[.int .u64 (fa : Int), .int .u64 (fb : Int), .int .i64 fx, .int .i64 fy] 33))) := Lib.hid ((Below.refl _ _).alloc (Nat.le_refl _) _)
  have HR0 : Hid ((w.alloc (.cells #[.int .u64 (fa : Int), .int .u64 (fb : Int), .int .i64 fx, .int .i64 fy] 33)).heap[w.heap.size]? = some (.cells #[.int .u64 (fa : Int), .int .u64 (fb : Int), .int .i64 fx, .int .i64 fy] 33 (0, 0))) := Lib.hid (heap_alloc_new' w _)
  by_cases h3 : 300 < n
  · have h3i : (300 : Int) < (n : Int) := by omega
    go_enter Tryd.func4, Tryd.ntmps4
    go_wp2_with (first
      | (go_at_call 5; (with_reducible refine (awakeS_any _ (Lib.hid (HG.out.keep HB1.out))).mono ?_); rintro e w2 ⟨rfl, h1⟩; have HB2 := Lib.hid (below_to HB1.out h1); clear h1)
      | (go_at_call 5; (with_reducible refine (awakeS_any _ (Lib.hid (HG.out.keep (by first | exact HB1.out | exact HB0.out)))).mono ?_); rintro e w1 ⟨rfl, h1⟩; try have HR1 := Lib.hid (row_keepS HR0.out h1); have HB1 := Lib.hid (below_to (by first | exact HB1.out | exact HB0.out) h1); clear h1))
    go_ret
    exact ⟨rfl, HB2.out⟩
  · have h3i : ¬ (300 : Int) < (n : Int) := by omega
    obtain ⟨ps, hps⟩ : ∃ ps, ps = 1 + pt % 8 := ⟨_, rfl⟩
    have hps1 : 1 ≤ ps := by omega
    have hps8 : ps ≤ 8 := by omega
    have hwp : IntKind.i64.wrap (pt : Int) = (pt : Int) := by rw [IntKind.wrap_i64]; omega
    have hrm : (pt : Int).tmod 8 = ((ps - 1 : Nat) : Int) := by rw [rem8S]; omega
    have hwa : IntKind.i64.wrap (1 + ((ps - 1 : Nat) : Int)) = (ps : Int) := by rw [IntKind.wrap_i64]; omega
    have hlt : l.length ≤ 300 := by have := hn.out; omega
    have HFN : Hid (∀ x ∈ strE 5 (ps : Int) (l.take 150), FineE x) := Lib.hid (strE_fine 5 (ps : Int) (by omega) (l.take 150) (fun x hx => hv x (List.mem_of_mem_take hx)))
    have HCH : Hid (chkL (ps : Int) none (strE 5 (ps : Int) (l.take 150)) = 0) := Lib.hid (strE_chk 5 (ps : Int) (l.take 150))
    have HLM : Hid ((strE 5 (ps : Int) (l.take 150)).length ≤ 150) := Lib.hid (Nat.le_trans (strE_len 5 (ps : Int) (l.take 150)) (by rw [List.length_take]; omega))
    have HST : Hid (∀ v, Below w.heap.size w v → Calls Tryd.prog 8 #[.slice A0 n c0, .int .u64 5, .int .i64 (ps : Int)] v fun e w' => ∃ A m cap, e = .returned (.slice A m cap) ∧ OwnE w' v.heap.size A m cap (strE 5 (ps : Int) (l.take 150)) ∧ m ≤ cap ∧ cap ≤ maxLen ∧ Below v.heap.size v w') := Lib.hid fun v hb => stretch_any A0 n c0 l hn 5 (by omega) (ps : Int) (by omega) v (Lib.hid (HE.out.keep hb))
    clear hps hlt hv
    generalize strE 5 (ps : Int) (l.take 150) = M at *
    go_enter Tryd.func4, Tryd.ntmps4
    go_upto_region 5 with (first
      | (go_at_call 5; (with_reducible refine (awakeS_any _ (Lib.hid (HG.out.keep (by first | exact HB1.out | exact HB0.out)))).mono ?_); rintro e w1 ⟨rfl, h1⟩; try have HR1 := Lib.hid (row_keepS HR0.out h1); have HB1 := Lib.hid (below_to (by first | exact HB1.out | exact HB0.out) h1); clear h1)
      | (go_at_call 8; (with_reducible refine (HST.out _ HB1.out).mono ?_); rintro e w2 ⟨A2, m, cm, rfl, h1, h2, h4, h5⟩; have HO2 := Lib.hid h1; have HC2 := Lib.hid (And.intro h2 h4); have HB2 := Lib.hid (below_to HB1.out h5); have HR2 := Lib.hid (row_keepS HR1.out h5); clear h1 h2 h4 h5))
    have HML : Hid (m = M.length) := Lib.hid (by have h := HO2.out.1; have e : (evs M).length = M.length * 5 := (by simp [evs_length]); omega)
    have hm15 : m ≤ 150 := by have := HML.out; have := HLM.out; omega
    by_cases hm0 : m = 0
    · have hmi : ((m : Int) == 0) = true := by subst hm0; rfl
      go_wp2
      go_ret
      exact ⟨rfl, HB2.out⟩
    · have hmi : ((m : Int) == 0) = false := by rw [beq_eq_false_iff_ne]; omega
      have hEA := HO2.out.at'
      obtain ⟨x0, hx0⟩ : ∃ x, M[0]? = some x := ⟨_, List.getElem?_eq_getElem (by have := HML.out; omega)⟩
      obtain ⟨gm, om, rfl, -, -⟩ := evr hEA 0 x0 hx0
      have HEM := Lib.hid hEA
      have HW := Lib.hid (write_any gm om m cm M HML (by omega) (by omega) HC2.out.1 HC2.out.2 ps hps1 hps8 HCH HFN w2 HEM (Lib.hid (HG.out.keep HB2.out)))
      have HOP : Hid ((∀ x ∈ segB ps M, x < 256) → openP (segB ps M) = some ((ps, segCk M), (segPg M).length)) := Lib.hid fun hb => segB_opens ps hps1 hps8 M (by have := HML.out; omega) (by have := HLM.out; omega) HCH.out HFN.out hb
      have HLN : Hid ((segB ps M).length ≤ 1000000) := Lib.hid (segB_len ps hps8 M (by have := HML.out; omega) (by have := HLM.out; omega) HFN.out)
      have HCL : Hid ((segCk M).length = segN M) := Lib.hid (segCk_len M)
      have HSN : Hid (0 < segN M ∧ segN M ≤ 3 ∧ 64 * segN M ≥ m ∧ 64 * (segN M - 1) < m) := Lib.hid (by unfold segN; have := HML.out; omega)
      have HIK : Hid (∀ k c, (segCk M)[k]? = some c → k < segN M ∧ c.rows = lnC M.length k ∧ stC M.length k = 64 * k ∧ ∀ j, j < c.rows → ∃ x, M[64 * k + j]? = some x ∧ InCk c x) := Lib.hid fun k c h => seg_in HCH.out k c h
      clear hEA hx0 HFN HCH HLM hwp hrm hwa h3 h3i HST
      generalize segB ps M = P at *
      generalize segCk M = cs at *
      generalize (segPg M).length = foot at *
      generalize segN M = N at *
      go_upto_region 12 with (first
        | (go_at_call 6; (with_reducible refine HW.out.mono ?_); rintro e w3 ⟨A3, m3, c3, rfl, h1, h2⟩; have HO3 := Lib.hid h1; have HK3 := Lib.hid h2; have HB3 := Lib.hid (below_to HB2.out h2); clear h1 h2)
        | (go_at_call 9; have hop := open_any A3 m3 c3 P (Lib.hid HO3.out.len) (by have := HLN.out; have := HO3.out.len; omega) HO3.out.caps.1 HO3.out.caps.2 w3 (Lib.hid HO3.out.byAt) (Lib.hid (HG.out.keep HB3.out)); rw [HOP.out HO3.out.2] at hop; (with_reducible refine hop.mono ?_); rintro e w4 ⟨b, rfl, hs, -, h2⟩; have HS4 : Hid (SegAt w4 b P ps cs foot) := Lib.hid hs; have HK4 := Lib.hid (below_to HK3.out h2); have HB4 := Lib.hid (below_to HB3.out h2); clear hop hs h2)
        | (go_at_call 10; (with_reducible refine (chunks_any b P ps cs foot (by have := HCL.out; have := HSN.out; omega) (by have := HCL.out; have := HSN.out; omega) w4 HS4).mono ?_); rintro e w5 ⟨A5, nn, cn, rfl, hn5, ho5, hb5⟩; have HN5 := Lib.hid hn5; have HO5 := Lib.hid ho5; have HK5 := Lib.hid (below_to HK4.out hb5); have HB5 := Lib.hid (below_to HB4.out hb5); clear hn5 ho5 hb5))
      clear HW HOP HLN
      have HEM5 := Lib.hid (HEM.out.keep HK5.out)
      have hCA := HO5.out.at'
      obtain rfl : N = nn := by rw [HN5.out, HCL.out]
      obtain ⟨ck0, hck0⟩ : ∃ x, cs[0]? = some x := ⟨_, List.getElem?_eq_getElem (by have := HCL.out; have := HSN.out; omega)⟩
      obtain ⟨gc, oc, rfl, -, -⟩ := ckr hCA 0 ck0 hck0
      have HCA := Lib.hid hCA
      clear hCA hck0
      have HBC : Hid (∀ v, Below w5.heap.size w5 v → CkAt v (some ⟨gc, oc, none⟩) cs ∧ EvAt v (some ⟨gm, om, none⟩) M ∧ v.heap[w.heap.size]? = some (.cells #[.int .u64 (fa : Int), .int .u64 (fb : Int), .int .i64 fx, .int .i64 fy] 33 (0, 0))) := Lib.hid fun v hb => ⟨HCA.out.keep hb, HEM5.out.keep hb, row_keepS (row_keepS HR2.out HK5.out) hb⟩
      go_wp2
      go_loopw [14, 15] (fun u v wr => ∃ (i at_ : Nat), i ≤ N ∧ u = .int .i64 (at_ : Int) ∧ v = .int .i64 (i : Int) ∧ at_ = min (64 * i) m ∧ Below w5.heap.size w5 wr) (fun _ v _ => N - (intOf v).toNat)
      case atStart => exact ⟨0, 0, by omega, rfl, rfl, by omega, Below.refl _ _⟩
      case round =>
        obtain ⟨i, at_, hi, rfl, rfl, hat, hb⟩ := hrel
        have HB := Lib.hid hb
        have HAT := Lib.hid hat
        clear hb hat
        by_cases hlt : i < N
        · obtain ⟨c, hc⟩ : ∃ c, cs[i]? = some c := ⟨_, List.getElem?_eq_getElem (by have := HCL.out; omega)⟩
          obtain ⟨-, hrw, hst, hin⟩ := HIK.out i c hc
          have h64 : 64 * i < m := by have := HSN.out; omega
          have hlf := lnC_facts (len := M.length) (j := i) (by have := HML.out; omega)
          rw [← hrw, hst] at hlf
          have hat2 : at_ = 64 * i := by have := HAT.out; omega
          have hrw2 : at_ + c.rows = min (64 * (i + 1)) m := by
            have hat := HAT.out
            have h := hrw
            unfold lnC at h
            rw [hst] at h
            have := HML.out
            omega
          have HRI : Hid (c.rows ≤ 64 ∧ at_ + c.rows ≤ m) := Lib.hid (by have := HML.out; omega)
          have HINX : Hid (∀ j, j < c.rows → ∃ x, M[at_ + j]? = some x ∧ InCk c x) := Lib.hid (by rw [hat2]; exact hin)
          have HIN : Hid ((i : Int) < (N : Int)) := Lib.hid (by omega)
          have HCW : Hid (∀ v, Below w5.heap.size w5 v → gc < v.heap.size ∧ v.rangeAt gc (oc + i * 8) c.cells) := Lib.hid fun v hb => by
            obtain ⟨g', o', e, h1, h2⟩ := ckr (HBC.out v hb).1 i c hc
            injection e with e; injection e with e1 e2; subst e1; subst e2
            exact ⟨h1, h2⟩
          have HC2A := Lib.hid (And.intro hat2 hrw2)
          have hini : (i : Int) < (N : Int) := HIN.out
          clear hc hrw hst hin hlf hat2 hrw2
          go_wp2
          go_loopw [16, 17] (fun u v wr => ∃ (mb : Bool) (j : Nat), j ≤ c.rows ∧ u = .bool mb ∧ v = .int .i64 (j : Int) ∧ (mb = true → mayB fa fb fx fy c = true) ∧ Below w5.heap.size w5 wr) (fun _ v _ => c.rows - (intOf v).toNat)
          case atStart => exact ⟨false, 0, by omega, rfl, rfl, (fun h => by cases h), HB.out⟩
          case round =>
            obtain ⟨mb, j, hj, rfl, rfl, hmay, hb⟩ := hrel
            have HB := Lib.hid hb
            have HMA := Lib.hid hmay
            clear hb hmay
            have q0 : wr.cell? ⟨gc, oc + i * 8, none⟩ = some (.int .i64 (c.rows : Int)) := by have := (HCW.out wr HB.out).2 0 _ rfl; simpa using this
            by_cases hjr : j < c.rows
            · have hji : (j : Int) < (c.rows : Int) := by omega
              obtain ⟨x, hx, hix⟩ := HINX.out j hjr
              obtain ⟨g', o', hge, hgx, hrx⟩ := evr (HBC.out wr HB.out).2.1 (at_ + j) x hx
              injection hge with hge; injection hge with e1 e2; subst e1; subst e2
              have HX := Lib.hid hrx
              have HIX := Lib.hid hix
              have hj1 : IntKind.i64.wrap ((j : Int) + 1) = ((j + 1 : Nat) : Int) := by rw [IntKind.wrap_i64]; have := HRI.out; omega
              obtain ⟨z, hz⟩ : ∃ z, z = at_ + j := ⟨_, rfl⟩
              have hzi : IntKind.i64.wrap ((at_ : Int) + (j : Int)) = (z : Int) := by rw [IntKind.wrap_i64]; have := HRI.out; omega
              have hzm : (z : Int) < (m : Int) := by have := HRI.out; omega
              rw [← hz] at HX
              obtain ⟨v1, hv1⟩ : ∃ v1, v1 = wr.alloc (.cells #[.int .u64 (x.off : Int), .int .i64 x.part, .int .i64 x.time, .string x.key, .float .f64 x.val] 44) := ⟨_, rfl⟩
              obtain ⟨bx, hbx⟩ : ∃ bx, bx = wr.heap.size := ⟨_, rfl⟩
              have hb1 : Below wr.heap.size wr v1 := by rw [hv1]; exact (Below.refl _ _).alloc (Nat.le_refl _) _
              have HBV : Hid (Below w5.heap.size w5 v1) := Lib.hid (below_to HB.out hb1)
              have HRX : Hid (v1.heap[bx]? = some (.cells #[.int .u64 (x.off : Int), .int .i64 x.part, .int .i64 x.time, .string x.key, .float .f64 x.val] 44 (0, 0))) := Lib.hid (by rw [hv1, hbx]; exact heap_alloc_new' wr _)
              have HX1 : Hid (∀ v, Below v1.heap.size v1 v → ∀ k u, ([.int .u64 (x.off : Int), .int .i64 x.part, .int .i64 x.time, .string x.key, .float .f64 x.val] : List Value)[k]? = some u → v.cell? ⟨bx, k, none⟩ = some u) := Lib.hid fun v hb k u hu => by
                have h := row_range (row_keepS HRX.out hb) k u hu
                rwa [Nat.zero_add] at h
              have HC1 : Hid (∀ v, Below v1.heap.size v1 v → ∀ k u, ([.int .i64 (c.rows : Int), .int .i64 (c.pl : Int), .int .u64 (c.oa : Int), .int .u64 (c.ob : Int), .int .i64 c.ta, .int .i64 c.tz, .string c.ka, .string c.kz] : List Value)[k]? = some u → v.cell? ⟨gc, oc + i * 8 + k, none⟩ = some u) := Lib.hid fun v hb k u hu => (HCW.out v (below_to HBV.out hb)).2 k u hu
              have HV1 := Lib.hid hv1; have HBX := Lib.hid hbx
              have HQ0 : Hid (¬ (x.off : Int) < (c.oa : Int) ∧ decide ((x.off : Int) < (c.oa : Int)) = false) := Lib.hid (by have h := HIX.out.1; exact ⟨by omega, decide_eq_false (by omega)⟩)
              have HQ1 : Hid (¬ (c.ob : Int) < (x.off : Int) ∧ decide ((c.ob : Int) < (x.off : Int)) = false) := Lib.hid (by have h := HIX.out.2.1; exact ⟨by omega, decide_eq_false (by omega)⟩)
              have HQ2 : Hid (¬ x.time < c.ta ∧ decide (x.time < c.ta) = false) := Lib.hid (by have h := HIX.out.2.2.1; exact ⟨by omega, decide_eq_false (by omega)⟩)
              have HQ3 : Hid (¬ c.tz < x.time ∧ decide (c.tz < x.time) = false) := Lib.hid (by have h := HIX.out.2.2.2.1; exact ⟨by omega, decide_eq_false (by omega)⟩)
              have HQ4 := Lib.hid HIX.out.2.2.2.2.1
              have HQ5 := Lib.hid HIX.out.2.2.2.2.2
              clear hx hix hrx hgx hz hv1 hbx hb1 q0
              have q0 : wr.cell? ⟨gc, oc + i * 8, none⟩ = some (.int .i64 (c.rows : Int)) := by have := (HCW.out wr HB.out).2 0 _ rfl; simpa using this
              go_upto_region 21 with (first
                | (refine wpList_load_mid rfl 44 (.tmp 71) rfl gm (om + z * 5) rfl [.int .u64 (x.off : Int), .int .i64 x.part, .int .i64 x.time, .string x.key, .float .f64 x.val] _ HX.out uEvent rfl (iEvent x) ?_)
                | (refine wpList_store_row rfl 44 (.tmp 18) (.tmp 72) rfl wr.heap.size #[.int .u64 (x.off : Int), .int .i64 x.part, .int .i64 x.time, .string x.key, .float .f64 x.val] rfl rfl _ _ (heap_alloc_new' _ _) (iEvS x) (sizeEvB x) (oneEvS x) ?_; rw [World.setRow_alloc_new]))
              rw [← HV1.out, ← HBX.out]
              refine wp_region_held_drew (S := Below v1.heap.size v1) (by kernel_rfl) (Below.refl _ _).drew (fun hHeld => ?_)
              refine wpAnyH_take (i := 0) (v := .pointer (some ⟨bx, 0, none⟩)) rfl (by kernel_rfl) (by kernel_rfl) (by kernel_rfl) (fun _ _ _ h => h) (Or.inl ⟨by rfl, fun w _ => by go_simp⟩) hHeld ?_
              try dsimp only
              try simp only [Act.put, List.getElem_toArray, List.getElem_cons_zero, List.getElem_cons_succ, List.setIfInBounds_toArray, List.set_cons_zero, List.set_cons_succ]
              refine wpAnyH_take (i := 1) (v := .int .u64 (x.off : Int)) rfl (by kernel_rfl) (by kernel_rfl) (by kernel_rfl) (fun _ _ _ h => h) (ylS lv_u64S rfl (.tmp 73) rfl bx 0 rfl _ (fun w hw => HX1.out w hw 0 _ rfl)) hHeld ?_
              try dsimp only
              try simp only [Act.put, List.getElem_toArray, List.getElem_cons_zero, List.getElem_cons_succ, List.setIfInBounds_toArray, List.set_cons_zero, List.set_cons_succ]
              refine wpAnyH_take (i := 2) (v := .slice (some ⟨gc, oc, none⟩) N cn) rfl (by kernel_rfl) (by kernel_rfl) (by kernel_rfl) (fun _ _ _ h => h) (Or.inl ⟨by rfl, fun _ _ => rfl⟩) hHeld ?_
              try dsimp only
              try simp only [Act.put, List.getElem_toArray, List.getElem_cons_zero, List.getElem_cons_succ, List.setIfInBounds_toArray, List.set_cons_zero, List.set_cons_succ]
              refine wpAnyH_take (i := 3) (v := .int .i64 (i : Int)) rfl (by kernel_rfl) (by kernel_rfl) (by kernel_rfl) (fun _ _ _ h => h) (Or.inl ⟨by rfl, fun _ _ => rfl⟩) hHeld ?_
              try dsimp only
              try simp only [Act.put, List.getElem_toArray, List.getElem_cons_zero, List.getElem_cons_succ, List.setIfInBounds_toArray, List.set_cons_zero, List.set_cons_succ]
              refine wpAnyH_take (i := 4) (v := .pointer (some ⟨gc, oc + i * 8, none⟩)) rfl (by kernel_rfl) (by kernel_rfl) (by kernel_rfl) (fun _ _ _ h => h) (Or.inl ⟨by rfl, fun w _ => by have h9 := HIN.out; go_simp⟩) hHeld ?_
              try dsimp only
              try simp only [Act.put, List.getElem_toArray, List.getElem_cons_zero, List.getElem_cons_succ, List.setIfInBounds_toArray, List.set_cons_zero, List.set_cons_succ]
              refine wpAnyH_take (i := 5) (v := .pointer (some ⟨gc, oc + i * 8 + 2, none⟩)) rfl (by kernel_rfl) (by kernel_rfl) (by kernel_rfl) (fun _ _ _ h => h) (Or.inl ⟨by rfl, fun w _ => by go_simp⟩) hHeld ?_
              try dsimp only
              try simp only [Act.put, List.getElem_toArray, List.getElem_cons_zero, List.getElem_cons_succ, List.setIfInBounds_toArray, List.set_cons_zero, List.set_cons_succ]
              refine wpAnyH_take (i := 6) (v := .int .u64 (c.oa : Int)) rfl (by kernel_rfl) (by kernel_rfl) (by kernel_rfl) (fun _ _ _ h => h) (ylS lv_u64S rfl (.tmp 78) rfl gc (oc + i * 8 + 2) rfl _ (fun w hw => HC1.out w hw 2 _ rfl)) hHeld ?_
              try dsimp only
              try simp only [Act.put, List.getElem_toArray, List.getElem_cons_zero, List.getElem_cons_succ, List.setIfInBounds_toArray, List.set_cons_zero, List.set_cons_succ]
              refine wpAnyH_take (i := 7) (v := .bool false) rfl (by kernel_rfl) (by kernel_rfl) (by kernel_rfl) (fun _ _ _ h => h) (Or.inl ⟨by rfl, fun w _ => by have h9 := HQ0.out.1; have h8 := HQ0.out.2; go_simp⟩) hHeld ?_
              try dsimp only
              try simp only [Act.put, List.getElem_toArray, List.getElem_cons_zero, List.getElem_cons_succ, List.setIfInBounds_toArray, List.set_cons_zero, List.set_cons_succ]
              refine wpAnyH_take (i := 8) (v := .bool false) rfl (by kernel_rfl) (by kernel_rfl) (by kernel_rfl) (fun _ _ _ h => h) (Or.inl ⟨by rfl, fun _ _ => rfl⟩) hHeld ?_
              try dsimp only
              try simp only [Act.put, List.getElem_toArray, List.getElem_cons_zero, List.getElem_cons_succ, List.setIfInBounds_toArray, List.set_cons_zero, List.set_cons_succ]
              refine wpAnyH_take (i := 9) (v := .pointer (some ⟨bx, 0, none⟩)) rfl (by kernel_rfl) (by kernel_rfl) (by kernel_rfl) (fun _ _ _ h => h) (Or.inl ⟨by rfl, fun w _ => by go_simp⟩) hHeld ?_
              try dsimp only
              try simp only [Act.put, List.getElem_toArray, List.getElem_cons_zero, List.getElem_cons_succ, List.setIfInBounds_toArray, List.set_cons_zero, List.set_cons_succ]
              refine wpAnyH_take (i := 10) (v := .int .u64 (x.off : Int)) rfl (by kernel_rfl) (by kernel_rfl) (by kernel_rfl) (fun _ _ _ h => h) (ylS lv_u64S rfl (.tmp 82) rfl bx 0 rfl _ (fun w hw => HX1.out w hw 0 _ rfl)) hHeld ?_
              try dsimp only
              try simp only [Act.put, List.getElem_toArray, List.getElem_cons_zero, List.getElem_cons_succ, List.setIfInBounds_toArray, List.set_cons_zero, List.set_cons_succ]
              refine wpAnyH_take (i := 11) (v := .slice (some ⟨gc, oc, none⟩) N cn) rfl (by kernel_rfl) (by kernel_rfl) (by kernel_rfl) (fun _ _ _ h => h) (Or.inl ⟨by rfl, fun _ _ => rfl⟩) hHeld ?_
              try dsimp only
              try simp only [Act.put, List.getElem_toArray, List.getElem_cons_zero, List.getElem_cons_succ, List.setIfInBounds_toArray, List.set_cons_zero, List.set_cons_succ]
              refine wpAnyH_take (i := 12) (v := .int .i64 (i : Int)) rfl (by kernel_rfl) (by kernel_rfl) (by kernel_rfl) (fun _ _ _ h => h) (Or.inl ⟨by rfl, fun _ _ => rfl⟩) hHeld ?_
              try dsimp only
              try simp only [Act.put, List.getElem_toArray, List.getElem_cons_zero, List.getElem_cons_succ, List.setIfInBounds_toArray, List.set_cons_zero, List.set_cons_succ]
              refine wpAnyH_take (i := 13) (v := .pointer (some ⟨gc, oc + i * 8, none⟩)) rfl (by kernel_rfl) (by kernel_rfl) (by kernel_rfl) (fun _ _ _ h => h) (Or.inl ⟨by rfl, fun w _ => by have h9 := HIN.out; go_simp⟩) hHeld ?_
              try dsimp only
              try simp only [Act.put, List.getElem_toArray, List.getElem_cons_zero, List.getElem_cons_succ, List.setIfInBounds_toArray, List.set_cons_zero, List.set_cons_succ]
              refine wpAnyH_take (i := 14) (v := .pointer (some ⟨gc, oc + i * 8 + 3, none⟩)) rfl (by kernel_rfl) (by kernel_rfl) (by kernel_rfl) (fun _ _ _ h => h) (Or.inl ⟨by rfl, fun w _ => by go_simp⟩) hHeld ?_
              try dsimp only
              try simp only [Act.put, List.getElem_toArray, List.getElem_cons_zero, List.getElem_cons_succ, List.setIfInBounds_toArray, List.set_cons_zero, List.set_cons_succ]
              refine wpAnyH_take (i := 15) (v := .int .u64 (c.ob : Int)) rfl (by kernel_rfl) (by kernel_rfl) (by kernel_rfl) (fun _ _ _ h => h) (ylS lv_u64S rfl (.tmp 87) rfl gc (oc + i * 8 + 3) rfl _ (fun w hw => HC1.out w hw 3 _ rfl)) hHeld ?_
              try dsimp only
              try simp only [Act.put, List.getElem_toArray, List.getElem_cons_zero, List.getElem_cons_succ, List.setIfInBounds_toArray, List.set_cons_zero, List.set_cons_succ]
              refine wpAnyH_take (i := 16) (v := .bool false) rfl (by kernel_rfl) (by kernel_rfl) (by kernel_rfl) (fun _ _ _ h => h) (Or.inl ⟨by rfl, fun w _ => by have h9 := HQ1.out.1; have h8 := HQ1.out.2; go_simp⟩) hHeld ?_
              try dsimp only
              try simp only [Act.put, List.getElem_toArray, List.getElem_cons_zero, List.getElem_cons_succ, List.setIfInBounds_toArray, List.set_cons_zero, List.set_cons_succ]
              refine wpAnyH_take (i := 17) (v := .bool false) rfl (by kernel_rfl) (by kernel_rfl) (by kernel_rfl) (fun _ _ _ h => h) (Or.inl ⟨by rfl, fun w _ => by go_simp⟩) hHeld ?_
              try dsimp only
              try simp only [Act.put, List.getElem_toArray, List.getElem_cons_zero, List.getElem_cons_succ, List.setIfInBounds_toArray, List.set_cons_zero, List.set_cons_succ]
              refine wpAnyH_take (i := 18) (v := .bool false) rfl (by kernel_rfl) (by kernel_rfl) (by kernel_rfl) (fun _ _ _ h => h) (Or.inl ⟨by rfl, fun _ _ => rfl⟩) hHeld ?_
              try dsimp only
              try simp only [Act.put, List.getElem_toArray, List.getElem_cons_zero, List.getElem_cons_succ, List.setIfInBounds_toArray, List.set_cons_zero, List.set_cons_succ]
              refine wpAnyH_take (i := 19) (v := .pointer (some ⟨bx, 2, none⟩)) rfl (by kernel_rfl) (by kernel_rfl) (by kernel_rfl) (fun _ _ _ h => h) (Or.inl ⟨by rfl, fun w _ => by go_simp⟩) hHeld ?_
              try dsimp only
              try simp only [Act.put, List.getElem_toArray, List.getElem_cons_zero, List.getElem_cons_succ, List.setIfInBounds_toArray, List.set_cons_zero, List.set_cons_succ]
              refine wpAnyH_take (i := 20) (v := .int .i64 x.time) rfl (by kernel_rfl) (by kernel_rfl) (by kernel_rfl) (fun _ _ _ h => h) (ylS lv_i64S rfl (.tmp 92) rfl bx 2 rfl _ (fun w hw => HX1.out w hw 2 _ rfl)) hHeld ?_
              try dsimp only
              try simp only [Act.put, List.getElem_toArray, List.getElem_cons_zero, List.getElem_cons_succ, List.setIfInBounds_toArray, List.set_cons_zero, List.set_cons_succ]
              refine wpAnyH_take (i := 21) (v := .slice (some ⟨gc, oc, none⟩) N cn) rfl (by kernel_rfl) (by kernel_rfl) (by kernel_rfl) (fun _ _ _ h => h) (Or.inl ⟨by rfl, fun _ _ => rfl⟩) hHeld ?_
              try dsimp only
              try simp only [Act.put, List.getElem_toArray, List.getElem_cons_zero, List.getElem_cons_succ, List.setIfInBounds_toArray, List.set_cons_zero, List.set_cons_succ]
              refine wpAnyH_take (i := 22) (v := .int .i64 (i : Int)) rfl (by kernel_rfl) (by kernel_rfl) (by kernel_rfl) (fun _ _ _ h => h) (Or.inl ⟨by rfl, fun _ _ => rfl⟩) hHeld ?_
              try dsimp only
              try simp only [Act.put, List.getElem_toArray, List.getElem_cons_zero, List.getElem_cons_succ, List.setIfInBounds_toArray, List.set_cons_zero, List.set_cons_succ]
              refine wpAnyH_take (i := 23) (v := .pointer (some ⟨gc, oc + i * 8, none⟩)) rfl (by kernel_rfl) (by kernel_rfl) (by kernel_rfl) (fun _ _ _ h => h) (Or.inl ⟨by rfl, fun w _ => by have h9 := HIN.out; go_simp⟩) hHeld ?_
              try dsimp only
              try simp only [Act.put, List.getElem_toArray, List.getElem_cons_zero, List.getElem_cons_succ, List.setIfInBounds_toArray, List.set_cons_zero, List.set_cons_succ]
              refine wpAnyH_take (i := 24) (v := .pointer (some ⟨gc, oc + i * 8 + 4, none⟩)) rfl (by kernel_rfl) (by kernel_rfl) (by kernel_rfl) (fun _ _ _ h => h) (Or.inl ⟨by rfl, fun w _ => by go_simp⟩) hHeld ?_
              try dsimp only
              try simp only [Act.put, List.getElem_toArray, List.getElem_cons_zero, List.getElem_cons_succ, List.setIfInBounds_toArray, List.set_cons_zero, List.set_cons_succ]
              refine wpAnyH_take (i := 25) (v := .int .i64 c.ta) rfl (by kernel_rfl) (by kernel_rfl) (by kernel_rfl) (fun _ _ _ h => h) (ylS lv_i64S rfl (.tmp 97) rfl gc (oc + i * 8 + 4) rfl _ (fun w hw => HC1.out w hw 4 _ rfl)) hHeld ?_
              try dsimp only
              try simp only [Act.put, List.getElem_toArray, List.getElem_cons_zero, List.getElem_cons_succ, List.setIfInBounds_toArray, List.set_cons_zero, List.set_cons_succ]
              refine wpAnyH_take (i := 26) (v := .bool false) rfl (by kernel_rfl) (by kernel_rfl) (by kernel_rfl) (fun _ _ _ h => h) (Or.inl ⟨by rfl, fun w _ => by have h9 := HQ2.out.1; have h8 := HQ2.out.2; go_simp⟩) hHeld ?_
              try dsimp only
              try simp only [Act.put, List.getElem_toArray, List.getElem_cons_zero, List.getElem_cons_succ, List.setIfInBounds_toArray, List.set_cons_zero, List.set_cons_succ]
              refine wpAnyH_take (i := 27) (v := .bool false) rfl (by kernel_rfl) (by kernel_rfl) (by kernel_rfl) (fun _ _ _ h => h) (Or.inl ⟨by rfl, fun w _ => by go_simp⟩) hHeld ?_
              try dsimp only
              try simp only [Act.put, List.getElem_toArray, List.getElem_cons_zero, List.getElem_cons_succ, List.setIfInBounds_toArray, List.set_cons_zero, List.set_cons_succ]
              refine wpAnyH_take (i := 28) (v := .bool false) rfl (by kernel_rfl) (by kernel_rfl) (by kernel_rfl) (fun _ _ _ h => h) (Or.inl ⟨by rfl, fun _ _ => rfl⟩) hHeld ?_
              try dsimp only
              try simp only [Act.put, List.getElem_toArray, List.getElem_cons_zero, List.getElem_cons_succ, List.setIfInBounds_toArray, List.set_cons_zero, List.set_cons_succ]
              refine wpAnyH_take (i := 29) (v := .pointer (some ⟨bx, 2, none⟩)) rfl (by kernel_rfl) (by kernel_rfl) (by kernel_rfl) (fun _ _ _ h => h) (Or.inl ⟨by rfl, fun w _ => by go_simp⟩) hHeld ?_
              try dsimp only
              try simp only [Act.put, List.getElem_toArray, List.getElem_cons_zero, List.getElem_cons_succ, List.setIfInBounds_toArray, List.set_cons_zero, List.set_cons_succ]
              refine wpAnyH_take (i := 30) (v := .int .i64 x.time) rfl (by kernel_rfl) (by kernel_rfl) (by kernel_rfl) (fun _ _ _ h => h) (ylS lv_i64S rfl (.tmp 102) rfl bx 2 rfl _ (fun w hw => HX1.out w hw 2 _ rfl)) hHeld ?_
              try dsimp only
              try simp only [Act.put, List.getElem_toArray, List.getElem_cons_zero, List.getElem_cons_succ, List.setIfInBounds_toArray, List.set_cons_zero, List.set_cons_succ]
              refine wpAnyH_take (i := 31) (v := .slice (some ⟨gc, oc, none⟩) N cn) rfl (by kernel_rfl) (by kernel_rfl) (by kernel_rfl) (fun _ _ _ h => h) (Or.inl ⟨by rfl, fun _ _ => rfl⟩) hHeld ?_
              try dsimp only
              try simp only [Act.put, List.getElem_toArray, List.getElem_cons_zero, List.getElem_cons_succ, List.setIfInBounds_toArray, List.set_cons_zero, List.set_cons_succ]
              refine wpAnyH_take (i := 32) (v := .int .i64 (i : Int)) rfl (by kernel_rfl) (by kernel_rfl) (by kernel_rfl) (fun _ _ _ h => h) (Or.inl ⟨by rfl, fun _ _ => rfl⟩) hHeld ?_
              try dsimp only
              try simp only [Act.put, List.getElem_toArray, List.getElem_cons_zero, List.getElem_cons_succ, List.setIfInBounds_toArray, List.set_cons_zero, List.set_cons_succ]
              refine wpAnyH_take (i := 33) (v := .pointer (some ⟨gc, oc + i * 8, none⟩)) rfl (by kernel_rfl) (by kernel_rfl) (by kernel_rfl) (fun _ _ _ h => h) (Or.inl ⟨by rfl, fun w _ => by have h9 := HIN.out; go_simp⟩) hHeld ?_
              try dsimp only
              try simp only [Act.put, List.getElem_toArray, List.getElem_cons_zero, List.getElem_cons_succ, List.setIfInBounds_toArray, List.set_cons_zero, List.set_cons_succ]
              refine wpAnyH_take (i := 34) (v := .pointer (some ⟨gc, oc + i * 8 + 5, none⟩)) rfl (by kernel_rfl) (by kernel_rfl) (by kernel_rfl) (fun _ _ _ h => h) (Or.inl ⟨by rfl, fun w _ => by go_simp⟩) hHeld ?_
              try dsimp only
              try simp only [Act.put, List.getElem_toArray, List.getElem_cons_zero, List.getElem_cons_succ, List.setIfInBounds_toArray, List.set_cons_zero, List.set_cons_succ]
              refine wpAnyH_take (i := 35) (v := .int .i64 c.tz) rfl (by kernel_rfl) (by kernel_rfl) (by kernel_rfl) (fun _ _ _ h => h) (ylS lv_i64S rfl (.tmp 107) rfl gc (oc + i * 8 + 5) rfl _ (fun w hw => HC1.out w hw 5 _ rfl)) hHeld ?_
              try dsimp only
              try simp only [Act.put, List.getElem_toArray, List.getElem_cons_zero, List.getElem_cons_succ, List.setIfInBounds_toArray, List.set_cons_zero, List.set_cons_succ]
              refine wpAnyH_take (i := 36) (v := .bool false) rfl (by kernel_rfl) (by kernel_rfl) (by kernel_rfl) (fun _ _ _ h => h) (Or.inl ⟨by rfl, fun w _ => by have h9 := HQ3.out.1; have h8 := HQ3.out.2; go_simp⟩) hHeld ?_
              try dsimp only
              try simp only [Act.put, List.getElem_toArray, List.getElem_cons_zero, List.getElem_cons_succ, List.setIfInBounds_toArray, List.set_cons_zero, List.set_cons_succ]
              refine wpAnyH_take (i := 37) (v := .bool false) rfl (by kernel_rfl) (by kernel_rfl) (by kernel_rfl) (fun _ _ _ h => h) (Or.inl ⟨by rfl, fun w _ => by go_simp⟩) hHeld ?_
              try dsimp only
              try simp only [Act.put, List.getElem_toArray, List.getElem_cons_zero, List.getElem_cons_succ, List.setIfInBounds_toArray, List.set_cons_zero, List.set_cons_succ]
              refine wpAnyH_take (i := 38) (v := .bool false) rfl (by kernel_rfl) (by kernel_rfl) (by kernel_rfl) (fun _ _ _ h => h) (Or.inl ⟨by rfl, fun _ _ => rfl⟩) hHeld ?_
              try dsimp only
              try simp only [Act.put, List.getElem_toArray, List.getElem_cons_zero, List.getElem_cons_succ, List.setIfInBounds_toArray, List.set_cons_zero, List.set_cons_succ]
              refine wpAnyH_take (i := 39) (v := .pointer (some ⟨bx, 3, none⟩)) rfl (by kernel_rfl) (by kernel_rfl) (by kernel_rfl) (fun _ _ _ h => h) (Or.inl ⟨by rfl, fun w _ => by go_simp⟩) hHeld ?_
              try dsimp only
              try simp only [Act.put, List.getElem_toArray, List.getElem_cons_zero, List.getElem_cons_succ, List.setIfInBounds_toArray, List.set_cons_zero, List.set_cons_succ]
              refine wpAnyH_take (i := 40) (v := .string x.key) rfl (by kernel_rfl) (by kernel_rfl) (by kernel_rfl) (fun _ _ _ h => h) (ylS lv_strS rfl (.tmp 112) rfl bx 3 rfl _ (fun w hw => HX1.out w hw 3 _ rfl)) hHeld ?_
              try dsimp only
              try simp only [Act.put, List.getElem_toArray, List.getElem_cons_zero, List.getElem_cons_succ, List.setIfInBounds_toArray, List.set_cons_zero, List.set_cons_succ]
              refine wpAnyH_take (i := 41) (v := .slice (some ⟨gc, oc, none⟩) N cn) rfl (by kernel_rfl) (by kernel_rfl) (by kernel_rfl) (fun _ _ _ h => h) (Or.inl ⟨by rfl, fun _ _ => rfl⟩) hHeld ?_
              try dsimp only
              try simp only [Act.put, List.getElem_toArray, List.getElem_cons_zero, List.getElem_cons_succ, List.setIfInBounds_toArray, List.set_cons_zero, List.set_cons_succ]
              refine wpAnyH_take (i := 42) (v := .int .i64 (i : Int)) rfl (by kernel_rfl) (by kernel_rfl) (by kernel_rfl) (fun _ _ _ h => h) (Or.inl ⟨by rfl, fun _ _ => rfl⟩) hHeld ?_
              try dsimp only
              try simp only [Act.put, List.getElem_toArray, List.getElem_cons_zero, List.getElem_cons_succ, List.setIfInBounds_toArray, List.set_cons_zero, List.set_cons_succ]
              refine wpAnyH_take (i := 43) (v := .pointer (some ⟨gc, oc + i * 8, none⟩)) rfl (by kernel_rfl) (by kernel_rfl) (by kernel_rfl) (fun _ _ _ h => h) (Or.inl ⟨by rfl, fun w _ => by have h9 := HIN.out; go_simp⟩) hHeld ?_
              try dsimp only
              try simp only [Act.put, List.getElem_toArray, List.getElem_cons_zero, List.getElem_cons_succ, List.setIfInBounds_toArray, List.set_cons_zero, List.set_cons_succ]
              refine wpAnyH_take (i := 44) (v := .pointer (some ⟨gc, oc + i * 8 + 6, none⟩)) rfl (by kernel_rfl) (by kernel_rfl) (by kernel_rfl) (fun _ _ _ h => h) (Or.inl ⟨by rfl, fun w _ => by go_simp⟩) hHeld ?_
              try dsimp only
              try simp only [Act.put, List.getElem_toArray, List.getElem_cons_zero, List.getElem_cons_succ, List.setIfInBounds_toArray, List.set_cons_zero, List.set_cons_succ]
              refine wpAnyH_take (i := 45) (v := .string c.ka) rfl (by kernel_rfl) (by kernel_rfl) (by kernel_rfl) (fun _ _ _ h => h) (ylS lv_strS rfl (.tmp 117) rfl gc (oc + i * 8 + 6) rfl _ (fun w hw => HC1.out w hw 6 _ rfl)) hHeld ?_
              try dsimp only
              try simp only [Act.put, List.getElem_toArray, List.getElem_cons_zero, List.getElem_cons_succ, List.setIfInBounds_toArray, List.set_cons_zero, List.set_cons_succ]
              refine wpAnyH_take (i := 46) (v := .bool false) rfl (by kernel_rfl) (by kernel_rfl) (by kernel_rfl) (fun _ _ _ h => h) (yb_bin rfl .lss 9 9 (.tmp 113) (.tmp 118) rfl _ _ _ rfl rfl (fun _ => rfl) (fun w => lss_kS _ _ HQ4.out w)) hHeld ?_
              try dsimp only
              try simp only [Act.put, List.getElem_toArray, List.getElem_cons_zero, List.getElem_cons_succ, List.setIfInBounds_toArray, List.set_cons_zero, List.set_cons_succ]
              refine wpAnyH_take (i := 47) (v := .bool false) rfl (by kernel_rfl) (by kernel_rfl) (by kernel_rfl) (fun _ _ _ h => h) (Or.inl ⟨by rfl, fun w _ => by go_simp⟩) hHeld ?_
              try dsimp only
              try simp only [Act.put, List.getElem_toArray, List.getElem_cons_zero, List.getElem_cons_succ, List.setIfInBounds_toArray, List.set_cons_zero, List.set_cons_succ]
              refine wpAnyH_take (i := 48) (v := .bool false) rfl (by kernel_rfl) (by kernel_rfl) (by kernel_rfl) (fun _ _ _ h => h) (Or.inl ⟨by rfl, fun _ _ => rfl⟩) hHeld ?_
              try dsimp only
              try simp only [Act.put, List.getElem_toArray, List.getElem_cons_zero, List.getElem_cons_succ, List.setIfInBounds_toArray, List.set_cons_zero, List.set_cons_succ]
              refine wpAnyH_take (i := 49) (v := .pointer (some ⟨bx, 3, none⟩)) rfl (by kernel_rfl) (by kernel_rfl) (by kernel_rfl) (fun _ _ _ h => h) (Or.inl ⟨by rfl, fun w _ => by go_simp⟩) hHeld ?_
              try dsimp only
              try simp only [Act.put, List.getElem_toArray, List.getElem_cons_zero, List.getElem_cons_succ, List.setIfInBounds_toArray, List.set_cons_zero, List.set_cons_succ]
              refine wpAnyH_take (i := 50) (v := .string x.key) rfl (by kernel_rfl) (by kernel_rfl) (by kernel_rfl) (fun _ _ _ h => h) (ylS lv_strS rfl (.tmp 122) rfl bx 3 rfl _ (fun w hw => HX1.out w hw 3 _ rfl)) hHeld ?_
              try dsimp only
              try simp only [Act.put, List.getElem_toArray, List.getElem_cons_zero, List.getElem_cons_succ, List.setIfInBounds_toArray, List.set_cons_zero, List.set_cons_succ]
              refine wpAnyH_take (i := 51) (v := .slice (some ⟨gc, oc, none⟩) N cn) rfl (by kernel_rfl) (by kernel_rfl) (by kernel_rfl) (fun _ _ _ h => h) (Or.inl ⟨by rfl, fun _ _ => rfl⟩) hHeld ?_
              try dsimp only
              try simp only [Act.put, List.getElem_toArray, List.getElem_cons_zero, List.getElem_cons_succ, List.setIfInBounds_toArray, List.set_cons_zero, List.set_cons_succ]
              refine wpAnyH_take (i := 52) (v := .int .i64 (i : Int)) rfl (by kernel_rfl) (by kernel_rfl) (by kernel_rfl) (fun _ _ _ h => h) (Or.inl ⟨by rfl, fun _ _ => rfl⟩) hHeld ?_
              try dsimp only
              try simp only [Act.put, List.getElem_toArray, List.getElem_cons_zero, List.getElem_cons_succ, List.setIfInBounds_toArray, List.set_cons_zero, List.set_cons_succ]
              refine wpAnyH_take (i := 53) (v := .pointer (some ⟨gc, oc + i * 8, none⟩)) rfl (by kernel_rfl) (by kernel_rfl) (by kernel_rfl) (fun _ _ _ h => h) (Or.inl ⟨by rfl, fun w _ => by have h9 := HIN.out; go_simp⟩) hHeld ?_
              try dsimp only
              try simp only [Act.put, List.getElem_toArray, List.getElem_cons_zero, List.getElem_cons_succ, List.setIfInBounds_toArray, List.set_cons_zero, List.set_cons_succ]
              refine wpAnyH_take (i := 54) (v := .pointer (some ⟨gc, oc + i * 8 + 7, none⟩)) rfl (by kernel_rfl) (by kernel_rfl) (by kernel_rfl) (fun _ _ _ h => h) (Or.inl ⟨by rfl, fun w _ => by go_simp⟩) hHeld ?_
              try dsimp only
              try simp only [Act.put, List.getElem_toArray, List.getElem_cons_zero, List.getElem_cons_succ, List.setIfInBounds_toArray, List.set_cons_zero, List.set_cons_succ]
              refine wpAnyH_take (i := 55) (v := .string c.kz) rfl (by kernel_rfl) (by kernel_rfl) (by kernel_rfl) (fun _ _ _ h => h) (ylS lv_strS rfl (.tmp 127) rfl gc (oc + i * 8 + 7) rfl _ (fun w hw => HC1.out w hw 7 _ rfl)) hHeld ?_
              try dsimp only
              try simp only [Act.put, List.getElem_toArray, List.getElem_cons_zero, List.getElem_cons_succ, List.setIfInBounds_toArray, List.set_cons_zero, List.set_cons_succ]
              refine wpAnyH_take (i := 56) (v := .bool false) rfl (by kernel_rfl) (by kernel_rfl) (by kernel_rfl) (fun _ _ _ h => h) (yb_bin rfl .gtr 9 9 (.tmp 123) (.tmp 128) rfl _ _ _ rfl rfl (fun _ => rfl) (fun w => gtr_kS _ _ HQ5.out w)) hHeld ?_
              try dsimp only
              try simp only [Act.put, List.getElem_toArray, List.getElem_cons_zero, List.getElem_cons_succ, List.setIfInBounds_toArray, List.set_cons_zero, List.set_cons_succ]
              refine wpAnyH_take (i := 57) (v := .bool false) rfl (by kernel_rfl) (by kernel_rfl) (by kernel_rfl) (fun _ _ _ h => h) (Or.inl ⟨by rfl, fun w _ => by go_simp⟩) hHeld ?_
              try dsimp only
              try simp only [Act.put, List.getElem_toArray, List.getElem_cons_zero, List.getElem_cons_succ, List.setIfInBounds_toArray, List.set_cons_zero, List.set_cons_succ]
              refine wpAnyH_done (by kernel_rfl) ?_ _
              clear hHeld
              have HBV2 : Hid (Below w5.heap.size w5 v1.drew) := Lib.hid HBV.out.drew
              have HRX2 : Hid (v1.drew.heap[bx]? = some (.cells #[.int .u64 (x.off : Int), .int .i64 x.part, .int .i64 x.time, .string x.key, .float .f64 x.val] 44 (0, 0))) := HRX
              have HRF2 : Hid (v1.drew.heap[w.heap.size]? = some (.cells #[.int .u64 (fa : Int), .int .u64 (fb : Int), .int .i64 fx, .int .i64 fy] 33 (0, 0))) := Lib.hid (HBC.out v1.drew HBV2.out).2.2
              generalize v1.drew = v2 at *
              rcases mb with _ | _
              · have f0 : v2.cell? ⟨w.heap.size, 0, none⟩ = some (.int .u64 (fa : Int)) := by rw [cell_of_row _ _ _ _ _ _ HRF2.out]; rfl
                have f1 : v2.cell? ⟨w.heap.size, 1, none⟩ = some (.int .u64 (fb : Int)) := by rw [cell_of_row _ _ _ _ _ _ HRF2.out]; rfl
                have f2 : v2.cell? ⟨w.heap.size, 2, none⟩ = some (.int .i64 fx) := by rw [cell_of_row _ _ _ _ _ _ HRF2.out]; rfl
                have f3 : v2.cell? ⟨w.heap.size, 3, none⟩ = some (.int .i64 fy) := by rw [cell_of_row _ _ _ _ _ _ HRF2.out]; rfl
                have x0 : v2.cell? ⟨bx, 0, none⟩ = some (.int .u64 (x.off : Int)) := by rw [cell_of_row _ _ _ _ _ _ HRX2.out]; rfl
                have x1 : v2.cell? ⟨bx, 1, none⟩ = some (.int .i64 x.part) := by rw [cell_of_row _ _ _ _ _ _ HRX2.out]; rfl
                have x2 : v2.cell? ⟨bx, 2, none⟩ = some (.int .i64 x.time) := by rw [cell_of_row _ _ _ _ _ _ HRX2.out]; rfl
                have x3 : v2.cell? ⟨bx, 3, none⟩ = some (.string x.key) := by rw [cell_of_row _ _ _ _ _ _ HRX2.out]; rfl
                have x4 : v2.cell? ⟨bx, 4, none⟩ = some (.float .f64 x.val) := by rw [cell_of_row _ _ _ _ _ _ HRX2.out]; rfl
                go_wp2_with (first
                  | (go_at_call 11; (with_reducible refine (wants_any fa fb fx fy x v2).mono ?_); rintro e v3 ⟨rfl, h⟩; have HB3v := Lib.hid (below_to HBV2.out h); clear h))
                go_roundw
                case rel => exact ⟨wantB fa fb fx fy x, j + 1, by omega, rfl, by go_num, (fun h => inCk_may HIX.out h), HB3v.out⟩
                case measure => simp [intOf]; omega
              · go_wp2
                go_roundw
                case rel => exact ⟨true, j + 1, by omega, rfl, by go_num, HMA.out, HBV2.out⟩
                case measure => simp [intOf]; omega
            · obtain rfl : j = c.rows := by omega
              have hji : ¬ (c.rows : Int) < (c.rows : Int) := by omega
              obtain ⟨z, hz⟩ : ∃ z, z = at_ + c.rows := ⟨_, rfl⟩
              have hzi : IntKind.i64.wrap ((at_ : Int) + (c.rows : Int)) = (z : Int) := by rw [IntKind.wrap_i64]; have := HRI.out; omega
              have hi1 : IntKind.i64.wrap ((i : Int) + 1) = ((i + 1 : Nat) : Int) := by rw [IntKind.wrap_i64]; have := HSN.out; omega
              have HZ : Hid (z = min (64 * (i + 1)) m) := Lib.hid (by rw [hz]; exact HC2A.out.2)
              have HF1 : Hid (∀ v, Below wr.heap.size wr v → v.rangeAt w.heap.size 0 [.int .u64 (fa : Int), .int .u64 (fb : Int), .int .i64 fx, .int .i64 fy]) := Lib.hid fun v hb => row_range (HBC.out v (below_to HB.out hb)).2.2
              have HC0 : Hid (∀ v, Below wr.heap.size wr v → v.rangeAt gc (oc + i * 8) [.int .i64 (c.rows : Int), .int .i64 (c.pl : Int), .int .u64 (c.oa : Int), .int .u64 (c.ob : Int), .int .i64 c.ta, .int .i64 c.tz, .string c.ka, .string c.kz]) := Lib.hid fun v hb => (HCW.out v (below_to HB.out hb)).2
              clear hz
              rcases mb with _ | _
              · go_upto_region 24 with fail
                refine wp_region_held_drew (S := Below wr.heap.size wr) (by kernel_rfl) (Below.refl _ _).drew (fun hHeld => ?_)
                refine wpAnyH_take (i := 0) (v := .bool false) rfl (by kernel_rfl) (by kernel_rfl) (by kernel_rfl) (fun _ _ _ h => h) (Or.inl ⟨by rfl, fun _ _ => rfl⟩) hHeld ?_
                try dsimp only
                try simp only [Act.put, List.getElem_toArray, List.getElem_cons_zero, List.getElem_cons_succ, List.setIfInBounds_toArray, List.set_cons_zero, List.set_cons_succ]
                refine wpAnyH_take (i := 1) (v := .bool false) rfl (by kernel_rfl) (by kernel_rfl) (by kernel_rfl) (fun _ _ _ h => h) (Or.inl ⟨by rfl, fun _ _ => rfl⟩) hHeld ?_
                try dsimp only
                try simp only [Act.put, List.getElem_toArray, List.getElem_cons_zero, List.getElem_cons_succ, List.setIfInBounds_toArray, List.set_cons_zero, List.set_cons_succ]
                refine wpAnyH_take (i := 2) (v := undef) rfl (by kernel_rfl) (by kernel_rfl) (by kernel_rfl) (fun _ _ _ h => h) (Or.inr ⟨by rfl, rfl⟩) hHeld ?_
                try dsimp only
                try simp only [Act.put, List.getElem_toArray, List.getElem_cons_zero, List.getElem_cons_succ, List.setIfInBounds_toArray, List.set_cons_zero, List.set_cons_succ]
                refine wpAnyH_take (i := 3) (v := undef) rfl (by kernel_rfl) (by kernel_rfl) (by kernel_rfl) (fun _ _ _ h => h) (Or.inr ⟨by rfl, rfl⟩) hHeld ?_
                try dsimp only
                try simp only [Act.put, List.getElem_toArray, List.getElem_cons_zero, List.getElem_cons_succ, List.setIfInBounds_toArray, List.set_cons_zero, List.set_cons_succ]
                refine wpAnyH_take (i := 4) (v := undef) rfl (by kernel_rfl) (by kernel_rfl) (by kernel_rfl) (fun _ _ _ h => h) (Or.inr ⟨by rfl, rfl⟩) hHeld ?_
                try dsimp only
                try simp only [Act.put, List.getElem_toArray, List.getElem_cons_zero, List.getElem_cons_succ, List.setIfInBounds_toArray, List.set_cons_zero, List.set_cons_succ]
                refine wpAnyH_take (i := 5) (v := undef) rfl (by kernel_rfl) (by kernel_rfl) (by kernel_rfl) (fun _ _ _ h => h) (Or.inr ⟨by rfl, rfl⟩) hHeld ?_
                try dsimp only
                try simp only [Act.put, List.getElem_toArray, List.getElem_cons_zero, List.getElem_cons_succ, List.setIfInBounds_toArray, List.set_cons_zero, List.set_cons_succ]
                refine wpAnyH_take (i := 6) (v := undef) rfl (by kernel_rfl) (by kernel_rfl) (by kernel_rfl) (fun _ _ _ h => h) (Or.inr ⟨by rfl, rfl⟩) hHeld ?_
                try dsimp only
                try simp only [Act.put, List.getElem_toArray, List.getElem_cons_zero, List.getElem_cons_succ, List.setIfInBounds_toArray, List.set_cons_zero, List.set_cons_succ]
                refine wpAnyH_take (i := 7) (v := undef) rfl (by kernel_rfl) (by kernel_rfl) (by kernel_rfl) (fun _ _ _ h => h) (Or.inr ⟨by rfl, rfl⟩) hHeld ?_
                try dsimp only
                try simp only [Act.put, List.getElem_toArray, List.getElem_cons_zero, List.getElem_cons_succ, List.setIfInBounds_toArray, List.set_cons_zero, List.set_cons_succ]
                refine wpAnyH_take (i := 8) (v := undef) rfl (by kernel_rfl) (by kernel_rfl) (by kernel_rfl) (fun _ _ _ h => h) (Or.inr ⟨by rfl, rfl⟩) hHeld ?_
                try dsimp only
                try simp only [Act.put, List.getElem_toArray, List.getElem_cons_zero, List.getElem_cons_succ, List.setIfInBounds_toArray, List.set_cons_zero, List.set_cons_succ]
                refine wpAnyH_take (i := 9) (v := .bool false) rfl (by kernel_rfl) (by kernel_rfl) (by kernel_rfl) (fun _ _ _ h => h) (Or.inl ⟨by rfl, fun w _ => by go_simp⟩) hHeld ?_
                try dsimp only
                try simp only [Act.put, List.getElem_toArray, List.getElem_cons_zero, List.getElem_cons_succ, List.setIfInBounds_toArray, List.set_cons_zero, List.set_cons_succ]
                refine wpAnyH_done (by kernel_rfl) ?_ _
                have HBE : Hid (Below w5.heap.size w5 wr.drew) := Lib.hid HB.out.drew
                have q1 : wr.drew.cell? ⟨gc, oc + i * 8, none⟩ = some (.int .i64 (c.rows : Int)) := by have := (HCW.out wr.drew HBE.out).2 0 _ rfl; simpa using this
                clear q0 hHeld
                generalize wr.drew = v2 at *
                go_wp2
                go_roundw
                case rel => exact ⟨i + 1, z, by omega, rfl, by go_num, HZ.out, HBE.out⟩
                case measure => simp [intOf]; omega
              · have HMY : Hid (mayB fa fb fx fy c = true) := Lib.hid (HMA.out rfl)
                go_upto_region 24 with fail
                refine wp_region_held_drew (S := Below wr.heap.size wr) (by kernel_rfl) (Below.refl _ _).drew (fun hHeld => ?_)
                refine wpAnyH_take (i := 0) (v := .bool true) rfl (by kernel_rfl) (by kernel_rfl) (by kernel_rfl) (fun _ _ _ h => h) (Or.inl ⟨by rfl, fun _ _ => rfl⟩) hHeld ?_
                try dsimp only
                try simp only [Act.put, List.getElem_toArray, List.getElem_cons_zero, List.getElem_cons_succ, List.setIfInBounds_toArray, List.set_cons_zero, List.set_cons_succ]
                refine wpAnyH_take (i := 1) (v := .bool true) rfl (by kernel_rfl) (by kernel_rfl) (by kernel_rfl) (fun _ _ _ h => h) (Or.inl ⟨by rfl, fun _ _ => rfl⟩) hHeld ?_
                try dsimp only
                try simp only [Act.put, List.getElem_toArray, List.getElem_cons_zero, List.getElem_cons_succ, List.setIfInBounds_toArray, List.set_cons_zero, List.set_cons_succ]
                refine wpAnyH_take (i := 2) (v := .agg #[.int .u64 (fa : Int), .int .u64 (fb : Int), .int .i64 fx, .int .i64 fy]) rfl (by kernel_rfl) (by kernel_rfl) (by kernel_rfl) (fun _ _ _ h => h) (yieldsIf_load_mid rfl 33 (.tmp 5) rfl w.heap.size 0 rfl [.int .u64 (fa : Int), .int .u64 (fb : Int), .int .i64 fx, .int .i64 fy] _ (fun w hw => HF1.out w hw) uFl rfl (iFl fa fb fx fy)) hHeld ?_
                try dsimp only
                try simp only [Act.put, List.getElem_toArray, List.getElem_cons_zero, List.getElem_cons_succ, List.setIfInBounds_toArray, List.set_cons_zero, List.set_cons_succ]
                refine wpAnyH_take (i := 3) (v := .slice (some ⟨gc, oc, none⟩) N cn) rfl (by kernel_rfl) (by kernel_rfl) (by kernel_rfl) (fun _ _ _ h => h) (Or.inl ⟨by rfl, fun _ _ => rfl⟩) hHeld ?_
                try dsimp only
                try simp only [Act.put, List.getElem_toArray, List.getElem_cons_zero, List.getElem_cons_succ, List.setIfInBounds_toArray, List.set_cons_zero, List.set_cons_succ]
                refine wpAnyH_take (i := 4) (v := .int .i64 (i : Int)) rfl (by kernel_rfl) (by kernel_rfl) (by kernel_rfl) (fun _ _ _ h => h) (Or.inl ⟨by rfl, fun _ _ => rfl⟩) hHeld ?_
                try dsimp only
                try simp only [Act.put, List.getElem_toArray, List.getElem_cons_zero, List.getElem_cons_succ, List.setIfInBounds_toArray, List.set_cons_zero, List.set_cons_succ]
                refine wpAnyH_take (i := 5) (v := .pointer (some ⟨gc, oc + i * 8, none⟩)) rfl (by kernel_rfl) (by kernel_rfl) (by kernel_rfl) (fun _ _ _ h => h) (Or.inl ⟨by rfl, fun w _ => by have h9 := HIN.out; go_simp⟩) hHeld ?_
                try dsimp only
                try simp only [Act.put, List.getElem_toArray, List.getElem_cons_zero, List.getElem_cons_succ, List.setIfInBounds_toArray, List.set_cons_zero, List.set_cons_succ]
                refine wpAnyH_take (i := 6) (v := .agg #[.int .i64 (c.rows : Int), .int .i64 (c.pl : Int), .int .u64 (c.oa : Int), .int .u64 (c.ob : Int), .int .i64 c.ta, .int .i64 c.tz, .string c.ka, .string c.kz]) rfl (by kernel_rfl) (by kernel_rfl) (by kernel_rfl) (fun _ _ _ h => h) (yieldsIf_load_mid rfl 41 (.tmp 142) rfl gc (oc + i * 8) rfl [.int .i64 (c.rows : Int), .int .i64 (c.pl : Int), .int .u64 (c.oa : Int), .int .u64 (c.ob : Int), .int .i64 c.ta, .int .i64 c.tz, .string c.ka, .string c.kz] _ (fun w hw => HC0.out w hw) uCk rfl (iCk c)) hHeld ?_
                try dsimp only
                try simp only [Act.put, List.getElem_toArray, List.getElem_cons_zero, List.getElem_cons_succ, List.setIfInBounds_toArray, List.set_cons_zero, List.set_cons_succ]
                refine wpAnyH_ready (rs := [7]) (by kernel_rfl) (by simp) (AllReadyH.cons rfl (fun K hK => ?_) AllReadyH.nil)
                go_simp
                refine (may_any fa fb fx fy c _).mono ?_
                rintro e w9 ⟨rfl, hb9⟩
                rw [HMY.out]
                replace hHeld := below_to hHeld hb9
                clear hb9
                refine hK.out _ _ hHeld (fun hHeld => ?_)
                clear hK K
                try dsimp only
                try simp only [Act.put, List.getElem_toArray, List.getElem_cons_zero, List.getElem_cons_succ, List.setIfInBounds_toArray, List.set_cons_zero, List.set_cons_succ]
                refine wpAnyH_take (i := 8) (v := .bool false) rfl (by kernel_rfl) (by kernel_rfl) (by kernel_rfl) (fun _ _ _ h => h) (Or.inl ⟨by rfl, fun w _ => by go_simp⟩) hHeld ?_
                try dsimp only
                try simp only [Act.put, List.getElem_toArray, List.getElem_cons_zero, List.getElem_cons_succ, List.setIfInBounds_toArray, List.set_cons_zero, List.set_cons_succ]
                refine wpAnyH_take (i := 9) (v := .bool false) rfl (by kernel_rfl) (by kernel_rfl) (by kernel_rfl) (fun _ _ _ h => h) (Or.inl ⟨by rfl, fun w _ => by go_simp⟩) hHeld ?_
                try dsimp only
                try simp only [Act.put, List.getElem_toArray, List.getElem_cons_zero, List.getElem_cons_succ, List.setIfInBounds_toArray, List.set_cons_zero, List.set_cons_succ]
                refine wpAnyH_done (by kernel_rfl) ?_ _
                have HBE : Hid (Below w5.heap.size w5 w9) := Lib.hid (below_to HB.out hHeld)
                have q1 : w9.cell? ⟨gc, oc + i * 8, none⟩ = some (.int .i64 (c.rows : Int)) := by have := (HCW.out w9 HBE.out).2 0 _ rfl; simpa using this
                clear q0 hHeld
                go_wp2
                go_roundw
                case rel => exact ⟨i + 1, z, by omega, rfl, by go_num, HZ.out, HBE.out⟩
                case measure => simp [intOf]; omega
        · obtain rfl : i = N := by omega
          have hini : ¬ (i : Int) < (i : Int) := by omega
          obtain rfl : at_ = m := by have := HSN.out; have := HAT.out; omega
          have HBE := Lib.hid (below_to HB5.out HB.out)
          go_wp2
          go_ret
          exact ⟨by first | rfl | simp, HBE.out⟩
end Go.Proofs.YtenmjofbamihdaaDoor
