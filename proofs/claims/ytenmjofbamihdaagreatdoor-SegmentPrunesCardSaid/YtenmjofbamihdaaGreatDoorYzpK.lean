/-
  The law SegmentPrunes: where nothing can be wanted no chunk is read; where all is, all are.
-/
import Derived.Test.YtenmjofbamihdaaGreatDoorYzbK
import Derived.Test.YtenmjofbamihdaaGreatDoorYsaK
set_option linter.unusedSimpArgs false
set_option linter.unusedVariables false
set_option maxRecDepth 8000
namespace Go.Proofs.YtenmjofbamihdaaGreatDoor
open Go.RowKit Go.WideShapes Col
/-- What a scan of an opened written segment answers. -/
theorem scan_any (bs ps : Nat) (M : List Ev) (h0 : 0 < M.length) (h9 : M.length ≤ 900) (hck : Hid (chkL (ps : Int) none M = 0)) (hfin : Hid (∀ x ∈ M, FineE x)) (hby : Hid (∀ x ∈ segB ps M, x < 256)) (hlen : (segB ps M).length ≤ 1000000)
    (fa fb : Nat) (fx fy : Int) (w : World) (HS : Hid (SegAt w bs (segB ps M) ps (segCk M) (segPg M).length)) (HG : Hid (HalvesAt w)) :
    Calls Tryz.prog 13 #[.pointer (some ⟨bs, 0, none⟩), .agg #[.int .u64 (fa : Int), .int .u64 (fb : Int), .int .i64 fx, .int .i64 fy]] w fun e w' => ∃ A m cap, e = .returned (.tuple #[.slice A m cap, .int .i64 (scN fa fb fx fy M (segN M) : Nat), .int .i64 0]) ∧ OwnE w' w.heap.size A m cap (scO fa fb fx fy M (segN M)) ∧ m ≤ cap ∧ cap ≤ maxLen ∧ Below w.heap.size w w' := by
  obtain ⟨A, n, c, A2, n2, c2, h1, h2, h3, h4, h5, h6⟩ := HS.out
  have hn2 : n2 = (segCk M).length := by have h := h6.1; rw [cks_length] at h; omega
  have hNN : 0 < segN M ∧ segN M ≤ 15 := by unfold segN; omega
  have hcl := segCk_len M
  have hCA := h6.at'
  obtain ⟨ck0, hck0⟩ : ∃ x, (segCk M)[0]? = some x := ⟨_, List.getElem?_eq_getElem (by omega)⟩
  obtain ⟨gc, oc, rfl, -, -⟩ := ckr hCA 0 ck0 hck0
  have e : segN M = n2 := by omega
  have hs := scan_core bs ps (segPg M).length gc oc n2 c2 (.slice A n c) (segCk M) (Lib.hid hn2) (Lib.hid (by omega)) (fun i => (pcs M i).map canE) (Lib.hid fun i => by
      rw [List.length_map, pcs_len (l := M) (j := i) h0]; exact (lnC_facts h0).2.1) (fun k => scO fa fb fx fy M k) (fun k => scN fa fb fx fy M k) (Lib.hid ⟨by simp [scO], by simp [scN]⟩) fa fb fx fy
    (Lib.hid fun k c hc hm => ⟨scO_skip hck.out hc hm, by rw [scN_succ _ _ _ _ hc, hm]; rfl⟩)
    (Lib.hid fun k c hc hm => ⟨scO_succ fa fb fx fy (wrS_get M (segN M) k c hc).1, by rw [scN_succ _ _ _ _ hc, hm]; rfl⟩)
    (Lib.hid fun k => Nat.le_trans (scO_len fa fb fx fy M k) h9) (Lib.hid fun k => scN_le fa fb fx fy M k) w (Lib.hid h1) (Lib.hid hCA)
    (Lib.hid fun i ck hc v hb => seg_rows bs ps M h0 h9 hck hfin hby hlen A n c gc oc n2 c2 h2 h4 h5 hn2 w HG (Lib.hid h3) (Lib.hid h1) (Lib.hid hCA) i ck hc v hb)
  rw [e]
  exact hs
/-- All that is told of a chunk of a written segment lies between what all events have. -/
theorem seg_told {p : Int} {M : List Ev} {b : Nat} (hck : chkL p none M = 0) (hb : ∀ a, M[0]? = some a → a.off = b) (k : Nat) (c : Ck) (hc : (segCk M)[k]? = some c) :
    b ≤ c.oa ∧ c.ob < b + M.length ∧ c.oa ≤ c.ob ∧ -1099511627776 ≤ c.ta ∧ c.ta ≤ 1099511627776 ∧ -1099511627776 ≤ c.tz ∧ c.tz ≤ 1099511627776 ∧ ∃ x ∈ M, InCk c x := by
  obtain ⟨hk, hr, hst, hin⟩ := seg_in hck k c hc
  have h64 : 64 * k < M.length := by unfold segN at hk; omega
  obtain ⟨a, ha⟩ : ∃ a, M[0]? = some a := ⟨_, List.getElem?_eq_getElem (by omega)⟩
  obtain ⟨-, hc2⟩ := wrS_get M (segN M) k c hc
  obtain ⟨e1, e2, e3, e4, e5⟩ := segCk_facts hck ha k hk (ahead M k)
  rw [← hc2] at e1 e2 e3 e4
  have hf := lnC_facts (len := M.length) (j := k) (by omega)
  rw [hst] at hf
  have ho := hb a ha
  have hlp := pcs_len (l := M) (j := k) (by omega)
  have ht := ckOf_of (fun t => -1099511627776 ≤ t ∧ t ≤ 1099511627776) (fun _ => True) (pcs M k) (by omega) (ahead M k) (fun x hx => ⟨by
    have h := chk_form _ _ hck x (pcs_mem hx)
    unfold formB at h
    simp only [Bool.and_eq_true, decide_eq_true_eq] at h
    omega, trivial⟩)
  rw [← hc2] at ht
  obtain ⟨x, hx, hi⟩ := hin 0 (by omega)
  exact ⟨by omega, by omega, by omega, ht.1.1, ht.1.2, ht.2.1.1, ht.2.1.2, x, List.mem_of_getElem? hx, hi⟩
theorem sc_none {p : Int} {M : List Ev} {fa fb : Nat} {fx fy : Int} (hck : chkL p none M = 0) (h : ∀ c ∈ segCk M, mayB fa fb fx fy c = false) : scO fa fb fx fy M (segN M) = [] ∧ scN fa fb fx fy M (segN M) = 0 := by
  have hcl := segCk_len M
  have hs : ∀ k, k ≤ segN M → scO fa fb fx fy M k = [] ∧ scN fa fb fx fy M k = 0 := by
    intro k
    induction k with
    | zero => intro _; exact ⟨by simp [scO], by simp [scN]⟩
    | succ k ih =>
      intro hk
      obtain ⟨h1, h2⟩ := ih (by omega)
      obtain ⟨c, hc⟩ : ∃ c, (segCk M)[k]? = some c := ⟨_, List.getElem?_eq_getElem (by omega)⟩
      have hm := h c (List.mem_of_getElem? hc)
      exact ⟨by rw [scO_skip hck hc hm]; exact h1, by rw [scN_succ _ _ _ _ hc, hm, h2]; rfl⟩
  exact hs _ (Nat.le_refl _)
theorem sc_all {p : Int} {M : List Ev} {fa fb : Nat} {fx fy : Int} (hck : chkL p none M = 0) (h : ∀ x ∈ M, wantB fa fb fx fy x = true) : scO fa fb fx fy M (segN M) = M.map canE ∧ scN fa fb fx fy M (segN M) = segN M := by
  have hcl := segCk_len M
  constructor
  · unfold scO
    rw [List.take_of_length_le (by unfold segN; omega), List.filter_eq_self]
    intro x hx
    obtain ⟨y, hy, rfl⟩ := List.mem_map.1 hx
    rw [want_can]; exact h y hy
  · unfold scN
    rw [← hcl, List.take_length]
    congr 1
    rw [List.filter_eq_self]
    intro c hc
    obtain ⟨k, hk⟩ := List.getElem?_of_mem hc
    obtain ⟨hk1, hr, hst, hin⟩ := seg_in hck k c hk
    have hf := lnC_facts (len := M.length) (j := k) (by unfold segN at hk1; omega)
    obtain ⟨x, hx, hi⟩ := hin 0 (by omega)
    exact inCk_may hi (h x (List.mem_of_getElem? hx))
theorem want_all {p : Int} {M : List Ev} (hck : chkL p none M = 0) : ∀ x ∈ M, wantB 0 1099511627776 (-1099511627776) 1099511627776 x = true := fun x hx => by
  have h := chk_form _ _ hck x hx
  unfold formB at h
  simp only [Bool.and_eq_true, decide_eq_true_eq] at h
  unfold wantB
  simp only [Bool.and_eq_true, decide_eq_true_eq]
  omega
theorem can_same {M : List Ev} (hv : ∀ x ∈ M, FineE x) : ∀ (k : Nat) (x y : Ev), (M.map canE)[k]? = some x → M[k]? = some y → sameB x y = true ∧ x.val < 18446744073709551616 ∧ y.val < 18446744073709551616 := fun k x y hx hy => by
  rw [List.getElem?_map, hy] at hx
  have hx : canE y = x := by simpa using hx
  subst hx
  have h := (hv y (List.mem_of_getElem? hy)).val
  exact ⟨by unfold sameB keqB canE; simp [Fl.canon_canon], Fl.canon_lt _ h, h⟩
end Go.Proofs.YtenmjofbamihdaaGreatDoor

set_option linter.unusedSimpArgs false
set_option linter.unusedVariables false
set_option maxRecDepth 8000
namespace Go.Proofs.YtenmjofbamihdaaGreatDoor
open Go.RowKit Go.WideShapes Col
theorem rem8P (a : Nat) : ((a : Int)).tmod 8 = ((a % 8 : Nat) : Int) := by rw [Int.tmod_eq_emod_of_nonneg (by omega)]; omega
set_option maxHeartbeats 8000000 in
theorem segmentPrunes_any (A0 : Option Addr) (l : List Ev) (n c0 : Nat) (hn : Hid (n = l.length)) (hnc : n ≤ c0) (hcm : c0 ≤ maxLen) (hv : ∀ x ∈ l, x.val < 18446744073709551616) (pt : Nat) (hpt : pt < 256) (bY : Nat) (hbY : bY < 4294967296)
    (w : World) (HE : Hid (EvAt w A0 l)) (HG : Hid (HalvesAt w)) :
    Calls Tryz.prog 6 #[.slice A0 n c0, .int .u8 (pt : Int), .int .u32 (bY : Int)] w fun e w' => e = .returned (.bool true) ∧ Below w.heap.size w w' := by
  have HB0 : Hid (Below w.heap.size w w) := Lib.hid (Below.refl _ _)
  by_cases h3 : 300 < n
  · have h3i : (300 : Int) < (n : Int) := by omega
    go_enter Tryz.func6, Tryz.ntmps6
    go_wp2_with (first
      | (go_at_call 8; (with_reducible refine (awakeS_any _ (Lib.hid (HG.out.keep HB1.out))).mono ?_); rintro e w2 ⟨rfl, h1⟩; have HB2 := Lib.hid (below_to HB1.out h1); clear h1)
      | (go_at_call 8; (with_reducible refine (awakeS_any _ (Lib.hid (HG.out.keep (by first | exact HB1.out | exact HB0.out)))).mono ?_); rintro e w1 ⟨rfl, h1⟩; have HB1 := Lib.hid (below_to (by first | exact HB1.out | exact HB0.out) h1); clear h1))
    go_ret
    exact ⟨rfl, HB2.out⟩
  · have h3i : ¬ (300 : Int) < (n : Int) := by omega
    obtain ⟨ps, hps⟩ : ∃ ps, ps = 1 + pt % 8 := ⟨_, rfl⟩
    have hps1 : 1 ≤ ps := by omega
    have hps8 : ps ≤ 8 := by omega
    have hwp : IntKind.i64.wrap (pt : Int) = (pt : Int) := by rw [IntKind.wrap_i64]; omega
    have hrm : (pt : Int).tmod 8 = ((ps - 1 : Nat) : Int) := by rw [rem8P]; omega
    have hwa : IntKind.i64.wrap (1 + ((ps - 1 : Nat) : Int)) = (ps : Int) := by rw [IntKind.wrap_i64]; omega
    have hlt : l.length ≤ 300 := by have := hn.out; omega
    have HFN : Hid (∀ x ∈ strE 10 (ps : Int) (l.take 150), FineE x) := Lib.hid (strE_fine 10 (ps : Int) (by omega) (l.take 150) (fun x hx => hv x (List.mem_of_mem_take hx)))
    have HCH : Hid (chkL (ps : Int) none (strE 10 (ps : Int) (l.take 150)) = 0) := Lib.hid (strE_chk 10 (ps : Int) (l.take 150))
    have HOF : Hid (∀ a, (strE 10 (ps : Int) (l.take 150))[0]? = some a → a.off = 10) := Lib.hid (fun a ha => strE_off 10 (ps : Int) (l.take 150) 0 a ha)
    have HLM : Hid ((strE 10 (ps : Int) (l.take 150)).length ≤ 150) := Lib.hid (Nat.le_trans (strE_len 10 (ps : Int) (l.take 150)) (by rw [List.length_take]; omega))
    have HST : Hid (∀ v, Below w.heap.size w v → Calls Tryz.prog 9 #[.slice A0 n c0, .int .u64 10, .int .i64 (ps : Int)] v fun e w' => ∃ A m cap, e = .returned (.slice A m cap) ∧ OwnE w' v.heap.size A m cap (strE 10 (ps : Int) (l.take 150)) ∧ m ≤ cap ∧ cap ≤ maxLen ∧ Below v.heap.size v w') := Lib.hid fun v hb => stretch_any A0 n c0 l hn 10 (by omega) (ps : Int) (by omega) v (Lib.hid (HE.out.keep hb))
    clear hps hlt hv
    generalize strE 10 (ps : Int) (l.take 150) = M at *
    go_enter Tryz.func6, Tryz.ntmps6
    go_upto_region 5 with (first
      | (go_at_call 8; (with_reducible refine (awakeS_any _ (Lib.hid (HG.out.keep (by first | exact HB1.out | exact HB0.out)))).mono ?_); rintro e w1 ⟨rfl, h1⟩; have HB1 := Lib.hid (below_to (by first | exact HB1.out | exact HB0.out) h1); clear h1)
      | (go_at_call 9; (with_reducible refine (HST.out _ HB1.out).mono ?_); rintro e w2 ⟨A2, m, cm, rfl, h1, h2, h4, h5⟩; have HO2 := Lib.hid h1; have HC2 := Lib.hid (And.intro h2 h4); have HB2 := Lib.hid (below_to HB1.out h5); clear h1 h2 h4 h5))
    have HML : Hid (m = M.length) := Lib.hid (by have h := HO2.out.1; have e : (evs M).length = M.length * 5 := (by simp [evs_length]); omega)
    have hm15 : m ≤ 150 := by have := HML.out; have := HLM.out; omega
    by_cases hm0 : m = 0
    · have hmi : ((m : Int) == 0) = true := by subst hm0; rfl
      go_wp2
      go_ret
      exact ⟨rfl, HB2.out⟩
    · have hmi : ((m : Int) == 0) = false := by rw [beq_eq_false_iff_ne]; omega
      have hEA := HO2.out.at'
      have h0 : 0 < M.length := by have := HML.out; omega
      have hM15 : M.length ≤ 150 := HLM.out
      obtain ⟨x0, hx0⟩ : ∃ x, M[0]? = some x := ⟨_, List.getElem?_eq_getElem h0⟩
      obtain ⟨gm, om, rfl, -, -⟩ := evr hEA 0 x0 hx0
      have HEM := Lib.hid hEA
      obtain ⟨z, hz⟩ : ∃ z, z = 10 + m + bY := ⟨_, rfl⟩
      have HW := Lib.hid (write_any gm om m cm M HML (by omega) (by omega) HC2.out.1 HC2.out.2 ps hps1 hps8 HCH HFN w2 HEM (Lib.hid (HG.out.keep HB2.out)))
      have HOP : Hid ((∀ x ∈ segB ps M, x < 256) → openP (segB ps M) = some ((ps, segCk M), (segPg M).length)) := Lib.hid fun hb => segB_opens ps hps1 hps8 M h0 (by omega) HCH.out HFN.out hb
      have HLN : Hid ((segB ps M).length ≤ 1000000) := Lib.hid (segB_len ps hps8 M h0 (by omega) HFN.out)
      have HSA : Hid (∀ (v : World) (b : Nat), (∀ x ∈ segB ps M, x < 256) → HalvesAt v → SegAt v b (segB ps M) ps (segCk M) (segPg M).length → Calls Tryz.prog 13 #[.pointer (some ⟨b, 0, none⟩), .agg #[.int .u64 (z : Int), .int .u64 1125899906842624, .int .i64 (-1099511627776), .int .i64 1099511627776]] v fun e w' => ∃ A cap, e = .returned (.tuple #[.slice A 0 cap, .int .i64 0, .int .i64 0]) ∧ Below v.heap.size v w') := Lib.hid fun v b hby hg hs => by
        have hz := sc_none (fa := z) (fb := 1125899906842624) (fx := -1099511627776) (fy := 1099511627776) HCH.out (fun c hc => by
          obtain ⟨k, hk⟩ := List.getElem?_of_mem hc
          obtain ⟨t1, t2, t3, t4, t5, t6, t7, -⟩ := seg_told HCH.out HOF.out k c hk
          have hml := HML.out
          unfold mayB maxI minI
          rw [Bool.and_eq_false_iff]; right; rw [Bool.and_eq_false_iff]; left
          rw [decide_eq_false_iff_not]; split <;> omega)
        have h := scan_any b ps M h0 (by omega) HCH HFN (Lib.hid hby) HLN.out (z) (1125899906842624) (-1099511627776) (1099511627776) v (Lib.hid hs) (Lib.hid hg)
        rw [hz.1, hz.2] at h
        refine (show Calls Tryz.prog 13 #[.pointer (some ⟨b, 0, none⟩), .agg #[.int .u64 (z : Int), .int .u64 1125899906842624, .int .i64 (-1099511627776), .int .i64 1099511627776]] v _ from h).mono ?_
        rintro e w' ⟨A, q, cap, rfl, ho, -, -, hb⟩
        have hq : q = 0 := by have h := ho.1; have e : (evs ([] : List Ev)).length = 0 := rfl; omega
        subst hq
        exact ⟨A, cap, rfl, hb⟩
      have HSB : Hid (∀ (v : World) (b : Nat), (∀ x ∈ segB ps M, x < 256) → HalvesAt v → SegAt v b (segB ps M) ps (segCk M) (segPg M).length → Calls Tryz.prog 13 #[.pointer (some ⟨b, 0, none⟩), .agg #[.int .u64 0, .int .u64 10, .int .i64 (-1099511627776), .int .i64 1099511627776]] v fun e w' => ∃ A cap, e = .returned (.tuple #[.slice A 0 cap, .int .i64 0, .int .i64 0]) ∧ Below v.heap.size v w') := Lib.hid fun v b hby hg hs => by
        have hz := sc_none (fa := 0) (fb := 10) (fx := -1099511627776) (fy := 1099511627776) HCH.out (fun c hc => by
          obtain ⟨k, hk⟩ := List.getElem?_of_mem hc
          obtain ⟨t1, t2, t3, t4, t5, t6, t7, -⟩ := seg_told HCH.out HOF.out k c hk
          have hml := HML.out
          unfold mayB maxI minI
          rw [Bool.and_eq_false_iff]; left
          rw [decide_eq_false_iff_not]; split <;> omega)
        have h := scan_any b ps M h0 (by omega) HCH HFN (Lib.hid hby) HLN.out (0) (10) (-1099511627776) (1099511627776) v (Lib.hid hs) (Lib.hid hg)
        rw [hz.1, hz.2] at h
        refine (show Calls Tryz.prog 13 #[.pointer (some ⟨b, 0, none⟩), .agg #[.int .u64 0, .int .u64 10, .int .i64 (-1099511627776), .int .i64 1099511627776]] v _ from h).mono ?_
        rintro e w' ⟨A, q, cap, rfl, ho, -, -, hb⟩
        have hq : q = 0 := by have h := ho.1; have e : (evs ([] : List Ev)).length = 0 := rfl; omega
        subst hq
        exact ⟨A, cap, rfl, hb⟩
      have HSC : Hid (∀ (v : World) (b : Nat), (∀ x ∈ segB ps M, x < 256) → HalvesAt v → SegAt v b (segB ps M) ps (segCk M) (segPg M).length → Calls Tryz.prog 13 #[.pointer (some ⟨b, 0, none⟩), .agg #[.int .u64 0, .int .u64 1099511627776, .int .i64 1099511627777, .int .i64 1125899906842624]] v fun e w' => ∃ A cap, e = .returned (.tuple #[.slice A 0 cap, .int .i64 0, .int .i64 0]) ∧ Below v.heap.size v w') := Lib.hid fun v b hby hg hs => by
        have hz := sc_none (fa := 0) (fb := 1099511627776) (fx := 1099511627777) (fy := 1125899906842624) HCH.out (fun c hc => by
          obtain ⟨k, hk⟩ := List.getElem?_of_mem hc
          obtain ⟨t1, t2, t3, t4, t5, t6, t7, -⟩ := seg_told HCH.out HOF.out k c hk
          have hml := HML.out
          unfold mayB maxI minI
          rw [Bool.and_eq_false_iff]; right; rw [Bool.and_eq_false_iff]; right
          rw [decide_eq_false_iff_not]; split <;> split <;> omega)
        have h := scan_any b ps M h0 (by omega) HCH HFN (Lib.hid hby) HLN.out (0) (1099511627776) (1099511627777) (1125899906842624) v (Lib.hid hs) (Lib.hid hg)
        rw [hz.1, hz.2] at h
        refine (show Calls Tryz.prog 13 #[.pointer (some ⟨b, 0, none⟩), .agg #[.int .u64 0, .int .u64 1099511627776, .int .i64 1099511627777, .int .i64 1125899906842624]] v _ from h).mono ?_
        rintro e w' ⟨A, q, cap, rfl, ho, -, -, hb⟩
        have hq : q = 0 := by have h := ho.1; have e : (evs ([] : List Ev)).length = 0 := rfl; omega
        subst hq
        exact ⟨A, cap, rfl, hb⟩
      have HSD : Hid (∀ (v : World) (b : Nat), (∀ x ∈ segB ps M, x < 256) → HalvesAt v → SegAt v b (segB ps M) ps (segCk M) (segPg M).length → Calls Tryz.prog 13 #[.pointer (some ⟨b, 0, none⟩), .agg #[.int .u64 0, .int .u64 1099511627776, .int .i64 (-1099511627776), .int .i64 1099511627776]] v fun e w' => ∃ A cap, e = .returned (.tuple #[.slice A m cap, .int .i64 (segN M : Int), .int .i64 0]) ∧ EvAt w' A (M.map canE) ∧ Below v.heap.size v w') := Lib.hid fun v b hby hg hs => by
        have hz := sc_all (fa := 0) (fb := 1099511627776) (fx := -1099511627776) (fy := 1099511627776) HCH.out (want_all HCH.out)
        have h := scan_any b ps M h0 (by omega) HCH HFN (Lib.hid hby) HLN.out 0 1099511627776 (-1099511627776) 1099511627776 v (Lib.hid hs) (Lib.hid hg)
        rw [hz.1, hz.2] at h
        refine (show Calls Tryz.prog 13 #[.pointer (some ⟨b, 0, none⟩), .agg #[.int .u64 0, .int .u64 1099511627776, .int .i64 (-1099511627776), .int .i64 1099511627776]] v _ from h).mono ?_
        rintro e w' ⟨A, q, cap, rfl, ho, -, -, hb⟩
        have hq : q = m := by have h := ho.1; have h2 := HML.out; have e : (evs (M.map canE)).length = (M.map canE).length * 5 := (by simp [evs_length]); rw [List.length_map] at e; omega
        subst hq
        exact ⟨A, cap, rfl, ho.at', hb⟩
      have HSM := Lib.hid (can_same HFN.out)
      have HML2 : Hid (m = (M.map canE).length) := Lib.hid (by rw [List.length_map]; exact HML.out)
      obtain ⟨N, hN⟩ : ∃ N, N = segN M := ⟨_, rfl⟩
      have hNm : N = (m + 63) / 64 := by rw [hN, HML.out]; rfl
      rw [← hN] at HSD
      clear hEA hx0 HFN HCH HLM hwp hrm hwa h3 h3i HST hN hM15 HOF h0
      generalize segB ps M = P at *
      generalize segCk M = cs at *
      generalize (segPg M).length = foot at *
      go_upto_region 11 with (first
        | (go_at_call 10; (with_reducible refine HW.out.mono ?_); rintro e w3 ⟨A3, m3, c3, rfl, h1, h2⟩; have HO3 := Lib.hid h1; have HK3 := Lib.hid h2; have HB3 := Lib.hid (below_to HB2.out h2); clear h1 h2)
        | (go_at_call 11; have hop := open_any A3 m3 c3 P (Lib.hid HO3.out.len) (by have := HLN.out; have := HO3.out.len; omega) HO3.out.caps.1 HO3.out.caps.2 w3 (Lib.hid HO3.out.byAt) (Lib.hid (HG.out.keep HB3.out)); rw [HOP.out HO3.out.2] at hop; (with_reducible refine hop.mono ?_); rintro e w4 ⟨b, rfl, hs, -, h2⟩; have HS4 : Hid (SegAt w4 b P ps cs foot) := Lib.hid hs; have HK4 := Lib.hid (below_to HK3.out h2); have HB4 := Lib.hid (below_to HB3.out h2); clear hop hs h2))
      have HBY := Lib.hid HO3.out.2
      clear HW HOP HLN
      have h10 : IntKind.i64.wrap (10 + (m : Int)) = ((10 + m : Nat) : Int) := by rw [IntKind.wrap_i64]; omega
      obtain ⟨n10, hn10⟩ : ∃ n10, n10 = 10 + m := ⟨_, rfl⟩
      rw [← hn10] at h10
      have h11 : IntKind.u64.wrap (n10 : Int) = (n10 : Int) := by rw [IntKind.wrap_u64]; omega
      have h12 : IntKind.u64.wrap (bY : Int) = (bY : Int) := by rw [IntKind.wrap_u64]; omega
      have h13 : IntKind.u64.wrap ((n10 : Int) + (bY : Int)) = (z : Int) := by rw [IntKind.wrap_u64]; omega
      obtain ⟨y, hy⟩ : ∃ y, y = m + 63 := ⟨_, rfl⟩
      have h14 : IntKind.i64.wrap ((m : Int) + 63) = (y : Int) := by rw [IntKind.wrap_i64]; omega
      have h15 : (y : Int).tdiv 64 = (N : Int) := by rw [Int.tdiv_eq_ediv_of_nonneg (by omega)]; omega
      have h16 : IntKind.i64.wrap (N : Int) = (N : Int) := by rw [IntKind.wrap_i64]; omega
      clear hz hn10 hy hNm
      go_wp2_with (first
        | (go_at_call 13; (with_reducible refine (HSA.out w4 b HBY.out (HG.out.keep HB4.out) HS4.out).mono ?_); rintro e w5 ⟨A5, c5, rfl, h⟩; have HB5 := Lib.hid (below_to HB4.out h); have HK5 := Lib.hid (below_to HK4.out h); have HS5 := Lib.hid (HS4.out.keep h); clear h)
        | (go_at_call 13; (with_reducible refine (HSB.out w5 b HBY.out (HG.out.keep HB5.out) HS5.out).mono ?_); rintro e w6 ⟨A6, c6, rfl, h⟩; have HB6 := Lib.hid (below_to HB5.out h); have HK6 := Lib.hid (below_to HK5.out h); have HS6 := Lib.hid (HS5.out.keep h); clear h)
        | (go_at_call 13; (with_reducible refine (HSC.out w6 b HBY.out (HG.out.keep HB6.out) HS6.out).mono ?_); rintro e w7 ⟨A7, c7, rfl, h⟩; have HB7 := Lib.hid (below_to HB6.out h); have HK7 := Lib.hid (below_to HK6.out h); have HS7 := Lib.hid (HS6.out.keep h); clear h)
        | (go_at_call 13; (with_reducible refine (HSD.out w7 b HBY.out (HG.out.keep HB7.out) HS7.out).mono ?_); rintro e w8 ⟨A8, c8, rfl, hev, h⟩; have HB8 := Lib.hid (below_to HB7.out h); have HK8 := Lib.hid (below_to HK7.out h); have HE8 := Lib.hid hev; clear h hev)
        | (go_at_call 16; (with_reducible refine (sameAllS_any A8 (some ⟨gm, om, none⟩) m c8 cm (M.map canE) M HML2 HML (by omega) HSM w8 HE8 (Lib.hid (HEM.out.keep HK8.out))).mono ?_); rintro e w9 ⟨rfl, h⟩; have HB9 := Lib.hid (below_to HB8.out h); clear h))
      go_ret
      exact ⟨by first | rfl | simp, HB9.out⟩
end Go.Proofs.YtenmjofbamihdaaGreatDoor
