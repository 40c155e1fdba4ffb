/-
  The law SegmentTurned: a segment in which bits were turned tells a fault, and no events.
-/
import Derived.Test.YtifabkbdiiolfaaGreatDoorYecK
import Derived.Test.YtifabkbdiiolfaaGreatDoorYebK
import Derived.Test.YtifabkbdiiolfaaGreatDoorYzcK
import Derived.Test.YtifabkbdiiolfaaGreatDoorYsaK
import Derived.Test.YtifabkbdiiolfaaGreatDoorJnK
set_option linter.unusedSimpArgs false
set_option linter.unusedVariables false
set_option maxRecDepth 8000
namespace Go.Proofs.YtifabkbdiiolfaaGreatDoor
open Go.RowKit Go.WideShapes Col
theorem evOut_ne {p : Int} {Q : List Nat} {i : Int} {c : Nat} (h : evOut p Q i = .inl c) : ¬ (c : Int) = 0 := by
 unfold evOut at h
 split at h
 ·rename_i h0; injection h with h; omega
 ·split at h
  ·injection h with h; omega
  ·split at h
   ·cases h
   ·injection h with h; omega
theorem evOut_end {p : Int} {Q : List Nat} {i : Int} {y : List Ev × Int} (h : evOut p Q i = .inr y) : Pg.errAt Q i = 0 ∧ y.2 = Pg.endAt Q i := by
 unfold evOut at h
 split at h
 ·cases h
 ·rename_i h0
  split at h
  ·cases h
  ·split at h
   ·injection h with h; subst h; exact ⟨by omega, rfl⟩
   ·cases h
/-- A scan of all of a segment of which a page is none, or ends elsewhere. -/
theorem scan_turned (bs ps : Nat) (M : List Ev) (h0 : 0 < M.length) (h9 : M.length ≤ 900) (hck : Hid (chkL (ps : Int) none M = 0)) (hfin : Hid (∀ x ∈ M, FineE x)) (Q : List Nat) (hlen : Q.length ≤ 100000) (hby : ∀ x ∈ Q, x < 256) (i : Nat) (hi : i < segN M)
  (hgood : ∀ j, j < i → ∃ q tl, Q = q ++ (Pg.lay 101 (evY (pcs M j)) ++ tl) ∧ q.length = ahead M j) (hbad : Pg.errAt Q (ahead M i : Int) ≠ 0 ∨ (Pg.errAt Q (ahead M i : Int) = 0 ∧ Pg.endAt Q (ahead M i : Int) ≠ (ahead M (i + 1) : Int)))
  (fa fb : Nat) (fx fy : Int) (hall : ∀ c ∈ segCk M, mayB fa fb fx fy c = true) (w : World) (HS : Hid (SegAt w bs Q ps (segCk M) (segPg M).length)) (HG : Hid (HalvesAt w)) :
  Calls Tryz.prog 16 #[.pointer (some ⟨bs, 0, none⟩), .agg #[.int .u64 (fa : Int), .int .u64 (fb : Int), .int .i64 fx, .int .i64 fy]] w fun e w' => ∃ ec : Nat, ¬ (ec : Int) = 0 ∧ e = .returned (.tuple #[.slice none 0 0, .int .i64 0, .int .i64 (ec : Int)]) ∧ Below w.heap.size w w' := by
 obtain ⟨A, n, c, A2, n2, c2, h1, h2, h3, h4, h5, h6⟩ := HS.out
 have hn2 : n2 = (segCk M).length := by have h := h6.1; rw [cks_length] at h; omega
 have hNN : 0 < segN M ∧ segN M ≤ 15 := by unfold segN; omega
 have hcl := segCk_len M
 have hCA := h6.at'
 obtain ⟨ck0, hck0⟩ : ∃ x, (segCk M)[0]? = some x := ⟨_, List.getElem?_eq_getElem (by omega)⟩
 obtain ⟨gc, oc, rfl, -, -⟩ := ckr hCA 0 ck0 hck0
 obtain ⟨a, ha⟩ : ∃ a, M[0]? = some a := ⟨_, List.getElem?_eq_getElem h0⟩
 obtain ⟨ci, hci⟩ : ∃ x, (segCk M)[i]? = some x := ⟨_, List.getElem?_eq_getElem (by omega)⟩
 have hpi : ci.pl = ahead M i := by
  obtain ⟨h, e⟩ := wrS_get M (segN M) i ci hci
  rw [e]; exact (segCk_facts hck.out ha i hi (ahead M i)).2.1
 have HR : ∃ ec : Nat, ¬ (ec : Int) = 0 ∧ ∀ v, Below w.heap.size w v → Calls Tryz.prog 50 #[.pointer (some ⟨bs, 0, none⟩), .int .i64 (i : Int)] v fun e w' => e = .returned (.tuple #[.slice none 0 0, .int .i64 (ec : Int)]) ∧ Below v.heap.size v w' := by
  have hev := fun (w1 : World) (hb : Below w.heap.size w w1) => evReadA_any A n c (ci.pl : Int) (ps : Int) Q (Lib.hid h2) (by omega) h4 h5 w1 (Lib.hid (h3.keep hb)) (Lib.hid (HG.out.keep hb))
  rcases he : evOut (ps : Int) Q (ci.pl : Int) with ec | y
  ·refine ⟨ec, evOut_ne he, fun v hb => ?_⟩
   exact rowsOf_err bs ps (segPg M).length A n c gc oc n2 c2 (segCk M) (Lib.hid hn2) (by omega) i ci (Lib.hid hci) ec (evOut_ne he) v (Lib.hid (row_keepS h1 hb)) (Lib.hid (hCA.keep hb)) (Lib.hid fun w1 hb1 => by
    have h := hev w1 (below_to hb hb1)
    rw [he] at h; exact h)
  ·obtain ⟨g1, g2⟩ := evOut_end he
   refine ⟨3, by decide, fun v hb => ?_⟩
   exact rowsOf_form bs ps (segPg M).length A n c gc oc n2 c2 (segCk M) (Lib.hid hn2) (by omega) i ci (Lib.hid hci) y.1 y.2 (by
    rw [g2, endB_seg hck.out i hi, hpi]
    rcases hbad with h | h
    ·exact absurd (by rw [← hpi]; exact g1) h
    ·exact h.2) v (Lib.hid (row_keepS h1 hb)) (Lib.hid (hCA.keep hb)) (Lib.hid fun w1 hb1 => by
    have h := hev w1 (below_to hb hb1)
    rw [he] at h
    refine Calls.mono h ?_
    rintro e w' ⟨L, m, rfl, -, -, h⟩
    exact ⟨L, m, rfl, h⟩)
 obtain ⟨ec, hec, HRB⟩ := HR
 refine (scan_bad i ec hec bs ps (segPg M).length gc oc n2 c2 (.slice A n c) (segCk M) (Lib.hid hn2) (Lib.hid (by omega)) (by omega) (fun i => (pcs M i).map canE) (Lib.hid fun i => by
   rw [List.length_map, pcs_len (l := M) (j := i) h0]; exact (lnC_facts h0).2.1) (fun k => scO fa fb fx fy M k) (fun k => scN fa fb fx fy M k) (Lib.hid ⟨by simp [scO], by simp [scN]⟩) fa fb fx fy
  (Lib.hid fun k c hc hm => ⟨scO_skip hck.out hc hm, by rw [scN_succ _ _ _ _ hc, hm]; rfl⟩)
  (Lib.hid fun k c hc hm => ⟨scO_succ fa fb fx fy (wrS_get M (segN M) k c hc).1, by rw [scN_succ _ _ _ _ hc, hm]; rfl⟩)
  (Lib.hid fun k => Nat.le_trans (scO_len fa fb fx fy M k) h9) (Lib.hid fun k => scN_le fa fb fx fy M k) w (Lib.hid h1) (Lib.hid hCA)
  (Lib.hid fun ck hc => hall ck (List.mem_of_getElem? hc)) (Lib.hid HRB) (Lib.hid fun j ck hj hc v hb => ?_)).mono (fun e w' h => ⟨ec, hec, h.1, h.2⟩)
 obtain ⟨hjn, hck2⟩ := wrS_get M (segN M) j ck hc
 obtain ⟨q, tl, hseg, hq⟩ := hgood j hj
 have h64 : 64 * j < M.length := by unfold segN at hjn; omega
 have hpl : ck.pl = ahead M j := by rw [hck2]; exact (segCk_facts hck.out ha j hjn (ahead M j)).2.1
 have hlp := pcs_len (l := M) (j := j) h0
 have hlf := lnC_facts (len := M.length) (j := j) h0
 have hfp : ∀ x ∈ pcs M j, FineE x := fun x hx => hfin.out x (pcs_mem hx)
 refine rowsOf_any bs ps (segPg M).length A n c gc oc n2 c2 (segCk M) (Lib.hid hn2) (by omega) j ck (Lib.hid hc) ((pcs M j).map canE) (by rw [List.length_map]; omega) (by rw [List.length_map]; omega) v (Lib.hid (row_keepS h1 hb)) (Lib.hid (hCA.keep hb)) (Lib.hid fun w1 hb1 => ?_) (Lib.hid (by rw [chkL_can]; exact pcs_chk hck.out j hjn)) (Lib.hid (by rw [ckOf_can, hpl]; exact hck2.symm))
 have hb2 : Below w.heap.size w w1 := below_to hb hb1
 have hw : ∀ x ∈ evY (pcs M j), x < 256 := fun x hx => hby x (by
  rw [hseg]
  refine List.mem_append_right _ (List.mem_append_left _ ?_)
  unfold Pg.lay
  rw [Pg.front_four]
  exact List.mem_append_left _ (List.mem_append_right _ (List.mem_cons_of_mem _ hx)))
 refine (evRead_mid A n c ck.pl q tl (pcs M j) (ps : Int) (by omega) (Lib.hid hfp) (chk_form _ _ (pcs_chk hck.out j hjn)) (Lib.hid (by rw [hpl]; exact hq.symm)) hw (Lib.hid (by rw [← hseg]; exact h2)) h4 h5 w1 (Lib.hid (by rw [← hseg]; exact h3.keep hb2)) (Lib.hid (HG.out.keep hb2))).mono ?_
 rintro e w' ⟨L, rfl, h1, h2, h3⟩
 refine ⟨L, (pcs M j).length, ?_, by rw [List.length_map], h1, h2, h3⟩
 have hend : ((endB (segCk M) (segPg M).length j : Nat) : Int) = (ck.pl : Int) + 5 + ((evY (pcs M j)).length : Int) + 4 := by
  rw [endB_seg hck.out j hjn, ahead_succ, hpl]; omega
 rw [hend]
theorem may_all {p : Int} {M : List Ev} {b : Nat} (hck : chkL p none M = 0) (hb : ∀ a, M[0]? = some a → a.off = b) : ∀ c ∈ segCk M, mayB 0 1099511627776 (-1099511627776) 1099511627776 c = true := fun c hc => by
 obtain ⟨k, hk⟩ := List.getElem?_of_mem hc
 obtain ⟨-, -, -, -, -, -, -, x, hx, hin⟩ := seg_told hck hb k c hk
 exact inCk_may hin (want_all hck x hx)
theorem segB_short (p : Nat) (hp : p ≤ 8) (l : List Ev) (h0 : 0 < l.length) (hn9 : l.length ≤ 100) (hfin : ∀ x ∈ l, FineE x) : (segB p l).length ≤ 90000 ∧ 13 ≤ (segB p l).length := by
 have hN : segN l ≤ 2 := by unfold segN; omega
 have hlen := wrS_len l h0 hfin (chP (segN l))
 rw [chP_len] at hlen
 have hok : ∀ x ∈ segCk l, CkOk x := wrS_ok l h0 hfin _ (by rw [chP_len]; omega)
 have h1 := cksB_len hok
 have h2 := segCk_len l
 have h3 := nsB_len (ns := [p, (segCk l).length]) (fun x hx => by simp only [List.mem_cons, List.not_mem_nil, or_false] at hx; omega)
 have h4 : [p, (segCk l).length].length = 2 := rfl
 have h5 : (segPg l).length ≤ 9281 * segN l := hlen.1
 have h6 : (Pg.four (segPg l).length).length = 4 := rfl
 unfold segB
 rw [List.length_append, List.length_append, Pg.lay_len, Pg.lay_len, h6]
 unfold footB
 rw [List.length_append]
 omega
set_option maxHeartbeats 8000000 in
theorem segmentTurned_any (A0 : Option Addr) (l : List Ev) (n c0 : Nat) (hn : Hid (n = l.length)) (hnc : n ≤ c0) (hcm : c0 ≤ maxLen) (hv : ∀ x ∈ l, x.val < 18446744073709551616) (at' : Nat) (hat : at' < 4294967296) (pt : Nat) (hpt : pt < 4294967296)
  (w : World) (HE : Hid (EvAt w A0 l)) (HG : Hid (HalvesAt w)) :
  Calls Tryz.prog 4 #[.slice A0 n c0, .int .u32 (at' : Int), .int .u32 (pt : Int)] w fun e w' => e = .returned (.bool true) ∧ Below w.heap.size w w' := by
 by_cases h3 : 100 < n
 ·have h3i : (100 : Int) < (n : Int) := by omega
  go_enter Tryz.func4, Tryz.ntmps4
  go_wp2_with (first
   | (go_at_call 11; (with_reducible refine (awakeS_any _ (Lib.hid (HG.out.keep HB1.out))).mono ?_); rintro e w2 ⟨rfl, h1⟩; have HB2 := Lib.hid (below_to HB1.out h1); clear h1)
   | (go_at_call 11; (with_reducible refine (awakeS_any _ (by first | exact HG | exact Lib.hid (HG.out.keep HB1.out))).mono ?_); rintro e w1 ⟨rfl, h1⟩; have HB1 := Lib.hid h1; clear h1))
  go_ret
  exact ⟨rfl, HB2.out⟩
 ·have h3i : ¬ (100 : Int) < (n : Int) := by omega
  have hlt : l.length ≤ 100 := by have := hn.out; omega
  have HFN : Hid (∀ x ∈ strE 0 (4 : Int) (l.take 150), FineE x) := Lib.hid (strE_fine 0 (4 : Int) (by omega) (l.take 150) (fun x hx => hv x (List.mem_of_mem_take hx)))
  have HCH : Hid (chkL ((4 : Nat) : Int) none (strE 0 (4 : Int) (l.take 150)) = 0) := Lib.hid (strE_chk 0 (4 : Int) (l.take 150))
  have HOF : Hid (∀ a, (strE 0 (4 : Int) (l.take 150))[0]? = some a → a.off = 0) := Lib.hid (fun a ha => strE_off 0 (4 : Int) (l.take 150) 0 a ha)
  have HLM : Hid ((strE 0 (4 : Int) (l.take 150)).length ≤ 100) := Lib.hid (Nat.le_trans (strE_len 0 (4 : Int) (l.take 150)) (by rw [List.length_take]; omega))
  have HST : Hid (∀ v, Below w.heap.size w v → Calls Tryz.prog 12 #[.slice A0 n c0, .int .u64 0, .int .i64 4] v fun e w' => ∃ A m cap, e = .returned (.slice A m cap) ∧ OwnE w' v.heap.size A m cap (strE 0 (4 : Int) (l.take 150)) ∧ m ≤ cap ∧ cap ≤ maxLen ∧ Below v.heap.size v w') := Lib.hid fun v hb => stretch_any A0 n c0 l hn 0 (by omega) (4 : Int) (by omega) v (Lib.hid (HE.out.keep hb))
  clear hlt hv
  generalize strE 0 (4 : Int) (l.take 150) = M at *
  go_enter Tryz.func4, Tryz.ntmps4
  go_upto_region 4 with (first
   | (go_at_call 11; (with_reducible refine (awakeS_any _ (by first | exact HG | exact Lib.hid (HG.out.keep HB1.out))).mono ?_); rintro e w1 ⟨rfl, h1⟩; have HB1 := Lib.hid h1; clear h1)
   | (go_at_call 12; (with_reducible refine (HST.out _ HB1.out).mono ?_); rintro e w2 ⟨A2, m, cm, rfl, h1, h2, h4, h5⟩; have HO2 := Lib.hid h1; have HC2 := Lib.hid (And.intro h2 h4); have HB2 := Lib.hid (below_to HB1.out h5); clear h1 h2 h4 h5))
  have HML : Hid (m = M.length) := Lib.hid (by have h := HO2.out.1; have e : (evs M).length = M.length * 5 := (by simp [evs_length]); omega)
  have hm15 : m ≤ 100 := by have := HML.out; have := HLM.out; omega
  by_cases hm0 : m = 0
  ·have hmi : ((m : Int) == 0) = true := by subst hm0; rfl
   go_wp2
   go_ret
   exact ⟨rfl, HB2.out⟩
  ·have hmi : ((m : Int) == 0) = false := by rw [beq_eq_false_iff_ne]; omega
   by_cases hp0 : pt = 0
   ·have hpi : ((pt : Int) == 0) = true := by subst hp0; rfl
    go_wp2
    go_ret
    exact ⟨rfl, HB2.out⟩
   ·have hpi : ((pt : Int) == 0) = false := by rw [beq_eq_false_iff_ne]; omega
    have hEA := HO2.out.at'
    have h0 : 0 < M.length := by have := HML.out; omega
    have hM15 : M.length ≤ 100 := HLM.out
    obtain ⟨x0, hx0⟩ : ∃ x, M[0]? = some x := ⟨_, List.getElem?_eq_getElem h0⟩
    obtain ⟨gm, om, rfl, -, -⟩ := evr hEA 0 x0 hx0
    have HEM := Lib.hid hEA
    have HW : Hid (Calls Tryz.prog 13 #[.slice (some ⟨gm, om, none⟩) m cm, .int .i64 4] w2 fun e w' => ∃ A m cap, e = .returned (.tuple #[.slice A m cap, .int .i64 0]) ∧ OwnS w' w2.heap.size A m cap (segB 4 M) ∧ Below w2.heap.size w2 w') := Lib.hid (write_any gm om m cm M HML (by omega) (by omega) HC2.out.1 HC2.out.2 4 (by omega) (by omega) HCH HFN w2 HEM (Lib.hid (HG.out.keep HB2.out)))
    have HOP : Hid ((∀ x ∈ segB 4 M, x < 256) → openP (segB 4 M) = some ((4, segCk M), (segPg M).length)) := Lib.hid fun hb => segB_opens 4 (by omega) (by omega) M h0 (by omega) HCH.out HFN.out hb
    have HLN := Lib.hid (segB_short 4 (by omega) M h0 (by omega) HFN.out)
    have HCASE0 : Hid ((∀ x ∈ segB 4 M, x < 256) → ∀ (K j : Nat), j ≤ 32 → K + j ≤ 8 * (segB 4 M).length → (pt % 2 ^ j = 0 → Pg.tl (segB 4 M) K pt j = segB 4 M) ∧ (¬ pt % 2 ^ j = 0 → openP (Pg.tl (segB 4 M) K pt j) = none ∨ (openP (Pg.tl (segB 4 M) K pt j) = some ((4, segCk M), (segPg M).length) ∧ ∀ (v : World) (b : Nat), HalvesAt v → SegAt v b (Pg.tl (segB 4 M) K pt j) 4 (segCk M) (segPg M).length → Calls Tryz.prog 16 #[.pointer (some ⟨b, 0, none⟩), .agg #[.int .u64 0, .int .u64 1099511627776, .int .i64 (-1099511627776), .int .i64 1099511627776]] v fun e w' => ∃ ec : Nat, ¬ (ec : Int) = 0 ∧ e = .returned (.tuple #[.slice none 0 0, .int .i64 0, .int .i64 (ec : Int)]) ∧ Below v.heap.size v w'))) := Lib.hid fun hby K j hj hK => by
     have hvl := Pg.val_tl (segB 4 M) K pt hby j hK
     have hl2 := Pg.tl_lt (segB 4 M) K pt hby j hK
     have hle := Pg.tl_len (segB 4 M) K pt j
     constructor
     ·intro hz
      rw [hz, Nat.mul_zero, Nat.xor_zero] at hvl
      exact Pg.val_inj _ _ hl2 hby hle hvl
     ·intro hz
      have hq9 : pt % 2 ^ j < 4294967296 := Nat.lt_of_le_of_lt (Nat.mod_le _ _) hpt
      have hne : Pg.tl (segB 4 M) K pt j ≠ segB 4 M := fun e => by
       rw [e] at hvl
       have h := Pg.xor_same (x := Pg.val (segB 4 M)) (y := Pg.val (segB 4 M) ^^^ 2 ^ K * (pt % 2 ^ j)) (by rw [← hvl, Nat.xor_self])
       have h2 : Pg.val (segB 4 M) ^^^ (Pg.val (segB 4 M) ^^^ 2 ^ K * (pt % 2 ^ j)) = 0 := by rw [← hvl, Nat.xor_self]
       rw [← Nat.xor_assoc, Nat.xor_self, Nat.zero_xor] at h2
       rcases Nat.mul_eq_zero.1 h2 with h3 | h3
       ·exact absurd h3 (Nat.pos_iff_ne_zero.1 (Nat.two_pow_pos K))
       ·exact hz h3
      have hnr : Near (segB 4 M) (Pg.tl (segB 4 M) K pt j) := ⟨hle, hl2, K, pt % 2 ^ j, hq9, by omega, hvl⟩
      rcases seg_turned 4 (by omega) M h0 (by omega) HFN.out hby (4, segCk M) (HOP.out hby) _ hnr hne with h | ⟨h, i, hi, hg, hbd⟩
      ·exact .inl h
      ·refine .inr ⟨h, fun v b hgv hs => ?_⟩
       exact scan_turned b 4 M h0 (by omega) HCH HFN (Pg.tl (segB 4 M) K pt j) (by rw [hle]; have := HLN.out.1; omega) hl2 i hi hg hbd 0 1099511627776 (-1099511627776) 1099511627776 (may_all HCH.out HOF.out) v (Lib.hid hs) (Lib.hid hgv)
    have HSD : Hid (∀ (v : World) (b : Nat), (∀ x ∈ segB 4 M, x < 256) → HalvesAt v → SegAt v b (segB 4 M) 4 (segCk M) (segPg M).length → Calls Tryz.prog 16 #[.pointer (some ⟨b, 0, none⟩), .agg #[.int .u64 0, .int .u64 1099511627776, .int .i64 (-1099511627776), .int .i64 1099511627776]] v fun e w' => ∃ A cap, e = .returned (.tuple #[.slice A m cap, .int .i64 (segN M : Int), .int .i64 0]) ∧ EvAt w' A (M.map canE) ∧ Below v.heap.size v w') := Lib.hid fun v b hby hg hs => by
     have hz := sc_all (fa := 0) (fb := 1099511627776) (fx := -1099511627776) (fy := 1099511627776) HCH.out (want_all HCH.out)
     have h := scan_any b 4 M h0 (by omega) HCH HFN (Lib.hid hby) (by have := HLN.out.1; omega) 0 1099511627776 (-1099511627776) 1099511627776 v (Lib.hid hs) (Lib.hid hg)
     rw [hz.1, hz.2] at h
     refine (show Calls Tryz.prog 16 #[.pointer (some ⟨b, 0, none⟩), .agg #[.int .u64 0, .int .u64 1099511627776, .int .i64 (-1099511627776), .int .i64 1099511627776]] v _ from h).mono ?_
     rintro e w' ⟨A, q, cap, rfl, ho, -, -, hb⟩
     have hq : q = m := by have h := ho.1; have h2 := HML.out; have e : (evs (M.map canE)).length = (M.map canE).length * 5 := (by simp [evs_length]); rw [List.length_map] at e; omega
     subst hq
     exact ⟨A, cap, rfl, ho.at', hb⟩
    have HSM := Lib.hid (can_same HFN.out)
    have HML2 : Hid (m = (M.map canE).length) := Lib.hid (by rw [List.length_map]; exact HML.out)
    clear hEA hx0 HFN HCH HLM h3 h3i HST hM15 HOF h0
    generalize segB 4 M = P at *
    generalize segCk M = cs at *
    generalize (segPg M).length = foot at *
    generalize segN M = N at *
    go_upto_region 7 with (go_at_call 13; (with_reducible refine HW.out.mono ?_); rintro e w3 ⟨A3, m3, cap2, rfl, h1, h2⟩; have HO3 := Lib.hid h1; have HK3 := Lib.hid h2; have HB3 := Lib.hid (below_to HB2.out h2); clear h1 h2)
    have HPL : Hid (m3 = P.length) := Lib.hid HO3.out.len
    have HM3 : Hid (m3 ≤ 90000 ∧ 13 ≤ m3) := Lib.hid (by have := HLN.out; have := HPL.out; omega)
    obtain ⟨g, cs3, rfl, hR3⟩ := HO3.out.row (by have := HM3.out; omega)
    have HR3 := Lib.hid hR3
    obtain ⟨K, hK⟩ : ∃ K, K = at' % (8 * m3) := ⟨_, rfl⟩
    have hKl : K < 8 * m3 := by rw [hK]; exact Nat.mod_lt _ (by have := HM3.out; omega)
    have HCASE : Hid (∀ j, j ≤ 32 → K + j ≤ 8 * m3 → (pt % 2 ^ j = 0 → Pg.tl P K pt j = P) ∧ (¬ pt % 2 ^ j = 0 → openP (Pg.tl P K pt j) = none ∨ (openP (Pg.tl P K pt j) = some ((4, cs), foot) ∧ ∀ (v : World) (b : Nat), HalvesAt v → SegAt v b (Pg.tl P K pt j) 4 cs foot → Calls Tryz.prog 16 #[.pointer (some ⟨b, 0, none⟩), .agg #[.int .u64 0, .int .u64 1099511627776, .int .i64 (-1099511627776), .int .i64 1099511627776]] v fun e w' => ∃ ec : Nat, ¬ (ec : Int) = 0 ∧ e = .returned (.tuple #[.slice none 0 0, .int .i64 0, .int .i64 (ec : Int)]) ∧ Below v.heap.size v w'))) := Lib.hid fun j hj hk => HCASE0.out HO3.out.2 K j hj (by rw [← HPL.out]; exact hk)
    have h8 : IntKind.i64.wrap (8 * (m3 : Int)) = 8 * (m3 : Int) := by rw [IntKind.wrap_i64]; have := HM3.out; omega
    have h9 : (at' : Int).tmod (8 * (m3 : Int)) = (K : Int) := by
     rw [Int.tmod_eq_emod_of_nonneg (by omega), hK]; push_cast; rfl
    have h9e : (at' : Int) % (8 * (m3 : Int)) = (K : Int) := by rw [hK]; push_cast; rfl
    have h10 : IntKind.i64.wrap (at' : Int) = (at' : Int) := by rw [IntKind.wrap_i64]; omega
    have h11 : IntKind.i64.wrap (K : Int) = (K : Int) := by rw [IntKind.wrap_i64]; have := HM3.out; omega
    have h12 : ((8 * (m3 : Int)) == 0) = false := by rw [beq_eq_false_iff_ne]; have := HM3.out; omega
    have h13 : (0 : Int) < 8 * (m3 : Int) := by have := HM3.out; omega
    clear hK hR3 HW HLN HCASE0 HO3
    go_wp2
    go_loopw [11, 12] (fun t i wr => ∃ j : Nat, j ≤ 32 ∧ K + j ≤ 8 * m3 ∧ i = .int .i64 j ∧ t = .bool (trn pt j) ∧ Tw w2.heap.size g m3 cap2 P K pt j w2 wr) (fun _ i _ => 32 - (intOf i).toNat)
    case atStart => exact ⟨0, by omega, by omega, rfl, by rw [trn_zero], cs3, HR3.out, HK3.out⟩
    case round =>
     obtain ⟨j, hj, hjN, rfl, rfl, hT⟩ := hrel
     have HT := Lib.hid hT
     clear hT
     obtain ⟨T, hTn⟩ : ∃ T, T = K + j := ⟨_, rfl⟩
     have hTe : (K : Int) + (j : Int) = (T : Int) := by omega
     have hTw : IntKind.i64.wrap (T : Int) = (T : Int) := by rw [IntKind.wrap_i64]; have := HM3.out; omega
     have HTn := Lib.hid hTn
     obtain ⟨hm9, hm13⟩ := HM3.out
     by_cases h32 : j < 32
     ·by_cases hN : T < 8 * m3
      ·have hNi : (T : Int) < 8 * (m3 : Int) := by omega
       have eb := bit_and pt j hpt
       by_cases hbit : pt / 2 ^ j % 2 = 1
       ·have HT1 := Lib.hid (trn_one pt j hbit)
        have hbi : ((pt / 2 ^ j % 2 : Nat) : Int) = 1 := by rw [hbit]; rfl
        rw [hbi] at eb
        clear hbi
        obtain ⟨csj, hRj, hBj⟩ := HT.out
        have hqN : T / 8 < (Pg.tl P K pt j).length := by rw [Pg.tl_len, ← HPL.out]; omega
        obtain ⟨hcell, hfree⟩ := hRj.cell (T / 8) _ (List.getElem?_eq_getElem hqN) (by omega)
        have hx := hRj.lt _ (List.getElem_mem hqN)
        have HX : Hid ((Pg.tl P K pt j).getD (T / 8) 0 = (Pg.tl P K pt j)[T / 8]) := Lib.hid (by rw [List.getD_eq_getElem?_getD, List.getElem?_eq_getElem hqN]; rfl)
        generalize (Pg.tl P K pt j)[T / 8] = x at *
        have q0 : (0 : Int) ≤ (T : Int) / 8 := by omega
        have q1 : (T : Int) / 8 < (m3 : Int) := by omega
        have q2 : ((T : Int) / 8).toNat = T / 8 := by omega
        have HRj := Lib.hid hRj
        have HBj := Lib.hid hBj
        have p2 : (2 : Int) ^ ((T : Int) % 8).toNat = ((2 ^ (T % 8) : Nat) : Int) := by rw [show ((T : Int) % 8).toNat = T % 8 by omega]; push_cast; rfl
        have hd := Pg.two_lt T
        clear hRj hBj hTn hqN
        have ex : bits .xor .u8 (x : Int) (2 ^ (T % 8) % 256) = ((x ^^^ 2 ^ (T % 8) : Nat) : Int) := by
         rw [← u8_xor_nat x (2 ^ (T % 8)) hx hd]
         congr 1
         have e : (2 : Int) ^ (T % 8) = ((2 ^ (T % 8) : Nat) : Int) := by push_cast; rfl
         rw [e]
         generalize 2 ^ (T % 8) = d at *
         omega
        have HF : Hid (Pg.tl P K pt (j + 1) = (Pg.tl P K pt j).set (T / 8) (x ^^^ 2 ^ (T % 8))) := Lib.hid (by
         rw [Pg.tl_succ, if_pos hbit, ← HTn.out]; unfold Pg.fl; rw [HX.out])
        have hx2 : x ^^^ 2 ^ (T % 8) < 256 := Nat.xor_lt_two_pow (n := 8) hx hd
        have hj1 : K + (j + 1) ≤ 8 * m3 := by have := HTn.out; omega
        go_wp2
        go_region
        go_wp2
        go_roundw
        case rel => exact ⟨j + 1, by omega, hj1, by go_num, by rw [HT1.out], _, by rw [HF.out]; exact (HRj.out.set (T / 8) _ hx2).drew, (HBj.out.setCell HRj.out.base _).drew⟩
        case measure => simp [intOf]; omega
       ·have hb0 : pt / 2 ^ j % 2 = 0 := by omega
        have HT0 := Lib.hid (trn_none pt j hb0)
        have hbi : ((pt / 2 ^ j % 2 : Nat) : Int) = 0 := by rw [hb0]; rfl
        rw [hbi] at eb
        clear hbi
        have HF : Hid (Pg.tl P K pt (j + 1) = Pg.tl P K pt j) := Lib.hid (by rw [Pg.tl_succ, if_neg hbit])
        have hj1 : K + (j + 1) ≤ 8 * m3 := by omega
        clear hTn
        go_wp2
        go_roundw
        case rel => exact ⟨j + 1, by omega, hj1, by go_num, by rw [HT0.out], by unfold Tw; rw [HF.out]; exact HT.out⟩
        case measure => simp [intOf]; omega
      ·have hNi : ¬ (T : Int) < 8 * (m3 : Int) := by omega
       clear hTn
       obtain ⟨csj, hRj, hBj⟩ := HT.out
       have hQL : (Pg.tl P K pt j).length = m3 := by rw [Pg.tl_len, ← HPL.out]
       have HO := Lib.hid (hRj.own hQL.symm)
       have HQB := Lib.hid HO.out.byAt
       have hcap := HO.out.caps.2
       have hcc := HO.out.caps.1
       have HBj := Lib.hid (below_to HB2.out hBj)
       have HEM2 := Lib.hid (HEM.out.keep hBj)
       have HC := Lib.hid (HCASE.out j hj (by omega))
       have HQ := Lib.hid HO.out.2
       clear hRj hBj HT
       have htr : trn pt j = decide (pt % 2 ^ j ≠ 0) := rfl
       have HLQ : Hid (m3 = (Pg.tl P K pt j).length) := Lib.hid hQL.symm
       clear hQL
       generalize Pg.tl P K pt j = Q at *
       have hop := open_any (some ⟨g, 0, none⟩) m3 cap2 Q HLQ (by have := HM3.out; omega) hcc hcap wr HQB (Lib.hid (HG.out.keep HBj.out))
       by_cases hq : pt % 2 ^ j = 0
       ·rw [show trn pt j = false by rw [htr]; simp [hq]]
        have hQP := HC.out.1 hq
        subst hQP
        rw [HOP.out HQ.out] at hop
        have HOPN := Lib.hid hop
        clear hop htr hq HC HCASE
        go_upto_region 18 with (go_at_call 14; (with_reducible refine HOPN.out.mono ?_); rintro e w4 ⟨b, rfl, hs, -, h2⟩; have HS4 := Lib.hid hs; have HB4 := Lib.hid (below_to HBj.out h2); have HE4 := Lib.hid (HEM2.out.keep h2); clear hs h2)
        go_wp2_with (first
         | (go_at_call 16; (with_reducible refine (HSD.out w4 b HQ.out (HG.out.keep HB4.out) HS4.out).mono ?_); rintro e w5 ⟨A5, c5, rfl, hev, h⟩; have HB5 := Lib.hid (below_to HB4.out h); have HE5 := Lib.hid (HE4.out.keep h); have HV5 := Lib.hid hev; clear h hev)
         | (go_at_call 19; (with_reducible refine (sameAllS_any A5 (some ⟨gm, om, none⟩) m c5 cm (M.map canE) M HML2 HML (by omega) HSM w5 HV5 HE5).mono ?_); rintro e w6 ⟨rfl, h⟩; have HB6 := Lib.hid (below_to HB5.out h); clear h))
        go_ret
        exact ⟨by first | rfl | simp, HB6.out⟩
       ·rw [show trn pt j = true by rw [htr]; simp [hq]]
        rcases HC.out.2 hq with ho | ⟨ho, hbad⟩
        ·rw [ho] at hop
         obtain hop : Calls Tryz.prog 14 #[.slice (some ⟨g, 0, none⟩) m3 cap2] wr (fun e w' => ∃ c : Nat, (c = 3 ∨ c = 4) ∧ e = .returned (.tuple #[.pointer none, .int .i64 (c : Int)]) ∧ Below wr.heap.size wr w') := hop
         have HOPN := Lib.hid hop
         clear hop htr hq HC HCASE
         go_upto_region 16 with (go_at_call 14; (with_reducible refine HOPN.out.mono ?_); rintro e w4 ⟨ec, hec, rfl, h2⟩; have HB4 := Lib.hid (below_to HBj.out h2); clear h2)
         rcases hec with rfl | rfl
         ·go_wp2
          go_ret
          exact ⟨by first | rfl | simp, HB4.out⟩
         ·go_wp2
          go_ret
          exact ⟨by first | rfl | simp, HB4.out⟩
        ·rw [ho] at hop
         have HOPN := Lib.hid hop
         have HBAD := Lib.hid hbad
         clear hop htr hq HC HCASE hbad
         go_upto_region 18 with (go_at_call 14; (with_reducible refine HOPN.out.mono ?_); rintro e w4 ⟨b, rfl, hs, -, h2⟩; have HS4 := Lib.hid hs; have HB4 := Lib.hid (below_to HBj.out h2); clear hs h2)
         go_wp2_with (go_at_call 16; (with_reducible refine (HBAD.out w4 b (HG.out.keep HB4.out) HS4.out).mono ?_); rintro e w5 ⟨ec, hec, rfl, h⟩; have HB5 := Lib.hid (below_to HB4.out h); clear h)
         go_ret
         exact ⟨by first | rfl | (simp; omega), HB5.out⟩
     ·clear hTn
      obtain ⟨csj, hRj, hBj⟩ := HT.out
      have hQL : (Pg.tl P K pt j).length = m3 := by rw [Pg.tl_len, ← HPL.out]
      have HO := Lib.hid (hRj.own hQL.symm)
      have HQB := Lib.hid HO.out.byAt
      have hcap := HO.out.caps.2
      have hcc := HO.out.caps.1
      have HBj := Lib.hid (below_to HB2.out hBj)
      have HEM2 := Lib.hid (HEM.out.keep hBj)
      have HC := Lib.hid (HCASE.out j hj (by omega))
      have HQ := Lib.hid HO.out.2
      clear hRj hBj HT
      have htr : trn pt j = decide (pt % 2 ^ j ≠ 0) := rfl
      have HLQ : Hid (m3 = (Pg.tl P K pt j).length) := Lib.hid hQL.symm
      clear hQL
      generalize Pg.tl P K pt j = Q at *
      have hop := open_any (some ⟨g, 0, none⟩) m3 cap2 Q HLQ (by have := HM3.out; omega) hcc hcap wr HQB (Lib.hid (HG.out.keep HBj.out))
      by_cases hq : pt % 2 ^ j = 0
      ·rw [show trn pt j = false by rw [htr]; simp [hq]]
       have hQP := HC.out.1 hq
       subst hQP
       rw [HOP.out HQ.out] at hop
       have HOPN := Lib.hid hop
       clear hop htr hq HC HCASE
       go_upto_region 18 with (go_at_call 14; (with_reducible refine HOPN.out.mono ?_); rintro e w4 ⟨b, rfl, hs, -, h2⟩; have HS4 := Lib.hid hs; have HB4 := Lib.hid (below_to HBj.out h2); have HE4 := Lib.hid (HEM2.out.keep h2); clear hs h2)
       go_wp2_with (first
        | (go_at_call 16; (with_reducible refine (HSD.out w4 b HQ.out (HG.out.keep HB4.out) HS4.out).mono ?_); rintro e w5 ⟨A5, c5, rfl, hev, h⟩; have HB5 := Lib.hid (below_to HB4.out h); have HE5 := Lib.hid (HE4.out.keep h); have HV5 := Lib.hid hev; clear h hev)
        | (go_at_call 19; (with_reducible refine (sameAllS_any A5 (some ⟨gm, om, none⟩) m c5 cm (M.map canE) M HML2 HML (by omega) HSM w5 HV5 HE5).mono ?_); rintro e w6 ⟨rfl, h⟩; have HB6 := Lib.hid (below_to HB5.out h); clear h))
       go_ret
       exact ⟨by first | rfl | simp, HB6.out⟩
      ·rw [show trn pt j = true by rw [htr]; simp [hq]]
       rcases HC.out.2 hq with ho | ⟨ho, hbad⟩
       ·rw [ho] at hop
        obtain hop : Calls Tryz.prog 14 #[.slice (some ⟨g, 0, none⟩) m3 cap2] wr (fun e w' => ∃ c : Nat, (c = 3 ∨ c = 4) ∧ e = .returned (.tuple #[.pointer none, .int .i64 (c : Int)]) ∧ Below wr.heap.size wr w') := hop
        have HOPN := Lib.hid hop
        clear hop htr hq HC HCASE
        go_upto_region 16 with (go_at_call 14; (with_reducible refine HOPN.out.mono ?_); rintro e w4 ⟨ec, hec, rfl, h2⟩; have HB4 := Lib.hid (below_to HBj.out h2); clear h2)
        rcases hec with rfl | rfl
        ·go_wp2
         go_ret
         exact ⟨by first | rfl | simp, HB4.out⟩
        ·go_wp2
         go_ret
         exact ⟨by first | rfl | simp, HB4.out⟩
       ·rw [ho] at hop
        have HOPN := Lib.hid hop
        have HBAD := Lib.hid hbad
        clear hop htr hq HC HCASE hbad
        go_upto_region 18 with (go_at_call 14; (with_reducible refine HOPN.out.mono ?_); rintro e w4 ⟨b, rfl, hs, -, h2⟩; have HS4 := Lib.hid hs; have HB4 := Lib.hid (below_to HBj.out h2); clear hs h2)
        go_wp2_with (go_at_call 16; (with_reducible refine (HBAD.out w4 b (HG.out.keep HB4.out) HS4.out).mono ?_); rintro e w5 ⟨ec, hec, rfl, h⟩; have HB5 := Lib.hid (below_to HB4.out h); clear h)
        go_ret
        exact ⟨by first | rfl | (simp; omega), HB5.out⟩
end Go.Proofs.YtifabkbdiiolfaaGreatDoor
