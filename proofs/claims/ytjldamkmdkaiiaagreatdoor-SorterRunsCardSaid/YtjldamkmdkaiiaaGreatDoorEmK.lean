/-
  Layer event: symMerge of many events and one.
-/
import Derived.Test.YtjldamkmdkaiiaaGreatDoorElK
import Derived.Test.YtjldamkmdkaiiaaGreatDoorTkK
set_option linter.unusedSimpArgs false
set_option linter.unusedVariables false
namespace Go.Proofs.YtjldamkmdkaiiaaGreatDoor
open Go.RowKit Go.Sort
set_option maxRecDepth 100000 in
set_option maxHeartbeats 8000000 in
theorem sym_last (blk cap a m b N : Nat) (hb1 : b ≤ m + 1) (hb2 : m + 1 ≤ b) (l : List Ev) (w0 w : World) (HR : Hid (RowE w0 blk N)) (hLN0 : l.length = N) (HS0 : Hid (SWE w0 blk l w)) (ham : a + 1 < m) (hb : b ≤ N) (hsz : N ≤ 1000000) (ho : Hid (Ordered (ltOf evCmp) (seg l a m))) :
  SymGives w0 blk cap N a m b l w := by
 unfold SymGives
 have HLN := Lib.hid hLN0
 clear hLN0
 have hq0 : ((m : Int) - (a : Int) == 1) = false := by simp; omega
 have hq : ((b : Int) - (m : Int) == 1) = true := by simp; omega
 go_enter Tryz.func105, Tryz.ntmps105
 go_wp2
 go_loopw [14, 15] (fun u v wr => RB w0 blk l (fun k => ltOf evCmp l[m]! l[k]! = false) (fun k => ltOf evCmp l[m]! l[k]! = true) a m u v wr) (fun u v _ => (intOf v - intOf u).toNat)
 case atStart => exact ⟨a, m, rfl, rfl, Nat.le_refl _, by omega, Nat.le_refl _, fun k h1 h2 => by omega, fun k h1 h2 => by omega, HS0.out⟩
 case round =>
  obtain ⟨i, j, rfl, rfl, hi, hij, hjb, HI, HJ, hst⟩ := hrel
  have HS := Lib.hid hst
  clear hst HS0 hq hq0
  by_cases hlt : i < j
  ·have hLN := HLN.out
   obtain ⟨h, hh, hh1, hh2⟩ : ∃ h : Nat, ((i : Int) + (j : Int)) / 2 = (h : Int) ∧ i ≤ h ∧ h < j := ⟨(i + j) / 2, by omega, by omega, by omega⟩
   obtain ⟨xh, hxh⟩ : ∃ x, l[h]! = x := ⟨_, rfl⟩
   obtain ⟨xa, hxa⟩ : ∃ x, l[m]! = x := ⟨_, rfl⟩
   obtain ⟨r, hr⟩ : ∃ r, evCmp xa xh = r := ⟨_, rfl⟩
   have HXH := Lib.hid hxh; have HXA := Lib.hid hxa; have HRR := Lib.hid hr
   clear hxh hxa hr
   have hhz : (h : Int) < (N : Int) := by omega
   have haz : (m : Int) < (N : Int) := by omega
   by_cases hneg : r < 0
   ·have hdec : decide (r < 0) = true := decide_eq_true hneg
    go_upto_region 17 with fail
    refine wp_region_held_drew (S := SWE w0 blk l) (by kernel_rfl) HS.out.drew (fun hHeld => ?_)
    refine tkm 0 (.func (.func 71) #[] #[]) rfl hHeld ?_
    try simp only [qz]
    refine tkm 1 (.slice (some ⟨blk, 0, none⟩) N cap) rfl hHeld ?_
    try simp only [qz]
    refine tkm 2 (.int .i64 (m : Nat)) rfl hHeld ?_
    try simp only [qz]
    refine tks 3 (.pointer (some ⟨blk, (m) * 5, none⟩)) rfl hHeld ?_
    try simp only [qz]
    refine tk 4 (.agg xa.cells.toArray) rfl (yieldsIf_load_mid rfl 51 (.tmp 95) rfl blk (m * 5) rfl xa.cells _ (fun w hw => by have h := swk_range hw HR hLN m (by omega); rw [HXA.out] at h; exact h) uEvent rfl (iEvent xa)) hHeld ?_
    try simp only [qz]
    refine tkm 5 (.slice (some ⟨blk, 0, none⟩) N cap) rfl hHeld ?_
    try simp only [qz]
    refine tkm 6 (.int .i64 (h : Nat)) rfl hHeld ?_
    try simp only [qz]
    refine tks 7 (.pointer (some ⟨blk, (h) * 5, none⟩)) rfl hHeld ?_
    try simp only [qz]
    refine tk 8 (.agg xh.cells.toArray) rfl (yieldsIf_load_mid rfl 51 (.tmp 99) rfl blk (h * 5) rfl xh.cells _ (fun w hw => by have h := swk_range hw HR hLN h (by omega); rw [HXH.out] at h; exact h) uEvent rfl (iEvent xh)) hHeld ?_
    try simp only [qz]
    refine rd1 9 rfl (fun K hK => ?_)
    go_simp
    refine (cmpE xa xh _).mono ?_
    rintro e w2 ⟨rfl, q2, os2, rfl⟩
    rw [HRR.out]
    replace hHeld : SWE w0 blk l _ := hHeld.grown q2 os2
    generalize grow _ os2 = w2 at *
    have HS2 := Lib.hid hHeld
    refine hK.out _ _ hHeld (fun hHeld => ?_)
    clear hK K
    try simp only [qz]
    refine rd1 10 rfl (fun K hK => ?_)
    go_simp
    refine hK.out _ _ hHeld (fun hHeld => ?_)
    clear hK K
    try simp only [qz]
    refine rd1 11 rfl (fun K hK => ?_)
    go_simp
    refine hK.out _ _ hHeld (fun hHeld => ?_)
    clear hK K
    try simp only [qz]
    refine wpAnyH_done (by kernel_rfl) ?_ _
    go_wp2
    go_roundw
    case rel =>
     refine ⟨i, h, rfl, by go_num, hi, by omega, by omega, HI, fun k h1 h2 => ?_, HS2.out⟩
     have e : ltOf evCmp l[m]! l[h]! = true := by rw [HXH.out, HXA.out]; exact ltE_true HRR.out hneg
     rcases Nat.lt_or_ge h k with h3 | h3
     ·exact wkE.mix e (ordered_seg ho.out (by omega) h k (by omega) h3 (by omega))
     ·obtain rfl : k = h := by omega
      exact e
    case measure => simp [intOf]; omega
   ·have hdec : decide (r < 0) = false := decide_eq_false hneg
    go_upto_region 17 with fail
    refine wp_region_held_drew (S := SWE w0 blk l) (by kernel_rfl) HS.out.drew (fun hHeld => ?_)
    refine tkm 0 (.func (.func 71) #[] #[]) rfl hHeld ?_
    try simp only [qz]
    refine tkm 1 (.slice (some ⟨blk, 0, none⟩) N cap) rfl hHeld ?_
    try simp only [qz]
    refine tkm 2 (.int .i64 (m : Nat)) rfl hHeld ?_
    try simp only [qz]
    refine tks 3 (.pointer (some ⟨blk, (m) * 5, none⟩)) rfl hHeld ?_
    try simp only [qz]
    refine tk 4 (.agg xa.cells.toArray) rfl (yieldsIf_load_mid rfl 51 (.tmp 95) rfl blk (m * 5) rfl xa.cells _ (fun w hw => by have h := swk_range hw HR hLN m (by omega); rw [HXA.out] at h; exact h) uEvent rfl (iEvent xa)) hHeld ?_
    try simp only [qz]
    refine tkm 5 (.slice (some ⟨blk, 0, none⟩) N cap) rfl hHeld ?_
    try simp only [qz]
    refine tkm 6 (.int .i64 (h : Nat)) rfl hHeld ?_
    try simp only [qz]
    refine tks 7 (.pointer (some ⟨blk, (h) * 5, none⟩)) rfl hHeld ?_
    try simp only [qz]
    refine tk 8 (.agg xh.cells.toArray) rfl (yieldsIf_load_mid rfl 51 (.tmp 99) rfl blk (h * 5) rfl xh.cells _ (fun w hw => by have h := swk_range hw HR hLN h (by omega); rw [HXH.out] at h; exact h) uEvent rfl (iEvent xh)) hHeld ?_
    try simp only [qz]
    refine rd1 9 rfl (fun K hK => ?_)
    go_simp
    refine (cmpE xa xh _).mono ?_
    rintro e w2 ⟨rfl, q2, os2, rfl⟩
    rw [HRR.out]
    replace hHeld : SWE w0 blk l _ := hHeld.grown q2 os2
    generalize grow _ os2 = w2 at *
    have HS2 := Lib.hid hHeld
    refine hK.out _ _ hHeld (fun hHeld => ?_)
    clear hK K
    try simp only [qz]
    refine rd1 10 rfl (fun K hK => ?_)
    go_simp
    refine hK.out _ _ hHeld (fun hHeld => ?_)
    clear hK K
    try simp only [qz]
    refine rd1 11 rfl (fun K hK => ?_)
    go_simp
    refine hK.out _ _ hHeld (fun hHeld => ?_)
    clear hK K
    try simp only [qz]
    refine wpAnyH_done (by kernel_rfl) ?_ _
    go_wp2
    go_roundw
    case rel =>
     refine ⟨h + 1, j, by go_num, rfl, by omega, by omega, hjb, fun k h1 h2 => ?_, HJ, HS2.out⟩
     have e : ltOf evCmp l[m]! l[h]! = false := by rw [HXH.out, HXA.out]; exact ltE_false HRR.out hneg
     rcases Nat.lt_or_ge k h with h3 | h3
     ·exact wkE.nt _ _ _ e (ordered_seg ho.out (by omega) k h h1 h3 (by omega))
     ·obtain rfl : k = h := by omega
      exact e
    case measure => simp [intOf]; omega
  ·obtain rfl : i = j := by omega
   have HM : Hid (mrg (ltOf evCmp) l a m b = shape2 l a m (i - a)) := Lib.hid (by
    obtain rfl : b = m + 1 := by omega
    exact mrg_last l a m (i - a) (by omega) (by rw [HLN.out]; omega) (fun k h1 h2 h3 => HI.out k h1 (by omega)) (fun k h1 h2 => HJ.out k (by omega) h2))
   have hni : ¬ ((i : Int) < (i : Int)) := by omega
   clear HI HJ
   go_wp2
   clear hni
   go_loopw [17] (fun v wr => RS2 w0 blk l a m i v wr) (fun v _ => (intOf v).toNat)
   case atStart => exact ⟨m, rfl, by omega, Nat.le_refl _, by rw [shape2_full l a m (by omega) (by rw [HLN.out]; omega)]; exact HS.out⟩
   case round =>
    obtain ⟨k1, rfl, hk1, hk2, hst⟩ := hrel
    have HS3 := Lib.hid hst
    clear hst HS
    by_cases hkl : i < k1
    ·obtain ⟨k, rfl⟩ : ∃ k, k1 = k + 1 := ⟨k1 - 1, by omega⟩
     have hz : (i : Int) < ((k + 1 : Nat) : Int) := by omega
     have hz' : (i : Int) < (k : Int) + 1 := by omega
     obtain ⟨lk, hlk⟩ : ∃ lk, lk = shape2 l a m (k + 1 - a) := ⟨_, rfl⟩
     rw [← hlk] at HS3
     have hN : lk.length = N := by rw [hlk, shape2_len l a m _ (by omega) (by rw [HLN.out]; omega)]; exact HLN.out
     have HST : Hid (lswp lk (k + 1) k = shape2 l a m (k - a)) := Lib.hid (by
      have h := shape2_step l a m (k - a) (by rw [HLN.out]; omega) (by omega)
      rw [show a + (k - a) = k by omega, show k - a + 1 = k + 1 - a by omega] at h
      rw [hlk]; exact h)
     clear hlk
     have r1 : IntKind.i64.wrap ((k : Int) + 1 - 1) = (k : Int) := by rw [show (k : Int) + 1 - 1 = (k : Int) by omega]; exact IntWalk.i64_in _ (by omega)
     have r2 : IntKind.i64.wrap (k : Int) = (k : Int) := IntWalk.i64_in _ (by omega)
     have b1 : (k : Int) < (N : Int) := by omega
     have b2 : (k : Int) + 1 < (N : Int) := by omega
     have p1 : ¬ ((k : Int) + 1 < 0) := by omega
     have p2 : (0 : Int) ≤ (k : Int) + 1 := by omega
     go_upto_region 23 with fail
     obtain ⟨xi, hxi⟩ : ∃ x, lk[k + 1]! = x := ⟨_, rfl⟩
     obtain ⟨xj, hxj⟩ : ∃ x, lk[k]! = x := ⟨_, rfl⟩
     have HXI := Lib.hid (swk_range HS3.out.drew HR hN (k + 1) (by omega))
     have HXJ := Lib.hid (swk_range HS3.out.drew HR hN (k) (by omega))
     obtain ⟨ht1, ht2, hsw⟩ := swk_swap HS3.out HR hN (k + 1) (k) (by omega) (by omega)
     rw [hxi] at HXI ht2 hsw; rw [hxj] at HXJ ht1 ht2 hsw
     have HT1 := Lib.hid ht1; have HT2 := Lib.hid ht2; have HSW := Lib.hid hsw
     clear ht1 ht2 hsw hxi hxj
     refine wp_region_held_drew (S := fun _ => True) (by kernel_rfl) trivial (fun hHeld => ?_)
     refine tkm 0 (.slice (some ⟨blk, 0, none⟩) N cap) rfl hHeld ?_
     try simp only [qz]
     refine tkm 1 (.int .i64 ((k + 1 : Nat) : Int)) rfl hHeld ?_
     try simp only [qz]
     refine tkm 2 (.slice (some ⟨blk, 0, none⟩) N cap) rfl hHeld ?_
     try simp only [qz]
     refine tkm 3 (.int .i64 ((k + 1 : Nat) : Int)) rfl hHeld ?_
     try simp only [qz]
     refine tks 4 (.int .i64 (k : Nat)) rfl hHeld ?_
     try simp only [qz]
     refine tkm 5 (.slice (some ⟨blk, 0, none⟩) N cap) rfl hHeld ?_
     try simp only [qz]
     refine tkm 6 (.int .i64 ((k + 1 : Nat) : Int)) rfl hHeld ?_
     try simp only [qz]
     refine tks 7 (.int .i64 (k : Nat)) rfl hHeld ?_
     try simp only [qz]
     refine tks 8 (.pointer (some ⟨blk, (k) * 5, none⟩)) rfl hHeld ?_
     try simp only [qz]
     refine tkm 10 (.slice (some ⟨blk, 0, none⟩) N cap) rfl hHeld ?_
     try simp only [qz]
     refine tkm 11 (.int .i64 ((k + 1 : Nat) : Int)) rfl hHeld ?_
     try simp only [qz]
     refine tks 12 (.pointer (some ⟨blk, (k + 1) * 5, none⟩)) rfl hHeld ?_
     try simp only [qz]
     refine wpAnyH_ready (rs := [9, 13]) (by kernel_rfl) (by simp) (AllReadyH.cons rfl (fun K hK => ?_) (AllReadyH.cons rfl (fun K hK => ?_) AllReadyH.nil))
     ·skip
      rw [if_pos (by rfl)]
      refine wp_load_mid 51 (.tmp 121) rfl blk (k * 5) rfl xj.cells _ HXJ.out uEvent rfl (iEvent xj) ?_
      refine hK.out _ _ trivial (fun hHeld => ?_)
      clear hK K
      try simp only [qz]
      refine rd1 13 rfl (fun K hK => ?_)
      rw [if_pos (by rfl)]
      refine wp_load_mid 51 (.tmp 125) rfl blk ((k + 1) * 5) rfl xi.cells _ HXI.out uEvent rfl (iEvent xi) ?_
      refine hK.out _ _ trivial (fun hHeld => ?_)
      clear hK K
      try simp only [qz]
      refine tks 14 (.pointer (some ⟨blk, (k + 1) * 5, none⟩)) rfl hHeld ?_
      try simp only [qz]
      refine rd1 15 rfl (fun K hK => ?_)
      rw [if_pos (by rfl)]
      refine wp_store_ev (.tmp 127) (.tmp 122) rfl blk ((k + 1) * 5) xj rfl rfl _ HT1.out ?_
      refine hK.out _ _ trivial (fun hHeld => ?_)
      clear hK K
      try simp only [qz]
      refine tks 16 (.pointer (some ⟨blk, (k) * 5, none⟩)) rfl hHeld ?_
      try simp only [qz]
      refine rd1 17 rfl (fun K hK => ?_)
      rw [if_pos (by rfl)]
      refine wp_store_ev (.tmp 128) (.tmp 126) rfl blk (k * 5) xi rfl rfl _ HT2.out ?_
      refine hK.out _ _ trivial (fun hHeld => ?_)
      clear hK K
      try dsimp only [Act.put]
      refine wpAnyH_done (by kernel_rfl) ?_ _
      clear HT1 HT2 HXI HXJ
      generalize World.setCells _ _ _ _ = wz at *
      go_wp2
      go_roundw
      case rel => exact ⟨k, by go_num, by omega, by omega, by rw [← HST.out]; exact HSW.out⟩
      case measure => (simp [intOf]; try omega)
     ·skip
      rw [if_pos (by rfl)]
      refine wp_load_mid 51 (.tmp 125) rfl blk ((k + 1) * 5) rfl xi.cells _ HXI.out uEvent rfl (iEvent xi) ?_
      refine hK.out _ _ trivial (fun hHeld => ?_)
      clear hK K
      try simp only [qz]
      refine rd1 9 rfl (fun K hK => ?_)
      rw [if_pos (by rfl)]
      refine wp_load_mid 51 (.tmp 121) rfl blk (k * 5) rfl xj.cells _ HXJ.out uEvent rfl (iEvent xj) ?_
      refine hK.out _ _ trivial (fun hHeld => ?_)
      clear hK K
      try simp only [qz]
      refine tks 14 (.pointer (some ⟨blk, (k + 1) * 5, none⟩)) rfl hHeld ?_
      try simp only [qz]
      refine rd1 15 rfl (fun K hK => ?_)
      rw [if_pos (by rfl)]
      refine wp_store_ev (.tmp 127) (.tmp 122) rfl blk ((k + 1) * 5) xj rfl rfl _ HT1.out ?_
      refine hK.out _ _ trivial (fun hHeld => ?_)
      clear hK K
      try simp only [qz]
      refine tks 16 (.pointer (some ⟨blk, (k) * 5, none⟩)) rfl hHeld ?_
      try simp only [qz]
      refine rd1 17 rfl (fun K hK => ?_)
      rw [if_pos (by rfl)]
      refine wp_store_ev (.tmp 128) (.tmp 126) rfl blk (k * 5) xi rfl rfl _ HT2.out ?_
      refine hK.out _ _ trivial (fun hHeld => ?_)
      clear hK K
      try dsimp only [Act.put]
      refine wpAnyH_done (by kernel_rfl) ?_ _
      clear HT1 HT2 HXI HXJ
      generalize World.setCells _ _ _ _ = wz at *
      go_wp2
      go_roundw
      case rel => exact ⟨k, by go_num, by omega, by omega, by rw [← HST.out]; exact HSW.out⟩
      case measure => (simp [intOf]; try omega)
    ·have hz : ¬ ((i : Int) < (k1 : Int)) := by omega
     obtain rfl : i = k1 := by omega
     go_wp2
     refine bodyPost_ret (v := .tuple #[]) (by simp [results, Tryz.results105, go_sem]) rfl ⟨rfl, ?_⟩
     rw [HM.out]; exact HS3.out
end Go.Proofs.YtjldamkmdkaiiaaGreatDoor
