/-
  Layer event: symMerge of one event and many.
-/
import Derived.Test.YtjldamkmdkaiiaaGreatDoorEkK
import Derived.Test.YtjldamkmdkaiiaaGreatDoorTkK
set_option linter.unusedSimpArgs false
set_option linter.unusedVariables false
namespace Go.Proofs.YtjldamkmdkaiiaaGreatDoor
open Go.RowKit Go.Sort
theorem cmpE (x y : Ev) (w : World) : Calls Tryz.prog 71 #[.agg x.cells.toArray, .agg y.cells.toArray] w fun e w' => e = .returned (.int .i64 (evCmp x y)) ∧ ∃ q os, w' = grow (w.drewN q) os := compare_any x y w
def SymGives (w0 : World) (blk cap N a m b : Nat) (l : List Ev) (w : World) : Prop :=
 Calls Tryz.prog 105 #[.slice (some ⟨blk, 0, none⟩) N cap, .int .i64 a, .int .i64 m, .int .i64 b, .func (.func 71) #[] #[]] w fun e w' => e = .returned (.tuple #[]) ∧ SWE w0 blk (mrg (ltOf evCmp) l a m b) w'
theorem SymGives.at {w0 w : World} {blk cap N a m b : Nat} {l : List Ev} (h : SymGives w0 blk cap N a m b l w) : Calls Tryz.prog 105 #[.slice (some ⟨blk, 0, none⟩) N cap, .int .i64 a, .int .i64 m, .int .i64 b, .func (.func 71) #[] #[]] w fun e w' => e = .returned (.tuple #[]) ∧ SWE w0 blk (mrg (ltOf evCmp) l a m b) w' := h
theorem ltE_true {x y : Ev} {r : Int} (h : evCmp x y = r) (hr : r < 0) : ltOf evCmp x y = true := by unfold ltOf; rw [h]; exact decide_eq_true hr
theorem ltE_false {x y : Ev} {r : Int} (h : evCmp x y = r) (hr : ¬ r < 0) : ltOf evCmp x y = false := by unfold ltOf; rw [h]; exact decide_eq_false hr
def RB (w0 : World) (blk : Nat) (l : List Ev) (P1 P2 : Nat → Prop) (lo hi : Nat) (u v : Value) (wr : World) : Prop := ∃ i j : Nat, u = .int .i64 i ∧ v = .int .i64 j ∧ lo ≤ i ∧ i ≤ j ∧ j ≤ hi ∧ Hid (∀ k, lo ≤ k → k < i → P1 k) ∧ Hid (∀ k, j ≤ k → k < hi → P2 k) ∧ SWE w0 blk l wr
def RS1 (w0 : World) (blk : Nat) (l : List Ev) (a b i : Nat) (v : Value) (wr : World) : Prop := ∃ k : Nat, v = .int .i64 k ∧ a ≤ k ∧ k + 1 ≤ i ∧ SWE w0 blk (shape1 l a b (k - a)) wr
def RS2 (w0 : World) (blk : Nat) (l : List Ev) (a m i : Nat) (v : Value) (wr : World) : Prop := ∃ k : Nat, v = .int .i64 k ∧ i ≤ k ∧ k ≤ m ∧ SWE w0 blk (shape2 l a m (k - a)) wr
set_option maxRecDepth 100000 in
set_option maxHeartbeats 8000000 in
theorem sym_one (blk cap a m b N : Nat) (hm1 : m ≤ a + 1) (hm2 : a + 1 ≤ m) (l : List Ev) (w0 w : World) (HR : Hid (RowE w0 blk N)) (hLN0 : l.length = N) (HS0 : Hid (SWE w0 blk l w)) (hab : m < b) (hb : b ≤ N) (hsz : N ≤ 1000000) (ho : Hid (Ordered (ltOf evCmp) (seg l m b))) :
  SymGives w0 blk cap N a m b l w := by
 unfold SymGives
 have HLN := Lib.hid hLN0
 clear hLN0
 have hq : ((m : Int) - (a : Int) == 1) = true := by simp; omega
 go_enter Tryz.func105, Tryz.ntmps105
 go_wp2
 go_loopw [10, 11] (fun u v wr => RB w0 blk l (fun k => ltOf evCmp l[k]! l[a]! = true) (fun k => ltOf evCmp l[k]! l[a]! = false) m b u v wr) (fun u v _ => (intOf v - intOf u).toNat)
 case atStart => exact ⟨m, b, rfl, rfl, Nat.le_refl _, by omega, Nat.le_refl _, fun k h1 h2 => by omega, fun k h1 h2 => by omega, HS0.out⟩
 case round =>
  obtain ⟨i, j, rfl, rfl, hi, hij, hjb, HI, HJ, hst⟩ := hrel
  have HS := Lib.hid hst
  clear hst HS0 hq
  by_cases hlt : i < j
  ·have hLN := HLN.out
   obtain ⟨h, hh, hh1, hh2⟩ : ∃ h : Nat, ((i : Int) + (j : Int)) / 2 = (h : Int) ∧ i ≤ h ∧ h < j := ⟨(i + j) / 2, by omega, by omega, by omega⟩
   obtain ⟨xh, hxh⟩ : ∃ x, l[h]! = x := ⟨_, rfl⟩
   obtain ⟨xa, hxa⟩ : ∃ x, l[a]! = x := ⟨_, rfl⟩
   obtain ⟨r, hr⟩ : ∃ r, evCmp xh xa = r := ⟨_, rfl⟩
   have HXH := Lib.hid hxh; have HXA := Lib.hid hxa; have HRR := Lib.hid hr
   clear hxh hxa hr
   have hhz : (h : Int) < (N : Int) := by omega
   have haz : (a : Int) < (N : Int) := by omega
   by_cases hneg : r < 0
   ·have hdec : decide (r < 0) = true := decide_eq_true hneg
    go_upto_region 5 with fail
    refine wp_region_held_drew (S := SWE w0 blk l) (by kernel_rfl) HS.out.drew (fun hHeld => ?_)
    refine tkm 0 (.func (.func 71) #[] #[]) rfl hHeld ?_
    try simp only [qz]
    refine tkm 1 (.slice (some ⟨blk, 0, none⟩) N cap) rfl hHeld ?_
    try simp only [qz]
    refine tkm 2 (.int .i64 (h : Nat)) rfl hHeld ?_
    try simp only [qz]
    refine tks 3 (.pointer (some ⟨blk, (h) * 5, none⟩)) rfl hHeld ?_
    try simp only [qz]
    refine tk 4 (.agg xh.cells.toArray) rfl (yieldsIf_load_mid rfl 51 (.tmp 43) rfl blk (h * 5) rfl xh.cells _ (fun w hw => by have h := swk_range hw HR hLN h (by omega); rw [HXH.out] at h; exact h) uEvent rfl (iEvent xh)) hHeld ?_
    try simp only [qz]
    refine tkm 5 (.slice (some ⟨blk, 0, none⟩) N cap) rfl hHeld ?_
    try simp only [qz]
    refine tkm 6 (.int .i64 (a : Nat)) rfl hHeld ?_
    try simp only [qz]
    refine tks 7 (.pointer (some ⟨blk, (a) * 5, none⟩)) rfl hHeld ?_
    try simp only [qz]
    refine tk 8 (.agg xa.cells.toArray) rfl (yieldsIf_load_mid rfl 51 (.tmp 47) rfl blk (a * 5) rfl xa.cells _ (fun w hw => by have h := swk_range hw HR hLN a (by omega); rw [HXA.out] at h; exact h) uEvent rfl (iEvent xa)) hHeld ?_
    try simp only [qz]
    refine rd1 9 rfl (fun K hK => ?_)
    go_simp
    refine (cmpE xh xa _).mono ?_
    rintro e w2 ⟨rfl, q2, os2, rfl⟩
    rw [HRR.out]
    replace hHeld : SWE w0 blk l _ := hHeld.grown q2 os2
    generalize grow _ os2 = w2 at *
    have HS2 := Lib.hid hHeld
    refine hK.out _ _ hHeld (fun hHeld => ?_)
    clear hK K
    try simp only [qz]
    refine rd1 10 rfl (fun K hK => ?_)
    go_simp
    refine hK.out _ _ hHeld (fun hHeld => ?_)
    clear hK K
    try simp only [qz]
    refine wpAnyH_done (by kernel_rfl) ?_ _
    go_wp2
    go_roundw
    case rel =>
     refine ⟨h + 1, j, by go_num, rfl, by omega, by omega, hjb, fun k h1 h2 => ?_, HJ, HS2.out⟩
     have e : ltOf evCmp l[h]! l[a]! = true := by rw [HXH.out, HXA.out]; exact ltE_true HRR.out hneg
     rcases Nat.lt_or_ge k h with h3 | h3
     ·exact wkE.mix2 (ordered_seg ho.out (by omega) k h h1 h3 (by omega)) e
     ·obtain rfl : k = h := by omega
      exact e
    case measure => simp [intOf]; omega
   ·have hdec : decide (r < 0) = false := decide_eq_false hneg
    go_upto_region 5 with fail
    refine wp_region_held_drew (S := SWE w0 blk l) (by kernel_rfl) HS.out.drew (fun hHeld => ?_)
    refine tkm 0 (.func (.func 71) #[] #[]) rfl hHeld ?_
    try simp only [qz]
    refine tkm 1 (.slice (some ⟨blk, 0, none⟩) N cap) rfl hHeld ?_
    try simp only [qz]
    refine tkm 2 (.int .i64 (h : Nat)) rfl hHeld ?_
    try simp only [qz]
    refine tks 3 (.pointer (some ⟨blk, (h) * 5, none⟩)) rfl hHeld ?_
    try simp only [qz]
    refine tk 4 (.agg xh.cells.toArray) rfl (yieldsIf_load_mid rfl 51 (.tmp 43) rfl blk (h * 5) rfl xh.cells _ (fun w hw => by have h := swk_range hw HR hLN h (by omega); rw [HXH.out] at h; exact h) uEvent rfl (iEvent xh)) hHeld ?_
    try simp only [qz]
    refine tkm 5 (.slice (some ⟨blk, 0, none⟩) N cap) rfl hHeld ?_
    try simp only [qz]
    refine tkm 6 (.int .i64 (a : Nat)) rfl hHeld ?_
    try simp only [qz]
    refine tks 7 (.pointer (some ⟨blk, (a) * 5, none⟩)) rfl hHeld ?_
    try simp only [qz]
    refine tk 8 (.agg xa.cells.toArray) rfl (yieldsIf_load_mid rfl 51 (.tmp 47) rfl blk (a * 5) rfl xa.cells _ (fun w hw => by have h := swk_range hw HR hLN a (by omega); rw [HXA.out] at h; exact h) uEvent rfl (iEvent xa)) hHeld ?_
    try simp only [qz]
    refine rd1 9 rfl (fun K hK => ?_)
    go_simp
    refine (cmpE xh xa _).mono ?_
    rintro e w2 ⟨rfl, q2, os2, rfl⟩
    rw [HRR.out]
    replace hHeld : SWE w0 blk l _ := hHeld.grown q2 os2
    generalize grow _ os2 = w2 at *
    have HS2 := Lib.hid hHeld
    refine hK.out _ _ hHeld (fun hHeld => ?_)
    clear hK K
    try simp only [qz]
    refine rd1 10 rfl (fun K hK => ?_)
    go_simp
    refine hK.out _ _ hHeld (fun hHeld => ?_)
    clear hK K
    try simp only [qz]
    refine wpAnyH_done (by kernel_rfl) ?_ _
    go_wp2
    go_roundw
    case rel =>
     refine ⟨i, h, rfl, by go_num, hi, by omega, by omega, HI, fun k h1 h2 => ?_, HS2.out⟩
     have e : ltOf evCmp l[h]! l[a]! = false := by rw [HXH.out, HXA.out]; exact ltE_false HRR.out hneg
     rcases Nat.lt_or_ge h k with h3 | h3
     ·exact wkE.nt _ _ _ (ordered_seg ho.out (by omega) h k (by omega) h3 (by omega)) e
     ·obtain rfl : k = h := by omega
      exact e
    case measure => simp [intOf]; omega
  ·obtain rfl : i = j := by omega
   have HM : Hid (mrg (ltOf evCmp) l a m b = shape1 l a b (i - (a + 1))) := Lib.hid (by
    obtain rfl : m = a + 1 := by omega
    exact mrg_one l a b (i - (a + 1)) (by omega) (by rw [HLN.out]; omega) ho.out (fun k h1 h2 h3 => HI.out k h1 (by omega)) (fun k h1 h2 => HJ.out k (by omega) h2))
   have hni : ¬ ((i : Int) < (i : Int)) := by omega
   clear HI HJ
   go_wp2
   clear hni
   go_loopw [13] (fun v wr => RS1 w0 blk l a b i v wr) (fun v _ => i - (intOf v).toNat)
   case atStart => exact ⟨a, rfl, Nat.le_refl _, by omega, by rw [Nat.sub_self, shape1_zero l a b (by omega) (by rw [HLN.out]; omega)]; exact HS.out⟩
   case round =>
    obtain ⟨k, rfl, hk1, hk2, hst⟩ := hrel
    have HS3 := Lib.hid hst
    clear hst HS
    by_cases hkl : k + 1 < i
    ·have hz : (k : Int) < (i : Int) - 1 := by omega
     obtain ⟨lk, hlk⟩ : ∃ lk, lk = shape1 l a b (k - a) := ⟨_, rfl⟩
     rw [← hlk] at HS3
     have hN : lk.length = N := by rw [hlk, shape1_len l a b _ (by omega) (by rw [HLN.out]; omega)]; exact HLN.out
     have HST : Hid (lswp lk k (k + 1) = shape1 l a b (k + 1 - a)) := Lib.hid (by
      have h := shape1_step l a b (k - a) (by omega) (by rw [HLN.out]; omega) (by omega)
      rw [show a + (k - a) = k by omega, show k - a + 1 = k + 1 - a by omega] at h
      rw [hlk]; exact h)
     clear hlk
     have r1 : IntKind.i64.wrap ((k : Int) + 1) = (k : Int) + 1 := IntWalk.i64_in _ (by omega)
     have b1 : (k : Int) < (N : Int) := by omega
     have b2 : (k : Int) + 1 < (N : Int) := by omega
     have p1 : ¬ ((k : Int) + 1 < 0) := by omega
     have p2 : (0 : Int) ≤ (k : Int) + 1 := by omega
     go_upto_region 11 with fail
     obtain ⟨xi, hxi⟩ : ∃ x, lk[k]! = x := ⟨_, rfl⟩
     obtain ⟨xj, hxj⟩ : ∃ x, lk[k + 1]! = x := ⟨_, rfl⟩
     have HXI := Lib.hid (swk_range HS3.out.drew HR hN (k) (by omega))
     have HXJ := Lib.hid (swk_range HS3.out.drew HR hN (k + 1) (by omega))
     obtain ⟨ht1, ht2, hsw⟩ := swk_swap HS3.out HR hN (k) (k + 1) (by omega) (by omega)
     rw [hxi] at HXI ht2 hsw; rw [hxj] at HXJ ht1 ht2 hsw
     have HT1 := Lib.hid ht1; have HT2 := Lib.hid ht2; have HSW := Lib.hid hsw
     clear ht1 ht2 hsw hxi hxj
     refine wp_region_held_drew (S := fun _ => True) (by kernel_rfl) trivial (fun hHeld => ?_)
     refine tkm 0 (.slice (some ⟨blk, 0, none⟩) N cap) rfl hHeld ?_
     try simp only [qz]
     refine tkm 1 (.int .i64 (k : Nat)) rfl hHeld ?_
     try simp only [qz]
     refine tkm 2 (.slice (some ⟨blk, 0, none⟩) N cap) rfl hHeld ?_
     try simp only [qz]
     refine tkm 3 (.int .i64 (k : Nat)) rfl hHeld ?_
     try simp only [qz]
     refine tks 4 (.int .i64 ((k : Int) + 1)) rfl hHeld ?_
     try simp only [qz]
     refine tkm 5 (.slice (some ⟨blk, 0, none⟩) N cap) rfl hHeld ?_
     try simp only [qz]
     refine tkm 6 (.int .i64 (k : Nat)) rfl hHeld ?_
     try simp only [qz]
     refine tks 7 (.int .i64 ((k : Int) + 1)) rfl hHeld ?_
     try simp only [qz]
     refine tks 8 (.pointer (some ⟨blk, (k + 1) * 5, none⟩)) rfl hHeld ?_
     try simp only [qz]
     refine tkm 10 (.slice (some ⟨blk, 0, none⟩) N cap) rfl hHeld ?_
     try simp only [qz]
     refine tkm 11 (.int .i64 (k : Nat)) rfl hHeld ?_
     try simp only [qz]
     refine tks 12 (.pointer (some ⟨blk, (k) * 5, none⟩)) rfl hHeld ?_
     try simp only [qz]
     refine wpAnyH_ready (rs := [9, 13]) (by kernel_rfl) (by simp) (AllReadyH.cons rfl (fun K hK => ?_) (AllReadyH.cons rfl (fun K hK => ?_) AllReadyH.nil))
     ·skip
      rw [if_pos (by rfl)]
      refine wp_load_mid 51 (.tmp 69) rfl blk ((k + 1) * 5) rfl xj.cells _ HXJ.out uEvent rfl (iEvent xj) ?_
      refine hK.out _ _ trivial (fun hHeld => ?_)
      clear hK K
      try simp only [qz]
      refine rd1 13 rfl (fun K hK => ?_)
      rw [if_pos (by rfl)]
      refine wp_load_mid 51 (.tmp 73) rfl blk (k * 5) rfl xi.cells _ HXI.out uEvent rfl (iEvent xi) ?_
      refine hK.out _ _ trivial (fun hHeld => ?_)
      clear hK K
      try simp only [qz]
      refine tks 14 (.pointer (some ⟨blk, (k) * 5, none⟩)) rfl hHeld ?_
      try simp only [qz]
      refine rd1 15 rfl (fun K hK => ?_)
      rw [if_pos (by rfl)]
      refine wp_store_ev (.tmp 75) (.tmp 70) rfl blk (k * 5) xj rfl rfl _ HT1.out ?_
      refine hK.out _ _ trivial (fun hHeld => ?_)
      clear hK K
      try simp only [qz]
      refine tks 16 (.pointer (some ⟨blk, (k + 1) * 5, none⟩)) rfl hHeld ?_
      try simp only [qz]
      refine rd1 17 rfl (fun K hK => ?_)
      rw [if_pos (by rfl)]
      refine wp_store_ev (.tmp 76) (.tmp 74) rfl blk ((k + 1) * 5) xi rfl rfl _ HT2.out ?_
      refine hK.out _ _ trivial (fun hHeld => ?_)
      clear hK K
      try dsimp only [Act.put]
      refine wpAnyH_done (by kernel_rfl) ?_ _
      clear HT1 HT2 HXI HXJ
      generalize World.setCells _ _ _ _ = wz at *
      go_wp2
      go_roundw
      case rel => exact ⟨k + 1, by go_num, by omega, by omega, by rw [← HST.out]; exact HSW.out⟩
      case measure => simp [intOf]; omega
     ·skip
      rw [if_pos (by rfl)]
      refine wp_load_mid 51 (.tmp 73) rfl blk (k * 5) rfl xi.cells _ HXI.out uEvent rfl (iEvent xi) ?_
      refine hK.out _ _ trivial (fun hHeld => ?_)
      clear hK K
      try simp only [qz]
      refine rd1 9 rfl (fun K hK => ?_)
      rw [if_pos (by rfl)]
      refine wp_load_mid 51 (.tmp 69) rfl blk ((k + 1) * 5) rfl xj.cells _ HXJ.out uEvent rfl (iEvent xj) ?_
      refine hK.out _ _ trivial (fun hHeld => ?_)
      clear hK K
      try simp only [qz]
      refine tks 14 (.pointer (some ⟨blk, (k) * 5, none⟩)) rfl hHeld ?_
      try simp only [qz]
      refine rd1 15 rfl (fun K hK => ?_)
      rw [if_pos (by rfl)]
      refine wp_store_ev (.tmp 75) (.tmp 70) rfl blk (k * 5) xj rfl rfl _ HT1.out ?_
      refine hK.out _ _ trivial (fun hHeld => ?_)
      clear hK K
      try simp only [qz]
      refine tks 16 (.pointer (some ⟨blk, (k + 1) * 5, none⟩)) rfl hHeld ?_
      try simp only [qz]
      refine rd1 17 rfl (fun K hK => ?_)
      rw [if_pos (by rfl)]
      refine wp_store_ev (.tmp 76) (.tmp 74) rfl blk ((k + 1) * 5) xi rfl rfl _ HT2.out ?_
      refine hK.out _ _ trivial (fun hHeld => ?_)
      clear hK K
      try dsimp only [Act.put]
      refine wpAnyH_done (by kernel_rfl) ?_ _
      clear HT1 HT2 HXI HXJ
      generalize World.setCells _ _ _ _ = wz at *
      go_wp2
      go_roundw
      case rel => exact ⟨k + 1, by go_num, by omega, by omega, by rw [← HST.out]; exact HSW.out⟩
      case measure => simp [intOf]; omega
    ·have hz : ¬ ((k : Int) < (i : Int) - 1) := by omega
     have e : k + 1 = i := by omega
     go_wp2
     refine bodyPost_ret (v := .tuple #[]) (by simp [results, Tryz.results105, go_sem]) rfl ⟨rfl, ?_⟩
     rw [HM.out, show i - (a + 1) = k - a by omega]; exact HS3.out
end Go.Proofs.YtjldamkmdkaiiaaGreatDoor
