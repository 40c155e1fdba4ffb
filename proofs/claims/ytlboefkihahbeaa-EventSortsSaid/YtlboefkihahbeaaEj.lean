/-
  Layer event: the library's swapRange and rotate of events.
-/
import Derived.Test.YtlboefkihahbeaaEi
import Derived.Shelf.SlSortCmp.KitK
import Derived.Deep.MidRow
set_option linter.unusedSimpArgs false
set_option linter.unusedVariables false
namespace Go.Proofs.Ytlboefkihahbeaa
open Go.RowKit Go.Sort

theorem uEvent : Try.prog.underlying 25 = some (.struct (Try.prog.fieldsOf 25)) := by kernel_rfl
theorem iEvent (x : Ev) : (Try.prog.info? 25).map (·.size) = some x.cells.length := by rw [cells_len]; kernel_rfl
theorem wp_store_ev {o : Oper} {a : Act} {w : World} {K : Act → World → Prop} {Q : Exit → Act → World → Prop} (x y : Operand) (ho : o.op = .store 25 x y) (b of : Nat) (v : Ev) (hx : a.eval x = .pointer (some ⟨b, of, none⟩)) (hy : a.eval y = .agg v.cells.toArray)
    (w' : World) (hst : (storeCells ⟨b, of, none⟩ v.cells 0).run Try.prog w = .ok () w') (h : K (a.put o.dst undef) w') : o.wp Try.prog a w K Q := by
  obtain ⟨i0, hi, hz0, hz1, hz2⟩ := info_parts infoEv
  have hv : (storeVar 25 ⟨b, of, none⟩ (.agg v.cells.toArray)).run Try.prog w = .ok () w' := by
    simp [storeVar, sizeOf, typeInfo, hi, hz1, Value.cells, cells_len, hst]
  unfold Oper.wp execOp
  simp only [ho, hx, hy, Instr.storeAt, Instr.sureAddr, Sem.run_bind, Sem.run_pure, Result.andThen_ok, hv]
  exact h
/-- What the family is told of the row. -/
abbrev RowE (w0 : World) (blk N : Nat) : Prop := ∃ l0 : List Ev, l0.length = N ∧ RowK Ev.cells 5 w0 blk 0 l0.toArray
abbrev SWE (w0 : World) (blk : Nat) (l : List Ev) (w : World) : Prop := SWK Ev.cells 5 w0 blk 0 l.toArray w
section
variable {w0 w : World} {blk N : Nat} {l : List Ev}
theorem swk_range (h : SWE w0 blk l w) (R : Hid (RowE w0 blk N)) (hN : l.length = N) (i : Nat) (hi : i < N) : w.rangeAt blk (i * 5) l[i]!.cells := by
  obtain ⟨l0, e0, R⟩ := R.out
  have hH := h.holds R.hblk R.hH (by simp; omega)
  intro j v hv
  have := HoldsK.cells hH R.hk (i := i) (by simp; omega) j v (by rw [ta_get]; exact hv)
  rw [Addr.add_lit, Nat.zero_add] at this; exact this
theorem swk_swap (h : SWE w0 blk l w) (R : Hid (RowE w0 blk N)) (hN : l.length = N) (i j : Nat) (hi : i < N) (hj : j < N) :
    Sem.run Try.prog (storeCells ⟨blk, i * 5, none⟩ l[j]!.cells 0) w.drew = .ok () (w.drew.setCells blk (i * 5) l[j]!.cells) ∧
    Sem.run Try.prog (storeCells ⟨blk, j * 5, none⟩ l[i]!.cells 0) (w.drew.setCells blk (i * 5) l[j]!.cells) = .ok () ((w.drew.setCells blk (i * 5) l[j]!.cells).setCells blk (j * 5) l[i]!.cells) ∧
    SWE w0 blk (lswp l i j) ((w.drew.setCells blk (i * 5) l[j]!.cells).setCells blk (j * 5) l[i]!.cells) := by
  obtain ⟨l0, e0, R⟩ := R.out
  have hs : l.toArray.size = l0.toArray.size := by simp; omega
  have h1 := h.st1 R hs Try.prog i (by simp; omega) l[j]!
  have h2 := h.st2 R hs Try.prog i j (by simp; omega) (by simp; omega) l[j]! l[i]!
  have h3 := h.swapped R i j (by simp; omega) (by simp; omega)
  rw [ta_get, ta_get, lswp_arr] at h3
  rw [Nat.zero_add] at h1 h2 h3
  rw [Nat.zero_add] at h2 h3
  exact ⟨h1, h2, h3⟩
end
/-- What swapRange leaves. -/
def SwapR (l : List Ev) (a b n : Nat) (m : List Ev) : Prop := m.length = l.length ∧ ∀ k, k < l.length → m[k]! = l[if a ≤ k ∧ k < a + n then b + (k - a) else if b ≤ k ∧ k < b + n then a + (k - b) else k]!
theorem SwapR.zero (l : List Ev) (a b : Nat) : SwapR l a b 0 l := ⟨rfl, fun k hk => by rw [if_neg (by omega), if_neg (by omega)]⟩
theorem SwapR.step {l m : List Ev} {a b i : Nat} (h : SwapR l a b i m) (hab : a + i < b) (hb : b + i < l.length) : SwapR l a b (i + 1) (lswp m (a + i) (b + i)) := by
  refine ⟨(lswp_len _ _ _).trans h.1, fun k hk => ?_⟩
  rw [lswp_get _ (by rw [h.1]; omega) (by rw [h.1]; omega), h.2 k hk, h.2 (a + i) (by omega), h.2 (b + i) (by omega)]
  by_cases h1 : k = b + i
  · rw [if_pos h1, if_neg (by omega), if_neg (by omega), if_neg (by omega), if_pos (by omega), show a + (k - b) = a + i by omega]
  · rw [if_neg h1]
    by_cases h2 : k = a + i
    · rw [if_pos h2, if_neg (by omega), if_neg (by omega), if_pos (by omega), show b + (k - a) = b + i by omega]
    · rw [if_neg h2]
      congr 1
      repeat' split
      all_goals omega
set_option maxHeartbeats 4000000 in
theorem swapRange_any (blk cap a b n N : Nat) (l : List Ev) (w0 w : World) (HR : Hid (RowE w0 blk N)) (hN : l.length = N) (HS0 : Hid (SWE w0 blk l w)) (hab : a + n ≤ b) (hb : b + n ≤ N) (hsz : N ≤ 1000000) :
    Calls Try.prog 39 #[.slice (some ⟨blk, 0, none⟩) N cap, .int .i64 a, .int .i64 b, .int .i64 n, .func (.func 16) #[] #[]] w fun e w' => e = .returned (.tuple #[]) ∧ ∃ m, SwapR l a b n m ∧ SWE w0 blk m w' := by
  have HNL := Lib.hid hN
  clear hN
  go_enter Try.func39, Try.ntmps39
  go_wp2
  go_loopw [10] (fun v wr => ∃ i : Nat, i ≤ n ∧ v = .int .i64 i ∧ ∃ m, SwapR l a b i m ∧ SWE w0 blk m wr) (fun v _ => n - (intOf v).toNat)
  case atStart => exact ⟨0, Nat.zero_le _, rfl, l, SwapR.zero l a b, HS0.out⟩
  case round =>
    obtain ⟨i, hi, rfl, lk, hsr, hst⟩ := hrel
    have HSR0 := Lib.hid hsr
    have HS := Lib.hid hst
    clear hsr hst HS0
    by_cases hlt : i < n
    · have hN : lk.length = N := HSR0.out.1.trans HNL.out
      have HSR := Lib.hid (HSR0.out.step (by omega) (by rw [HNL.out]; omega))
      have r1 : IntKind.i64.wrap ((a : Int) + (i : Int)) = (a : Int) + (i : Int) := IntWalk.i64_in _ (by omega)
      have r2 : IntKind.i64.wrap ((b : Int) + (i : Int)) = (b : Int) + (i : Int) := IntWalk.i64_in _ (by omega)
      have t1 : ((a : Int) + (i : Int)).toNat = a + i := by omega
      have t2 : ((b : Int) + (i : Int)).toNat = b + i := by omega
      have b1 : (a : Int) + (i : Int) < (N : Int) := by omega
      have b2 : (b : Int) + (i : Int) < (N : Int) := by omega
      have p1 : (0 : Int) ≤ (a : Int) + (i : Int) := by omega
      have p2 : (0 : Int) ≤ (b : Int) + (i : Int) := by omega
      go_upto_region 3 with fail
      obtain ⟨xi, hxi⟩ : ∃ x, lk[a + i]! = x := ⟨_, rfl⟩
      obtain ⟨xj, hxj⟩ : ∃ x, lk[b + i]! = x := ⟨_, rfl⟩
      have HXI := Lib.hid (swk_range HS.out.drew HR hN (a + i) (by omega))
      have HXJ := Lib.hid (swk_range HS.out.drew HR hN (b + i) (by omega))
      obtain ⟨ht1, ht2, hsw⟩ := swk_swap HS.out HR hN (a + i) (b + i) (by omega) (by omega)
      rw [hxi] at HXI ht2 hsw; rw [hxj] at HXJ ht1 ht2 hsw
      have HT1 := Lib.hid ht1; have HT2 := Lib.hid ht2; have HSW := Lib.hid hsw
      clear ht1 ht2 hsw hxi hxj
      refine wp_region_held_drew (S := fun _ => True) (by kernel_rfl) trivial (fun hHeld => ?_)
      refine wpAnyH_take (i := 0) (v := .slice (some ⟨blk, 0, none⟩) N cap) rfl (by kernel_rfl) (by kernel_rfl) (by kernel_rfl) (fun _ _ _ h => h) (Or.inl ⟨by rfl, fun _ _ => rfl⟩) hHeld ?_
      try dsimp only
      try simp only [Act.put, List.getElem_toArray, List.getElem_cons_zero, List.getElem_cons_succ, List.setIfInBounds_toArray, List.set_cons_zero, List.set_cons_succ]
      refine wpAnyH_take (i := 1) (v := .int .i64 (a : Nat)) rfl (by kernel_rfl) (by kernel_rfl) (by kernel_rfl) (fun _ _ _ h => h) (Or.inl ⟨by rfl, fun _ _ => rfl⟩) hHeld ?_
      try dsimp only
      try simp only [Act.put, List.getElem_toArray, List.getElem_cons_zero, List.getElem_cons_succ, List.setIfInBounds_toArray, List.set_cons_zero, List.set_cons_succ]
      refine wpAnyH_take (i := 2) (v := .int .i64 (i : Nat)) rfl (by kernel_rfl) (by kernel_rfl) (by kernel_rfl) (fun _ _ _ h => h) (Or.inl ⟨by rfl, fun _ _ => rfl⟩) hHeld ?_
      try dsimp only
      try simp only [Act.put, List.getElem_toArray, List.getElem_cons_zero, List.getElem_cons_succ, List.setIfInBounds_toArray, List.set_cons_zero, List.set_cons_succ]
      refine wpAnyH_take (i := 3) (v := .int .i64 ((a : Int) + (i : Int))) rfl (by kernel_rfl) (by kernel_rfl) (by kernel_rfl) (fun _ _ _ h => h) (Or.inl ⟨by rfl, fun w _ => by go_simp⟩) hHeld ?_
      try dsimp only
      try simp only [Act.put, List.getElem_toArray, List.getElem_cons_zero, List.getElem_cons_succ, List.setIfInBounds_toArray, List.set_cons_zero, List.set_cons_succ]
      refine wpAnyH_take (i := 4) (v := .slice (some ⟨blk, 0, none⟩) N cap) rfl (by kernel_rfl) (by kernel_rfl) (by kernel_rfl) (fun _ _ _ h => h) (Or.inl ⟨by rfl, fun _ _ => rfl⟩) hHeld ?_
      try dsimp only
      try simp only [Act.put, List.getElem_toArray, List.getElem_cons_zero, List.getElem_cons_succ, List.setIfInBounds_toArray, List.set_cons_zero, List.set_cons_succ]
      refine wpAnyH_take (i := 5) (v := .int .i64 (b : Nat)) rfl (by kernel_rfl) (by kernel_rfl) (by kernel_rfl) (fun _ _ _ h => h) (Or.inl ⟨by rfl, fun _ _ => rfl⟩) hHeld ?_
      try dsimp only
      try simp only [Act.put, List.getElem_toArray, List.getElem_cons_zero, List.getElem_cons_succ, List.setIfInBounds_toArray, List.set_cons_zero, List.set_cons_succ]
      refine wpAnyH_take (i := 6) (v := .int .i64 (i : Nat)) rfl (by kernel_rfl) (by kernel_rfl) (by kernel_rfl) (fun _ _ _ h => h) (Or.inl ⟨by rfl, fun _ _ => rfl⟩) hHeld ?_
      try dsimp only
      try simp only [Act.put, List.getElem_toArray, List.getElem_cons_zero, List.getElem_cons_succ, List.setIfInBounds_toArray, List.set_cons_zero, List.set_cons_succ]
      refine wpAnyH_take (i := 7) (v := .int .i64 ((b : Int) + (i : Int))) rfl (by kernel_rfl) (by kernel_rfl) (by kernel_rfl) (fun _ _ _ h => h) (Or.inl ⟨by rfl, fun w _ => by go_simp⟩) hHeld ?_
      try dsimp only
      try simp only [Act.put, List.getElem_toArray, List.getElem_cons_zero, List.getElem_cons_succ, List.setIfInBounds_toArray, List.set_cons_zero, List.set_cons_succ]
      refine wpAnyH_take (i := 8) (v := .slice (some ⟨blk, 0, none⟩) N cap) rfl (by kernel_rfl) (by kernel_rfl) (by kernel_rfl) (fun _ _ _ h => h) (Or.inl ⟨by rfl, fun _ _ => rfl⟩) hHeld ?_
      try dsimp only
      try simp only [Act.put, List.getElem_toArray, List.getElem_cons_zero, List.getElem_cons_succ, List.setIfInBounds_toArray, List.set_cons_zero, List.set_cons_succ]
      refine wpAnyH_take (i := 9) (v := .int .i64 (b : Nat)) rfl (by kernel_rfl) (by kernel_rfl) (by kernel_rfl) (fun _ _ _ h => h) (Or.inl ⟨by rfl, fun _ _ => rfl⟩) hHeld ?_
      try dsimp only
      try simp only [Act.put, List.getElem_toArray, List.getElem_cons_zero, List.getElem_cons_succ, List.setIfInBounds_toArray, List.set_cons_zero, List.set_cons_succ]
      refine wpAnyH_take (i := 10) (v := .int .i64 (i : Nat)) rfl (by kernel_rfl) (by kernel_rfl) (by kernel_rfl) (fun _ _ _ h => h) (Or.inl ⟨by rfl, fun _ _ => rfl⟩) hHeld ?_
      try dsimp only
      try simp only [Act.put, List.getElem_toArray, List.getElem_cons_zero, List.getElem_cons_succ, List.setIfInBounds_toArray, List.set_cons_zero, List.set_cons_succ]
      refine wpAnyH_take (i := 11) (v := .int .i64 ((b : Int) + (i : Int))) rfl (by kernel_rfl) (by kernel_rfl) (by kernel_rfl) (fun _ _ _ h => h) (Or.inl ⟨by rfl, fun w _ => by go_simp⟩) hHeld ?_
      try dsimp only
      try simp only [Act.put, List.getElem_toArray, List.getElem_cons_zero, List.getElem_cons_succ, List.setIfInBounds_toArray, List.set_cons_zero, List.set_cons_succ]
      refine wpAnyH_take (i := 12) (v := .pointer (some ⟨blk, (b + i) * 5, none⟩)) rfl (by kernel_rfl) (by kernel_rfl) (by kernel_rfl) (fun _ _ _ h => h) (Or.inl ⟨by rfl, fun w _ => by go_simp⟩) hHeld ?_
      try dsimp only
      try simp only [Act.put, List.getElem_toArray, List.getElem_cons_zero, List.getElem_cons_succ, List.setIfInBounds_toArray, List.set_cons_zero, List.set_cons_succ]
      refine wpAnyH_take (i := 14) (v := .slice (some ⟨blk, 0, none⟩) N cap) rfl (by kernel_rfl) (by kernel_rfl) (by kernel_rfl) (fun _ _ _ h => h) (Or.inl ⟨by rfl, fun _ _ => rfl⟩) hHeld ?_
      try dsimp only
      try simp only [Act.put, List.getElem_toArray, List.getElem_cons_zero, List.getElem_cons_succ, List.setIfInBounds_toArray, List.set_cons_zero, List.set_cons_succ]
      refine wpAnyH_take (i := 15) (v := .int .i64 (a : Nat)) rfl (by kernel_rfl) (by kernel_rfl) (by kernel_rfl) (fun _ _ _ h => h) (Or.inl ⟨by rfl, fun _ _ => rfl⟩) hHeld ?_
      try dsimp only
      try simp only [Act.put, List.getElem_toArray, List.getElem_cons_zero, List.getElem_cons_succ, List.setIfInBounds_toArray, List.set_cons_zero, List.set_cons_succ]
      refine wpAnyH_take (i := 16) (v := .int .i64 (i : Nat)) rfl (by kernel_rfl) (by kernel_rfl) (by kernel_rfl) (fun _ _ _ h => h) (Or.inl ⟨by rfl, fun _ _ => rfl⟩) hHeld ?_
      try dsimp only
      try simp only [Act.put, List.getElem_toArray, List.getElem_cons_zero, List.getElem_cons_succ, List.setIfInBounds_toArray, List.set_cons_zero, List.set_cons_succ]
      refine wpAnyH_take (i := 17) (v := .int .i64 ((a : Int) + (i : Int))) rfl (by kernel_rfl) (by kernel_rfl) (by kernel_rfl) (fun _ _ _ h => h) (Or.inl ⟨by rfl, fun w _ => by go_simp⟩) hHeld ?_
      try dsimp only
      try simp only [Act.put, List.getElem_toArray, List.getElem_cons_zero, List.getElem_cons_succ, List.setIfInBounds_toArray, List.set_cons_zero, List.set_cons_succ]
      refine wpAnyH_take (i := 18) (v := .pointer (some ⟨blk, (a + i) * 5, none⟩)) rfl (by kernel_rfl) (by kernel_rfl) (by kernel_rfl) (fun _ _ _ h => h) (Or.inl ⟨by rfl, fun w _ => by go_simp⟩) hHeld ?_
      try dsimp only
      try simp only [Act.put, List.getElem_toArray, List.getElem_cons_zero, List.getElem_cons_succ, List.setIfInBounds_toArray, List.set_cons_zero, List.set_cons_succ]
      refine wpAnyH_ready (rs := [13, 19]) (by kernel_rfl) (by simp) (AllReadyH.cons rfl (fun K hK => ?_) (AllReadyH.cons rfl (fun K hK => ?_) AllReadyH.nil))
      · skip
        rw [if_pos (by rfl)]
        refine wp_load_mid 25 (.tmp 28) rfl blk ((b + i) * 5) rfl xj.cells _ HXJ.out uEvent rfl (iEvent xj) ?_
        refine hK.out _ _ trivial (fun hHeld => ?_)
        clear hK K
        try dsimp only
        try simp only [Act.put, List.getElem_toArray, List.getElem_cons_zero, List.getElem_cons_succ, List.setIfInBounds_toArray, List.set_cons_zero, List.set_cons_succ]
        refine wpAnyH_ready (rs := [19]) (by kernel_rfl) (by simp) (AllReadyH.cons rfl (fun K hK => ?_) AllReadyH.nil)
        rw [if_pos (by rfl)]
        refine wp_load_mid 25 (.tmp 34) rfl blk ((a + i) * 5) rfl xi.cells _ HXI.out uEvent rfl (iEvent xi) ?_
        refine hK.out _ _ trivial (fun hHeld => ?_)
        clear hK K
        try dsimp only
        try simp only [Act.put, List.getElem_toArray, List.getElem_cons_zero, List.getElem_cons_succ, List.setIfInBounds_toArray, List.set_cons_zero, List.set_cons_succ]
        refine wpAnyH_take (i := 20) (v := .pointer (some ⟨blk, (a + i) * 5, none⟩)) rfl (by kernel_rfl) (by kernel_rfl) (by kernel_rfl) (fun _ _ _ h => h) (Or.inl ⟨by rfl, fun w _ => by go_simp⟩) hHeld ?_
        try dsimp only
        try simp only [Act.put, List.getElem_toArray, List.getElem_cons_zero, List.getElem_cons_succ, List.setIfInBounds_toArray, List.set_cons_zero, List.set_cons_succ]
        refine wpAnyH_ready (rs := [21]) (by kernel_rfl) (by simp) (AllReadyH.cons rfl (fun K hK => ?_) AllReadyH.nil)
        rw [if_pos (by rfl)]
        refine wp_store_ev (.tmp 36) (.tmp 29) rfl blk ((a + i) * 5) xj rfl rfl _ HT1.out ?_
        refine hK.out _ _ trivial (fun hHeld => ?_)
        clear hK K
        try dsimp only
        try simp only [Act.put, List.getElem_toArray, List.getElem_cons_zero, List.getElem_cons_succ, List.setIfInBounds_toArray, List.set_cons_zero, List.set_cons_succ]
        refine wpAnyH_take (i := 22) (v := .pointer (some ⟨blk, (b + i) * 5, none⟩)) rfl (by kernel_rfl) (by kernel_rfl) (by kernel_rfl) (fun _ _ _ h => h) (Or.inl ⟨by rfl, fun w _ => by go_simp⟩) hHeld ?_
        try dsimp only
        try simp only [Act.put, List.getElem_toArray, List.getElem_cons_zero, List.getElem_cons_succ, List.setIfInBounds_toArray, List.set_cons_zero, List.set_cons_succ]
        refine wpAnyH_ready (rs := [23]) (by kernel_rfl) (by simp) (AllReadyH.cons rfl (fun K hK => ?_) AllReadyH.nil)
        rw [if_pos (by rfl)]
        refine wp_store_ev (.tmp 37) (.tmp 35) rfl blk ((b + i) * 5) xi rfl rfl _ HT2.out ?_
        refine hK.out _ _ trivial (fun hHeld => ?_)
        clear hK K
        try dsimp only [Act.put]
        refine wpAnyH_done (by kernel_rfl) ?_ _
        clear HT1 HT2 HXI HXJ
        generalize World.setCells _ _ _ _ = wz at *
        go_wp2
        go_roundw
        case rel => exact ⟨i + 1, by omega, by go_num, _, HSR.out, HSW.out⟩
        case measure => simp [intOf]; omega
      · skip
        rw [if_pos (by rfl)]
        refine wp_load_mid 25 (.tmp 34) rfl blk ((a + i) * 5) rfl xi.cells _ HXI.out uEvent rfl (iEvent xi) ?_
        refine hK.out _ _ trivial (fun hHeld => ?_)
        clear hK K
        try dsimp only
        try simp only [Act.put, List.getElem_toArray, List.getElem_cons_zero, List.getElem_cons_succ, List.setIfInBounds_toArray, List.set_cons_zero, List.set_cons_succ]
        refine wpAnyH_ready (rs := [13]) (by kernel_rfl) (by simp) (AllReadyH.cons rfl (fun K hK => ?_) AllReadyH.nil)
        rw [if_pos (by rfl)]
        refine wp_load_mid 25 (.tmp 28) rfl blk ((b + i) * 5) rfl xj.cells _ HXJ.out uEvent rfl (iEvent xj) ?_
        refine hK.out _ _ trivial (fun hHeld => ?_)
        clear hK K
        try dsimp only
        try simp only [Act.put, List.getElem_toArray, List.getElem_cons_zero, List.getElem_cons_succ, List.setIfInBounds_toArray, List.set_cons_zero, List.set_cons_succ]
        refine wpAnyH_take (i := 20) (v := .pointer (some ⟨blk, (a + i) * 5, none⟩)) rfl (by kernel_rfl) (by kernel_rfl) (by kernel_rfl) (fun _ _ _ h => h) (Or.inl ⟨by rfl, fun w _ => by go_simp⟩) hHeld ?_
        try dsimp only
        try simp only [Act.put, List.getElem_toArray, List.getElem_cons_zero, List.getElem_cons_succ, List.setIfInBounds_toArray, List.set_cons_zero, List.set_cons_succ]
        refine wpAnyH_ready (rs := [21]) (by kernel_rfl) (by simp) (AllReadyH.cons rfl (fun K hK => ?_) AllReadyH.nil)
        rw [if_pos (by rfl)]
        refine wp_store_ev (.tmp 36) (.tmp 29) rfl blk ((a + i) * 5) xj rfl rfl _ HT1.out ?_
        refine hK.out _ _ trivial (fun hHeld => ?_)
        clear hK K
        try dsimp only
        try simp only [Act.put, List.getElem_toArray, List.getElem_cons_zero, List.getElem_cons_succ, List.setIfInBounds_toArray, List.set_cons_zero, List.set_cons_succ]
        refine wpAnyH_take (i := 22) (v := .pointer (some ⟨blk, (b + i) * 5, none⟩)) rfl (by kernel_rfl) (by kernel_rfl) (by kernel_rfl) (fun _ _ _ h => h) (Or.inl ⟨by rfl, fun w _ => by go_simp⟩) hHeld ?_
        try dsimp only
        try simp only [Act.put, List.getElem_toArray, List.getElem_cons_zero, List.getElem_cons_succ, List.setIfInBounds_toArray, List.set_cons_zero, List.set_cons_succ]
        refine wpAnyH_ready (rs := [23]) (by kernel_rfl) (by simp) (AllReadyH.cons rfl (fun K hK => ?_) AllReadyH.nil)
        rw [if_pos (by rfl)]
        refine wp_store_ev (.tmp 37) (.tmp 35) rfl blk ((b + i) * 5) xi rfl rfl _ HT2.out ?_
        refine hK.out _ _ trivial (fun hHeld => ?_)
        clear hK K
        try dsimp only [Act.put]
        refine wpAnyH_done (by kernel_rfl) ?_ _
        clear HT1 HT2 HXI HXJ
        generalize World.setCells _ _ _ _ = wz at *
        go_wp2
        go_roundw
        case rel => exact ⟨i + 1, by omega, by go_num, _, HSR.out, HSW.out⟩
        case measure => simp [intOf]; omega
    · have hin : i = n := by omega
      subst hin
      go_wp2
      go_end0
      exact ⟨rfl, lk, HSR0.out, HS.out⟩
/-- What rotate leaves: at each place what stood where. -/
def rotAt (lo m hi k : Nat) : Nat := if k < lo ∨ hi ≤ k then k else if k < lo + (hi - m) then m + (k - lo) else lo + (k - (lo + (hi - m)))
def Rot (l : List Ev) (lo m hi : Nat) (t : List Ev) : Prop := t.length = l.length ∧ ∀ k, k < l.length → t[k]! = l[rotAt lo m hi k]!
theorem rot_right {l s t : List Ev} {m i j : Nat} (h : Rot l (m - i) m (m + j) t) (hs : SwapR l (m - i) m j s) (hij : j < i) (him : i ≤ m) (hj : m + j ≤ l.length) : Rot s (m - (i - j)) m (m + j) t := by
  refine ⟨h.1.trans hs.1.symm, fun k hk => ?_⟩
  rw [hs.1] at hk
  have hr : rotAt (m - (i - j)) m (m + j) k < l.length := by unfold rotAt; split <;> (try split) <;> omega
  rw [h.2 k hk, hs.2 _ hr]
  congr 1
  unfold rotAt
  repeat' split
  all_goals omega
theorem rot_left {l s t : List Ev} {m i j : Nat} (h : Rot l (m - i) m (m + j) t) (hs : SwapR l (m - i) (m + j - i) i s) (hij : i < j) (him : i ≤ m) (hj : m + j ≤ l.length) : Rot s (m - i) m (m + (j - i)) t := by
  refine ⟨h.1.trans hs.1.symm, fun k hk => ?_⟩
  rw [hs.1] at hk
  have hr : rotAt (m - i) m (m + (j - i)) k < l.length := by unfold rotAt; split <;> (try split) <;> omega
  rw [h.2 k hk, hs.2 _ hr]
  congr 1
  unfold rotAt
  repeat' split
  all_goals omega
theorem rot_same {l s t : List Ev} {m i : Nat} (h : Rot l (m - i) m (m + i) t) (hs : SwapR l (m - i) m i s) (him : i ≤ m) (hj : m + i ≤ l.length) : s = t := by
  refine ext_get! (hs.1.trans h.1.symm) fun k hk => ?_
  rw [hs.1] at hk
  rw [h.2 k hk, hs.2 k hk]
  congr 1
  unfold rotAt
  repeat' split
  all_goals omega
set_option maxHeartbeats 4000000 in
theorem rotate_any (blk cap a m b N : Nat) (l t : List Ev) (w0 w : World) (HR : Hid (RowE w0 blk N)) (hN : l.length = N) (HS0 : Hid (SWE w0 blk l w)) (ham : a < m) (hmb : m < b) (hb : b ≤ N) (hsz : N ≤ 1000000) (ht : Hid (Rot l a m b t)) :
    Calls Try.prog 38 #[.slice (some ⟨blk, 0, none⟩) N cap, .int .i64 a, .int .i64 m, .int .i64 b, .func (.func 16) #[] #[]] w fun e w' => e = .returned (.tuple #[]) ∧ SWE w0 blk t w' := by
  have HNL := Lib.hid hN
  clear hN
  go_enter Try.func38, Try.ntmps38
  go_wp2
  go_loopw [10, 11] (fun u v wr => ∃ i j : Nat, u = .int .i64 i ∧ v = .int .i64 j ∧ 0 < i ∧ 0 < j ∧ i ≤ m ∧ m + j ≤ N ∧ ∃ lk, lk.length = N ∧ Rot lk (m - i) m (m + j) t ∧ SWE w0 blk lk wr) (fun u v _ => (intOf u).toNat + (intOf v).toNat)
  case atStart => exact ⟨m - a, b - m, by go_num, by go_num, by omega, by omega, by omega, by omega, l, HNL.out, by rw [show m - (m - a) = a by omega, show m + (b - m) = b by omega]; exact ht.out, HS0.out⟩
  case round =>
    obtain ⟨i, j, rfl, rfl, hi0, hj0, him, hjN, lk, hlk, hrot, hst⟩ := hrel
    have HROT := Lib.hid hrot
    have HS := Lib.hid hst
    have HLK := Lib.hid hlk
    clear hrot hst HS0 hlk
    have HMI : Hid ((m : Int) - (i : Int) = ((m - i : Nat) : Int)) := Lib.hid (by omega)
    rcases Nat.lt_trichotomy i j with h | h | h
    · have hq : ((i : Int) != (j : Int)) = true := by simp; omega
      have HMJ : Hid ((m : Int) + (j : Int) - (i : Int) = ((m + j - i : Nat) : Int)) := Lib.hid (by omega)
      go_wp2_with (go_at_call 39; rw [HMI.out, HMJ.out]; refine (swapRange_any blk cap (m - i) (m + j - i) i N lk w0 _ HR HLK.out HS (by omega) (by omega) hsz).mono ?_; rintro e w2 ⟨rfl, s, hsr, hs2⟩; have HSR := Lib.hid hsr; have HS2 := Lib.hid hs2; clear hsr hs2)
      go_roundw
      case rel => exact ⟨i, j - i, rfl, by go_num, by omega, by omega, by omega, by omega, s, HSR.out.1.trans HLK.out, rot_left HROT.out HSR.out h him (by rw [HLK.out]; omega), HS2.out⟩
      case measure => simp [intOf]; omega
    · subst h
      have hq : ((i : Int) != (i : Int)) = false := by simp
      go_wp2_with (go_at_call 39; rw [HMI.out]; refine (swapRange_any blk cap (m - i) m i N lk w0 _ HR HLK.out HS (by omega) (by omega) hsz).mono ?_; rintro e w2 ⟨rfl, s, hsr, hs2⟩; have HSR := Lib.hid hsr; have HS2 := Lib.hid hs2; clear hsr hs2)
      go_end0
      refine ⟨rfl, ?_⟩
      have e := rot_same HROT.out HSR.out him (by rw [HLK.out]; omega)
      rw [← e]; exact HS2.out
    · have hq : ((i : Int) != (j : Int)) = true := by simp; omega
      go_wp2_with (go_at_call 39; rw [HMI.out]; refine (swapRange_any blk cap (m - i) m j N lk w0 _ HR HLK.out HS (by omega) (by omega) hsz).mono ?_; rintro e w2 ⟨rfl, s, hsr, hs2⟩; have HSR := Lib.hid hsr; have HS2 := Lib.hid hs2; clear hsr hs2)
      go_roundw
      case rel => exact ⟨i - j, j, by go_num, rfl, by omega, by omega, by omega, by omega, s, HSR.out.1.trans HLK.out, rot_right HROT.out HSR.out h him (by rw [HLK.out]; omega), HS2.out⟩
      case measure => simp [intOf]; omega
end Go.Proofs.Ytlboefkihahbeaa
