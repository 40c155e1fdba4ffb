/-
  Layer event: what symMerge leaves, as lists: plain facts.
-/
import Derived.Shelf.SlSortCmp.KitK
import Derived.Deep.MidRow
import Derived.Test.YtjldamkmdkaiiaaGreatDoorMaK
import Derived.Test.YtjldamkmdkaiiaaGreatDoorTkK
set_option linter.unusedSimpArgs false
set_option linter.unusedVariables false
set_option maxRecDepth 8000
namespace Go.Proofs.YtjldamkmdkaiiaaGreatDoor
open Go.RowKit Go.Sort
theorem uEvent : Tryz.prog.underlying 51 = some (.struct (Tryz.prog.fieldsOf 51)) := by kernel_rfl
theorem iEvent (x : Ev) : (Tryz.prog.info? 51).map (·.size) = some x.cells.length := by rw [cells_len]; kernel_rfl
theorem wp_store_ev {o : Oper} {a : Act} {w : World} {K : Act → World → Prop} {Q : Exit → Act → World → Prop} (x y : Operand) (ho : o.op = .store 51 x y) (b of : Nat) (v : Ev) (hx : a.eval x = .pointer (some ⟨b, of, none⟩)) (hy : a.eval y = .agg v.cells.toArray)
  (w' : World) (hst : (storeCells ⟨b, of, none⟩ v.cells 0).run Tryz.prog w = .ok () w') (h : K (a.put o.dst undef) w') : o.wp Tryz.prog a w K Q := by
 obtain ⟨i0, hi, hz0, hz1, hz2⟩ := info_parts infoEv
 have hv : (storeVar 51 ⟨b, of, none⟩ (.agg v.cells.toArray)).run Tryz.prog w = .ok () w' := by
  simp [storeVar, sizeOf, typeInfo, hi, hz1, Value.cells, cells_len, hst]
 unfold Oper.wp execOp
 simp only [ho, hx, hy, Instr.storeAt, Instr.sureAddr, Sem.run_bind, Sem.run_pure, Result.andThen_ok, hv]
 exact h
abbrev RowE (w0 : World) (blk N : Nat) : Prop := ∃ l0 : List Ev, l0.length = N ∧ RowK Ev.cells 5 w0 blk 0 l0.toArray
abbrev SWE (w0 : World) (blk : Nat) (l : List Ev) (w : World) : Prop := SWK Ev.cells 5 w0 blk 0 l.toArray w
section
variable {w0 w : World} {blk N : Nat} {l : List Ev}
theorem swk_range (h : SWE w0 blk l w) (R : Hid (RowE w0 blk N)) (hN : l.length = N) (i : Nat) (hi : i < N) : w.rangeAt blk (i * 5) l[i]!.cells := by
 obtain ⟨l0, e0, R⟩ := R.out
 have hH := h.holds R.hblk R.hH (by simp; omega)
 intro j v hv
 have := HoldsK.cells hH R.hk (i := i) (by simp; omega) j v (by rw [ta_get]; exact hv)
 rw [Addr.add_lit, Nat.zero_add] at this; exact this
theorem swk_swap (h : SWE w0 blk l w) (R : Hid (RowE w0 blk N)) (hN : l.length = N) (i j : Nat) (hi : i < N) (hj : j < N) :
  Sem.run Tryz.prog (storeCells ⟨blk, i * 5, none⟩ l[j]!.cells 0) w.drew = .ok () (w.drew.setCells blk (i * 5) l[j]!.cells) ∧
  Sem.run Tryz.prog (storeCells ⟨blk, j * 5, none⟩ l[i]!.cells 0) (w.drew.setCells blk (i * 5) l[j]!.cells) = .ok () ((w.drew.setCells blk (i * 5) l[j]!.cells).setCells blk (j * 5) l[i]!.cells) ∧
  SWE w0 blk (lswp l i j) ((w.drew.setCells blk (i * 5) l[j]!.cells).setCells blk (j * 5) l[i]!.cells) := by
 obtain ⟨l0, e0, R⟩ := R.out
 have hs : l.toArray.size = l0.toArray.size := by simp; omega
 have h1 := h.st1 R hs Tryz.prog i (by simp; omega) l[j]!
 have h2 := h.st2 R hs Tryz.prog i j (by simp; omega) (by simp; omega) l[j]! l[i]!
 have h3 := h.swapped R i j (by simp; omega) (by simp; omega)
 rw [ta_get, ta_get, lswp_arr] at h3
 rw [Nat.zero_add] at h1 h2 h3
 rw [Nat.zero_add] at h2 h3
 exact ⟨h1, h2, h3⟩
end
def SwapR (l : List Ev) (a b n : Nat) (m : List Ev) : Prop := m.length = l.length ∧ ∀ k, k < l.length → m[k]! = l[if a ≤ k ∧ k < a + n then b + (k - a) else if b ≤ k ∧ k < b + n then a + (k - b) else k]!
theorem SwapR.zero (l : List Ev) (a b : Nat) : SwapR l a b 0 l := ⟨rfl, fun k hk => by rw [if_neg (by omega), if_neg (by omega)]⟩
theorem SwapR.step {l m : List Ev} {a b i : Nat} (h : SwapR l a b i m) (hab : a + i < b) (hb : b + i < l.length) : SwapR l a b (i + 1) (lswp m (a + i) (b + i)) := by
 refine ⟨(lswp_len _ _ _).trans h.1, fun k hk => ?_⟩
 rw [lswp_get _ (by rw [h.1]; omega) (by rw [h.1]; omega), h.2 k hk, h.2 (a + i) (by omega), h.2 (b + i) (by omega)]
 by_cases h1 : k = b + i
 ·rw [if_pos h1, if_neg (by omega), if_neg (by omega), if_neg (by omega), if_pos (by omega), show a + (k - b) = a + i by omega]
 ·rw [if_neg h1]
  by_cases h2 : k = a + i
  ·rw [if_pos h2, if_neg (by omega), if_neg (by omega), if_pos (by omega), show b + (k - a) = b + i by omega]
  ·rw [if_neg h2]
   congr 1
   repeat' split
   all_goals omega
set_option maxHeartbeats 4000000 in
theorem swapRange_any (blk cap a b n N : Nat) (l : List Ev) (w0 w : World) (HR : Hid (RowE w0 blk N)) (hN : l.length = N) (HS0 : Hid (SWE w0 blk l w)) (hab : a + n ≤ b) (hb : b + n ≤ N) (hsz : N ≤ 1000000) :
  Calls Tryz.prog 168 #[.slice (some ⟨blk, 0, none⟩) N cap, .int .i64 a, .int .i64 b, .int .i64 n, .func (.func 71) #[] #[]] w fun e w' => e = .returned (.tuple #[]) ∧ ∃ m, SwapR l a b n m ∧ SWE w0 blk m w' := by
 have HNL := Lib.hid hN
 clear hN
 go_enter Tryz.func168, Tryz.ntmps168
 go_wp2
 go_loopw [10] (fun v wr => ∃ i : Nat, i ≤ n ∧ v = .int .i64 i ∧ ∃ m, SwapR l a b i m ∧ SWE w0 blk m wr) (fun v _ => n - (intOf v).toNat)
 case atStart => exact ⟨0, Nat.zero_le _, rfl, l, SwapR.zero l a b, HS0.out⟩
 case round =>
  obtain ⟨i, hi, rfl, lk, hsr, hst⟩ := hrel
  have HSR0 := Lib.hid hsr
  have HS := Lib.hid hst
  clear hsr hst HS0
  by_cases hlt : i < n
  ·have hN : lk.length = N := HSR0.out.1.trans HNL.out
   have HSR := Lib.hid (HSR0.out.step (by omega) (by rw [HNL.out]; omega))
   have r1 : IntKind.i64.wrap ((a : Int) + (i : Int)) = (a : Int) + (i : Int) := IntWalk.i64_in _ (by omega)
   have r2 : IntKind.i64.wrap ((b : Int) + (i : Int)) = (b : Int) + (i : Int) := IntWalk.i64_in _ (by omega)
   have t1 : ((a : Int) + (i : Int)).toNat = a + i := by omega
   have t2 : ((b : Int) + (i : Int)).toNat = b + i := by omega
   have b1 : (a : Int) + (i : Int) < (N : Int) := by omega
   have b2 : (b : Int) + (i : Int) < (N : Int) := by omega
   have p1 : (0 : Int) ≤ (a : Int) + (i : Int) := by omega
   have p2 : (0 : Int) ≤ (b : Int) + (i : Int) := by omega
   go_upto_region 3 with fail
   obtain ⟨xi, hxi⟩ : ∃ x, lk[a + i]! = x := ⟨_, rfl⟩
   obtain ⟨xj, hxj⟩ : ∃ x, lk[b + i]! = x := ⟨_, rfl⟩
   have HXI := Lib.hid (swk_range HS.out.drew HR hN (a + i) (by omega))
   have HXJ := Lib.hid (swk_range HS.out.drew HR hN (b + i) (by omega))
   obtain ⟨ht1, ht2, hsw⟩ := swk_swap HS.out HR hN (a + i) (b + i) (by omega) (by omega)
   rw [hxi] at HXI ht2 hsw; rw [hxj] at HXJ ht1 ht2 hsw
   have HT1 := Lib.hid ht1; have HT2 := Lib.hid ht2; have HSW := Lib.hid hsw
   clear ht1 ht2 hsw hxi hxj
   refine wp_region_held_drew (S := fun _ => True) (by kernel_rfl) trivial (fun hHeld => ?_)
   refine tkm 0 (.slice (some ⟨blk, 0, none⟩) N cap) rfl hHeld ?_
   try simp only [qz]
   refine tkm 1 (.int .i64 (a : Nat)) rfl hHeld ?_
   try simp only [qz]
   refine tkm 2 (.int .i64 (i : Nat)) rfl hHeld ?_
   try simp only [qz]
   refine tks 3 (.int .i64 ((a : Int) + (i : Int))) rfl hHeld ?_
   try simp only [qz]
   refine tkm 4 (.slice (some ⟨blk, 0, none⟩) N cap) rfl hHeld ?_
   try simp only [qz]
   refine tkm 5 (.int .i64 (b : Nat)) rfl hHeld ?_
   try simp only [qz]
   refine tkm 6 (.int .i64 (i : Nat)) rfl hHeld ?_
   try simp only [qz]
   refine tks 7 (.int .i64 ((b : Int) + (i : Int))) rfl hHeld ?_
   try simp only [qz]
   refine tkm 8 (.slice (some ⟨blk, 0, none⟩) N cap) rfl hHeld ?_
   try simp only [qz]
   refine tkm 9 (.int .i64 (b : Nat)) rfl hHeld ?_
   try simp only [qz]
   refine tkm 10 (.int .i64 (i : Nat)) rfl hHeld ?_
   try simp only [qz]
   refine tks 11 (.int .i64 ((b : Int) + (i : Int))) rfl hHeld ?_
   try simp only [qz]
   refine tks 12 (.pointer (some ⟨blk, (b + i) * 5, none⟩)) rfl hHeld ?_
   try simp only [qz]
   refine tkm 14 (.slice (some ⟨blk, 0, none⟩) N cap) rfl hHeld ?_
   try simp only [qz]
   refine tkm 15 (.int .i64 (a : Nat)) rfl hHeld ?_
   try simp only [qz]
   refine tkm 16 (.int .i64 (i : Nat)) rfl hHeld ?_
   try simp only [qz]
   refine tks 17 (.int .i64 ((a : Int) + (i : Int))) rfl hHeld ?_
   try simp only [qz]
   refine tks 18 (.pointer (some ⟨blk, (a + i) * 5, none⟩)) rfl hHeld ?_
   try simp only [qz]
   refine wpAnyH_ready (rs := [13, 19]) (by kernel_rfl) (by simp) (AllReadyH.cons rfl (fun K hK => ?_) (AllReadyH.cons rfl (fun K hK => ?_) AllReadyH.nil))
   ·skip
    rw [if_pos (by rfl)]
    refine wp_load_mid 51 (.tmp 28) rfl blk ((b + i) * 5) rfl xj.cells _ HXJ.out uEvent rfl (iEvent xj) ?_
    refine hK.out _ _ trivial (fun hHeld => ?_)
    clear hK K
    try simp only [qz]
    refine rd1 19 rfl (fun K hK => ?_)
    rw [if_pos (by rfl)]
    refine wp_load_mid 51 (.tmp 34) rfl blk ((a + i) * 5) rfl xi.cells _ HXI.out uEvent rfl (iEvent xi) ?_
    refine hK.out _ _ trivial (fun hHeld => ?_)
    clear hK K
    try simp only [qz]
    refine tks 20 (.pointer (some ⟨blk, (a + i) * 5, none⟩)) rfl hHeld ?_
    try simp only [qz]
    refine rd1 21 rfl (fun K hK => ?_)
    rw [if_pos (by rfl)]
    refine wp_store_ev (.tmp 36) (.tmp 29) rfl blk ((a + i) * 5) xj rfl rfl _ HT1.out ?_
    refine hK.out _ _ trivial (fun hHeld => ?_)
    clear hK K
    try simp only [qz]
    refine tks 22 (.pointer (some ⟨blk, (b + i) * 5, none⟩)) rfl hHeld ?_
    try simp only [qz]
    refine rd1 23 rfl (fun K hK => ?_)
    rw [if_pos (by rfl)]
    refine wp_store_ev (.tmp 37) (.tmp 35) rfl blk ((b + i) * 5) xi rfl rfl _ HT2.out ?_
    refine hK.out _ _ trivial (fun hHeld => ?_)
    clear hK K
    try dsimp only [Act.put]
    refine wpAnyH_done (by kernel_rfl) ?_ _
    clear HT1 HT2 HXI HXJ
    generalize World.setCells _ _ _ _ = wz at *
    go_wp2
    go_roundw
    case rel => exact ⟨i + 1, by omega, by go_num, _, HSR.out, HSW.out⟩
    case measure => simp [intOf]; omega
   ·skip
    rw [if_pos (by rfl)]
    refine wp_load_mid 51 (.tmp 34) rfl blk ((a + i) * 5) rfl xi.cells _ HXI.out uEvent rfl (iEvent xi) ?_
    refine hK.out _ _ trivial (fun hHeld => ?_)
    clear hK K
    try simp only [qz]
    refine rd1 13 rfl (fun K hK => ?_)
    rw [if_pos (by rfl)]
    refine wp_load_mid 51 (.tmp 28) rfl blk ((b + i) * 5) rfl xj.cells _ HXJ.out uEvent rfl (iEvent xj) ?_
    refine hK.out _ _ trivial (fun hHeld => ?_)
    clear hK K
    try simp only [qz]
    refine tks 20 (.pointer (some ⟨blk, (a + i) * 5, none⟩)) rfl hHeld ?_
    try simp only [qz]
    refine rd1 21 rfl (fun K hK => ?_)
    rw [if_pos (by rfl)]
    refine wp_store_ev (.tmp 36) (.tmp 29) rfl blk ((a + i) * 5) xj rfl rfl _ HT1.out ?_
    refine hK.out _ _ trivial (fun hHeld => ?_)
    clear hK K
    try simp only [qz]
    refine tks 22 (.pointer (some ⟨blk, (b + i) * 5, none⟩)) rfl hHeld ?_
    try simp only [qz]
    refine rd1 23 rfl (fun K hK => ?_)
    rw [if_pos (by rfl)]
    refine wp_store_ev (.tmp 37) (.tmp 35) rfl blk ((b + i) * 5) xi rfl rfl _ HT2.out ?_
    refine hK.out _ _ trivial (fun hHeld => ?_)
    clear hK K
    try dsimp only [Act.put]
    refine wpAnyH_done (by kernel_rfl) ?_ _
    clear HT1 HT2 HXI HXJ
    generalize World.setCells _ _ _ _ = wz at *
    go_wp2
    go_roundw
    case rel => exact ⟨i + 1, by omega, by go_num, _, HSR.out, HSW.out⟩
    case measure => simp [intOf]; omega
  ·have hin : i = n := by omega
   subst hin
   go_wp2
   go_end0
   exact ⟨rfl, lk, HSR0.out, HS.out⟩
def rotAt (lo m hi k : Nat) : Nat := if k < lo ∨ hi ≤ k then k else if k < lo + (hi - m) then m + (k - lo) else lo + (k - (lo + (hi - m)))
def Rot (l : List Ev) (lo m hi : Nat) (t : List Ev) : Prop := t.length = l.length ∧ ∀ k, k < l.length → t[k]! = l[rotAt lo m hi k]!
theorem rot_right {l s t : List Ev} {m i j : Nat} (h : Rot l (m - i) m (m + j) t) (hs : SwapR l (m - i) m j s) (hij : j < i) (him : i ≤ m) (hj : m + j ≤ l.length) : Rot s (m - (i - j)) m (m + j) t := by
 refine ⟨h.1.trans hs.1.symm, fun k hk => ?_⟩
 rw [hs.1] at hk
 have hr : rotAt (m - (i - j)) m (m + j) k < l.length := by unfold rotAt; split <;> (try split) <;> omega
 rw [h.2 k hk, hs.2 _ hr]
 congr 1
 unfold rotAt
 repeat' split
 all_goals omega
theorem rot_left {l s t : List Ev} {m i j : Nat} (h : Rot l (m - i) m (m + j) t) (hs : SwapR l (m - i) (m + j - i) i s) (hij : i < j) (him : i ≤ m) (hj : m + j ≤ l.length) : Rot s (m - i) m (m + (j - i)) t := by
 refine ⟨h.1.trans hs.1.symm, fun k hk => ?_⟩
 rw [hs.1] at hk
 have hr : rotAt (m - i) m (m + (j - i)) k < l.length := by unfold rotAt; split <;> (try split) <;> omega
 rw [h.2 k hk, hs.2 _ hr]
 congr 1
 unfold rotAt
 repeat' split
 all_goals omega
theorem rot_same {l s t : List Ev} {m i : Nat} (h : Rot l (m - i) m (m + i) t) (hs : SwapR l (m - i) m i s) (him : i ≤ m) (hj : m + i ≤ l.length) : s = t := by
 refine ext_get! (hs.1.trans h.1.symm) fun k hk => ?_
 rw [hs.1] at hk
 rw [h.2 k hk, hs.2 k hk]
 congr 1
 unfold rotAt
 repeat' split
 all_goals omega
set_option maxHeartbeats 4000000 in
theorem rotate_any (blk cap a m b N : Nat) (l t : List Ev) (w0 w : World) (HR : Hid (RowE w0 blk N)) (hN : l.length = N) (HS0 : Hid (SWE w0 blk l w)) (ham : a < m) (hmb : m < b) (hb : b ≤ N) (hsz : N ≤ 1000000) (ht : Hid (Rot l a m b t)) :
  Calls Tryz.prog 135 #[.slice (some ⟨blk, 0, none⟩) N cap, .int .i64 a, .int .i64 m, .int .i64 b, .func (.func 71) #[] #[]] w fun e w' => e = .returned (.tuple #[]) ∧ SWE w0 blk t w' := by
 have HNL := Lib.hid hN
 clear hN
 go_enter Tryz.func135, Tryz.ntmps135
 go_wp2
 go_loopw [10, 11] (fun u v wr => ∃ i j : Nat, u = .int .i64 i ∧ v = .int .i64 j ∧ 0 < i ∧ 0 < j ∧ i ≤ m ∧ m + j ≤ N ∧ ∃ lk, lk.length = N ∧ Rot lk (m - i) m (m + j) t ∧ SWE w0 blk lk wr) (fun u v _ => (intOf u).toNat + (intOf v).toNat)
 case atStart => exact ⟨m - a, b - m, by go_num, by go_num, by omega, by omega, by omega, by omega, l, HNL.out, by rw [show m - (m - a) = a by omega, show m + (b - m) = b by omega]; exact ht.out, HS0.out⟩
 case round =>
  obtain ⟨i, j, rfl, rfl, hi0, hj0, him, hjN, lk, hlk, hrot, hst⟩ := hrel
  have HROT := Lib.hid hrot
  have HS := Lib.hid hst
  have HLK := Lib.hid hlk
  clear hrot hst HS0 hlk
  have HMI : Hid ((m : Int) - (i : Int) = ((m - i : Nat) : Int)) := Lib.hid (by omega)
  rcases Nat.lt_trichotomy i j with h | h | h
  ·have hq : ((i : Int) != (j : Int)) = true := by simp; omega
   have HMJ : Hid ((m : Int) + (j : Int) - (i : Int) = ((m + j - i : Nat) : Int)) := Lib.hid (by omega)
   go_wp2_with (go_at_call 168; rw [HMI.out, HMJ.out]; refine (swapRange_any blk cap (m - i) (m + j - i) i N lk w0 _ HR HLK.out HS (by omega) (by omega) hsz).mono ?_; rintro e w2 ⟨rfl, s, hsr, hs2⟩; have HSR := Lib.hid hsr; have HS2 := Lib.hid hs2; clear hsr hs2)
   go_roundw
   case rel => exact ⟨i, j - i, rfl, by go_num, by omega, by omega, by omega, by omega, s, HSR.out.1.trans HLK.out, rot_left HROT.out HSR.out h him (by rw [HLK.out]; omega), HS2.out⟩
   case measure => simp [intOf]; omega
  ·subst h
   have hq : ((i : Int) != (i : Int)) = false := by simp
   go_wp2_with (go_at_call 168; rw [HMI.out]; refine (swapRange_any blk cap (m - i) m i N lk w0 _ HR HLK.out HS (by omega) (by omega) hsz).mono ?_; rintro e w2 ⟨rfl, s, hsr, hs2⟩; have HSR := Lib.hid hsr; have HS2 := Lib.hid hs2; clear hsr hs2)
   go_end0
   refine ⟨rfl, ?_⟩
   have e := rot_same HROT.out HSR.out him (by rw [HLK.out]; omega)
   rw [← e]; exact HS2.out
  ·have hq : ((i : Int) != (j : Int)) = true := by simp; omega
   go_wp2_with (go_at_call 168; rw [HMI.out]; refine (swapRange_any blk cap (m - i) m j N lk w0 _ HR HLK.out HS (by omega) (by omega) hsz).mono ?_; rintro e w2 ⟨rfl, s, hsr, hs2⟩; have HSR := Lib.hid hsr; have HS2 := Lib.hid hs2; clear hsr hs2)
   go_roundw
   case rel => exact ⟨i - j, j, by go_num, rfl, by omega, by omega, by omega, by omega, s, HSR.out.1.trans HLK.out, rot_right HROT.out HSR.out h him (by rw [HLK.out]; omega), HS2.out⟩
   case measure => simp [intOf]; omega
end Go.Proofs.YtjldamkmdkaiiaaGreatDoor
namespace Go.Proofs.YtjldamkmdkaiiaaGreatDoor
open Go.RowKit Go.Sort
theorem take_seg {α : Type} (l : List α) (a b : Nat) (h : a ≤ b) : l.take b = l.take a ++ seg l a b := by
 unfold seg; rw [show b = a + (b - a) by omega, List.take_add, show a + (b - a) - a = b - a by omega]
theorem drop_seg {α : Type} (l : List α) (a b : Nat) (h : a ≤ b) : l.drop a = seg l a b ++ l.drop b := by
 unfold seg
 have e : l.drop a = (l.drop a).take (b - a) ++ (l.drop a).drop (b - a) := (List.take_append_drop _ _).symm
 rw [List.drop_drop, show a + (b - a) = b by omega] at e
 exact e
theorem seg_one (l : List Ev) (a : Nat) (h : a < l.length) : seg l a (a + 1) = [l[a]!] := by
 unfold seg; rw [show a + 1 - a = 1 by omega, getElem!_pos l a h, List.drop_eq_getElem_cons h]; rfl
section
variable {lt : Ev → Ev → Bool}
def shape1 (l : List Ev) (a b c : Nat) : List Ev := l.take a ++ ((seg l (a + 1) b).take c ++ l[a]! :: ((seg l (a + 1) b).drop c ++ l.drop b))
def shape2 (l : List Ev) (a m c : Nat) : List Ev := l.take a ++ ((seg l a m).take c ++ l[m]! :: ((seg l a m).drop c ++ l.drop (m + 1)))
theorem shape1_zero (l : List Ev) (a b : Nat) (h : a < b) (hb : b ≤ l.length) : shape1 l a b 0 = l := by
 unfold shape1
 rw [List.take_zero, List.nil_append, List.drop_zero, ← drop_seg l (a + 1) b (by omega)]
 conv => rhs; rw [← List.take_append_drop a l, List.drop_eq_getElem_cons (show a < l.length by omega)]
 rw [getElem!_pos l a (by omega)]
theorem shape1_len (l : List Ev) (a b c : Nat) (h : a < b) (hb : b ≤ l.length) : (shape1 l a b c).length = l.length := by
 unfold shape1
 have h1 := seg_len l (a + 1) b hb
 simp only [List.length_append, List.length_cons, List.length_take, List.length_drop, h1]; omega
theorem shape1_step (l : List Ev) (a b c : Nat) (h : a < b) (hb : b ≤ l.length) (hc : a + 1 + c < b) : lswp (shape1 l a b c) (a + c) (a + c + 1) = shape1 l a b (c + 1) := by
 have h1 := seg_len l (a + 1) b hb
 have hP : (l.take a ++ (seg l (a + 1) b).take c).length = a + c := by simp only [List.length_append, List.length_take, h1]; omega
 obtain ⟨y, r, hy⟩ : ∃ y r, (seg l (a + 1) b).drop c = y :: r := ⟨_, _, List.drop_eq_getElem_cons (by rw [h1]; omega)⟩
 have e1 : shape1 l a b c = (l.take a ++ (seg l (a + 1) b).take c) ++ l[a]! :: y :: (r ++ l.drop b) := by unfold shape1; rw [hy]; simp
 have e2 : (seg l (a + 1) b).take (c + 1) = (seg l (a + 1) b).take c ++ [y] := by
  rw [List.take_add, hy]; rfl
 have e3 : (seg l (a + 1) b).drop (c + 1) = r := by rw [← List.drop_drop, hy]; rfl
 have h2 := (lswp_adj (l.take a ++ (seg l (a + 1) b).take c) (r ++ l.drop b) l[a]! y).2
 rw [hP] at h2
 rw [e1, h2]; unfold shape1; rw [e2, e3]; simp
theorem shape2_full (l : List Ev) (a m : Nat) (h : a ≤ m) (hb : m < l.length) : shape2 l a m (m - a) = l := by
 unfold shape2
 have h1 := seg_len l a m (by omega)
 rw [List.take_of_length_le (show (seg l a m).length ≤ m - a by omega), List.drop_of_length_le (show (seg l a m).length ≤ m - a by omega), List.nil_append, ← List.append_assoc, ← take_seg l a m h]
 conv => rhs; rw [← List.take_append_drop m l, List.drop_eq_getElem_cons hb]
 rw [getElem!_pos l m hb]
theorem shape2_len (l : List Ev) (a m c : Nat) (h : a ≤ m) (hb : m < l.length) : (shape2 l a m c).length = l.length := by
 unfold shape2
 have h1 := seg_len l a m (by omega)
 simp only [List.length_append, List.length_cons, List.length_take, List.length_drop, h1]; omega
theorem shape2_step (l : List Ev) (a m c : Nat) (hb : m < l.length) (hc : a + c < m) : lswp (shape2 l a m (c + 1)) (a + c + 1) (a + c) = shape2 l a m c := by
 have h1 := seg_len l a m (by omega)
 have hP : (l.take a ++ (seg l a m).take c).length = a + c := by simp only [List.length_append, List.length_take, h1]; omega
 obtain ⟨y, r, hy⟩ : ∃ y r, (seg l a m).drop c = y :: r := ⟨_, _, List.drop_eq_getElem_cons (by rw [h1]; omega)⟩
 have e2 : (seg l a m).take (c + 1) = (seg l a m).take c ++ [y] := by rw [List.take_add, hy]; rfl
 have e3 : (seg l a m).drop (c + 1) = r := by rw [← List.drop_drop, hy]; rfl
 have e1 : shape2 l a m (c + 1) = (l.take a ++ (seg l a m).take c) ++ y :: l[m]! :: (r ++ l.drop (m + 1)) := by unfold shape2; rw [e2, e3]; simp
 have h2 := (lswp_adj (l.take a ++ (seg l a m).take c) (r ++ l.drop (m + 1)) y l[m]!).1
 rw [hP] at h2
 rw [e1, h2]; unfold shape2; rw [hy]; simp
theorem mem_take_seg (l : List Ev) (a b c : Nat) (hb : b ≤ l.length) (x : Ev) (hx : x ∈ (seg l a b).take c) : ∃ i, a ≤ i ∧ i < a + c ∧ i < b ∧ l[i]! = x := by
 have e : (seg l a b).take c = seg l a (if a + c ≤ b then a + c else b) := by
  unfold seg; rw [List.take_take]; congr 1; split <;> simp only [Nat.min_def] <;> split <;> omega
 rw [e] at hx
 obtain ⟨i, h1, h2, h3⟩ := seg_mem l a _ (by split <;> omega) x hx
 refine ⟨i, h1, ?_, ?_, h3⟩ <;> (split at h2 <;> omega)
theorem mem_drop_seg (l : List Ev) (a b c : Nat) (hb : b ≤ l.length) (x : Ev) (hx : x ∈ (seg l a b).drop c) : ∃ i, a + c ≤ i ∧ i < b ∧ l[i]! = x := by
 have e : (seg l a b).drop c = seg l (a + c) b := by
  unfold seg; rw [List.drop_take, List.drop_drop]; congr 1; omega
 rw [e] at hx
 exact seg_mem l _ b hb x hx
theorem ord_take {l : List Ev} (h : Ordered lt l) (c : Nat) : Ordered lt (l.take c) := List.Pairwise.sublist (List.take_sublist c l) h
theorem ord_drop {l : List Ev} (h : Ordered lt l) (c : Nat) : Ordered lt (l.drop c) := List.Pairwise.sublist (List.drop_sublist c l) h
theorem mrg_one (l : List Ev) (a b c : Nat) (h : a < b) (hb : b ≤ l.length) (ho : Ordered lt (seg l (a + 1) b)) (h1 : ∀ k, a + 1 ≤ k → k < a + 1 + c → k < b → lt l[k]! l[a]! = true) (h2 : ∀ k, a + 1 + c ≤ k → k < b → lt l[k]! l[a]! = false) : mrg lt l a (a + 1) b = shape1 l a b c := by
 unfold mrg shape1
 rw [seg_one l a (by omega)]
 conv => lhs; rw [← List.take_append_drop c (seg l (a + 1) b)]
 have hs := sm_split (lt := lt) [] [l[a]!] ((seg l (a + 1) b).take c) ((seg l (a + 1) b).drop c)
  (fun y hy x hx => by rw [List.mem_singleton.1 hx]; obtain ⟨k, k1, k2, k3, rfl⟩ := mem_take_seg l _ _ _ hb y hy; exact h1 k k1 k2 k3) (fun y hy x hx => by simp at hx)
  (fun y hy x hx => by
   obtain ⟨k, k1, k3, rfl⟩ := mem_drop_seg l _ _ _ hb y hy
   obtain ⟨j, j1, j2, j3, rfl⟩ := mem_take_seg l _ _ _ hb x hx
   exact ordered_seg ho hb j k j1 (by omega) k3)
 rw [List.nil_append] at hs
 rw [hs, sm_nil _ (ord_take ho c), show [l[a]!] = [l[a]!] ++ [] from rfl, sm_right [l[a]!] [] _ (fun y hy x hx => by rw [List.mem_singleton.1 hx]; obtain ⟨k, k1, k3, rfl⟩ := mem_drop_seg l _ _ _ hb y hy; exact h2 k k1 k3), sm_nil _ (ord_drop ho c)]
 simp
theorem mrg_last (l : List Ev) (a m c : Nat) (h : a ≤ m) (hb : m < l.length) (h1 : ∀ k, a ≤ k → k < a + c → k < m → lt l[m]! l[k]! = false) (h2 : ∀ k, a + c ≤ k → k < m → lt l[m]! l[k]! = true) : mrg lt l a m (m + 1) = shape2 l a m c := by
 unfold mrg shape2
 rw [seg_one l m hb, show smerge lt (seg l a m) [l[m]!] = insB lt l[m]! (seg l a m) from rfl]
 conv => lhs; rw [← List.take_append_drop c (seg l a m)]
 rw [insB_right _ _ _ (fun x hx => by obtain ⟨k, k1, k2, k3, rfl⟩ := mem_take_seg l _ _ _ (by omega) x hx; exact h1 k k1 k2 k3)]
 have h3 := insB_left (lt := lt) l[m]! [] ((seg l a m).drop c) (fun x hx => by obtain ⟨k, k1, k3, rfl⟩ := mem_drop_seg l _ _ _ (by omega) x hx; exact h2 k k1 k3)
 rw [List.nil_append, insB_nil] at h3
 rw [h3]; simp
def rotd (l : List Ev) (lo m hi : Nat) : List Ev := l.take lo ++ (seg l m hi ++ (seg l lo m ++ l.drop hi))
theorem rot_list (l : List Ev) (lo m hi : Nat) (h1 : lo ≤ m) (h2 : m ≤ hi) (h3 : hi ≤ l.length) : Rot l lo m hi (rotd l lo m hi) := by
 have e1 := seg_len l m hi h3
 have e2 := seg_len l lo m (by omega)
 have e0 : (l.take lo).length = lo := by rw [List.length_take]; omega
 have e3 : (l.drop hi).length = l.length - hi := List.length_drop ..
 refine ⟨by unfold rotd; simp only [List.length_append, e0, e1, e2, e3]; omega, fun k hk => ?_⟩
 unfold rotd rotAt
 rcases Nat.lt_or_ge k lo with c1 | c1
 ·rw [if_pos (.inl c1), get!_left _ _ _ (by omega), getElem!_pos (l.take lo) k (by omega), getElem!_pos l k hk, List.getElem_take]
 ·rw [get!_right _ _ _ (by omega) (by simp only [List.length_append, e0, e1, e2, e3]; omega), e0]
  rcases Nat.lt_or_ge k (lo + (hi - m)) with c2 | c2
  ·rw [if_neg (by omega), if_pos c2, get!_left _ _ _ (by omega), seg_get _ _ _ _ h3 (by omega)]
  ·rw [get!_right _ _ _ (by omega) (by simp only [List.length_append, e1, e2, e3]; omega), e1]
   rcases Nat.lt_or_ge k hi with c3 | c3
   ·rw [if_neg (by omega), if_neg (by omega), get!_left _ _ _ (by omega), seg_get _ _ _ _ (by omega) (by omega), show k - lo - (hi - m) = k - (lo + (hi - m)) by omega]
   ·rw [if_pos (.inr c3), get!_right _ _ _ (by omega) (by simp only [e2, e3]; omega), e2, getElem!_pos (l.drop hi) _ (by omega), getElem!_pos l k hk, List.getElem_drop]
    congr 1; omega
theorem rotd_len (l : List Ev) (lo m hi : Nat) (h1 : lo ≤ m) (h2 : m ≤ hi) (h3 : hi ≤ l.length) : (rotd l lo m hi).length = l.length := (rot_list l lo m hi h1 h2 h3).1
theorem rotd_id (l : List Ev) (lo m hi : Nat) (h1 : lo ≤ m) (h2 : m ≤ hi) (h : lo = m ∨ m = hi) : rotd l lo m hi = l := by
 unfold rotd
 rcases h with rfl | rfl
 ·rw [show seg l lo lo = [] by unfold seg; rw [Nat.sub_self, List.take_zero], List.nil_append, ← drop_seg l lo hi h2, List.take_append_drop]
 ·rw [show seg l m m = [] by unfold seg; rw [Nat.sub_self, List.take_zero], List.nil_append, ← drop_seg l lo m h1, List.take_append_drop]
theorem rotd_pieces (l : List Ev) (a s m e b md : Nat) (h1 : a ≤ s) (h2 : s ≤ m) (h3 : m ≤ e) (h4 : e ≤ b) (hb : b ≤ l.length) (hmd : s + (e - m) = md) :
  rotd l s m e = l.take a ++ (seg l a s ++ (seg l m e ++ (seg l s m ++ (seg l e b ++ l.drop b)))) := by
 unfold rotd; rw [take_seg l a s h1, drop_seg l e b h4]; simp
theorem sym_gen (l : List Ev) (a s m e b md : Nat) (h1 : a ≤ s) (h2 : s ≤ m) (h3 : m ≤ e) (h4 : e ≤ b) (hb : b ≤ l.length) (hmd : s + (e - m) = md) (hC : Ordered lt (seg l m b))
  (c1 : ∀ i k, a ≤ i → i < s → e ≤ k → k < b → lt l[k]! l[i]! = false) (c2 : ∀ i k, s ≤ i → i < m → m ≤ k → k < e → lt l[k]! l[i]! = true) :
  seg (rotd l s m e) a s = seg l a s ∧ seg (rotd l s m e) s md = seg l m e ∧ seg (mrg lt (rotd l s m e) a s md) md e = seg l s m ∧ seg (mrg lt (rotd l s m e) a s md) e b = seg l e b ∧
  (mrg lt (rotd l s m e) a s md).length = l.length ∧ mrg lt (mrg lt (rotd l s m e) a s md) md e b = mrg lt l a m b := by
 have g1 := seg_len l a s (by omega)
 have g2 := seg_len l m e (by omega)
 have g3 := seg_len l s m (by omega)
 have g4 := seg_len l e b hb
 have g0 : (l.take a).length = a := by rw [List.length_take]; omega
 have hp := rotd_pieces l a s m e b md h1 h2 h3 h4 hb hmd
 generalize hL1 : seg l a s = L1 at *
 generalize hR1 : seg l m e = R1 at *
 generalize hL2 : seg l s m = L2 at *
 generalize hR2 : seg l e b = R2 at *
 generalize hP : l.take a = P at *
 generalize hQ : l.drop b = Q at *
 have s1 : seg (rotd l s m e) a s = L1 := by rw [hp]; exact seg_of _ _ _ _ _ g0 (by omega)
 have s2 : seg (rotd l s m e) s md = R1 := by rw [hp, ← List.append_assoc]; exact seg_of _ _ _ _ _ (by rw [List.length_append]; omega) (by rw [List.length_append]; omega)
 have m1 : mrg lt (rotd l s m e) a s md = P ++ (smerge lt L1 R1 ++ (L2 ++ (R2 ++ Q))) := by
  have d1 : (rotd l s m e).take a = P := by rw [hp]; exact take_of _ _ _ g0
  have d2 : (rotd l s m e).drop md = L2 ++ (R2 ++ Q) := by rw [hp, ← List.append_assoc]; exact drop_of _ _ _ _ (by rw [List.length_append]; omega)
  unfold mrg; rw [s1, s2, d1, d2]
 have gm := sm_len (lt := lt) L1 R1
 have hmrg : (P ++ (smerge lt L1 R1 ++ (L2 ++ (R2 ++ Q)))).length = l.length := by
  have hq : Q.length = l.length - b := by rw [← hQ, List.length_drop]
  simp only [List.length_append, gm]; omega
 have s3 : seg (P ++ (smerge lt L1 R1 ++ (L2 ++ (R2 ++ Q)))) md e = L2 := by rw [← List.append_assoc]; exact seg_of _ _ _ _ _ (by rw [List.length_append]; omega) (by rw [List.length_append]; omega)
 have s4 : seg (P ++ (smerge lt L1 R1 ++ (L2 ++ (R2 ++ Q)))) e b = R2 := by rw [← List.append_assoc, ← List.append_assoc]; exact seg_of _ _ _ _ _ (by rw [List.length_append, List.length_append]; omega) (by rw [List.length_append, List.length_append]; omega)
 refine ⟨s1, s2, by rw [m1]; exact s3, by rw [m1]; exact s4, by rw [m1]; exact hmrg, ?_⟩
 rw [m1]
 have d1 : (P ++ (smerge lt L1 R1 ++ (L2 ++ (R2 ++ Q)))).take md = P ++ smerge lt L1 R1 := by rw [← List.append_assoc]; exact take_of _ _ _ (by rw [List.length_append]; omega)
 have d2 : (P ++ (smerge lt L1 R1 ++ (L2 ++ (R2 ++ Q)))).drop b = Q := by rw [← List.append_assoc, ← List.append_assoc, ← List.append_assoc]; exact List.drop_left' (by simp only [List.length_append]; omega)
 have hsp := sm_split (lt := lt) L1 L2 R1 R2
  (fun y hy x hx => by rw [← hR1] at hy; rw [← hL2] at hx; obtain ⟨k, k1, k2, rfl⟩ := seg_mem l _ _ (by omega) y hy; obtain ⟨i, i1, i2, rfl⟩ := seg_mem l _ _ (by omega) x hx; exact c2 i k i1 i2 k1 k2)
  (fun y hy x hx => by rw [← hR2] at hy; rw [← hL1] at hx; obtain ⟨k, k1, k2, rfl⟩ := seg_mem l _ _ hb y hy; obtain ⟨i, i1, i2, rfl⟩ := seg_mem l _ _ (by omega) x hx; exact c1 i k i1 i2 k1 k2)
  (fun y hy x hx => by rw [← hR2] at hy; rw [← hR1] at hx; obtain ⟨k, k1, k2, rfl⟩ := seg_mem l _ _ hb y hy; obtain ⟨i, i1, i2, rfl⟩ := seg_mem l _ _ (by omega) x hx; exact ordered_seg hC hb i k i1 (by omega) k2)
 have j1 := seg_join l a s m h1 h2
 have j2 := seg_join l m e b h3 h4
 rw [hL1, hL2] at j1
 rw [hR1, hR2] at j2
 unfold mrg
 rw [s3, s4, d1, d2, hP, hQ, ← j1, ← j2, hsp]
 simp
theorem mrg_id (l : List Ev) (a m b : Nat) (h1 : a ≤ m) (h2 : m ≤ b) (hb : b ≤ l.length) (h : a = m ∨ m = b) (ho : Ordered lt (seg l m b)) : mrg lt l a m b = l := by
 unfold mrg
 rcases h with rfl | rfl
 ·rw [show seg l a a = [] by unfold seg; rw [Nat.sub_self, List.take_zero], sm_nil _ ho, ← drop_seg l a b h2, List.take_append_drop]
 ·rw [show seg l m m = [] by unfold seg; rw [Nat.sub_self, List.take_zero], sm_nil_r, ← drop_seg l a m h1, List.take_append_drop]
end
end Go.Proofs.YtjldamkmdkaiiaaGreatDoor
