/-
  The law ExactBack: walked.
-/
import Derived.Test.YtngkamcfjabggaaBc
import Derived.Test.YtngkamcfjabggaaLez
set_option linter.unusedSimpArgs false
set_option linter.unusedVariables false
namespace Go.Proofs.Ytngkamcfjabggaa
open Go.RowKit Sm

def cN (N : Nat) (l : List Nat) : Nat := l.foldl addN N
def cH (H : Nat) (l : List Nat) : Nat := l.foldl orH H
theorem cN_nil (N : Nat) : cN N [] = N := rfl
theorem cH_nil (H : Nat) : cH H [] = H := rfl
theorem cN_snoc (N : Nat) (l : List Nat) (b : Nat) : cN N (l ++ [b]) = addN (cN N l) b := by unfold cN; rw [List.foldl_append]; rfl
theorem cH_snoc (H : Nat) (l : List Nat) (b : Nat) : cH H (l ++ [b]) = orH (cH H l) b := by unfold cH; rw [List.foldl_append]; rfl
theorem cH_lt (H : Nat) (h : H < 32) (l : List Nat) : cH H l < 32 := list_snoc (p := fun l => cH H l < 32) h (fun l b ih => by rw [cH_snoc]; exact orH_lt _ _ ih) l
attribute [irreducible] cN cH
theorem Kp2.put1 {w0 : World} {g1 g2 : Nat} {c1 c2 : Array Value} {t1 t2 : TypeId} {w : World} (h : Kp2 w0 g1 c1 t1 g2 c2 t2 w) (hg : w0.heap.size ≤ g1) (hne : g1 ≠ g2) (c : Array Value) : Kp2 w0 g1 c t1 g2 c2 t2 (w.setRow g1 c) :=
  ⟨below_setRow h.below hg _, setRow_heap _ _ _ _ _ _ h.row1, (setRow_other w g1 g2 c (by omega)).trans h.row2⟩

set_option maxHeartbeats 1000000 in
theorem exactBack_long (a : Option Addr) (la ca : Nat) (b : Option Addr) (lb cb : Nat) (hla : la ≤ 4611686018427387903) (hlb : lb ≤ 4611686018427387903) (hL : 40 < la + lb) (w : World) :
    Calls Try.prog 11 #[.slice a la ca, .slice b lb cb] w fun e w' => e = .returned (.bool true) ∧ Below w.heap.size w w' := by
  have HB := Below.refl w.heap.size w
  go_enter Try.func11, Try.ntmps11
  go_wp2_with (go_at_call 13; refine (awake_any _).mono ?_; rintro e w' ⟨rfl, hb1⟩; replace HB := HB.trans (hb1.mono HB.size); clear hb1)
  go_ret
  exact ⟨rfl, HB⟩

set_option maxHeartbeats 4000000 in
theorem exactBack_core (a : Option Addr) (la ca : Nat) (b : Option Addr) (lm : List Nat) (lb cb : Nat) (hla : la ≤ 4611686018427387903) (hlb : lb ≤ 4611686018427387903) (hlen : Hid (lb = lm.length)) (hL : ¬ 40 < la + lb) (N H : Nat) (hH : H < 32) (W : World) (HA : Hid (FlAt W b lm))
    (hof : Hid (∀ w, Below W.heap.size W w → OfGives w a la ca N H)) (hbk : BkGives N H) :
    Calls Try.prog 11 #[.slice a la ca, .slice b lb cb] W fun e w' => e = .returned (.bool true) ∧ Below W.heap.size W w' := by
  have hsa := same_gives N H
  go_enter Try.func11, Try.ntmps11
  go_wp2_with (first
    | (go_at_call 13; refine (awake_any _).mono ?_; rintro e w1 ⟨rfl, hb⟩; have HB := Lib.hid hb; clear hb)
    | (go_at_call 14; refine (hof.out _ HB.out).mono ?_; rintro e w2 ⟨rfl, hb⟩; have HB2 := Lib.hid (below_to HB.out hb); clear hb)
    | (rw [zeros36]; refine wpList_store_row rfl 27 (.tmp 5) (.tmp 21) rfl w2.heap.size (P36 (wd N) H) rfl rfl _ _ (heap_alloc_new _ _) (i36 _ _) (by rw [P36_size, P36_size]) (one36 _ _) ?_; rw [World.setRow_alloc_new]; have hk := Kp.start w2 (P36 (wd N) H) 27)
    | (rw [zeros36]; refine wpList_store_row rfl 27 (.tmp 6) (.tmp 26) rfl w4.heap.size (P36 (wd N) H) rfl rfl _ _ (heap_alloc_new _ _) (i36 _ _) (by rw [P36_size, P36_size]) (one36 _ _) ?_; rw [World.setRow_alloc_new];
       have hq : Kp2 W w2.heap.size (P36 (wd N) H) 27 w4.heap.size (P36 (wd N) H) 27 (w4.alloc (.cells (P36 (wd N) H) 27)) := ⟨(below_to HB2.out hk.below).alloc (below_to HB2.out hk.below).size _, row_alloc hk.row _, heap_alloc_new w4 _⟩)
    | (refine wpList_sum (.tmp 6) rfl _ rfl _ _ _ _ hq.row2 rfl ?_)
    | (refine wpList_sum (.tmp 5) rfl _ rfl _ _ _ _ hq.row1 rfl ?_)
    | (refine wpList_sum (.tmp 5) rfl _ rfl _ _ _ _ hk.row rfl ?_)
    | (go_at_call 19; (with_reducible refine (hbk.at _).mono ?_); rintro e w3 ⟨A, n, C, rfl, hrd, hb⟩; replace hk := hk.next hb; clear hb)
    | (go_at_call 32; refine hrd.out.mono ?_; rintro e w4 ⟨rfl, hb⟩; replace hk := hk.next hb; clear hb)
    | (go_at_call 23; (with_reducible refine (hsa.at _).mono ?_); rintro e w5 ⟨rfl, hb⟩; replace hq := hq.next hb; clear hb))
  have h5 : W.heap.size ≤ w2.heap.size := HB2.out.size
  have h6 : w2.heap.size < w4.heap.size := lt_of_row hk.row
  rw [← cN_nil N, ← cH_nil H] at hq
  generalize w2.heap.size = g5 at *
  generalize w4.heap.size = g6 at *
  clear hk HB HB2
  go_loopw [8] (fun i wr => ∃ k : Nat, k ≤ lb ∧ i = .int .i64 k ∧ Kp2 W g5 (P36 (wd (cN N (lm.take k))) (cH H (lm.take k))) 27 g6 (P36 (wd (cN N (lm.take k))) (cH H (lm.take k))) 27 wr) (fun i _ => lb - (intOf i).toNat)
  case atStart => exact ⟨0, by omega, rfl, by rw [List.take_zero]; exact hq⟩
  case round =>
    clear hq
    obtain ⟨k, hk, rfl, hq⟩ := hrel
    have kz := cH_lt H hH (lm.take k)
    by_cases hlt : k < lb
    · have hkl : k < lm.length := by have := hlen.out; omega
      obtain ⟨hx, bg, off, rfl, hg, hc0⟩ := HA.out k lm[k] (List.getElem?_eq_getElem hkl)
      have HC := Lib.hid hc0
      have HX := Lib.hid (show lm.take (k + 1) = lm.take k ++ [lm[k]] from List.take_succ_eq_append_getElem hkl)
      clear hc0
      generalize hX0 : lm[k] = X at *
      have HQ := Lib.hid hq
      clear hq
      go_wp2
      have hq := HQ.out
      clear HQ
      have hq := hq.drew
      refine wp_region_held_drew (S := Below W.heap.size W) (by kernel_rfl) hq.below (fun hHeld => ?_)
      refine wpAnyH_take (i := 1) (v := .slice (some ⟨bg, off, none⟩) lb cb) rfl (by kernel_rfl) (by kernel_rfl) (by kernel_rfl) (fun _ _ _ h => h) (Or.inl ⟨by rfl, fun _ _ => rfl⟩) hHeld ?_
      try dsimp only
      try simp only [Act.put, List.setIfInBounds_toArray, List.set_cons_zero, List.set_cons_succ]
      refine wpAnyH_take (i := 2) (v := .int .i64 k) rfl (by kernel_rfl) (by kernel_rfl) (by kernel_rfl) (fun _ _ _ h => h) (Or.inl ⟨by rfl, fun _ _ => rfl⟩) hHeld ?_
      try dsimp only
      try simp only [Act.put, List.setIfInBounds_toArray, List.set_cons_zero, List.set_cons_succ]
      refine wpAnyH_take (i := 3) (v := .pointer (some ⟨bg, off + k, none⟩)) rfl (by kernel_rfl) (by kernel_rfl) (by kernel_rfl) (fun _ _ _ h => h) (Or.inl ⟨by rfl, fun w _ => by go_simp⟩) hHeld ?_
      try dsimp only
      try simp only [Act.put, List.setIfInBounds_toArray, List.set_cons_zero, List.set_cons_succ]
      refine wpAnyH_take (i := 4) (v := .float .f64 X) rfl (by kernel_rfl) (by kernel_rfl) (by kernel_rfl) (fun _ _ _ h => h) (Or.inl ⟨by rfl, fun w hw => by have hc : w.cell? ⟨bg, off + k, none⟩ = some (.float .f64 X) := (hw.cell (p := ⟨bg, off + k, none⟩) hg).trans HC.out; go_simp⟩) hHeld ?_
      try dsimp only
      try simp only [Act.put, List.setIfInBounds_toArray, List.set_cons_zero, List.set_cons_succ]
      refine wpAnyH_ready (rs := [0]) (by kernel_rfl) (by simp) (AllReadyH.cons rfl (fun K hK => ?_) AllReadyH.nil)
      rw [if_pos (by rfl)]
      refine wp_load_row 27 (.tmp 5) rfl g5 rfl _ (P36 (wd (cN N (lm.take k))) (cH H (lm.take k))) (0, 0) _ hq.row1 u27 rfl (i36 _ _) ?_
      refine hK.out _ _ hq.below (fun hHeld => ?_)
      clear hK K
      try dsimp only
      try simp only [Act.put, List.setIfInBounds_toArray, List.set_cons_zero, List.set_cons_succ]
      refine wpAnyH_ready (rs := [5]) (by kernel_rfl) (by simp) (AllReadyH.cons rfl (fun K hK => ?_) AllReadyH.nil)
      go_simp
      refine (add_nx _ _ _ kz hx _).mono ?_
      rintro e w6 ⟨rfl, hb1⟩
      have hq := hq.next hb1
      clear hb1
      refine hK.out _ _ hq.below (fun hHeld => ?_)
      clear hK K
      try dsimp only
      try simp only [Act.put, List.setIfInBounds_toArray, List.set_cons_zero, List.set_cons_succ]
      refine wpAnyH_ready (rs := [6]) (by kernel_rfl) (by simp) (AllReadyH.cons rfl (fun K hK => ?_) AllReadyH.nil)
      rw [if_pos (by rfl)]
      refine wp_store_row 27 (.tmp 5) (.tmp 47) rfl g5 (P36 (wd _) _) rfl rfl _ _ hq.row1 (i36 _ _) (by rw [P36_size, P36_size]) (one36 _ _) ?_
      have hq := hq.put1 (by omega) (by omega) (P36 (wd (addN (cN N (lm.take k)) X)) (orH (cH H (lm.take k)) X))
      refine hK.out _ _ hq.below (fun hHeld => ?_)
      clear hK K
      refine wpAnyH_done (by kernel_rfl) ?_ _
      have HQ := Lib.hid hq
      clear hq
      go_wp2
      replace hq := HQ.out
      clear HQ
      have hq := hq.drew
      refine wp_region_held_drew (S := Below W.heap.size W) (by kernel_rfl) hq.below (fun hHeld => ?_)
      refine wpAnyH_take (i := 1) (v := .slice (some ⟨bg, off, none⟩) lb cb) rfl (by kernel_rfl) (by kernel_rfl) (by kernel_rfl) (fun _ _ _ h => h) (Or.inl ⟨by rfl, fun _ _ => rfl⟩) hHeld ?_
      try dsimp only
      try simp only [Act.put, List.setIfInBounds_toArray, List.set_cons_zero, List.set_cons_succ]
      refine wpAnyH_take (i := 2) (v := .int .i64 k) rfl (by kernel_rfl) (by kernel_rfl) (by kernel_rfl) (fun _ _ _ h => h) (Or.inl ⟨by rfl, fun _ _ => rfl⟩) hHeld ?_
      try dsimp only
      try simp only [Act.put, List.setIfInBounds_toArray, List.set_cons_zero, List.set_cons_succ]
      refine wpAnyH_take (i := 3) (v := .pointer (some ⟨bg, off + k, none⟩)) rfl (by kernel_rfl) (by kernel_rfl) (by kernel_rfl) (fun _ _ _ h => h) (Or.inl ⟨by rfl, fun w _ => by go_simp⟩) hHeld ?_
      try dsimp only
      try simp only [Act.put, List.setIfInBounds_toArray, List.set_cons_zero, List.set_cons_succ]
      refine wpAnyH_take (i := 4) (v := .float .f64 X) rfl (by kernel_rfl) (by kernel_rfl) (by kernel_rfl) (fun _ _ _ h => h) (Or.inl ⟨by rfl, fun w hw => by have hc : w.cell? ⟨bg, off + k, none⟩ = some (.float .f64 X) := (hw.cell (p := ⟨bg, off + k, none⟩) hg).trans HC.out; go_simp⟩) hHeld ?_
      try dsimp only
      try simp only [Act.put, List.setIfInBounds_toArray, List.set_cons_zero, List.set_cons_succ]
      refine wpAnyH_ready (rs := [0]) (by kernel_rfl) (by simp) (AllReadyH.cons rfl (fun K hK => ?_) AllReadyH.nil)
      rw [if_pos (by rfl)]
      refine wp_load_row 27 (.tmp 6) rfl g6 rfl _ (P36 (wd (cN N (lm.take k))) (cH H (lm.take k))) (0, 0) _ hq.row2 u27 rfl (i36 _ _) ?_
      refine hK.out _ _ hq.below (fun hHeld => ?_)
      clear hK K
      try dsimp only
      try simp only [Act.put, List.setIfInBounds_toArray, List.set_cons_zero, List.set_cons_succ]
      refine wpAnyH_ready (rs := [5]) (by kernel_rfl) (by simp) (AllReadyH.cons rfl (fun K hK => ?_) AllReadyH.nil)
      go_simp
      refine (add_nx _ _ _ kz hx _).mono ?_
      rintro e w7 ⟨rfl, hb1⟩
      have hq := hq.next hb1
      clear hb1
      refine hK.out _ _ hq.below (fun hHeld => ?_)
      clear hK K
      try dsimp only
      try simp only [Act.put, List.setIfInBounds_toArray, List.set_cons_zero, List.set_cons_succ]
      refine wpAnyH_ready (rs := [6]) (by kernel_rfl) (by simp) (AllReadyH.cons rfl (fun K hK => ?_) AllReadyH.nil)
      rw [if_pos (by rfl)]
      refine wp_store_row 27 (.tmp 6) (.tmp 53) rfl g6 (P36 (wd _) _) rfl rfl _ _ hq.row2 (i36 _ _) (by rw [P36_size, P36_size]) (one36 _ _) ?_
      have hq := hq.put2 (by omega) (by omega) (P36 (wd (addN (cN N (lm.take k)) X)) (orH (cH H (lm.take k)) X))
      refine hK.out _ _ hq.below (fun hHeld => ?_)
      clear hK K
      refine wpAnyH_done (by kernel_rfl) ?_ _
      have HQ := Lib.hid hq
      clear hq
      go_wp2
      replace hq := HQ.out
      clear HQ
      go_roundw
      case rel =>
        refine ⟨k + 1, by omega, by go_num, ?_⟩
        rw [HX.out, cN_snoc, cH_snoc]
        exact hq
      case measure => simp [intOf]; omega
    · have hsb := same_gives (cN N (lm.take k)) (cH H (lm.take k))
      go_wp2_with (first
        | (refine wpList_sum (.tmp 6) rfl _ rfl _ _ _ _ hq.row2 rfl ?_)
        | (refine wpList_sum (.tmp 5) rfl _ rfl _ _ _ _ hq.row1 rfl ?_)
        | (go_at_call 23; (with_reducible refine (hsb.at _).mono ?_); rintro e w8 ⟨rfl, hb⟩; replace hq := hq.next hb; clear hb))
      go_ret
      exact ⟨rfl, hq.below⟩

theorem exactBack_any (a : Option Addr) (l : List Nat) (la ca : Nat) (hla : Hid (la = l.length)) (_ : la ≤ ca) (ra : la ≤ 4611686018427387903) (b : Option Addr) (m : List Nat) (lb cb : Nat) (hlb : Hid (lb = m.length)) (_ : lb ≤ cb) (rb : lb ≤ 4611686018427387903) (W : World) (HA : Hid (FlAt W a l)) (HM : Hid (FlAt W b m)) :
    Calls Try.prog 11 #[.slice a la ca, .slice b lb cb] W fun e w' => e = .returned (.bool true) ∧ Below W.heap.size W w' := by
  by_cases hL : 40 < la + lb
  · exact exactBack_long a la ca b lb cb ra rb hL W
  · exact exactBack_core a la ca b m lb cb ra rb hlb hL (accN l) (accH l) (accH_lt l) W HM (Lib.hid fun w hw => of_slice a l la ca hla (by omega) w (FlAt.keep HA.out hw)) (back_any _ _ (accN_lt l) (poss_acc l))
end Go.Proofs.Ytngkamcfjabggaa
