/-
  Layer event: Sort at any length, of no slice too; SameAll of one list twice.
-/
import Derived.Test.YtlboefkihahbeaaEo
set_option linter.unusedSimpArgs false
set_option linter.unusedVariables false
namespace Go.Proofs.Ytlboefkihahbeaa
open Go.RowKit Go.Sort

set_option maxHeartbeats 1000000 in
theorem sortStable_any (blk cap N : Nat) (l : List Ev) (w : World) (hb : blk < w.heap.size) (hH : HoldsK Ev.cells 5 w blk 0 l.toArray) (hN : N = l.length) (hsz : N ≤ 1000000) :
    Calls Try.prog 20 #[.slice (some ⟨blk, 0, none⟩) N cap, .func (.func 16) #[] #[]] w fun e w' => e = .returned (.tuple #[]) ∧ SortW w blk (isort ltE l).toArray w' := by
  have HI := Lib.hid (stable_any blk cap N l w w (Lib.hid ⟨l, hN.symm, ⟨cells_len, cells_one, hH, hb⟩⟩) hN.symm (Lib.hid (SWK.start hH)) hsz)
  clear hH hN hb
  go_enter Try.func20, Try.ntmps20
  go_wp2_with (go_at_call 27; refine HI.out.mono ?_; rintro e w' ⟨rfl, hs⟩; have HS := Lib.hid hs; clear hs)
  go_end0
  exact ⟨rfl, HS.out⟩
set_option maxHeartbeats 1000000 in
theorem sort_any (g off n c : Nat) (l : List Ev) (hn : Hid (n = l.length)) (h60 : n ≤ 1000) (w : World) (HA : Hid (EvAt w (some ⟨g, off, none⟩) l)) :
    Calls Try.prog 14 #[.slice (some ⟨g, off, none⟩) n c] w (RetE w n (isort ltE l)) := by
  have HC := Lib.hid (clone_some g off n c l hn.out h60 w HA)
  go_enter Try.func14, Try.ntmps14
  go_upto_region 2 with (go_at_call 19; refine HC.out.mono ?_; rintro e w1 ⟨v', rfl, ho, hv, hb⟩; obtain ⟨g1, cap, rfl, hg1, hg2, hl, hH⟩ := holds_own ho hv; have HO := Lib.hid ho; have HB := Lib.hid hb; have HL := Lib.hid hl; have HHH := Lib.hid hH; clear ho hv hb hl hH)
  have HS := Lib.hid (sortStable_any g1 cap n l w1 hg2 HHH.out HL.out (by omega))
  go_wp2_with (go_at_call 20; refine HS.out.mono ?_; rintro e w2 ⟨rfl, hs⟩; have HR := Lib.hid hs; clear hs)
  go_ret
  obtain ⟨q, os, rfl⟩ := HR.out
  exact ⟨g1, cap, rfl, own_put (q := q) HO.out (isort_len l) os, below_sortW HB.out (HB.out.size) hg1⟩
set_option maxHeartbeats 1000000 in
theorem ins_none (w : World) : Calls Try.prog 33 #[.slice none 0 0, .int .i64 0, .int .i64 0, .func (.func 16) #[] #[]] w fun e w' => e = .returned (.tuple #[]) ∧ w = w' := by
  go_enter Try.func33, Try.ntmps33
  go_wp2
  refine wp_loop_rounds 1 ?_
  rw [rounds_succ]
  go_wp2
  go_end0
  exact ⟨rfl, rfl⟩
set_option maxHeartbeats 1000000 in
theorem stable_none (w : World) : Calls Try.prog 27 #[.slice none 0 0, .int .i64 0, .func (.func 16) #[] #[]] w fun e w' => e = .returned (.tuple #[]) ∧ w = w' := by
  go_enter Try.func27, Try.ntmps27
  go_wp2
  refine wp_loop_rounds 1 ?_
  rw [rounds_succ]
  go_wp2_with (go_at_call 33; refine (ins_none _).mono ?_; rintro e w' ⟨rfl, rfl⟩)
  refine wp_loop_rounds 1 ?_
  rw [rounds_succ]
  go_wp2
  go_end0
  exact ⟨rfl, rfl⟩
set_option maxHeartbeats 1000000 in
theorem sortStable_none (w : World) : Calls Try.prog 20 #[.slice none 0 0, .func (.func 16) #[] #[]] w fun e w' => e = .returned (.tuple #[]) ∧ w = w' := by
  go_enter Try.func20, Try.ntmps20
  go_wp2_with (go_at_call 27; refine (stable_none _).mono ?_; rintro e w' ⟨rfl, rfl⟩)
  go_end0
  exact ⟨rfl, rfl⟩
set_option maxHeartbeats 1000000 in
theorem clone_none (w : World) : Calls Try.prog 19 #[.slice none 0 0] w fun e w' => e = .returned (.slice none 0 0) ∧ w = w' := by
  have q22 : ∀ (w : World) (a : Option Addr) (n c n' c' : Nat), (binOp .eql 30 (.slice a n c) (.slice none n' c')).run Try.prog w = .ok (.bool a.isNone) w := fun w a n c n' c' => Lib.run_eql_slice_nil w _ _ a n c n' c' Try.underlying30
  go_enter Try.func19, Try.ntmps19
  go_wp2
  go_ret
  exact ⟨rfl, rfl⟩
set_option maxHeartbeats 1000000 in
theorem sort_none (w : World) : Calls Try.prog 14 #[.slice none 0 0] w fun e w' => e = .returned (.slice none 0 0) ∧ w = w' := by
  go_enter Try.func14, Try.ntmps14
  go_wp2_with (first
    | (go_at_call 19; refine (clone_none _).mono ?_; rintro e w1 ⟨rfl, rfl⟩)
    | (go_at_call 20; refine (sortStable_none _).mono ?_; rintro e w2 ⟨rfl, rfl⟩))
  go_ret
  exact ⟨rfl, rfl⟩
/-- What Sort gives, whatever the slice. -/
def SortRet (w : World) (n : Nat) (l : List Ev) (e : Ending) (w' : World) : Prop := ∃ A cap, e = .returned (.slice A n cap) ∧ OwnE w' w.heap.size A n cap l ∧ Below w.heap.size w w'
theorem sortE_any (a : Option Addr) (n c : Nat) (l : List Ev) (hn : Hid (n = l.length)) (hnil : a = none → n = 0 ∧ c = 0) (hsp : ∀ x, a = some x → x.spot = none) (h60 : n ≤ 1000) (w : World) (HA : Hid (EvAt w a l)) :
    Calls Try.prog 14 #[.slice a n c] w (SortRet w n (isort ltE l)) := by
  rcases a with _ | ⟨g, off, s⟩
  · obtain ⟨rfl, rfl⟩ := hnil rfl
    have hl : l = [] := List.eq_nil_of_length_eq_zero hn.out.symm
    subst hl
    refine (sort_none w).mono ?_
    rintro e w' ⟨rfl, rfl⟩
    exact ⟨none, 0, rfl, w.ownsRow_nil _ _ 5, Below.refl _ _⟩
  · obtain rfl : s = none := hsp _ rfl
    refine (sort_any g off n c l hn h60 w HA).mono ?_
    rintro e w' ⟨g1, cap, rfl, ho, hb⟩
    exact ⟨some ⟨g1, 0, none⟩, cap, rfl, ho, hb⟩
/-- What a row of events that a call owns is. -/
theorem OwnE.at {w : World} {B n cap : Nat} {A : Option Addr} {l : List Ev} (h : OwnE w B A n cap l) : EvAt w A l := fun j v hv => by
  have hjl := (List.getElem?_eq_some_iff.1 hv).1
  rcases h.2 with ⟨e0, e1⟩ | ⟨g, cap', cur, e0, hb, hg, hn, hm, hs, ht⟩
  · have := h.1; rw [e1, Nat.zero_mul] at this; omega
  · injection e0 with a1 a2 a3
    subst a1
    refine ⟨g, 0, rfl, (Array.getElem?_eq_some_iff.1 hg).1, ?_⟩
    rw [cell_of_row _ _ _ _ _ _ hg, Nat.zero_add, ← Array.getElem?_toList]
    have := h.1
    rw [← ht, List.getElem?_take] at hv
    rw [if_pos (by omega)] at hv
    exact hv
theorem ev_range {w : World} {A : Option Addr} {l : List Ev} (h : EvAt w A l) (i : Nat) (x : Ev) (hx : l[i]? = some x) : ∃ g off, A = some ⟨g, off, none⟩ ∧ g < w.heap.size ∧ w.rangeAt g (off + i * 5) x.cells := by
  have h0 : (evs l)[i * 5 + 0]? = x.cells[0]? := by rw [evs_get l i 0 (by decide), hx]; rfl
  obtain ⟨g, off, e, hg, -⟩ := h (i * 5 + 0) (.int .u64 (x.off : Int)) (by rw [h0]; rfl)
  refine ⟨g, off, e, hg, fun j v hv => ?_⟩
  have hj : j < 5 := (List.getElem?_eq_some_iff.1 hv).1
  have h1 : (evs l)[i * 5 + j]? = some v := by rw [evs_get l i j hj, hx]; exact hv
  obtain ⟨g', off', e', -, hc⟩ := h _ _ h1
  rw [e] at e'; injection e' with e'; injection e' with b1 b2; subst b1; subst b2
  rw [Nat.add_assoc]; exact hc
theorem below_to2 {W w w' : World} (h : Below W.heap.size W w) (h' : Below w.heap.size w w') : Below W.heap.size W w' := h.trans (h'.mono h.size)
theorem range_keep {w w' : World} {g o : Nat} {x : Ev} (h : w.rangeAt g o x.cells) (hg : g < w.heap.size) (hb : Below w.heap.size w w') : w'.rangeAt g o x.cells := fun j v hv => (hb.cell (p := ⟨g, o + j, none⟩) hg).trans (h j v hv)
theorem sameB_refl (x : Ev) : sameB x x = true := by unfold sameB keqB; simp
theorem sameE (x : Ev) (hx : x.val < 18446744073709551616) (w : World) : Calls Try.prog 12 #[.agg x.cells.toArray, .agg x.cells.toArray] w fun e w' => e = .returned (.bool true) ∧ Below w.heap.size w w' := by
  have h := refEvSame_any x x hx hx w
  rw [sameB_refl] at h
  exact h
set_option maxHeartbeats 4000000 in
theorem sameAll_core (g1 o1 g2 o2 n c1 c2 : Nat) (l : List Ev) (hn : Hid (n = l.length)) (h60 : n ≤ 1000) (hv : Hid (∀ x ∈ l, x.val < 18446744073709551616)) (W : World) (H1 : Hid (EvAt W (some ⟨g1, o1, none⟩) l)) (H2 : Hid (EvAt W (some ⟨g2, o2, none⟩) l)) :
    Calls Try.prog 13 #[.slice (some ⟨g1, o1, none⟩) n c1, .slice (some ⟨g2, o2, none⟩) n c2] W fun e w' => e = .returned (.bool true) ∧ Below W.heap.size W w' := by
  have hq : ((n : Int) != (n : Int)) = false := by simp
  go_enter Try.func13, Try.ntmps13
  go_wp2
  clear hq
  go_loopw [5] (fun v wr => ∃ k : Nat, k ≤ n ∧ v = .int .i64 k ∧ Below W.heap.size W wr) (fun v _ => n - (intOf v).toNat)
  case atStart => exact ⟨0, Nat.zero_le _, rfl, Below.refl _ _⟩
  case round =>
    obtain ⟨k, hk, rfl, hb⟩ := hrel
    have HB := Lib.hid hb
    clear hb
    by_cases hkn : k < n
    · have hkl : k < l.length := by have := hn.out; omega
      obtain ⟨x, hx⟩ : ∃ x, l[k]? = some x := ⟨l[k], List.getElem?_eq_getElem hkl⟩
      have HV := Lib.hid (hv.out x (List.mem_of_getElem? hx))
      obtain ⟨g, off, e, hg, hr⟩ := ev_range (H1.out.keep HB.out) k x hx
      injection e with e; injection e with b1 b2; subst b1; subst b2
      obtain ⟨g', off', e, hg', hr'⟩ := ev_range (H2.out.keep HB.out) k x hx
      injection e with e; injection e with b1 b2; subst b1; subst b2
      have HG1 := Lib.hid hg; have HG2 := Lib.hid hg'; have HX1 := Lib.hid hr; have HX2 := Lib.hid hr'
      clear hx hg hg' hr hr'
      have hz : (k : Int) < (n : Int) := by omega
      go_upto_region 6 with fail
      have hh0 : Below wr.heap.size wr wr.drew := (Below.refl _ _).drew
      refine wp_region_held_drew (S := fun w => Below wr.heap.size wr w) (by kernel_rfl) hh0 (fun hHeld => ?_)
      refine wpAnyH_take (i := 0) (v := .slice (some ⟨g1, o1, none⟩) n c1) rfl (by kernel_rfl) (by kernel_rfl) (by kernel_rfl) (fun _ _ _ h => h) (Or.inl ⟨by rfl, fun _ _ => rfl⟩) hHeld ?_
      try dsimp only
      try simp only [Act.put, List.getElem_toArray, List.getElem_cons_zero, List.getElem_cons_succ, List.setIfInBounds_toArray, List.set_cons_zero, List.set_cons_succ]
      refine wpAnyH_take (i := 1) (v := .int .i64 (k : Nat)) rfl (by kernel_rfl) (by kernel_rfl) (by kernel_rfl) (fun _ _ _ h => h) (Or.inl ⟨by rfl, fun _ _ => rfl⟩) hHeld ?_
      try dsimp only
      try simp only [Act.put, List.getElem_toArray, List.getElem_cons_zero, List.getElem_cons_succ, List.setIfInBounds_toArray, List.set_cons_zero, List.set_cons_succ]
      refine wpAnyH_take (i := 2) (v := .pointer (some ⟨g1, o1 + k * 5, none⟩)) rfl (by kernel_rfl) (by kernel_rfl) (by kernel_rfl) (fun _ _ _ h => h) (Or.inl ⟨by rfl, fun w _ => by go_simp⟩) hHeld ?_
      try dsimp only
      try simp only [Act.put, List.getElem_toArray, List.getElem_cons_zero, List.getElem_cons_succ, List.setIfInBounds_toArray, List.set_cons_zero, List.set_cons_succ]
      refine wpAnyH_take (i := 3) (v := .agg x.cells.toArray) rfl (by kernel_rfl) (by kernel_rfl) (by kernel_rfl) (fun _ _ _ h => h) (yieldsIf_load_mid rfl 25 (.tmp 19) rfl g1 (o1 + k * 5) rfl x.cells _ (fun w hw => range_keep HX1.out HG1.out hw) uEvent rfl (iEvent x)) hHeld ?_
      try dsimp only
      try simp only [Act.put, List.getElem_toArray, List.getElem_cons_zero, List.getElem_cons_succ, List.setIfInBounds_toArray, List.set_cons_zero, List.set_cons_succ]
      refine wpAnyH_take (i := 4) (v := .slice (some ⟨g2, o2, none⟩) n c2) rfl (by kernel_rfl) (by kernel_rfl) (by kernel_rfl) (fun _ _ _ h => h) (Or.inl ⟨by rfl, fun _ _ => rfl⟩) hHeld ?_
      try dsimp only
      try simp only [Act.put, List.getElem_toArray, List.getElem_cons_zero, List.getElem_cons_succ, List.setIfInBounds_toArray, List.set_cons_zero, List.set_cons_succ]
      refine wpAnyH_take (i := 5) (v := .int .i64 (k : Nat)) rfl (by kernel_rfl) (by kernel_rfl) (by kernel_rfl) (fun _ _ _ h => h) (Or.inl ⟨by rfl, fun _ _ => rfl⟩) hHeld ?_
      try dsimp only
      try simp only [Act.put, List.getElem_toArray, List.getElem_cons_zero, List.getElem_cons_succ, List.setIfInBounds_toArray, List.set_cons_zero, List.set_cons_succ]
      refine wpAnyH_take (i := 6) (v := .pointer (some ⟨g2, o2 + k * 5, none⟩)) rfl (by kernel_rfl) (by kernel_rfl) (by kernel_rfl) (fun _ _ _ h => h) (Or.inl ⟨by rfl, fun w _ => by go_simp⟩) hHeld ?_
      try dsimp only
      try simp only [Act.put, List.getElem_toArray, List.getElem_cons_zero, List.getElem_cons_succ, List.setIfInBounds_toArray, List.set_cons_zero, List.set_cons_succ]
      refine wpAnyH_take (i := 7) (v := .agg x.cells.toArray) rfl (by kernel_rfl) (by kernel_rfl) (by kernel_rfl) (fun _ _ _ h => h) (yieldsIf_load_mid rfl 25 (.tmp 23) rfl g2 (o2 + k * 5) rfl x.cells _ (fun w hw => range_keep HX2.out HG2.out hw) uEvent rfl (iEvent x)) hHeld ?_
      try dsimp only
      try simp only [Act.put, List.getElem_toArray, List.getElem_cons_zero, List.getElem_cons_succ, List.setIfInBounds_toArray, List.set_cons_zero, List.set_cons_succ]
      refine wpAnyH_ready (rs := [8]) (by kernel_rfl) (by simp) (AllReadyH.cons rfl (fun K hK => ?_) AllReadyH.nil)
      go_simp
      refine (sameE x HV.out _).mono ?_
      rintro e w2 ⟨rfl, hb⟩
      replace hHeld := below_to2 hHeld hb
      clear hb
      refine hK.out _ _ hHeld (fun hHeld => ?_)
      clear hK K
      try dsimp only
      try simp only [Act.put, List.getElem_toArray, List.getElem_cons_zero, List.getElem_cons_succ, List.setIfInBounds_toArray, List.set_cons_zero, List.set_cons_succ]
      refine wpAnyH_ready (rs := [9]) (by kernel_rfl) (by simp) (AllReadyH.cons rfl (fun K hK => ?_) AllReadyH.nil)
      go_simp
      refine hK.out _ _ hHeld (fun hHeld => ?_)
      clear hK K
      try dsimp only
      try simp only [Act.put, List.getElem_toArray, List.getElem_cons_zero, List.getElem_cons_succ, List.setIfInBounds_toArray, List.set_cons_zero, List.set_cons_succ]
      refine wpAnyH_done (by kernel_rfl) ?_ _
      have HB2 := Lib.hid (below_to2 HB.out hHeld)
      go_wp2
      go_roundw
      case rel => exact ⟨k + 1, by omega, by go_num, HB2.out⟩
      case measure => simp [intOf]; omega
    · have hz : ¬ ((k : Int) < (n : Int)) := by omega
      go_wp2
      go_ret
      exact ⟨rfl, HB.out⟩
set_option maxHeartbeats 1000000 in
theorem sameAll_none (a b : Option Addr) (c1 c2 : Nat) (W : World) :
    Calls Try.prog 13 #[.slice a 0 c1, .slice b 0 c2] W fun e w' => e = .returned (.bool true) ∧ Below W.heap.size W w' := by
  go_enter Try.func13, Try.ntmps13
  go_wp2
  refine wp_loop_rounds 1 ?_
  rw [rounds_succ]
  go_wp2
  go_ret
  exact ⟨rfl, Below.refl _ _⟩
/-- SameAll of one list twice. -/
theorem sameAll_any (a b : Option Addr) (n c1 c2 : Nat) (l : List Ev) (hn : Hid (n = l.length)) (h60 : n ≤ 1000) (hv : Hid (∀ x ∈ l, x.val < 18446744073709551616)) (W : World) (H1 : Hid (EvAt W a l)) (H2 : Hid (EvAt W b l)) :
    Calls Try.prog 13 #[.slice a n c1, .slice b n c2] W fun e w' => e = .returned (.bool true) ∧ Below W.heap.size W w' := by
  rcases l with _ | ⟨x, r⟩
  · have : n = 0 := hn.out
    subst this
    exact sameAll_none a b c1 c2 W
  · obtain ⟨g1, o1, rfl, -, -⟩ := ev_range H1.out 0 x rfl
    obtain ⟨g2, o2, rfl, -, -⟩ := ev_range H2.out 0 x rfl
    exact sameAll_core g1 o1 g2 o2 n c1 c2 (x :: r) hn h60 hv W H1 H2
end Go.Proofs.Ytlboefkihahbeaa
