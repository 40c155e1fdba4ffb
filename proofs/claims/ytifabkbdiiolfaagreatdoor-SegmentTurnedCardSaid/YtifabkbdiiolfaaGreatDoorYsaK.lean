/-
  Layer segment: the document's own SameAll, of two lists that are the same.
-/
import Derived.Test.YtifabkbdiiolfaaGreatDoorYyK
import Derived.Test.YtifabkbdiiolfaaGreatDoorPoK
open List renaming getElem_toArray → qz0, getElem_cons_zero → qz1, getElem_cons_succ → qz2, setIfInBounds_toArray → qz3, set_cons_zero → qz4, set_cons_succ → qz5
set_option linter.unusedSimpArgs false
set_option linter.unusedVariables false
set_option maxRecDepth 8000
namespace Go.Proofs.YtifabkbdiiolfaaGreatDoor
open Go.RowKit Go.WideShapes Col
theorem ev_rangeS {w : World} {A : Option Addr} {l : List Ev} (h : EvAt w A l) (i : Nat) (x : Ev) (hx : l[i]? = some x) : ∃ g off, A = some ⟨g, off, none⟩ ∧ g < w.heap.size ∧ w.rangeAt g (off + i * 5) x.cells := by
 have h0 : (evs l)[i * 5 + 0]? = x.cells[0]? := by rw [evs_get l i 0 (by decide), hx]; rfl
 obtain ⟨g, off, e, hg, -⟩ := h (i * 5 + 0) (.int .u64 (x.off : Int)) (by rw [h0]; rfl)
 refine ⟨g, off, e, hg, fun j v hv => ?_⟩
 have hj : j < 5 := (List.getElem?_eq_some_iff.1 hv).1
 have h1 : (evs l)[i * 5 + j]? = some v := by rw [evs_get l i j hj, hx]; exact hv
 obtain ⟨g', off', e', -, hc⟩ := h _ _ h1
 rw [e] at e'; injection e' with e'; injection e' with b1 b2; subst b1; subst b2
 rw [Nat.add_assoc]; exact hc
theorem below_toX {W w w' : World} (h : Below W.heap.size W w) (h' : Below w.heap.size w w') : Below W.heap.size W w' := h.trans (h'.mono h.size)
theorem range_keepX {w w' : World} {g o : Nat} {x : Ev} (h : w.rangeAt g o x.cells) (hg : g < w.heap.size) (hb : Below w.heap.size w w') : w'.rangeAt g o x.cells := fun j v hv => (hb.cell (p := ⟨g, o + j, none⟩) hg).trans (h j v hv)
theorem sameXY (x y : Ev) (h : sameB x y = true) (hx : x.val < 18446744073709551616) (hy : y.val < 18446744073709551616) (w : World) : Calls Tryz.prog 51 #[.agg x.cells.toArray, .agg y.cells.toArray] w fun e w' => e = .returned (.bool true) ∧ Below w.heap.size w w' := by
 have h1 := refEvSame_any x y hx hy w
 rw [h] at h1
 exact h1
set_option maxHeartbeats 4000000 in
theorem sameAllS_core (g1 o1 g2 o2 n c1 c2 : Nat) (l l2 : List Ev) (hn : Hid (n = l.length)) (hn2 : Hid (n = l2.length)) (h60 : n ≤ 1000) (hs : Hid (∀ (k : Nat) (x y : Ev), l[k]? = some x → l2[k]? = some y → sameB x y = true ∧ x.val < 18446744073709551616 ∧ y.val < 18446744073709551616)) (W : World) (H1 : Hid (EvAt W (some ⟨g1, o1, none⟩) l)) (H2 : Hid (EvAt W (some ⟨g2, o2, none⟩) l2)) :
  Calls Tryz.prog 19 #[.slice (some ⟨g1, o1, none⟩) n c1, .slice (some ⟨g2, o2, none⟩) n c2] W fun e w' => e = .returned (.bool true) ∧ Below W.heap.size W w' := by
 have hq : ((n : Int) != (n : Int)) = false := by simp
 go_enter Tryz.func19, Tryz.ntmps19
 go_wp2
 clear hq
 go_loopw [5] (fun v wr => ∃ k : Nat, k ≤ n ∧ v = .int .i64 k ∧ Below W.heap.size W wr) (fun v _ => n - (intOf v).toNat)
 case atStart => exact ⟨0, Nat.zero_le _, rfl, Below.refl _ _⟩
 case round =>
  obtain ⟨k, hk, rfl, hb⟩ := hrel
  have HB := Lib.hid hb
  clear hb
  by_cases hkn : k < n
  ·have hkl : k < l.length := by have := hn.out; omega
   obtain ⟨x, hx⟩ : ∃ x, l[k]? = some x := ⟨l[k], List.getElem?_eq_getElem hkl⟩
   obtain ⟨y, hy⟩ : ∃ y, l2[k]? = some y := ⟨_, List.getElem?_eq_getElem (by have := hn2.out; omega)⟩
   have HV := Lib.hid (hs.out k x y hx hy)
   obtain ⟨g, off, e, hg, hr⟩ := ev_rangeS (H1.out.keep HB.out) k x hx
   injection e with e; injection e with b1 b2; subst b1; subst b2
   obtain ⟨g', off', e, hg', hr'⟩ := ev_rangeS (H2.out.keep HB.out) k y hy
   injection e with e; injection e with b1 b2; subst b1; subst b2
   have HG1 := Lib.hid hg; have HG2 := Lib.hid hg'; have HX1 := Lib.hid hr; have HX2 := Lib.hid hr'
   clear hx hy hg hg' hr hr'
   have hz : (k : Int) < (n : Int) := by omega
   go_upto_region 6 with fail
   have hh0 : Below wr.heap.size wr wr.drew := (Below.refl _ _).drew
   refine wp_region_held_drew (S := fun w => Below wr.heap.size wr w) (by kernel_rfl) hh0 (fun hHeld => ?_)
   refine wpAnyH_take (i := 0) (v := .slice (some ⟨g1, o1, none⟩) n c1) rfl (by kernel_rfl) (by kernel_rfl) (by kernel_rfl) (fun _ _ _ h => h) (Or.inl ⟨by rfl, fun _ _ => rfl⟩) hHeld ?_
   try dsimp only
   try simp only [Act.put, qz0, qz1, qz2, qz3, qz4, qz5]
   refine wpAnyH_take (i := 1) (v := .int .i64 (k : Nat)) rfl (by kernel_rfl) (by kernel_rfl) (by kernel_rfl) (fun _ _ _ h => h) (Or.inl ⟨by rfl, fun _ _ => rfl⟩) hHeld ?_
   try dsimp only
   try simp only [Act.put, qz0, qz1, qz2, qz3, qz4, qz5]
   refine wpAnyH_take (i := 2) (v := .pointer (some ⟨g1, o1 + k * 5, none⟩)) rfl (by kernel_rfl) (by kernel_rfl) (by kernel_rfl) (fun _ _ _ h => h) (Or.inl ⟨by rfl, fun w _ => by go_simp⟩) hHeld ?_
   try dsimp only
   try simp only [Act.put, qz0, qz1, qz2, qz3, qz4, qz5]
   refine wpAnyH_take (i := 3) (v := .agg x.cells.toArray) rfl (by kernel_rfl) (by kernel_rfl) (by kernel_rfl) (fun _ _ _ h => h) (yieldsIf_load_mid rfl 45 (.tmp 19) rfl g1 (o1 + k * 5) rfl x.cells _ (fun w hw => range_keepX HX1.out HG1.out hw) uEvent rfl (iEvent x)) hHeld ?_
   try dsimp only
   try simp only [Act.put, qz0, qz1, qz2, qz3, qz4, qz5]
   refine wpAnyH_take (i := 4) (v := .slice (some ⟨g2, o2, none⟩) n c2) rfl (by kernel_rfl) (by kernel_rfl) (by kernel_rfl) (fun _ _ _ h => h) (Or.inl ⟨by rfl, fun _ _ => rfl⟩) hHeld ?_
   try dsimp only
   try simp only [Act.put, qz0, qz1, qz2, qz3, qz4, qz5]
   refine wpAnyH_take (i := 5) (v := .int .i64 (k : Nat)) rfl (by kernel_rfl) (by kernel_rfl) (by kernel_rfl) (fun _ _ _ h => h) (Or.inl ⟨by rfl, fun _ _ => rfl⟩) hHeld ?_
   try dsimp only
   try simp only [Act.put, qz0, qz1, qz2, qz3, qz4, qz5]
   refine wpAnyH_take (i := 6) (v := .pointer (some ⟨g2, o2 + k * 5, none⟩)) rfl (by kernel_rfl) (by kernel_rfl) (by kernel_rfl) (fun _ _ _ h => h) (Or.inl ⟨by rfl, fun w _ => by go_simp⟩) hHeld ?_
   try dsimp only
   try simp only [Act.put, qz0, qz1, qz2, qz3, qz4, qz5]
   refine wpAnyH_take (i := 7) (v := .agg y.cells.toArray) rfl (by kernel_rfl) (by kernel_rfl) (by kernel_rfl) (fun _ _ _ h => h) (yieldsIf_load_mid rfl 45 (.tmp 23) rfl g2 (o2 + k * 5) rfl y.cells _ (fun w hw => range_keepX HX2.out HG2.out hw) uEvent rfl (iEvent y)) hHeld ?_
   try dsimp only
   try simp only [Act.put, qz0, qz1, qz2, qz3, qz4, qz5]
   refine wpAnyH_ready (rs := [8]) (by kernel_rfl) (by simp) (AllReadyH.cons rfl (fun K hK => ?_) AllReadyH.nil)
   go_simp
   refine (sameXY x y HV.out.1 HV.out.2.1 HV.out.2.2 _).mono ?_
   rintro e w2 ⟨rfl, hb⟩
   replace hHeld := below_toX hHeld hb
   clear hb
   refine hK.out _ _ hHeld (fun hHeld => ?_)
   clear hK K
   try dsimp only
   try simp only [Act.put, qz0, qz1, qz2, qz3, qz4, qz5]
   refine wpAnyH_ready (rs := [9]) (by kernel_rfl) (by simp) (AllReadyH.cons rfl (fun K hK => ?_) AllReadyH.nil)
   go_simp
   refine hK.out _ _ hHeld (fun hHeld => ?_)
   clear hK K
   try dsimp only
   try simp only [Act.put, qz0, qz1, qz2, qz3, qz4, qz5]
   refine wpAnyH_done (by kernel_rfl) ?_ _
   have HB2 := Lib.hid (below_toX HB.out hHeld)
   go_wp2
   go_roundw
   case rel => exact ⟨k + 1, by omega, by go_num, HB2.out⟩
   case measure => simp [intOf]; omega
  ·have hz : ¬ ((k : Int) < (n : Int)) := by omega
   go_wp2
   go_ret
   exact ⟨rfl, HB.out⟩
set_option maxHeartbeats 1000000 in
theorem sameAllS_none (a b : Option Addr) (c1 c2 : Nat) (W : World) :
  Calls Tryz.prog 19 #[.slice a 0 c1, .slice b 0 c2] W fun e w' => e = .returned (.bool true) ∧ Below W.heap.size W w' := by
 go_enter Tryz.func19, Tryz.ntmps19
 go_wp2
 refine wp_loop_rounds 1 ?_
 rw [rounds_succ]
 go_wp2
 go_ret
 exact ⟨rfl, Below.refl _ _⟩
/-- SameAll of two lists that are the same. -/
theorem sameAllS_any (a b : Option Addr) (n c1 c2 : Nat) (l l2 : List Ev) (hn : Hid (n = l.length)) (hn2 : Hid (n = l2.length)) (h60 : n ≤ 1000) (hs : Hid (∀ (k : Nat) (x y : Ev), l[k]? = some x → l2[k]? = some y → sameB x y = true ∧ x.val < 18446744073709551616 ∧ y.val < 18446744073709551616)) (W : World) (H1 : Hid (EvAt W a l)) (H2 : Hid (EvAt W b l2)) :
  Calls Tryz.prog 19 #[.slice a n c1, .slice b n c2] W fun e w' => e = .returned (.bool true) ∧ Below W.heap.size W w' := by
 rcases l with _ | ⟨x, r⟩
 ·have : n = 0 := hn.out
  subst this
  exact sameAllS_none a b c1 c2 W
 ·rcases l2 with _ | ⟨y, r2⟩
  ·have h1 := hn.out; have h2 := hn2.out; simp at h1 h2; omega
  ·obtain ⟨g1, o1, rfl, -, -⟩ := ev_rangeS H1.out 0 x rfl
   obtain ⟨g2, o2, rfl, -, -⟩ := ev_rangeS H2.out 0 y rfl
   exact sameAllS_core g1 o1 g2 o2 n c1 c2 (x :: r) (y :: r2) hn hn2 h60 hs W H1 H2
end Go.Proofs.YtifabkbdiiolfaaGreatDoor
