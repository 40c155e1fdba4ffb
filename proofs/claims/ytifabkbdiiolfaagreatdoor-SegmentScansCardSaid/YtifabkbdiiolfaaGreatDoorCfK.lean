/-
  Layer column: numbers read plain, and as distances.
-/
import Derived.Test.YtifabkbdiiolfaaGreatDoorCeK
set_option linter.unusedSimpArgs false
set_option linter.unusedVariables false
set_option maxRecDepth 8000
namespace Go.Proofs.YtifabkbdiiolfaaGreatDoor
open Go.RowKit Go.WideShapes Col
namespace Col
theorem grp_left {q r : List Nat} {n k : Nat} (h : grp k q = some (n, r)) : r.length ≤ q.length := by
 obtain ⟨-, -, m, -, rfl, -⟩ := grp_lt q k n r h
 rw [List.length_drop]; omega
theorem uP_left {most n : Nat} {q r : List Nat} (h : uP most q = some (n, r)) : r.length ≤ q.length := grp_left (uP_some h).1
theorem zP_left {x : Int} {q r : List Nat} (h : zP q = some (x, r)) : r.length ≤ q.length := by
 obtain ⟨n, h1, -⟩ := zP_some h
 exact grp_left h1
theorem uz_wf {n : Nat} (h : n < 18446744073709551616) : Wf64 (uz n) := by
 unfold uz Wf64; split <;> omega
theorem zP_wf {x : Int} {q r : List Nat} (h : zP q = some (x, r)) (hq : ∀ x ∈ q, x < 256) : Wf64 x := by
 obtain ⟨n, h1, rfl⟩ := zP_some h
 exact uz_wf (grp_u64 h1 hq)
theorem wrap64_wf' (n : Int) : Wf64 (wrap64 n) := by unfold Wf64 wrap64; omega
def dstep (s : Int × List Nat) : Option (Int × (Int × List Nat)) := (zP s.2).map fun p => (wrap64 (s.1 + p.1), (wrap64 (s.1 + p.1), p.2))
end Col
theorem Rd.high {w w' : World} {g : Nat} {q : List Nat} {S : Nat → Prop} (h : Rd w g q) (hk : Kept S w w') (hS : ∀ k, S k → g < k) : Rd w' g q := by
 obtain ⟨A, C, h⟩ := h
 exact ⟨A, C, h.keep hk (fun e => by have := hS g e; omega) fun a ha h0 hs => by have := h.low a ha h0; have := hS _ hs; omega⟩
theorem Rd.glt {w : World} {g : Nat} {q : List Nat} (h : Rd w g q) : g < w.heap.size := by obtain ⟨A, C, h⟩ := h; exact h.lt
/-- A reader, and how many bytes are left at most. -/
def RdM (g : Nat) (q : List Nat) (w : World) : Prop := Rd w g q ∧ q.length ≤ 1099511627776
theorem plain_step (g : Nat) (q : List Nat) (w1 : World) (h : RdM g q w1) : Calls Tryz.prog 108 #[.pointer (some ⟨g, 0, none⟩)] w1 (StepEnds g (Only g) (RdM g) (zP q) w1) := by
 rcases hz : zP q with _ | ⟨x, r⟩
 ·exact int_no g q (Lib.hid hz) q.length (Lib.hid rfl) h.2 w1 (Lib.hid h.1)
 ·refine (int_yes g x q r (Lib.hid hz) (by have := h.2; omega) w1 (Lib.hid h.1)).mono ?_
  rintro e w' ⟨he, h1, h2⟩
  exact ⟨he, zP_wf hz h.1.lt, ⟨h1, Nat.le_trans (zP_left hz) h.2⟩, h2⟩
theorem plain_any (g : Nat) (n : Nat) (hn : n ≤ 4096) (q : List Nat) (w : World) (H : Hid (RdM g q w)) :
  Calls Tryz.prog 185 #[.int .i64 (n : Int), .func (.func 108) #[.pointer (some ⟨g, 0, none⟩)] #[]] w (ListEnds g (Only g) (RdM g) (runS zP n q) w) := by
 refine times_any zP 108 #[.pointer (some ⟨g, 0, none⟩)] #[] (fun _ _ => by first | rfl | kernel_rfl) n hn g (Only g) (RdM g) w (Lib.hid fun k hk => ?_) (Lib.hid fun s w1 w2 h hk => ⟨h.1.high hk fun k hk => ?_, h.2⟩) q (Lib.hid fun _ _ s w1 _ _ h _ => plain_step g s w1 h) H
 ·have hk : k = g := hk
  subst hk; exact H.out.1.glt
 ·exact Nat.lt_of_lt_of_le H.out.1.glt hk
/-- What readDelta's function stands on. -/
structure DS (g ah bx : Nat) (s : Int × List Nat) (w : World) : Prop where
 rd : RdM g s.2 w
 ahead : w.heap[ah]? = some (.cells #[.int .i64 s.1] 2 (0, 0))
 box : w.heap[bx]? = some (.cells #[.pointer (some ⟨g, 0, none⟩)] 133 (0, 0))
 n1 : g < ah
 n2 : g < bx
 n3 : ah ≠ bx
theorem DS.keep {g ah bx : Nat} {s : Int × List Nat} {w w' : World} {S : Nat → Prop} (h : DS g ah bx s w) (hk : Kept S w w') (hS : ∀ k, S k → w.heap.size ≤ k ∨ (g < k ∧ k ≠ ah ∧ k ≠ bx)) : DS g ah bx s w' := by
 have hg := h.rd.1.glt
 have ha := (Array.getElem?_eq_some_iff.1 h.ahead).1
 have hb := (Array.getElem?_eq_some_iff.1 h.box).1
 exact ⟨⟨h.rd.1.high hk fun k hs => by have := hS k hs; omega, h.rd.2⟩, hk.heap h.ahead fun e => by have := hS _ e; omega, hk.heap h.box fun e => by have := hS _ e; omega, h.n1, h.n2, h.n3⟩
abbrev Two (g ah : Nat) : Nat → Prop := fun k => k = g ∨ k = ah
theorem one_two {g ah : Nat} {w w' : World} (h : Kept (Only g) w w') : Kept (Two g ah) w w' := h.mono fun k hk => .inl (.inl hk)
theorem DS.c0 {g ah bx : Nat} {s : Int × List Nat} {w : World} (h : DS g ah bx s w) : w.cell? ⟨ah, 0, none⟩ = some (.int .i64 s.1) := by rw [cell_of_row _ _ _ _ _ _ h.ahead]; rfl
theorem DS.cb {g ah bx : Nat} {s : Int × List Nat} {w : World} (h : DS g ah bx s w) : w.cell? ⟨bx, 0, none⟩ = some (.pointer (some ⟨g, 0, none⟩)) := by rw [cell_of_row _ _ _ _ _ _ h.box]; rfl
theorem DS.blt {g ah bx : Nat} {s : Int × List Nat} {w : World} (h : DS g ah bx s w) : bx < w.heap.size := (Array.getElem?_eq_some_iff.1 h.box).1
theorem DS.alt {g ah bx : Nat} {s : Int × List Nat} {w : World} (h : DS g ah bx s w) : ah < w.heap.size := (Array.getElem?_eq_some_iff.1 h.ahead).1
theorem DS.drew {g ah bx : Nat} {s : Int × List Nat} {w : World} (h : DS g ah bx s w) : DS g ah bx s w.drew := h.keep (S := fun _ => False) ((Kept.refl _ _).drew) fun k hk => hk.elim
/-- Behind the reading, and the writing. -/
theorem DS.step {g ah bx : Nat} {a x : Int} {q r : List Nat} {w w1 : World} (h : DS g ah bx (a, q) w) (hr : Rd w1 g r) (hl : r.length ≤ q.length) (hk : Kept (Only g) w w1) : DS g ah bx (x, r) (w1.setCell ⟨ah, 0, none⟩ (.int .i64 x)) ∧ Kept (Two g ah) w (w1.setCell ⟨ah, 0, none⟩ (.int .i64 x)) := by
 have hka : Kept (fun k => k = ah) w1 (w1.setCell ⟨ah, 0, none⟩ (.int .i64 x)) := (Kept.refl _ _).setCell _ _ (.inl rfl)
 refine ⟨⟨⟨hr.high hka fun k hk => by have hk : k = ah := hk; have := h.n1; omega, Nat.le_trans hl h.rd.2⟩, ?_, (hka.heap (hk.heap h.box fun e => by have e : bx = g := e; have := h.n2; omega) fun e => h.n3 e.symm), h.n1, h.n2, h.n3⟩, (one_two hk).setCell _ _ (.inl (.inr rfl))⟩
 have h1 := hk.heap h.ahead fun e => by have e : ah = g := e; have := h.n1; omega
 rw [World.setCell]; simp [Array.getElem?_modify, h1]
set_option maxHeartbeats 2000000 in
theorem delta_step (g ah bx : Nat) (a : Int) (q : List Nat) (w : World) (H : Hid (DS g ah bx (a, q) w)) :
  Calls Tryz.prog 204 #[.pointer (some ⟨ah, 0, none⟩), .pointer (some ⟨bx, 0, none⟩)] w (StepEnds g (Two g ah) (DS g ah bx) (dstep (a, q)) w) := by
 have HD := Lib.hid H.out.drew
 have HKD : Hid (Kept (Two g ah) w w.drew) := Lib.hid ((Kept.refl _ _).drew)
 have HAL := Lib.hid H.out.alt
 have HBL := Lib.hid H.out.blt
 have HCB := Lib.hid H.out.cb
 have HCA := Lib.hid H.out.c0
 have HN := Lib.hid (show ¬ Only g bx from fun e => by have e : bx = g := e; have := H.out.n2; omega)
 have HN2 := Lib.hid (show ¬ Two g ah bx from fun e => by have := H.out.n2; have := H.out.n3; rcases e with e | e <;> omega)
 have hnag := H.out.n1
 rcases hz : zP q with _ | ⟨x, r⟩
 ·have HZ := Lib.hid hz
  have HE : Hid (dstep (a, q) = none) := Lib.hid (by unfold dstep; rw [hz]; rfl)
  rw [HE.out]
  clear hz HE
  go_enter Tryz.func204, Tryz.ntmps204
  go_upto_region 1 with fail
  refine wp_region_held_drew (S := fun w' => Kept (Two g ah) w w') (by kernel_rfl) HKD.out (fun hHeld => ?_)
  refine wpAnyH_take (i := 1) (v := .pointer (some ⟨g, 0, none⟩)) rfl (by kernel_rfl) (by kernel_rfl) (by kernel_rfl) (fun _ _ _ h => h) (Or.inl ⟨by rfl, fun w hw => by have hc : w.cell? ⟨bx, 0, none⟩ = some (.pointer (some ⟨g, 0, none⟩)) := (hw.cell (p := ⟨bx, 0, none⟩) HBL.out HN2.out).trans HCB.out; go_simp⟩) hHeld ?_
  try dsimp only
  try simp only [Act.put, List.getElem_toArray, List.getElem_cons_zero, List.getElem_cons_succ, List.setIfInBounds_toArray, List.set_cons_zero, List.set_cons_succ]
  refine wpAnyH_ready (rs := [0, 2]) (by kernel_rfl) (by simp) (AllReadyH.cons rfl (fun K hK => ?_) (AllReadyH.cons rfl (fun K hK => ?_) AllReadyH.nil))
  ·skip
   have ca : (w.drew).cell? ⟨ah, 0, none⟩ = some (.int .i64 a) := HCA.out
   go_simp
   refine hK.out _ _ HKD.out (fun hHeld => ?_)
   clear hK K
   try dsimp only
   try simp only [Act.put, List.getElem_toArray, List.getElem_cons_zero, List.getElem_cons_succ, List.setIfInBounds_toArray, List.set_cons_zero, List.set_cons_succ]
   refine wpAnyH_ready (rs := [2]) (by kernel_rfl) (by simp) (AllReadyH.cons rfl (fun K hK => ?_) AllReadyH.nil)
   go_simp
   refine (int_no g q HZ q.length (Lib.hid rfl) H.out.rd.2 _ (Lib.hid HD.out.rd.1)).mono ?_
   rintro e w1 ⟨rfl, h1, h2⟩
   exact ⟨rfl, rfl, h1, one_two (((Kept.refl (Only g) w).drew).trans h2)⟩
  ·skip
   go_simp
   refine (int_no g q HZ q.length (Lib.hid rfl) H.out.rd.2 _ (Lib.hid HD.out.rd.1)).mono ?_
   rintro e w1 ⟨rfl, h1, h2⟩
   exact ⟨rfl, rfl, h1, one_two (((Kept.refl (Only g) w).drew).trans h2)⟩
 ·have HZ := Lib.hid hz
  have HE : Hid (dstep (a, q) = some (wrap64 (a + x), (wrap64 (a + x), r))) := Lib.hid (by unfold dstep; rw [hz]; rfl)
  have HLE := Lib.hid (zP_left hz)
  rw [HE.out]
  clear hz HE
  go_enter Tryz.func204, Tryz.ntmps204
  go_upto_region 1 with fail
  refine wp_region_held_drew (S := fun w' => Kept (Two g ah) w w') (by kernel_rfl) HKD.out (fun hHeld => ?_)
  refine wpAnyH_take (i := 1) (v := .pointer (some ⟨g, 0, none⟩)) rfl (by kernel_rfl) (by kernel_rfl) (by kernel_rfl) (fun _ _ _ h => h) (Or.inl ⟨by rfl, fun w hw => by have hc : w.cell? ⟨bx, 0, none⟩ = some (.pointer (some ⟨g, 0, none⟩)) := (hw.cell (p := ⟨bx, 0, none⟩) HBL.out HN2.out).trans HCB.out; go_simp⟩) hHeld ?_
  try dsimp only
  try simp only [Act.put, List.getElem_toArray, List.getElem_cons_zero, List.getElem_cons_succ, List.setIfInBounds_toArray, List.set_cons_zero, List.set_cons_succ]
  refine wpAnyH_ready (rs := [0, 2]) (by kernel_rfl) (by simp) (AllReadyH.cons rfl (fun K hK => ?_) (AllReadyH.cons rfl (fun K hK => ?_) AllReadyH.nil))
  ·skip
   have ca : (w.drew).cell? ⟨ah, 0, none⟩ = some (.int .i64 a) := HCA.out
   go_simp
   refine hK.out _ _ HKD.out (fun hHeld => ?_)
   clear hK K
   try dsimp only
   try simp only [Act.put, List.getElem_toArray, List.getElem_cons_zero, List.getElem_cons_succ, List.setIfInBounds_toArray, List.set_cons_zero, List.set_cons_succ]
   refine wpAnyH_ready (rs := [2]) (by kernel_rfl) (by simp) (AllReadyH.cons rfl (fun K hK => ?_) AllReadyH.nil)
   go_simp
   refine (int_yes g x q r HZ (by have := H.out.rd.2; simp at this; omega) _ (Lib.hid HD.out.rd.1)).mono ?_
   rintro e w1 ⟨rfl, h1, h2⟩
   have HR1 := Lib.hid h1; have HK1 : Hid (Kept (Only g) w w1) := Lib.hid (((Kept.refl (Only g) w).drew).trans h2); clear h1 h2
   refine hK.out _ _ (one_two HK1.out) (fun hHeld => ?_)
   clear hK K
   try dsimp only
   try simp only [Act.put, List.getElem_toArray, List.getElem_cons_zero, List.getElem_cons_succ, List.setIfInBounds_toArray, List.set_cons_zero, List.set_cons_succ]
   have fa : w1.frozen? ⟨ah, 0, none⟩ = false := row_frozen (HK1.out.heap H.out.ahead fun e => by have e : ah = g := e; omega) 0
   have ca1 : w1.cell? ⟨ah, 0, none⟩ = some (.int .i64 a) := (HK1.out.cell (p := ⟨ah, 0, none⟩) HAL.out (fun e => by have e : ah = g := e; omega)).trans HCA.out
   refine wpAnyH_ready (rs := [3]) (by kernel_rfl) (by simp) (AllReadyH.cons rfl (fun K hK => ?_) AllReadyH.nil)
   go_simp
   rw [show IntKind.i64.wrap (a + x) = wrap64 (a + x) from by unfold wrap64; rw [IntKind.wrap_i64]]
   refine hK.out _ _ (one_two HK1.out) (fun hHeld => ?_)
   clear hK K
   try dsimp only
   try simp only [Act.put, List.getElem_toArray, List.getElem_cons_zero, List.getElem_cons_succ, List.setIfInBounds_toArray, List.set_cons_zero, List.set_cons_succ]
   refine wpAnyH_ready (rs := [4]) (by kernel_rfl) (by simp) (AllReadyH.cons rfl (fun K hK => ?_) AllReadyH.nil)
   go_simp
   have HST := Lib.hid (H.out.step (x := wrap64 (a + x)) HR1.out HLE.out HK1.out)
   refine hK.out _ _ HST.out.2 (fun hHeld => ?_)
   clear hK K
   try dsimp only
   try simp only [Act.put, List.getElem_toArray, List.getElem_cons_zero, List.getElem_cons_succ, List.setIfInBounds_toArray, List.set_cons_zero, List.set_cons_succ]
   refine wpAnyH_done (by kernel_rfl) ?_ _
   have ca9 := HST.out.1.c0
   go_wp2
   go_ret
   exact ⟨rfl, wrap64_wf' _, HST.out.1, HST.out.2⟩
  ·skip
   go_simp
   refine (int_yes g x q r HZ (by have := H.out.rd.2; simp at this; omega) _ (Lib.hid HD.out.rd.1)).mono ?_
   rintro e w1 ⟨rfl, h1, h2⟩
   have HR1 := Lib.hid h1; have HK1 : Hid (Kept (Only g) w w1) := Lib.hid (((Kept.refl (Only g) w).drew).trans h2); clear h1 h2
   refine hK.out _ _ (one_two HK1.out) (fun hHeld => ?_)
   clear hK K
   try dsimp only
   try simp only [Act.put, List.getElem_toArray, List.getElem_cons_zero, List.getElem_cons_succ, List.setIfInBounds_toArray, List.set_cons_zero, List.set_cons_succ]
   refine wpAnyH_ready (rs := [0]) (by kernel_rfl) (by simp) (AllReadyH.cons rfl (fun K hK => ?_) AllReadyH.nil)
   have ca : (w1).cell? ⟨ah, 0, none⟩ = some (.int .i64 a) := (HK1.out.cell (p := ⟨ah, 0, none⟩) HAL.out (fun e => by have e : ah = g := e; omega)).trans HCA.out
   go_simp
   refine hK.out _ _ (one_two HK1.out) (fun hHeld => ?_)
   clear hK K
   try dsimp only
   try simp only [Act.put, List.getElem_toArray, List.getElem_cons_zero, List.getElem_cons_succ, List.setIfInBounds_toArray, List.set_cons_zero, List.set_cons_succ]
   have fa : w1.frozen? ⟨ah, 0, none⟩ = false := row_frozen (HK1.out.heap H.out.ahead fun e => by have e : ah = g := e; omega) 0
   have ca1 : w1.cell? ⟨ah, 0, none⟩ = some (.int .i64 a) := (HK1.out.cell (p := ⟨ah, 0, none⟩) HAL.out (fun e => by have e : ah = g := e; omega)).trans HCA.out
   refine wpAnyH_ready (rs := [3]) (by kernel_rfl) (by simp) (AllReadyH.cons rfl (fun K hK => ?_) AllReadyH.nil)
   go_simp
   rw [show IntKind.i64.wrap (a + x) = wrap64 (a + x) from by unfold wrap64; rw [IntKind.wrap_i64]]
   refine hK.out _ _ (one_two HK1.out) (fun hHeld => ?_)
   clear hK K
   try dsimp only
   try simp only [Act.put, List.getElem_toArray, List.getElem_cons_zero, List.getElem_cons_succ, List.setIfInBounds_toArray, List.set_cons_zero, List.set_cons_succ]
   refine wpAnyH_ready (rs := [4]) (by kernel_rfl) (by simp) (AllReadyH.cons rfl (fun K hK => ?_) AllReadyH.nil)
   go_simp
   have HST := Lib.hid (H.out.step (x := wrap64 (a + x)) HR1.out HLE.out HK1.out)
   refine hK.out _ _ HST.out.2 (fun hHeld => ?_)
   clear hK K
   try dsimp only
   try simp only [Act.put, List.getElem_toArray, List.getElem_cons_zero, List.getElem_cons_succ, List.setIfInBounds_toArray, List.set_cons_zero, List.set_cons_succ]
   refine wpAnyH_done (by kernel_rfl) ?_ _
   have ca9 := HST.out.1.c0
   go_wp2
   go_ret
   exact ⟨rfl, wrap64_wf' _, HST.out.1, HST.out.2⟩
end Go.Proofs.YtifabkbdiiolfaaGreatDoor
