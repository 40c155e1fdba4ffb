/-
  Layer sorter: begin and sort of no events.
-/
import Derived.Test.YtjldamkmdkaiiaaGreatDoorOxK
import Derived.Test.YtjldamkmdkaiiaaGreatDoorOwK
set_option linter.unusedSimpArgs false
set_option linter.unusedVariables false
set_option maxRecDepth 8000
namespace Go.Proofs.YtjldamkmdkaiiaaGreatDoor
open Go.RowKit Go.WideShapes Col Go.Sort Go.Shelf
section
variable {TT : Nat} {dgs : Nat → ByteArray} {W : Bs} {w : World} {g : Nat} {room : Int} {b gl ol c nb bb Zh Z : Nat} {parts : Int} {l : List Ev} {N : Nat} {ops0 : Int} {xs : List Fil}
theorem BegG.next {base w1 : World} (h : BegG TT dgs base w g room b gl nb bb Zh parts l N ops0 w.heap.size) (hs : w.heap.size ≤ w1.heap.size) : BegG TT dgs base w1 g room b gl nb bb Zh parts l N ops0 w1.heap.size :=
 ⟨h.nmr, ⟨Nat.le_trans h.f.bs hs, Nat.le_refl _, h.f.bb, Nat.lt_of_lt_of_le h.f.hb hs, h.f.hgl, Nat.lt_of_lt_of_le h.f.gl hs⟩, h.hz, h.hn, h.hpos, h.hbig, h.fine, h.form, h.hops, h.hg, h.hgg, h.hnb, h.hroom, h.hfit⟩
theorem runSort_any (hG : BegG TT dgs W.b w g room b gl nb bb Zh parts l N ops0 w.heap.size) (hZ : 2 ≤ Z ∧ Z ≤ 16) (HRS : RS TT dgs parts nb bb xs [] 0) (hs : SA W g room false 0 ops0 xs w) (HR : RunsAt9 w b g parts none 0 0 0) (HE : EvR w gl ol l) (n : Nat) (hn : n = l.length) (hnc : n ≤ c) (hcm : c ≤ maxLen)
  (HSRT : Hid (∀ (gl' ol' n' c' : Nat) (l' : List Ev) (w' : World), n' = l'.length → n' ≤ 320 → EvAt w' (some ⟨gl', ol', none⟩) l' → Calls Tryz.prog 58 #[.slice (some ⟨gl', ol', none⟩) n' c'] w' fun e w2 => ∃ A cap, e = .returned (.slice A n' cap) ∧ OwnE w2 w'.heap.size A n' cap (isort ltM l') ∧ n' ≤ cap ∧ cap ≤ maxLen ∧ Below w'.heap.size w' w2)) :
  Calls Tryz.prog 30 #[.pointer (some ⟨b, 0, none⟩), .slice (some ⟨gl, ol, none⟩) n c, .agg #[.int .i64 (Zh : Int), .int .i64 (Z : Int)]] w (SortEnd dgs W.b w g room b nb Z (bgP Zh l (chZ N)) N (ops0 + N)) := by
 have hNl := hG.Nle
 have hN0 : 0 < N := (hG.hn 0).1 (by have := hG.hpos; omega)
 have hln : (bgP Zh l (chZ N)).length = N := by rw [bgP_len, chZ_len]
 have hops := hG.hops
 refine sort_walk (parts := parts) (nb := nb) (bb := bb) (some ⟨gl, ol, none⟩) n c Zh N (3 * N) (ops0 + N) (bgP Zh l (chZ N)) N
  (Lib.hid ⟨hG.nmr, hZ, hG.hg, hG.hgg, hG.f.bb, hG.f.hb, hG.hnb, hG.hroom, hG.hfit, by omega, by omega, by omega, by omega⟩) hln.symm (Lib.hid fun w1 hb1 => ?_)
 refine (begin_any (W := W) (hG.next hb1.size) HRS (hs.next hb1) (HR.keep hb1) (HE.kx (KX.of_kf (KF.of_below hb1)) hG.f.hgl) n hn hnc hcm HSRT).mono ?_
 rintro e w2 ⟨rfl, hkx, xs', ops', gn, cap, hrs, hsa, hop, hrow, hnm, hgn, hc1, hc2⟩
 have hbl := hG.f.hb
 have hs1 := hb1.size
 exact ⟨rfl, hkx, xs', ops', gn, cap, hrs, hsa, by rw [hln]; exact hrow, hnm, by omega, by rw [hln]; exact ⟨hc1, hc2⟩, KX.of_kf (KF.refl _), by rw [hln]; omega, ⟨hop.1, by omega⟩⟩
end
end Go.Proofs.YtjldamkmdkaiiaaGreatDoor
namespace Go.Proofs.YtjldamkmdkaiiaaGreatDoor
open Go.RowKit Go.WideShapes Col Go.Sort
section
variable {α β : Type} {lt : β → β → Bool} {lt' : α → α → Bool}
theorem insR_map (f : α → β) (h : ∀ x y, lt (f x) (f y) = lt' x y) (x : α) (T : List α) : insR lt (f x) (T.map f) = (insR lt' x T).map f := by
 induction T with
 | nil => rfl
 | cons e r ih =>
  rw [List.map_cons, insR, insR, h]
  split
  ·rw [List.map_cons, ih]
  ·rfl
theorem insB_map (f : α → β) (h : ∀ x y, lt (f x) (f y) = lt' x y) (x : α) (T : List α) : insB lt (f x) (T.map f) = (insB lt' x T).map f := by
 unfold insB; rw [← List.map_reverse, insR_map f h, List.map_reverse]
theorem sm_map (f : α → β) (h : ∀ x y, lt (f x) (f y) = lt' x y) (R : List α) : ∀ S : List α, smerge lt (S.map f) (R.map f) = (smerge lt' S R).map f := by
 induction R with
 | nil => intro S; rfl
 | cons y r ih => intro S; rw [List.map_cons, sm_cons, insB_map f h, ih, sm_cons]
theorem isort_map (f : α → β) (h : ∀ x y, lt (f x) (f y) = lt' x y) (l : List α) : isort lt (l.map f) = (isort lt' l).map f := sm_map f h l []
theorem isort_idem (l : List β) (h : Ordered lt l) : isort lt l = l := sm_nil l h
theorem isort_flat (W : Wk lt) (ls : List (List β)) : isort lt (ls.map (isort lt)).flatten = isort lt ls.flatten := by
 induction ls with
 | nil => rfl
 | cons a r ih => rw [List.map_cons, List.flatten_cons, List.flatten_cons, isort_append W, isort_append W a, ih, isort_idem _ (isort_ordered W a)]
end
theorem isort_canE (l : List Ev) : isort ltM (l.map canE) = (isort ltM l).map canE := isort_map canE (fun _ _ => rfl) l
def SO (ps : List (Nat × List Ev)) : List Ev := isort ltM (canL (evP ps)).flatten
theorem SO_app (A B : List (Nat × List Ev)) : SO (A ++ B) = smerge ltM (SO A) (SO B) := by
 unfold SO evP canL; rw [List.map_append, List.map_append, List.flatten_append, isort_append wkE]
theorem SO_mrg (k : Nat) (C : List (Nat × List Ev)) : SO [(mrgP k C).1] = SO C := by
 have key : ∀ ls : List (List Ev), isort ltM ([mgL ls].map (List.map canE)).flatten = isort ltM (canL ls).flatten := fun ls => by
  rw [List.map_cons, List.map_nil, List.flatten_cons, List.flatten_nil, List.append_nil, mgL_can]
  exact isort_idem _ (isort_ordered wkE _)
 rcases C with _ | ⟨p, _ | ⟨q, r⟩⟩
 ·exact key _
 ·rfl
 ·exact key _
theorem SO_pst (Z : Nat) (ps : List (Nat × List Ev)) (k j : Nat) : SO (pst Z ps k j).1 = SO (ps.take (Z * j)) := by
 induction j with
 | zero => rw [Nat.mul_zero, List.take_zero]; rfl
 | succ j ih =>
  show SO ((pst Z ps k j).1 ++ [(mrgP (pst Z ps k j).2 ((ps.drop (Z * j)).take Z)).1]) = _
  rw [SO_app, SO_mrg, ih, ← SO_app, Nat.mul_succ, List.take_add]
theorem SO_it {Z : Nat} (hZ : 2 ≤ Z) (ps : List (Nat × List Ev)) (k J : Nat) : SO (itP Z ps k J).1 = SO ps := by
 induction J with
 | zero => rfl
 | succ J ih =>
  show SO (pst Z (itP Z ps k J).1 (itP Z ps k J).2 (ckN Z (itP Z ps k J).1.length)).1 = _
  rw [SO_pst, List.take_of_length_le, ih]
  have h := ckN_iff (n := (itP Z ps k J).1.length) hZ (ckN Z (itP Z ps k J).1.length)
  omega
theorem bg_flat {Z : Nat} {l : List Ev} {N : Nat} (hN : ∀ k, Z * k < l.length ↔ k < N) : ∀ k, k ≤ N → ((chZ k).map (bgc Z l)).flatten = l.take (Z * k) := by
 intro k
 induction k with
 | zero => intro _; rw [Nat.mul_zero, List.take_zero]; rfl
 | succ k ih =>
  intro hk
  have h1 := (hN k).2 (by omega)
  rw [chZ_succ, List.map_append, List.flatten_append, ih (by omega), Nat.mul_succ, List.take_add]
  congr 1
  rw [List.map_cons, List.map_nil, List.flatten_cons, List.flatten_nil, List.append_nil]
  unfold bgc lnZ stZ
  rw [if_pos h1, List.take_eq_take_iff, List.length_drop]
  omega
theorem SO_bg {Z : Nat} {l : List Ev} {N : Nat} (hN : ∀ k, Z * k < l.length ↔ k < N) : SO (bgP Z l (chZ N)) = (isort ltM l).map canE := by
 have e1 : evP (bgP Z l (chZ N)) = ((chZ N).map (bgc Z l)).map (isort ltM) := by
  unfold evP bgP
  apply List.ext_getElem?
  intro i
  rw [List.getElem?_map, List.getElem?_mapIdx, List.getElem?_map, List.getElem?_map]
  cases (chZ N)[i]? <;> rfl
 have e2 : canL (evP (bgP Z l (chZ N))) = (((chZ N).map (bgc Z l)).map (List.map canE)).map (isort ltM) := by
  rw [e1]; unfold canL
  simp only [List.map_map]
  exact List.map_congr_left fun x _ => (isort_canE (bgc Z l x)).symm
 unfold SO
 rw [e2, isort_flat wkE, ← List.map_flatten, bg_flat hN N (Nat.le_refl _), List.take_of_length_le, isort_canE]
 have := hN N
 omega
def itN (Z n : Nat) : Nat → Nat
 | 0 => n
 | j + 1 => ckN Z (itN Z n j)
theorem itP_len (Z : Nat) (ps : List (Nat × List Ev)) (k J : Nat) : (itP Z ps k J).1.length = itN Z ps.length J := by
 induction J with
 | zero => rfl
 | succ J ih =>
  show (pst Z (itP Z ps k J).1 (itP Z ps k J).2 (ckN Z (itP Z ps k J).1.length)).1.length = _
  rw [pst_len, ih]; rfl
end Go.Proofs.YtjldamkmdkaiiaaGreatDoor
namespace Go.Proofs.YtjldamkmdkaiiaaGreatDoor
open Go.RowKit Go.WideShapes Col Go.Sort Go.Shelf
attribute [local go_sem] Oper.semAt_some
set_option maxRecDepth 100000 in
set_option maxHeartbeats 4000000 in
theorem chunkI_in0 (n : Nat) (l Bs Bn : Nat) (Z : Int) (J : World → Prop) (hJd : ∀ W k, J W → J (W.drewN k)) (W : World) (hBs : W.cell? ⟨Bs, 0, none⟩ = some (.slice none 0 0)) (hBn : W.cell? ⟨Bn, 0, none⟩ = some (.int .i64 Z)) (h0 : J W) :
  CallsIn Fence.wide n Tryz.prog 66 #[.func (.yield l) #[] #[], .pointer (some ⟨Bs, 0, none⟩), .pointer (some ⟨Bn, 0, none⟩)] W fun e W' => (∃ v, e = .returned v) ∧ J W' := by
 refine callsIn_of_wp Tryz.func66 rfl trivial ?_ rfl
 simp only [Tryz.ntmps66, List.size_toArray, List.length_cons, List.length_nil, Nat.reduceAdd, Nat.reduceSub, Array.replicate_succ, Array.replicate_zero, List.push_toArray, List.append_toArray, List.nil_append, List.cons_append]
 gi_wp2
 gi_loopw [4] (fun i wr => i = .int .i64 0 ∧ J wr ∧ wr.cell? ⟨Bs, 0, none⟩ = some (.slice none 0 0) ∧ wr.cell? ⟨Bn, 0, none⟩ = some (.int .i64 Z)) (fun _ _ => 0)
 case atStart => exact ⟨rfl, h0, hBs, hBn⟩
 case round =>
  obtain ⟨rfl, hJs, hs, hb⟩ := hrel
  clear hBs hBn
  gi_wp2
  go_end0
  first | exact ⟨⟨_, rfl⟩, hJs⟩ | exact ⟨trivial, hJs⟩
theorem chunk_stops0 (n : Nat) (Z : Int) (Bs Bn b off len : Nat) (w : World) (hBs : Bs < w.heap.size) (hBn : Bn < w.heap.size) (hcs : w.cell? ⟨Bs, 0, none⟩ = some (.slice none 0 0)) (hcn : w.cell? ⟨Bn, 0, none⟩ = some (.int .i64 Z)) :
  SeqStopsK Fence.wide n Tryz.prog 66 #[.pointer (some ⟨Bs, 0, none⟩), .pointer (some ⟨Bn, 0, none⟩)] (encZ 1 b off len) (KpZ Bs Bn) (fun ys => ys = []) (fun pre => pre = chZ pre.length) 0 w := fun l J Jx W hW hJ hJx hY h0 =>
 (chunkI_in0 n l Bs Bn Z (J []) (fun W' k hs => hJ [] W' (W'.drewN k) none hs ⟨rfl, rfl, rfl, Nat.le_refl _, fun _ _ _ => rfl⟩ (fun r e => by cases e)) W
  ((hW.cell (p := ⟨Bs, 0, none⟩) hBs).trans hcs) ((hW.cell (p := ⟨Bn, 0, none⟩) hBn).trans hcn) h0).mono fun e W' ⟨h1, h2⟩ => ⟨h1, .inl ⟨[], rfl, h2⟩⟩
structure B0 (w : World) (s b : Nat) (V : World) : Prop where
 r0 : V.heap[s]? = some (.cells #[.pointer (some ⟨b, 0, none⟩)] 68 (0, 0))
 r1 : V.heap[s + 1]? = some (.cells #[.int .i64 0] 28 (0, 0))
 below : Below s w V
 size : s + 4 ≤ V.heap.size
theorem B0.grown {w V V' : World} {s b : Nat} (h : B0 w s b V) {row : Option Nat} (hg : V.grownBy V' row) (hr : ∀ r, row = some r → s + 4 ≤ r ∧ ∃ o : Obj, V.heap[r]? = some o ∧ o.isCells = false) : B0 w s b V' := by
 have no : ∀ k cs t fr, V.heap[k]? = some (.cells cs t fr) → ¬ row = some k := fun k cs t fr hk e => by
  obtain ⟨-, o, ho, hc⟩ := hr k e
  rw [hk] at ho; injection ho with ho; subst ho; cases hc
 exact ⟨(hg.block s (Array.getElem?_eq_some_iff.1 h.r0).1 (fun e => no _ _ _ _ h.r0 e.symm)).trans h.r0, (hg.block (s + 1) (Array.getElem?_eq_some_iff.1 h.r1).1 (fun e => no _ _ _ _ h.r1 e.symm)).trans h.r1, h.below.grown hg (by have := h.size; omega) (fun k e => by have := (hr k e).1; omega), Nat.le_trans h.size hg.size⟩
set_option maxHeartbeats 8000000 in
theorem begin_none (b Z : Nat) (hZ : 1 ≤ Z ∧ Z ≤ 4096) (w : World) :
  Calls Tryz.prog 45 #[.pointer (some ⟨b, 0, none⟩), .slice none 0 0, .int .i64 (Z : Int)] w fun e w' => e = .returned (.int .i64 0) ∧ Below w.heap.size w w' := by
 have HCH := Lib.hid (chunkF_anyZ Z (by omega) none 0 0)
 obtain ⟨s, hss⟩ : ∃ s, s = w.heap.size := ⟨_, rfl⟩
 have HS := Lib.hid hss
 refine (callsIn_wide (n := 5)).1 ?_
 refine callsIn_of_wp_marks Tryz.func45 rfl trivial ?_ rfl
 refine wpIn_wide.2 (wp_mono ?_ (noPanicO_imp _))
 simp only [Tryz.ntmps45, List.size_toArray, List.length_cons, List.length_nil, Nat.reduceAdd, Nat.reduceSub, Array.replicate_succ, Array.replicate_zero, List.push_toArray, List.append_toArray, List.nil_append, List.cons_append]
 go_wp2_with (go_at_call 56; (with_reducible refine (HCH.out _).mono ?_); rintro e w2 ⟨rfl, rfl⟩)
 have H0 : ∃ W4, W4 = (((w.alloc (.cells #[.pointer (some ⟨b, 0, none⟩)] 68)).alloc (.cells #[.int .i64 0] 28)).alloc (.cells #[.slice none 0 0] 22)).alloc (.cells #[.int .i64 (Z : Int)] 3) ∧ B0 w s b W4 ∧ W4.heap.size = s + 4 ∧ W4.heap[s + 2]? = some (.cells #[.slice none 0 0] 22 (0, 0)) ∧ W4.heap[s + 3]? = some (.cells #[.int .i64 (Z : Int)] 3 (0, 0)) := by
  have e0 : ∀ (w : World) (o : Obj), (w.alloc o).heap = w.heap.push o := fun _ _ => rfl
  subst hss
  refine ⟨_, rfl, ⟨?_, ?_, ((((Below.refl _ _).alloc (Nat.le_refl _) _).alloc (by simp) _).alloc (by simp; omega) _).alloc (by simp; omega) _, by simp [e0]⟩, by simp [e0], ?_, ?_⟩
  ·simp only [e0, Array.getElem?_push, Array.size_push]; rw [if_neg (by omega), if_neg (by omega), if_neg (by omega)]; simp
  ·simp only [e0, Array.getElem?_push, Array.size_push]; rw [if_neg (by omega), if_neg (by omega)]; simp
  ·simp only [e0, Array.getElem?_push, Array.size_push]; rw [if_neg (by omega)]; simp
  ·simp only [e0, Array.getElem?_push, Array.size_push]; simp
 obtain ⟨W4, hW4, hB, hsz, h2, h3⟩ := H0
 rw [← hW4, ← HS.out]
 clear hW4
 have HB := Lib.hid hB
 have HSZ := Lib.hid hsz
 have c2 : W4.cell? ⟨s + 2, 0, none⟩ = some (.slice none 0 0) := by rw [cell_of_row _ _ _ _ _ _ h2]; rfl
 have c3 : W4.cell? ⟨s + 3, 0, none⟩ = some (.int .i64 (Z : Int)) := by rw [cell_of_row _ _ _ _ _ _ h3]; rfl
 have HC2 := Lib.hid c2; have HC3 := Lib.hid c3
 clear hss HCH c2 c3 h2 h3 hB hsz
 refine wpIn_wide (n := 5).1 ?_
 refine wpIn_rangeFunc_ownF rfl (by decide) (gf := 66) (lb := #[.pointer (some ⟨s + 2, 0, none⟩), .pointer (some ⟨s + 3, 0, none⟩)]) rfl trivial (enters_of Tryz.func66 (by kernel_rfl) rfl)
  (chunk_stops0 (5 - 1) (Z : Int) (s + 2) (s + 3) 0 0 0 W4 (by have := HSZ.out; omega) (by have := HSZ.out; omega) HC2.out HC3.out) KpZ.trans (fun W l o o' hl _ _ _ => KpZ.putObj W l o' (by have := HSZ.out; omega) (by have := HSZ.out; omega)) (Below.refl _ _) (fun _ => rfl)
  (fun pre V => B0 w s b V) (fun _ _ _ => False)
  (fun pre A B row h hg hr => h.grown hg (fun r e => ⟨by have := (hr r e).1; have := HSZ.out; omega, (hr r e).2⟩))
  (fun _ _ _ _ _ hs _ _ => hs)
  HB.out
  ?a1 ?assign ?body ?done ?stop
 case assign =>
  intro l x W K hK
  unfold encZ
  try simp only [List.zip_toArray, List.zip_cons_cons, List.zip_nil_right, List.zip_nil_left, List.foldl_toArray, List.foldl_cons, List.foldl_nil, List.setIfInBounds_toArray, List.set_cons_succ, List.set_cons_zero]
  gi_wp2
  exact hK
 case stop =>
  rintro D c pre V _ hsp h _
  exact h.elim
 case body =>
  rintro lp pre x W6 _ hlt
  exact absurd hlt (by omega)
 case done =>
  rintro D qs W5 hD rfl hI hKD
  have HDS : Hid (s + 4 ≤ D) := Lib.hid (by have := HSZ.out; omega)
  have HI := Lib.hid hI; have HDD := Lib.hid hKD
  have cx : W5.cell? ⟨s + 1, 0, none⟩ = some (.int .i64 0) := by rw [cell_of_row _ _ _ _ _ _ hI.r1]; rfl
  have fx : W5.frozen? ⟨s + 1, 0, none⟩ = false := row_frozen hI.r1 0
  clear hI hKD hD
  go_wp2_with fail
  have hds := HDS.out
  obtain ⟨W8, hW8⟩ : ∃ W8, W8 = W5.setCell ⟨s + 1, 0, none⟩ (.int .i64 0) := ⟨_, rfl⟩
  rw [← hW8]
  have HD8 : W8.heap[D]? = some (.deferred (some [])) := by rw [hW8]; exact row_far (by omega) HDD.out
  have hr1 : W8.heap[s + 1]? = some (.cells #[.int .i64 0] 28 (0, 0)) := by
   rw [hW8]; exact row_set HI.out.r1 0 _
  have put : ∀ (j : Nat) (o : Obj), W8.heap[j]? = some o → j ≠ D → (W8.putObj D (.deferred none)).heap[j]? = some o := fun j o hj hn => by
   rw [World.putObj_heap_other hn]; exact hj
  try dsimp only [noPanicO, bodyPostM]
  refine ⟨by simp, .inl ⟨_, _, rfl, run_takeDeferred HD8, ?_⟩⟩
  refine ⟨_, results_errO rfl _ _ (s + 1) (.int .i64 0) rfl (by rw [cell_of_row _ _ _ _ _ _ (put _ _ hr1 (by omega))]; rfl), rfl, ?_⟩
  have hb8 : Below s w W8 := by rw [hW8]; exact HI.out.below.setCell (by show s ≤ s + 1; omega) _
  have hs0 := HS.out
  rw [← hs0]
  refine ⟨hb8.os, hb8.tape, hb8.output, ?_, fun j hj => ?_⟩
  ·have := hb8.size; simpa [World.putObj] using this
  ·rw [World.putObj_heap_other (by omega)]; exact hb8.block j hj
end Go.Proofs.YtjldamkmdkaiiaaGreatDoor
