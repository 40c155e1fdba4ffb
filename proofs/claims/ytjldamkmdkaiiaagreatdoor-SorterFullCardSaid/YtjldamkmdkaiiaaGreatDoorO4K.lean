/-
  Layer sorter: begin and sort of no events.
-/
import Derived.Shelf.Strings.Prefix
import Derived.Test.YtjldamkmdkaiiaaGreatDoorOuK
import Derived.Test.YtjldamkmdkaiiaaGreatDoorOsfK
import Derived.Test.YtjldamkmdkaiiaaGreatDoorOxK
import Derived.Test.YtjldamkmdkaiiaaGreatDoorOsxK
set_option linter.unusedSimpArgs false
set_option linter.unusedVariables false
set_option maxRecDepth 8000
namespace Go.Proofs.YtjldamkmdkaiiaaGreatDoor
open Go.RowKit Go.WideShapes Col Go.Sort
def hpfLays_ren : Go.Shelf.Ren := ⟨fun | 99 => 35 | 206 => 49 | n => n, fun | 9 => 9 | 4 => 4 | 3 => 3 | n => n, fun n => n⟩
theorem hpfLays : Go.Proofs.Lays.n99 Tryz.prog hpfLays_ren := {
 mixed := by kernel_rfl
 f99 := Tryz.func35.trans (congrArg some (by kernel_rfl))
 f206 := Tryz.func49.trans (congrArg some (by kernel_rfl))
 t3 := Tryz.underlying3
 a3 := Tryz.isAgg3
 z3 := Tryz.sizeOf3
 v3 := Tryz.zeroValue3
 t4 := Tryz.underlying4
 a4 := Tryz.isAgg4
 z4 := Tryz.sizeOf4
 v4 := Tryz.zeroValue4
 t9 := Tryz.underlying9
 a9 := Tryz.isAgg9
 z9 := Tryz.sizeOf9
 v9 := Tryz.zeroValue9 }
theorem hasPrefix_any (s p : ByteArray) (w : World) : Calls Tryz.prog 35 #[.string s, .string p] w fun e w' => e = .returned (.bool (Lib.hasPrefix s.data.toList p.data.toList)) ∧ w' = w := by
 have h := Any.strings_HasPrefix hpfLays s p w
 change Calls Tryz.prog 35 _ _ _ at h
 exact h
theorem Rises.sub {xs ys : List Fil} (h : Rises xs) (hs : ys.Sublist xs) : Rises ys := by
 have h1 : xs.Pairwise fun a b => cmpKF a.name b.name < 0 := List.pairwise_iff_getElem.2 fun i j hi hj hij => h i j _ _ hij (List.getElem?_eq_getElem hi) (List.getElem?_eq_getElem hj)
 have h2 := h1.sublist hs
 intro j k x y hjk hx hy
 obtain ⟨hj, rfl⟩ := List.getElem?_eq_some_iff.1 hx
 obtain ⟨hk, rfl⟩ := List.getElem?_eq_some_iff.1 hy
 exact List.pairwise_iff_getElem.1 h2 j k hj hk hjk
def clP (xs : List Fil) (k : Nat) : List Fil := (xs.take k).filter (fun x => !runT x.name) ++ xs.drop k
theorem clP_0 (xs : List Fil) : clP xs 0 = xs := by unfold clP; rw [List.take_zero, List.drop_zero]; rfl
theorem clP_n (xs : List Fil) : clP xs xs.length = xs.filter fun x => !runT x.name := by unfold clP; rw [List.take_length, List.drop_length, List.append_nil]
theorem clP_sub (xs : List Fil) (k : Nat) : (clP xs k).Sublist xs := by
 have h := (List.filter_sublist (p := fun x : Fil => !runT x.name) (l := xs.take k)).append (List.Sublist.refl (xs.drop k))
 rwa [List.take_append_drop] at h
theorem clP_no {xs : List Fil} {k : Nat} {x : Fil} (hx : xs[k]? = some x) (hp : runT x.name = false) : clP xs (k + 1) = clP xs k := by
 obtain ⟨hk, hx'⟩ := List.getElem?_eq_some_iff.1 hx
 unfold clP
 rw [List.take_add_one, hx, List.filter_append, List.drop_eq_getElem_cons hk, hx']
 simp [hp]
theorem clP_yes {xs : List Fil} {k : Nat} {x : Fil} (hx : xs[k]? = some x) (hp : runT x.name = true) : ∃ lo, (clP xs k)[lo]? = some x ∧ (clP xs k).eraseIdx lo = clP xs (k + 1) := by
 obtain ⟨hk, hx'⟩ := List.getElem?_eq_some_iff.1 hx
 refine ⟨((xs.take k).filter fun x => !runT x.name).length, ?_, ?_⟩
 ·unfold clP
  rw [List.getElem?_append_right (Nat.le_refl _), Nat.sub_self, List.getElem?_drop, Nat.add_zero, hx]
 ·unfold clP
  rw [List.eraseIdx_append_of_length_le (Nat.le_refl _), Nat.sub_self, List.drop_eq_getElem_cons hk, List.eraseIdx_cons_zero, List.take_add_one, hx, List.filter_append]
  simp [hp]
section
variable {W : Bs} {g : Nat} {room ops : Int} {xs : List Fil}
set_option maxHeartbeats 8000000 in
theorem clean_any (hr : Rises xs) (hf : ∀ x ∈ xs, x.name.size ≤ 2000 ∧ formK x.name = true) (hn : xs.length ≤ 1000) (w : World) (hs : SA W g room false 0 ops xs w) (h : 0 ≤ ops ∧ ops < 900000000) :
  Calls Tryz.prog 23 #[.pointer (some ⟨g, 0, none⟩)] w fun e w' => e = .returned (.int .i64 0) ∧ KF w w' ∧ ∃ ops', (0 ≤ ops' ∧ ops' ≤ ops + xs.length) ∧ SA ⟨W.b, w'⟩ g room false 0 ops' (xs.filter fun x => !runT x.name) w' := by
 have HL := Lib.hid (list_A hn w (Lib.hid hs))
 obtain ⟨n, hnn⟩ : ∃ n, n = xs.length := ⟨_, rfl⟩
 have HN := Lib.hid hnn
 rw [← hnn] at HL hn
 have HS := Lib.hid hs; have HOP := Lib.hid h; have HR := Lib.hid hr; have HF := Lib.hid hf
 clear hs h hr hf hnn
 go_enter Tryz.func23, Tryz.ntmps23
 go_wp2_with (go_at_call 17; (with_reducible refine HL.out.mono ?_); rintro e w2 ⟨b2, rfl, h1, ⟨cur, h2⟩, h3⟩; have HST := Lib.hid h1; have HRW := Lib.hid h2; have HB2 := Lib.hid h3; clear h1 h2 h3)
 have HNM : Hid (NmAt w2 b2 0 (xs.map (·.name))) := Lib.hid ⟨cur, _, _, HRW.out, not_st (by decide) (by decide) (by decide), fun j s hj => by
  obtain ⟨b, off, e, hb, hc⟩ := HST.out j s hj
  injection e with e; injection e with e1 e2 e3
  subst e1; subst e2
  rw [cell_of_row _ _ _ _ _ _ HRW.out] at hc; exact hc⟩
 clear HST HRW
 go_loopw [11] (fun i wr => ∃ (k : Nat) (o : Int), k ≤ n ∧ i = .int .i64 (k : Int) ∧ Hid (SA W g room false 0 o (clP xs k) wr) ∧ Hid (0 ≤ o ∧ o ≤ ops + k) ∧ Hid (KF w wr) ∧ Hid (NmAt wr b2 0 (xs.map (·.name)))) (fun i _ => n - (intOf i).toNat)
 case atStart => exact ⟨0, ops, by omega, rfl, Lib.hid (by rw [clP_0]; exact HS.out.next HB2.out), Lib.hid ⟨HOP.out.1, by simp⟩, Lib.hid (KF.of_below HB2.out), HNM⟩
 case round =>
  obtain ⟨k, o, hk, rfl, HSR, HO, HK, HNR⟩ := hrel
  by_cases hlt : k < n
  ·obtain ⟨x, hx⟩ : ∃ x, xs[k]? = some x := ⟨xs[k]'(by have := HN.out; omega), List.getElem?_eq_getElem _⟩
   have hc := HNR.out.cell (j := k) (s := x.name) (by rw [List.getElem?_map, hx]; rfl)
   rw [Nat.zero_add] at hc
   have HX := Lib.hid hx
   have hlti : (k : Int) < (n : Int) := by omega
   obtain ⟨t, ht⟩ : ∃ t, t = x.name := ⟨_, rfl⟩
   rw [← ht] at hc
   have HT := Lib.hid ht
   clear hx ht
   by_cases hp : runT x.name = true
   ·obtain ⟨lo, hlo, her⟩ := clP_yes HX.out hp
    have hfx := HF.out x (List.mem_of_getElem? HX.out)
    have hthere : There (clP xs k) t lo x := (HR.out.sub (clP_sub xs k)).there hlo HT.out.symm (by rw [HT.out]; omega) (by rw [HT.out]; exact hfx.2)
    have hlen : (clP xs k).length ≤ 1000 := by have := (clP_sub xs k).length_le; have := HN.out; omega
    have HD := Lib.hid (delete_K (armed' := 0) hlen lo x wr HSR (Lib.hid hthere) (Lib.hid ⟨.inl ⟨rfl, rfl, rfl, rfl⟩⟩) (Lib.hid ⟨HO.out.1, by have := HO.out.2; have := HOP.out.2; omega⟩) (Lib.hid (by omega)))
    rw [her] at HD
    have HHP : Hid (Calls Tryz.prog 35 #[.string t, .string { data := #[114, 117, 110, 46] }] wr fun e w' => e = .returned (.bool true) ∧ w' = wr) := Lib.hid (by
     have h := hasPrefix_any t { data := #[114, 117, 110, 46] } wr
     unfold runT at hp
     rw [← HT.out] at hp
     rw [hp] at h; exact h)
    clear hlo her hfx hthere hlen hp
    go_wp2_with (first
     | (go_at_call 35; (with_reducible refine HHP.out.mono ?_); rintro e w4 ⟨rfl, rfl⟩)
     | (go_at_call 36; (with_reducible refine HD.out.mono ?_); rintro e w5 ⟨rfl, h1, h2⟩; have HK5 := Lib.hid h1; have HS5 := Lib.hid h2; clear h1 h2))
    go_roundw
    case rel => exact ⟨k + 1, o + 1, by omega, by go_num, HS5, Lib.hid (by have := HO.out; push_cast; omega), Lib.hid (HK.out.trans HK5.out), Lib.hid (HNR.out.kf HK5.out)⟩
    case measure => simp [intOf]; omega
   ·have hp0 : runT x.name = false := by simpa using hp
    have HHP : Hid (Calls Tryz.prog 35 #[.string t, .string { data := #[114, 117, 110, 46] }] wr fun e w' => e = .returned (.bool false) ∧ w' = wr) := Lib.hid (by
     have h := hasPrefix_any t { data := #[114, 117, 110, 46] } wr
     have hp1 := hp0
     unfold runT at hp1
     rw [← HT.out] at hp1
     rw [hp1] at h; exact h)
    have HCL := Lib.hid (clP_no HX.out hp0)
    clear hp hp0
    go_wp2_with (go_at_call 35; (with_reducible refine HHP.out.mono ?_); rintro e w4 ⟨rfl, rfl⟩)
    go_roundw
    case rel => exact ⟨k + 1, o, by omega, by go_num, Lib.hid (by rw [HCL.out]; exact HSR.out), Lib.hid (by have := HO.out; push_cast; omega), HK, HNR⟩
    case measure => simp [intOf]; omega
  ·have hge : ¬ (k : Int) < (n : Int) := by omega
   have hkn : k = n := by omega
   have HKN := Lib.hid hkn
   clear hkn
   go_wp2
   go_ret
   refine ⟨rfl, HK.out, o, ?_, ?_⟩
   ·have := HO.out; have := HN.out; have := HKN.out; omega
   ·have h1 := HSR.out.now
    rw [HKN.out, HN.out, clP_n] at h1; exact h1
end
end Go.Proofs.YtjldamkmdkaiiaaGreatDoor
namespace Go.Proofs.YtjldamkmdkaiiaaGreatDoor
open Go.RowKit Go.WideShapes Col Go.Sort Go.Shelf
section
variable {TT : Nat} {dgs : Nat → ByteArray} {W : Bs} {w : World} {g : Nat} {room : Int} {b gl ol c nb bb Zh Z : Nat} {parts : Int} {l : List Ev} {N : Nat} {ops0 : Int} {xs : List Fil}
theorem BegG.next {base w1 : World} (h : BegG TT dgs base w g room b gl nb bb Zh parts l N ops0 w.heap.size) (hs : w.heap.size ≤ w1.heap.size) : BegG TT dgs base w1 g room b gl nb bb Zh parts l N ops0 w1.heap.size :=
 ⟨h.nmr, ⟨Nat.le_trans h.f.bs hs, Nat.le_refl _, h.f.bb, Nat.lt_of_lt_of_le h.f.hb hs, h.f.hgl, Nat.lt_of_lt_of_le h.f.gl hs⟩, h.hz, h.hn, h.hpos, h.hbig, h.fine, h.form, h.hops, h.hg, h.hgg, h.hnb, h.hroom, h.hfit⟩
end
end Go.Proofs.YtjldamkmdkaiiaaGreatDoor
namespace Go.Proofs.YtjldamkmdkaiiaaGreatDoor
open Go.RowKit Go.WideShapes Col Go.Sort
section
variable {α β : Type} {lt : β → β → Bool} {lt' : α → α → Bool}
theorem insR_map (f : α → β) (h : ∀ x y, lt (f x) (f y) = lt' x y) (x : α) (T : List α) : insR lt (f x) (T.map f) = (insR lt' x T).map f := by
 induction T with
 | nil => rfl
 | cons e r ih =>
  rw [List.map_cons, insR, insR, h]
  split
  ·rw [List.map_cons, ih]
  ·rfl
theorem insB_map (f : α → β) (h : ∀ x y, lt (f x) (f y) = lt' x y) (x : α) (T : List α) : insB lt (f x) (T.map f) = (insB lt' x T).map f := by
 unfold insB; rw [← List.map_reverse, insR_map f h, List.map_reverse]
theorem sm_map (f : α → β) (h : ∀ x y, lt (f x) (f y) = lt' x y) (R : List α) : ∀ S : List α, smerge lt (S.map f) (R.map f) = (smerge lt' S R).map f := by
 induction R with
 | nil => intro S; rfl
 | cons y r ih => intro S; rw [List.map_cons, sm_cons, insB_map f h, ih, sm_cons]
theorem isort_map (f : α → β) (h : ∀ x y, lt (f x) (f y) = lt' x y) (l : List α) : isort lt (l.map f) = (isort lt' l).map f := sm_map f h l []
theorem isort_idem (l : List β) (h : Ordered lt l) : isort lt l = l := sm_nil l h
theorem isort_flat (W : Wk lt) (ls : List (List β)) : isort lt (ls.map (isort lt)).flatten = isort lt ls.flatten := by
 induction ls with
 | nil => rfl
 | cons a r ih => rw [List.map_cons, List.flatten_cons, List.flatten_cons, isort_append W, isort_append W a, ih, isort_idem _ (isort_ordered W a)]
end
theorem isort_canE (l : List Ev) : isort ltM (l.map canE) = (isort ltM l).map canE := isort_map canE (fun _ _ => rfl) l
def SO (ps : List (Nat × List Ev)) : List Ev := isort ltM (canL (evP ps)).flatten
theorem SO_app (A B : List (Nat × List Ev)) : SO (A ++ B) = smerge ltM (SO A) (SO B) := by
 unfold SO evP canL; rw [List.map_append, List.map_append, List.flatten_append, isort_append wkE]
theorem SO_mrg (k : Nat) (C : List (Nat × List Ev)) : SO [(mrgP k C).1] = SO C := by
 have key : ∀ ls : List (List Ev), isort ltM ([mgL ls].map (List.map canE)).flatten = isort ltM (canL ls).flatten := fun ls => by
  rw [List.map_cons, List.map_nil, List.flatten_cons, List.flatten_nil, List.append_nil, mgL_can]
  exact isort_idem _ (isort_ordered wkE _)
 rcases C with _ | ⟨p, _ | ⟨q, r⟩⟩
 ·exact key _
 ·rfl
 ·exact key _
theorem SO_pst (Z : Nat) (ps : List (Nat × List Ev)) (k j : Nat) : SO (pst Z ps k j).1 = SO (ps.take (Z * j)) := by
 induction j with
 | zero => rw [Nat.mul_zero, List.take_zero]; rfl
 | succ j ih =>
  show SO ((pst Z ps k j).1 ++ [(mrgP (pst Z ps k j).2 ((ps.drop (Z * j)).take Z)).1]) = _
  rw [SO_app, SO_mrg, ih, ← SO_app, Nat.mul_succ, List.take_add]
theorem SO_it {Z : Nat} (hZ : 2 ≤ Z) (ps : List (Nat × List Ev)) (k J : Nat) : SO (itP Z ps k J).1 = SO ps := by
 induction J with
 | zero => rfl
 | succ J ih =>
  show SO (pst Z (itP Z ps k J).1 (itP Z ps k J).2 (ckN Z (itP Z ps k J).1.length)).1 = _
  rw [SO_pst, List.take_of_length_le, ih]
  have h := ckN_iff (n := (itP Z ps k J).1.length) hZ (ckN Z (itP Z ps k J).1.length)
  omega
theorem bg_flat {Z : Nat} {l : List Ev} {N : Nat} (hN : ∀ k, Z * k < l.length ↔ k < N) : ∀ k, k ≤ N → ((chZ k).map (bgc Z l)).flatten = l.take (Z * k) := by
 intro k
 induction k with
 | zero => intro _; rw [Nat.mul_zero, List.take_zero]; rfl
 | succ k ih =>
  intro hk
  have h1 := (hN k).2 (by omega)
  rw [chZ_succ, List.map_append, List.flatten_append, ih (by omega), Nat.mul_succ, List.take_add]
  congr 1
  rw [List.map_cons, List.map_nil, List.flatten_cons, List.flatten_nil, List.append_nil]
  unfold bgc lnZ stZ
  rw [if_pos h1, List.take_eq_take_iff, List.length_drop]
  omega
theorem SO_bg {Z : Nat} {l : List Ev} {N : Nat} (hN : ∀ k, Z * k < l.length ↔ k < N) : SO (bgP Z l (chZ N)) = (isort ltM l).map canE := by
 have e1 : evP (bgP Z l (chZ N)) = ((chZ N).map (bgc Z l)).map (isort ltM) := by
  unfold evP bgP
  apply List.ext_getElem?
  intro i
  rw [List.getElem?_map, List.getElem?_mapIdx, List.getElem?_map, List.getElem?_map]
  cases (chZ N)[i]? <;> rfl
 have e2 : canL (evP (bgP Z l (chZ N))) = (((chZ N).map (bgc Z l)).map (List.map canE)).map (isort ltM) := by
  rw [e1]; unfold canL
  simp only [List.map_map]
  exact List.map_congr_left fun x _ => (isort_canE (bgc Z l x)).symm
 unfold SO
 rw [e2, isort_flat wkE, ← List.map_flatten, bg_flat hN N (Nat.le_refl _), List.take_of_length_le, isort_canE]
 have := hN N
 omega
def itN (Z n : Nat) : Nat → Nat
 | 0 => n
 | j + 1 => ckN Z (itN Z n j)
theorem itP_len (Z : Nat) (ps : List (Nat × List Ev)) (k J : Nat) : (itP Z ps k J).1.length = itN Z ps.length J := by
 induction J with
 | zero => rfl
 | succ J ih =>
  show (pst Z (itP Z ps k J).1 (itP Z ps k J).2 (ckN Z (itP Z ps k J).1.length)).1.length = _
  rw [pst_len, ih]; rfl
end Go.Proofs.YtjldamkmdkaiiaaGreatDoor
namespace Go.Proofs.YtjldamkmdkaiiaaGreatDoor
open Go.RowKit Go.WideShapes Col Go.Sort Go.Shelf
attribute [local go_sem] Oper.semAt_some
set_option maxRecDepth 100000 in
set_option maxHeartbeats 4000000 in
theorem chunkI_in0 (n : Nat) (l Bs Bn : Nat) (Z : Int) (J : World → Prop) (hJd : ∀ W k, J W → J (W.drewN k)) (W : World) (hBs : W.cell? ⟨Bs, 0, none⟩ = some (.slice none 0 0)) (hBn : W.cell? ⟨Bn, 0, none⟩ = some (.int .i64 Z)) (h0 : J W) :
  CallsIn Fence.wide n Tryz.prog 66 #[.func (.yield l) #[] #[], .pointer (some ⟨Bs, 0, none⟩), .pointer (some ⟨Bn, 0, none⟩)] W fun e W' => (∃ v, e = .returned v) ∧ J W' := by
 refine callsIn_of_wp Tryz.func66 rfl trivial ?_ rfl
 simp only [Tryz.ntmps66, List.size_toArray, List.length_cons, List.length_nil, Nat.reduceAdd, Nat.reduceSub, Array.replicate_succ, Array.replicate_zero, List.push_toArray, List.append_toArray, List.nil_append, List.cons_append]
 gi_wp2
 gi_loopw [4] (fun i wr => i = .int .i64 0 ∧ J wr ∧ wr.cell? ⟨Bs, 0, none⟩ = some (.slice none 0 0) ∧ wr.cell? ⟨Bn, 0, none⟩ = some (.int .i64 Z)) (fun _ _ => 0)
 case atStart => exact ⟨rfl, h0, hBs, hBn⟩
 case round =>
  obtain ⟨rfl, hJs, hs, hb⟩ := hrel
  clear hBs hBn
  gi_wp2
  go_end0
  first | exact ⟨⟨_, rfl⟩, hJs⟩ | exact ⟨trivial, hJs⟩
theorem chunk_stops0 (n : Nat) (Z : Int) (Bs Bn b off len : Nat) (w : World) (hBs : Bs < w.heap.size) (hBn : Bn < w.heap.size) (hcs : w.cell? ⟨Bs, 0, none⟩ = some (.slice none 0 0)) (hcn : w.cell? ⟨Bn, 0, none⟩ = some (.int .i64 Z)) :
  SeqStopsK Fence.wide n Tryz.prog 66 #[.pointer (some ⟨Bs, 0, none⟩), .pointer (some ⟨Bn, 0, none⟩)] (encZ 1 b off len) (KpZ Bs Bn) (fun ys => ys = []) (fun pre => pre = chZ pre.length) 0 w := fun l J Jx W hW hJ hJx hY h0 =>
 (chunkI_in0 n l Bs Bn Z (J []) (fun W' k hs => hJ [] W' (W'.drewN k) none hs ⟨rfl, rfl, rfl, Nat.le_refl _, fun _ _ _ => rfl⟩ (fun r e => by cases e)) W
  ((hW.cell (p := ⟨Bs, 0, none⟩) hBs).trans hcs) ((hW.cell (p := ⟨Bn, 0, none⟩) hBn).trans hcn) h0).mono fun e W' ⟨h1, h2⟩ => ⟨h1, .inl ⟨[], rfl, h2⟩⟩
structure B0 (w : World) (s b : Nat) (V : World) : Prop where
 r0 : V.heap[s]? = some (.cells #[.pointer (some ⟨b, 0, none⟩)] 68 (0, 0))
 r1 : V.heap[s + 1]? = some (.cells #[.int .i64 0] 28 (0, 0))
 below : Below s w V
 size : s + 4 ≤ V.heap.size
theorem B0.grown {w V V' : World} {s b : Nat} (h : B0 w s b V) {row : Option Nat} (hg : V.grownBy V' row) (hr : ∀ r, row = some r → s + 4 ≤ r ∧ ∃ o : Obj, V.heap[r]? = some o ∧ o.isCells = false) : B0 w s b V' := by
 have no : ∀ k cs t fr, V.heap[k]? = some (.cells cs t fr) → ¬ row = some k := fun k cs t fr hk e => by
  obtain ⟨-, o, ho, hc⟩ := hr k e
  rw [hk] at ho; injection ho with ho; subst ho; cases hc
 exact ⟨(hg.block s (Array.getElem?_eq_some_iff.1 h.r0).1 (fun e => no _ _ _ _ h.r0 e.symm)).trans h.r0, (hg.block (s + 1) (Array.getElem?_eq_some_iff.1 h.r1).1 (fun e => no _ _ _ _ h.r1 e.symm)).trans h.r1, h.below.grown hg (by have := h.size; omega) (fun k e => by have := (hr k e).1; omega), Nat.le_trans h.size hg.size⟩
set_option maxHeartbeats 8000000 in
theorem begin_none (b Z : Nat) (hZ : 1 ≤ Z ∧ Z ≤ 4096) (w : World) :
  Calls Tryz.prog 45 #[.pointer (some ⟨b, 0, none⟩), .slice none 0 0, .int .i64 (Z : Int)] w fun e w' => e = .returned (.int .i64 0) ∧ Below w.heap.size w w' := by
 have HCH := Lib.hid (chunkF_anyZ Z (by omega) none 0 0)
 obtain ⟨s, hss⟩ : ∃ s, s = w.heap.size := ⟨_, rfl⟩
 have HS := Lib.hid hss
 refine (callsIn_wide (n := 5)).1 ?_
 refine callsIn_of_wp_marks Tryz.func45 rfl trivial ?_ rfl
 refine wpIn_wide.2 (wp_mono ?_ (noPanicO_imp _))
 simp only [Tryz.ntmps45, List.size_toArray, List.length_cons, List.length_nil, Nat.reduceAdd, Nat.reduceSub, Array.replicate_succ, Array.replicate_zero, List.push_toArray, List.append_toArray, List.nil_append, List.cons_append]
 go_wp2_with (go_at_call 56; (with_reducible refine (HCH.out _).mono ?_); rintro e w2 ⟨rfl, rfl⟩)
 have H0 : ∃ W4, W4 = (((w.alloc (.cells #[.pointer (some ⟨b, 0, none⟩)] 68)).alloc (.cells #[.int .i64 0] 28)).alloc (.cells #[.slice none 0 0] 22)).alloc (.cells #[.int .i64 (Z : Int)] 3) ∧ B0 w s b W4 ∧ W4.heap.size = s + 4 ∧ W4.heap[s + 2]? = some (.cells #[.slice none 0 0] 22 (0, 0)) ∧ W4.heap[s + 3]? = some (.cells #[.int .i64 (Z : Int)] 3 (0, 0)) := by
  have e0 : ∀ (w : World) (o : Obj), (w.alloc o).heap = w.heap.push o := fun _ _ => rfl
  subst hss
  refine ⟨_, rfl, ⟨?_, ?_, ((((Below.refl _ _).alloc (Nat.le_refl _) _).alloc (by simp) _).alloc (by simp; omega) _).alloc (by simp; omega) _, by simp [e0]⟩, by simp [e0], ?_, ?_⟩
  ·simp only [e0, Array.getElem?_push, Array.size_push]; rw [if_neg (by omega), if_neg (by omega), if_neg (by omega)]; simp
  ·simp only [e0, Array.getElem?_push, Array.size_push]; rw [if_neg (by omega), if_neg (by omega)]; simp
  ·simp only [e0, Array.getElem?_push, Array.size_push]; rw [if_neg (by omega)]; simp
  ·simp only [e0, Array.getElem?_push, Array.size_push]; simp
 obtain ⟨W4, hW4, hB, hsz, h2, h3⟩ := H0
 rw [← hW4, ← HS.out]
 clear hW4
 have HB := Lib.hid hB
 have HSZ := Lib.hid hsz
 have c2 : W4.cell? ⟨s + 2, 0, none⟩ = some (.slice none 0 0) := by rw [cell_of_row _ _ _ _ _ _ h2]; rfl
 have c3 : W4.cell? ⟨s + 3, 0, none⟩ = some (.int .i64 (Z : Int)) := by rw [cell_of_row _ _ _ _ _ _ h3]; rfl
 have HC2 := Lib.hid c2; have HC3 := Lib.hid c3
 clear hss HCH c2 c3 h2 h3 hB hsz
 refine wpIn_wide (n := 5).1 ?_
 refine wpIn_rangeFunc_ownF rfl (by decide) (gf := 66) (lb := #[.pointer (some ⟨s + 2, 0, none⟩), .pointer (some ⟨s + 3, 0, none⟩)]) rfl trivial (enters_of Tryz.func66 (by kernel_rfl) rfl)
  (chunk_stops0 (5 - 1) (Z : Int) (s + 2) (s + 3) 0 0 0 W4 (by have := HSZ.out; omega) (by have := HSZ.out; omega) HC2.out HC3.out) KpZ.trans (fun W l o o' hl _ _ _ => KpZ.putObj W l o' (by have := HSZ.out; omega) (by have := HSZ.out; omega)) (Below.refl _ _) (fun _ => rfl)
  (fun pre V => B0 w s b V) (fun _ _ _ => False)
  (fun pre A B row h hg hr => h.grown hg (fun r e => ⟨by have := (hr r e).1; have := HSZ.out; omega, (hr r e).2⟩))
  (fun _ _ _ _ _ hs _ _ => hs)
  HB.out
  ?a1 ?assign ?body ?done ?stop
 case assign =>
  intro l x W K hK
  unfold encZ
  try simp only [List.zip_toArray, List.zip_cons_cons, List.zip_nil_right, List.zip_nil_left, List.foldl_toArray, List.foldl_cons, List.foldl_nil, List.setIfInBounds_toArray, List.set_cons_succ, List.set_cons_zero]
  gi_wp2
  exact hK
 case stop =>
  rintro D c pre V _ hsp h _
  exact h.elim
 case body =>
  rintro lp pre x W6 _ hlt
  exact absurd hlt (by omega)
 case done =>
  rintro D qs W5 hD rfl hI hKD
  have HDS : Hid (s + 4 ≤ D) := Lib.hid (by have := HSZ.out; omega)
  have HI := Lib.hid hI; have HDD := Lib.hid hKD
  have cx : W5.cell? ⟨s + 1, 0, none⟩ = some (.int .i64 0) := by rw [cell_of_row _ _ _ _ _ _ hI.r1]; rfl
  have fx : W5.frozen? ⟨s + 1, 0, none⟩ = false := row_frozen hI.r1 0
  clear hI hKD hD
  go_wp2_with fail
  have hds := HDS.out
  obtain ⟨W8, hW8⟩ : ∃ W8, W8 = W5.setCell ⟨s + 1, 0, none⟩ (.int .i64 0) := ⟨_, rfl⟩
  rw [← hW8]
  have HD8 : W8.heap[D]? = some (.deferred (some [])) := by rw [hW8]; exact row_far (by omega) HDD.out
  have hr1 : W8.heap[s + 1]? = some (.cells #[.int .i64 0] 28 (0, 0)) := by
   rw [hW8]; exact row_set HI.out.r1 0 _
  have put : ∀ (j : Nat) (o : Obj), W8.heap[j]? = some o → j ≠ D → (W8.putObj D (.deferred none)).heap[j]? = some o := fun j o hj hn => by
   rw [World.putObj_heap_other hn]; exact hj
  try dsimp only [noPanicO, bodyPostM]
  refine ⟨by simp, .inl ⟨_, _, rfl, run_takeDeferred HD8, ?_⟩⟩
  refine ⟨_, results_errO rfl _ _ (s + 1) (.int .i64 0) rfl (by rw [cell_of_row _ _ _ _ _ _ (put _ _ hr1 (by omega))]; rfl), rfl, ?_⟩
  have hb8 : Below s w W8 := by rw [hW8]; exact HI.out.below.setCell (by show s ≤ s + 1; omega) _
  have hs0 := HS.out
  rw [← hs0]
  refine ⟨hb8.os, hb8.tape, hb8.output, ?_, fun j hj => ?_⟩
  ·have := hb8.size; simpa [World.putObj] using this
  ·rw [World.putObj_heap_other (by omega)]; exact hb8.block j hj
end Go.Proofs.YtjldamkmdkaiiaaGreatDoor
namespace Go.Proofs.YtjldamkmdkaiiaaGreatDoor
open Go.RowKit Go.WideShapes Col Go.Sort
section
variable {F : Prop} {pz : Bool} {TT : Nat} {dgs : Nat → ByteArray} {W : Bs} {w : World} {g : Nat} {room : Int} {b nb bb Z : Nat} {parts : Int}
theorem SortGZ.more {w' : World} {n0 K0 : Nat} {ops0 : Int} (h : SortGZ F TT dgs W.b w g room b nb bb Z n0 K0 ops0) (hs : w.heap.size ≤ w'.heap.size) : SortGZ F TT dgs W.b w' g room b nb bb Z n0 K0 ops0 :=
 ⟨h.nmr, h.hz, h.hg, h.hgg, h.hbb, Nat.lt_of_lt_of_le h.hbl hs, h.hnb, h.hroom, h.hfit, h.hn0, h.hK0, h.hops⟩
def SortBad (F : Prop) (base w : World) (g : Nat) (room : Int) (pz : Bool) (b : Nat) (e : Ending) (w' : World) : Prop :=
 ∃ (L : Option Addr) (m c : Nat) (u v x : Int), e = .returned (.tuple #[.slice L m c, .int .i64 u, .int .i64 v, .int .i64 x]) ∧ KX b w w' ∧ Bad base g room pz F x w'
def SortEndZ (pz : Bool) (dgs : Nat → ByteArray) (base w : World) (g : Nat) (room : Int) (b nb Z : Nat) (PS0 : List (Nat × List Ev)) (K1 : Nat) (ops0 : Int) (e : Ending) (w' : World) : Prop :=
 ∃ J i l L c, (itP Z PS0 K1 J).1 = [(i, l)] ∧ e = .returned (.tuple #[.slice L l.length c, .int .i64 (PS0.length : Nat), .int .i64 (J : Nat), .int .i64 0]) ∧ (∀ j, j < J → 2 ≤ (itP Z PS0 K1 j).1.length) ∧ l.length ≤ c ∧ c ≤ maxLen ∧ OwnE w' w.heap.size L l.length c (l.map canE) ∧ KX b w w' ∧ ∃ xs ops, SZ ⟨base, w'⟩ g room pz ops xs w' ∧ Nms xs ∧ xs.length = nb ∧ (0 ≤ ops ∧ ops ≤ ops0 + 1921000) ∧ Ordered ltM (l.map canE)
set_option maxHeartbeats 8000000 in
theorem sortZ_walk (A : Option Addr) (n c : Nat) (hold : Nat) (n0 K0 : Nat) (ops0 : Int) (PS0 : List (Nat × List Ev)) (K1 : Nat) (hG : Hid (SortGZ F TT dgs W.b w g room b nb bb Z n0 K0 ops0)) (hn0 : n0 = PS0.length)
  (HBG : Hid (∀ w1, Below w.heap.size w w1 → Calls Tryz.prog 45 #[.pointer (some ⟨b, 0, none⟩), .slice A n c, .int .i64 (hold : Int)] w1 fun e w2 => KX b w1 w2 ∧ ((e = .returned (.int .i64 0) ∧ ∃ xs ops gn cap, SortIZ TT dgs W.b w2 g room pz b parts nb bb n0 K0 ops0 0 w2 PS0 K1 xs ops gn cap) ∨ (∃ x : Int, e = .returned (.int .i64 x) ∧ Bad W.b g room pz F x w2)))) :
  Calls Tryz.prog 30 #[.pointer (some ⟨b, 0, none⟩), .slice A n c, .agg #[.int .i64 (hold : Int), .int .i64 (Z : Int)]] w (fun e w' => SortEndZ pz dgs W.b w g room b nb Z PS0 K1 ops0 e w' ∨ SortBad F W.b w g room pz b e w') := by
 have hbl := hG.out.hbl
 have HBL := Lib.hid hbl
 clear hbl
 obtain ⟨pb, hpb⟩ : ∃ pb, pb = w.heap.size := ⟨_, rfl⟩
 have HPB := Lib.hid hpb
 have hb1 := (Below.refl w.heap.size w).alloc (Nat.le_refl _) (.cells #[.int .i64 (hold : Int), .int .i64 (Z : Int)] 26)
 have HB1 := Lib.hid hb1
 have HBG1 := Lib.hid (HBG.out _ hb1)
 have hrp : (w.alloc (.cells #[.int .i64 (hold : Int), .int .i64 (Z : Int)] 26)).heap[w.heap.size]? = some (.cells #[.int .i64 (hold : Int), .int .i64 (Z : Int)] 26 (0, 0)) := heap_alloc_new' _ _
 have HRP := Lib.hid hrp
 clear hb1 hpb hrp
 go_enter Tryz.func30, Tryz.ntmps30
 go_wp2_with (go_at_call 45; (with_reducible refine HBG1.out.mono ?_); rintro e w2 ⟨h1, h9⟩; have HK2 := Lib.hid h1; clear h1; (rcases h9 with ⟨rfl, xs, ops, gn, cap, h2⟩ | ⟨x, rfl, h9⟩); (have HI2 := Lib.hid h2; have cb2 : w2.cell? ⟨b, 2, none⟩ = some (.slice (some ⟨gn, 0, none⟩) PS0.length cap) := (by rw [cell_of_row _ _ _ _ _ _ h2.hrow]; rfl); clear h2); rotate_left 1; (have HBD := Lib.hid h9; rcases h9.e_pos with rfl | rfl <;> clear h9); rotate_right 1)
 rotate_left 1
 iterate 2 exact bodyPost_ret (results_tmp4O rfl _ _ _) rfl (.inr ⟨_, _, _, _, _, _, rfl, (KX.of_kf (KF.of_below HB1.out)).trans HK2.out, HBD.out⟩)
 have hrp2 : w2.heap[w.heap.size]? = some (.cells #[.int .i64 (hold : Int), .int .i64 (Z : Int)] 26 (0, 0)) := HK2.out.row (by have := HBL.out; omega) HRP.out (not_st (by decide) (by decide) (by decide))
 have HRP2 := Lib.hid hrp2
 have HG2 : Hid (SortGZ F TT dgs W.b w2 g room b nb bb Z n0 K0 ops0) := Lib.hid (hG.out.more (Nat.le_trans HB1.out.size HK2.out.size))
 have HKW : Hid (KX b w w2) := Lib.hid ((KX.of_kf (KF.of_below HB1.out)).trans HK2.out)
 have HSZ : Hid (w.heap.size < w2.heap.size) := Lib.hid (Array.getElem?_eq_some_iff.1 hrp2).1
 have HN0 := Lib.hid hn0
 have hps0 : 0 < PS0.length := HI2.out.hnum.1
 have HPS := Lib.hid hps0
 clear hrp2 cb2 HBG HBG1 HRP hn0 hps0
 go_loopw [12] (fun y wr => ∃ (j : Nat) (ps : List (Nat × List Ev)) (k : Nat) (xs : List Fil) (ops : Int) (gn cap : Nat), y = .int .i64 (j : Int) ∧ Hid (SortIZ TT dgs W.b w2 g room pz b parts nb bb n0 K0 ops0 j wr ps k xs ops gn cap) ∧ Hid ((ps, k) = itP Z PS0 K1 j ∧ ∀ i, i < j → 2 ≤ (itP Z PS0 K1 i).1.length)) (fun y _ => n0 - (intOf y).toNat)
 case atStart => exact ⟨0, PS0, K1, xs, ops, gn, cap, rfl, HI2, Lib.hid ⟨rfl, fun i hi => absurd hi (by omega)⟩⟩
 case round =>
  obtain ⟨j, ps, k, xs, ops, gn, cap, rfl, HI, HIT⟩ := hrel
  have cb : wr.cell? ⟨b, 2, none⟩ = some (.slice (some ⟨gn, 0, none⟩) ps.length cap) := by rw [cell_of_row _ _ _ _ _ _ HI.out.hrow]; rfl
  have hrp : wr.heap[w.heap.size]? = some (.cells #[.int .i64 (hold : Int), .int .i64 (Z : Int)] 26 (0, 0)) := HI.out.kx.row (by have := HBL.out; omega) HRP2.out (not_st (by decide) (by decide) (by decide))
  have cp1 : wr.cell? ⟨w.heap.size, 1, none⟩ = some (.int .i64 (Z : Int)) := by rw [cell_of_row _ _ _ _ _ _ hrp]; rfl
  clear hrp
  obtain ⟨len, hlen⟩ : ∃ len, len = ps.length := ⟨_, rfl⟩
  rw [← hlen] at cb
  have HLEN := Lib.hid hlen
  have HNM := Lib.hid HI.out.hnum
  clear hlen
  have hj9 : j < 1000 := by have := HNM.out; have := HG2.out.hn0; omega
  have hlz : len ≤ 1000 := by have := HNM.out; have := HG2.out.hn0; have := HLEN.out; omega
  by_cases h2 : 2 ≤ len
  ·have h1i : (1 : Int) < (len : Int) := by omega
   have HP := Lib.hid (HI.out.pass HG2.out (by rw [← HLEN.out]; exact h2))
   go_wp2_with (go_at_call 46; (with_reducible refine HP.out.mono ?_); (rintro e w4 (⟨rfl, xs', ops', gn', cap', h1⟩ | ⟨x, rfl, h8, h9⟩)); (have HI4 := Lib.hid h1; clear h1); rotate_left 1; (have HBD := Lib.hid (And.intro h8 h9); rcases h9.e_pos with rfl | rfl <;> clear h8 h9); rotate_right 1)
   rotate_left 1
   iterate 2 exact bodyPost_ret (results_tmp4O rfl _ _ _) rfl (.inr ⟨_, _, _, _, _, _, rfl, HKW.out.trans HBD.out.1, HBD.out.2⟩)
   go_roundw
   case rel =>
    refine ⟨j + 1, _, _, xs', ops', gn', cap', by go_num, HI4, Lib.hid ⟨?_, fun i hi => ?_⟩⟩
    ·show _ = pst Z (itP Z PS0 K1 j).1 (itP Z PS0 K1 j).2 (ckN Z (itP Z PS0 K1 j).1.length)
     rw [← HIT.out.1]
    ·rcases Nat.lt_or_ge i j with h9 | h9
     ·exact HIT.out.2 i h9
     ·have : i = j := by omega
      subst this
      rw [← HIT.out.1]; show 2 ≤ ps.length; rw [← HLEN.out]; exact h2
   case measure => have := HNM.out; have := HLEN.out; simp [intOf]; omega
  ·have h1i : ¬ (1 : Int) < (len : Int) := by omega
   have hf0 : ¬ (PS0.length : Int) = 0 := by have := HPS.out; omega
   obtain ⟨⟨i, l⟩, hps⟩ : ∃ p, ps = [p] := by
    rcases ps with _ | ⟨p, _ | ⟨q, r⟩⟩
    ·have := HNM.out.1; simp at this
    ·exact ⟨p, rfl⟩
    ·have := HLEN.out; simp at this; omega
   subst hps
   have hcn := HI.out.nm.cell (j := 0) (s := rn dgs i) rfl
   rw [Nat.add_zero] at hcn
   have hrun := HI.out.rs.run (i, l) (List.mem_singleton.2 rfl)
   have hgood := HI.out.rs.good (i, l) (List.mem_singleton.2 rfl)
   have htot := HI.out.rs.tot
   have hl6 : l.length ≤ 320 := by
    have h9 : (evP [(i, l)]).flatten.length = l.length := by simp [evP]
    omega
   obtain ⟨lo, x, hTh, hxl⟩ := hrun.there HI.out.rs.rises
   have hxs : xs.length ≤ 1000 := by have h1 := HI.out.rs.num; have h3 := HG2.out.hnb; simp at h1; omega
   have hwb : (⟨W.b, wr⟩ : Bs).heap.size ≤ g := HG2.out.hgg
   have HTA := Lib.hid (take_Z (pz := pz) (W := ⟨W.b, wr⟩) (g := g) (room := room) (xs := xs) (ops := ops) b parts (some ⟨gn, 0, none⟩) [((i, l) : Nat × List Ev)].length cap k l hgood.pos hl6 (Lib.hid hgood.fine) (Lib.hid hgood.form) F (Lib.hid HI.out.nms.1) lo x wr (Lib.hid HI.out.sa) (Lib.hid hTh) (Lib.hid hxl) (Lib.hid (by have h1 := HI.out.hops; have h3 := HG2.out.hops; omega)) (Lib.hid HI.out.hrow) (Lib.hid HG2.out.hg) hwb)
   have hlen1 : len = 1 := HLEN.out
   have HORD := Lib.hid hgood.ord
   have HNB : Hid ((xs.eraseIdx lo).length = nb) := Lib.hid (by rw [List.length_eraseIdx_of_lt hTh.lt]; have h9 := HI.out.rs.num; simp at h9; omega)
   have HNE := Lib.hid (HI.out.nms.1.erase hTh)
   clear hrun hgood htot hTh hxl
   subst hlen1
   go_wp2_with (go_at_call 47; (with_reducible refine HTA.out.mono ?_); rintro e w4 ⟨L, m, c4, x4, rfl, h6, h9⟩; have HK4 := Lib.hid h6; have HE4 := Lib.hid h9; clear h6 h9)
   refine bodyPost_ret (results_tmp4O rfl _ _ _) rfl ?_
   have hkx := HKW.out.trans (HI.out.kx.trans (KX.of_kf HK4.out))
   rcases HE4.out with ⟨rfl, h1, h3, h4, h5, h7⟩ | h9
   rotate_left 1
   ·exact .inr ⟨_, _, _, _, _, _, rfl, hkx, h9⟩
   have HM := Lib.hid h1; have HC4 := Lib.hid (And.intro h3 h4); have HO4 := Lib.hid h5; have HS4 := Lib.hid h7
   refine .inl ⟨j, i, l, L, c4, by rw [← HIT.out.1], by rw [← HM.out]; rfl, HIT.out.2, by rw [← HM.out]; exact HC4.out.1, HC4.out.2, by rw [← HM.out]; exact HO4.out.less (by have := HI.out.kx.size; have := HSZ.out; omega), hkx, _, _, HS4.out.now, HNE.out, HNB.out, by have h1 := HG2.out.hops; have h2 := HI.out.hops; have h3 := HI.out.hnum; have h4 := HG2.out.hn0; omega, HORD.out⟩
end
end Go.Proofs.YtjldamkmdkaiiaaGreatDoor
namespace Go.Proofs.YtjldamkmdkaiiaaGreatDoor
open Go.RowKit Go.WideShapes Col Go.Sort Go.Shelf
section
variable {F : Prop} {pz : Bool} {TT : Nat} {dgs : Nat → ByteArray} {W : Bs} {w : World} {g : Nat} {room : Int} {b gl ol c nb bb Zh Z : Nat} {parts : Int} {l : List Ev} {N : Nat} {ops0 : Int} {xs : List Fil}
theorem BegGZ.next {base w1 : World} (h : BegGZ F TT dgs base w g room b gl nb bb Zh parts l N ops0 w.heap.size) (hs : w.heap.size ≤ w1.heap.size) : BegGZ F TT dgs base w1 g room b gl nb bb Zh parts l N ops0 w1.heap.size :=
 ⟨h.nmr, ⟨Nat.le_trans h.f.bs hs, Nat.le_refl _, h.f.bb, Nat.lt_of_lt_of_le h.f.hb hs, h.f.hgl, Nat.lt_of_lt_of_le h.f.gl hs⟩, h.hz, h.hn, h.hpos, h.hbig, h.fine, h.form, h.hops, h.hg, h.hgg, h.hnb, h.hroom, h.hfit⟩
theorem runSortZ_any (hG : BegGZ F TT dgs W.b w g room b gl nb bb Zh parts l N ops0 w.heap.size) (hZ : 2 ≤ Z ∧ Z ≤ 16) (HRS : RS TT dgs parts nb bb xs [] 0) (hs : SZ W g room pz ops0 xs w) (hNm : Nms xs) (hsm : (sumN xs : Int) ≤ room) (HR : RunsAt9 w b g parts none 0 0 0) (HE : EvR w gl ol l) (n : Nat) (hn : n = l.length) (hnc : n ≤ c) (hcm : c ≤ maxLen)
  (HSRT : Hid (∀ (gl' ol' n' c' : Nat) (l' : List Ev) (w' : World), n' = l'.length → n' ≤ 20 → EvAt w' (some ⟨gl', ol', none⟩) l' → Calls Tryz.prog 58 #[.slice (some ⟨gl', ol', none⟩) n' c'] w' fun e w2 => ∃ A cap, e = .returned (.slice A n' cap) ∧ OwnE w2 w'.heap.size A n' cap (isort ltM l') ∧ n' ≤ cap ∧ cap ≤ maxLen ∧ Below w'.heap.size w' w2)) :
  Calls Tryz.prog 30 #[.pointer (some ⟨b, 0, none⟩), .slice (some ⟨gl, ol, none⟩) n c, .agg #[.int .i64 (Zh : Int), .int .i64 (Z : Int)]] w (fun e w' => SortEndZ pz dgs W.b w g room b nb Z (bgP Zh l (chZ N)) N (ops0 + N) e w' ∨ SortBad F W.b w g room pz b e w') := by
 have hNl := hG.Nle
 have hN0 : 0 < N := (hG.hn 0).1 (by have := hG.hpos; omega)
 have hln : (bgP Zh l (chZ N)).length = N := by rw [bgP_len, chZ_len]
 have hops := hG.hops
 refine sortZ_walk (pz := pz) (parts := parts) (nb := nb) (bb := bb) (some ⟨gl, ol, none⟩) n c Zh N (3 * N) (ops0 + N) (bgP Zh l (chZ N)) N
  (Lib.hid ⟨hG.nmr, hZ, hG.hg, hG.hgg, hG.f.bb, hG.f.hb, hG.hnb, hG.hroom, hG.hfit, by omega, by omega, by omega, by omega⟩) hln.symm (Lib.hid fun w1 hb1 => ?_)
 refine (beginZ_any (pz := pz) (W := W) (hG.next hb1.size) HRS (hs.next hb1) hNm hsm (HR.keep hb1) (HE.kx (KX.of_kf (KF.of_below hb1)) hG.f.hgl) n hn hnc hcm HSRT).mono ?_
 rintro e w2 ⟨hkx, (⟨rfl, xs', ops', gn, cap, hrs, hsa, hns, hop, hrow, hnm, hgn, hc1, hc2⟩ | h9)⟩
 rotate_left 1
 ·exact ⟨hkx, .inr h9⟩
 have hbl := hG.f.hb
 have hs1 := hb1.size
 exact ⟨hkx, .inl ⟨rfl, xs', ops', gn, cap, hrs, hsa, hns, by rw [hln]; exact hrow, hnm, by omega, by rw [hln]; exact ⟨hc1, hc2⟩, KX.of_kf (KF.refl _), by rw [hln]; omega, ⟨hop.1, by omega⟩⟩⟩
end
end Go.Proofs.YtjldamkmdkaiiaaGreatDoor
