/-
  Layer sorter: the document's own SameAll, of two lists that are the same.
-/
import Derived.Test.YtjldamkmdkaiiaaGreatDoorOcK
import Derived.Test.YtjldamkmdkaiiaaGreatDoorO4K
import Derived.Test.YtjldamkmdkaiiaaGreatDoorOsjK
import Derived.Test.YtjldamkmdkaiiaaGreatDoorTkK
set_option linter.unusedSimpArgs false
set_option linter.unusedVariables false
namespace Go.Proofs.YtjldamkmdkaiiaaGreatDoor
open Go.RowKit Go.Sort
theorem OwnE.at {w : World} {B n cap : Nat} {A : Option Addr} {l : List Ev} (h : OwnE w B A n cap l) : EvAt w A l := fun j v hv => by
 have hjl := (List.getElem?_eq_some_iff.1 hv).1
 rcases h.2 with ⟨e0, e1⟩ | ⟨g, cap', cur, e0, hb, hg, hn, hm, hs, ht⟩
 ·have := h.1; rw [e1, Nat.zero_mul] at this; omega
 ·injection e0 with a1 a2 a3
  subst a1
  refine ⟨g, 0, rfl, (Array.getElem?_eq_some_iff.1 hg).1, ?_⟩
  rw [cell_of_row _ _ _ _ _ _ hg, Nat.zero_add, ← Array.getElem?_toList]
  have := h.1
  rw [← ht, List.getElem?_take] at hv
  rw [if_pos (by omega)] at hv
  exact hv
theorem ev_range {w : World} {A : Option Addr} {l : List Ev} (h : EvAt w A l) (i : Nat) (x : Ev) (hx : l[i]? = some x) : ∃ g off, A = some ⟨g, off, none⟩ ∧ g < w.heap.size ∧ w.rangeAt g (off + i * 5) x.cells := by
 have h0 : (evs l)[i * 5 + 0]? = x.cells[0]? := by rw [evs_get l i 0 (by decide), hx]; rfl
 obtain ⟨g, off, e, hg, -⟩ := h (i * 5 + 0) (.int .u64 (x.off : Int)) (by rw [h0]; rfl)
 refine ⟨g, off, e, hg, fun j v hv => ?_⟩
 have hj : j < 5 := (List.getElem?_eq_some_iff.1 hv).1
 have h1 : (evs l)[i * 5 + j]? = some v := by rw [evs_get l i j hj, hx]; exact hv
 obtain ⟨g', off', e', -, hc⟩ := h _ _ h1
 rw [e] at e'; injection e' with e'; injection e' with b1 b2; subst b1; subst b2
 rw [Nat.add_assoc]; exact hc
theorem below_to2 {W w w' : World} (h : Below W.heap.size W w) (h' : Below w.heap.size w w') : Below W.heap.size W w' := h.trans (h'.mono h.size)
theorem range_keep {w w' : World} {g o : Nat} {x : Ev} (h : w.rangeAt g o x.cells) (hg : g < w.heap.size) (hb : Below w.heap.size w w') : w'.rangeAt g o x.cells := fun j v hv => (hb.cell (p := ⟨g, o + j, none⟩) hg).trans (h j v hv)
set_option maxHeartbeats 1000000 in
theorem sameAll_none (a b : Option Addr) (c1 c2 : Nat) (W : World) :
  Calls Tryz.prog 14 #[.slice a 0 c1, .slice b 0 c2] W fun e w' => e = .returned (.bool true) ∧ Below W.heap.size W w' := by
 go_enter Tryz.func14, Tryz.ntmps14
 go_wp2
 refine wp_loop_rounds 1 ?_
 rw [rounds_succ]
 go_wp2
 go_ret
 exact ⟨rfl, Below.refl _ _⟩
end Go.Proofs.YtjldamkmdkaiiaaGreatDoor
set_option maxRecDepth 8000
namespace Go.Proofs.YtjldamkmdkaiiaaGreatDoor
open Go.RowKit Go.WideShapes Col Go.Sort
section
variable {W : Bs} {g : Nat} {room : Int} {parts : Int}
set_option maxHeartbeats 4000000 in
theorem sort_none0 (b Zh Z : Nat) (hZ : 1 ≤ Zh ∧ Zh ≤ 4096) (w : World) (HR : RunsAt9 w b g parts none 0 0 0) :
  Calls Tryz.prog 30 #[.pointer (some ⟨b, 0, none⟩), .slice none 0 0, .agg #[.int .i64 (Zh : Int), .int .i64 (Z : Int)]] w fun e w' => e = .returned (.tuple #[.slice none 0 0, .int .i64 0, .int .i64 0, .int .i64 0]) ∧ Below w.heap.size w w' := by
 have hb1 := (Below.refl w.heap.size w).alloc (Nat.le_refl _) (.cells #[.int .i64 (Zh : Int), .int .i64 (Z : Int)] 26)
 have HB1 := Lib.hid hb1
 have HBG := Lib.hid (begin_none b Zh hZ (w.alloc (.cells #[.int .i64 (Zh : Int), .int .i64 (Z : Int)] 26)))
 have HR' := Lib.hid HR
 clear hb1 HR
 go_enter Tryz.func30, Tryz.ntmps30
 go_wp2_with (go_at_call 45; (with_reducible refine HBG.out.mono ?_); rintro e w2 ⟨rfl, h1⟩; have HB2 := Lib.hid h1; have cb2 : w2.cell? ⟨b, 2, none⟩ = some (.slice none 0 0) := (by rw [cell_of_row _ _ _ _ _ _ ((HR'.out.keep HB1.out).keep h1)]; rfl); clear h1)
 refine wp_loop_rounds 1 ?_
 rw [rounds_succ]
 go_wp2
 exact bodyPost_ret (results_tmp4O rfl _ _ _) rfl ⟨rfl, below_to HB1.out HB2.out⟩
def PassN (Z N J : Nat) : Prop := itN Z N J = 1 ∧ ∀ j, j < J → 2 ≤ itN Z N j
end
theorem KX.old {b : Nat} {w w4 w5 : World} (h : KF w w4) (h' : KX b w4 w5) (hb : w.heap.size ≤ b) : KF w w5 := ⟨Nat.le_trans h.size h'.size, fun k o hk hn => by
 have hlt := (Array.getElem?_eq_some_iff.1 hk).1
 exact h'.kept k o (h.kept k o hk hn) (by omega) hn⟩
theorem EvR.kf {w w' : World} {gl ol : Nat} {l : List Ev} (h : EvR w gl ol l) (hk : KF w w') : EvR w' gl ol l := by
 obtain ⟨cur, t, fr, h1, h2, h3⟩ := h; exact ⟨cur, t, fr, hk.row h1 h2, h2, h3⟩
section
variable {W : Bs} {g : Nat} {room ops : Int} {xs : List Fil}
end
def chN (Z n : Nat) : Nat := (n + Z - 1) / Z
theorem chN_iff {Z n : Nat} (hZ : 1 ≤ Z) (k : Nat) : Z * k < n ↔ k < chN Z n := by
 unfold chN
 rw [Nat.lt_div_iff_mul_lt (by omega), Nat.mul_comm]
 omega
theorem runT_rn (k : Nat) : runT (rn dgI k) = true := by
 unfold runT
 rw [rn_list]; simp [Lib.hasPrefix]
theorem RS.start {TT : Nat} {parts : Int} {xs : List Fil} (hr : Rises xs) : RS TT dgI parts (xs.filter fun x => !runT x.name).length (sumN (xs.filter fun x => !runT x.name)) (xs.filter fun x => !runT x.name) [] 0 := by
 refine ⟨hr.sub List.filter_sublist, fun p hp => (nomatch hp), List.Pairwise.nil, fun p hp => (nomatch hp), fun i _ hi x hx => fun e => ?_, rfl, rfl, fun p hp => (nomatch hp), Nat.zero_le _⟩
 have h1 := (List.mem_filter.1 hx).2
 rw [ck_eq e, runT_rn] at h1
 cases h1
def EvS (w : World) (A : Option Addr) (n c : Nat) (l : List Ev) : Prop := (A = none ∧ n = 0 ∧ c = 0 ∧ l = []) ∨ ∃ gl ol, A = some ⟨gl, ol, none⟩ ∧ EvR w gl ol l ∧ n = l.length ∧ 0 < n ∧ n ≤ c ∧ c ≤ maxLen
theorem EvS.kf {w w' : World} {A : Option Addr} {n c : Nat} {l : List Ev} (h : EvS w A n c l) (hk : KF w w') : EvS w' A n c l := by
 rcases h with h | ⟨gl, ol, h1, h2, h3⟩
 ·exact .inl h
 ·exact .inr ⟨gl, ol, h1, h2.kf hk, h3⟩
theorem EvS.at {w : World} {A : Option Addr} {n c : Nat} {l : List Ev} (h : EvS w A n c l) : EvAt w A l ∧ n = l.length ∧ n ≤ c ∧ c ≤ maxLen := by
 rcases h with ⟨rfl, rfl, rfl, rfl⟩ | ⟨gl, ol, rfl, h2, h3, h4, h5⟩
 ·exact ⟨fun j v hv => by simp [evs] at hv, rfl, Nat.le_refl _, Nat.zero_le _⟩
 ·exact ⟨h2.at, h3, h5⟩
theorem EvS.of_own {w : World} {B n c : Nat} {A : Option Addr} {l : List Ev} (h : OwnE w B A n c l) (h0 : 0 < n) : EvS w A n c l := by
 have hcc : n ≤ c ∧ c ≤ maxLen := by
  obtain ⟨A', c', e, h1, h2, -⟩ := ro_slice h
  injection e with e1 e2 e3; subst e3; exact ⟨h1, h2⟩
 have hn : n = l.length := by have := h.1; rw [evs_length] at this; omega
 rcases h.2 with ⟨h1, h2⟩ | ⟨g, cap', cur, h1, hb, hrow, hn', hm, hs, ht⟩
 ·omega
 ·injection h1 with h1 _ _
  refine .inr ⟨g, 0, h1, ⟨cur, _, _, hrow, not_st (by decide) (by decide) (by decide), fun j v hv => ?_⟩, hn, h0, hcc⟩
  have hjl := (List.getElem?_eq_some_iff.1 hv).1
  have hev : (evs l).length = n * 5 := by rw [evs_length]; omega
  have e : (cur.toList.take (n * 5))[j]? = (evs l)[j]? := by rw [ht]
  rw [List.getElem?_take, if_pos (by omega)] at e
  rw [Nat.zero_add, ← Array.getElem?_toList, e]; exact hv
def PassZ (Z n N J : Nat) : Prop := (n = 0 ∧ J = 0) ∨ (0 < n ∧ PassN Z N J)
section
variable {W : Bs} {g : Nat} {room ops : Int} {xs : List Fil}
end
def awE (i : Nat) : Ev := ⟨0, 0, -(i : Int), { data := #[] }, 0⟩
def awL (k : Nat) : List Ev := (List.range k).map awE
theorem awL_succ (k : Nat) : awL (k + 1) = awL k ++ [awE k] := by unfold awL; rw [List.range_succ, List.map_append]; rfl
theorem aw_pass {J : Nat} (h : PassZ 2 10 (chN 2 10) J) : J = 3 := by
 rcases h with ⟨h, -⟩ | ⟨-, h1, h2⟩
 ·omega
 ·have e0 : itN 2 (chN 2 10) 0 = 5 := by decide
  have e1 : itN 2 (chN 2 10) 1 = 3 := by decide
  have e2 : itN 2 (chN 2 10) 2 = 2 := by decide
  have e3 : itN 2 (chN 2 10) 3 = 1 := by decide
  rcases Nat.lt_or_ge J 3 with hJ | hJ
  ·rcases J with _ | _ | _ | J
   ·rw [e0] at h1; omega
   ·rw [e1] at h1; omega
   ·rw [e2] at h1; omega
   ·omega
  ·rcases Nat.lt_or_ge 3 J with hJ2 | hJ2
   ·have := h2 3 hJ2; rw [e3] at this; omega
   ·omega
theorem aw_out : ((isort ltM (awL 10)).map canE)[0]? = some ⟨0, 0, -9, { data := #[] }, 0⟩ := by kernel_rfl
theorem aw_fine : ∀ x ∈ awL 10, FineE x ∧ formB x 1 = true := fun x hx => by
 obtain ⟨i, hi, rfl⟩ := List.mem_map.1 hx
 have h := List.mem_range.1 hi
 have hk : ({ data := #[] } : ByteArray).size = 0 := rfl
 refine ⟨⟨by unfold awE; dsimp only; omega, by unfold awE; dsimp only; omega, by unfold awE; dsimp only; omega, by unfold awE; dsimp only; omega, by unfold awE; dsimp only; omega⟩, ?_⟩
 unfold formB awE
 simp [hk]; omega
def fnL (l : List Ev) (k : Nat) : List Ev := (l.take k).filter fun x => formB x 8
theorem fnL_len (l : List Ev) (k : Nat) : (fnL l k).length ≤ k := by
 have h := List.length_filter_le (fun x : Ev => formB x 8) (l.take k)
 rw [List.length_take] at h; unfold fnL; omega
theorem fnL_yes {l : List Ev} {k : Nat} {x : Ev} (hx : l[k]? = some x) (h : formB x 8 = true) : fnL l (k + 1) = fnL l k ++ [x] := by
 unfold fnL; rw [List.take_add_one, hx, List.filter_append]; simp [h]
theorem fnL_no {l : List Ev} {k : Nat} {x : Ev} (hx : l[k]? = some x) (h : formB x 8 = false) : fnL l (k + 1) = fnL l k := by
 unfold fnL; rw [List.take_add_one, hx, List.filter_append]; simp [h]
theorem fnL_form {l : List Ev} {k : Nat} (x : Ev) (hx : x ∈ fnL l k) : x ∈ l ∧ formB x 8 = true := by
 have h := List.mem_filter.1 hx; exact ⟨List.mem_of_mem_take h.1, h.2⟩
theorem fine_of_form {x : Ev} (h : formB x 8 = true) (hv : x.val < 18446744073709551616) : FineE x := by
 unfold formB at h
 simp only [Bool.and_eq_true, decide_eq_true_eq] at h
 obtain ⟨⟨⟨⟨⟨h1, h2⟩, h3⟩, h4⟩, h5⟩, h6⟩ := h
 exact ⟨h6, ⟨h1, h2⟩, ⟨h3, h4⟩, h5, hv⟩
set_option maxHeartbeats 8000000 in
theorem fine_anyO (a : Option Addr) (n c : Nat) (l : List Ev) (hn : Hid (n = l.length)) (W : World) (HA : Hid (EvAt W a l)) (hc : n ≤ 9223372036854775807) :
  Calls Tryz.prog 10 #[.slice a n c] W fun e w' => ∃ A m cap, e = .returned (.slice A m cap) ∧ EvS w' A m cap (fnL l 200) ∧ Below W.heap.size W w' := by
 go_enter Tryz.func10, Tryz.ntmps10
 go_wp2
 go_loopw [3, 4] (fun u v wr => ∃ (k m : Nat) (A : Option Addr) (cap : Nat), k ≤ n ∧ k ≤ 200 ∧ v = .int .i64 (k : Int) ∧ u = .slice A m cap ∧ Hid (m = (fnL l k).length) ∧ Hid (OwnE wr W.heap.size A m cap (fnL l k)) ∧ Hid (m = 0 → A = none ∧ cap = 0) ∧ Hid (Below W.heap.size W wr)) (fun _ v _ => n - (intOf v).toNat)
 case atStart => exact ⟨0, 0, none, 0, by omega, by omega, rfl, rfl, Lib.hid rfl, Lib.hid (World.ownsRow_nil _ _ _ 5), Lib.hid fun _ => ⟨rfl, rfl⟩, Lib.hid (Below.refl _ _)⟩
 case round =>
  obtain ⟨k, m, A, cap, hk, hk2, rfl, rfl, HM, HO, HNIL, HB⟩ := hrel
  by_cases hlt : k < n
  ·by_cases hlt2 : k < 200
   ·obtain ⟨x, hx⟩ : ∃ x, l[k]? = some x := ⟨l[k]'(by have := hn.out; omega), List.getElem?_eq_getElem _⟩
    obtain ⟨gq, off, rfl, hg, hr⟩ := evr (HA.out.keep HB.out) k x hx
    have HX := Lib.hid hr; have HXE := Lib.hid hx
    have hlti : (k : Int) < (n : Int) := by omega
    have hlti2 : (k : Int) < 200 := by omega
    have HFO := Lib.hid (refForm_any x 8 wr)
    clear hr hg hx
    rcases hf : formB x 8 with _ | _
    ·rw [hf] at HFO
     have HNO := Lib.hid (fnL_no HXE.out hf)
     clear hf
     go_wp2_with (first
      | (refine wpList_load_mid rfl 51 (.tmp 17) rfl gq (off + k * 5) rfl [.int .u64 (x.off : Int), .int .i64 x.part, .int .i64 x.time, .string x.key, .float .f64 x.val] _ HX.out uEvent rfl (iEvent x) ?_)
      | (go_at_call 22; (with_reducible refine HFO.out.mono ?_); rintro e w4 ⟨rfl, hb⟩; have HB4 := Lib.hid hb; clear hb))
     go_roundw
     case rel => exact ⟨k + 1, m, A, cap, by omega, by omega, by go_num, rfl, Lib.hid (by rw [HNO.out]; exact HM.out), Lib.hid (by rw [HNO.out]; exact HO.out.keptE (S := fun _ => False) (Kept.of_below HB4.out) (fun k hk => hk.elim)), HNIL, Lib.hid (below_to HB.out HB4.out)⟩
     case measure => simp [intOf]; omega
    ·rw [hf] at HFO
     have HYE := Lib.hid (fnL_yes HXE.out hf)
     clear hf
     have HM2 : Hid (m ≤ 200) := Lib.hid (by rw [HM.out]; exact Nat.le_trans (fnL_len l k) hk2)
     go_wp2_with (first
      | (refine wpList_load_mid rfl 51 (.tmp 17) rfl gq (off + k * 5) rfl [.int .u64 (x.off : Int), .int .i64 x.part, .int .i64 x.time, .string x.key, .float .f64 x.val] _ HX.out uEvent rfl (iEvent x) ?_)
      | (go_at_call 22; (with_reducible refine HFO.out.mono ?_); rintro e w4 ⟨rfl, hb⟩; have HB4 := Lib.hid hb; have HX4 : Hid (w4.rangeAt gq (off + k * 5) x.cells) := Lib.hid (rkeep HX.out (by obtain ⟨g9, o9, e9, h9, -⟩ := evr (HA.out.keep HB.out) k x HXE.out; injection e9 with e9; injection e9 with e9 _ _; rw [e9]; exact h9) hb); have hal := (Below.refl w4.heap.size w4).alloc (Nat.le_refl _) (.cells #[.int .u64 (x.off : Int), .int .i64 x.part, .int .i64 x.time, .string x.key, .float .f64 x.val] 51); have HAL := Lib.hid hal; have HO1 : Hid (OwnE (w4.alloc (.cells #[.int .u64 (x.off : Int), .int .i64 x.part, .int .i64 x.time, .string x.key, .float .f64 x.val] 51)) W.heap.size A m cap (fnL l k)) := Lib.hid ((HO.out.keptE (S := fun _ => False) (Kept.of_below hb) (fun k hk => hk.elim)).keptE (S := fun _ => False) (Kept.of_below hal) (fun k hk => hk.elim)); have HE1 : Hid (EvAt (w4.alloc (.cells #[.int .u64 (x.off : Int), .int .i64 x.part, .int .i64 x.time, .string x.key, .float .f64 x.val] 51)) (some ⟨w4.heap.size, 0, none⟩) [x]) := Lib.hid (fun j v hv => ⟨w4.heap.size, 0, rfl, by simp, by rw [cell_of_row _ _ _ _ _ _ (heap_alloc_new' w4 _), Nat.zero_add]; simpa [evs, Ev.cells] using hv⟩); clear hb hal)
      | (refine wpList_load_mid rfl 51 (.tmp 23) rfl gq (off + k * 5) rfl [.int .u64 (x.off : Int), .int .i64 x.part, .int .i64 x.time, .string x.key, .float .f64 x.val] _ HX4.out uEvent rfl (iEvent x) ?_)
      | (refine wpList_append_ev rfl (.tmp 20) (.tmp 25) rfl W.heap.size A m cap (fnL l k) rfl HO1.out (some ⟨w4.heap.size, 0, none⟩) 1 1 [x] rfl rfl HE1.out (fun h => by cases h) (m + 1) rfl (by have := HM2.out; omega) (Nat.le_trans HB.out.size (Nat.le_trans HB4.out.size HAL.out.size)) ?_; intro A2 c2 w2 h1 h2 h3 h4 h5; have HO2 := Lib.hid h1; have HB2 := Lib.hid h5; clear h1 h2 h3 h4 h5))
     go_roundw
     case rel => exact ⟨k + 1, m + 1, A2, c2, by omega, by omega, by go_num, rfl, Lib.hid (by rw [HYE.out, List.length_append, HM.out]; rfl), Lib.hid (by rw [HYE.out]; exact HO2.out), Lib.hid (fun h => by omega), Lib.hid ((below_to HB.out HB4.out).trans ((HAL.out.mono (Nat.le_trans HB.out.size HB4.out.size)).trans HB2.out))⟩
     case measure => simp [intOf]; omega
   ·have hk20 : k = 200 := by omega
    subst hk20
    have hlti : (200 : Int) < (n : Int) := by omega
    go_wp2
    go_ret
    refine ⟨A, m, cap, rfl, ?_, HB.out⟩
    rcases Nat.eq_zero_or_pos m with h0 | h0
    ·obtain ⟨rfl, rfl⟩ := HNIL.out h0
     exact .inl ⟨rfl, h0, rfl, List.eq_nil_of_length_eq_zero (by rw [← HM.out]; exact h0)⟩
    ·exact EvS.of_own HO.out h0
  ·have hge : ¬ (k : Int) < (n : Int) := by omega
   have hkn : k = n := by omega
   have HFL : Hid (fnL l k = fnL l 200) := Lib.hid (by
    unfold fnL
    rw [List.take_of_length_le (by have := hn.out; omega), List.take_of_length_le (by have := hn.out; omega)])
   clear hkn
   go_wp2
   go_ret
   refine ⟨A, m, cap, rfl, ?_, HB.out⟩
   rw [← HFL.out]
   rcases Nat.eq_zero_or_pos m with h0 | h0
   ·obtain ⟨rfl, rfl⟩ := HNIL.out h0
    exact .inl ⟨rfl, h0, rfl, List.eq_nil_of_length_eq_zero (by rw [← HM.out]; exact h0)⟩
   ·exact EvS.of_own HO.out h0
theorem sameXY (x y : Ev) (h : sameB x y = true) (hx : x.val < 18446744073709551616) (hy : y.val < 18446744073709551616) (w : World) : Calls Tryz.prog 32 #[.agg x.cells.toArray, .agg y.cells.toArray] w fun e w' => e = .returned (.bool true) ∧ Below w.heap.size w w' := by
 have h1 := refEvSame_any x y hx hy w
 rw [h] at h1
 exact h1
set_option maxHeartbeats 4000000 in
theorem sameAllS_core (g1 o1 g2 o2 n c1 c2 : Nat) (l l2 : List Ev) (hn : Hid (n = l.length)) (hn2 : Hid (n = l2.length)) (h60 : n ≤ 1000) (hs : Hid (∀ (k : Nat) (x y : Ev), l[k]? = some x → l2[k]? = some y → sameB x y = true ∧ x.val < 18446744073709551616 ∧ y.val < 18446744073709551616)) (W : World) (H1 : Hid (EvAt W (some ⟨g1, o1, none⟩) l)) (H2 : Hid (EvAt W (some ⟨g2, o2, none⟩) l2)) :
  Calls Tryz.prog 14 #[.slice (some ⟨g1, o1, none⟩) n c1, .slice (some ⟨g2, o2, none⟩) n c2] W fun e w' => e = .returned (.bool true) ∧ Below W.heap.size W w' := by
 have hq : ((n : Int) != (n : Int)) = false := by simp
 go_enter Tryz.func14, Tryz.ntmps14
 go_wp2
 clear hq
 go_loopw [5] (fun v wr => ∃ k : Nat, k ≤ n ∧ v = .int .i64 k ∧ Below W.heap.size W wr) (fun v _ => n - (intOf v).toNat)
 case atStart => exact ⟨0, Nat.zero_le _, rfl, Below.refl _ _⟩
 case round =>
  obtain ⟨k, hk, rfl, hb⟩ := hrel
  have HB := Lib.hid hb
  clear hb
  by_cases hkn : k < n
  ·have hkl : k < l.length := by have := hn.out; omega
   obtain ⟨x, hx⟩ : ∃ x, l[k]? = some x := ⟨l[k], List.getElem?_eq_getElem hkl⟩
   obtain ⟨y, hy⟩ : ∃ y, l2[k]? = some y := ⟨_, List.getElem?_eq_getElem (by have := hn2.out; omega)⟩
   have HV := Lib.hid (hs.out k x y hx hy)
   obtain ⟨g, off, e, hg, hr⟩ := ev_range (H1.out.keep HB.out) k x hx
   injection e with e; injection e with b1 b2; subst b1; subst b2
   obtain ⟨g', off', e, hg', hr'⟩ := ev_range (H2.out.keep HB.out) k y hy
   injection e with e; injection e with b1 b2; subst b1; subst b2
   have HG1 := Lib.hid hg; have HG2 := Lib.hid hg'; have HX1 := Lib.hid hr; have HX2 := Lib.hid hr'
   clear hx hy hg hg' hr hr'
   have hz : (k : Int) < (n : Int) := by omega
   go_upto_region 6 with fail
   have hh0 : Below wr.heap.size wr wr.drew := (Below.refl _ _).drew
   refine wp_region_held_drew (S := fun w => Below wr.heap.size wr w) (by kernel_rfl) hh0 (fun hHeld => ?_)
   refine tkm 0 (.slice (some ⟨g1, o1, none⟩) n c1) rfl hHeld ?_
   try simp only [qz]
   refine tkm 1 (.int .i64 (k : Nat)) rfl hHeld ?_
   try simp only [qz]
   refine tks 2 (.pointer (some ⟨g1, o1 + k * 5, none⟩)) rfl hHeld ?_
   try simp only [qz]
   refine tk 3 (.agg x.cells.toArray) rfl (yieldsIf_load_mid rfl 51 (.tmp 19) rfl g1 (o1 + k * 5) rfl x.cells _ (fun w hw => range_keep HX1.out HG1.out hw) uEvent rfl (iEvent x)) hHeld ?_
   try simp only [qz]
   refine tkm 4 (.slice (some ⟨g2, o2, none⟩) n c2) rfl hHeld ?_
   try simp only [qz]
   refine tkm 5 (.int .i64 (k : Nat)) rfl hHeld ?_
   try simp only [qz]
   refine tks 6 (.pointer (some ⟨g2, o2 + k * 5, none⟩)) rfl hHeld ?_
   try simp only [qz]
   refine tk 7 (.agg y.cells.toArray) rfl (yieldsIf_load_mid rfl 51 (.tmp 23) rfl g2 (o2 + k * 5) rfl y.cells _ (fun w hw => range_keep HX2.out HG2.out hw) uEvent rfl (iEvent y)) hHeld ?_
   try simp only [qz]
   refine rd1 8 rfl (fun K hK => ?_)
   go_simp
   refine (sameXY x y HV.out.1 HV.out.2.1 HV.out.2.2 _).mono ?_
   rintro e w2 ⟨rfl, hb⟩
   replace hHeld := below_to2 hHeld hb
   clear hb
   refine hK.out _ _ hHeld (fun hHeld => ?_)
   clear hK K
   try simp only [qz]
   refine rd1 9 rfl (fun K hK => ?_)
   go_simp
   refine hK.out _ _ hHeld (fun hHeld => ?_)
   clear hK K
   try simp only [qz]
   refine wpAnyH_done (by kernel_rfl) ?_ _
   have HB2 := Lib.hid (below_to2 HB.out hHeld)
   go_wp2
   go_roundw
   case rel => exact ⟨k + 1, by omega, by go_num, HB2.out⟩
   case measure => simp [intOf]; omega
  ·have hz : ¬ ((k : Int) < (n : Int)) := by omega
   go_wp2
   go_ret
   exact ⟨rfl, HB.out⟩
theorem sameAllS_any (a b : Option Addr) (n c1 c2 : Nat) (l l2 : List Ev) (hn : Hid (n = l.length)) (hn2 : Hid (n = l2.length)) (h60 : n ≤ 1000) (hs : Hid (∀ (k : Nat) (x y : Ev), l[k]? = some x → l2[k]? = some y → sameB x y = true ∧ x.val < 18446744073709551616 ∧ y.val < 18446744073709551616)) (W : World) (H1 : Hid (EvAt W a l)) (H2 : Hid (EvAt W b l2)) :
  Calls Tryz.prog 14 #[.slice a n c1, .slice b n c2] W fun e w' => e = .returned (.bool true) ∧ Below W.heap.size W w' := by
 rcases l with _ | ⟨x, r⟩
 ·have : n = 0 := hn.out
  subst this
  exact sameAll_none a b c1 c2 W
 ·rcases l2 with _ | ⟨y, r2⟩
  ·have h1 := hn.out; have h2 := hn2.out; simp at h1 h2; omega
  ·obtain ⟨g1, o1, rfl, -, -⟩ := ev_range H1.out 0 x rfl
   obtain ⟨g2, o2, rfl, -, -⟩ := ev_range H2.out 0 y rfl
   exact sameAllS_core g1 o1 g2 o2 n c1 c2 (x :: r) (y :: r2) hn hn2 h60 hs W H1 H2
theorem same_canE (x : Ev) : sameB (canE x) x = true ∧ sameB (canE x) (canE x) = true := by
 unfold sameB keqB canE; simp [Fl.canon_canon]
theorem sameAllC_any (a b : Option Addr) (n c1 c2 : Nat) (l : List Ev) (hn : n = l.length) (h60 : n ≤ 1000) (hv : ∀ x ∈ l, x.val < 18446744073709551616) (W : World) (H1 : EvAt W a (l.map canE)) (H2 : EvAt W b l) :
  Calls Tryz.prog 14 #[.slice a n c1, .slice b n c2] W fun e w' => e = .returned (.bool true) ∧ Below W.heap.size W w' :=
 sameAllS_any a b n c1 c2 (l.map canE) l (Lib.hid (by rw [List.length_map]; exact hn)) (Lib.hid hn) h60 (Lib.hid fun k x y hx hy => by
  rw [List.getElem?_map, hy] at hx
  injection hx with hx; subst hx
  have h := hv y (List.mem_of_getElem? hy)
  exact ⟨(same_canE y).1, Fl.canon_lt _ h, h⟩) W (Lib.hid H1) (Lib.hid H2)
end Go.Proofs.YtjldamkmdkaiiaaGreatDoor
