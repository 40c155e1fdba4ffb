/-
  Layer sorter: SorterSorts: the walk.
-/
import Derived.Test.YtjldamkmdkaiiaaGreatDoorO6K
import Derived.Test.YtjldamkmdkaiiaaGreatDoorTkK
set_option linter.unusedSimpArgs false
set_option linter.unusedVariables false
set_option maxRecDepth 8000
namespace Go.Proofs.YtjldamkmdkaiiaaGreatDoor
open Go.RowKit Go.WideShapes Col Go.Sort
def chN (Z n : Nat) : Nat := (n + Z - 1) / Z
theorem chN_iff {Z n : Nat} (hZ : 1 ≤ Z) (k : Nat) : Z * k < n ↔ k < chN Z n := by
 unfold chN
 rw [Nat.lt_div_iff_mul_lt (by omega), Nat.mul_comm]
 omega
theorem runT_rn (k : Nat) : runT (rn dgI k) = true := by
 unfold runT
 rw [rn_list]; simp [Lib.hasPrefix]
theorem RS.start {TT : Nat} {parts : Int} {xs : List Fil} (hr : Rises xs) : RS TT dgI parts (xs.filter fun x => !runT x.name).length (sumN (xs.filter fun x => !runT x.name)) (xs.filter fun x => !runT x.name) [] 0 := by
 refine ⟨hr.sub List.filter_sublist, fun p hp => (nomatch hp), List.Pairwise.nil, fun p hp => (nomatch hp), fun i _ hi x hx => fun e => ?_, rfl, rfl, fun p hp => (nomatch hp), Nat.zero_le _⟩
 have h1 := (List.mem_filter.1 hx).2
 rw [ck_eq e, runT_rn] at h1
 cases h1
def EvS (w : World) (A : Option Addr) (n c : Nat) (l : List Ev) : Prop := (A = none ∧ n = 0 ∧ c = 0 ∧ l = []) ∨ ∃ gl ol, A = some ⟨gl, ol, none⟩ ∧ EvR w gl ol l ∧ n = l.length ∧ 0 < n ∧ n ≤ c ∧ c ≤ maxLen
theorem EvS.kf {w w' : World} {A : Option Addr} {n c : Nat} {l : List Ev} (h : EvS w A n c l) (hk : KF w w') : EvS w' A n c l := by
 rcases h with h | ⟨gl, ol, h1, h2, h3⟩
 ·exact .inl h
 ·exact .inr ⟨gl, ol, h1, h2.kf hk, h3⟩
theorem EvS.at {w : World} {A : Option Addr} {n c : Nat} {l : List Ev} (h : EvS w A n c l) : EvAt w A l ∧ n = l.length ∧ n ≤ c ∧ c ≤ maxLen := by
 rcases h with ⟨rfl, rfl, rfl, rfl⟩ | ⟨gl, ol, rfl, h2, h3, h4, h5⟩
 ·exact ⟨fun j v hv => by simp [evs] at hv, rfl, Nat.le_refl _, Nat.zero_le _⟩
 ·exact ⟨h2.at, h3, h5⟩
theorem EvS.of_own {w : World} {B n c : Nat} {A : Option Addr} {l : List Ev} (h : OwnE w B A n c l) (h0 : 0 < n) : EvS w A n c l := by
 have hcc : n ≤ c ∧ c ≤ maxLen := by
  obtain ⟨A', c', e, h1, h2, -⟩ := ro_slice h
  injection e with e1 e2 e3; subst e3; exact ⟨h1, h2⟩
 have hn : n = l.length := by have := h.1; rw [evs_length] at this; omega
 rcases h.2 with ⟨h1, h2⟩ | ⟨g, cap', cur, h1, hb, hrow, hn', hm, hs, ht⟩
 ·omega
 ·injection h1 with h1 _ _
  refine .inr ⟨g, 0, h1, ⟨cur, _, _, hrow, not_st (by decide) (by decide) (by decide), fun j v hv => ?_⟩, hn, h0, hcc⟩
  have hjl := (List.getElem?_eq_some_iff.1 hv).1
  have hev : (evs l).length = n * 5 := by rw [evs_length]; omega
  have e : (cur.toList.take (n * 5))[j]? = (evs l)[j]? := by rw [ht]
  rw [List.getElem?_take, if_pos (by omega)] at e
  rw [Nat.zero_add, ← Array.getElem?_toList, e]; exact hv
def PassZ (Z n N J : Nat) : Prop := (n = 0 ∧ J = 0) ∨ (0 < n ∧ PassN Z N J)
section
variable {W : Bs} {g : Nat} {room ops : Int} {xs : List Fil}
theorem sortS_any (TT : Nat) (A : Option Addr) (n c : Nat) (l : List Ev) (parts : Int) (Zh Z : Nat) (hp : 1 ≤ parts ∧ parts ≤ 8) (hZh : 1 ≤ Zh ∧ Zh ≤ 4096) (hZ : 2 ≤ Z ∧ Z ≤ 16) (hfin : ∀ x ∈ l, FineE x) (hall : ∀ x ∈ l, formB x parts = true) (hbig : l.length ≤ 320 ∧ chN Zh l.length * min Zh l.length ≤ min TT 320)
  (hr : Rises xs) (hf : ∀ x ∈ xs, x.name.size ≤ 2000 ∧ formK x.name = true) (hx : xs.length ≤ 90) (w : World) (hs : SA W g room false 0 ops xs w) (h : 0 ≤ ops ∧ ops < 500000000) (HE : EvS w A n c l) (HT : TabsAt W.b) (hg : W.b.heap.size ≤ g) (hroom : room ≤ 16777216)
  (hfit : ((sumN (xs.filter fun x => !runT x.name) + 700 * TT : Nat) : Int) ≤ room) :
  Calls Tryz.prog 13 #[.pointer (some ⟨g, 0, none⟩), .slice A n c, .int .i64 parts, .agg #[.int .i64 (Zh : Int), .int .i64 (Z : Int)]] w (SortR W.b g room (xs.filter fun x => !runT x.name).length n (chN Zh n) ((isort ltM l).map canE) (PassZ Z n (chN Zh n)) ops w) := by
 have hn := HE.at.2.1
 have hfl : (xs.filter fun x => !runT x.name).length ≤ xs.length := List.length_filter_le _ _
 have hbs : W.b.heap.size ≤ w.heap.size := hs.below.gb.size
 refine sortW_any A n c l parts Zh Z (chN Zh n) _ _ _ (Lib.hid hn) (by omega) (Lib.hid hp) (by unfold planB; simp; omega) (Lib.hid hall) hr hf (by omega) w hs ⟨h.1, by omega⟩ (Lib.hid fun w' hk => (HE.kf hk).at.1) (Lib.hid fun w4 b o4 hb hb4 hk hR hs4 ho => ?_)
 rcases HE with ⟨rfl, rfl, rfl, rfl⟩ | ⟨gl, ol, rfl, hE, -, h0, hnc, hcm⟩
 ·have hc0 : chN Zh 0 = 0 := by unfold chN; exact Nat.div_eq_of_lt (by omega)
  rw [hc0]
  refine (sortM_none b Zh Z _ hZh w4 hR hs4 ⟨ho.1, by omega⟩ rfl).mono ?_
  rintro e w5 ⟨L, c5, J, rfl, hJ, h1, h2, h3, h4⟩
  exact ⟨L, c5, J, rfl, .inl ⟨rfl, hJ⟩, h1, h2, h3, h4⟩
 ·have hgl : gl < w.heap.size := by obtain ⟨cur, t, fr, h1, -⟩ := hE; exact (Array.getElem?_eq_some_iff.1 h1).1
  have hG : BegG TT dgI W.b w4 g room b gl (xs.filter fun x => !runT x.name).length (sumN (xs.filter fun x => !runT x.name)) Zh parts l (chN Zh n) o4 w4.heap.size :=
   ⟨namerI, ⟨by omega, Nat.le_refl _, by omega, hb4, by omega, by omega⟩, hZh, fun k => by rw [hn]; exact chN_iff hZh.1 k, by omega, by rw [hn]; exact hbig, hfin, hall, ⟨ho.1, by omega⟩, HT, hg, by omega, hroom, hfit⟩
  refine (sortM_some (W := ⟨W.b, w4⟩) hG hZ (RS.start hr) hs4 hR (hE.kf hk) hn hnc hcm).mono ?_
  rintro e w5 ⟨L, c5, J, rfl, hJ, h1, h2, h3, h4⟩
  exact ⟨L, c5, J, rfl, .inr ⟨h0, hJ⟩, h1, h2, h3, h4⟩
end
def awE (i : Nat) : Ev := ⟨0, 0, -(i : Int), { data := #[] }, 0⟩
def awL (k : Nat) : List Ev := (List.range k).map awE
theorem awL_succ (k : Nat) : awL (k + 1) = awL k ++ [awE k] := by unfold awL; rw [List.range_succ, List.map_append]; rfl
theorem aw_pass {J : Nat} (h : PassZ 2 10 (chN 2 10) J) : J = 3 := by
 rcases h with ⟨h, -⟩ | ⟨-, h1, h2⟩
 ·omega
 ·have e0 : itN 2 (chN 2 10) 0 = 5 := by decide
  have e1 : itN 2 (chN 2 10) 1 = 3 := by decide
  have e2 : itN 2 (chN 2 10) 2 = 2 := by decide
  have e3 : itN 2 (chN 2 10) 3 = 1 := by decide
  rcases Nat.lt_or_ge J 3 with hJ | hJ
  ·rcases J with _ | _ | _ | J
   ·rw [e0] at h1; omega
   ·rw [e1] at h1; omega
   ·rw [e2] at h1; omega
   ·omega
  ·rcases Nat.lt_or_ge 3 J with hJ2 | hJ2
   ·have := h2 3 hJ2; rw [e3] at this; omega
   ·omega
theorem aw_out : ((isort ltM (awL 10)).map canE)[0]? = some ⟨0, 0, -9, { data := #[] }, 0⟩ := by kernel_rfl
theorem aw_fine : ∀ x ∈ awL 10, FineE x ∧ formB x 1 = true := fun x hx => by
 obtain ⟨i, hi, rfl⟩ := List.mem_map.1 hx
 have h := List.mem_range.1 hi
 have hk : ({ data := #[] } : ByteArray).size = 0 := rfl
 refine ⟨⟨by unfold awE; dsimp only; omega, by unfold awE; dsimp only; omega, by unfold awE; dsimp only; omega, by unfold awE; dsimp only; omega, by unfold awE; dsimp only; omega⟩, ?_⟩
 unfold formB awE
 simp [hk]; omega
set_option maxHeartbeats 8000000 in
theorem awakeO_any (w : World) (HT : TabsAt w) : Calls Tryz.prog 9 #[] w fun e w' => e = .returned (.bool true) ∧ Below w.heap.size w w' := by
 have HTT := Lib.hid HT
 clear HT
 go_enter Tryz.func9, Tryz.ntmps9
 go_wp2_with (go_at_call 11; (with_reducible refine (new_anyF 65536 (by decide) w).mono ?_); rintro e w1 ⟨g, rfl, h1, h2⟩; have HG := Lib.hid h1; have HS0 := Lib.hid h2; clear h1 h2)
 go_loopw [3, 4] (fun u v wr => ∃ (k : Nat) (A : Option Addr) (cap : Nat), k ≤ 10 ∧ v = .int .i64 (k : Int) ∧ u = .slice A k cap ∧ Hid (OwnE wr w1.heap.size A k cap (awL k)) ∧ Hid (Below w1.heap.size w1 wr)) (fun _ v _ => 10 - (intOf v).toNat)
 case atStart => exact ⟨0, none, 0, by omega, rfl, rfl, Lib.hid (World.ownsRow_nil _ _ _ 5), Lib.hid (Below.refl _ _)⟩
 case round =>
  obtain ⟨k, A, cap, hk, rfl, rfl, HO, HB⟩ := hrel
  by_cases hlt : k < 10
  ·have hlti : (k : Int) < 10 := by omega
   have hneg : IntKind.i64.wrap (-(k : Int)) = -(k : Int) := by rw [IntKind.wrap_i64]; omega
   have hal := (Below.refl wr.heap.size wr).alloc (Nat.le_refl _) (.cells #[.int .u64 0, .int .i64 0, .int .i64 (-(k : Int)), .string { data := #[] }, .float .f64 0] 51)
   have HAL := Lib.hid hal
   have HO1 : Hid (OwnE (wr.alloc (.cells #[.int .u64 0, .int .i64 0, .int .i64 (-(k : Int)), .string { data := #[] }, .float .f64 0] 51)) w1.heap.size A k cap (awL k)) := Lib.hid (HO.out.keptE (S := fun _ => False) (Kept.of_below hal) (fun k hk => hk.elim))
   have HE1 : Hid (EvAt (wr.alloc (.cells #[.int .u64 0, .int .i64 0, .int .i64 (-(k : Int)), .string { data := #[] }, .float .f64 0] 51)) (some ⟨wr.heap.size, 0, none⟩) [awE k]) := Lib.hid fun j v hv => ⟨wr.heap.size, 0, rfl, by simp, by
    rw [cell_of_row _ _ _ _ _ _ (heap_alloc_new' wr _), Nat.zero_add]
    simpa [evs, Ev.cells, awE] using hv⟩
   clear hal
   go_wp2_with (refine wpList_append_ev rfl (.tmp 17) (.tmp 21) rfl w1.heap.size A k cap (awL k) rfl HO1.out (some ⟨wr.heap.size, 0, none⟩) 1 1 [awE k] rfl rfl HE1.out (fun h => by cases h) (k + 1) rfl (by omega) (Nat.le_trans HB.out.size HAL.out.size) ?_; intro A2 c2 w2 h1 h2 h3 h4 h5; have HO2 := Lib.hid h1; have HB2 := Lib.hid h5; clear h1 h2 h3 h4 h5)
   go_roundw
   case rel => exact ⟨k + 1, A2, c2, by omega, by go_num, rfl, Lib.hid (by rw [awL_succ]; exact HO2.out), Lib.hid ((HB.out.trans (HAL.out.mono HB.out.size)).trans HB2.out)⟩
   case measure => simp [intOf]; omega
  ·have hk10 : k = 10 := by omega
   subst hk10
   have hsa : SA (Bs.of w) g 65536 false 0 0 [] wr := SA.next (.inl ⟨rfl, HS0.out⟩) HB.out
   have hbw : w.heap.size ≤ wr.heap.size := hsa.below.gb.size
   have hso := sortS_any (W := Bs.of w) (g := g) (room := 65536) (ops := 0) (xs := []) 20 A 10 cap (awL 10) 1 2 2 (by decide) (by decide) (by decide) (fun x hx => (aw_fine x hx).1) (fun x hx => (aw_fine x hx).2) (by decide) (fun j k x y _ hx => by simp at hx) (fun x hx => nomatch hx) (by decide) wr hsa (by decide) (EvS.of_own HO.out (by decide)) HTT.out HG.out (by decide) (by decide)
   have HSO : Hid (Calls Tryz.prog 13 #[.pointer (some ⟨g, 0, none⟩), .slice A 10 cap, .int .i64 1, .agg #[.int .i64 2, .int .i64 2]] wr fun e w' => ∃ q c, e = .returned (.tuple #[.slice (some ⟨q, 0, none⟩) 10 c, .int .i64 5, .int .i64 3, .int .i64 0]) ∧ w'.cell? ⟨q, 2, none⟩ = some (.int .i64 (-9)) ∧ Below w.heap.size w w') := Lib.hid (hso.mono fun e w' h => by
    obtain ⟨L, c, J, rfl, hP, h1, h2, h3, h4, zs, o, h5, h6⟩ := h
    obtain rfl := aw_pass hP
    obtain ⟨q, rfl⟩ := ownE_some h3 (by decide) h1
    refine ⟨q, c, rfl, ?_, gb_new h5.below HG.out⟩
    obtain ⟨g', off', e', -, hr⟩ := evr h3.at' 0 _ aw_out
    injection e' with e'; injection e' with b1 b2 _
    subst b1; subst b2
    exact hr 2 _ rfl)
   clear hso hsa hlt hk
   go_wp2_with (go_at_call 13; (with_reducible refine HSO.out.mono ?_); rintro e w4 ⟨q, c4, rfl, h1, h2⟩; have HB4 := Lib.hid h2; clear h2)
   go_ret
   exact ⟨rfl, HB4.out⟩
def fnL (l : List Ev) (k : Nat) : List Ev := (l.take k).filter fun x => formB x 8
theorem fnL_len (l : List Ev) (k : Nat) : (fnL l k).length ≤ k := by
 have h := List.length_filter_le (fun x : Ev => formB x 8) (l.take k)
 rw [List.length_take] at h; unfold fnL; omega
theorem fnL_yes {l : List Ev} {k : Nat} {x : Ev} (hx : l[k]? = some x) (h : formB x 8 = true) : fnL l (k + 1) = fnL l k ++ [x] := by
 unfold fnL; rw [List.take_add_one, hx, List.filter_append]; simp [h]
theorem fnL_no {l : List Ev} {k : Nat} {x : Ev} (hx : l[k]? = some x) (h : formB x 8 = false) : fnL l (k + 1) = fnL l k := by
 unfold fnL; rw [List.take_add_one, hx, List.filter_append]; simp [h]
theorem fnL_form {l : List Ev} {k : Nat} (x : Ev) (hx : x ∈ fnL l k) : x ∈ l ∧ formB x 8 = true := by
 have h := List.mem_filter.1 hx; exact ⟨List.mem_of_mem_take h.1, h.2⟩
theorem fine_of_form {x : Ev} (h : formB x 8 = true) (hv : x.val < 18446744073709551616) : FineE x := by
 unfold formB at h
 simp only [Bool.and_eq_true, decide_eq_true_eq] at h
 obtain ⟨⟨⟨⟨⟨h1, h2⟩, h3⟩, h4⟩, h5⟩, h6⟩ := h
 exact ⟨h6, ⟨h1, h2⟩, ⟨h3, h4⟩, h5, hv⟩
set_option maxHeartbeats 8000000 in
theorem fine_anyO (a : Option Addr) (n c : Nat) (l : List Ev) (hn : Hid (n = l.length)) (W : World) (HA : Hid (EvAt W a l)) (hc : n ≤ 9223372036854775807) :
  Calls Tryz.prog 10 #[.slice a n c] W fun e w' => ∃ A m cap, e = .returned (.slice A m cap) ∧ EvS w' A m cap (fnL l 200) ∧ Below W.heap.size W w' := by
 go_enter Tryz.func10, Tryz.ntmps10
 go_wp2
 go_loopw [3, 4] (fun u v wr => ∃ (k m : Nat) (A : Option Addr) (cap : Nat), k ≤ n ∧ k ≤ 200 ∧ v = .int .i64 (k : Int) ∧ u = .slice A m cap ∧ Hid (m = (fnL l k).length) ∧ Hid (OwnE wr W.heap.size A m cap (fnL l k)) ∧ Hid (m = 0 → A = none ∧ cap = 0) ∧ Hid (Below W.heap.size W wr)) (fun _ v _ => n - (intOf v).toNat)
 case atStart => exact ⟨0, 0, none, 0, by omega, by omega, rfl, rfl, Lib.hid rfl, Lib.hid (World.ownsRow_nil _ _ _ 5), Lib.hid fun _ => ⟨rfl, rfl⟩, Lib.hid (Below.refl _ _)⟩
 case round =>
  obtain ⟨k, m, A, cap, hk, hk2, rfl, rfl, HM, HO, HNIL, HB⟩ := hrel
  by_cases hlt : k < n
  ·by_cases hlt2 : k < 200
   ·obtain ⟨x, hx⟩ : ∃ x, l[k]? = some x := ⟨l[k]'(by have := hn.out; omega), List.getElem?_eq_getElem _⟩
    obtain ⟨gq, off, rfl, hg, hr⟩ := evr (HA.out.keep HB.out) k x hx
    have HX := Lib.hid hr; have HXE := Lib.hid hx
    have hlti : (k : Int) < (n : Int) := by omega
    have hlti2 : (k : Int) < 200 := by omega
    have HFO := Lib.hid (refForm_any x 8 wr)
    clear hr hg hx
    rcases hf : formB x 8 with _ | _
    ·rw [hf] at HFO
     have HNO := Lib.hid (fnL_no HXE.out hf)
     clear hf
     go_wp2_with (first
      | (refine wpList_load_mid rfl 51 (.tmp 17) rfl gq (off + k * 5) rfl [.int .u64 (x.off : Int), .int .i64 x.part, .int .i64 x.time, .string x.key, .float .f64 x.val] _ HX.out uEvent rfl (iEvent x) ?_)
      | (go_at_call 22; (with_reducible refine HFO.out.mono ?_); rintro e w4 ⟨rfl, hb⟩; have HB4 := Lib.hid hb; clear hb))
     go_roundw
     case rel => exact ⟨k + 1, m, A, cap, by omega, by omega, by go_num, rfl, Lib.hid (by rw [HNO.out]; exact HM.out), Lib.hid (by rw [HNO.out]; exact HO.out.keptE (S := fun _ => False) (Kept.of_below HB4.out) (fun k hk => hk.elim)), HNIL, Lib.hid (below_to HB.out HB4.out)⟩
     case measure => simp [intOf]; omega
    ·rw [hf] at HFO
     have HYE := Lib.hid (fnL_yes HXE.out hf)
     clear hf
     have HM2 : Hid (m ≤ 200) := Lib.hid (by rw [HM.out]; exact Nat.le_trans (fnL_len l k) hk2)
     go_wp2_with (first
      | (refine wpList_load_mid rfl 51 (.tmp 17) rfl gq (off + k * 5) rfl [.int .u64 (x.off : Int), .int .i64 x.part, .int .i64 x.time, .string x.key, .float .f64 x.val] _ HX.out uEvent rfl (iEvent x) ?_)
      | (go_at_call 22; (with_reducible refine HFO.out.mono ?_); rintro e w4 ⟨rfl, hb⟩; have HB4 := Lib.hid hb; have HX4 : Hid (w4.rangeAt gq (off + k * 5) x.cells) := Lib.hid (rkeep HX.out (by obtain ⟨g9, o9, e9, h9, -⟩ := evr (HA.out.keep HB.out) k x HXE.out; injection e9 with e9; injection e9 with e9 _ _; rw [e9]; exact h9) hb); have hal := (Below.refl w4.heap.size w4).alloc (Nat.le_refl _) (.cells #[.int .u64 (x.off : Int), .int .i64 x.part, .int .i64 x.time, .string x.key, .float .f64 x.val] 51); have HAL := Lib.hid hal; have HO1 : Hid (OwnE (w4.alloc (.cells #[.int .u64 (x.off : Int), .int .i64 x.part, .int .i64 x.time, .string x.key, .float .f64 x.val] 51)) W.heap.size A m cap (fnL l k)) := Lib.hid ((HO.out.keptE (S := fun _ => False) (Kept.of_below hb) (fun k hk => hk.elim)).keptE (S := fun _ => False) (Kept.of_below hal) (fun k hk => hk.elim)); have HE1 : Hid (EvAt (w4.alloc (.cells #[.int .u64 (x.off : Int), .int .i64 x.part, .int .i64 x.time, .string x.key, .float .f64 x.val] 51)) (some ⟨w4.heap.size, 0, none⟩) [x]) := Lib.hid (fun j v hv => ⟨w4.heap.size, 0, rfl, by simp, by rw [cell_of_row _ _ _ _ _ _ (heap_alloc_new' w4 _), Nat.zero_add]; simpa [evs, Ev.cells] using hv⟩); clear hb hal)
      | (refine wpList_load_mid rfl 51 (.tmp 23) rfl gq (off + k * 5) rfl [.int .u64 (x.off : Int), .int .i64 x.part, .int .i64 x.time, .string x.key, .float .f64 x.val] _ HX4.out uEvent rfl (iEvent x) ?_)
      | (refine wpList_append_ev rfl (.tmp 20) (.tmp 25) rfl W.heap.size A m cap (fnL l k) rfl HO1.out (some ⟨w4.heap.size, 0, none⟩) 1 1 [x] rfl rfl HE1.out (fun h => by cases h) (m + 1) rfl (by have := HM2.out; omega) (Nat.le_trans HB.out.size (Nat.le_trans HB4.out.size HAL.out.size)) ?_; intro A2 c2 w2 h1 h2 h3 h4 h5; have HO2 := Lib.hid h1; have HB2 := Lib.hid h5; clear h1 h2 h3 h4 h5))
     go_roundw
     case rel => exact ⟨k + 1, m + 1, A2, c2, by omega, by omega, by go_num, rfl, Lib.hid (by rw [HYE.out, List.length_append, HM.out]; rfl), Lib.hid (by rw [HYE.out]; exact HO2.out), Lib.hid (fun h => by omega), Lib.hid ((below_to HB.out HB4.out).trans ((HAL.out.mono (Nat.le_trans HB.out.size HB4.out.size)).trans HB2.out))⟩
     case measure => simp [intOf]; omega
   ·have hk20 : k = 200 := by omega
    subst hk20
    have hlti : (200 : Int) < (n : Int) := by omega
    go_wp2
    go_ret
    refine ⟨A, m, cap, rfl, ?_, HB.out⟩
    rcases Nat.eq_zero_or_pos m with h0 | h0
    ·obtain ⟨rfl, rfl⟩ := HNIL.out h0
     exact .inl ⟨rfl, h0, rfl, List.eq_nil_of_length_eq_zero (by rw [← HM.out]; exact h0)⟩
    ·exact EvS.of_own HO.out h0
  ·have hge : ¬ (k : Int) < (n : Int) := by omega
   have hkn : k = n := by omega
   have HFL : Hid (fnL l k = fnL l 200) := Lib.hid (by
    unfold fnL
    rw [List.take_of_length_le (by have := hn.out; omega), List.take_of_length_le (by have := hn.out; omega)])
   clear hkn
   go_wp2
   go_ret
   refine ⟨A, m, cap, rfl, ?_, HB.out⟩
   rw [← HFL.out]
   rcases Nat.eq_zero_or_pos m with h0 | h0
   ·obtain ⟨rfl, rfl⟩ := HNIL.out h0
    exact .inl ⟨rfl, h0, rfl, List.eq_nil_of_length_eq_zero (by rw [← HM.out]; exact h0)⟩
   ·exact EvS.of_own HO.out h0
theorem sameXY (x y : Ev) (h : sameB x y = true) (hx : x.val < 18446744073709551616) (hy : y.val < 18446744073709551616) (w : World) : Calls Tryz.prog 32 #[.agg x.cells.toArray, .agg y.cells.toArray] w fun e w' => e = .returned (.bool true) ∧ Below w.heap.size w w' := by
 have h1 := refEvSame_any x y hx hy w
 rw [h] at h1
 exact h1
set_option maxHeartbeats 4000000 in
theorem sameAllS_core (g1 o1 g2 o2 n c1 c2 : Nat) (l l2 : List Ev) (hn : Hid (n = l.length)) (hn2 : Hid (n = l2.length)) (h60 : n ≤ 1000) (hs : Hid (∀ (k : Nat) (x y : Ev), l[k]? = some x → l2[k]? = some y → sameB x y = true ∧ x.val < 18446744073709551616 ∧ y.val < 18446744073709551616)) (W : World) (H1 : Hid (EvAt W (some ⟨g1, o1, none⟩) l)) (H2 : Hid (EvAt W (some ⟨g2, o2, none⟩) l2)) :
  Calls Tryz.prog 14 #[.slice (some ⟨g1, o1, none⟩) n c1, .slice (some ⟨g2, o2, none⟩) n c2] W fun e w' => e = .returned (.bool true) ∧ Below W.heap.size W w' := by
 have hq : ((n : Int) != (n : Int)) = false := by simp
 go_enter Tryz.func14, Tryz.ntmps14
 go_wp2
 clear hq
 go_loopw [5] (fun v wr => ∃ k : Nat, k ≤ n ∧ v = .int .i64 k ∧ Below W.heap.size W wr) (fun v _ => n - (intOf v).toNat)
 case atStart => exact ⟨0, Nat.zero_le _, rfl, Below.refl _ _⟩
 case round =>
  obtain ⟨k, hk, rfl, hb⟩ := hrel
  have HB := Lib.hid hb
  clear hb
  by_cases hkn : k < n
  ·have hkl : k < l.length := by have := hn.out; omega
   obtain ⟨x, hx⟩ : ∃ x, l[k]? = some x := ⟨l[k], List.getElem?_eq_getElem hkl⟩
   obtain ⟨y, hy⟩ : ∃ y, l2[k]? = some y := ⟨_, List.getElem?_eq_getElem (by have := hn2.out; omega)⟩
   have HV := Lib.hid (hs.out k x y hx hy)
   obtain ⟨g, off, e, hg, hr⟩ := ev_range (H1.out.keep HB.out) k x hx
   injection e with e; injection e with b1 b2; subst b1; subst b2
   obtain ⟨g', off', e, hg', hr'⟩ := ev_range (H2.out.keep HB.out) k y hy
   injection e with e; injection e with b1 b2; subst b1; subst b2
   have HG1 := Lib.hid hg; have HG2 := Lib.hid hg'; have HX1 := Lib.hid hr; have HX2 := Lib.hid hr'
   clear hx hy hg hg' hr hr'
   have hz : (k : Int) < (n : Int) := by omega
   go_upto_region 6 with fail
   have hh0 : Below wr.heap.size wr wr.drew := (Below.refl _ _).drew
   refine wp_region_held_drew (S := fun w => Below wr.heap.size wr w) (by kernel_rfl) hh0 (fun hHeld => ?_)
   refine tkm 0 (.slice (some ⟨g1, o1, none⟩) n c1) rfl hHeld ?_
   try simp only [qz]
   refine tkm 1 (.int .i64 (k : Nat)) rfl hHeld ?_
   try simp only [qz]
   refine tks 2 (.pointer (some ⟨g1, o1 + k * 5, none⟩)) rfl hHeld ?_
   try simp only [qz]
   refine tk 3 (.agg x.cells.toArray) rfl (yieldsIf_load_mid rfl 51 (.tmp 19) rfl g1 (o1 + k * 5) rfl x.cells _ (fun w hw => range_keep HX1.out HG1.out hw) uEvent rfl (iEvent x)) hHeld ?_
   try simp only [qz]
   refine tkm 4 (.slice (some ⟨g2, o2, none⟩) n c2) rfl hHeld ?_
   try simp only [qz]
   refine tkm 5 (.int .i64 (k : Nat)) rfl hHeld ?_
   try simp only [qz]
   refine tks 6 (.pointer (some ⟨g2, o2 + k * 5, none⟩)) rfl hHeld ?_
   try simp only [qz]
   refine tk 7 (.agg y.cells.toArray) rfl (yieldsIf_load_mid rfl 51 (.tmp 23) rfl g2 (o2 + k * 5) rfl y.cells _ (fun w hw => range_keep HX2.out HG2.out hw) uEvent rfl (iEvent y)) hHeld ?_
   try simp only [qz]
   refine rd1 8 rfl (fun K hK => ?_)
   go_simp
   refine (sameXY x y HV.out.1 HV.out.2.1 HV.out.2.2 _).mono ?_
   rintro e w2 ⟨rfl, hb⟩
   replace hHeld := below_to2 hHeld hb
   clear hb
   refine hK.out _ _ hHeld (fun hHeld => ?_)
   clear hK K
   try simp only [qz]
   refine rd1 9 rfl (fun K hK => ?_)
   go_simp
   refine hK.out _ _ hHeld (fun hHeld => ?_)
   clear hK K
   try simp only [qz]
   refine wpAnyH_done (by kernel_rfl) ?_ _
   have HB2 := Lib.hid (below_to2 HB.out hHeld)
   go_wp2
   go_roundw
   case rel => exact ⟨k + 1, by omega, by go_num, HB2.out⟩
   case measure => simp [intOf]; omega
  ·have hz : ¬ ((k : Int) < (n : Int)) := by omega
   go_wp2
   go_ret
   exact ⟨rfl, HB.out⟩
theorem sameAllS_any (a b : Option Addr) (n c1 c2 : Nat) (l l2 : List Ev) (hn : Hid (n = l.length)) (hn2 : Hid (n = l2.length)) (h60 : n ≤ 1000) (hs : Hid (∀ (k : Nat) (x y : Ev), l[k]? = some x → l2[k]? = some y → sameB x y = true ∧ x.val < 18446744073709551616 ∧ y.val < 18446744073709551616)) (W : World) (H1 : Hid (EvAt W a l)) (H2 : Hid (EvAt W b l2)) :
  Calls Tryz.prog 14 #[.slice a n c1, .slice b n c2] W fun e w' => e = .returned (.bool true) ∧ Below W.heap.size W w' := by
 rcases l with _ | ⟨x, r⟩
 ·have : n = 0 := hn.out
  subst this
  exact sameAll_none a b c1 c2 W
 ·rcases l2 with _ | ⟨y, r2⟩
  ·have h1 := hn.out; have h2 := hn2.out; simp at h1 h2; omega
  ·obtain ⟨g1, o1, rfl, -, -⟩ := ev_range H1.out 0 x rfl
   obtain ⟨g2, o2, rfl, -, -⟩ := ev_range H2.out 0 y rfl
   exact sameAllS_core g1 o1 g2 o2 n c1 c2 (x :: r) (y :: r2) hn hn2 h60 hs W H1 H2
theorem same_canE (x : Ev) : sameB (canE x) x = true ∧ sameB (canE x) (canE x) = true := by
 unfold sameB keqB canE; simp [Fl.canon_canon]
theorem sameAllC_any (a b : Option Addr) (n c1 c2 : Nat) (l : List Ev) (hn : n = l.length) (h60 : n ≤ 1000) (hv : ∀ x ∈ l, x.val < 18446744073709551616) (W : World) (H1 : EvAt W a (l.map canE)) (H2 : EvAt W b l) :
  Calls Tryz.prog 14 #[.slice a n c1, .slice b n c2] W fun e w' => e = .returned (.bool true) ∧ Below W.heap.size W w' :=
 sameAllS_any a b n c1 c2 (l.map canE) l (Lib.hid (by rw [List.length_map]; exact hn)) (Lib.hid hn) h60 (Lib.hid fun k x y hx hy => by
  rw [List.getElem?_map, hy] at hx
  injection hx with hx; subst hx
  have h := hv y (List.mem_of_getElem? hy)
  exact ⟨(same_canE y).1, Fl.canon_lt _ h, h⟩) W (Lib.hid H1) (Lib.hid H2)
theorem ch_fit {Z n : Nat} (hZ : 1 ≤ Z) (h : n + Z ≤ 320) : n ≤ 320 ∧ chN Z n * min Z n ≤ min 320 320 := by
 have h1 : chN Z n * min Z n ≤ chN Z n * Z := Nat.mul_le_mul_left _ (Nat.min_le_left _ _)
 have h2 : chN Z n * Z ≤ n + Z - 1 := Nat.div_mul_le_self _ _
 omega
theorem isort_val {l : List Ev} (h : ∀ x ∈ l, x.val < 18446744073709551616) : ∀ x ∈ isort ltM l, x.val < 18446744073709551616 := fun x hx => h x (isort_memM l x hx)
theorem sa_new {B w w' : World} {g : Nat} {room : Int} (h : S0 (Bs.of B) g room false 0 0 w) (hb : Below w.heap.size w w') : SA (Bs.of B) g room false 0 0 [] w' := SA.next (.inl ⟨rfl, h⟩) hb
theorem ckN_lt {Z n : Nat} (hZ : 2 ≤ Z) (hn : 2 ≤ n) : ckN Z n < n := by
 have h := ckN_half (n := n) hZ; omega
theorem pass_one {Z n N J J' : Nat} (h : PassZ Z n N J) (hN : n = 0 → N = 0) (h1 : itN Z N J' ≤ 1) (h2 : ∀ j, j < J' → 2 ≤ itN Z N j) : J = J' := by
 rcases h with ⟨h0, rfl⟩ | ⟨h0, h3, h4⟩
 ·rcases J' with _ | J'
  ·rfl
  ·have := h2 0 (by omega); rw [hN h0] at this; exact absurd this (by show ¬ 2 ≤ 0; omega)
 ·rcases Nat.lt_trichotomy J J' with hj | hj | hj
  ·have := h2 J hj; omega
  ·exact hj
  ·have := h4 J' hj; omega
set_option maxHeartbeats 4000000 in
theorem passes_any (N Z : Nat) (hN : N ≤ 1000) (hZ : 2 ≤ Z ∧ Z ≤ 16) (w : World) :
  Calls Tryz.prog 16 #[.int .i64 (N : Int), .int .i64 (Z : Int)] w fun e w' => ∃ J : Nat, e = .returned (.int .i64 (J : Int)) ∧ itN Z N J ≤ 1 ∧ (∀ j, j < J → 2 ≤ itN Z N j) ∧ w' = w := by
 have hz0 : ¬ (Z : Int) = 0 := by omega
 go_enter Tryz.func16, Tryz.ntmps16
 go_wp2
 go_loopw [0, 5] (fun u v wr => ∃ (j r : Nat), u = .int .i64 (r : Int) ∧ v = .int .i64 (j : Int) ∧ Hid (r = itN Z N j ∧ r + j ≤ N) ∧ Hid (∀ i, i < j → 2 ≤ itN Z N i) ∧ wr = w) (fun u _ _ => (intOf u).toNat)
 case atStart => exact ⟨0, N, rfl, rfl, Lib.hid ⟨rfl, by omega⟩, Lib.hid (fun i hi => absurd hi (by omega)), rfl⟩
 case round =>
  obtain ⟨j, r, rfl, rfl, HR, HJ, rfl⟩ := hrel
  have hr9 : r ≤ 1000 ∧ j ≤ 1000 := by have := HR.out.2; omega
  by_cases h2 : 2 ≤ r
  ·have h1 : (1 : Int) < (r : Int) := by omega
   have hq : ((r : Int) + (Z : Int) - 1).tdiv (Z : Int) = ((ckN Z r : Nat) : Int) := by
    rw [Int.tdiv_eq_ediv_of_nonneg (by omega)]
    have e : (r : Int) + (Z : Int) - 1 = ((r + Z - 1 : Nat) : Int) := by omega
    rw [e]; rfl
   have HQ := Lib.hid hq
   have HLT := Lib.hid (ckN_lt hZ.1 h2)
   have HW := Lib.hid (show wrap64 ((ckN Z r : Nat) : Int) = ((ckN Z r : Nat) : Int) by have h3 := HLT.out; unfold wrap64; omega)
   go_wp2
   go_roundw
   case rel => exact ⟨j + 1, ckN Z r, by rw [HW.out], by go_num, Lib.hid ⟨by rw [HR.out.1]; rfl, by have h3 := HLT.out; have h4 := HR.out.2; omega⟩, Lib.hid (fun i hi => by
    rcases Nat.lt_or_ge i j with h | h
    ·exact HJ.out i h
    ·obtain rfl : i = j := by omega
     rw [← HR.out.1]; exact h2), trivial⟩
   case measure => have h3 := HLT.out; rw [HW.out]; simp [intOf]; omega
  ·have h1 : ¬ (1 : Int) < (r : Int) := by omega
   go_wp2
   go_ret
   exact ⟨j, rfl, by rw [← HR.out.1]; omega, HJ.out, rfl⟩
theorem app_at {xs ys : List Fil} {t : ByteArray} {m : List Nat} (hno : ∀ x ∈ xs, cmpKF x.name t ≠ 0) (h : AppRel xs t m ys) : ∃ lo A c, ys = xs.take lo ++ ⟨t, A, c, m, 0⟩ :: xs.drop lo := by
 rcases h with ⟨lo, x, A', cap', hT, rfl⟩ | ⟨lo, A', cap', hp, hn, rfl⟩
 ·exact absurd hT.eq (hno x (List.mem_of_getElem? hT.get))
 ·exact ⟨lo, A', cap', rfl⟩
theorem app_filter {xs ys : List Fil} {t : ByteArray} {m : List Nat} (hno : ∀ x ∈ xs, cmpKF x.name t ≠ 0) (h : AppRel xs t m ys) :
  (ys.filter fun x => !runT x.name).length = (xs.filter fun x => !runT x.name).length + (if runT t = true then 0 else 1) ∧ sumN (ys.filter fun x => !runT x.name) = sumN (xs.filter fun x => !runT x.name) + (if runT t = true then 0 else m.length) ∧ ys.length = xs.length + 1 ∧ ∀ y ∈ ys, y.name = t ∨ y ∈ xs := by
 obtain ⟨lo, A, c, rfl⟩ := app_at hno h
 have e1 : (xs.filter fun x => !runT x.name) = ((xs.take lo).filter fun x => !runT x.name) ++ ((xs.drop lo).filter fun x => !runT x.name) := by
  rw [← List.filter_append, List.take_append_drop]
 have e2 : xs.length = (xs.take lo).length + (xs.drop lo).length := by rw [← List.length_append, List.take_append_drop]
 refine ⟨?_, ?_, ?_, fun y hy => ?_⟩
 ·rw [e1, List.filter_append, List.filter_cons]
  by_cases hr : runT t = true
  ·rw [if_pos hr]; simp [hr]
  ·rw [if_neg hr]; simp [hr]; omega
 ·rw [e1, List.filter_append, List.filter_cons, sumN_append, sumN_append]
  by_cases hr : runT t = true
  ·rw [if_pos hr]; simp [hr]
  ·rw [if_neg hr]; simp [hr, sumN]; omega
 ·rw [List.length_append, List.length_cons]; omega
 ·rcases List.mem_append.1 hy with h | h
  ·exact .inr (List.mem_of_mem_take h)
  ·rcases List.mem_cons.1 h with rfl | h
   ·exact .inl rfl
   ·exact .inr (List.mem_of_mem_drop h)
theorem by_new (w : World) (l : List Nat) (hl : ∀ x ∈ l, x < 256) (cs : Array Value) (hcs : cs.toList = bys l) (fr : Nat × Nat) : Hid (ByAt (w.alloc (.cells cs 5 fr)) (some ⟨w.heap.size, 0, none⟩) l) :=
 Lib.hid (ByAt.of_row l hl (heap_alloc_new' w _) ⟨[], by rw [List.append_nil, hcs]⟩)
section
variable {W : Bs} {g : Nat} {room armed ops : Int} {off : Bool} {xs : List Fil} {w w' : World}
theorem append_B {t : ByteArray} (hts : t.size ≤ 281474976710656) (hform : formK t = true) (hr : Rises xs) (hn : xs.length < 500) (w : World) (hs : SA W g room false 0 ops xs w) (h : 0 ≤ ops ∧ ops < 1000000000)
  (p : Option Addr) (n c : Nat) (m : List Nat) (hm : n = m.length) (hp : ByAt w p m) (hq : ∀ q, p.map (·.block) = some q → ∃ cs fr, w.heap[q]? = some (.cells cs 5 fr)) (hroom : room ≤ 16777216) (hfit : (n : Int) ≤ room - (sumN xs : Nat)) (hr0 : 0 ≤ room) :
  Calls Tryz.prog 12 #[.pointer (some ⟨g, 0, none⟩), .string t, .slice p n c] w fun z w' => z = .returned (.int .i64 0) ∧ KF w w' ∧ ∃ ys, AppRel xs t m ys ∧ SA W g room false 0 (ops + 1) ys w' := by
 refine (append_A (e := 0) (armed' := 0) (off' := false) hts hform hr hn w (Lib.hid hs.now) (Lib.hid ⟨.inl ⟨rfl, rfl, rfl, rfl⟩⟩) (Lib.hid h) (Lib.hid (by omega)) p n c m (Lib.hid hm) (Lib.hid hp) (Lib.hid fun f n1 c1 hc k x hk hA => ?_) hroom hfit hr0).mono ?_
 ·obtain ⟨cs, fr, hrow⟩ := hq f hA
  rcases hs with ⟨-, h⟩ | ⟨f', fcap, r, h⟩
  ·rw [h.g1] at hc; cases hc
  ·rw [h.g1] at hc
   injection hc with hc; injection hc with e1 e2 e3
   injection e1 with e1; injection e1 with e1 _ _
   subst e1
   have h2 := hrow.symm.trans h.fl
   injection h2 with h2; injection h2 with _ h2 _
   exact absurd h2 (by decide)
 ·rintro z w' ⟨rfl, ys, h1, h2⟩
  have hk : KF w w' := h2.kf
  exact ⟨rfl, hk, ys, h1, h2.seen W.v (hs.kf.trans hk)⟩
end
set_option maxHeartbeats 8000000 in
theorem sorterSorts_any (a : Option Addr) (l : List Ev) (n c : Nat) (hn : Hid (n = l.length)) (hnc : n ≤ c) (hcm : c ≤ maxLen) (hv : ∀ x ∈ l, x.val < 18446744073709551616) (b : Nat) (hb : b < 256) (d : Nat) (hd : d < 256) (W : World) (HA : Hid (EvAt W a l)) (HG : Hid (TabsAt W)) :
  Calls Tryz.prog 3 #[.slice a n c, .int .u8 (b : Int), .int .u8 (d : Int)] W fun e w' => e = .returned (.bool true) ∧ Below W.heap.size W w' := by
 have HAW := Lib.hid (awakeO_any W HG.out)
 have HV := Lib.hid hv
 have hc9 : n ≤ 9223372036854775807 := by unfold maxLen at hcm; omega
 clear hv hcm
 go_enter Tryz.func3, Tryz.ntmps3
 go_upto_region 3 with (go_at_call 9; (with_reducible refine HAW.out.mono ?_); rintro e w1 ⟨rfl, h1⟩; have HB1 := Lib.hid h1; clear h1)
 have HFN := Lib.hid (fine_anyO a n c l hn w1 (Lib.hid (HA.out.keep HB1.out)) hc9)
 go_upto_region 4 with (go_at_call 10; (with_reducible refine HFN.out.mono ?_); rintro e w2 ⟨A, m, cap, rfl, h1, h2⟩; have HE2 := Lib.hid h1; have HB2 := Lib.hid h2; clear h1 h2)
 go_upto_region 5 with fail
 obtain ⟨Zh, hzh, hzb⟩ : ∃ Zh : Nat, (1 + (b : Int) % 50) = (Zh : Int) ∧ 1 ≤ Zh ∧ Zh ≤ 50 := ⟨1 + b % 50, by omega, by omega, by omega⟩
 obtain ⟨Zf, hzf, hzg⟩ : ∃ Zf : Nat, (2 + (d : Int) % 15) = (Zf : Int) ∧ 2 ≤ Zf ∧ Zf ≤ 16 := ⟨2 + d % 15, by omega, by omega, by omega⟩
 rw [hzh, hzf]
 have hb3 := (Below.refl w2.heap.size w2).alloc (Nat.le_refl _) (.cells #[.int .i64 (Zh : Int), .int .i64 (Zf : Int)] 26)
 have hr3 := heap_alloc_new' w2 (.cells #[.int .i64 (Zh : Int), .int .i64 (Zf : Int)] 26)
 obtain ⟨p, hp⟩ : ∃ p, p = w2.heap.size := ⟨_, rfl⟩
 obtain ⟨w3, hw3⟩ : ∃ w3, w3 = w2.alloc (.cells #[.int .i64 (Zh : Int), .int .i64 (Zf : Int)] 26) := ⟨_, rfl⟩
 rw [← hw3] at hb3 hr3 ⊢
 rw [← hp] at hr3 ⊢
 have HB3 := Lib.hid hb3; have HR3 := Lib.hid hr3
 have HZ := Lib.hid (And.intro hzb hzg)
 clear hw3 hp hb3 hr3 hzh hzf hb hd hzb hzg
 go_upto_region 6 with (go_at_call 11; (with_reducible refine (new_anyF 8388608 (by decide) w3).mono ?_); rintro e w4 ⟨g, rfl, h1, h2⟩; have HGG := Lib.hid h1; have HS4 := Lib.hid h2; clear h1 h2)
 have kc := fun (w : World) (C : Array Value) (n c : Nat) => Lib.run_convert_bytes_const (P := Tryz.prog) w 32 5 C n c Tryz.underlying32 Tryz.underlying5
 have hs4 := sa_new HS4.out (Below.refl _ _)
 have HK4 := Lib.hid hs4.kf
 have hal := (Below.refl w4.heap.size w4).alloc (Nat.le_refl _) (.cells #[.int .u8 120] 5 (1, 2))
 have HAL := Lib.hid hal
 have HAP := Lib.hid (append_B (g := g) (room := 8388608) (t := { data := #[111, 116, 104, 101, 114] }) (by decide) (by decide) (xs := []) (fun j k x y _ hx => by simp at hx) (by decide) _ (hs4.next hal) (by decide) (some ⟨w4.heap.size, 0, none⟩) 1 1 [120] rfl (by_new w4 [120] (by decide) #[.int .u8 120] rfl (1, 2)).out (fun q hq => by injection hq with hq; subst hq; exact ⟨_, _, heap_alloc_new' _ _⟩) (by decide) (by decide) (by decide))
 clear hs4 hal
 go_upto_region 7 with (go_at_call 12; (with_reducible refine HAP.out.mono ?_); rintro e w5 ⟨rfl, h1, ys, h2, h3⟩; have HK5 := Lib.hid h1; have HA5 := Lib.hid h2; have HS5 := Lib.hid h3; clear h1 h2 h3)
 have h0no : ∀ x ∈ ([] : List Fil), cmpKF x.name { data := #[111, 116, 104, 101, 114] } ≠ 0 := fun x hx => nomatch hx
 have hf1 := app_filter h0no HA5.out
 have hfa1 := HA5.out.facts (fun j k x y _ hx => by simp at hx)
 have hal5 := (Below.refl w5.heap.size w5).alloc (Nat.le_refl _) (.cells #[.int .u8 120] 5 (1, 2))
 have HAL5 := Lib.hid hal5
 have HAQ := Lib.hid (append_B (g := g) (room := 8388608) (t := { data := #[114, 117, 110, 46, 55] }) (by decide) (by decide) (xs := ys) hfa1.1 (by rw [hf1.2.2.1]; decide) _ (HS5.out.next hal5) (by decide) (some ⟨w5.heap.size, 0, none⟩) 1 1 [120] rfl (by_new w5 [120] (by decide) #[.int .u8 120] rfl (1, 2)).out (fun q hq => by injection hq with hq; subst hq; exact ⟨_, _, heap_alloc_new' _ _⟩) (by decide) (by have h9 := hfa1.2.1; simp [sumN] at h9; omega) (by decide))
 have HF1 := Lib.hid hf1
 have HR1 := Lib.hid hfa1.1
 clear hf1 hfa1 hal5 h0no
 go_upto_region 8 with (go_at_call 12; (with_reducible refine HAQ.out.mono ?_); rintro e w6 ⟨rfl, h1, zs, h2, h3⟩; have HK6 := Lib.hid h1; have HA6 := Lib.hid h2; have HS6 := Lib.hid h3; clear h1 h2 h3)
 have hno2 : ∀ x ∈ ys, cmpKF x.name { data := #[114, 117, 110, 46, 55] } ≠ 0 := fun x hx => by
  rcases HF1.out.2.2.2 x hx with h | h
  ·rw [h]; decide
  ·cases h
 have hf2 := app_filter hno2 HA6.out
 have hfa2 := HA6.out.facts HR1.out
 have hl1 : (zs.filter fun x => !runT x.name).length = 1 := by
  rw [hf2.1, HF1.out.1, if_neg (by decide), if_pos (by decide)]; rfl
 have hs1 : sumN (zs.filter fun x => !runT x.name) = 1 := by
  rw [hf2.2.1, HF1.out.2.1, if_neg (by decide), if_pos (by decide)]; rfl
 have hnm : ∀ x ∈ zs, x.name.size ≤ 2000 ∧ formK x.name = true := fun x hx => by
  rcases hf2.2.2.2 x hx with h | h
  ·rw [h]; decide
  ·rcases HF1.out.2.2.2 x h with h | h
   ·rw [h]; decide
   ·cases h
 have HL : Hid (∀ x ∈ fnL l 200, FineE x ∧ formB x 8 = true ∧ x.val < 18446744073709551616) := Lib.hid fun x hx => by
  obtain ⟨h1, h2⟩ := fnL_form x hx
  exact ⟨fine_of_form h2 (HV.out x h1), h2, HV.out x h1⟩
 have HM : Hid (m = (fnL l 200).length ∧ m ≤ 200) := Lib.hid (by have h1 := HE2.out.at.2.1; have h2 := fnL_len l 200; omega)
 have hB02 : Below W.heap.size W w2 := below_to HB1.out HB2.out
 have hB03 : Below W.heap.size W w3 := below_to hB02 HB3.out
 have HB03 := Lib.hid hB03
 have HTB : Hid (TabsAt w3) := Lib.hid ⟨HG.out.1.keep hB03, HG.out.2.keep hB03⟩
 have hk36 : KF w3 w6 := ((((HK4.out.below HAL.out).trans HK5.out).below HAL5.out).trans HK6.out)
 have HK36 := Lib.hid hk36
 have HE6 : Hid (EvS w6 A m cap (fnL l 200)) := Lib.hid ((HE2.out.kf (KF.of_below HB3.out)).kf hk36)
 have hr6 := hk36.row HR3.out (not_st (by decide) (by decide) (by decide))
 have HR6 := Lib.hid hr6
 have cp0 : w6.cell? ⟨p, 0, none⟩ = some (.int .i64 (Zh : Int)) := by rw [cell_of_row _ _ _ _ _ _ hr6]; rfl
 have cp1 : w6.cell? ⟨p, 1, none⟩ = some (.int .i64 (Zf : Int)) := by rw [cell_of_row _ _ _ _ _ _ hr6]; rfl
 have HSO := Lib.hid (sortS_any (W := Bs.of w3) (g := g) (room := 8388608) 320 A m cap (fnL l 200) 8 Zh Zf (by decide) ⟨HZ.out.1.1, by have := HZ.out.1.2; omega⟩ HZ.out.2 (fun x hx => (HL.out x hx).1) (fun x hx => (HL.out x hx).2.1) (by have h1 := HM.out; rw [← h1.1]; exact ch_fit HZ.out.1.1 (by have := HZ.out.1.2; omega)) hfa2.1 hnm (by rw [hf2.2.2.1, HF1.out.2.2.1]; decide) w6 HS6.out (by decide) HE6.out HTB.out HGG.out (by decide) (by rw [hs1]; decide))
 rw [hl1] at HSO
 clear hno2 hf2 hfa2 hl1 hs1 hnm hB02 hB03 hk36 hr6
 go_upto_region 9 with (go_at_call 13; (with_reducible refine HSO.out.mono ?_); intro e w7 h9; unfold SortR at h9; obtain ⟨L7, c7, J7, rfl, h1, h2, h3, h4, h5, zs7, o7, h6, h7, h8⟩ := h9; have HP7 := Lib.hid h1; have HO7 := Lib.hid h4; have HK7 := Lib.hid h5; have HS7 := Lib.hid h6; have HZ7 := Lib.hid h7; clear h1 h2 h3 h4 h5 h6 h7 h8 cp0 cp1)
 have hr7 := HK7.out.row HR6.out (not_st (by decide) (by decide) (by decide))
 have HR7 := Lib.hid hr7
 have cp0 : w7.cell? ⟨p, 0, none⟩ = some (.int .i64 (Zh : Int)) := by rw [cell_of_row _ _ _ _ _ _ hr7]; rfl
 have hz0 : ¬ (Zh : Int) = 0 := by have := HZ.out.1; omega
 have hmz : m ≤ 200 ∧ Zh ≤ 50 ∧ 1 ≤ Zh := ⟨HM.out.2, HZ.out.1.2, HZ.out.1.1⟩
 have hq : ((m : Int) + (Zh : Int) - 1).tdiv (Zh : Int) = ((chN Zh m : Nat) : Int) := by
  rw [Int.tdiv_eq_ediv_of_nonneg (by omega)]
  have e : (m : Int) + (Zh : Int) - 1 = ((m + Zh - 1 : Nat) : Int) := by omega
  rw [e]; rfl
 have HCN : Hid (chN Zh m ≤ 250) := Lib.hid (Nat.le_trans (Nat.div_le_self _ _) (by omega))
 have hw : wrap64 ((chN Zh m : Nat) : Int) = ((chN Zh m : Nat) : Int) := by have h3 := HCN.out; unfold wrap64; omega
 clear hr7
 go_upto_region 10 with fail
 have cp2 : w7.cell? ⟨p, 1, none⟩ = some (.int .i64 (Zf : Int)) := by rw [cell_of_row _ _ _ _ _ _ HR7.out]; rfl
 have HRS := Lib.hid (rsort_any A m cap (fnL l 200) (Lib.hid HM.out.1) (by have := HM.out; omega) w7 (Lib.hid (HE6.out.kf HK7.out).at.1))
 go_wp2_with (first
  | (go_at_call 15; (with_reducible refine HRS.out.mono ?_); rintro e w8 ⟨L8, c8, rfl, h1, h2⟩; have HO8 := Lib.hid h1; have HB8 := Lib.hid h2; have HSM := Lib.hid (sameAllC_any L7 L8 m c7 c8 (isort ltM (fnL l 200)) (by rw [isort_len]; exact HM.out.1) (by have := HM.out; omega) (isort_val fun x hx => (HL.out x hx).2.2) w8 (HO7.out.at'.keep h2) h1.at'); clear h1 h2)
  | (go_at_call 14; (with_reducible refine HSM.out.mono ?_); rintro e w9 ⟨rfl, h1⟩; have HB9 := Lib.hid (below_to HB8.out h1); have cp3 : w9.cell? ⟨p, 1, none⟩ = some (.int .i64 (Zf : Int)) := (by rw [cell_of_row _ _ _ _ _ _ (row_kept HR7.out HB9.out)]; rfl); have HPS := Lib.hid (passes_any (chN Zh m) Zf (by have := HCN.out; omega) HZ.out.2 w9); have HS9 : Hid (SA ⟨w3, w7⟩ g 8388608 false 0 o7 zs7 w9) := Lib.hid (HS7.out.next HB9.out); have HLI := Lib.hid (list_A (by rw [HZ7.out]; decide) w9 HS9); rw [HZ7.out] at HLI; clear h1)
  | (go_at_call 16; (with_reducible refine HPS.out.mono ?_); rintro e w10 ⟨J8, rfl, h1, h2, rfl⟩; obtain rfl : J7 = J8 := pass_one HP7.out (fun h => by rw [h]; unfold chN; exact Nat.div_eq_of_lt (by omega)) h1 h2; clear h1 h2)
  | (go_at_call 17; (with_reducible refine HLI.out.mono ?_); rintro e w11 ⟨b11, rfl, -, -, h1⟩; have HB11 := Lib.hid h1; clear h1))
 go_ret
 exact ⟨rfl, below_to HB03.out ((gb_new (HS9.out.next HB11.out).below HGG.out))⟩
end Go.Proofs.YtjldamkmdkaiiaaGreatDoor
