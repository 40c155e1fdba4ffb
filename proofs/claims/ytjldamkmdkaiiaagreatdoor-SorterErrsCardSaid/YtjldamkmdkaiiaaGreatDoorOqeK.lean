/-
  Layer sorter: SorterErrs: the walk.
-/
import Derived.Test.YtjldamkmdkaiiaaGreatDoorO5K
import Derived.Deep.DeepCutAuto
import Derived.Deep.CutBlock
set_option linter.unusedSimpArgs false
set_option linter.unusedVariables false
set_option maxRecDepth 8000
namespace Go.Proofs.YtjldamkmdkaiiaaGreatDoor
open Go.RowKit Go.WideShapes Col Go.Sort
theorem KX.old {b : Nat} {w w4 w5 : World} (h : KF w w4) (h' : KX b w4 w5) (hb : w.heap.size ≤ b) : KF w w5 := ⟨Nat.le_trans h.size h'.size, fun k o hk hn => by
 have hlt := (Array.getElem?_eq_some_iff.1 hk).1
 exact h'.kept k o (h.kept k o hk hn) (by omega) hn⟩
theorem EvR.kf {w w' : World} {gl ol : Nat} {l : List Ev} (h : EvR w gl ol l) (hk : KF w w') : EvR w' gl ol l := by
 obtain ⟨cur, t, fr, h1, h2, h3⟩ := h; exact ⟨cur, t, fr, hk.row h1 h2, h2, h3⟩
def SortR (base : World) (g : Nat) (room : Int) (nb n N : Nat) (out : List Ev) (P : Nat → Prop) (o0 : Int) (w : World) (e : Ending) (w' : World) : Prop :=
 ∃ L c J, e = .returned (.tuple #[.slice L n c, .int .i64 (N : Nat), .int .i64 (J : Nat), .int .i64 0]) ∧ P J ∧ n ≤ c ∧ c ≤ maxLen ∧ OwnE w' w.heap.size L n c out ∧ KF w w' ∧ ∃ zs o, SA ⟨base, w'⟩ g room false 0 o zs w' ∧ zs.length = nb ∧ (0 ≤ o ∧ o ≤ o0 + 2000000)
section
variable {W : Bs} {g : Nat} {room ops : Int} {xs : List Fil}
set_option maxHeartbeats 8000000 in
theorem sortW_any (A : Option Addr) (n c : Nat) (l : List Ev) (parts : Int) (Zh Z N nb : Nat) (out : List Ev) (P : Nat → Prop) (hn : Hid (n = l.length)) (hn9 : n ≤ 1100) (hp : Hid (1 ≤ parts ∧ parts ≤ 8)) (hpl : planB Zh Z = true) (hall : Hid (∀ x ∈ l, formB x parts = true))
  (hr : Rises xs) (hf : ∀ x ∈ xs, x.name.size ≤ 2000 ∧ formK x.name = true) (hx : xs.length ≤ 1000) (w : World) (hs : SA W g room false 0 ops xs w) (h : 0 ≤ ops ∧ ops < 900000000) (HE : Hid (∀ w', KF w w' → EvAt w' A l))
  (HST : Hid (∀ (w4 : World) (b : Nat) (o4 : Int), w.heap.size ≤ b → b < w4.heap.size → KF w w4 → RunsAt9 w4 b g parts none 0 0 0 → SA ⟨W.b, w4⟩ g room false 0 o4 (xs.filter fun x => !runT x.name) w4 → (0 ≤ o4 ∧ o4 ≤ ops + xs.length) → Calls Tryz.prog 30 #[.pointer (some ⟨b, 0, none⟩), .slice A n c, .agg #[.int .i64 (Zh : Int), .int .i64 (Z : Int)]] w4 (SortM W.b g room nb n N out P b o4 w4))) :
  Calls Tryz.prog 13 #[.pointer (some ⟨g, 0, none⟩), .slice A n c, .int .i64 parts, .agg #[.int .i64 (Zh : Int), .int .i64 (Z : Int)]] w (SortR W.b g room nb n N out P ops w) := by
 have hb1 := (Below.refl w.heap.size w).alloc (Nat.le_refl _) (.cells #[.int .i64 (Zh : Int), .int .i64 (Z : Int)] 26)
 have HB1 := Lib.hid hb1
 have HCL := Lib.hid (clean_any hr hf hx _ (hs.next hb1) h)
 obtain ⟨pb, hpb⟩ : ∃ pb, pb = w.heap.size := ⟨_, rfl⟩
 have HPB := Lib.hid hpb
 have HRP : Hid ((w.alloc (.cells #[.int .i64 (Zh : Int), .int .i64 (Z : Int)] 26)).heap[pb]? = some (.cells #[.int .i64 (Zh : Int), .int .i64 (Z : Int)] 26 (0, 0))) := Lib.hid (by rw [hpb]; exact heap_alloc_new' _ _)
 have HPL := Lib.hid hpl
 have HXL := Lib.hid hx
 clear hb1 hpb hr hf hs hpl
 go_enter Tryz.func13, Tryz.ntmps13
 go_upto_region 4 with (go_at_call 23; (with_reducible refine HCL.out.mono ?_); rintro e w2 ⟨rfl, h1, o4, h2, h3⟩; have HK2 := Lib.hid h1; have HO4 := Lib.hid h2; have HS2 := Lib.hid h3; clear h1 h2 h3)
 have hrp2 : w2.heap[pb]? = some (.cells #[.int .i64 (Zh : Int), .int .i64 (Z : Int)] 26 (0, 0)) := HK2.out.row HRP.out (not_st (by decide) (by decide) (by decide))
 have HRP2 := Lib.hid hrp2
 have cp0 : w2.cell? ⟨pb, 0, none⟩ = some (.int .i64 (Zh : Int)) := by rw [cell_of_row _ _ _ _ _ _ hrp2]; rfl
 have cp1 : w2.cell? ⟨pb, 1, none⟩ = some (.int .i64 (Z : Int)) := by rw [cell_of_row _ _ _ _ _ _ hrp2]; rfl
 have HK : Hid (KF w w2) := Lib.hid ((KF.of_below HB1.out).trans HK2.out)
 have HRF := Lib.hid (refuses_fine A n c l hn hn9 parts (Zh : Int) (Z : Int) hp HPL.out hall w2 (Lib.hid (HE.out w2 HK.out)))
 rw [← HPB.out]
 clear hrp2
 go_upto_region 7 with (go_at_call 29; (with_reducible refine HRF.out.mono ?_); rintro e w3 ⟨rfl, h1⟩; have HB3 := Lib.hid h1; clear h1)
 have hrp3 := row_kept HRP2.out HB3.out
 have HRP3 := Lib.hid hrp3
 obtain ⟨b, hb⟩ : ∃ b, b = w3.heap.size := ⟨_, rfl⟩
 have HB := Lib.hid hb
 have hb4 := (Below.refl w3.heap.size w3).alloc (Nat.le_refl _) (.cells #[.pointer (some ⟨g, 0, none⟩), .int .i64 parts, .slice none 0 0, .int .i64 0] 70)
 have hrp4 := row_kept hrp3 hb4
 have dp0 : (w3.alloc (.cells #[.pointer (some ⟨g, 0, none⟩), .int .i64 parts, .slice none 0 0, .int .i64 0] 70)).cell? ⟨pb, 0, none⟩ = some (.int .i64 (Zh : Int)) := by rw [cell_of_row _ _ _ _ _ _ hrp4]; rfl
 have dp1 : (w3.alloc (.cells #[.pointer (some ⟨g, 0, none⟩), .int .i64 parts, .slice none 0 0, .int .i64 0] 70)).cell? ⟨pb, 1, none⟩ = some (.int .i64 (Z : Int)) := by rw [cell_of_row _ _ _ _ _ _ hrp4]; rfl
 have HK4 : Hid (KF w (w3.alloc (.cells #[.pointer (some ⟨g, 0, none⟩), .int .i64 parts, .slice none 0 0, .int .i64 0] 70))) := Lib.hid ((HK.out.below HB3.out).below hb4)
 have hsz : w.heap.size ≤ w3.heap.size := Nat.le_trans HK.out.size HB3.out.size
 have HSZ := Lib.hid hsz
 have HSM := Lib.hid (HST.out _ w3.heap.size o4 hsz (by simp) HK4.out (heap_alloc_new' _ _) ((HS2.out.next HB3.out).next hb4).now HO4.out)
 clear hb hb4 hrp3 hrp4 hsz
 go_wp2_with (go_at_call 30; (with_reducible refine HSM.out.mono ?_); intro e w5 h5; unfold SortM at h5; obtain ⟨L, c5, J, rfl, h1, h2, h3, h4, h6, zs5, o5, h7⟩ := h5; have HP := Lib.hid h1; have HC5 := Lib.hid (And.intro h2 h3); have HO5 := Lib.hid h4; have HX5 := Lib.hid h6; have HZ5 := Lib.hid h7; clear h1 h2 h3 h4 h6 h7)
 refine bodyPost_ret (results_tmp4O rfl _ _ _) rfl ?_
 have h9 := HSZ.out
 exact ⟨L, c5, J, rfl, HP.out, HC5.out.1, HC5.out.2, HO5.out.less (by simp; omega), KX.old HK4.out HX5.out h9, zs5, o5, HZ5.out.1, HZ5.out.2.1, HZ5.out.2.2.1, by have h8 := HZ5.out.2.2.2; have h7 := HO4.out.2; have h6 := HXL.out; omega⟩
end
def chN (Z n : Nat) : Nat := (n + Z - 1) / Z
theorem chN_iff {Z n : Nat} (hZ : 1 ≤ Z) (k : Nat) : Z * k < n ↔ k < chN Z n := by
 unfold chN
 rw [Nat.lt_div_iff_mul_lt (by omega), Nat.mul_comm]
 omega
theorem runT_rn (k : Nat) : runT (rn dgI k) = true := by
 unfold runT
 rw [rn_list]; simp [Lib.hasPrefix]
theorem RS.start {TT : Nat} {parts : Int} {xs : List Fil} (hr : Rises xs) : RS TT dgI parts (xs.filter fun x => !runT x.name).length (sumN (xs.filter fun x => !runT x.name)) (xs.filter fun x => !runT x.name) [] 0 := by
 refine ⟨hr.sub List.filter_sublist, fun p hp => (nomatch hp), List.Pairwise.nil, fun p hp => (nomatch hp), fun i _ hi x hx => fun e => ?_, rfl, rfl, fun p hp => (nomatch hp), Nat.zero_le _⟩
 have h1 := (List.mem_filter.1 hx).2
 rw [ck_eq e, runT_rn] at h1
 cases h1
def EvS (w : World) (A : Option Addr) (n c : Nat) (l : List Ev) : Prop := (A = none ∧ n = 0 ∧ c = 0 ∧ l = []) ∨ ∃ gl ol, A = some ⟨gl, ol, none⟩ ∧ EvR w gl ol l ∧ n = l.length ∧ 0 < n ∧ n ≤ c ∧ c ≤ maxLen
theorem EvS.kf {w w' : World} {A : Option Addr} {n c : Nat} {l : List Ev} (h : EvS w A n c l) (hk : KF w w') : EvS w' A n c l := by
 rcases h with h | ⟨gl, ol, h1, h2, h3⟩
 ·exact .inl h
 ·exact .inr ⟨gl, ol, h1, h2.kf hk, h3⟩
theorem EvS.at {w : World} {A : Option Addr} {n c : Nat} {l : List Ev} (h : EvS w A n c l) : EvAt w A l ∧ n = l.length ∧ n ≤ c ∧ c ≤ maxLen := by
 rcases h with ⟨rfl, rfl, rfl, rfl⟩ | ⟨gl, ol, rfl, h2, h3, h4, h5⟩
 ·exact ⟨fun j v hv => by simp [evs] at hv, rfl, Nat.le_refl _, Nat.zero_le _⟩
 ·exact ⟨h2.at, h3, h5⟩
theorem EvS.of_own {w : World} {B n c : Nat} {A : Option Addr} {l : List Ev} (h : OwnE w B A n c l) (h0 : 0 < n) : EvS w A n c l := by
 have hcc : n ≤ c ∧ c ≤ maxLen := by
  obtain ⟨A', c', e, h1, h2, -⟩ := ro_slice h
  injection e with e1 e2 e3; subst e3; exact ⟨h1, h2⟩
 have hn : n = l.length := by have := h.1; rw [evs_length] at this; omega
 rcases h.2 with ⟨h1, h2⟩ | ⟨g, cap', cur, h1, hb, hrow, hn', hm, hs, ht⟩
 ·omega
 ·injection h1 with h1 _ _
  refine .inr ⟨g, 0, h1, ⟨cur, _, _, hrow, not_st (by decide) (by decide) (by decide), fun j v hv => ?_⟩, hn, h0, hcc⟩
  have hjl := (List.getElem?_eq_some_iff.1 hv).1
  have hev : (evs l).length = n * 5 := by rw [evs_length]; omega
  have e : (cur.toList.take (n * 5))[j]? = (evs l)[j]? := by rw [ht]
  rw [List.getElem?_take, if_pos (by omega)] at e
  rw [Nat.zero_add, ← Array.getElem?_toList, e]; exact hv
def PassZ (Z n N J : Nat) : Prop := (n = 0 ∧ J = 0) ∨ (0 < n ∧ PassN Z N J)
section
variable {W : Bs} {g : Nat} {room ops : Int} {xs : List Fil}
theorem sortS_any (TT : Nat) (A : Option Addr) (n c : Nat) (l : List Ev) (parts : Int) (Zh Z : Nat) (hp : 1 ≤ parts ∧ parts ≤ 8) (hZh : 1 ≤ Zh ∧ Zh ≤ 4096) (hZ : 2 ≤ Z ∧ Z ≤ 16) (hfin : ∀ x ∈ l, FineE x) (hall : ∀ x ∈ l, formB x parts = true) (hbig : l.length ≤ 320 ∧ chN Zh l.length * min Zh l.length ≤ min TT 320)
  (hr : Rises xs) (hf : ∀ x ∈ xs, x.name.size ≤ 2000 ∧ formK x.name = true) (hx : xs.length ≤ 90) (w : World) (hs : SA W g room false 0 ops xs w) (h : 0 ≤ ops ∧ ops < 500000000) (HE : EvS w A n c l) (HT : TabsAt W.b) (hg : W.b.heap.size ≤ g) (hroom : room ≤ 16777216)
  (hfit : ((sumN (xs.filter fun x => !runT x.name) + 700 * TT : Nat) : Int) ≤ room) :
  Calls Tryz.prog 13 #[.pointer (some ⟨g, 0, none⟩), .slice A n c, .int .i64 parts, .agg #[.int .i64 (Zh : Int), .int .i64 (Z : Int)]] w (SortR W.b g room (xs.filter fun x => !runT x.name).length n (chN Zh n) ((isort ltM l).map canE) (PassZ Z n (chN Zh n)) ops w) := by
 have hn := HE.at.2.1
 have hfl : (xs.filter fun x => !runT x.name).length ≤ xs.length := List.length_filter_le _ _
 have hbs : W.b.heap.size ≤ w.heap.size := hs.below.gb.size
 refine sortW_any A n c l parts Zh Z (chN Zh n) _ _ _ (Lib.hid hn) (by omega) (Lib.hid hp) (by unfold planB; simp; omega) (Lib.hid hall) hr hf (by omega) w hs ⟨h.1, by omega⟩ (Lib.hid fun w' hk => (HE.kf hk).at.1) (Lib.hid fun w4 b o4 hb hb4 hk hR hs4 ho => ?_)
 rcases HE with ⟨rfl, rfl, rfl, rfl⟩ | ⟨gl, ol, rfl, hE, -, h0, hnc, hcm⟩
 ·have hc0 : chN Zh 0 = 0 := by unfold chN; exact Nat.div_eq_of_lt (by omega)
  rw [hc0]
  refine (sortM_none b Zh Z _ hZh w4 hR hs4 ⟨ho.1, by omega⟩ rfl).mono ?_
  rintro e w5 ⟨L, c5, J, rfl, hJ, h1, h2, h3, h4⟩
  exact ⟨L, c5, J, rfl, .inl ⟨rfl, hJ⟩, h1, h2, h3, h4⟩
 ·have hgl : gl < w.heap.size := by obtain ⟨cur, t, fr, h1, -⟩ := hE; exact (Array.getElem?_eq_some_iff.1 h1).1
  have hG : BegG TT dgI W.b w4 g room b gl (xs.filter fun x => !runT x.name).length (sumN (xs.filter fun x => !runT x.name)) Zh parts l (chN Zh n) o4 w4.heap.size :=
   ⟨namerI, ⟨by omega, Nat.le_refl _, by omega, hb4, by omega, by omega⟩, hZh, fun k => by rw [hn]; exact chN_iff hZh.1 k, by omega, by rw [hn]; exact hbig, hfin, hall, ⟨ho.1, by omega⟩, HT, hg, by omega, hroom, hfit⟩
  refine (sortM_some (W := ⟨W.b, w4⟩) hG hZ (RS.start hr) hs4 hR (hE.kf hk) hn hnc hcm).mono ?_
  rintro e w5 ⟨L, c5, J, rfl, hJ, h1, h2, h3, h4⟩
  exact ⟨L, c5, J, rfl, .inr ⟨h0, hJ⟩, h1, h2, h3, h4⟩
end
def awE (i : Nat) : Ev := ⟨0, 0, -(i : Int), { data := #[] }, 0⟩
def awL (k : Nat) : List Ev := (List.range k).map awE
theorem awL_succ (k : Nat) : awL (k + 1) = awL k ++ [awE k] := by unfold awL; rw [List.range_succ, List.map_append]; rfl
theorem aw_pass {J : Nat} (h : PassZ 2 10 (chN 2 10) J) : J = 3 := by
 rcases h with ⟨h, -⟩ | ⟨-, h1, h2⟩
 ·omega
 ·have e0 : itN 2 (chN 2 10) 0 = 5 := by decide
  have e1 : itN 2 (chN 2 10) 1 = 3 := by decide
  have e2 : itN 2 (chN 2 10) 2 = 2 := by decide
  have e3 : itN 2 (chN 2 10) 3 = 1 := by decide
  rcases Nat.lt_or_ge J 3 with hJ | hJ
  ·rcases J with _ | _ | _ | J
   ·rw [e0] at h1; omega
   ·rw [e1] at h1; omega
   ·rw [e2] at h1; omega
   ·omega
  ·rcases Nat.lt_or_ge 3 J with hJ2 | hJ2
   ·have := h2 3 hJ2; rw [e3] at this; omega
   ·omega
theorem aw_out : ((isort ltM (awL 10)).map canE)[0]? = some ⟨0, 0, -9, { data := #[] }, 0⟩ := by kernel_rfl
theorem aw_fine : ∀ x ∈ awL 10, FineE x ∧ formB x 1 = true := fun x hx => by
 obtain ⟨i, hi, rfl⟩ := List.mem_map.1 hx
 have h := List.mem_range.1 hi
 have hk : ({ data := #[] } : ByteArray).size = 0 := rfl
 refine ⟨⟨by unfold awE; dsimp only; omega, by unfold awE; dsimp only; omega, by unfold awE; dsimp only; omega, by unfold awE; dsimp only; omega, by unfold awE; dsimp only; omega⟩, ?_⟩
 unfold formB awE
 simp [hk]; omega
set_option maxHeartbeats 8000000 in
theorem awakeO_any (w : World) (HT : TabsAt w) : Calls Tryz.prog 9 #[] w fun e w' => e = .returned (.bool true) ∧ Below w.heap.size w w' := by
 have HTT := Lib.hid HT
 clear HT
 go_enter Tryz.func9, Tryz.ntmps9
 go_wp2_with (go_at_call 11; (with_reducible refine (new_anyF 65536 (by decide) w).mono ?_); rintro e w1 ⟨g, rfl, h1, h2⟩; have HG := Lib.hid h1; have HS0 := Lib.hid h2; clear h1 h2)
 go_loopw [3, 4] (fun u v wr => ∃ (k : Nat) (A : Option Addr) (cap : Nat), k ≤ 10 ∧ v = .int .i64 (k : Int) ∧ u = .slice A k cap ∧ Hid (OwnE wr w1.heap.size A k cap (awL k)) ∧ Hid (Below w1.heap.size w1 wr)) (fun _ v _ => 10 - (intOf v).toNat)
 case atStart => exact ⟨0, none, 0, by omega, rfl, rfl, Lib.hid (World.ownsRow_nil _ _ _ 5), Lib.hid (Below.refl _ _)⟩
 case round =>
  obtain ⟨k, A, cap, hk, rfl, rfl, HO, HB⟩ := hrel
  by_cases hlt : k < 10
  ·have hlti : (k : Int) < 10 := by omega
   have hneg : IntKind.i64.wrap (-(k : Int)) = -(k : Int) := by rw [IntKind.wrap_i64]; omega
   have hal := (Below.refl wr.heap.size wr).alloc (Nat.le_refl _) (.cells #[.int .u64 0, .int .i64 0, .int .i64 (-(k : Int)), .string { data := #[] }, .float .f64 0] 51)
   have HAL := Lib.hid hal
   have HO1 : Hid (OwnE (wr.alloc (.cells #[.int .u64 0, .int .i64 0, .int .i64 (-(k : Int)), .string { data := #[] }, .float .f64 0] 51)) w1.heap.size A k cap (awL k)) := Lib.hid (HO.out.keptE (S := fun _ => False) (Kept.of_below hal) (fun k hk => hk.elim))
   have HE1 : Hid (EvAt (wr.alloc (.cells #[.int .u64 0, .int .i64 0, .int .i64 (-(k : Int)), .string { data := #[] }, .float .f64 0] 51)) (some ⟨wr.heap.size, 0, none⟩) [awE k]) := Lib.hid fun j v hv => ⟨wr.heap.size, 0, rfl, by simp, by
    rw [cell_of_row _ _ _ _ _ _ (heap_alloc_new' wr _), Nat.zero_add]
    simpa [evs, Ev.cells, awE] using hv⟩
   clear hal
   go_wp2_with (refine wpList_append_ev rfl (.tmp 17) (.tmp 21) rfl w1.heap.size A k cap (awL k) rfl HO1.out (some ⟨wr.heap.size, 0, none⟩) 1 1 [awE k] rfl rfl HE1.out (fun h => by cases h) (k + 1) rfl (by omega) (Nat.le_trans HB.out.size HAL.out.size) ?_; intro A2 c2 w2 h1 h2 h3 h4 h5; have HO2 := Lib.hid h1; have HB2 := Lib.hid h5; clear h1 h2 h3 h4 h5)
   go_roundw
   case rel => exact ⟨k + 1, A2, c2, by omega, by go_num, rfl, Lib.hid (by rw [awL_succ]; exact HO2.out), Lib.hid ((HB.out.trans (HAL.out.mono HB.out.size)).trans HB2.out)⟩
   case measure => simp [intOf]; omega
  ·have hk10 : k = 10 := by omega
   subst hk10
   have hsa : SA (Bs.of w) g 65536 false 0 0 [] wr := SA.next (.inl ⟨rfl, HS0.out⟩) HB.out
   have hbw : w.heap.size ≤ wr.heap.size := hsa.below.gb.size
   have hso := sortS_any (W := Bs.of w) (g := g) (room := 65536) (ops := 0) (xs := []) 20 A 10 cap (awL 10) 1 2 2 (by decide) (by decide) (by decide) (fun x hx => (aw_fine x hx).1) (fun x hx => (aw_fine x hx).2) (by decide) (fun j k x y _ hx => by simp at hx) (fun x hx => nomatch hx) (by decide) wr hsa (by decide) (EvS.of_own HO.out (by decide)) HTT.out HG.out (by decide) (by decide)
   have HSO : Hid (Calls Tryz.prog 13 #[.pointer (some ⟨g, 0, none⟩), .slice A 10 cap, .int .i64 1, .agg #[.int .i64 2, .int .i64 2]] wr fun e w' => ∃ q c, e = .returned (.tuple #[.slice (some ⟨q, 0, none⟩) 10 c, .int .i64 5, .int .i64 3, .int .i64 0]) ∧ w'.cell? ⟨q, 2, none⟩ = some (.int .i64 (-9)) ∧ Below w.heap.size w w') := Lib.hid (hso.mono fun e w' h => by
    obtain ⟨L, c, J, rfl, hP, h1, h2, h3, h4, zs, o, h5, h6⟩ := h
    obtain rfl := aw_pass hP
    obtain ⟨q, rfl⟩ := ownE_some h3 (by decide) h1
    refine ⟨q, c, rfl, ?_, gb_new h5.below HG.out⟩
    obtain ⟨g', off', e', -, hr⟩ := evr h3.at' 0 _ aw_out
    injection e' with e'; injection e' with b1 b2 _
    subst b1; subst b2
    exact hr 2 _ rfl)
   clear hso hsa hlt hk
   go_wp2_with (go_at_call 13; (with_reducible refine HSO.out.mono ?_); rintro e w4 ⟨q, c4, rfl, h1, h2⟩; have HB4 := Lib.hid h2; clear h2)
   go_ret
   exact ⟨rfl, HB4.out⟩
theorem fine_of_form {x : Ev} (h : formB x 8 = true) (hv : x.val < 18446744073709551616) : FineE x := by
 unfold formB at h
 simp only [Bool.and_eq_true, decide_eq_true_eq] at h
 obtain ⟨⟨⟨⟨⟨h1, h2⟩, h3⟩, h4⟩, h5⟩, h6⟩ := h
 exact ⟨h6, ⟨h1, h2⟩, ⟨h3, h4⟩, h5, hv⟩
theorem sa_new {B w w' : World} {g : Nat} {room : Int} (h : S0 (Bs.of B) g room false 0 0 w) (hb : Below w.heap.size w w') : SA (Bs.of B) g room false 0 0 [] w' := SA.next (.inl ⟨rfl, h⟩) hb
theorem app_at {xs ys : List Fil} {t : ByteArray} {m : List Nat} (hno : ∀ x ∈ xs, cmpKF x.name t ≠ 0) (h : AppRel xs t m ys) : ∃ lo A c, ys = xs.take lo ++ ⟨t, A, c, m, 0⟩ :: xs.drop lo := by
 rcases h with ⟨lo, x, A', cap', hT, rfl⟩ | ⟨lo, A', cap', hp, hn, rfl⟩
 ·exact absurd hT.eq (hno x (List.mem_of_getElem? hT.get))
 ·exact ⟨lo, A', cap', rfl⟩
theorem app_filter {xs ys : List Fil} {t : ByteArray} {m : List Nat} (hno : ∀ x ∈ xs, cmpKF x.name t ≠ 0) (h : AppRel xs t m ys) :
  (ys.filter fun x => !runT x.name).length = (xs.filter fun x => !runT x.name).length + (if runT t = true then 0 else 1) ∧ sumN (ys.filter fun x => !runT x.name) = sumN (xs.filter fun x => !runT x.name) + (if runT t = true then 0 else m.length) ∧ ys.length = xs.length + 1 ∧ ∀ y ∈ ys, y.name = t ∨ y ∈ xs := by
 obtain ⟨lo, A, c, rfl⟩ := app_at hno h
 have e1 : (xs.filter fun x => !runT x.name) = ((xs.take lo).filter fun x => !runT x.name) ++ ((xs.drop lo).filter fun x => !runT x.name) := by
  rw [← List.filter_append, List.take_append_drop]
 have e2 : xs.length = (xs.take lo).length + (xs.drop lo).length := by rw [← List.length_append, List.take_append_drop]
 refine ⟨?_, ?_, ?_, fun y hy => ?_⟩
 ·rw [e1, List.filter_append, List.filter_cons]
  by_cases hr : runT t = true
  ·rw [if_pos hr]; simp [hr]
  ·rw [if_neg hr]; simp [hr]; omega
 ·rw [e1, List.filter_append, List.filter_cons, sumN_append, sumN_append]
  by_cases hr : runT t = true
  ·rw [if_pos hr]; simp [hr]
  ·rw [if_neg hr]; simp [hr, sumN]; omega
 ·rw [List.length_append, List.length_cons]; omega
 ·rcases List.mem_append.1 hy with h | h
  ·exact .inr (List.mem_of_mem_take h)
  ·rcases List.mem_cons.1 h with rfl | h
   ·exact .inl rfl
   ·exact .inr (List.mem_of_mem_drop h)
section
variable {W : Bs} {g : Nat} {room armed ops : Int} {off : Bool} {xs : List Fil} {w w' : World}
theorem append_B {t : ByteArray} (hts : t.size ≤ 281474976710656) (hform : formK t = true) (hr : Rises xs) (hn : xs.length < 500) (w : World) (hs : SA W g room false 0 ops xs w) (h : 0 ≤ ops ∧ ops < 1000000000)
  (p : Option Addr) (n c : Nat) (m : List Nat) (hm : n = m.length) (hp : ByAt w p m) (hq : ∀ q, p.map (·.block) = some q → ∃ cs fr, w.heap[q]? = some (.cells cs 5 fr)) (hroom : room ≤ 16777216) (hfit : (n : Int) ≤ room - (sumN xs : Nat)) (hr0 : 0 ≤ room) :
  Calls Tryz.prog 12 #[.pointer (some ⟨g, 0, none⟩), .string t, .slice p n c] w fun z w' => z = .returned (.int .i64 0) ∧ KF w w' ∧ ∃ ys, AppRel xs t m ys ∧ SA W g room false 0 (ops + 1) ys w' := by
 refine (append_A (e := 0) (armed' := 0) (off' := false) hts hform hr hn w (Lib.hid hs.now) (Lib.hid ⟨.inl ⟨rfl, rfl, rfl, rfl⟩⟩) (Lib.hid h) (Lib.hid (by omega)) p n c m (Lib.hid hm) (Lib.hid hp) (Lib.hid fun f n1 c1 hc k x hk hA => ?_) hroom hfit hr0).mono ?_
 ·obtain ⟨cs, fr, hrow⟩ := hq f hA
  rcases hs with ⟨-, h⟩ | ⟨f', fcap, r, h⟩
  ·rw [h.g1] at hc; cases hc
  ·rw [h.g1] at hc
   injection hc with hc; injection hc with e1 e2 e3
   injection e1 with e1; injection e1 with e1 _ _
   subst e1
   have h2 := hrow.symm.trans h.fl
   injection h2 with h2; injection h2 with _ h2 _
   exact absurd h2 (by decide)
 ·rintro z w' ⟨rfl, ys, h1, h2⟩
  have hk : KF w w' := h2.kf
  exact ⟨rfl, hk, ys, h1, h2.seen W.v (hs.kf.trans hk)⟩
end
set_option maxHeartbeats 4000000 in
theorem refuses_arg (a : Option Addr) (n c : Nat) (parts hold fan : Int) (B : Bool) (hB : planB hold fan = B) (hbad : B = false ∨ parts < 1 ∨ 8 < parts) (W : World) :
  Calls Tryz.prog 29 #[.slice a n c, .int .i64 parts, .agg #[.int .i64 hold, .int .i64 fan]] W fun e w' => e = .returned (.int .i64 1) ∧ Below W.heap.size W w' := by
 have HPF : Hid (∀ w, Calls Tryz.prog 21 #[.agg #[.int .i64 hold, .int .i64 fan]] w fun e w' => e = .returned (.bool B) ∧ Below w.heap.size w w') := Lib.hid fun w => by have h := planForm_any hold fan w; rwa [hB] at h
 clear hB
 rcases B with _ | _
 ·go_enter Tryz.func29, Tryz.ntmps29
  go_wp2_with (go_at_call 21; (with_reducible refine (HPF.out _).mono ?_); rintro e w2 ⟨rfl, h1⟩; have HB2 := Lib.hid (((Below.refl _ W).alloc (Nat.le_refl _) (.cells #[.int .i64 hold, .int .i64 fan] 26)).trans (h1.mono (by simp))); clear h1)
  go_ret
  exact ⟨rfl, HB2.out⟩
 ·have hb2 : parts < 1 ∨ 8 < parts := hbad.resolve_left (by decide)
  clear hbad
  by_cases h1 : parts < 1
  ·go_enter Tryz.func29, Tryz.ntmps29
   go_wp2_with (go_at_call 21; (with_reducible refine (HPF.out _).mono ?_); rintro e w2 ⟨rfl, h1⟩; have HB2 := Lib.hid (((Below.refl _ W).alloc (Nat.le_refl _) (.cells #[.int .i64 hold, .int .i64 fan] 26)).trans (h1.mono (by simp))); clear h1)
   go_ret
   exact ⟨rfl, HB2.out⟩
  ·have h8 : 8 < parts := hb2.resolve_left h1
   clear hb2
   go_enter Tryz.func29, Tryz.ntmps29
   go_wp2_with (go_at_call 21; (with_reducible refine (HPF.out _).mono ?_); rintro e w2 ⟨rfl, h1⟩; have HB2 := Lib.hid (((Below.refl _ W).alloc (Nat.le_refl _) (.cells #[.int .i64 hold, .int .i64 fan] 26)).trans (h1.mono (by simp))); clear h1)
   go_ret
   exact ⟨rfl, HB2.out⟩
set_option maxHeartbeats 4000000 in
theorem refuses_form (a : Option Addr) (c : Nat) (x : Ev) (parts hold fan : Int) (hp : Hid (1 ≤ parts ∧ parts ≤ 8)) (hpl : planB hold fan = true) (hbad : formB x parts = false) (W : World) (HE : Hid (EvAt W a [x])) :
  Calls Tryz.prog 29 #[.slice a 1 c, .int .i64 parts, .agg #[.int .i64 hold, .int .i64 fan]] W fun e w' => e = .returned (.int .i64 3) ∧ Below W.heap.size W w' := by
 have hp1 : ¬ parts < 1 := by have := hp.out; omega
 have hp8 : ¬ 8 < parts := by have := hp.out; omega
 have HPF : Hid (∀ w, Calls Tryz.prog 21 #[.agg #[.int .i64 hold, .int .i64 fan]] w fun e w' => e = .returned (.bool true) ∧ Below w.heap.size w w') := Lib.hid fun w => by have h := planForm_any hold fan w; rwa [hpl] at h
 have HFB := Lib.hid hbad
 clear hpl hbad
 go_enter Tryz.func29, Tryz.ntmps29
 go_wp2_with (go_at_call 21; (with_reducible refine (HPF.out _).mono ?_); rintro e w2 ⟨rfl, h1⟩; have HB2 := Lib.hid (((Below.refl _ W).alloc (Nat.le_refl _) (.cells #[.int .i64 hold, .int .i64 fan] 26)).trans (h1.mono (by simp))); clear h1)
 refine wp_loop_rounds 1 ?_
 rw [rounds_succ]
 obtain ⟨gq, off, rfl, hg, hr⟩ := evr (HE.out.keep HB2.out) 0 x rfl
 rw [Nat.zero_mul, Nat.add_zero] at hr
 have HX := Lib.hid hr
 have HR0 : Hid ((w2.alloc (.cells #[.int .u64 (x.off : Int), .int .i64 x.part, .int .i64 x.time, .string x.key, .float .f64 x.val] 51)).heap[w2.heap.size]? = some (.cells #[.int .u64 (x.off : Int), .int .i64 x.part, .int .i64 x.time, .string x.key, .float .f64 x.val] 51 (0, 0))) := Lib.hid (heap_alloc_new' w2 _)
 have HB0 : Hid (Below W.heap.size W (w2.alloc (.cells #[.int .u64 (x.off : Int), .int .i64 x.part, .int .i64 x.time, .string x.key, .float .f64 x.val] 51))) := Lib.hid (HB2.out.alloc HB2.out.size _)
 clear hr hg
 go_wp2_with (first
  | (refine wpList_load_mid rfl 51 (.tmp 24) rfl gq off rfl [.int .u64 (x.off : Int), .int .i64 x.part, .int .i64 x.time, .string x.key, .float .f64 x.val] _ HX.out uEvent rfl (iEvent x) ?_)
  | (refine wpList_store_row rfl 51 (.tmp 8) (.tmp 25) rfl w2.heap.size #[.int .u64 (x.off : Int), .int .i64 x.part, .int .i64 x.time, .string x.key, .float .f64 x.val] rfl rfl _ _ (heap_alloc_new' _ _) (iEvA x) (sizeEvB x) (oneEvA x) ?_; rw [World.setRow_alloc_new])
  | (refine wpList_load_row rfl 51 (.tmp 8) rfl w2.heap.size rfl _ #[.int .u64 (x.off : Int), .int .i64 x.part, .int .i64 x.time, .string x.key, .float .f64 x.val] (0, 0) _ HR0.out uEvent rfl (iEvA x) ?_)
  | (go_at_call 44; (with_reducible refine (form_any x parts _).mono ?_); rintro e w4 ⟨rfl, hb⟩; rw [HFB.out]; have HB4 := Lib.hid (below_to HB0.out hb); clear hb))
 go_ret
 exact ⟨rfl, HB4.out⟩
set_option maxHeartbeats 4000000 in
theorem sort_nil (a : Option Addr) (n c : Nat) (parts hold fan : Int) (w : World) :
  Calls Tryz.prog 13 #[.pointer none, .slice a n c, .int .i64 parts, .agg #[.int .i64 hold, .int .i64 fan]] w fun e w' => e = .returned (.tuple #[.slice none 0 0, .int .i64 0, .int .i64 0, .int .i64 5]) ∧ Below w.heap.size w w' := by
 go_enter Tryz.func13, Tryz.ntmps13
 go_wp2
 exact bodyPost_ret (results_tmp4O rfl _ _ _) rfl ⟨rfl, (Below.refl _ _).alloc (Nat.le_refl _) _⟩
theorem clean_nil (w : World) : Calls Tryz.prog 23 #[.pointer none] w fun e w' => e = .returned (.int .i64 5) ∧ w' = w := by
 go_enter Tryz.func23, Tryz.ntmps23
 go_wp2
 go_ret
 exact ⟨rfl, rfl⟩
section
variable {W : Bs} {g : Nat} {room ops : Int}
set_option maxHeartbeats 4000000 in
theorem sort_refused (a : Option Addr) (n c : Nat) (parts hold fan q : Int) (hq : q = 1 ∨ q = 3) (w : World) (hs : SA W g room false 0 ops [] w) (HRF : Hid (∀ w', Below w.heap.size w w' → Calls Tryz.prog 29 #[.slice a n c, .int .i64 parts, .agg #[.int .i64 hold, .int .i64 fan]] w' fun e w2 => e = .returned (.int .i64 q) ∧ Below w'.heap.size w' w2)) :
  Calls Tryz.prog 13 #[.pointer (some ⟨g, 0, none⟩), .slice a n c, .int .i64 parts, .agg #[.int .i64 hold, .int .i64 fan]] w fun e w' => e = .returned (.tuple #[.slice none 0 0, .int .i64 0, .int .i64 0, .int .i64 q]) ∧ Below w.heap.size w w' := by
 have hb1 := (Below.refl w.heap.size w).alloc (Nat.le_refl _) (.cells #[.int .i64 hold, .int .i64 fan] 26)
 have HB1 := Lib.hid hb1
 have HCL := Lib.hid (clean_none _ (hs.next hb1))
 have hq0 : ¬ q = 0 := by omega
 obtain ⟨pb, hpb⟩ : ∃ pb, pb = w.heap.size := ⟨_, rfl⟩
 have HPB := Lib.hid hpb
 have HRP : Hid ((w.alloc (.cells #[.int .i64 hold, .int .i64 fan] 26)).heap[pb]? = some (.cells #[.int .i64 hold, .int .i64 fan] 26 (0, 0))) := Lib.hid (by rw [hpb]; exact heap_alloc_new' _ _)
 clear hb1 hpb hs hq
 go_enter Tryz.func13, Tryz.ntmps13
 go_upto_region 4 with (go_at_call 23; (with_reducible refine HCL.out.mono ?_); rintro e w2 ⟨rfl, h1⟩; have HB2 := Lib.hid h1; clear h1)
 have hrp2 := row_kept HRP.out HB2.out
 have cp0 : w2.cell? ⟨pb, 0, none⟩ = some (.int .i64 hold) := by rw [cell_of_row _ _ _ _ _ _ hrp2]; rfl
 have cp1 : w2.cell? ⟨pb, 1, none⟩ = some (.int .i64 fan) := by rw [cell_of_row _ _ _ _ _ _ hrp2]; rfl
 have HR2 := Lib.hid (HRF.out w2 (below_to HB1.out HB2.out))
 rw [← HPB.out]
 clear hrp2
 go_wp2_with (go_at_call 29; (with_reducible refine HR2.out.mono ?_); rintro e w3 ⟨rfl, h1⟩; have HB3 := Lib.hid h1; clear h1)
 exact bodyPost_ret (results_tmp4O rfl _ _ _) rfl ⟨rfl, below_to (below_to HB1.out HB2.out) HB3.out⟩
theorem form_more {x : Ev} {parts : Int} (h : formB x parts = true) (h8 : parts ≤ 8) : formB x 8 = true := by
 unfold formB at h ⊢
 simp only [Bool.and_eq_true, decide_eq_true_eq] at h ⊢
 obtain ⟨⟨⟨⟨⟨h1, h2⟩, h3⟩, h4⟩, h5⟩, h6⟩ := h
 exact ⟨⟨⟨⟨⟨h1, by omega⟩, h3⟩, h4⟩, h5⟩, h6⟩
theorem sort_single (A : Option Addr) (x : Ev) (hv : x.val < 18446744073709551616) (parts hold fan : Int) (B : Bool) (hB : B = planB hold fan) (w : World) (hs : SA W g room false 0 0 [] w) (HE : EvS w A 1 1 [x]) (HT : TabsAt W.b) (hg : W.b.heap.size ≤ g) (hroom : 224000 ≤ room ∧ room ≤ 16777216) :
  Calls Tryz.prog 13 #[.pointer (some ⟨g, 0, none⟩), .slice A 1 1, .int .i64 parts, .agg #[.int .i64 hold, .int .i64 fan]] w fun e w' => ∃ (L : Option Addr) (n c : Nat) (N J q : Int), e = .returned (.tuple #[.slice L n c, .int .i64 N, .int .i64 J, .int .i64 q]) ∧ ((B = false ∨ parts < 1 ∨ 8 < parts) → q = 1) ∧ (B = true → 1 ≤ parts → parts ≤ 8 → formB x parts = false → q = 3) ∧ (B = true → 1 ≤ parts → parts ≤ 8 → formB x parts = true → q = 0 ∧ n = 1 ∧ N = 1 ∧ J = 0) ∧ KF w w' ∧ ∃ o, SA ⟨W.b, w'⟩ g room false 0 o [] w' ∧ (0 ≤ o ∧ o ≤ 3000000) := by
 by_cases hbad : B = false ∨ parts < 1 ∨ 8 < parts
 ·refine (sort_refused A 1 1 parts hold fan 1 (.inl rfl) w hs (Lib.hid fun w' _ => refuses_arg A 1 1 parts hold fan B hB.symm hbad w')).mono ?_
  rintro e w' ⟨rfl, hb⟩
  have no : B = true → 1 ≤ parts → parts ≤ 8 → False := fun h1 h2 h3 => by
   rcases hbad with h | h | h
   ·rw [h1] at h; cases h
   ·omega
   ·omega
  exact ⟨none, 0, 0, 0, 0, 1, rfl, fun _ => rfl, fun h1 h2 h3 => (no h1 h2 h3).elim, fun h1 h2 h3 => (no h1 h2 h3).elim, KF.of_below hb, 0, (hs.next hb).now, by decide, by decide⟩
 ·have hB1 : B = true := by rcases B with _ | _ <;> simp_all
  have hp1 : 1 ≤ parts := by rcases Int.lt_or_le parts 1 with h | h; exact absurd (.inr (.inl h)) hbad; exact h
  have hp8 : parts ≤ 8 := by rcases Int.lt_or_le 8 parts with h | h; exact absurd (.inr (.inr h)) hbad; exact h
  have hpl : planB hold fan = true := by rw [← hB]; exact hB1
  rcases hf : formB x parts with _ | _
  ·refine (sort_refused A 1 1 parts hold fan 3 (.inr rfl) w hs (Lib.hid fun w' hb => refuses_form A 1 x parts hold fan (Lib.hid ⟨hp1, hp8⟩) hpl hf w' (Lib.hid (HE.at.1.keep hb)))).mono ?_
   rintro e w' ⟨rfl, hb⟩
   exact ⟨none, 0, 0, 0, 0, 3, rfl, fun h => absurd h hbad, fun _ _ _ _ => rfl, fun _ _ _ h => (by cases h), KF.of_below hb, 0, (hs.next hb).now, by decide, by decide⟩
  ·have hpl2 := hpl
   unfold planB at hpl2
   simp only [Bool.and_eq_true, decide_eq_true_eq] at hpl2
   obtain ⟨⟨⟨g1, g2⟩, g3⟩, g4⟩ := hpl2
   clear hB hpl
   obtain ⟨Zh, rfl⟩ : ∃ n : Nat, hold = (n : Int) := ⟨hold.toNat, by omega⟩
   obtain ⟨Z, rfl⟩ : ∃ n : Nat, fan = (n : Int) := ⟨fan.toNat, by omega⟩
   have hc1 : chN Zh 1 = 1 := by unfold chN; rw [Nat.add_sub_cancel_left]; exact Nat.div_self (by omega)
   refine (sortS_any (xs := []) 320 A 1 1 [x] parts Zh Z ⟨hp1, hp8⟩ ⟨by omega, by omega⟩ ⟨by omega, by omega⟩ (fun y hy => by rw [List.mem_singleton.1 hy]; exact fine_of_form (form_more hf hp8) hv) (fun y hy => by rw [List.mem_singleton.1 hy]; exact hf) ⟨by show 1 ≤ 320; decide, by show chN Zh 1 * min Zh 1 ≤ _; rw [hc1]; omega⟩ (fun j k x y _ hx => by simp at hx) (fun x hx => nomatch hx) (Nat.zero_le _) w hs (by decide) HE HT hg hroom.2 (by show ((0 + 700 * 320 : Nat) : Int) ≤ room; omega)).mono ?_
   rintro e w' ⟨L, c2, J, rfl, hP, h1, h2, h3, h4, zs, o, h5, h6, h7⟩
   obtain rfl : zs = [] := List.eq_nil_of_length_eq_zero h6
   rw [hc1] at hP ⊢
   have hJ : J = 0 := by
    rcases hP with ⟨h, -⟩ | ⟨-, -, h9⟩
    ·cases h
    ·rcases J with _ | J
     ·rfl
     ·exact absurd (h9 0 (by omega)) (by show ¬ 2 ≤ 1; decide)
   subst hJ
   exact ⟨L, 1, c2, _, _, 0, rfl, fun h => absurd h hbad, fun _ _ _ h => by (cases h), fun _ _ _ _ => ⟨rfl, rfl, rfl, rfl⟩, h4, o, h5, h7.1, by omega⟩
end
set_option maxHeartbeats 8000000 in
theorem sorterErrs_any (hold fan : Int) (bh : -9223372036854775808 ≤ hold ∧ hold ≤ 9223372036854775807) (bf : -9223372036854775808 ≤ fan ∧ fan ≤ 9223372036854775807) (parts : Int) (bp : -9223372036854775808 ≤ parts ∧ parts ≤ 9223372036854775807) (x : Ev) (hv : x.val < 18446744073709551616) (W : World) (HG : Hid (TabsAt W)) :
    Calls Tryz.prog 7 #[.agg #[.int .i64 hold, .int .i64 fan], .int .i64 parts, .agg #[.int .u64 (x.off : Int), .int .i64 x.part, .int .i64 x.time, .string x.key, .float .f64 x.val]] W fun e w' => e = .returned (.bool true) ∧ Below W.heap.size W w' := by
  obtain ⟨wa, hwa⟩ : ∃ wa, wa = (W.alloc (.cells #[.int .i64 hold, .int .i64 fan] 26)).alloc (.cells #[.int .u64 (x.off : Int), .int .i64 x.part, .int .i64 x.time, .string x.key, .float .f64 x.val] 51) := ⟨_, rfl⟩
  have hba : Below W.heap.size W wa := by rw [hwa]; exact ((Below.refl _ W).alloc (Nat.le_refl _) _).alloc (by simp) _
  have hrp : wa.heap[W.heap.size]? = some (.cells #[.int .i64 hold, .int .i64 fan] 26 (0, 0)) := by
    rw [hwa]; exact row_kept (heap_alloc_new' W _) ((Below.refl _ _).alloc (Nat.le_refl _) _)
  have hre : wa.heap[W.heap.size + 1]? = some (.cells #[.int .u64 (x.off : Int), .int .i64 x.part, .int .i64 x.time, .string x.key, .float .f64 x.val] 51 (0, 0)) := by
    rw [hwa]; have h := heap_alloc_new' (W.alloc (.cells #[.int .i64 hold, .int .i64 fan] 26)) (.cells #[.int .u64 (x.off : Int), .int .i64 x.part, .int .i64 x.time, .string x.key, .float .f64 x.val] 51)
    simpa using h
  have HBA := Lib.hid hba; have HRP := Lib.hid hrp; have HRE := Lib.hid hre
  have HWA := Lib.hid hwa
  have HAW := Lib.hid (awakeO_any wa ⟨HG.out.1.keep hba, HG.out.2.keep hba⟩)
  clear hwa hba hrp hre
  go_enter Tryz.func7, Tryz.ntmps7
  go_upto_region 1 with fail
  rw [← HWA.out]
  obtain ⟨pb, hpb⟩ : ∃ pb, pb = W.heap.size := ⟨_, rfl⟩
  have HPB := Lib.hid hpb
  have HRPb : Hid (wa.heap[pb]? = some (.cells #[.int .i64 hold, .int .i64 fan] 26 (0, 0))) := Lib.hid (by rw [hpb]; exact HRP.out)
  have HREb : Hid (wa.heap[pb + 1]? = some (.cells #[.int .u64 (x.off : Int), .int .i64 x.part, .int .i64 x.time, .string x.key, .float .f64 x.val] 51 (0, 0))) := Lib.hid (by rw [hpb]; exact HRE.out)
  rw [← hpb]
  try simp only [← hpb]
  clear hpb
  go_upto_region 3 with (go_at_call 9; (with_reducible refine HAW.out.mono ?_); rintro e w1 ⟨rfl, h1⟩; have HB1 := Lib.hid h1; clear h1)
  have HRP1 := Lib.hid (row_kept HRPb.out HB1.out)
  have HRE1 := Lib.hid (row_kept HREb.out HB1.out)
  have cp0 : w1.cell? ⟨pb, 0, none⟩ = some (.int .i64 hold) := by rw [cell_of_row _ _ _ _ _ _ HRP1.out]; rfl
  have cp1 : w1.cell? ⟨pb, 1, none⟩ = some (.int .i64 fan) := by rw [cell_of_row _ _ _ _ _ _ HRP1.out]; rfl
  obtain ⟨B, hB⟩ : ∃ B, B = planB hold fan := ⟨_, rfl⟩
  have HBB := Lib.hid hB
  clear hB
  go_cut [7] (fun s7 wx => s7 = .bool B ∧ wx = w1)
  case first =>
    have hcase : (¬ 1 ≤ hold) ∨ (1 ≤ hold ∧ ¬ hold ≤ 4096) ∨ (1 ≤ hold ∧ hold ≤ 4096 ∧ ¬ 2 ≤ fan) ∨ (1 ≤ hold ∧ hold ≤ 4096 ∧ 2 ≤ fan ∧ ¬ fan ≤ 16) ∨ (1 ≤ hold ∧ hold ≤ 4096 ∧ 2 ≤ fan ∧ fan ≤ 16) := by omega
    rcases hcase with h1 | ⟨h1, h2⟩ | ⟨h1, h2, h3⟩ | ⟨h1, h2, h3, h4⟩ | ⟨h1, h2, h3, h4⟩
    all_goals
      first
        | (have HQ : Hid (planB hold fan = false) := Lib.hid (by unfold planB; simp; omega)
           go_wp2_with fail
           go_meet
           case rel => exact ⟨by rw [HBB.out, HQ.out], rfl⟩)
        | (have HQ : Hid (planB hold fan = true) := Lib.hid (by unfold planB; simp; omega)
           go_wp2_with fail
           go_meet
           case rel => exact ⟨by rw [HBB.out, HQ.out], rfl⟩)
  case rest =>
    obtain ⟨rfl, hw⟩ := hcut
    have hw := hw.symm
    subst hw
    clear cp0 cp1
    go_upto_region 5 with (go_at_call 11; (with_reducible refine (new_anyF 1048576 (by decide) w1).mono ?_); rintro e w2 ⟨g, rfl, h1, h2⟩; have HGG := Lib.hid h1; have HS2 := Lib.hid h2; clear h1 h2)
    have hs2 := sa_new HS2.out (Below.refl _ _)
    have HRP2 := Lib.hid (hs2.kf.row HRP1.out (not_st (by decide) (by decide) (by decide)))
    have HRE2 := Lib.hid (hs2.kf.row HRE1.out (not_st (by decide) (by decide) (by decide)))
    have cp0 : w2.cell? ⟨pb, 0, none⟩ = some (.int .i64 hold) := by rw [cell_of_row _ _ _ _ _ _ HRP2.out]; rfl
    have cp1 : w2.cell? ⟨pb, 1, none⟩ = some (.int .i64 fan) := by rw [cell_of_row _ _ _ _ _ _ HRP2.out]; rfl
    have HSA2 := Lib.hid hs2
    clear hs2
    go_upto_region 6 with (go_at_call 13; (with_reducible refine (sort_nil none 0 0 parts hold fan w2).mono ?_); rintro e w3 ⟨rfl, h1⟩; have HB3 := Lib.hid h1; clear h1 cp0 cp1)
    have HRP3 := Lib.hid (row_kept HRP2.out HB3.out)
    have HRE3 := Lib.hid (row_kept HRE2.out HB3.out)
    have hal := (Below.refl w3.heap.size w3).alloc (Nat.le_refl _) (.cells #[.int .u64 (x.off : Int), .int .i64 x.part, .int .i64 x.time, .string x.key, .float .f64 x.val] 51)
    have hrow4 := heap_alloc_new' w3 (.cells #[.int .u64 (x.off : Int), .int .i64 x.part, .int .i64 x.time, .string x.key, .float .f64 x.val] 51)
    have HAL := Lib.hid hal
    have dp0 : (w3.alloc (.cells #[.int .u64 (x.off : Int), .int .i64 x.part, .int .i64 x.time, .string x.key, .float .f64 x.val] 51)).cell? ⟨pb, 0, none⟩ = some (.int .i64 hold) := by rw [cell_of_row _ _ _ _ _ _ (row_kept HRP3.out hal)]; rfl
    have dp1 : (w3.alloc (.cells #[.int .u64 (x.off : Int), .int .i64 x.part, .int .i64 x.time, .string x.key, .float .f64 x.val] 51)).cell? ⟨pb, 1, none⟩ = some (.int .i64 fan) := by rw [cell_of_row _ _ _ _ _ _ (row_kept HRP3.out hal)]; rfl
    have HE4 : Hid (EvS (w3.alloc (.cells #[.int .u64 (x.off : Int), .int .i64 x.part, .int .i64 x.time, .string x.key, .float .f64 x.val] 51)) (some ⟨w3.heap.size, 0, none⟩) 1 1 [x]) := Lib.hid (.inr ⟨w3.heap.size, 0, rfl, ⟨_, _, _, hrow4, not_st (by decide) (by decide) (by decide), fun j v hv => by rw [Nat.zero_add]; simpa [evs, Ev.cells] using hv⟩, rfl, by decide, by decide, by decide⟩)
    clear hal hrow4
    have hba1 : Below W.heap.size W w1 := below_to HBA.out HB1.out
    have HBA1 := Lib.hid hba1
    have HSO := Lib.hid (sort_single (W := Bs.of w1) (g := g) (room := 1048576) (some ⟨w3.heap.size, 0, none⟩) x hv parts hold fan B HBB.out _ ((HSA2.out.next HB3.out).next HAL.out) HE4.out ⟨HG.out.1.keep hba1, HG.out.2.keep hba1⟩ HGG.out (by decide))
    clear hba1 hv
    go_upto_region 7 with (first
      | (refine wpList_load_row rfl 51 (.tmp 5) rfl (pb + 1) rfl _ #[.int .u64 (x.off : Int), .int .i64 x.part, .int .i64 x.time, .string x.key, .float .f64 x.val] (0, 0) _ HRE3.out uEvent rfl (iEvA x) ?_)
      | (go_at_call 13; (with_reducible refine HSO.out.mono ?_); rintro e w5 ⟨L5, n5, c5, N5, J5, q5, rfl, h1, h2, h3, h4, o5, h5, h6⟩; have HQ1 := Lib.hid h1; have HQ3 := Lib.hid h2; have HQ0 := Lib.hid h3; have HK5 := Lib.hid h4; have HS5 := Lib.hid h5; have HO5 := Lib.hid h6; clear h1 h2 h3 h4 h5 h6 dp0 dp1))
    have HK35 : Hid (KF w3 w5) := Lib.hid ((KF.of_below HAL.out).trans HK5.out)
    have HRP5 := Lib.hid (HK35.out.row HRP3.out (not_st (by decide) (by decide) (by decide)))
    have HRE5 := Lib.hid (HK35.out.row HRE3.out (not_st (by decide) (by decide) (by decide)))
    have cp0 : w5.cell? ⟨pb, 0, none⟩ = some (.int .i64 hold) := by rw [cell_of_row _ _ _ _ _ _ HRP5.out]; rfl
    have cp1 : w5.cell? ⟨pb, 1, none⟩ = some (.int .i64 fan) := by rw [cell_of_row _ _ _ _ _ _ HRP5.out]; rfl
    have HPF : Hid (Calls Tryz.prog 21 #[.agg #[.int .i64 hold, .int .i64 fan]] w5 fun e w' => e = .returned (.bool B) ∧ Below w5.heap.size w5 w') := Lib.hid (by rw [HBB.out]; exact planForm_any hold fan w5)
    have hbb : (B != B) = false := by simp
    go_upto_block 0 with (go_at_call 21; (with_reducible refine HPF.out.mono ?_); rintro e w6 ⟨rfl, h1⟩; have HB6 := Lib.hid h1; clear h1)
    have HRE6 := Lib.hid (row_kept HRE5.out HB6.out)
    clear cp0 cp1 hbb
    go_cut [6] (fun s6 wx => s6 = .bool false ∧ Below w6.heap.size w6 wx)
    case first =>
      rcases B with _ | _
      · have hq := HQ1.out (.inl rfl)
        subst hq
        go_wp2_with fail
        go_meet
        case rel => exact ⟨rfl, Below.refl _ _⟩
      · by_cases h1 : parts < 1
        · have hq := HQ1.out (.inr (.inl h1))
          subst hq
          go_wp2_with fail
          go_meet
          case rel => exact ⟨rfl, Below.refl _ _⟩
        · by_cases h8 : 8 < parts
          · have hq := HQ1.out (.inr (.inr h8))
            subst hq
            go_wp2_with fail
            go_meet
            case rel => exact ⟨rfl, Below.refl _ _⟩
          · have HRF := Lib.hid (refForm_any x parts w6)
            rcases hf : formB x parts with _ | _
            · rw [hf] at HRF
              have hq := HQ3.out rfl (by omega) (by omega) hf
              subst hq
              go_wp2_with (first
                | (refine wpList_load_row rfl 51 (.tmp 5) rfl (pb + 1) rfl _ #[.int .u64 (x.off : Int), .int .i64 x.part, .int .i64 x.time, .string x.key, .float .f64 x.val] (0, 0) _ HRE6.out uEvent rfl (iEvA x) ?_)
                | (go_at_call 22; (with_reducible refine HRF.out.mono ?_); rintro e w7 ⟨rfl, h1⟩; have HB7 := Lib.hid h1; clear h1))
              go_meet
              case rel => exact ⟨rfl, HB7.out⟩
            · rw [hf] at HRF
              obtain ⟨hq, hn5, hN5, hJ5⟩ := HQ0.out rfl (by omega) (by omega) hf
              subst hq; subst hn5; subst hN5; subst hJ5
              go_wp2_with (first
                | (refine wpList_load_row rfl 51 (.tmp 5) rfl (pb + 1) rfl _ #[.int .u64 (x.off : Int), .int .i64 x.part, .int .i64 x.time, .string x.key, .float .f64 x.val] (0, 0) _ HRE6.out uEvent rfl (iEvA x) ?_)
                | (go_at_call 22; (with_reducible refine HRF.out.mono ?_); rintro e w7 ⟨rfl, h1⟩; have HB7 := Lib.hid h1; clear h1))
              go_meet
              case rel => exact ⟨rfl, HB7.out⟩
    case rest =>
      obtain ⟨rfl, hb7⟩ := hcut
      have HB7 := Lib.hid hb7
      clear hb7
      have HS7 := Lib.hid ((HS5.out.next HB6.out).next HB7.out)
      have HAP := Lib.hid (append_B (t := { data := #[114, 117, 110, 46, 49] }) (by decide) (by decide) (fun j k x y _ hx => by simp at hx) (by decide) _ HS7.out ⟨HO5.out.1, by have := HO5.out.2; omega⟩ none 0 0 [] rfl (fun k x hx => by simp at hx) (fun q hq => by cases hq) (by decide) (by decide) (by decide))
      go_upto_region 18 with (go_at_call 12; (with_reducible refine HAP.out.mono ?_); rintro e w8 ⟨rfl, h1, ys, h2, h3⟩; have HK8 := Lib.hid h1; have HA8 := Lib.hid h2; have HS8 := Lib.hid h3; clear h1 h2 h3)
      have hf1 := app_filter (fun x (hx : x ∈ ([] : List Fil)) => nomatch hx) HA8.out
      have hfa1 := HA8.out.facts (fun j k x y _ hx => by simp at hx)
      have HF1 := Lib.hid hf1
      have HR1 := Lib.hid hfa1.1
      have HAQ := Lib.hid (append_B (t := { data := #[114, 117, 110, 103] }) (by decide) (by decide) hfa1.1 (by rw [hf1.2.2.1]; decide) _ HS8.out ⟨by have := HO5.out.1; omega, by have := HO5.out.2; omega⟩ none 0 0 [] rfl (fun k x hx => by simp at hx) (fun q hq => by cases hq) (by decide) (by have h9 := hfa1.2.1; simp [sumN] at h9; omega) (by decide))
      clear hf1 hfa1
      go_upto_region 19 with (go_at_call 12; (with_reducible refine HAQ.out.mono ?_); rintro e w9 ⟨rfl, h1, zs, h2, h3⟩; have HK9 := Lib.hid h1; have HA9 := Lib.hid h2; have HS9 := Lib.hid h3; clear h1 h2 h3)
      have hno2 : ∀ x ∈ ys, cmpKF x.name { data := #[114, 117, 110, 103] } ≠ 0 := fun x hx => by
        rcases HF1.out.2.2.2 x hx with h | h
        · rw [h]; decide
        · cases h
      have hf2 := app_filter hno2 HA9.out
      have hfa2 := HA9.out.facts HR1.out
      have hl1 : (zs.filter fun x => !runT x.name).length = 1 := by
        rw [hf2.1, HF1.out.1, if_pos (by decide), if_neg (by decide)]; rfl
      have hnm : ∀ x ∈ zs, x.name.size ≤ 2000 ∧ formK x.name = true := fun x hx => by
        rcases hf2.2.2.2 x hx with h | h
        · rw [h]; decide
        · rcases HF1.out.2.2.2 x h with h | h
          · rw [h]; decide
          · cases h
      have HCL := Lib.hid (clean_any hfa2.1 hnm (by rw [hf2.2.2.1, HF1.out.2.2.1]; decide) w9 HS9.out ⟨by have := HO5.out.1; omega, by have := HO5.out.2; omega⟩)
      have HL1 := Lib.hid hl1
      clear hno2 hf2 hfa2 hnm hl1
      go_wp2_with (first
        | (go_at_call 23; (with_reducible refine (clean_nil _).mono ?_); rintro e w10 ⟨rfl, rfl⟩)
        | (go_at_call 23; (with_reducible refine HCL.out.mono ?_); rintro e w11 ⟨rfl, h1, o11, h2, h3⟩; have HS11 := Lib.hid h3; have HLI := Lib.hid (list_A (by rw [HL1.out]; decide) w11 HS11); rw [HL1.out] at HLI; clear h1 h2 h3)
        | (go_at_call 17; (with_reducible refine HLI.out.mono ?_); rintro e w12 ⟨b12, rfl, -, -, h1⟩; have HB12 := Lib.hid h1; clear h1))
      go_ret
      exact ⟨rfl, below_to HBA1.out (gb_new (HS11.out.next HB12.out).below HGG.out)⟩
end Go.Proofs.YtjldamkmdkaiiaaGreatDoor
