/-
  Layer segment: a scan of a written segment, by name; scans of all and of nothing.
-/
import Derived.Test.YtifabkbdiiolfaaGreatDoorYzrK
set_option linter.unusedSimpArgs false
set_option linter.unusedVariables false
set_option maxRecDepth 8000
namespace Go.Proofs.YtifabkbdiiolfaaGreatDoor
open Go.RowKit Go.WideShapes Col
set_option maxHeartbeats 8000000 in
theorem scan_core (bs ps foot gc oc N c2 : Nat) (vb : Value) (CS : List Ck) (hN : Hid (N = CS.length)) (HN15 : Hid (N ≤ 15 ∧ 0 < N)) (RW : Nat → List Ev) (HPL : Hid (∀ i, (RW i).length ≤ 64)) (SO : Nat → List Ev) (SN : Nat → Nat) (HS0 : Hid (SO 0 = [] ∧ SN 0 = 0))
  (fa fb : Nat) (fx fy : Int) (HSKIP : Hid (∀ (k : Nat) (c : Ck), CS[k]? = some c → mayB fa fb fx fy c = false → SO (k + 1) = SO k ∧ SN (k + 1) = SN k)) (HREAD : Hid (∀ (k : Nat) (c : Ck), CS[k]? = some c → mayB fa fb fx fy c = true → SO (k + 1) = SO k ++ (RW k).filter (wantB fa fb fx fy) ∧ SN (k + 1) = SN k + 1))
  (HLEN : Hid (∀ k, (SO k).length ≤ 900)) (HSNL : Hid (∀ k, SN k ≤ k)) (w : World)
  (HSG : Hid (w.heap[bs]? = some (.cells #[vb, .int .i64 (ps : Int), .slice (some ⟨gc, oc, none⟩) N c2, .int .i64 (foot : Int)] 90 (0, 0)))) (HCA : Hid (CkAt w (some ⟨gc, oc, none⟩) CS))
  (HRO : Hid (∀ (i : Nat) (ck : Ck), CS[i]? = some ck → ∀ v, Below w.heap.size w v → Calls Tryz.prog 50 #[.pointer (some ⟨bs, 0, none⟩), .int .i64 (i : Int)] v fun e w' => ∃ L m, e = .returned (.tuple #[.slice (some ⟨L, 0, none⟩) m m, .int .i64 0]) ∧ m = (RW i).length ∧ EvAt w' (some ⟨L, 0, none⟩) (RW i) ∧ Below v.heap.size v w' ∧ v.heap.size ≤ L)) :
  Calls Tryz.prog 16 #[.pointer (some ⟨bs, 0, none⟩), .agg #[.int .u64 (fa : Int), .int .u64 (fb : Int), .int .i64 fx, .int .i64 fy]] w fun e w' => ∃ A m cap, e = .returned (.tuple #[.slice A m cap, .int .i64 (SN N : Nat), .int .i64 0]) ∧ OwnE w' w.heap.size A m cap (SO N) ∧ m ≤ cap ∧ cap ≤ maxLen ∧ Below w.heap.size w w' := by
 have HCW : Hid (∀ v, Below w.heap.size w v → ∀ (i : Nat) (ck : Ck), CS[i]? = some ck → v.rangeAt gc (oc + i * 8) ck.cells) := Lib.hid fun v hb i ck hc => by
  obtain ⟨g', o', e, h1, h2⟩ := ckr (HCA.out.keep hb) i ck hc
  injection e with e; injection e with e1 e2; subst e1; subst e2
  exact h2
 have HB0 : Hid (Below w.heap.size w (w.alloc (.cells #[.int .u64 (fa : Int), .int .u64 (fb : Int), .int .i64 fx, .int .i64 fy] 26))) := Lib.hid ((Below.refl _ _).alloc (Nat.le_refl _) _)
 have HR0 : Hid ((w.alloc (.cells #[.int .u64 (fa : Int), .int .u64 (fb : Int), .int .i64 fx, .int .i64 fy] 26)).heap[w.heap.size]? = some (.cells #[.int .u64 (fa : Int), .int .u64 (fb : Int), .int .i64 fx, .int .i64 fy] 26 (0, 0))) := Lib.hid (heap_alloc_new' w _)
 have cb2 : (w.alloc (.cells #[.int .u64 (fa : Int), .int .u64 (fb : Int), .int .i64 fx, .int .i64 fy] 26)).cell? ⟨bs, 2, none⟩ = some (.slice (some ⟨gc, oc, none⟩) N c2) := by rw [cell_of_row _ _ _ _ _ _ (row_keepS HSG.out HB0.out)]; rfl
 obtain ⟨W1, hW1⟩ : ∃ W1, W1 = (w.alloc (.cells #[.int .u64 (fa : Int), .int .u64 (fb : Int), .int .i64 fx, .int .i64 fy] 26)) := ⟨_, rfl⟩
 obtain ⟨b3, hb3⟩ : ∃ b3, b3 = w.heap.size := ⟨_, rfl⟩
 have HB3E := Lib.hid hb3
 have HLT : Hid (b3 < W1.heap.size) := Lib.hid (by rw [hb3]; exact (Array.getElem?_eq_some_iff.1 (show W1.heap[w.heap.size]? = _ by rw [hW1]; exact HR0.out)).1)
 rw [← hW1, ← hb3] at HR0
 rw [← hW1] at HB0 cb2
 have HW1 := Lib.hid hW1
 clear hW1 hb3
 go_enter Tryz.func16, Tryz.ntmps16
 go_upto_region 1 with fail
 rw [← HW1.out, ← HB3E.out]
 go_wp2
 go_loopw [7, 8, 22] (fun u v z wr => ∃ (k m cap : Nat) (Ao : Option Addr), k ≤ N ∧ u = .slice Ao m cap ∧ v = .int .i64 (SN k : Nat) ∧ z = .int .i64 (k : Int) ∧ OwnE wr W1.heap.size Ao m cap (SO k) ∧ m ≤ cap ∧ cap ≤ maxLen ∧ Below W1.heap.size W1 wr) (fun _ _ z _ => N - (intOf z).toNat)
 case atStart => exact ⟨0, 0, 0, none, by omega, rfl, by rw [HS0.out.2]; rfl, rfl, by rw [HS0.out.1]; exact ownE_nil W1 W1.heap.size, Nat.le_refl _, Nat.zero_le _, Below.refl _ _⟩
 case round =>
  obtain ⟨k, m, cap, Ao, hk, rfl, rfl, rfl, ho, hmc, hcm, hb⟩ := hrel
  have HO := Lib.hid ho; have HB := Lib.hid hb
  have HMC := Lib.hid (And.intro hmc hcm)
  have HM : Hid (m = (SO k).length) := Lib.hid (by have h := ho.1; have e : (evs (SO k)).length = (SO k).length * 5 := (by simp [evs_length]); omega)
  have HML : Hid (m ≤ 900) := Lib.hid (by have := HM.out; have := HLEN.out k; omega)
  clear ho hb hmc hcm
  have hki : IntKind.i64.wrap ((k : Int) + 1) = ((k + 1 : Nat) : Int) := by rw [IntKind.wrap_i64]; have := HN15.out; omega
  by_cases hlt : k < N
  ·obtain ⟨ck, hc⟩ : ∃ x, CS[k]? = some x := ⟨_, List.getElem?_eq_getElem (by have := hN.out; omega)⟩
   have HCK := Lib.hid hc
   have hkl : (k : Int) < (N : Int) := by omega
   have HX : Hid (wr.rangeAt gc (oc + k * 8) [.int .i64 (ck.rows : Int), .int .i64 (ck.pl : Int), .int .u64 (ck.oa : Int), .int .u64 (ck.ob : Int), .int .i64 ck.ta, .int .i64 ck.tz, .string ck.ka, .string ck.kz]) := Lib.hid (HCW.out wr (below_to HB0.out HB.out) k ck hc)
   obtain ⟨W2, hW2⟩ : ∃ W2, W2 = wr.alloc (.cells #[.int .i64 (ck.rows : Int), .int .i64 (ck.pl : Int), .int .u64 (ck.oa : Int), .int .u64 (ck.ob : Int), .int .i64 ck.ta, .int .i64 ck.tz, .string ck.ka, .string ck.kz] 77) := ⟨_, rfl⟩
   have hb2 : Below wr.heap.size wr W2 := by rw [hW2]; exact (Below.refl _ _).alloc (Nat.le_refl _) _
   have HRC : Hid (W2.heap[wr.heap.size]? = some (.cells #[.int .i64 (ck.rows : Int), .int .i64 (ck.pl : Int), .int .u64 (ck.oa : Int), .int .u64 (ck.ob : Int), .int .i64 ck.ta, .int .i64 ck.tz, .string ck.ka, .string ck.kz] 77 (0, 0))) := Lib.hid (by rw [hW2]; exact heap_alloc_new' wr _)
   have HB2 : Hid (Below W1.heap.size W1 W2) := Lib.hid (below_to HB.out hb2)
   have HO2 : Hid (OwnE W2 W1.heap.size Ao m cap (SO k)) := Lib.hid (ownE_keep HO.out hb2)
   have HRF : Hid (W2.heap[b3]? = some (.cells #[.int .u64 (fa : Int), .int .u64 (fb : Int), .int .i64 fx, .int .i64 fy] 26 (0, 0))) := Lib.hid (row_keepS HR0.out HB2.out)
   have HW2 := Lib.hid hW2
   clear hc hb2 hW2
   go_upto_region 8 with (first
    | (refine wpList_load_mid rfl 77 (.tmp 25) rfl gc (oc + k * 8) rfl [.int .i64 (ck.rows : Int), .int .i64 (ck.pl : Int), .int .u64 (ck.oa : Int), .int .u64 (ck.ob : Int), .int .i64 ck.ta, .int .i64 ck.tz, .string ck.ka, .string ck.kz] _ HX.out uCk rfl (iCk ck) ?_)
    | (refine wpList_store_row rfl 77 (.tmp 10) (.tmp 26) rfl wr.heap.size #[.int .i64 (ck.rows : Int), .int .i64 (ck.pl : Int), .int .u64 (ck.oa : Int), .int .u64 (ck.ob : Int), .int .i64 ck.ta, .int .i64 ck.tz, .string ck.ka, .string ck.kz] rfl rfl _ _ (heap_alloc_new' _ _) (iCkS ck) (sizeCkS ck) (oneCkS ck) ?_; rw [World.setRow_alloc_new]))
   rw [← HW2.out]
   rcases hmy : mayB fa fb fx fy ck with _ | _
   ·have HSO : Hid (SO (k + 1) = SO k) := Lib.hid (HSKIP.out k ck HCK.out hmy).1
    have HSN : Hid (SN (k + 1) = SN k) := Lib.hid (HSKIP.out k ck HCK.out hmy).2
    have HMY := Lib.hid hmy
    clear hmy
    go_wp2_with (first
     | (refine wpList_load_row rfl 26 (.tmp 3) rfl b3 rfl _ #[.int .u64 (fa : Int), .int .u64 (fb : Int), .int .i64 fx, .int .i64 fy] (0, 0) _ HRF.out uFl rfl (by kernel_rfl) ?_)
     | (refine wpList_load_row rfl 77 (.tmp 10) rfl wr.heap.size rfl _ #[.int .i64 (ck.rows : Int), .int .i64 (ck.pl : Int), .int .u64 (ck.oa : Int), .int .u64 (ck.ob : Int), .int .i64 ck.ta, .int .i64 ck.tz, .string ck.ka, .string ck.kz] (0, 0) _ HRC.out uCk rfl (iCkS ck) ?_)
     | (go_at_call 49; (with_reducible refine (may_any fa fb fx fy ck W2).mono ?_); rintro e w3 ⟨rfl, h⟩; rw [HMY.out]; have HB3 := Lib.hid (below_to HB2.out h); have HO3 := Lib.hid (ownE_keep HO2.out h); clear h))
    go_roundw
    case rel => exact ⟨k + 1, m, cap, Ao, by omega, rfl, by rw [HSN.out], by go_num, by rw [HSO.out]; exact HO3.out, HMC.out.1, HMC.out.2, HB3.out⟩
    case measure => simp [intOf]; omega
   ·have HSO : Hid (SO (k + 1) = SO k ++ (RW k).filter (wantB fa fb fx fy)) := Lib.hid (HREAD.out k ck HCK.out hmy).1
    have HSN : Hid (SN (k + 1) = SN k + 1) := Lib.hid (HREAD.out k ck HCK.out hmy).2
    have HMY := Lib.hid hmy
    have HSL : Hid (SN k ≤ 15) := Lib.hid (by have := HSNL.out k; have := HN15.out; omega)
    clear hmy
    have hsn : IntKind.i64.wrap (((SN k : Nat) : Int) + 1) = ((SN k + 1 : Nat) : Int) := by rw [IntKind.wrap_i64]; have := HSL.out; omega
    go_wp2_with (first
     | (refine wpList_load_row rfl 26 (.tmp 3) rfl b3 rfl _ #[.int .u64 (fa : Int), .int .u64 (fb : Int), .int .i64 fx, .int .i64 fy] (0, 0) _ HRF.out uFl rfl (by kernel_rfl) ?_)
     | (refine wpList_load_row rfl 77 (.tmp 10) rfl wr.heap.size rfl _ #[.int .i64 (ck.rows : Int), .int .i64 (ck.pl : Int), .int .u64 (ck.oa : Int), .int .u64 (ck.ob : Int), .int .i64 ck.ta, .int .i64 ck.tz, .string ck.ka, .string ck.kz] (0, 0) _ HRC.out uCk rfl (iCkS ck) ?_)
     | (go_at_call 49; (with_reducible refine (may_any fa fb fx fy ck W2).mono ?_); rintro e w3 ⟨rfl, h⟩; rw [HMY.out]; have HB3 := Lib.hid (below_to HB2.out h); have HO3 := Lib.hid (ownE_keep HO2.out h); clear h)
     | (go_at_call 50; (with_reducible refine (HRO.out k ck HCK.out w3 (below_to HB0.out HB3.out)).mono ?_); rintro e w4 ⟨L, mm, rfl, h1, h2, h4, h5⟩; have HMM := Lib.hid h1; have HEV := Lib.hid h2; have HB4 := Lib.hid (below_to HB3.out h4); have HO4 := Lib.hid (ownE_keep HO3.out h4); have HNM := Lib.hid (ownE_new HO3.out h5); clear h1 h2 h4 h5))
    have hmm6 : mm ≤ 64 := by have := HMM.out; have := HPL.out k; omega
    go_loopw [7, 44] (fun u z wq => ∃ (j m' cap' : Nat) (A' : Option Addr), j ≤ mm ∧ u = .slice A' m' cap' ∧ z = .int .i64 (j : Int) ∧ OwnE wq W1.heap.size A' m' cap' (SO k ++ ((RW k).take j).filter (wantB fa fb fx fy)) ∧ m' ≤ cap' ∧ cap' ≤ maxLen ∧ Below W1.heap.size W1 wq ∧ Kept (MineK Ao) w4 wq ∧ (∀ q, MineK A' q → MineK Ao q ∨ w4.heap.size ≤ q)) (fun _ z _ => mm - (intOf z).toNat)
    case atStart => exact ⟨0, m, cap, Ao, by omega, rfl, rfl, by simpa using HO4.out, HMC.out.1, HMC.out.2, HB4.out, Kept.refl _ _, fun q h => .inl h⟩
    case round =>
     obtain ⟨j, m', cap', A', hj, rfl, rfl, ho, hmc, hcm, hb, hkp, hmi⟩ := hrel
     have HO := Lib.hid ho; have HB := Lib.hid hb; have HKP := Lib.hid hkp; have HMI := Lib.hid hmi
     have HMC' := Lib.hid (And.intro hmc hcm)
     have HM9 : Hid (m' ≤ 964) := Lib.hid (by
      have h := ho.1
      have e : (evs (SO k ++ ((RW k).take j).filter (wantB fa fb fx fy))).length = (SO k ++ ((RW k).take j).filter (wantB fa fb fx fy)).length * 5 := (by simp [evs_length])
      have h2 := HLEN.out k
      have h3 : (((RW k).take j).filter (wantB fa fb fx fy)).length ≤ 64 := Nat.le_trans (List.length_filter_le _ _) (by rw [List.length_take]; omega)
      rw [List.length_append] at e
      omega)
     have hb1 : W1.heap.size ≤ wr.heap.size := HB.out.size
     clear ho hb hkp hmi hmc hcm
     by_cases hjm : j < mm
     ·obtain ⟨x, hx⟩ : ∃ x, (RW k)[j]? = some x := ⟨_, List.getElem?_eq_getElem (by have := HMM.out; omega)⟩
      obtain ⟨g', o', hge, hgx, hrx⟩ := evr (HEV.out.keptY HKP.out (fun b e => by injection e with e; subst e; exact HNM.out)) j x hx
      injection hge with hge; injection hge with e1 e2; subst e1; subst e2
      have HX : Hid (wr.rangeAt L (j * 5) [.int .u64 (x.off : Int), .int .i64 x.part, .int .i64 x.time, .string x.key, .float .f64 x.val]) := Lib.hid (by rw [Nat.zero_add] at hrx; exact hrx)
      have HTK : Hid (((RW k).take (j + 1)).filter (wantB fa fb fx fy) = ((RW k).take j).filter (wantB fa fb fx fy) ++ (if wantB fa fb fx fy x = true then [x] else [])) := Lib.hid (filter_snoc (RW k) x j hx)
      have hj1 : IntKind.i64.wrap ((j : Int) + 1) = ((j + 1 : Nat) : Int) := by rw [IntKind.wrap_i64]; omega
      have hjl : (j : Int) < (mm : Int) := by omega
      obtain ⟨W5, hW5⟩ : ∃ W5, W5 = wr.alloc (.cells #[.int .u64 (x.off : Int), .int .i64 x.part, .int .i64 x.time, .string x.key, .float .f64 x.val] 45) := ⟨_, rfl⟩
      have hb5 : Below wr.heap.size wr W5 := by rw [hW5]; exact (Below.refl _ _).alloc (Nat.le_refl _) _
      have HRX : Hid (W5.heap[wr.heap.size]? = some (.cells #[.int .u64 (x.off : Int), .int .i64 x.part, .int .i64 x.time, .string x.key, .float .f64 x.val] 45 (0, 0))) := Lib.hid (by rw [hW5]; exact heap_alloc_new' wr _)
      have HB5 : Hid (Below W1.heap.size W1 W5) := Lib.hid (below_to HB.out hb5)
      have HO5 : Hid (OwnE W5 W1.heap.size A' m' cap' (SO k ++ ((RW k).take j).filter (wantB fa fb fx fy))) := Lib.hid (ownE_keep HO.out hb5)
      have HK5 : Hid (Kept (MineK Ao) w4 W5) := Lib.hid (HKP.out.trans (Kept.of_below hb5))
      have HRF5 : Hid (W5.heap[b3]? = some (.cells #[.int .u64 (fa : Int), .int .u64 (fb : Int), .int .i64 fx, .int .i64 fy] 26 (0, 0))) := Lib.hid (row_keepS HR0.out HB5.out)
      have HW5 := Lib.hid hW5
      clear hx hrx hgx hb5 hW5
      go_upto_region 16 with (first
       | (refine wpList_load_mid rfl 45 (.tmp 46) rfl L (j * 5) rfl [.int .u64 (x.off : Int), .int .i64 x.part, .int .i64 x.time, .string x.key, .float .f64 x.val] _ HX.out uEvent rfl (iEvent x) ?_)
       | (refine wpList_store_row rfl 45 (.tmp 14) (.tmp 47) rfl wr.heap.size #[.int .u64 (x.off : Int), .int .i64 x.part, .int .i64 x.time, .string x.key, .float .f64 x.val] rfl rfl _ _ (heap_alloc_new' _ _) (iEvS x) (sizeEvB x) (oneEvS x) ?_; rw [World.setRow_alloc_new]))
      rw [← HW5.out]
      rcases hw : wantB fa fb fx fy x with _ | _
      ·have HWT := Lib.hid hw
       have HTN : Hid (((RW k).take (j + 1)).filter (wantB fa fb fx fy) = ((RW k).take j).filter (wantB fa fb fx fy)) := Lib.hid (by rw [HTK.out, hw, if_neg (by decide), List.append_nil])
       clear hw
       go_wp2_with (first
        | (refine wpList_load_row rfl 26 (.tmp 3) rfl b3 rfl _ #[.int .u64 (fa : Int), .int .u64 (fb : Int), .int .i64 fx, .int .i64 fy] (0, 0) _ HRF5.out uFl rfl (by kernel_rfl) ?_)
        | (refine wpList_load_row rfl 45 (.tmp 14) rfl wr.heap.size rfl _ #[.int .u64 (x.off : Int), .int .i64 x.part, .int .i64 x.time, .string x.key, .float .f64 x.val] (0, 0) _ HRX.out uEvent rfl (iEvS x) ?_)
        | (go_at_call 18; (with_reducible refine (wants_any fa fb fx fy x W5).mono ?_); rintro e w6 ⟨rfl, h⟩; rw [HWT.out]; have HB6 := Lib.hid (below_to HB5.out h); have HO6 := Lib.hid (ownE_keep HO5.out h); have HK6 := Lib.hid (HK5.out.trans (Kept.of_below h)); clear h))
       go_roundw
       case rel => exact ⟨j + 1, m', cap', A', by omega, rfl, by go_num, by rw [HTN.out]; exact HO6.out, HMC'.out.1, HMC'.out.2, HB6.out, HK6.out, HMI.out⟩
       case measure => simp [intOf]; omega
      ·have HWT := Lib.hid hw
       have HTN : Hid (((RW k).take (j + 1)).filter (wantB fa fb fx fy) = ((RW k).take j).filter (wantB fa fb fx fy) ++ [x]) := Lib.hid (by rw [HTK.out, hw, if_pos rfl])
       clear hw
       go_wp2_with (first
        | (refine wpList_load_row rfl 26 (.tmp 3) rfl b3 rfl _ #[.int .u64 (fa : Int), .int .u64 (fb : Int), .int .i64 fx, .int .i64 fy] (0, 0) _ HRF5.out uFl rfl (by kernel_rfl) ?_)
        | (refine wpList_load_row rfl 45 (.tmp 14) rfl wr.heap.size rfl _ #[.int .u64 (x.off : Int), .int .i64 x.part, .int .i64 x.time, .string x.key, .float .f64 x.val] (0, 0) _ (by first | exact HRX6.out | exact HRX.out) uEvent rfl (iEvS x) ?_)
        | (go_at_call 18; (with_reducible refine (wants_any fa fb fx fy x W5).mono ?_); rintro e w6 ⟨rfl, h⟩; rw [HWT.out]; have HRX6 := Lib.hid (row_keepS HRX.out h); have HB6 := Lib.hid ((below_to HB5.out h).alloc (below_to HB5.out h).size (.cells #[.int .u64 (x.off : Int), .int .i64 x.part, .int .i64 x.time, .string x.key, .float .f64 x.val] 45)); have HO6 := Lib.hid (ownE_keep (ownE_keep HO5.out h) ((Below.refl w6.heap.size w6).alloc (Nat.le_refl _) (.cells #[.int .u64 (x.off : Int), .int .i64 x.part, .int .i64 x.time, .string x.key, .float .f64 x.val] 45))); have HK6 := Lib.hid ((HK5.out.trans (Kept.of_below h)).trans (Kept.of_below ((Below.refl w6.heap.size w6).alloc (Nat.le_refl _) (.cells #[.int .u64 (x.off : Int), .int .i64 x.part, .int .i64 x.time, .string x.key, .float .f64 x.val] 45)))); have hbs := HB6.out.size; clear h)
        | (at_builtin; refine wpList_append_evS rfl _ _ rfl W1.heap.size A' m' cap' (SO k ++ ((RW k).take j).filter (wantB fa fb fx fy)) rfl HO6.out (some ⟨w6.heap.size, 0, none⟩) 1 1 [x] rfl rfl (evAt_new w6 [x] _ rfl _) (fun h => by cases h) (m' + 1) rfl (by have := HM9.out; omega) hbs ?_; intro A7 c7 w7 ho7 h71 h72 h73 hb7 hg7 hm7; have HO7 := Lib.hid ho7; have HC7 := Lib.hid (And.intro h71 h72); have HB7 := Lib.hid (HB6.out.trans hb7); have HK7 : Hid (Kept (MineK Ao) w4 w7) := Lib.hid (kept_grown HK6.out HMI.out (by rcases A' with _ | a' <;> exact hg7)); have HM7 : Hid (∀ q, MineK A7 q → MineK Ao q ∨ w4.heap.size ≤ q) := Lib.hid (fun q hq => (hm7 q hq).elim (HMI.out q) (fun h => .inr (Nat.le_trans HK6.out.size h))); clear ho7 h71 h72 h73 hb7 hg7 hm7))
       go_roundw
       case rel => exact ⟨j + 1, m' + 1, c7, A7, by omega, rfl, by go_num, by rw [HTN.out, ← List.append_assoc]; exact HO7.out, HC7.out.1, HC7.out.2, HB7.out, HK7.out, HM7.out⟩
       case measure => simp [intOf]; omega
     ·obtain rfl : j = mm := by omega
      have hjl : ¬ (j : Int) < (j : Int) := by omega
      have HOE : Hid (OwnE wr W1.heap.size A' m' cap' (SO (k + 1))) := Lib.hid (by
       have h := HO.out
       rw [List.take_of_length_le (by have := HMM.out; omega)] at h
       rw [HSO.out]; exact h)
      go_wp2
      go_roundw
      case rel => exact ⟨k + 1, m', cap', A', by omega, rfl, by rw [HSN.out]; go_num, by go_num, HOE.out, HMC'.out.1, HMC'.out.2, HB.out⟩
      case measure => simp [intOf]; omega
  ·obtain rfl : k = N := by omega
   have hkl : ¬ (k : Int) < (k : Int) := by omega
   have HBE := Lib.hid (below_to HB0.out HB.out)
   have HOE : Hid (OwnE wr b3 Ao m cap (SO k)) := Lib.hid (HO.out.less (Nat.le_of_lt HLT.out))
   rw [HB3E.out] at HOE
   go_wp2
   exact bodyPost_ret (results_tmp3V rfl _ _ _) rfl ⟨Ao, m, cap, rfl, HOE.out, HMC.out.1, HMC.out.2, HBE.out⟩
end Go.Proofs.YtifabkbdiiolfaaGreatDoor

namespace Go.Proofs.YtifabkbdiiolfaaGreatDoor
open Go.RowKit Go.WideShapes Col
/-- What a scan of an opened written segment answers. -/
theorem scan_any (bs ps : Nat) (M : List Ev) (h0 : 0 < M.length) (h9 : M.length ≤ 900) (hck : Hid (chkL (ps : Int) none M = 0)) (hfin : Hid (∀ x ∈ M, FineE x)) (hby : Hid (∀ x ∈ segB ps M, x < 256)) (hlen : (segB ps M).length ≤ 1000000)
  (fa fb : Nat) (fx fy : Int) (w : World) (HS : Hid (SegAt w bs (segB ps M) ps (segCk M) (segPg M).length)) (HG : Hid (HalvesAt w)) :
  Calls Tryz.prog 16 #[.pointer (some ⟨bs, 0, none⟩), .agg #[.int .u64 (fa : Int), .int .u64 (fb : Int), .int .i64 fx, .int .i64 fy]] w fun e w' => ∃ A m cap, e = .returned (.tuple #[.slice A m cap, .int .i64 (scN fa fb fx fy M (segN M) : Nat), .int .i64 0]) ∧ OwnE w' w.heap.size A m cap (scO fa fb fx fy M (segN M)) ∧ m ≤ cap ∧ cap ≤ maxLen ∧ Below w.heap.size w w' := by
 obtain ⟨A, n, c, A2, n2, c2, h1, h2, h3, h4, h5, h6⟩ := HS.out
 have hn2 : n2 = (segCk M).length := by have h := h6.1; rw [cks_length] at h; omega
 have hNN : 0 < segN M ∧ segN M ≤ 15 := by unfold segN; omega
 have hcl := segCk_len M
 have hCA := h6.at'
 obtain ⟨ck0, hck0⟩ : ∃ x, (segCk M)[0]? = some x := ⟨_, List.getElem?_eq_getElem (by omega)⟩
 obtain ⟨gc, oc, rfl, -, -⟩ := ckr hCA 0 ck0 hck0
 have e : segN M = n2 := by omega
 have hs := scan_core bs ps (segPg M).length gc oc n2 c2 (.slice A n c) (segCk M) (Lib.hid hn2) (Lib.hid (by omega)) (fun i => (pcs M i).map canE) (Lib.hid fun i => by
   rw [List.length_map, pcs_len (l := M) (j := i) h0]; exact (lnC_facts h0).2.1) (fun k => scO fa fb fx fy M k) (fun k => scN fa fb fx fy M k) (Lib.hid ⟨by simp [scO], by simp [scN]⟩) fa fb fx fy
  (Lib.hid fun k c hc hm => ⟨scO_skip hck.out hc hm, by rw [scN_succ _ _ _ _ hc, hm]; rfl⟩)
  (Lib.hid fun k c hc hm => ⟨scO_succ fa fb fx fy (wrS_get M (segN M) k c hc).1, by rw [scN_succ _ _ _ _ hc, hm]; rfl⟩)
  (Lib.hid fun k => Nat.le_trans (scO_len fa fb fx fy M k) h9) (Lib.hid fun k => scN_le fa fb fx fy M k) w (Lib.hid h1) (Lib.hid hCA)
  (Lib.hid fun i ck hc v hb => seg_rows bs ps M h0 h9 hck hfin hby hlen A n c gc oc n2 c2 h2 h4 h5 hn2 w HG (Lib.hid h3) (Lib.hid h1) (Lib.hid hCA) i ck hc v hb)
 rw [e]
 exact hs
/-- All that is told of a chunk of a written segment lies between what all events have. -/
theorem seg_told {p : Int} {M : List Ev} {b : Nat} (hck : chkL p none M = 0) (hb : ∀ a, M[0]? = some a → a.off = b) (k : Nat) (c : Ck) (hc : (segCk M)[k]? = some c) :
  b ≤ c.oa ∧ c.ob < b + M.length ∧ c.oa ≤ c.ob ∧ -1099511627776 ≤ c.ta ∧ c.ta ≤ 1099511627776 ∧ -1099511627776 ≤ c.tz ∧ c.tz ≤ 1099511627776 ∧ ∃ x ∈ M, InCk c x := by
 obtain ⟨hk, hr, hst, hin⟩ := seg_in hck k c hc
 have h64 : 64 * k < M.length := by unfold segN at hk; omega
 obtain ⟨a, ha⟩ : ∃ a, M[0]? = some a := ⟨_, List.getElem?_eq_getElem (by omega)⟩
 obtain ⟨-, hc2⟩ := wrS_get M (segN M) k c hc
 obtain ⟨e1, e2, e3, e4, e5⟩ := segCk_facts hck ha k hk (ahead M k)
 rw [← hc2] at e1 e2 e3 e4
 have hf := lnC_facts (len := M.length) (j := k) (by omega)
 rw [hst] at hf
 have ho := hb a ha
 have hlp := pcs_len (l := M) (j := k) (by omega)
 have ht := ckOf_of (fun t => -1099511627776 ≤ t ∧ t ≤ 1099511627776) (fun _ => True) (pcs M k) (by omega) (ahead M k) (fun x hx => ⟨by
  have h := chk_form _ _ hck x (pcs_mem hx)
  unfold formB at h
  simp only [Bool.and_eq_true, decide_eq_true_eq] at h
  omega, trivial⟩)
 rw [← hc2] at ht
 obtain ⟨x, hx, hi⟩ := hin 0 (by omega)
 exact ⟨by omega, by omega, by omega, ht.1.1, ht.1.2, ht.2.1.1, ht.2.1.2, x, List.mem_of_getElem? hx, hi⟩
theorem sc_all {p : Int} {M : List Ev} {fa fb : Nat} {fx fy : Int} (hck : chkL p none M = 0) (h : ∀ x ∈ M, wantB fa fb fx fy x = true) : scO fa fb fx fy M (segN M) = M.map canE ∧ scN fa fb fx fy M (segN M) = segN M := by
 have hcl := segCk_len M
 constructor
 ·unfold scO
  rw [List.take_of_length_le (by unfold segN; omega), List.filter_eq_self]
  intro x hx
  obtain ⟨y, hy, rfl⟩ := List.mem_map.1 hx
  rw [want_can]; exact h y hy
 ·unfold scN
  rw [← hcl, List.take_length]
  congr 1
  rw [List.filter_eq_self]
  intro c hc
  obtain ⟨k, hk⟩ := List.getElem?_of_mem hc
  obtain ⟨hk1, hr, hst, hin⟩ := seg_in hck k c hk
  have hf := lnC_facts (len := M.length) (j := k) (by unfold segN at hk1; omega)
  obtain ⟨x, hx, hi⟩ := hin 0 (by omega)
  exact inCk_may hi (h x (List.mem_of_getElem? hx))
theorem want_all {p : Int} {M : List Ev} (hck : chkL p none M = 0) : ∀ x ∈ M, wantB 0 1099511627776 (-1099511627776) 1099511627776 x = true := fun x hx => by
 have h := chk_form _ _ hck x hx
 unfold formB at h
 simp only [Bool.and_eq_true, decide_eq_true_eq] at h
 unfold wantB
 simp only [Bool.and_eq_true, decide_eq_true_eq]
 omega
theorem can_same {M : List Ev} (hv : ∀ x ∈ M, FineE x) : ∀ (k : Nat) (x y : Ev), (M.map canE)[k]? = some x → M[k]? = some y → sameB x y = true ∧ x.val < 18446744073709551616 ∧ y.val < 18446744073709551616 := fun k x y hx hy => by
 rw [List.getElem?_map, hy] at hx
 have hx : canE y = x := by simpa using hx
 subst hx
 have h := (hv y (List.mem_of_getElem? hy)).val
 exact ⟨by unfold sameB keqB canE; simp [Fl.canon_canon], Fl.canon_lt _ h, h⟩
end Go.Proofs.YtifabkbdiiolfaaGreatDoor
