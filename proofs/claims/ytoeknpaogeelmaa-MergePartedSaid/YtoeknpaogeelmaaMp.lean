/-
  The law MergeParted: walked.
-/
import Derived.Test.YtoeknpaogeelmaaMu
set_option linter.unusedSimpArgs false
set_option linter.unusedVariables false
set_option maxRecDepth 8000
namespace Go.Proofs.Ytoeknpaogeelmaa
open Go.RowKit Go.Sort

def MP1 (ws : World) (B gr N m : Nat) (s : List Ev) (v : Value) (wr : World) : Prop :=
  ∃ (p : Nat) (SS : List Sl), p ≤ m ∧ v = .int .i64 (p : Int) ∧ SS.length = N ∧ PTS wr B gr SS ∧ Parted s p (slL SS) ∧ Below B ws wr
theorem tmod_cast (a b : Nat) : Int.tmod (a : Int) (b : Int) = ((a % b : Nat) : Int) := (Int.ofNat_tmod a b).symm
set_option maxHeartbeats 32000000 in
theorem mergeParted_all (a : Option Addr) (l : List Ev) (n c : Nat) (hn : Hid (n = l.length)) (hnc : n ≤ c) (hcm : c ≤ maxLen) (hnil : Hid (a = none → n = 0 ∧ c = 0)) (hsp : Hid (∀ x, a = some x → x.spot = none)) (hv : Hid (∀ x ∈ l, x.val < 18446744073709551616)) (b : Option Addr) (lb : List Nat) (nb cb : Nat) (hnb : Hid (nb = lb.length)) (sb : nb ≤ cb) (mb : cb ≤ maxLen) (W : World) (HA : Hid (EvAt W a l)) (HU : Hid (U8At W b lb)) :
    Calls Try.prog 5 #[.slice a n c, .slice b nb cb] W fun e w' => e = .returned (.bool true) ∧ Below W.heap.size W w' := by
  unfold maxLen at mb hcm
  by_cases hbig : 100 < n
  · have hg : (100 : Int) < (n : Int) := by omega
    go_enter Try.func5, Try.ntmps5
    have HB := Lib.hid (Below.refl W.heap.size W)
    go_wp2_with (go_at_call 7; refine (mawake_any _).mono ?_; rintro e w1 ⟨rfl, hb⟩; replace HB := Lib.hid (bto HB.out hb); clear hb)
    go_ret
    exact ⟨rfl, HB.out⟩
  · have hg : ¬ (100 : Int) < (n : Int) := by omega
    obtain ⟨r, hr⟩ : ∃ r, r = nb % 16 := ⟨_, rfl⟩
    have hr16 : r < 16 := by omega
    have hrem : Int.tmod (nb : Int) 16 = (r : Int) := by rw [hr]; exact tmod_cast nb 16
    obtain ⟨N, hN⟩ : ∃ N, N = 1 + r := ⟨_, rfl⟩
    have HN1 : Hid ((1 : Int) + (r : Int) = (N : Int)) := Lib.hid (by omega)
    have hN0 : 0 < N := by omega
    have hN16 : N ≤ 16 := by omega
    clear hN hr
    go_enter Try.func5, Try.ntmps5
    go_upto_region 5 with (first
      | (go_at_call 7; refine (mawake_any _).mono ?_; rintro e w1 ⟨rfl, hb⟩; have HB1 := Lib.hid hb; clear hb)
      | (go_at_call 9; refine (rsort_any a n c l hn (by omega) w1 (Lib.hid (HA.out.keep HB1.out))).mono ?_; rintro e w2 ⟨S, cS, rfl, ho, hb2⟩; have HO := Lib.hid ho; have HB2 := Lib.hid hb2; clear ho hb2))
    rw [HN1.out]
    obtain ⟨gr, wm, hmk, hpt, hbm, hgr⟩ := make_runs N (by omega) w2 w2.heap.size (Nat.le_refl _)
    obtain ⟨B, hB⟩ : ∃ B, B = w2.heap.size := ⟨_, rfl⟩
    obtain ⟨s, hs⟩ : ∃ s, s = isort ltM l := ⟨_, rfl⟩
    have HSO : Hid (Ordered ltM s) := Lib.hid (by rw [hs]; exact isort_ordered wkE l)
    have HNS : Hid (n = s.length) := Lib.hid (by rw [hs, isort_len]; exact hn.out)
    have HPL : Hid (Parted s 0 (slL (List.replicate N ⟨none, 0, []⟩))) := Lib.hid (by
      refine ⟨?_, fun r hr => ?_⟩
      · rw [List.take_zero]
        have : (slL (List.replicate N ⟨none, 0, []⟩)).flatten = [] := by unfold slL; rw [List.map_replicate]; simp
        rw [this]
      · obtain ⟨t, ht, rfl⟩ := List.mem_map.1 hr
        rw [List.eq_of_mem_replicate ht]; exact List.Pairwise.nil)
    have HST : Hid (MP1 wm B gr N n s (.int .i64 0) wm) := Lib.hid ⟨0, _, Nat.zero_le _, rfl, List.length_replicate, by rw [hB]; exact hpt, HPL.out, Below.refl _ _⟩
    have HBM : Hid (Below B w2 wm) := Lib.hid (by rw [hB]; exact hbm)
    have HOM : Hid (OwnE wm W.heap.size S n cS s) := Lib.hid (by
      rw [hs]
      exact ((HO.out.keptE (S := fun _ => False) (Kept.of_below hbm) (fun k hk => hk.elim)).less HB1.out.size))
    -- where the sorted events lie, in every later world
    have HSR : Hid (∀ (p : Nat) (x : Ev), s[p]? = some x → ∃ g o, S = some ⟨g, o, none⟩ ∧ ∀ w, Below B wm w → w.rangeAt g (o + p * 5) x.cells) := Lib.hid fun p x hx => by
      obtain ⟨g, o, e, -, hg, hr⟩ := (own_sl (l := s) (by rw [hs]; exact HO.out) (Nat.le_refl _) HNS.out (by omega)).evr2 p x hx
      refine ⟨g, o, e, fun w hb j v hv => ?_⟩
      have h1 := (hbm.cell (p := ⟨g, o + p * 5 + j, none⟩) hg).trans (hr j v hv)
      exact (hb.cell (p := ⟨g, o + p * 5 + j, none⟩) (by rw [hB]; exact hg)).trans h1
    have hBm : B ≤ wm.heap.size := by rw [hB] at HBM ⊢; exact HBM.out.size
    clear hpt hbm hgr HPL
    go_wp2
    go_loopw [8] (fun v wr => MP1 wm B gr N n s v wr) (fun v _ => n - (intOf v).toNat)
    case atStart => exact HST.out
    case round =>
      obtain ⟨p, SS, hp, rfl, hlen, hpt, hpar, hb⟩ := hrel
      have HPT := Lib.hid hpt; have HPAR := Lib.hid hpar; have HBL := Lib.hid hb; have HLEN := Lib.hid hlen
      clear hpt hpar hb hlen HST
      by_cases hpn : p < n
      · have hpi : (p : Int) < (n : Int) := by omega
        have hNz : ¬ (N : Int) = 0 := by omega
        obtain ⟨x, hx⟩ : ∃ x, s[p]? = some x := ⟨_, List.getElem?_eq_getElem (by have := HNS.out; omega)⟩
        have HX := Lib.hid hx
        obtain ⟨g1, o1, hS, hrx⟩ := HSR.out p x hx
        subst hS
        have hBr : B ≤ wr.heap.size := Nat.le_trans hBm HBL.out.size
        have HRX : Hid (∀ w, Below B wr w → w.rangeAt g1 (o1 + p * 5) x.cells) := Lib.hid fun w h => hrx w (HBL.out.trans h)
        clear hrx hx
        obtain ⟨k0, hk0⟩ : ∃ k0, k0 = p % N := ⟨_, rfl⟩
        have hk0N : k0 < N := by rw [hk0]; exact Nat.mod_lt _ hN0
        have hm0 : Int.tmod (p : Int) (N : Int) = (k0 : Int) := by rw [hk0]; exact tmod_cast p N
        clear hk0
        by_cases hpb : p < nb
        · have hpbi : (p : Int) < (nb : Int) := by omega
          obtain ⟨u, hu⟩ : ∃ u, lb[p]? = some u := ⟨_, List.getElem?_eq_getElem (by have := hnb.out; omega)⟩
          obtain ⟨hu256, gb, ob, hbA, hgb, hcb⟩ := HU.out p u hu
          subst hbA
          have hcbr : wr.cell? ⟨gb, ob + p, none⟩ = some (.int .u8 (u : Int)) := ((HB1.out.trans ((HB2.out.mono HB1.out.size).trans ((HBM.out.mono (by rw [hB]; exact Nat.le_trans HB1.out.size HB2.out.size)).trans (HBL.out.mono (by rw [hB]; exact Nat.le_trans HB1.out.size HB2.out.size))))).cell (p := ⟨gb, ob + p, none⟩) hgb).trans hcb
          obtain ⟨k, hk⟩ : ∃ k, k = u % N := ⟨_, rfl⟩
          have hkN : k < N := by rw [hk]; exact Nat.mod_lt _ hN0
          have hm1 : Int.tmod (u : Int) (N : Int) = (k : Int) := by rw [hk]; exact tmod_cast u N
          have hkNi : (k : Int) < (N : Int) := by omega
          clear hk hu hcb
          go_upto_region 12 with fail
          obtain ⟨sk, hsk⟩ : ∃ t, SS[k]? = some t := ⟨_, List.getElem?_eq_getElem (by have := HLEN.out; omega)⟩
          obtain ⟨A, ck, r⟩ := sk
          have HSK := Lib.hid hsk
          obtain ⟨mk, hmk2⟩ : ∃ mk, mk = r.length := ⟨_, rfl⟩
          have HMK := Lib.hid hmk2
          have hmk100 : mk ≤ 100 := by
            rw [hmk2]
            have h1 : (slL SS)[k]? = some r := by unfold slL; rw [List.getElem?_map, hsk]; rfl
            have h2 : r.length ≤ (slL SS).flatten.length := (List.sublist_flatten_of_mem (List.mem_of_getElem? h1)).length_le
            have h3 := HPAR.out.1.length_eq
            rw [List.length_take] at h3; omega
          have HPD : Hid (PTS wr.drew B gr SS) := Lib.hid (HPT.out.below (Below.refl _ _).drew)
          have hh0 : Below B wr wr.drew := (Below.refl _ _).drew
          have hBd : B ≤ wr.drew.heap.size := Nat.le_trans hBr hh0.size
          clear hsk hmk2
          refine wp_region_held_drew (S := fun w2 => Below B wr w2) (by kernel_rfl) hh0 (fun hHeld => ?_)
          generalize wr.drew = wd at *
          have hcell : wd.cell? ⟨gr, k, none⟩ = some (.slice A mk ck) := by rw [HPD.out.cell HSK.out, HMK.out]; rfl
          have HH1 : Hid (Below B wr (wd.alloc (.cells #[.int .u64 (x.off : Int), .int .i64 x.part, .int .i64 x.time, .string x.key, .float .f64 x.val] 38))) := Lib.hid (hh0.alloc hBd _)
          have HPT1 : Hid (PTS (wd.alloc (.cells #[.int .u64 (x.off : Int), .int .i64 x.part, .int .i64 x.time, .string x.key, .float .f64 x.val] 38)) B gr SS) := Lib.hid (HPD.out.below ((Below.refl _ _).alloc (Nat.le_refl _) _))
          have HOWN1 : Hid (OwnE (wd.alloc (.cells #[.int .u64 (x.off : Int), .int .i64 x.part, .int .i64 x.time, .string x.key, .float .f64 x.val] 38)) B A mk ck r) := Lib.hid (by rw [HMK.out]; exact (HPT1.out.ow ⟨A, ck, r⟩ (List.mem_of_getElem? HSK.out)).own)
          have HEV1 : Hid (EvAt (wd.alloc (.cells #[.int .u64 (x.off : Int), .int .i64 x.part, .int .i64 x.time, .string x.key, .float .f64 x.val] 38)) (some ⟨wd.heap.size, 0, none⟩) [x]) := Lib.hid (evAt_new wd [x] #[.int .u64 (x.off : Int), .int .i64 x.part, .int .i64 x.time, .string x.key, .float .f64 x.val] rfl 38)
          have hBd1 : B ≤ (wd.alloc (.cells #[.int .u64 (x.off : Int), .int .i64 x.part, .int .i64 x.time, .string x.key, .float .f64 x.val] 38)).heap.size := by simp; omega
          have hcell1 := HPT1.out.cell HSK.out
          rw [show (Sl.v ⟨A, ck, r⟩) = .slice A mk ck by rw [HMK.out]; rfl] at hcell1
          clear hh0
          refine wpAnyH_take (i := 0) (v := .slice (some ⟨gr, 0, none⟩) N N) rfl (by kernel_rfl) (by kernel_rfl) (by kernel_rfl) (fun _ _ _ h => h) (Or.inl ⟨by rfl, fun _ _ => rfl⟩) hHeld ?_
          try dsimp only
          try simp only [Act.put, List.getElem_toArray, List.getElem_cons_zero, List.getElem_cons_succ, List.setIfInBounds_toArray, List.set_cons_zero, List.set_cons_succ]
          refine wpAnyH_take (i := 1) (v := .int .i64 (k : Int)) rfl (by kernel_rfl) (by kernel_rfl) (by kernel_rfl) (fun _ _ _ h => h) (Or.inl ⟨by rfl, fun _ _ => rfl⟩) hHeld ?_
          try dsimp only
          try simp only [Act.put, List.getElem_toArray, List.getElem_cons_zero, List.getElem_cons_succ, List.setIfInBounds_toArray, List.set_cons_zero, List.set_cons_succ]
          refine wpAnyH_take (i := 2) (v := .slice (some ⟨gr, 0, none⟩) N N) rfl (by kernel_rfl) (by kernel_rfl) (by kernel_rfl) (fun _ _ _ h => h) (Or.inl ⟨by rfl, fun _ _ => rfl⟩) hHeld ?_
          try dsimp only
          try simp only [Act.put, List.getElem_toArray, List.getElem_cons_zero, List.getElem_cons_succ, List.setIfInBounds_toArray, List.set_cons_zero, List.set_cons_succ]
          refine wpAnyH_take (i := 3) (v := .int .i64 (k : Int)) rfl (by kernel_rfl) (by kernel_rfl) (by kernel_rfl) (fun _ _ _ h => h) (Or.inl ⟨by rfl, fun _ _ => rfl⟩) hHeld ?_
          try dsimp only
          try simp only [Act.put, List.getElem_toArray, List.getElem_cons_zero, List.getElem_cons_succ, List.setIfInBounds_toArray, List.set_cons_zero, List.set_cons_succ]
          refine wpAnyH_take (i := 4) (v := .pointer (some ⟨gr, k, none⟩)) rfl (by kernel_rfl) (by kernel_rfl) (by kernel_rfl) (fun _ _ _ h => h) (Or.inl ⟨by rfl, fun w _ => by go_simp⟩) hHeld ?_
          try dsimp only
          try simp only [Act.put, List.getElem_toArray, List.getElem_cons_zero, List.getElem_cons_succ, List.setIfInBounds_toArray, List.set_cons_zero, List.set_cons_succ]
          refine wpAnyH_take (i := 6) (v := .slice (some ⟨g1, o1, none⟩) n cS) rfl (by kernel_rfl) (by kernel_rfl) (by kernel_rfl) (fun _ _ _ h => h) (Or.inl ⟨by rfl, fun _ _ => rfl⟩) hHeld ?_
          try dsimp only
          try simp only [Act.put, List.getElem_toArray, List.getElem_cons_zero, List.getElem_cons_succ, List.setIfInBounds_toArray, List.set_cons_zero, List.set_cons_succ]
          refine wpAnyH_take (i := 7) (v := .int .i64 (p : Int)) rfl (by kernel_rfl) (by kernel_rfl) (by kernel_rfl) (fun _ _ _ h => h) (Or.inl ⟨by rfl, fun _ _ => rfl⟩) hHeld ?_
          try dsimp only
          try simp only [Act.put, List.getElem_toArray, List.getElem_cons_zero, List.getElem_cons_succ, List.setIfInBounds_toArray, List.set_cons_zero, List.set_cons_succ]
          refine wpAnyH_take (i := 8) (v := .pointer (some ⟨g1, o1 + p * 5, none⟩)) rfl (by kernel_rfl) (by kernel_rfl) (by kernel_rfl) (fun _ _ _ h => h) (Or.inl ⟨by rfl, fun w _ => by go_simp⟩) hHeld ?_
          try dsimp only
          try simp only [Act.put, List.getElem_toArray, List.getElem_cons_zero, List.getElem_cons_succ, List.setIfInBounds_toArray, List.set_cons_zero, List.set_cons_succ]
          refine wpAnyH_take (i := 9) (v := .agg #[.int .u64 (x.off : Int), .int .i64 x.part, .int .i64 x.time, .string x.key, .float .f64 x.val]) rfl (by kernel_rfl) (by kernel_rfl) (by kernel_rfl) (fun _ _ _ h => h) (yieldsIf_load_mid rfl 38 (.tmp 57) rfl g1 (o1 + p * 5) rfl [.int .u64 (x.off : Int), .int .i64 x.part, .int .i64 x.time, .string x.key, .float .f64 x.val] _ (fun w hw => HRX.out w hw) uEvent rfl (iEvent x)) hHeld ?_
          try dsimp only
          try simp only [Act.put, List.getElem_toArray, List.getElem_cons_zero, List.getElem_cons_succ, List.setIfInBounds_toArray, List.set_cons_zero, List.set_cons_succ]
          refine wpAnyH_ready (rs := [5, 10]) (by kernel_rfl) (by simp) (AllReadyH.cons rfl (fun K hK => ?_) (AllReadyH.cons rfl (fun K hK => ?_) AllReadyH.nil))
          · go_simp
            refine hK.out _ _ hHeld (fun hHeld => ?_)
            clear hK K
            try dsimp only
            try simp only [Act.put, List.getElem_toArray, List.getElem_cons_zero, List.getElem_cons_succ, List.setIfInBounds_toArray, List.set_cons_zero, List.set_cons_succ]
            refine wpAnyH_ready (rs := [10]) (by kernel_rfl) (by simp) (AllReadyH.cons rfl (fun K hK => ?_) AllReadyH.nil)
            go_simp
            refine hK.out _ _ HH1.out (fun hHeld => ?_)
            clear hK K
            try dsimp only
            try simp only [Act.put, List.getElem_toArray, List.getElem_cons_zero, List.getElem_cons_succ, List.setIfInBounds_toArray, List.set_cons_zero, List.set_cons_succ]
            refine wpAnyH_ready (rs := [11]) (by kernel_rfl) (by simp) (AllReadyH.cons rfl (fun K hK => ?_) AllReadyH.nil)
            refine wp_append_ev1 (.tmp 54) (.tmp 59) rfl B A mk ck r rfl HOWN1.out wd.heap.size x rfl HEV1.out (by omega) hBd1 ?_
            intro A4 c4 w4 ho4 hg4 hp4
            have HSL4 : Hid (SlOwn w4 B ⟨A4, c4, r ++ [x]⟩) := Lib.hid (own_sl ho4 (Nat.le_refl _) (by rw [List.length_append, ← HMK.out]; rfl) (by omega))
            have HG4 : Hid ((wd.alloc (.cells #[.int .u64 (x.off : Int), .int .i64 x.part, .int .i64 x.time, .string x.key, .float .f64 x.val] 38)).grownBy w4 ((Value.slice A r.length ck).ownBlock)) := Lib.hid (by rw [← HMK.out]; exact hg4)
            have HPT4 : Hid (PTS (w4.setCell ⟨gr, k, none⟩ (.slice A4 (mk + 1) c4)) B gr (SS.set k ⟨A4, c4, r ++ [x]⟩)) := Lib.hid (by have h := HPT1.out.step k ⟨A, ck, r⟩ HSK.out ⟨A4, c4, r ++ [x]⟩ HSL4.out HG4.out hp4; unfold Sl.v at h; rw [show (r ++ [x]).length = mk + 1 by rw [List.length_append, ← HMK.out]; rfl] at h; exact h)
            obtain ⟨hc4, hf4⟩ := HPT1.out.at k ⟨A, ck, r⟩ HSK.out HG4.out
            have hb14 : Below B (wd.alloc (.cells #[.int .u64 (x.off : Int), .int .i64 x.part, .int .i64 x.time, .string x.key, .float .f64 x.val] 38)) w4 := (Below.refl _ _).grown hg4 hBd1 (ro_base HOWN1.out)
            have HH4 : Hid (Below B wr w4) := Lib.hid (HH1.out.trans hb14)
            have HH5 : Hid (Below B wr (w4.setCell ⟨gr, k, none⟩ (.slice A4 (mk + 1) c4))) := Lib.hid (HH4.out.setCell HPT1.out.bg _)
            clear ho4 hg4 hp4 hb14
            refine hK.out _ _ HH4.out (fun hHeld => ?_)
            clear hK K
            try dsimp only
            try simp only [Act.put, List.getElem_toArray, List.getElem_cons_zero, List.getElem_cons_succ, List.setIfInBounds_toArray, List.set_cons_zero, List.set_cons_succ]
            refine wpAnyH_take (i := 12) (v := .pointer (some ⟨gr, k, none⟩)) rfl (by kernel_rfl) (by kernel_rfl) (by kernel_rfl) (fun _ _ _ h => h) (Or.inl ⟨by rfl, fun w _ => by go_simp⟩) hHeld ?_
            try dsimp only
            try simp only [Act.put, List.getElem_toArray, List.getElem_cons_zero, List.getElem_cons_succ, List.setIfInBounds_toArray, List.set_cons_zero, List.set_cons_succ]
            refine wpAnyH_ready (rs := [13]) (by kernel_rfl) (by simp) (AllReadyH.cons rfl (fun K hK => ?_) AllReadyH.nil)
            go_simp
            refine hK.out _ _ HH5.out (fun hHeld => ?_)
            clear hK K
            refine wpAnyH_done (by kernel_rfl) ?_ _
            have HBF := Lib.hid (HBL.out.trans HH5.out)
            clear hHeld hcell hcell1 hc4 hf4
            go_wp2
            go_roundw
            case rel => exact ⟨p + 1, SS.set k ⟨A4, c4, r ++ [x]⟩, by omega, by go_num, by rw [List.length_set]; exact HLEN.out, HPT4.out, by rw [slL_set]; exact HPAR.out.step HSO.out HX.out (by unfold slL; rw [List.getElem?_map, HSK.out]; rfl), HBF.out⟩
            case measure => simp [intOf]; omega
          · go_simp
            refine hK.out _ _ HH1.out (fun hHeld => ?_)
            clear hK K
            try dsimp only
            try simp only [Act.put, List.getElem_toArray, List.getElem_cons_zero, List.getElem_cons_succ, List.setIfInBounds_toArray, List.set_cons_zero, List.set_cons_succ]
            refine wpAnyH_ready (rs := [5]) (by kernel_rfl) (by simp) (AllReadyH.cons rfl (fun K hK => ?_) AllReadyH.nil)
            go_simp
            refine hK.out _ _ hHeld (fun hHeld => ?_)
            clear hK K
            try dsimp only
            try simp only [Act.put, List.getElem_toArray, List.getElem_cons_zero, List.getElem_cons_succ, List.setIfInBounds_toArray, List.set_cons_zero, List.set_cons_succ]
            refine wpAnyH_ready (rs := [11]) (by kernel_rfl) (by simp) (AllReadyH.cons rfl (fun K hK => ?_) AllReadyH.nil)
            refine wp_append_ev1 (.tmp 54) (.tmp 59) rfl B A mk ck r rfl HOWN1.out wd.heap.size x rfl HEV1.out (by omega) hBd1 ?_
            intro A4 c4 w4 ho4 hg4 hp4
            have HSL4 : Hid (SlOwn w4 B ⟨A4, c4, r ++ [x]⟩) := Lib.hid (own_sl ho4 (Nat.le_refl _) (by rw [List.length_append, ← HMK.out]; rfl) (by omega))
            have HG4 : Hid ((wd.alloc (.cells #[.int .u64 (x.off : Int), .int .i64 x.part, .int .i64 x.time, .string x.key, .float .f64 x.val] 38)).grownBy w4 ((Value.slice A r.length ck).ownBlock)) := Lib.hid (by rw [← HMK.out]; exact hg4)
            have HPT4 : Hid (PTS (w4.setCell ⟨gr, k, none⟩ (.slice A4 (mk + 1) c4)) B gr (SS.set k ⟨A4, c4, r ++ [x]⟩)) := Lib.hid (by have h := HPT1.out.step k ⟨A, ck, r⟩ HSK.out ⟨A4, c4, r ++ [x]⟩ HSL4.out HG4.out hp4; unfold Sl.v at h; rw [show (r ++ [x]).length = mk + 1 by rw [List.length_append, ← HMK.out]; rfl] at h; exact h)
            obtain ⟨hc4, hf4⟩ := HPT1.out.at k ⟨A, ck, r⟩ HSK.out HG4.out
            have hb14 : Below B (wd.alloc (.cells #[.int .u64 (x.off : Int), .int .i64 x.part, .int .i64 x.time, .string x.key, .float .f64 x.val] 38)) w4 := (Below.refl _ _).grown hg4 hBd1 (ro_base HOWN1.out)
            have HH4 : Hid (Below B wr w4) := Lib.hid (HH1.out.trans hb14)
            have HH5 : Hid (Below B wr (w4.setCell ⟨gr, k, none⟩ (.slice A4 (mk + 1) c4))) := Lib.hid (HH4.out.setCell HPT1.out.bg _)
            clear ho4 hg4 hp4 hb14
            refine hK.out _ _ HH4.out (fun hHeld => ?_)
            clear hK K
            try dsimp only
            try simp only [Act.put, List.getElem_toArray, List.getElem_cons_zero, List.getElem_cons_succ, List.setIfInBounds_toArray, List.set_cons_zero, List.set_cons_succ]
            refine wpAnyH_take (i := 12) (v := .pointer (some ⟨gr, k, none⟩)) rfl (by kernel_rfl) (by kernel_rfl) (by kernel_rfl) (fun _ _ _ h => h) (Or.inl ⟨by rfl, fun w _ => by go_simp⟩) hHeld ?_
            try dsimp only
            try simp only [Act.put, List.getElem_toArray, List.getElem_cons_zero, List.getElem_cons_succ, List.setIfInBounds_toArray, List.set_cons_zero, List.set_cons_succ]
            refine wpAnyH_ready (rs := [13]) (by kernel_rfl) (by simp) (AllReadyH.cons rfl (fun K hK => ?_) AllReadyH.nil)
            go_simp
            refine hK.out _ _ HH5.out (fun hHeld => ?_)
            clear hK K
            refine wpAnyH_done (by kernel_rfl) ?_ _
            have HBF := Lib.hid (HBL.out.trans HH5.out)
            clear hHeld hcell hcell1 hc4 hf4
            go_wp2
            go_roundw
            case rel => exact ⟨p + 1, SS.set k ⟨A4, c4, r ++ [x]⟩, by omega, by go_num, by rw [List.length_set]; exact HLEN.out, HPT4.out, by rw [slL_set]; exact HPAR.out.step HSO.out HX.out (by unfold slL; rw [List.getElem?_map, HSK.out]; rfl), HBF.out⟩
            case measure => simp [intOf]; omega
        · have hpbi : ¬ (p : Int) < (nb : Int) := by omega
          obtain ⟨k, hk⟩ : ∃ k, k = k0 := ⟨_, rfl⟩
          subst hk
          have hkN := hk0N
          have hkNi : (k : Int) < (N : Int) := by omega
          go_upto_region 12 with fail
          obtain ⟨sk, hsk⟩ : ∃ t, SS[k]? = some t := ⟨_, List.getElem?_eq_getElem (by have := HLEN.out; omega)⟩
          obtain ⟨A, ck, r⟩ := sk
          have HSK := Lib.hid hsk
          obtain ⟨mk, hmk2⟩ : ∃ mk, mk = r.length := ⟨_, rfl⟩
          have HMK := Lib.hid hmk2
          have hmk100 : mk ≤ 100 := by
            rw [hmk2]
            have h1 : (slL SS)[k]? = some r := by unfold slL; rw [List.getElem?_map, hsk]; rfl
            have h2 : r.length ≤ (slL SS).flatten.length := (List.sublist_flatten_of_mem (List.mem_of_getElem? h1)).length_le
            have h3 := HPAR.out.1.length_eq
            rw [List.length_take] at h3; omega
          have HPD : Hid (PTS wr.drew B gr SS) := Lib.hid (HPT.out.below (Below.refl _ _).drew)
          have hh0 : Below B wr wr.drew := (Below.refl _ _).drew
          have hBd : B ≤ wr.drew.heap.size := Nat.le_trans hBr hh0.size
          clear hsk hmk2
          refine wp_region_held_drew (S := fun w2 => Below B wr w2) (by kernel_rfl) hh0 (fun hHeld => ?_)
          generalize wr.drew = wd at *
          have hcell : wd.cell? ⟨gr, k, none⟩ = some (.slice A mk ck) := by rw [HPD.out.cell HSK.out, HMK.out]; rfl
          have HH1 : Hid (Below B wr (wd.alloc (.cells #[.int .u64 (x.off : Int), .int .i64 x.part, .int .i64 x.time, .string x.key, .float .f64 x.val] 38))) := Lib.hid (hh0.alloc hBd _)
          have HPT1 : Hid (PTS (wd.alloc (.cells #[.int .u64 (x.off : Int), .int .i64 x.part, .int .i64 x.time, .string x.key, .float .f64 x.val] 38)) B gr SS) := Lib.hid (HPD.out.below ((Below.refl _ _).alloc (Nat.le_refl _) _))
          have HOWN1 : Hid (OwnE (wd.alloc (.cells #[.int .u64 (x.off : Int), .int .i64 x.part, .int .i64 x.time, .string x.key, .float .f64 x.val] 38)) B A mk ck r) := Lib.hid (by rw [HMK.out]; exact (HPT1.out.ow ⟨A, ck, r⟩ (List.mem_of_getElem? HSK.out)).own)
          have HEV1 : Hid (EvAt (wd.alloc (.cells #[.int .u64 (x.off : Int), .int .i64 x.part, .int .i64 x.time, .string x.key, .float .f64 x.val] 38)) (some ⟨wd.heap.size, 0, none⟩) [x]) := Lib.hid (evAt_new wd [x] #[.int .u64 (x.off : Int), .int .i64 x.part, .int .i64 x.time, .string x.key, .float .f64 x.val] rfl 38)
          have hBd1 : B ≤ (wd.alloc (.cells #[.int .u64 (x.off : Int), .int .i64 x.part, .int .i64 x.time, .string x.key, .float .f64 x.val] 38)).heap.size := by simp; omega
          have hcell1 := HPT1.out.cell HSK.out
          rw [show (Sl.v ⟨A, ck, r⟩) = .slice A mk ck by rw [HMK.out]; rfl] at hcell1
          clear hh0
          refine wpAnyH_take (i := 0) (v := .slice (some ⟨gr, 0, none⟩) N N) rfl (by kernel_rfl) (by kernel_rfl) (by kernel_rfl) (fun _ _ _ h => h) (Or.inl ⟨by rfl, fun _ _ => rfl⟩) hHeld ?_
          try dsimp only
          try simp only [Act.put, List.getElem_toArray, List.getElem_cons_zero, List.getElem_cons_succ, List.setIfInBounds_toArray, List.set_cons_zero, List.set_cons_succ]
          refine wpAnyH_take (i := 1) (v := .int .i64 (k : Int)) rfl (by kernel_rfl) (by kernel_rfl) (by kernel_rfl) (fun _ _ _ h => h) (Or.inl ⟨by rfl, fun _ _ => rfl⟩) hHeld ?_
          try dsimp only
          try simp only [Act.put, List.getElem_toArray, List.getElem_cons_zero, List.getElem_cons_succ, List.setIfInBounds_toArray, List.set_cons_zero, List.set_cons_succ]
          refine wpAnyH_take (i := 2) (v := .slice (some ⟨gr, 0, none⟩) N N) rfl (by kernel_rfl) (by kernel_rfl) (by kernel_rfl) (fun _ _ _ h => h) (Or.inl ⟨by rfl, fun _ _ => rfl⟩) hHeld ?_
          try dsimp only
          try simp only [Act.put, List.getElem_toArray, List.getElem_cons_zero, List.getElem_cons_succ, List.setIfInBounds_toArray, List.set_cons_zero, List.set_cons_succ]
          refine wpAnyH_take (i := 3) (v := .int .i64 (k : Int)) rfl (by kernel_rfl) (by kernel_rfl) (by kernel_rfl) (fun _ _ _ h => h) (Or.inl ⟨by rfl, fun _ _ => rfl⟩) hHeld ?_
          try dsimp only
          try simp only [Act.put, List.getElem_toArray, List.getElem_cons_zero, List.getElem_cons_succ, List.setIfInBounds_toArray, List.set_cons_zero, List.set_cons_succ]
          refine wpAnyH_take (i := 4) (v := .pointer (some ⟨gr, k, none⟩)) rfl (by kernel_rfl) (by kernel_rfl) (by kernel_rfl) (fun _ _ _ h => h) (Or.inl ⟨by rfl, fun w _ => by go_simp⟩) hHeld ?_
          try dsimp only
          try simp only [Act.put, List.getElem_toArray, List.getElem_cons_zero, List.getElem_cons_succ, List.setIfInBounds_toArray, List.set_cons_zero, List.set_cons_succ]
          refine wpAnyH_take (i := 6) (v := .slice (some ⟨g1, o1, none⟩) n cS) rfl (by kernel_rfl) (by kernel_rfl) (by kernel_rfl) (fun _ _ _ h => h) (Or.inl ⟨by rfl, fun _ _ => rfl⟩) hHeld ?_
          try dsimp only
          try simp only [Act.put, List.getElem_toArray, List.getElem_cons_zero, List.getElem_cons_succ, List.setIfInBounds_toArray, List.set_cons_zero, List.set_cons_succ]
          refine wpAnyH_take (i := 7) (v := .int .i64 (p : Int)) rfl (by kernel_rfl) (by kernel_rfl) (by kernel_rfl) (fun _ _ _ h => h) (Or.inl ⟨by rfl, fun _ _ => rfl⟩) hHeld ?_
          try dsimp only
          try simp only [Act.put, List.getElem_toArray, List.getElem_cons_zero, List.getElem_cons_succ, List.setIfInBounds_toArray, List.set_cons_zero, List.set_cons_succ]
          refine wpAnyH_take (i := 8) (v := .pointer (some ⟨g1, o1 + p * 5, none⟩)) rfl (by kernel_rfl) (by kernel_rfl) (by kernel_rfl) (fun _ _ _ h => h) (Or.inl ⟨by rfl, fun w _ => by go_simp⟩) hHeld ?_
          try dsimp only
          try simp only [Act.put, List.getElem_toArray, List.getElem_cons_zero, List.getElem_cons_succ, List.setIfInBounds_toArray, List.set_cons_zero, List.set_cons_succ]
          refine wpAnyH_take (i := 9) (v := .agg #[.int .u64 (x.off : Int), .int .i64 x.part, .int .i64 x.time, .string x.key, .float .f64 x.val]) rfl (by kernel_rfl) (by kernel_rfl) (by kernel_rfl) (fun _ _ _ h => h) (yieldsIf_load_mid rfl 38 (.tmp 57) rfl g1 (o1 + p * 5) rfl [.int .u64 (x.off : Int), .int .i64 x.part, .int .i64 x.time, .string x.key, .float .f64 x.val] _ (fun w hw => HRX.out w hw) uEvent rfl (iEvent x)) hHeld ?_
          try dsimp only
          try simp only [Act.put, List.getElem_toArray, List.getElem_cons_zero, List.getElem_cons_succ, List.setIfInBounds_toArray, List.set_cons_zero, List.set_cons_succ]
          refine wpAnyH_ready (rs := [5, 10]) (by kernel_rfl) (by simp) (AllReadyH.cons rfl (fun K hK => ?_) (AllReadyH.cons rfl (fun K hK => ?_) AllReadyH.nil))
          · go_simp
            refine hK.out _ _ hHeld (fun hHeld => ?_)
            clear hK K
            try dsimp only
            try simp only [Act.put, List.getElem_toArray, List.getElem_cons_zero, List.getElem_cons_succ, List.setIfInBounds_toArray, List.set_cons_zero, List.set_cons_succ]
            refine wpAnyH_ready (rs := [10]) (by kernel_rfl) (by simp) (AllReadyH.cons rfl (fun K hK => ?_) AllReadyH.nil)
            go_simp
            refine hK.out _ _ HH1.out (fun hHeld => ?_)
            clear hK K
            try dsimp only
            try simp only [Act.put, List.getElem_toArray, List.getElem_cons_zero, List.getElem_cons_succ, List.setIfInBounds_toArray, List.set_cons_zero, List.set_cons_succ]
            refine wpAnyH_ready (rs := [11]) (by kernel_rfl) (by simp) (AllReadyH.cons rfl (fun K hK => ?_) AllReadyH.nil)
            refine wp_append_ev1 (.tmp 54) (.tmp 59) rfl B A mk ck r rfl HOWN1.out wd.heap.size x rfl HEV1.out (by omega) hBd1 ?_
            intro A4 c4 w4 ho4 hg4 hp4
            have HSL4 : Hid (SlOwn w4 B ⟨A4, c4, r ++ [x]⟩) := Lib.hid (own_sl ho4 (Nat.le_refl _) (by rw [List.length_append, ← HMK.out]; rfl) (by omega))
            have HG4 : Hid ((wd.alloc (.cells #[.int .u64 (x.off : Int), .int .i64 x.part, .int .i64 x.time, .string x.key, .float .f64 x.val] 38)).grownBy w4 ((Value.slice A r.length ck).ownBlock)) := Lib.hid (by rw [← HMK.out]; exact hg4)
            have HPT4 : Hid (PTS (w4.setCell ⟨gr, k, none⟩ (.slice A4 (mk + 1) c4)) B gr (SS.set k ⟨A4, c4, r ++ [x]⟩)) := Lib.hid (by have h := HPT1.out.step k ⟨A, ck, r⟩ HSK.out ⟨A4, c4, r ++ [x]⟩ HSL4.out HG4.out hp4; unfold Sl.v at h; rw [show (r ++ [x]).length = mk + 1 by rw [List.length_append, ← HMK.out]; rfl] at h; exact h)
            obtain ⟨hc4, hf4⟩ := HPT1.out.at k ⟨A, ck, r⟩ HSK.out HG4.out
            have hb14 : Below B (wd.alloc (.cells #[.int .u64 (x.off : Int), .int .i64 x.part, .int .i64 x.time, .string x.key, .float .f64 x.val] 38)) w4 := (Below.refl _ _).grown hg4 hBd1 (ro_base HOWN1.out)
            have HH4 : Hid (Below B wr w4) := Lib.hid (HH1.out.trans hb14)
            have HH5 : Hid (Below B wr (w4.setCell ⟨gr, k, none⟩ (.slice A4 (mk + 1) c4))) := Lib.hid (HH4.out.setCell HPT1.out.bg _)
            clear ho4 hg4 hp4 hb14
            refine hK.out _ _ HH4.out (fun hHeld => ?_)
            clear hK K
            try dsimp only
            try simp only [Act.put, List.getElem_toArray, List.getElem_cons_zero, List.getElem_cons_succ, List.setIfInBounds_toArray, List.set_cons_zero, List.set_cons_succ]
            refine wpAnyH_take (i := 12) (v := .pointer (some ⟨gr, k, none⟩)) rfl (by kernel_rfl) (by kernel_rfl) (by kernel_rfl) (fun _ _ _ h => h) (Or.inl ⟨by rfl, fun w _ => by go_simp⟩) hHeld ?_
            try dsimp only
            try simp only [Act.put, List.getElem_toArray, List.getElem_cons_zero, List.getElem_cons_succ, List.setIfInBounds_toArray, List.set_cons_zero, List.set_cons_succ]
            refine wpAnyH_ready (rs := [13]) (by kernel_rfl) (by simp) (AllReadyH.cons rfl (fun K hK => ?_) AllReadyH.nil)
            go_simp
            refine hK.out _ _ HH5.out (fun hHeld => ?_)
            clear hK K
            refine wpAnyH_done (by kernel_rfl) ?_ _
            have HBF := Lib.hid (HBL.out.trans HH5.out)
            clear hHeld hcell hcell1 hc4 hf4
            go_wp2
            go_roundw
            case rel => exact ⟨p + 1, SS.set k ⟨A4, c4, r ++ [x]⟩, by omega, by go_num, by rw [List.length_set]; exact HLEN.out, HPT4.out, by rw [slL_set]; exact HPAR.out.step HSO.out HX.out (by unfold slL; rw [List.getElem?_map, HSK.out]; rfl), HBF.out⟩
            case measure => simp [intOf]; omega
          · go_simp
            refine hK.out _ _ HH1.out (fun hHeld => ?_)
            clear hK K
            try dsimp only
            try simp only [Act.put, List.getElem_toArray, List.getElem_cons_zero, List.getElem_cons_succ, List.setIfInBounds_toArray, List.set_cons_zero, List.set_cons_succ]
            refine wpAnyH_ready (rs := [5]) (by kernel_rfl) (by simp) (AllReadyH.cons rfl (fun K hK => ?_) AllReadyH.nil)
            go_simp
            refine hK.out _ _ hHeld (fun hHeld => ?_)
            clear hK K
            try dsimp only
            try simp only [Act.put, List.getElem_toArray, List.getElem_cons_zero, List.getElem_cons_succ, List.setIfInBounds_toArray, List.set_cons_zero, List.set_cons_succ]
            refine wpAnyH_ready (rs := [11]) (by kernel_rfl) (by simp) (AllReadyH.cons rfl (fun K hK => ?_) AllReadyH.nil)
            refine wp_append_ev1 (.tmp 54) (.tmp 59) rfl B A mk ck r rfl HOWN1.out wd.heap.size x rfl HEV1.out (by omega) hBd1 ?_
            intro A4 c4 w4 ho4 hg4 hp4
            have HSL4 : Hid (SlOwn w4 B ⟨A4, c4, r ++ [x]⟩) := Lib.hid (own_sl ho4 (Nat.le_refl _) (by rw [List.length_append, ← HMK.out]; rfl) (by omega))
            have HG4 : Hid ((wd.alloc (.cells #[.int .u64 (x.off : Int), .int .i64 x.part, .int .i64 x.time, .string x.key, .float .f64 x.val] 38)).grownBy w4 ((Value.slice A r.length ck).ownBlock)) := Lib.hid (by rw [← HMK.out]; exact hg4)
            have HPT4 : Hid (PTS (w4.setCell ⟨gr, k, none⟩ (.slice A4 (mk + 1) c4)) B gr (SS.set k ⟨A4, c4, r ++ [x]⟩)) := Lib.hid (by have h := HPT1.out.step k ⟨A, ck, r⟩ HSK.out ⟨A4, c4, r ++ [x]⟩ HSL4.out HG4.out hp4; unfold Sl.v at h; rw [show (r ++ [x]).length = mk + 1 by rw [List.length_append, ← HMK.out]; rfl] at h; exact h)
            obtain ⟨hc4, hf4⟩ := HPT1.out.at k ⟨A, ck, r⟩ HSK.out HG4.out
            have hb14 : Below B (wd.alloc (.cells #[.int .u64 (x.off : Int), .int .i64 x.part, .int .i64 x.time, .string x.key, .float .f64 x.val] 38)) w4 := (Below.refl _ _).grown hg4 hBd1 (ro_base HOWN1.out)
            have HH4 : Hid (Below B wr w4) := Lib.hid (HH1.out.trans hb14)
            have HH5 : Hid (Below B wr (w4.setCell ⟨gr, k, none⟩ (.slice A4 (mk + 1) c4))) := Lib.hid (HH4.out.setCell HPT1.out.bg _)
            clear ho4 hg4 hp4 hb14
            refine hK.out _ _ HH4.out (fun hHeld => ?_)
            clear hK K
            try dsimp only
            try simp only [Act.put, List.getElem_toArray, List.getElem_cons_zero, List.getElem_cons_succ, List.setIfInBounds_toArray, List.set_cons_zero, List.set_cons_succ]
            refine wpAnyH_take (i := 12) (v := .pointer (some ⟨gr, k, none⟩)) rfl (by kernel_rfl) (by kernel_rfl) (by kernel_rfl) (fun _ _ _ h => h) (Or.inl ⟨by rfl, fun w _ => by go_simp⟩) hHeld ?_
            try dsimp only
            try simp only [Act.put, List.getElem_toArray, List.getElem_cons_zero, List.getElem_cons_succ, List.setIfInBounds_toArray, List.set_cons_zero, List.set_cons_succ]
            refine wpAnyH_ready (rs := [13]) (by kernel_rfl) (by simp) (AllReadyH.cons rfl (fun K hK => ?_) AllReadyH.nil)
            go_simp
            refine hK.out _ _ HH5.out (fun hHeld => ?_)
            clear hK K
            refine wpAnyH_done (by kernel_rfl) ?_ _
            have HBF := Lib.hid (HBL.out.trans HH5.out)
            clear hHeld hcell hcell1 hc4 hf4
            go_wp2
            go_roundw
            case rel => exact ⟨p + 1, SS.set k ⟨A4, c4, r ++ [x]⟩, by omega, by go_num, by rw [List.length_set]; exact HLEN.out, HPT4.out, by rw [slL_set]; exact HPAR.out.step HSO.out HX.out (by unfold slL; rw [List.getElem?_map, HSK.out]; rfl), HBF.out⟩
            case measure => simp [intOf]; omega
      · obtain ⟨wc, rfl⟩ : ∃ wc, wc = wr := ⟨_, rfl⟩
        obtain rfl : n = p := by omega
        have hflat : (slL SS).flatten.Perm s := by
          have h := HPAR.out.1
          rw [List.take_of_length_le (by have := HNS.out; omega)] at h; exact h
        have hlen2 : (slL SS).flatten.length = n := by rw [hflat.length_eq]; exact HNS.out.symm
        have HALL : Hid (Calls Try.prog 11 #[.slice (some ⟨gr, 0, none⟩) N N] wc (AllOk wc (slL SS))) := Lib.hid ((all_any gr 0 N N SS (Lib.hid HLEN.out.symm) hN0 hN16 (Nat.le_refl _) (by unfold maxLen; omega) (Lib.hid (by rw [hlen2]; omega)) wc (Lib.hid HPT.out.runs)).mono fun e w' h => by
          unfold AllEnds at h
          rw [if_pos (List.all_eq_true.2 fun r hr => (ordB_iff wkE r).2 (HPAR.out.2 r hr))] at h
          exact h)
        have HP1 : Hid (s.Perm (isort ltM (slL SS).flatten)) := Lib.hid (hflat.symm.trans (isort_perm _).symm)
        have HL2 := Lib.hid hlen2
        have hpi : ¬ (n : Int) < (n : Int) := by omega
        clear hflat hlen2
        go_wp2_with (go_at_call 11; (with_reducible refine (HALL.out).mono ?_); rintro e w3 ⟨A, M, cap, rfl, hM, ho, -, -, -, hb3⟩; have hMn : n = M := (by rw [hM, HL2.out]); subst hMn; have HO3 := Lib.hid ho; have HB3 := Lib.hid hb3; clear hM ho hb3)
        have HMR : Hid (∀ (p : Nat) (x : Ev), (isort ltM (slL SS).flatten)[p]? = some x → ∃ g o, A = some ⟨g, o, none⟩ ∧ ∀ w, Below w3.heap.size w3 w → w.rangeAt g (o + p * 5) x.cells) := Lib.hid fun p x hx => by
          obtain ⟨g, o, e, -, hg, hr⟩ := (own_sl (l := isort ltM (slL SS).flatten) HO3.out (Nat.le_refl _) (by rw [isort_len]; exact HL2.out.symm) (by omega)).evr2 p x hx
          exact ⟨g, o, e, fun w hb => rangeM_keep hr hg hb⟩
        have hw23 : B ≤ wc.heap.size := Nat.le_trans hBm HBL.out.size
        have HBS : Hid (Below B wm w3) := Lib.hid (HBL.out.trans (HB3.out.mono hw23))
        have HBW3 : Hid (Below W.heap.size W w3) := Lib.hid (by
          have hWB : W.heap.size ≤ B := by rw [hB]; exact Nat.le_trans HB1.out.size HB2.out.size
          exact (bto HB1.out HB2.out).trans ((HBM.out.mono hWB).trans (HBS.out.mono hWB)))
        have HK0 : Hid (K3m w3 n (.int .i64 0) w3) := Lib.hid ⟨0, Nat.zero_le _, rfl, Below.refl _ _⟩
        clear HALL HO3
        go_wp2
        go_loopw [12] (fun v wr => K3m w3 n v wr) (fun v _ => n - (intOf v).toNat)
        case atStart => exact HK0.out
        case round =>
          obtain ⟨p, hp, rfl, hb⟩ := hrel
          have HB9 := Lib.hid hb
          clear hb HK0
          by_cases hpn2 : p < n
          · have hpi2 : (p : Int) < (n : Int) := by omega
            obtain ⟨x, hx⟩ : ∃ x, s[p]? = some x := ⟨_, List.getElem?_eq_getElem (by have := HNS.out; omega)⟩
            obtain ⟨y, hy⟩ : ∃ y, (isort ltM (slL SS).flatten)[p]? = some y := ⟨_, List.getElem?_eq_getElem (by rw [isort_len, HL2.out]; exact hpn2)⟩
            have HXY : Hid (lessB x y = false) := Lib.hid (alike wkE HSO.out (isort_ordered wkE _) HP1.out hx hy)
            have HYX : Hid (lessB y x = false) := Lib.hid (alike wkE (isort_ordered wkE _) HSO.out HP1.out.symm hy hx)
            obtain ⟨g1, o1, hS, hrx⟩ := HSR.out p x hx
            obtain ⟨g2, o2, hA2, hry⟩ := HMR.out p y hy
            subst hS; subst hA2
            have HRX : Hid (∀ w, Below wr.heap.size wr w → w.rangeAt g1 (o1 + p * 5) x.cells) := Lib.hid fun w h => hrx w (HBS.out.trans ((bto HB9.out h).mono (by have := HBS.out.size; omega)))
            have HRY : Hid (∀ w, Below wr.heap.size wr w → w.rangeAt g2 (o2 + p * 5) y.cells) := Lib.hid fun w h => hry w (bto HB9.out h)
            clear hx hy hrx hry
            go_upto_region 19 with fail
            have hh0 : Below wr.heap.size wr wr.drew := (Below.refl _ _).drew
            refine wp_region_held_drew (S := fun w2 => Below wr.heap.size wr w2) (by kernel_rfl) hh0 (fun hHeld => ?_)
            refine wpAnyH_take (i := 0) (v := .slice (some ⟨g1, o1, none⟩) n cS) rfl (by kernel_rfl) (by kernel_rfl) (by kernel_rfl) (fun _ _ _ h => h) (Or.inl ⟨by rfl, fun _ _ => rfl⟩) hHeld ?_
            try dsimp only
            try simp only [Act.put, List.getElem_toArray, List.getElem_cons_zero, List.getElem_cons_succ, List.setIfInBounds_toArray, List.set_cons_zero, List.set_cons_succ]
            refine wpAnyH_take (i := 1) (v := .int .i64 (p : Int)) rfl (by kernel_rfl) (by kernel_rfl) (by kernel_rfl) (fun _ _ _ h => h) (Or.inl ⟨by rfl, fun _ _ => rfl⟩) hHeld ?_
            try dsimp only
            try simp only [Act.put, List.getElem_toArray, List.getElem_cons_zero, List.getElem_cons_succ, List.setIfInBounds_toArray, List.set_cons_zero, List.set_cons_succ]
            refine wpAnyH_take (i := 2) (v := .pointer (some ⟨g1, o1 + p * 5, none⟩)) rfl (by kernel_rfl) (by kernel_rfl) (by kernel_rfl) (fun _ _ _ h => h) (Or.inl ⟨by rfl, fun w _ => by go_simp⟩) hHeld ?_
            try dsimp only
            try simp only [Act.put, List.getElem_toArray, List.getElem_cons_zero, List.getElem_cons_succ, List.setIfInBounds_toArray, List.set_cons_zero, List.set_cons_succ]
            refine wpAnyH_take (i := 3) (v := .agg x.cells.toArray) rfl (by kernel_rfl) (by kernel_rfl) (by kernel_rfl) (fun _ _ _ h => h) (yieldsIf_load_mid rfl 38 (.tmp 84) rfl g1 (o1 + p * 5) rfl x.cells _ (fun w hw => HRX.out w hw) uEvent rfl (iEvent x)) hHeld ?_
            try dsimp only
            try simp only [Act.put, List.getElem_toArray, List.getElem_cons_zero, List.getElem_cons_succ, List.setIfInBounds_toArray, List.set_cons_zero, List.set_cons_succ]
            refine wpAnyH_take (i := 4) (v := .slice (some ⟨g2, o2, none⟩) n cap) rfl (by kernel_rfl) (by kernel_rfl) (by kernel_rfl) (fun _ _ _ h => h) (Or.inl ⟨by rfl, fun _ _ => rfl⟩) hHeld ?_
            try dsimp only
            try simp only [Act.put, List.getElem_toArray, List.getElem_cons_zero, List.getElem_cons_succ, List.setIfInBounds_toArray, List.set_cons_zero, List.set_cons_succ]
            refine wpAnyH_take (i := 5) (v := .int .i64 (p : Int)) rfl (by kernel_rfl) (by kernel_rfl) (by kernel_rfl) (fun _ _ _ h => h) (Or.inl ⟨by rfl, fun _ _ => rfl⟩) hHeld ?_
            try dsimp only
            try simp only [Act.put, List.getElem_toArray, List.getElem_cons_zero, List.getElem_cons_succ, List.setIfInBounds_toArray, List.set_cons_zero, List.set_cons_succ]
            refine wpAnyH_take (i := 6) (v := .pointer (some ⟨g2, o2 + p * 5, none⟩)) rfl (by kernel_rfl) (by kernel_rfl) (by kernel_rfl) (fun _ _ _ h => h) (Or.inl ⟨by rfl, fun w _ => by go_simp⟩) hHeld ?_
            try dsimp only
            try simp only [Act.put, List.getElem_toArray, List.getElem_cons_zero, List.getElem_cons_succ, List.setIfInBounds_toArray, List.set_cons_zero, List.set_cons_succ]
            refine wpAnyH_take (i := 7) (v := .agg y.cells.toArray) rfl (by kernel_rfl) (by kernel_rfl) (by kernel_rfl) (fun _ _ _ h => h) (yieldsIf_load_mid rfl 38 (.tmp 88) rfl g2 (o2 + p * 5) rfl y.cells _ (fun w hw => HRY.out w hw) uEvent rfl (iEvent y)) hHeld ?_
            try dsimp only
            try simp only [Act.put, List.getElem_toArray, List.getElem_cons_zero, List.getElem_cons_succ, List.setIfInBounds_toArray, List.set_cons_zero, List.set_cons_succ]
            refine wpAnyH_ready (rs := [8]) (by kernel_rfl) (by simp) (AllReadyH.cons rfl (fun K hK => ?_) AllReadyH.nil)
            go_simp
            refine (evBefore_any x y _).mono ?_
            rintro e w9 ⟨rfl, hg9⟩
            have hb9 := hg9.below
            rw [HXY.out]
            refine hK.out _ _ (bto hHeld hb9) (fun hHeld => ?_)
            clear hK K
            try dsimp only
            try simp only [Act.put, List.getElem_toArray, List.getElem_cons_zero, List.getElem_cons_succ, List.setIfInBounds_toArray, List.set_cons_zero, List.set_cons_succ]
            refine wpAnyH_take (i := 9) (v := .bool false) rfl (by kernel_rfl) (by kernel_rfl) (by kernel_rfl) (fun _ _ _ h => h) (Or.inl ⟨by rfl, fun _ _ => rfl⟩) hHeld ?_
            try dsimp only
            try simp only [Act.put, List.getElem_toArray, List.getElem_cons_zero, List.getElem_cons_succ, List.setIfInBounds_toArray, List.set_cons_zero, List.set_cons_succ]
            refine wpAnyH_take (i := 10) (v := .slice (some ⟨g2, o2, none⟩) n cap) rfl (by kernel_rfl) (by kernel_rfl) (by kernel_rfl) (fun _ _ _ h => h) (Or.inl ⟨by rfl, fun _ _ => rfl⟩) hHeld ?_
            try dsimp only
            try simp only [Act.put, List.getElem_toArray, List.getElem_cons_zero, List.getElem_cons_succ, List.setIfInBounds_toArray, List.set_cons_zero, List.set_cons_succ]
            refine wpAnyH_take (i := 11) (v := .int .i64 (p : Int)) rfl (by kernel_rfl) (by kernel_rfl) (by kernel_rfl) (fun _ _ _ h => h) (Or.inl ⟨by rfl, fun _ _ => rfl⟩) hHeld ?_
            try dsimp only
            try simp only [Act.put, List.getElem_toArray, List.getElem_cons_zero, List.getElem_cons_succ, List.setIfInBounds_toArray, List.set_cons_zero, List.set_cons_succ]
            refine wpAnyH_take (i := 12) (v := .pointer (some ⟨g2, o2 + p * 5, none⟩)) rfl (by kernel_rfl) (by kernel_rfl) (by kernel_rfl) (fun _ _ _ h => h) (Or.inl ⟨by rfl, fun w _ => by go_simp⟩) hHeld ?_
            try dsimp only
            try simp only [Act.put, List.getElem_toArray, List.getElem_cons_zero, List.getElem_cons_succ, List.setIfInBounds_toArray, List.set_cons_zero, List.set_cons_succ]
            refine wpAnyH_take (i := 13) (v := .agg y.cells.toArray) rfl (by kernel_rfl) (by kernel_rfl) (by kernel_rfl) (fun _ _ _ h => h) (yieldsIf_load_mid rfl 38 (.tmp 94) rfl g2 (o2 + p * 5) rfl y.cells _ (fun w hw => HRY.out w hw) uEvent rfl (iEvent y)) hHeld ?_
            try dsimp only
            try simp only [Act.put, List.getElem_toArray, List.getElem_cons_zero, List.getElem_cons_succ, List.setIfInBounds_toArray, List.set_cons_zero, List.set_cons_succ]
            refine wpAnyH_take (i := 14) (v := .slice (some ⟨g1, o1, none⟩) n cS) rfl (by kernel_rfl) (by kernel_rfl) (by kernel_rfl) (fun _ _ _ h => h) (Or.inl ⟨by rfl, fun _ _ => rfl⟩) hHeld ?_
            try dsimp only
            try simp only [Act.put, List.getElem_toArray, List.getElem_cons_zero, List.getElem_cons_succ, List.setIfInBounds_toArray, List.set_cons_zero, List.set_cons_succ]
            refine wpAnyH_take (i := 15) (v := .int .i64 (p : Int)) rfl (by kernel_rfl) (by kernel_rfl) (by kernel_rfl) (fun _ _ _ h => h) (Or.inl ⟨by rfl, fun _ _ => rfl⟩) hHeld ?_
            try dsimp only
            try simp only [Act.put, List.getElem_toArray, List.getElem_cons_zero, List.getElem_cons_succ, List.setIfInBounds_toArray, List.set_cons_zero, List.set_cons_succ]
            refine wpAnyH_take (i := 16) (v := .pointer (some ⟨g1, o1 + p * 5, none⟩)) rfl (by kernel_rfl) (by kernel_rfl) (by kernel_rfl) (fun _ _ _ h => h) (Or.inl ⟨by rfl, fun w _ => by go_simp⟩) hHeld ?_
            try dsimp only
            try simp only [Act.put, List.getElem_toArray, List.getElem_cons_zero, List.getElem_cons_succ, List.setIfInBounds_toArray, List.set_cons_zero, List.set_cons_succ]
            refine wpAnyH_take (i := 17) (v := .agg x.cells.toArray) rfl (by kernel_rfl) (by kernel_rfl) (by kernel_rfl) (fun _ _ _ h => h) (yieldsIf_load_mid rfl 38 (.tmp 98) rfl g1 (o1 + p * 5) rfl x.cells _ (fun w hw => HRX.out w hw) uEvent rfl (iEvent x)) hHeld ?_
            try dsimp only
            try simp only [Act.put, List.getElem_toArray, List.getElem_cons_zero, List.getElem_cons_succ, List.setIfInBounds_toArray, List.set_cons_zero, List.set_cons_succ]
            refine wpAnyH_ready (rs := [18]) (by kernel_rfl) (by simp) (AllReadyH.cons rfl (fun K hK => ?_) AllReadyH.nil)
            rw [if_pos (by rfl)]
            go_simp
            refine (evBefore_any y x _).mono ?_
            rintro e w9 ⟨rfl, hg9⟩
            have hb9 := hg9.below
            rw [HYX.out]
            refine hK.out _ _ (bto hHeld hb9) (fun hHeld => ?_)
            clear hK K
            try dsimp only
            try simp only [Act.put, List.getElem_toArray, List.getElem_cons_zero, List.getElem_cons_succ, List.setIfInBounds_toArray, List.set_cons_zero, List.set_cons_succ]
            refine wpAnyH_ready (rs := [19]) (by kernel_rfl) (by simp) (AllReadyH.cons rfl (fun K hK => ?_) AllReadyH.nil)
            go_simp
            refine hK.out _ _ hHeld (fun hHeld => ?_)
            clear hK K
            refine wpAnyH_done (by kernel_rfl) ?_ _
            have HB10 := Lib.hid (bto HB9.out hHeld)
            clear hHeld hh0
            go_wp2
            go_roundw
            case rel => exact ⟨p + 1, by omega, by go_num, HB10.out⟩
            case measure => simp [intOf]; omega
          · have hpi2 : ¬ (p : Int) < (n : Int) := by omega
            go_wp2
            go_ret
            exact ⟨rfl, bto HBW3.out HB9.out⟩
end Go.Proofs.Ytoeknpaogeelmaa
