/-
  Layer mark: MarkSees, walked.
-/
import Derived.Test.YtgoibcolehcgcaaKh
set_option linter.unusedSimpArgs false
set_option linter.unusedVariables false
set_option maxRecDepth 8000
namespace Go.Proofs.Ytgoibcolehcgcaa
open Go.RowKit Go.WideShapes Mk
/-- The marks of a law, beside a world that stays. -/
structure MKp (W9 : World) (bM : Nat) (n : Int) (g : Nat → Option Int) (w : World) : Prop where
  kept : Kept (fun k => k = bM) W9 w
  row : w.heap[bM]? = some (.cells (MC n g) 28 (0, 0))
section
variable {W9 w w' : World} {bM : Nat} {n : Int} {g : Nat → Option Int}
theorem MKp.next (h : MKp W9 bM n g w) (hb : Below w.heap.size w w') : MKp W9 bM n g w' := ⟨h.kept.trans (Kept.of_below hb), row_keep h.row hb⟩
theorem MKp.drew (h : MKp W9 bM n g w) : MKp W9 bM n g w.drew := ⟨h.kept.drew, h.row⟩
theorem MKp.put (h : MKp W9 bM n g w) (m : Int) (f : Nat → Option Int) : MKp W9 bM m f (w.setRow bM (MC m f)) :=
  ⟨h.kept.trans ⟨rfl, rfl, rfl, by simp, fun k _ hn => setRow_other w bM k _ (fun e => hn e)⟩, setRow_heap _ _ _ _ _ _ h.row⟩
end
set_option maxHeartbeats 1000000 in
theorem markSees_long (n : Int) (a : Option Addr) (ll c : Nat) (hL : 60 < ll) (hm : ll ≤ 9223372036854775807) (w : World) :
    Calls Try.prog 3 #[.int .i64 n, .slice a ll c] w fun e w' => e = .returned (.bool true) ∧ Below w.heap.size w w' := by
  have HB0 := Below.refl w.heap.size w
  go_enter Try.func3, Try.ntmps3
  go_wp2_with (go_at_call 6; (with_reducible refine (awakeM_any _).mono ?_); rintro e w' ⟨rfl, hb1⟩; replace HB0 := below_to HB0 hb1; clear hb1)
  go_ret
  exact ⟨rfl, HB0⟩
set_option maxHeartbeats 2000000 in
theorem markSees_no (n : Int) (hn : n < 1 ∨ 8 < n) (a : Option Addr) (ll c : Nat) (h60 : ll ≤ 60) (W : World) :
    Calls Try.prog 3 #[.int .i64 n, .slice a ll c] W fun e w' => e = .returned (.bool true) ∧ Below W.heap.size W w' := by
  have HN : Hid (∀ w, Calls Try.prog 7 #[.int .i64 n] w (NewM w 0 1)) := Lib.hid fun w => newM_no n hn w
  have HL : Hid (∀ w, Calls Try.prog 8 #[.agg (MC 0 (fun _ => none))] w (OfEnds w none)) := Lib.hid fun w => lowM_any 0 (fun _ => none) (by omega) w
  by_cases hlt : n < 1
  · go_enter Try.func3, Try.ntmps3
    go_wp2_with (first
      | (go_at_call 6; (with_reducible refine (awakeM_any _).mono ?_); rintro e w1 ⟨rfl, hb1⟩; have HB1 := Lib.hid hb1; clear hb1)
      | (go_at_call 7; (with_reducible refine (HN.out _).mono ?_); rintro e w2 ⟨rfl, hb⟩; have HM1 := Lib.hid (MAt.start (below_to HB1.out hb) 0 (fun _ => none)); clear hb)
      | (rw [zerosM]; refine wpList_store_row rfl 28 (.tmp 5) (.tmp 31) rfl w2.heap.size (MC 0 (fun _ => none)) rfl rfl _ _ HM1.out.row (iM _ _) rfl (MC_one _ _) ?_; have HM2 := Lib.hid (HM1.out.put 0 (fun _ => none)))
      | (refine wpList_load_row rfl 28 (.tmp 5) rfl w2.heap.size rfl _ (MC 0 (fun _ => none)) (0, 0) _ HM2.out.row uM rfl (iM _ _) ?_)
      | (go_at_call 8; (with_reducible refine (HL.out _).mono ?_); rintro e w5 ⟨rfl, hb⟩; have HM5 := Lib.hid (HM2.out.next hb); clear hb))
    go_ret
    exact ⟨rfl, HM5.out.below⟩
  · have h8 : 8 < n := by omega
    go_enter Try.func3, Try.ntmps3
    go_wp2_with (first
      | (go_at_call 6; (with_reducible refine (awakeM_any _).mono ?_); rintro e w1 ⟨rfl, hb1⟩; have HB1 := Lib.hid hb1; clear hb1)
      | (go_at_call 7; (with_reducible refine (HN.out _).mono ?_); rintro e w2 ⟨rfl, hb⟩; have HM1 := Lib.hid (MAt.start (below_to HB1.out hb) 0 (fun _ => none)); clear hb)
      | (rw [zerosM]; refine wpList_store_row rfl 28 (.tmp 5) (.tmp 31) rfl w2.heap.size (MC 0 (fun _ => none)) rfl rfl _ _ HM1.out.row (iM _ _) rfl (MC_one _ _) ?_; have HM2 := Lib.hid (HM1.out.put 0 (fun _ => none)))
      | (refine wpList_load_row rfl 28 (.tmp 5) rfl w2.heap.size rfl _ (MC 0 (fun _ => none)) (0, 0) _ HM2.out.row uM rfl (iM _ _) ?_)
      | (go_at_call 8; (with_reducible refine (HL.out _).mono ?_); rintro e w5 ⟨rfl, hb⟩; have HM5 := Lib.hid (HM2.out.next hb); clear hb))
    go_ret
    exact ⟨rfl, HM5.out.below⟩
set_option maxHeartbeats 4000000 in
theorem markSees_core (n : Nat) (h1 : 1 ≤ n) (h8 : n ≤ 8) (l : List Sn) (a : Option Addr) (ll c : Nat) (hll : Hid (ll = l.length)) (h60 : ll ≤ 60) (W : World) (H : Hid (SnAt W a l)) :
    Calls Try.prog 3 #[.int .i64 (n : Int), .slice a ll c] W fun e w' => e = .returned (.bool true) ∧ Below W.heap.size W w' := by
  go_enter Try.func3, Try.ntmps3
  go_upto_region 7 with (first
    | (go_at_call 6; (with_reducible refine (awakeM_any _).mono ?_); rintro e w1 ⟨rfl, hb1⟩; have HB1 := Lib.hid hb1; clear hb1)
    | (go_at_call 7; (with_reducible refine (newM_at n h1 h8 _).mono ?_); rintro e w2 ⟨rfl, hb⟩; have HM1 := Lib.hid (MAt.start (below_to HB1.out hb) 0 (fun _ => none)); clear hb)
    | (rw [zerosM]; refine wpList_store_row rfl 28 (.tmp 5) (.tmp 31) rfl w2.heap.size (MC (n : Int) (fun _ => none)) rfl rfl _ _ HM1.out.row (iM _ _) (by rw [MC_size, MC_size]) (MC_one _ _) ?_; have HM2 := Lib.hid (HM1.out.put (n : Int) (fun _ => none))))
  obtain ⟨bM, hbM⟩ : ∃ bM, bM = w2.heap.size := ⟨_, rfl⟩
  rw [← hbM] at HM2 ⊢
  obtain ⟨w4, hw4⟩ : ∃ w4, w4 = (w2.alloc (.cells (MC 0 (fun _ => none)) 28)).setRow bM (MC (n : Int) (fun _ => none)) := ⟨_, rfl⟩
  rw [← hw4] at HM2 ⊢
  clear hbM HM1 HB1 hw4
  go_upto_region 8 with (go_at_call 9; (with_reducible refine (near_any a ll c l hll h60 _ (Lib.hid (H.out.keep HM2.out.below))).mono ?_); rintro e W9 ⟨As, cs, s, rfl, ho, hb⟩)
  have HM9 := Lib.hid (HM2.out.next hb)
  have hsl : ll = s.length := by have := ho.1; rw [sns_length] at this; omega
  have HSL := Lib.hid hsl
  have HS := Lib.hid ho.at'
  have HSB : Hid (∀ g off, As = some ⟨g, off, none⟩ → 0 < ll → g ≠ bM) := Lib.hid fun g off e h0 => by
    rcases ho.2 with ⟨e0, e1⟩ | ⟨g', cap', cur, e0, hge, -⟩
    · omega
    · injection e0 with a1 a2 a3
      rw [e] at a1; injection a1 with a1; injection a1 with a1 _
      have := (Array.getElem?_eq_some_iff.1 HM2.out.row).1
      omega
  clear ho hb hsl HM2
  go_wp2_with fail
  go_loopw [10] (fun i wr => ∃ k : Nat, k ≤ ll ∧ i = .int .i64 (k : Int) ∧ Hid (MKp W9 bM (n : Int) (sees (n : Int) (s.take k)) wr)) (fun i _ => ll - (intOf i).toNat)
  case atStart => exact ⟨0, by omega, rfl, Lib.hid ⟨Kept.refl _ _, by rw [List.take_zero, sees_nil]; exact HM9.out.row⟩⟩
  case round =>
    obtain ⟨k, hk, rfl, HM⟩ := hrel
    by_cases hlt : k < ll
    · obtain ⟨x, hx⟩ : ∃ x, s[k]? = some x := ⟨s[k]'(by have := HSL.out; omega), List.getElem?_eq_getElem _⟩
      obtain ⟨bg, off, rfl, hg, c1, c2⟩ := HS.out.cells k x hx
      have hne := HSB.out bg off rfl (by omega)
      obtain ⟨q, t⟩ := x
      have HC1 := Lib.hid c1
      have HC2 := Lib.hid c2
      have HT : Hid (sees (n : Int) (s.take (k + 1)) = see (n : Int) (sees (n : Int) (s.take k)) q t) := Lib.hid (by
        obtain ⟨hk', e⟩ := List.getElem?_eq_some_iff.1 hx
        rw [List.take_succ_eq_append_getElem hk', e, sees_snoc])
      obtain ⟨g, hgg⟩ : ∃ g, g = sees (n : Int) (s.take k) := ⟨_, rfl⟩
      rw [← hgg] at HM HT
      clear c1 c2 hx hgg
      have hlen : (k : Int) < (ll : Int) := by omega
      go_upto_region 11 with fail
      replace HM := Lib.hid HM.out.drew
      refine wp_region_held_drew (S := Kept (fun k => k = bM) W9) (by kernel_rfl) HM.out.kept (fun hHeld => ?_)
      refine wpAnyH_take (i := 1) (v := .slice (some ⟨bg, off, none⟩) ll cs) rfl (by kernel_rfl) (by kernel_rfl) (by kernel_rfl) (fun _ _ _ h => h) (Or.inl ⟨by rfl, fun w _ => by first | rfl | go_simp⟩) hHeld ?_
      try dsimp only
      try simp only [Act.put, List.getElem_toArray, List.getElem_cons_zero, List.getElem_cons_succ, List.setIfInBounds_toArray, List.set_cons_zero, List.set_cons_succ]
      refine wpAnyH_take (i := 2) (v := .int .i64 (k : Int)) rfl (by kernel_rfl) (by kernel_rfl) (by kernel_rfl) (fun _ _ _ h => h) (Or.inl ⟨by rfl, fun w _ => by first | rfl | go_simp⟩) hHeld ?_
      try dsimp only
      try simp only [Act.put, List.getElem_toArray, List.getElem_cons_zero, List.getElem_cons_succ, List.setIfInBounds_toArray, List.set_cons_zero, List.set_cons_succ]
      refine wpAnyH_take (i := 3) (v := .pointer (some ⟨bg, off + k * 2, none⟩)) rfl (by kernel_rfl) (by kernel_rfl) (by kernel_rfl) (fun _ _ _ h => h) (Or.inl ⟨by rfl, fun w _ => by first | rfl | go_simp⟩) hHeld ?_
      try dsimp only
      try simp only [Act.put, List.getElem_toArray, List.getElem_cons_zero, List.getElem_cons_succ, List.setIfInBounds_toArray, List.set_cons_zero, List.set_cons_succ]
      refine wpAnyH_take (i := 4) (v := .pointer (some ⟨bg, off + k * 2, none⟩)) rfl (by kernel_rfl) (by kernel_rfl) (by kernel_rfl) (fun _ _ _ h => h) (Or.inl ⟨by rfl, fun w _ => by first | rfl | go_simp⟩) hHeld ?_
      try dsimp only
      try simp only [Act.put, List.getElem_toArray, List.getElem_cons_zero, List.getElem_cons_succ, List.setIfInBounds_toArray, List.set_cons_zero, List.set_cons_succ]
      refine wpAnyH_take (i := 5) (v := .int .i64 q) rfl (by kernel_rfl) (by kernel_rfl) (by kernel_rfl) (fun _ _ _ h => h) (yb_intK rfl (.tmp 62) rfl bg (off + k * 2) rfl _ (fun w hw => (hw.cell (p := ⟨bg, off + k * 2, none⟩) hg hne).trans HC1.out)) hHeld ?_
      try dsimp only
      try simp only [Act.put, List.getElem_toArray, List.getElem_cons_zero, List.getElem_cons_succ, List.setIfInBounds_toArray, List.set_cons_zero, List.set_cons_succ]
      refine wpAnyH_take (i := 6) (v := .slice (some ⟨bg, off, none⟩) ll cs) rfl (by kernel_rfl) (by kernel_rfl) (by kernel_rfl) (fun _ _ _ h => h) (Or.inl ⟨by rfl, fun w _ => by first | rfl | go_simp⟩) hHeld ?_
      try dsimp only
      try simp only [Act.put, List.getElem_toArray, List.getElem_cons_zero, List.getElem_cons_succ, List.setIfInBounds_toArray, List.set_cons_zero, List.set_cons_succ]
      refine wpAnyH_take (i := 7) (v := .int .i64 (k : Int)) rfl (by kernel_rfl) (by kernel_rfl) (by kernel_rfl) (fun _ _ _ h => h) (Or.inl ⟨by rfl, fun w _ => by first | rfl | go_simp⟩) hHeld ?_
      try dsimp only
      try simp only [Act.put, List.getElem_toArray, List.getElem_cons_zero, List.getElem_cons_succ, List.setIfInBounds_toArray, List.set_cons_zero, List.set_cons_succ]
      refine wpAnyH_take (i := 8) (v := .pointer (some ⟨bg, off + k * 2, none⟩)) rfl (by kernel_rfl) (by kernel_rfl) (by kernel_rfl) (fun _ _ _ h => h) (Or.inl ⟨by rfl, fun w _ => by first | rfl | go_simp⟩) hHeld ?_
      try dsimp only
      try simp only [Act.put, List.getElem_toArray, List.getElem_cons_zero, List.getElem_cons_succ, List.setIfInBounds_toArray, List.set_cons_zero, List.set_cons_succ]
      refine wpAnyH_take (i := 9) (v := .pointer (some ⟨bg, off + k * 2 + 1, none⟩)) rfl (by kernel_rfl) (by kernel_rfl) (by kernel_rfl) (fun _ _ _ h => h) (Or.inl ⟨by rfl, fun w _ => by first | rfl | go_simp⟩) hHeld ?_
      try dsimp only
      try simp only [Act.put, List.getElem_toArray, List.getElem_cons_zero, List.getElem_cons_succ, List.setIfInBounds_toArray, List.set_cons_zero, List.set_cons_succ]
      refine wpAnyH_take (i := 10) (v := .int .i64 t) rfl (by kernel_rfl) (by kernel_rfl) (by kernel_rfl) (fun _ _ _ h => h) (yb_i64K rfl (.tmp 67) rfl bg (off + k * 2 + 1) rfl _ (fun w hw => (hw.cell (p := ⟨bg, off + k * 2 + 1, none⟩) hg hne).trans HC2.out)) hHeld ?_
      try dsimp only
      try simp only [Act.put, List.getElem_toArray, List.getElem_cons_zero, List.getElem_cons_succ, List.setIfInBounds_toArray, List.set_cons_zero, List.set_cons_succ]
      refine wpAnyH_ready (rs := [0]) (by kernel_rfl) (by simp) (AllReadyH.cons rfl (fun K hK => ?_) AllReadyH.nil)
      rw [if_pos (by rfl)]
      refine wp_load_row 28 (.tmp 5) rfl bM rfl _ (MC (n : Int) g) (0, 0) _ HM.out.row uM rfl (iM _ _) ?_
      refine hK.out _ _ HM.out.kept (fun hHeld => ?_)
      clear hK K
      try dsimp only
      try simp only [Act.put, List.getElem_toArray, List.getElem_cons_zero, List.getElem_cons_succ, List.setIfInBounds_toArray, List.set_cons_zero, List.set_cons_succ]
      refine wpAnyH_ready (rs := [11]) (by kernel_rfl) (by simp) (AllReadyH.cons rfl (fun K hK => ?_) AllReadyH.nil)
      go_simp
      refine (seeM_any (n : Int) q t g (by omega) _).mono ?_
      rintro e w7 ⟨rfl, hb7⟩
      replace HM := Lib.hid (HM.out.next hb7)
      clear hb7
      refine hK.out _ _ HM.out.kept (fun hHeld => ?_)
      clear hK K
      try dsimp only
      try simp only [Act.put, List.getElem_toArray, List.getElem_cons_zero, List.getElem_cons_succ, List.setIfInBounds_toArray, List.set_cons_zero, List.set_cons_succ]
      refine wpAnyH_ready (rs := [12]) (by kernel_rfl) (by simp) (AllReadyH.cons rfl (fun K hK => ?_) AllReadyH.nil)
      rw [if_pos (by rfl)]
      refine wp_store_row 28 (.tmp 5) (.tmp 69) rfl bM (MC (n : Int) (see (n : Int) g q t)) rfl rfl _ _ HM.out.row (iM _ _) (by rw [MC_size, MC_size]) (MC_one _ _) ?_
      replace HM := Lib.hid (HM.out.put (n : Int) (see (n : Int) g q t))
      refine hK.out _ _ HM.out.kept (fun hHeld => ?_)
      clear hK K
      refine wpAnyH_done (by kernel_rfl) ?_ _
      clear hHeld
      go_wp2
      go_roundw
      case rel => exact ⟨k + 1, by omega, by go_num, by rw [HT.out]; exact HM⟩
      case measure => simp [intOf]; omega
    · obtain rfl : k = ll := by omega
      rw [List.take_of_length_le (by have := HSL.out; omega)] at HM
      obtain ⟨g, hgg⟩ : ∃ g, g = sees (n : Int) s := ⟨_, rfl⟩
      rw [← hgg] at HM
      have HGG := Lib.hid hgg
      clear hgg
      have HWB : Hid (∀ w, MKp W9 bM (n : Int) g w → Below W.heap.size W w) := Lib.hid fun w h => HM9.out.below.trans (h.kept.below HM9.out.below.size (fun k hk => by rw [hk]; exact HM9.out.ge))
      go_wp2_with fail
      go_loopw [11] (fun i wr => ∃ p : Int, -1 ≤ p ∧ p ≤ 9 ∧ i = .int .i64 p ∧ Hid (MKp W9 bM (n : Int) g wr)) (fun i _ => (9 - intOf i).toNat)
      case atStart => exact ⟨-1, by omega, by omega, rfl, HM⟩
      case round =>
        obtain ⟨p, hp1, hp2, rfl, HM⟩ := hrel
        by_cases hlt2 : p < 9
        · obtain ⟨o, ho⟩ : ∃ o, o = if 0 ≤ p ∧ p < (n : Int) then g p.toNat else none := ⟨_, rfl⟩
          have HR : Hid (∀ w, SnAt w As s → Calls Try.prog 12 #[.slice As k cs, .int .i64 (n : Int), .int .i64 p] w fun e w' => e = .returned (.tuple #[.int .i64 (o.getD 0), .bool o.isSome]) ∧ w = w') := Lib.hid fun w hs => by
            have h := refOfM_any (n : Int) p s k cs As HSL (by omega) w (Lib.hid hs)
            have e : ofL (n : Int) p s = o := by
              rw [ho]
              by_cases h : 0 ≤ p ∧ p < (n : Int)
              · rw [if_pos h, HGG.out]
                show _ = ofL (n : Int) (p.toNat : Int) s
                rw [Int.toNat_of_nonneg h.1]
              · rw [if_neg h, ofL_out _ _ h]
            rwa [e] at h
          have HO := Lib.hid ho
          clear ho
          have HSK : Hid (∀ w, MKp W9 bM (n : Int) g w → SnAt w As s) := Lib.hid fun w h j v hv => by
            obtain ⟨g1, o1, e1, h2, h3⟩ := HS.out j v hv
            have h0 : 0 < k := by
              have := (List.getElem?_eq_some_iff.1 hv).1
              rw [sns_length] at this; have := HSL.out; omega
            exact ⟨g1, o1, e1, Nat.lt_of_lt_of_le h2 h.kept.size, (h.kept.cell (p := ⟨g1, o1 + j, none⟩) h2 (HSB.out g1 o1 e1 h0)).trans h3⟩
          go_wp2_with (first
            | (refine wpList_load_row rfl 28 (.tmp 5) rfl bM rfl _ (MC (n : Int) g) (0, 0) _ HM.out.row uM rfl (iM _ _) ?_)
            | (go_at_call 11; (with_reducible refine (ofM_any (n : Int) p g (by omega) o HO _).mono ?_); rintro e w5 ⟨rfl, hb⟩; have HM5 := Lib.hid (HM.out.next hb); clear hb)
            | (go_at_call 12; (with_reducible refine (HR.out _ (HSK.out _ HM5.out)).mono ?_); rintro e w6 ⟨rfl, rfl⟩))
          go_roundw
          case rel => exact ⟨p + 1, by omega, by omega, by go_num, HM5⟩
          case measure => simp [intOf]; omega
        · obtain rfl : p = 9 := by omega
          have HSK : Hid (∀ w, MKp W9 bM (n : Int) g w → SnAt w As s) := Lib.hid fun w h j v hv => by
            obtain ⟨g1, o1, e1, h2, h3⟩ := HS.out j v hv
            have h0 : 0 < k := by
              have := (List.getElem?_eq_some_iff.1 hv).1
              rw [sns_length] at this; have := HSL.out; omega
            exact ⟨g1, o1, e1, Nat.lt_of_lt_of_le h2 h.kept.size, (h.kept.cell (p := ⟨g1, o1 + j, none⟩) h2 (HSB.out g1 o1 e1 h0)).trans h3⟩
          obtain ⟨o, ho⟩ : ∃ o, o = lowO g n := ⟨_, rfl⟩
          have HL1 : Hid (∀ w, Calls Try.prog 8 #[.agg (MC (n : Int) g)] w (OfEnds w o)) := Lib.hid fun w => by rw [ho]; exact lowM_any n g (by omega) w
          have HL2 : Hid (∀ w, SnAt w As s → Calls Try.prog 13 #[.slice As k cs, .int .i64 (n : Int)] w fun e w' => e = .returned (.tuple #[.int .i64 (o.getD 0), .bool o.isSome]) ∧ w = w') := Lib.hid fun w hs => by
            have h := refLowM_any n h8 s k cs As HSL (by omega) w (Lib.hid hs)
            rwa [← HGG.out, ← ho] at h
          clear ho
          go_wp2_with (first
            | (refine wpList_load_row rfl 28 (.tmp 5) rfl bM rfl _ (MC (n : Int) g) (0, 0) _ HM.out.row uM rfl (iM _ _) ?_)
            | (go_at_call 8; (with_reducible refine (HL1.out _).mono ?_); rintro e w5 ⟨rfl, hb⟩; have HM5 := Lib.hid (HM.out.next hb); clear hb)
            | (go_at_call 13; (with_reducible refine (HL2.out _ (HSK.out _ HM5.out)).mono ?_); rintro e w6 ⟨rfl, rfl⟩))
          go_ret
          exact ⟨rfl, HWB.out _ HM5.out⟩
theorem markSees_any (n : Int) (a : Option Addr) (l : List Sn) (ll c : Nat) (hll : Hid (ll = l.length)) (hs : ll ≤ c) (hm' : c ≤ maxLen) (W : World) (H : Hid (SnAt W a l)) :
    Calls Try.prog 3 #[.int .i64 n, .slice a ll c] W fun e w' => e = .returned (.bool true) ∧ Below W.heap.size W w' := by
  have hm : ll ≤ 9223372036854775807 := by unfold maxLen at hm'; omega
  by_cases hL : 60 < ll
  · exact markSees_long n a ll c hL hm W
  · by_cases h : 1 ≤ n ∧ n ≤ 8
    · obtain ⟨m, rfl⟩ : ∃ m : Nat, n = (m : Int) := ⟨n.toNat, by omega⟩
      exact markSees_core m (by omega) (by omega) l a ll c hll (by omega) W H
    · exact markSees_no n (by omega) a ll c (by omega) W
end Go.Proofs.Ytgoibcolehcgcaa
