/-
  Layer mark: the contract of Read, of any bytes.
-/
import Derived.Test.YtgoibcolehcgcaaKl
import Derived.Test.YtgoibcolehcgcaaCy
set_option linter.unusedSimpArgs false
set_option linter.unusedVariables false
set_option maxRecDepth 8000
namespace Go.Proofs.Ytgoibcolehcgcaa
open Go.RowKit Go.WideShapes Mk Col
/-- How a reading of marks ends. -/
def MRd (rb : Nat) (w : World) (q : List Nat) (e : Ending) (w' : World) : Prop := Kept (fun k => k = rb ∨ w.heap.size ≤ k) w w' ∧ ((∃ n G r, e = .returned (.agg (MC ((n : Nat) : Int) G)) ∧ Rd w' rb r ∧ q = mkB n G ++ r ∧ n ≤ 8 ∧ MWf G) ∨ (e = .panicked [gu rb] ∧ Gone w' rb))
/-- While marks are read: the reader, the marks so far, the result's own block. -/
structure MR (w : World) (rb b1 : Nat) (r : List Nat) (n : Int) (G : Nat → Option Int) (wr : World) : Prop where
  rd : Rd wr rb r
  row : wr.heap[b1]? = some (.cells (MC n G) 28 (0, 0))
  res : wr.heap[w.heap.size]? = some (.cells (MC 0 (fun _ => none)) 28 (0, 0))
  kept : Kept (fun k => k = rb ∨ w.heap.size ≤ k) w wr
  lt : rb < w.heap.size
  gt : w.heap.size < b1
theorem Rd.gltK {w : World} {g : Nat} {q : List Nat} (h : Rd w g q) : g < w.heap.size := by obtain ⟨A, C, h⟩ := h; exact h.lt
theorem Rd.highK {w w' : World} {g : Nat} {q : List Nat} {S : Nat → Prop} (h : Rd w g q) (hk : Kept S w w') (hS : ∀ k, S k → g < k) : Rd w' g q := by
  obtain ⟨A, C, h⟩ := h
  exact ⟨A, C, h.keep hk (fun e => by have := hS g e; omega) fun a ha h0 hs => by have := h.low a ha h0; have := hS _ hs; omega⟩
theorem kept_setRowK (w : World) (g : Nat) (c : Array Value) : Kept (fun k => k = g) w (w.setRow g c) := ⟨rfl, rfl, rfl, by simp, fun k _ hn => setRow_other w g k c hn⟩
section
variable {w wr w2 : World} {rb b1 : Nat} {q r : List Nat} {n : Int} {G : Nat → Option Int}
theorem MR.read (H : MR w rb b1 q n G wr) (hr : Rd w2 rb r) (hk : Kept (Only rb) wr w2) : MR w rb b1 r n G w2 :=
  ⟨hr, hk.heap H.row (fun h => by have h : b1 = rb := h; have := H.lt; have := H.gt; omega), hk.heap H.res (fun h => by have h : w.heap.size = rb := h; have := H.lt; omega), H.kept.trans (hk.mono fun k h => .inl (.inl h)), H.lt, H.gt⟩
theorem MR.next (H : MR w rb b1 q n G wr) (hb : Below wr.heap.size wr w2) : MR w rb b1 q n G w2 :=
  ⟨H.rd.highK (S := fun _ => False) (Kept.of_below hb) (fun _ h => h.elim), row_keep H.row hb, row_keep H.res hb, H.kept.trans (Kept.of_below hb), H.lt, H.gt⟩
theorem MR.drew (H : MR w rb b1 q n G wr) : MR w rb b1 q n G wr.drew :=
  ⟨H.rd.highK (S := fun _ => False) ((Kept.refl _ _).drew) (fun _ h => h.elim), H.row, H.res, H.kept.drew, H.lt, H.gt⟩
theorem MR.put (H : MR w rb b1 q n G wr) (m : Int) (F : Nat → Option Int) : MR w rb b1 q m F (wr.setRow b1 (MC m F)) :=
  ⟨H.rd.highK (kept_setRowK _ _ _) (fun k hk => by have := H.lt; have := H.gt; have hk : k = b1 := hk; omega), setRow_heap _ _ _ _ _ _ H.row, (setRow_other _ _ _ _ (by have := H.gt; omega)).trans H.res,
    H.kept.trans ((kept_setRowK _ _ _).mono fun k hk => .inl (.inr (by have := H.gt; have hk : k = b1 := hk; omega))), H.lt, H.gt⟩
end
theorem MR.start {w w1 : World} {rb : Nat} {r : List Nat} (hr : Rd w1 rb r) (hk : Kept (Only rb) (w.alloc (.cells (MC 0 (fun _ => none)) 28)) w1) (hlt : rb < w.heap.size) : MR w rb w1.heap.size r 0 (fun _ => none) (w1.alloc (.cells (MC 0 (fun _ => none)) 28)) := by
  have e := heap_alloc_new' w1 (.cells (MC 0 (fun _ => none)) 28)
  have hs := hk.size
  have hs' : (w.alloc (.cells (MC 0 (fun _ => none)) 28)).heap.size = w.heap.size + 1 := by simp
  have h1 := hk.heap (heap_alloc_new' w (.cells (MC 0 (fun _ => none)) 28)) (fun h => by have h : w.heap.size = rb := h; omega)
  exact ⟨hr.highK (S := fun _ => False) ((Kept.refl _ _).alloc _) (fun _ h => h.elim), e, (Below.heap_alloc _ _ _ (by omega)).trans h1,
    (((Kept.refl _ _).alloc _).trans' hk (fun k hk => .inl (.inl hk))).alloc _, hlt, by omega⟩
theorem i64_of (n : Nat) (h : n ≤ 8) : IntKind.i64.wrap (n : Int) = (n : Int) := by rw [IntKind.wrap_i64]; omega
set_option maxHeartbeats 4000000 in
theorem readM_any (rb : Nat) (q : List Nat) (hql : q.length ≤ 1000) (w : World) (H : Hid (Rd w rb q)) :
    Calls Try.prog 16 #[.pointer (some ⟨rb, 0, none⟩)] w (MRd rb w q) := by
  have HQ0 := Lib.hid H.out.lt
  have hlt := H.out.gltK
  have HRD : Hid (Rd (w.alloc (.cells (MC 0 (fun _ => none)) 28)) rb q) := Lib.hid (H.out.highK (S := fun _ => False) ((Kept.refl _ _).alloc _) (fun _ h => h.elim))
  rcases hu : uP 8 q with _ | ⟨n, r⟩
  · have HUN : Hid (Calls Try.prog 20 #[.pointer (some ⟨rb, 0, none⟩), .int .u64 8] (w.alloc (.cells (MC 0 (fun _ => none)) 28)) (No rb (w.alloc (.cells (MC 0 (fun _ => none)) 28)))) := Lib.hid (uint_no rb 8 q (Lib.hid hu) q.length (Lib.hid rfl) (by omega) _ HRD)
    clear hu
    go_enter Try.func16, Try.ntmps16
    go_wp2_with (go_at_call 20; rw [zerosM]; (with_reducible refine (HUN.out).mono ?_); rintro e w1 ⟨rfl, h1, h2⟩)
    exact ⟨rfl, ((Kept.refl _ _).alloc _).trans' h2 (fun k hk => .inl (.inl hk)), .inr ⟨rfl, h1⟩⟩
  · obtain ⟨hq, hn8⟩ := uP_canon H.out.lt hu
    have HQ := Lib.hid hq
    have HQL : Hid (r.length ≤ 1000) := Lib.hid (by rw [hq, List.length_append] at hql; omega)
    have HUY : Hid (Calls Try.prog 20 #[.pointer (some ⟨rb, 0, none⟩), .int .u64 8] (w.alloc (.cells (MC 0 (fun _ => none)) 28)) (Yes rb (w.alloc (.cells (MC 0 (fun _ => none)) 28)) (.int .u64 (n : Int)) r)) := Lib.hid (uint_yes rb 8 n q r (Lib.hid hu) (by omega) _ HRD)
    have hw8 := i64_of n hn8
    clear hu hq
    by_cases h1 : 1 ≤ n
    · go_enter Try.func16, Try.ntmps16
      go_upto_region 2 with (first
      | (go_at_call 20; rw [zerosM]; (with_reducible refine (HUY.out).mono ?_); rintro e w1 hy; obtain ⟨rfl, HR1, HK1⟩ := Yes.rd hy; clear hy; have HM1 := Lib.hid (MR.start HR1.out HK1.out hlt))
      | (refine wpList_buildM rfl (.tmp 8) rfl (n : Int) rfl ?_)
      | (rw [zerosM]; refine wpList_store_row rfl 28 (.tmp 3) (.tmp 9) rfl w1.heap.size (MC (n : Int) (fun _ => none)) rfl rfl _ _ HM1.out.row (iM _ _) (by rw [MC_size, MC_size]) (MC_one _ _) ?_; have HM2 := Lib.hid (HM1.out.put (n : Int) (fun _ => none)); have c2 := cell_of_row _ _ 0 _ _ _ HM2.out.row; rw [MC_n] at c2))
      obtain ⟨b1, hb1⟩ : ∃ b1, b1 = w1.heap.size := ⟨_, rfl⟩
      obtain ⟨w2, hw2⟩ : ∃ w2, w2 = (w1.alloc (.cells (MC 0 (fun _ => none)) 28)).setRow b1 (MC (n : Int) (fun _ => none)) := ⟨_, rfl⟩
      rw [← hb1] at HM2 c2 ⊢
      rw [← hw2] at HM2 c2 ⊢
      clear hb1 hw2 HM1 HR1 HK1
      have hd : decide ((1 : Int) ≤ (n : Int)) = true := decide_eq_true (by omega)
      go_upto_region 3 with (first
        | (go_at_call 21; (with_reducible refine (check_true _ _).mono ?_); rintro e w5 ⟨rfl, rfl⟩))
      clear hd
      go_wp2_with fail
      go_loopw [17] (fun i wr => ∃ k : Nat, k ≤ n ∧ i = .int .i64 (k : Int) ∧ ∃ r G, Hid (MR w rb b1 r (n : Int) G wr) ∧ Hid (q = ub n ++ pcs G k ++ r) ∧ Hid (∀ i, k ≤ i → G i = none) ∧ Hid (MWf G)) (fun i _ => n - (intOf i).toNat)
      case atStart => exact ⟨0, by omega, rfl, r, fun _ => none, HM2, Lib.hid (by rw [pcs_zero, List.append_nil]; exact HQ.out), Lib.hid (fun _ _ => rfl), Lib.hid (fun i t h => by cases h)⟩
      case round =>
        clear HQ HQL HM2 c2
        obtain ⟨k, hk, rfl, r, G, HM, HQ, HN, HW⟩ := hrel
        have HQL : Hid (r.length ≤ 1000) := Lib.hid (by have := hql; rw [HQ.out, List.length_append] at this; omega)
        by_cases hkn : k < n
        · have HGK := Lib.hid (HN.out k (Nat.le_refl _))
          rcases r with _ | ⟨b, r⟩
          · go_wp2_with (first
              | (go_at_call 22; (with_reducible refine (byte_no rb _ (Lib.hid HM.out.rd)).mono ?_); rintro e w4 ⟨rfl, hg4, hk4⟩))
            exact ⟨rfl, HM.out.kept.trans (hk4.mono fun k h => .inl (.inl h)), .inr ⟨rfl, hg4⟩⟩
          · have hb256 : b < 256 := HM.out.rd.lt b (by simp)
            have HRL : Hid (r.length ≤ 1000) := Lib.hid (by have := HQL.out; rw [List.length_cons] at this; omega)
            have HBY : Hid (Calls Try.prog 22 #[.pointer (some ⟨rb, 0, none⟩)] wr (Yes rb wr (.int .u8 (b : Int)) r)) := Lib.hid (byte_yes rb b r _ (Lib.hid HM.out.rd))
            by_cases hb2 : 1 < b
            · have hd1 : decide ((b : Int) ≤ 1) = false := decide_eq_false (by omega)
              go_wp2_with (first
                | (go_at_call 22; (with_reducible refine (HBY.out).mono ?_); rintro e w3 hy; obtain ⟨rfl, HR3, HK3⟩ := Yes.rd hy; clear hy)
                | (go_at_call 21; obtain ⟨A1, C1, hR⟩ := HR3.out; (with_reducible refine (check_false rb C1 A1 r _ (Lib.hid hR)).mono ?_); rintro e w4 ⟨rfl, hg4, hk4⟩))
              exact ⟨rfl, (HM.out.kept.trans (HK3.out.mono fun k h => .inl (.inl h))).trans (hk4.mono fun k h => .inl (.inl h)), .inr ⟨rfl, hg4⟩⟩
            · by_cases hb0 : b = 0
              · subst hb0
                have HQ2 : Hid (q = ub n ++ pcs G (k + 1) ++ r) := Lib.hid (by rw [HQ.out, pcs_none HGK.out]; simp)
                have HN2 : Hid (∀ i, k + 1 ≤ i → G i = none) := Lib.hid fun i hi => HN.out i (by omega)
                have HBY : Hid (Calls Try.prog 22 #[.pointer (some ⟨rb, 0, none⟩)] wr (Yes rb wr (.int .u8 0) r)) := HBY
                go_wp2_with (first
                  | (go_at_call 22; (with_reducible refine (HBY.out).mono ?_); rintro e w3 hy; obtain ⟨rfl, HR3, HK3⟩ := Yes.rd hy; clear hy)
                  | (go_at_call 21; (with_reducible refine (check_true _ _).mono ?_); rintro e w4 ⟨rfl, rfl⟩))
                have HM3 := Lib.hid (HM.out.read HR3.out HK3.out)
                go_roundw
                case rel => exact ⟨k + 1, by omega, by go_num, r, G, HM3, HQ2, HN2, HW⟩
                case measure => simp [intOf]; omega
              · obtain rfl : b = 1 := by omega
                have HBY : Hid (Calls Try.prog 22 #[.pointer (some ⟨rb, 0, none⟩)] wr (Yes rb wr (.int .u8 1) r)) := HBY
                have HQ1 : Hid (q = ub n ++ pcs G k ++ 1 :: r) := HQ
                have HRB := Lib.hid HM.out.rd.lt
                go_upto_region 9 with (first
                  | (go_at_call 22; (with_reducible refine (HBY.out).mono ?_); rintro e w3 hy; obtain ⟨rfl, HR3, HK3⟩ := Yes.rd hy; clear hy)
                  | (go_at_call 21; (with_reducible refine (check_true _ _).mono ?_); rintro e w4 ⟨rfl, rfl⟩))
                replace HM := Lib.hid (HM.out.read HR3.out HK3.out)
                clear HR3 HK3 HBY
                rcases hz : zP r with _ | ⟨t, r2⟩
                · have HZ := Lib.hid hz
                  clear hz
                  replace HM := Lib.hid HM.out.drew
                  refine wp_region_held_drew (S := fun _ => True) (by kernel_rfl) trivial (fun hHeld => ?_)
                  refine wpAnyH_take (i := 1) (v := .int .i64 (k : Int)) rfl (by kernel_rfl) (by kernel_rfl) (by kernel_rfl) (fun _ _ _ h => h) (Or.inl ⟨by rfl, fun _ _ => rfl⟩) hHeld ?_
                  try dsimp only
                  try simp only [Act.put, List.getElem_toArray, List.getElem_cons_zero, List.getElem_cons_succ, List.setIfInBounds_toArray, List.set_cons_zero, List.set_cons_succ]
                  refine wpAnyH_take (i := 2) (v := .pointer (some ⟨rb, 0, none⟩)) rfl (by kernel_rfl) (by kernel_rfl) (by kernel_rfl) (fun _ _ _ h => h) (Or.inl ⟨by rfl, fun _ _ => rfl⟩) hHeld ?_
                  try dsimp only
                  try simp only [Act.put, List.getElem_toArray, List.getElem_cons_zero, List.getElem_cons_succ, List.setIfInBounds_toArray, List.set_cons_zero, List.set_cons_succ]
                  refine wpAnyH_ready (rs := [0, 3]) (by kernel_rfl) (by simp) (AllReadyH.cons rfl (fun K hK => ?_) (AllReadyH.cons rfl (fun K hK => ?_) AllReadyH.nil))
                  · skip
                    rw [if_pos (by rfl)]
                    refine wp_load_row 28 (.tmp 3) rfl b1 rfl _ (MC (n : Int) G) (0, 0) _ HM.out.row uM rfl (iM _ _) ?_
                    refine hK.out _ _ trivial (fun hHeld => ?_)
                    clear hK K
                    try dsimp only
                    try simp only [Act.put, List.getElem_toArray, List.getElem_cons_zero, List.getElem_cons_succ, List.setIfInBounds_toArray, List.set_cons_zero, List.set_cons_succ]
                    refine wpAnyH_ready (rs := [3]) (by kernel_rfl) (by simp) (AllReadyH.cons rfl (fun K hK => ?_) AllReadyH.nil)
                    go_simp
                    refine (int_no rb r HZ r.length (Lib.hid rfl) (by have := HRL.out; omega) _ (Lib.hid HM.out.rd)).mono ?_
                    rintro e w4 ⟨rfl, hg4, hk4⟩
                    exact ⟨rfl, HM.out.kept.trans (hk4.mono fun k h => .inl (.inl h)), .inr ⟨rfl, hg4⟩⟩
                  · skip
                    go_simp
                    refine (int_no rb r HZ r.length (Lib.hid rfl) (by have := HRL.out; omega) _ (Lib.hid HM.out.rd)).mono ?_
                    rintro e w4 ⟨rfl, hg4, hk4⟩
                    exact ⟨rfl, HM.out.kept.trans (hk4.mono fun k h => .inl (.inl h)), .inr ⟨rfl, hg4⟩⟩
                · have HZ := Lib.hid hz
                  obtain ⟨hz1, hz2⟩ := zP_canon (fun x hx => HRB.out x (by simp [hx])) hz
                  have HQ2 : Hid (q = ub n ++ pcs (see (n : Int) G (k : Int) t) (k + 1) ++ r2) := Lib.hid (by rw [HQ1.out, hz1, pcs_see (by omega) HGK.out]; simp)
                  have HN2 : Hid (∀ i, k + 1 ≤ i → see (n : Int) G (k : Int) t i = none) := Lib.hid fun i hi => by rw [see_off _ _ _ _ (by omega)]; exact HN.out i (by omega)
                  have HW2 : Hid (MWf (see (n : Int) G (k : Int) t)) := Lib.hid (see_wf (by omega) HGK.out hz2 HW.out)
                  clear hz hz1 hz2
                  replace HM := Lib.hid HM.out.drew
                  refine wp_region_held_drew (S := fun _ => True) (by kernel_rfl) trivial (fun hHeld => ?_)
                  refine wpAnyH_take (i := 1) (v := .int .i64 (k : Int)) rfl (by kernel_rfl) (by kernel_rfl) (by kernel_rfl) (fun _ _ _ h => h) (Or.inl ⟨by rfl, fun _ _ => rfl⟩) hHeld ?_
                  try dsimp only
                  try simp only [Act.put, List.getElem_toArray, List.getElem_cons_zero, List.getElem_cons_succ, List.setIfInBounds_toArray, List.set_cons_zero, List.set_cons_succ]
                  refine wpAnyH_take (i := 2) (v := .pointer (some ⟨rb, 0, none⟩)) rfl (by kernel_rfl) (by kernel_rfl) (by kernel_rfl) (fun _ _ _ h => h) (Or.inl ⟨by rfl, fun _ _ => rfl⟩) hHeld ?_
                  try dsimp only
                  try simp only [Act.put, List.getElem_toArray, List.getElem_cons_zero, List.getElem_cons_succ, List.setIfInBounds_toArray, List.set_cons_zero, List.set_cons_succ]
                  refine wpAnyH_ready (rs := [0, 3]) (by kernel_rfl) (by simp) (AllReadyH.cons rfl (fun K hK => ?_) (AllReadyH.cons rfl (fun K hK => ?_) AllReadyH.nil))
                  · skip
                    rw [if_pos (by rfl)]
                    refine wp_load_row 28 (.tmp 3) rfl b1 rfl _ (MC (n : Int) G) (0, 0) _ HM.out.row uM rfl (iM _ _) ?_
                    refine hK.out _ _ trivial (fun hHeld => ?_)
                    clear hK K
                    try dsimp only
                    try simp only [Act.put, List.getElem_toArray, List.getElem_cons_zero, List.getElem_cons_succ, List.setIfInBounds_toArray, List.set_cons_zero, List.set_cons_succ]
                    refine wpAnyH_ready (rs := [3]) (by kernel_rfl) (by simp) (AllReadyH.cons rfl (fun K hK => ?_) AllReadyH.nil)
                    go_simp
                    refine (int_yes rb t r r2 HZ (by have := HRL.out; omega) _ (Lib.hid HM.out.rd)).mono ?_
                    rintro e w4 ⟨rfl, hr4, hk4⟩
                    replace HM := Lib.hid (HM.out.read hr4 hk4)
                    clear hr4 hk4
                    refine hK.out _ _ trivial (fun hHeld => ?_)
                    clear hK K
                    try dsimp only
                    try simp only [Act.put, List.getElem_toArray, List.getElem_cons_zero, List.getElem_cons_succ, List.setIfInBounds_toArray, List.set_cons_zero, List.set_cons_succ]
                    refine wpAnyH_ready (rs := [4]) (by kernel_rfl) (by simp) (AllReadyH.cons rfl (fun K hK => ?_) AllReadyH.nil)
                    go_simp
                    refine (seeM_any (n : Int) (k : Int) t G (by omega) _).mono ?_
                    rintro e w7 ⟨rfl, hb7⟩
                    replace HM := Lib.hid (HM.out.next hb7)
                    clear hb7
                    refine hK.out _ _ trivial (fun hHeld => ?_)
                    clear hK K
                    try dsimp only
                    try simp only [Act.put, List.getElem_toArray, List.getElem_cons_zero, List.getElem_cons_succ, List.setIfInBounds_toArray, List.set_cons_zero, List.set_cons_succ]
                    refine wpAnyH_ready (rs := [5]) (by kernel_rfl) (by simp) (AllReadyH.cons rfl (fun K hK => ?_) AllReadyH.nil)
                    rw [if_pos (by rfl)]
                    refine wp_store_row 28 (.tmp 3) (.tmp 32) rfl b1 (MC (n : Int) (see (n : Int) G (k : Int) t)) rfl rfl _ _ HM.out.row (iM _ _) (by rw [MC_size, MC_size]) (MC_one _ _) ?_
                    replace HM := Lib.hid (HM.out.put (n : Int) (see (n : Int) G (k : Int) t))
                    refine hK.out _ _ trivial (fun hHeld => ?_)
                    clear hK K
                    refine wpAnyH_done (by kernel_rfl) ?_ _
                    clear hHeld
                    go_wp2
                    go_roundw
                    case rel => exact ⟨k + 1, by omega, by go_num, r2, _, HM, HQ2, HN2, HW2⟩
                    case measure => simp [intOf]; omega
                  · skip
                    go_simp
                    refine (int_yes rb t r r2 HZ (by have := HRL.out; omega) _ (Lib.hid HM.out.rd)).mono ?_
                    rintro e w4 ⟨rfl, hr4, hk4⟩
                    replace HM := Lib.hid (HM.out.read hr4 hk4)
                    clear hr4 hk4
                    refine hK.out _ _ trivial (fun hHeld => ?_)
                    clear hK K
                    try dsimp only
                    try simp only [Act.put, List.getElem_toArray, List.getElem_cons_zero, List.getElem_cons_succ, List.setIfInBounds_toArray, List.set_cons_zero, List.set_cons_succ]
                    refine wpAnyH_ready (rs := [0]) (by kernel_rfl) (by simp) (AllReadyH.cons rfl (fun K hK => ?_) AllReadyH.nil)
                    rw [if_pos (by rfl)]
                    refine wp_load_row 28 (.tmp 3) rfl b1 rfl _ (MC (n : Int) G) (0, 0) _ HM.out.row uM rfl (iM _ _) ?_
                    refine hK.out _ _ trivial (fun hHeld => ?_)
                    clear hK K
                    try dsimp only
                    try simp only [Act.put, List.getElem_toArray, List.getElem_cons_zero, List.getElem_cons_succ, List.setIfInBounds_toArray, List.set_cons_zero, List.set_cons_succ]
                    refine wpAnyH_ready (rs := [4]) (by kernel_rfl) (by simp) (AllReadyH.cons rfl (fun K hK => ?_) AllReadyH.nil)
                    go_simp
                    refine (seeM_any (n : Int) (k : Int) t G (by omega) _).mono ?_
                    rintro e w7 ⟨rfl, hb7⟩
                    replace HM := Lib.hid (HM.out.next hb7)
                    clear hb7
                    refine hK.out _ _ trivial (fun hHeld => ?_)
                    clear hK K
                    try dsimp only
                    try simp only [Act.put, List.getElem_toArray, List.getElem_cons_zero, List.getElem_cons_succ, List.setIfInBounds_toArray, List.set_cons_zero, List.set_cons_succ]
                    refine wpAnyH_ready (rs := [5]) (by kernel_rfl) (by simp) (AllReadyH.cons rfl (fun K hK => ?_) AllReadyH.nil)
                    rw [if_pos (by rfl)]
                    refine wp_store_row 28 (.tmp 3) (.tmp 32) rfl b1 (MC (n : Int) (see (n : Int) G (k : Int) t)) rfl rfl _ _ HM.out.row (iM _ _) (by rw [MC_size, MC_size]) (MC_one _ _) ?_
                    replace HM := Lib.hid (HM.out.put (n : Int) (see (n : Int) G (k : Int) t))
                    refine hK.out _ _ trivial (fun hHeld => ?_)
                    clear hK K
                    refine wpAnyH_done (by kernel_rfl) ?_ _
                    clear hHeld
                    go_wp2
                    go_roundw
                    case rel => exact ⟨k + 1, by omega, by go_num, r2, _, HM, HQ2, HN2, HW2⟩
                    case measure => simp [intOf]; omega
        · obtain rfl : k = n := by omega
          go_wp2_with (first
            | (refine wpList_load_row rfl 28 (.tmp 3) rfl b1 rfl _ (MC (k : Int) G) (0, 0) _ HM.out.row uM rfl (iM _ _) ?_)
            | (refine wpList_store_row rfl 28 (.tmp 2) (.tmp 34) rfl w.heap.size (MC (k : Int) G) rfl rfl _ _ HM.out.res (iM _ _) (by rw [MC_size, MC_size]) (MC_one _ _) ?_))
          have hkr := kept_setRowK wr w.heap.size (MC (k : Int) G)
          exact post_rowK 2 28 Try.results16 rfl w.heap.size 28 _ (0, 0) _ rfl (setRow_heap _ _ _ _ _ _ HM.out.res) uM rfl (iM _ _)
            ⟨HM.out.kept.trans (hkr.mono fun k hk => .inl (.inr (by have hk : k = w.heap.size := hk; omega))), .inl ⟨k, G, r, rfl, HM.out.rd.highK hkr (fun k hk => by have := HM.out.lt; have hk : k = w.heap.size := hk; omega), HQ.out, hn8, HW.out⟩⟩
    · go_enter Try.func16, Try.ntmps16
      go_upto_region 2 with (first
      | (go_at_call 20; rw [zerosM]; (with_reducible refine (HUY.out).mono ?_); rintro e w1 hy; obtain ⟨rfl, HR1, HK1⟩ := Yes.rd hy; clear hy; have HM1 := Lib.hid (MR.start HR1.out HK1.out hlt))
      | (refine wpList_buildM rfl (.tmp 8) rfl (n : Int) rfl ?_)
      | (rw [zerosM]; refine wpList_store_row rfl 28 (.tmp 3) (.tmp 9) rfl w1.heap.size (MC (n : Int) (fun _ => none)) rfl rfl _ _ HM1.out.row (iM _ _) (by rw [MC_size, MC_size]) (MC_one _ _) ?_; have HM2 := Lib.hid (HM1.out.put (n : Int) (fun _ => none)); have c2 := cell_of_row _ _ 0 _ _ _ HM2.out.row; rw [MC_n] at c2))
      have hd : decide ((1 : Int) ≤ (n : Int)) = false := decide_eq_false (by omega)
      go_wp2_with (first
      | (go_at_call 21; obtain ⟨A1, C1, hR⟩ := HM2.out.rd; (with_reducible refine (check_false rb C1 A1 r _ (Lib.hid hR)).mono ?_); rintro e w4 ⟨rfl, hg4, hk4⟩))
      exact ⟨rfl, HM2.out.kept.trans (hk4.mono fun k h => .inl (.inl h)), .inr ⟨rfl, hg4⟩⟩
end Go.Proofs.Ytgoibcolehcgcaa
