/-
  Layer agg: the law AggNone, walked.
-/
import Derived.Test.YthklamgdoknmeaaAi
import Derived.Test.YthklamgdoknmeaaBc
set_option linter.unusedSimpArgs false
set_option linter.unusedVariables false
set_option maxRecDepth 8000
namespace Go.Proofs.Ythklamgdoknmeaa
open Go.RowKit Go.WideShapes Col Sm
/-- The bytes of the state of a list. -/
def stL (l : List Nat) : List Nat := stBy l.length (accN l) (accH l) (accLo l) (accHi l)
theorem stBy_lt (n N h lo hi : Nat) (hh : h < 256) : ∀ x ∈ stBy n N h lo hi, x < 256 := by
  have hs : ∀ (F : List Nat) (m : Nat), (∀ x ∈ F, x < 256) → ∀ x ∈ strip F m, x < 256 := fun F m hF => by
    induction m with
    | zero => intro x hx; unfold strip at hx; simp at hx
    | succ m ih =>
      unfold strip
      split
      · exact ih
      · intro x hx; exact hF x (List.mem_of_mem_take hx)
  intro x hx
  unfold stBy txL sby at hx
  simp only [List.mem_append, List.mem_cons] at hx
  rcases hx with h1 | (h1 | h1 | h1) | h1 | h1
  · exact ub_bytes _ x h1
  · exact ub_bytes _ x h1
  · omega
  · exact hs _ 280 (fl280_lt N 280) x h1
  · exact ub_bytes _ x h1
  · exact ub_bytes _ x h1
theorem stL_lt (l : List Nat) : ∀ x ∈ stL l, x < 256 := stBy_lt _ _ _ _ _ (acc256 l)
theorem layTL (l : List Nat) (hl : ∀ x ∈ l, x < 18446744073709551616) (hn : l.length ≤ 1000000) (w : World) :
    Calls Try.prog 27 #[.slice none 0 0, .agg (TL l)] w fun e w' => ∃ A n c, e = .returned (.slice A n c) ∧ ByAt w' A (stL l) ∧ n = (stL l).length ∧ Below w.heap.size w w' :=
  (layS_any _ _ _ _ _ (by omega) (acc256 l) (accLo_lt l hl) (accHi_lt l hl) w).mono fun e w' ⟨A, n, c, he, ho, hb, _⟩ => ⟨A, n, c, he, ho.byAt, ho.len, hb⟩
theorem stL_nil : stL [] = [0, 1, 0, 0, 0] := by
  have e1 : accLo [] = 0 := accLo_nil
  have e2 : accHi [] = 0 := accHi_nil
  show stBy 0 0 0 (accLo []) (accHi []) = _
  rw [e1, e2]
  unfold stBy txL sby
  rw [strip_nought, ub_lt (by decide), ub_lt (by decide)]
  rfl
theorem tel_none : telB (telL []) ⟨0, 0, false, 0, 0⟩ = true := by
  unfold telL accLo accHi telB
  decide +kernel
theorem refU0 (w : World) : Calls Try.prog 40 #[.int .u64 0] w fun e w' => ∃ A n c, e = .returned (.slice A n c) ∧ ByAt w' A [0] ∧ n = [0].length ∧ Below w.heap.size w w' :=
  (refU_any 0 (by decide) w).mono fun e w' h => by
    obtain ⟨A, n, c, he, ho, hb, hn⟩ := h.at
    rw [ub_lt (by decide)] at ho hn
    exact ⟨A, n, c, he, ho.out.byAt, hn, hb.out⟩
theorem b_cat (x y : ByteArray) (hx : x.size + y.size ≤ 1000) (w : World) : (binOp .add 9 (.string x) (.string y)).run Try.prog w = .ok (.string (x ++ y)) w := by
  go_simp
  omega
theorem str0100 : (strB [0] ++ ⟨#[1, 0]⟩) ++ ⟨#[0, 0]⟩ = strB [0, 1, 0, 0, 0] := by
  rw [show (⟨#[1, 0]⟩ : ByteArray) = strB [1, 0] from rfl, show (⟨#[0, 0]⟩ : ByteArray) = strB [0, 0] from rfl, strB_append, strB_append]; rfl
set_option maxHeartbeats 1000000 in
theorem aggNone_long (a : Option Addr) (la ca : Nat) (hL : 40 < la) (w : World) :
    Calls Try.prog 10 #[.slice a la ca] w fun e w' => e = .returned (.bool true) ∧ Below w.heap.size w w' := by
  have HB := Below.refl w.heap.size w
  go_enter Try.func10, Try.ntmps10
  go_wp2_with (go_at_call 20; refine (awakeS_any _).mono ?_; rintro e w' ⟨rfl, hb1⟩; replace HB := HB.trans (hb1.mono HB.size); clear hb1)
  go_ret
  exact ⟨rfl, HB⟩

set_option maxHeartbeats 8000000 in
theorem aggNone_core (a : Option Addr) (l : List Nat) (la ca : Nat) (hla : Hid (la = l.length)) (hL : ¬ 40 < la) (W : World) (HA : Hid (FlAt W a l)) :
    Calls Try.prog 10 #[.slice a la ca] W fun e w' => e = .returned (.bool true) ∧ Below W.heap.size W w' := by
  have hlt : ∀ x ∈ l, x < 18446744073709551616 := fun x hx => by
    obtain ⟨k, hk⟩ := List.getElem?_of_mem hx
    exact (HA.out k x hk).1
  have hl40 : l.length ≤ 40 := by have := hla.out; omega
  have HLN := Lib.hid fun w => lenS_any 0 (wd 0) 0 (accLo []) (accHi []) w
  have HLN : Hid (∀ w, Calls Try.prog 25 #[.agg (TL [])] w fun e w' => e = .returned (.int .u64 0) ∧ Below w.heap.size w w') := Lib.hid fun w => HLN.out w
  have HVZ : Hid (∀ w, Calls Try.prog 23 #[.agg (TL [])] w (TelEnds w (telL []))) := Lib.hid fun w => valueTL [] (fun x hx => by cases hx) w
  have HSZ : Hid (∀ w, Calls Try.prog 22 #[.agg #[.int .u64 ((telL []).c : Int), .float .f64 (telL []).s, .bool (telL []).o, .float .f64 (telL []).lo, .float .f64 (telL []).hi], .agg #[.int .u64 0, .float .f64 0, .bool false, .float .f64 0, .float .f64 0]] w fun e w' => e = .returned (.bool true) ∧ Below w.heap.size w w') := Lib.hid fun w => by
    have h := refAggSame_any (telL []) ⟨0, 0, false, 0, 0⟩ (telL_ok [] (fun x hx => by cases hx) (by decide)) ⟨by decide, by decide, by decide, by decide⟩ w
    rw [tel_none] at h
    exact h
  have HJ1 : Hid (∀ w, Calls Try.prog 26 #[.agg (TL l), .agg (TL [])] w fun e w' => e = .returned (.agg (TL l)) ∧ Below w.heap.size w w') := Lib.hid fun w => by
    have h := joinTL l [] hlt (fun x hx => by cases hx) (by simp; omega) w
    rwa [List.append_nil] at h
  have HJ2 : Hid (∀ w, Calls Try.prog 26 #[.agg (TL []), .agg (TL l)] w fun e w' => e = .returned (.agg (TL l)) ∧ Below w.heap.size w w') := Lib.hid fun w => joinTL [] l (fun x hx => by cases hx) hlt (by simp; omega) w
  have HLL := Lib.hid fun w => layTL l hlt (by omega) w
  have HLZ := Lib.hid fun w => layTL [] (fun x hx => by cases hx) (by decide) w
  clear hlt hl40
  generalize telL [] = TZ at *
  go_enter Try.func10, Try.ntmps10
  go_wp2_with (first
    | (go_at_call 20; refine (awakeS_any _).mono ?_; rintro e w1 ⟨rfl, hb⟩; have HB1 := Lib.hid hb; clear hb)
    | (go_at_call 21; rw [zeros39]; have HBz : Hid (Below W.heap.size W (w1.alloc (.cells (T39 0 (fun _ => 0) 0 0 0) 40))) := Lib.hid (HB1.out.alloc HB1.out.size _); refine (ofS_any a l la ca hla (by omega) _ (FlAt.keep HA.out HBz.out)).mono ?_; rintro e w2 ⟨rfl, hb⟩; have R1 : w2.heap[w1.heap.size]? = some (.cells (T39 0 (fun _ => 0) 0 0 0) 40 (0, 0)) := row_keep (heap_alloc_new' w1 _) hb; have HB2 := Lib.hid (below_to HBz.out hb); clear hb)
    | (rw [zeros39]; refine wpList_store_row rfl 40 (.tmp 4) (.tmp 14) rfl _ (TL l) rfl rfl _ _ (heap_alloc_new _ _) (iT _ _ _ _ _) (by rw [T39_size, T39_size]) (one39 _ _ _ _ _) ?_; rw [World.setRow_alloc_new]; have HR1 := Lib.hid (row_alloc R1 (.cells (TL l) 40)); have HR2 := Lib.hid (heap_alloc_new' w2 (.cells (TL l) 40)); have HB3 := Lib.hid (HB2.out.alloc HB2.out.size (.cells (TL l) 40))))
  have R1 := HR1.out
  have R2 := HR2.out
  have HB := HB3.out
  clear HR1 HR2 HB3
  rw [← TL_nil] at R1
  generalize hw0 : w2.alloc (.cells (TL l) 40) = w0 at *
  replace HB := HB.drew
  replace R1 : w0.drew.heap[w1.heap.size]? = some (.cells (TL []) 40 (0, 0)) := R1
  replace R2 : w0.drew.heap[w2.heap.size]? = some (.cells (TL l) 40 (0, 0)) := R2
  refine wp_region_held_drew (S := Below w0.drew.heap.size w0.drew) (by kernel_rfl) (Below.refl _ _) (fun hHeld => ?_)
  refine wpAnyH_take (i := 0) (v := .agg (TL [])) rfl (by kernel_rfl) (by kernel_rfl) (by kernel_rfl) (fun _ _ _ h => h) (yieldsIf_row rfl 40 (.tmp 3) rfl w1.heap.size rfl _ _ _ _ (fun w hw => row_keep R1 hw) uT rfl (iT _ _ _ _ _)) hHeld ?_
  try dsimp only
  try simp only [Act.put, List.getElem_toArray, List.getElem_cons_zero, List.getElem_cons_succ, List.setIfInBounds_toArray, List.set_cons_zero, List.set_cons_succ]
  refine wpAnyH_ready (rs := [1]) (by kernel_rfl) (by simp) (AllReadyH.cons rfl (fun K hK => ?_) AllReadyH.nil)
  go_simp
  refine (HLN.out _).mono ?_
  rintro e v1 ⟨rfl, hv1⟩
  refine hK.out _ _ hv1 (fun _ => ?_)
  clear hK K
  try dsimp only
  try simp only [Act.put, List.getElem_toArray, List.getElem_cons_zero, List.getElem_cons_succ, List.setIfInBounds_toArray, List.set_cons_zero, List.set_cons_succ]
  refine wpAnyH_more (S' := Below v1.heap.size v1) (fun w h => below_to hv1 h) ?_
  replace R1 := row_keep R1 hv1
  replace R2 := row_keep R2 hv1
  replace HB := below_to HB hv1
  clear hHeld
  have hHeld := Below.refl v1.heap.size v1
  refine wpAnyH_take (i := 2) (v := .bool true) rfl (by kernel_rfl) (by kernel_rfl) (by kernel_rfl) (fun _ _ _ h => h) (Or.inl ⟨by rfl, fun _ _ => rfl⟩) hHeld ?_
  try dsimp only
  try simp only [Act.put, List.getElem_toArray, List.getElem_cons_zero, List.getElem_cons_succ, List.setIfInBounds_toArray, List.set_cons_zero, List.set_cons_succ]
  refine wpAnyH_take (i := 3) (v := .bool true) rfl (by kernel_rfl) (by kernel_rfl) (by kernel_rfl) (fun _ _ _ h => h) (Or.inl ⟨by rfl, fun _ _ => rfl⟩) hHeld ?_
  try dsimp only
  try simp only [Act.put, List.getElem_toArray, List.getElem_cons_zero, List.getElem_cons_succ, List.setIfInBounds_toArray, List.set_cons_zero, List.set_cons_succ]
  refine wpAnyH_take (i := 4) (v := .agg (TL [])) rfl (by kernel_rfl) (by kernel_rfl) (by kernel_rfl) (fun _ _ _ h => h) (yieldsIf_row rfl 40 (.tmp 3) rfl w1.heap.size rfl _ _ _ _ (fun w hw => row_keep R1 hw) uT rfl (iT _ _ _ _ _)) hHeld ?_
  try dsimp only
  try simp only [Act.put, List.getElem_toArray, List.getElem_cons_zero, List.getElem_cons_succ, List.setIfInBounds_toArray, List.set_cons_zero, List.set_cons_succ]
  refine wpAnyH_take (i := 6) (v := .agg #[.int .u64 0, .float .f64 0, .bool false, .float .f64 0, .float .f64 0]) rfl (by kernel_rfl) (by kernel_rfl) (by kernel_rfl) (fun _ _ _ h => h) (Or.inl ⟨by rfl, fun w _ => by go_simp⟩) hHeld ?_
  try dsimp only
  try simp only [Act.put, List.getElem_toArray, List.getElem_cons_zero, List.getElem_cons_succ, List.setIfInBounds_toArray, List.set_cons_zero, List.set_cons_succ]
  refine wpAnyH_ready (rs := [5]) (by kernel_rfl) (by simp) (AllReadyH.cons rfl (fun K hK => ?_) AllReadyH.nil)
  go_simp
  refine (HVZ.out _).mono ?_
  rintro e v2 ⟨rfl, hv2⟩
  refine hK.out _ _ hv2 (fun _ => ?_)
  clear hK K
  try dsimp only
  try simp only [Act.put, List.getElem_toArray, List.getElem_cons_zero, List.getElem_cons_succ, List.setIfInBounds_toArray, List.set_cons_zero, List.set_cons_succ]
  refine wpAnyH_more (S' := Below v2.heap.size v2) (fun w h => below_to hv2 h) ?_
  replace R1 := row_keep R1 hv2
  replace R2 := row_keep R2 hv2
  replace HB := below_to HB hv2
  clear hHeld
  have hHeld := Below.refl v2.heap.size v2
  refine wpAnyH_ready (rs := [7]) (by kernel_rfl) (by simp) (AllReadyH.cons rfl (fun K hK => ?_) AllReadyH.nil)
  go_simp
  refine (HSZ.out _).mono ?_
  rintro e v3 ⟨rfl, hv3⟩
  refine hK.out _ _ hv3 (fun _ => ?_)
  clear hK K
  try dsimp only
  try simp only [Act.put, List.getElem_toArray, List.getElem_cons_zero, List.getElem_cons_succ, List.setIfInBounds_toArray, List.set_cons_zero, List.set_cons_succ]
  refine wpAnyH_more (S' := Below v3.heap.size v3) (fun w h => below_to hv3 h) ?_
  replace R1 := row_keep R1 hv3
  replace R2 := row_keep R2 hv3
  replace HB := below_to HB hv3
  clear hHeld
  have hHeld := Below.refl v3.heap.size v3
  refine wpAnyH_take (i := 8) (v := .bool true) rfl (by kernel_rfl) (by kernel_rfl) (by kernel_rfl) (fun _ _ _ h => h) (Or.inl ⟨by rfl, fun _ _ => rfl⟩) hHeld ?_
  try dsimp only
  try simp only [Act.put, List.getElem_toArray, List.getElem_cons_zero, List.getElem_cons_succ, List.setIfInBounds_toArray, List.set_cons_zero, List.set_cons_succ]
  refine wpAnyH_take (i := 9) (v := .bool true) rfl (by kernel_rfl) (by kernel_rfl) (by kernel_rfl) (fun _ _ _ h => h) (Or.inl ⟨by rfl, fun _ _ => rfl⟩) hHeld ?_
  try dsimp only
  try simp only [Act.put, List.getElem_toArray, List.getElem_cons_zero, List.getElem_cons_succ, List.setIfInBounds_toArray, List.set_cons_zero, List.set_cons_succ]
  refine wpAnyH_take (i := 10) (v := .agg (TL l)) rfl (by kernel_rfl) (by kernel_rfl) (by kernel_rfl) (fun _ _ _ h => h) (yieldsIf_row rfl 40 (.tmp 4) rfl w2.heap.size rfl _ _ _ _ (fun w hw => row_keep R2 hw) uT rfl (iT _ _ _ _ _)) hHeld ?_
  try dsimp only
  try simp only [Act.put, List.getElem_toArray, List.getElem_cons_zero, List.getElem_cons_succ, List.setIfInBounds_toArray, List.set_cons_zero, List.set_cons_succ]
  refine wpAnyH_take (i := 11) (v := .agg (TL [])) rfl (by kernel_rfl) (by kernel_rfl) (by kernel_rfl) (fun _ _ _ h => h) (yieldsIf_row rfl 40 (.tmp 3) rfl w1.heap.size rfl _ _ _ _ (fun w hw => row_keep R1 hw) uT rfl (iT _ _ _ _ _)) hHeld ?_
  try dsimp only
  try simp only [Act.put, List.getElem_toArray, List.getElem_cons_zero, List.getElem_cons_succ, List.setIfInBounds_toArray, List.set_cons_zero, List.set_cons_succ]
  refine wpAnyH_take (i := 15) (v := .agg (TL l)) rfl (by kernel_rfl) (by kernel_rfl) (by kernel_rfl) (fun _ _ _ h => h) (yieldsIf_row rfl 40 (.tmp 4) rfl w2.heap.size rfl _ _ _ _ (fun w hw => row_keep R2 hw) uT rfl (iT _ _ _ _ _)) hHeld ?_
  try dsimp only
  try simp only [Act.put, List.getElem_toArray, List.getElem_cons_zero, List.getElem_cons_succ, List.setIfInBounds_toArray, List.set_cons_zero, List.set_cons_succ]
  refine wpAnyH_ready (rs := [12]) (by kernel_rfl) (by simp) (AllReadyH.cons rfl (fun K hK => ?_) AllReadyH.nil)
  go_simp
  refine (HJ1.out _).mono ?_
  rintro e v4 ⟨rfl, hv4⟩
  refine hK.out _ _ hv4 (fun _ => ?_)
  clear hK K
  try dsimp only
  try simp only [Act.put, List.getElem_toArray, List.getElem_cons_zero, List.getElem_cons_succ, List.setIfInBounds_toArray, List.set_cons_zero, List.set_cons_succ]
  refine wpAnyH_more (S' := Below v4.heap.size v4) (fun w h => below_to hv4 h) ?_
  replace R1 := row_keep R1 hv4
  replace R2 := row_keep R2 hv4
  replace HB := below_to HB hv4
  clear hHeld
  have hHeld := Below.refl v4.heap.size v4
  refine wpAnyH_ready (rs := [13]) (by kernel_rfl) (by simp) (AllReadyH.cons rfl (fun K hK => ?_) AllReadyH.nil)
  go_simp
  refine (HLL.out _).mono ?_
  rintro e v5 ⟨A1, n1, c1, rfl, hy, hk, hv5⟩
  have HK1 := Lib.hid hk
  clear hk
  refine hK.out _ _ hv5 (fun _ => ?_)
  clear hK K
  try dsimp only
  try simp only [Act.put, List.getElem_toArray, List.getElem_cons_zero, List.getElem_cons_succ, List.setIfInBounds_toArray, List.set_cons_zero, List.set_cons_succ]
  refine wpAnyH_more (S' := Below v5.heap.size v5) (fun w h => below_to hv5 h) ?_
  replace R1 := row_keep R1 hv5
  replace R2 := row_keep R2 hv5
  replace HB := below_to HB hv5
  clear hHeld
  have hHeld := Below.refl v5.heap.size v5
  refine wpAnyH_take (i := 14) (v := .string (strB (stL l))) rfl (by kernel_rfl) (by kernel_rfl) (by kernel_rfl) (fun _ _ _ h => h) (yb_convS rfl (.tmp 28) rfl _ _ rfl (fun w hw => conv_by n1 c1 (hy.keep hw) HK1.out)) hHeld ?_
  try dsimp only
  try simp only [Act.put, List.getElem_toArray, List.getElem_cons_zero, List.getElem_cons_succ, List.setIfInBounds_toArray, List.set_cons_zero, List.set_cons_succ]
  clear hy HK1
  refine wpAnyH_ready (rs := [16]) (by kernel_rfl) (by simp) (AllReadyH.cons rfl (fun K hK => ?_) AllReadyH.nil)
  go_simp
  refine (HLL.out _).mono ?_
  rintro e v6 ⟨A2, n2, c2, rfl, hy, hk, hv6⟩
  have HK2 := Lib.hid hk
  clear hk
  refine hK.out _ _ hv6 (fun _ => ?_)
  clear hK K
  try dsimp only
  try simp only [Act.put, List.getElem_toArray, List.getElem_cons_zero, List.getElem_cons_succ, List.setIfInBounds_toArray, List.set_cons_zero, List.set_cons_succ]
  refine wpAnyH_more (S' := Below v6.heap.size v6) (fun w h => below_to hv6 h) ?_
  replace R1 := row_keep R1 hv6
  replace R2 := row_keep R2 hv6
  replace HB := below_to HB hv6
  clear hHeld
  have hHeld := Below.refl v6.heap.size v6
  refine wpAnyH_take (i := 17) (v := .string (strB (stL l))) rfl (by kernel_rfl) (by kernel_rfl) (by kernel_rfl) (fun _ _ _ h => h) (yb_convS rfl (.tmp 31) rfl _ _ rfl (fun w hw => conv_by n2 c2 (hy.keep hw) HK2.out)) hHeld ?_
  try dsimp only
  try simp only [Act.put, List.getElem_toArray, List.getElem_cons_zero, List.getElem_cons_succ, List.setIfInBounds_toArray, List.set_cons_zero, List.set_cons_succ]
  clear hy HK2
  refine wpAnyH_take (i := 18) (v := .bool true) rfl (by kernel_rfl) (by kernel_rfl) (by kernel_rfl) (fun _ _ _ h => h) (yb_bin rfl .eql _ _ _ _ rfl _ _ _ rfl rfl (fun _ => rfl) (fun w => b_str (stL_lt _) (stL_lt _) (decide_eq_true rfl) w)) hHeld ?_
  try dsimp only
  try simp only [Act.put, List.getElem_toArray, List.getElem_cons_zero, List.getElem_cons_succ, List.setIfInBounds_toArray, List.set_cons_zero, List.set_cons_succ]
  refine wpAnyH_take (i := 19) (v := .bool true) rfl (by kernel_rfl) (by kernel_rfl) (by kernel_rfl) (fun _ _ _ h => h) (Or.inl ⟨by rfl, fun _ _ => rfl⟩) hHeld ?_
  try dsimp only
  try simp only [Act.put, List.getElem_toArray, List.getElem_cons_zero, List.getElem_cons_succ, List.setIfInBounds_toArray, List.set_cons_zero, List.set_cons_succ]
  refine wpAnyH_take (i := 20) (v := .bool true) rfl (by kernel_rfl) (by kernel_rfl) (by kernel_rfl) (fun _ _ _ h => h) (Or.inl ⟨by rfl, fun _ _ => rfl⟩) hHeld ?_
  try dsimp only
  try simp only [Act.put, List.getElem_toArray, List.getElem_cons_zero, List.getElem_cons_succ, List.setIfInBounds_toArray, List.set_cons_zero, List.set_cons_succ]
  refine wpAnyH_take (i := 21) (v := .agg (TL [])) rfl (by kernel_rfl) (by kernel_rfl) (by kernel_rfl) (fun _ _ _ h => h) (yieldsIf_row rfl 40 (.tmp 3) rfl w1.heap.size rfl _ _ _ _ (fun w hw => row_keep R1 hw) uT rfl (iT _ _ _ _ _)) hHeld ?_
  try dsimp only
  try simp only [Act.put, List.getElem_toArray, List.getElem_cons_zero, List.getElem_cons_succ, List.setIfInBounds_toArray, List.set_cons_zero, List.set_cons_succ]
  refine wpAnyH_take (i := 22) (v := .agg (TL l)) rfl (by kernel_rfl) (by kernel_rfl) (by kernel_rfl) (fun _ _ _ h => h) (yieldsIf_row rfl 40 (.tmp 4) rfl w2.heap.size rfl _ _ _ _ (fun w hw => row_keep R2 hw) uT rfl (iT _ _ _ _ _)) hHeld ?_
  try dsimp only
  try simp only [Act.put, List.getElem_toArray, List.getElem_cons_zero, List.getElem_cons_succ, List.setIfInBounds_toArray, List.set_cons_zero, List.set_cons_succ]
  refine wpAnyH_take (i := 26) (v := .agg (TL l)) rfl (by kernel_rfl) (by kernel_rfl) (by kernel_rfl) (fun _ _ _ h => h) (yieldsIf_row rfl 40 (.tmp 4) rfl w2.heap.size rfl _ _ _ _ (fun w hw => row_keep R2 hw) uT rfl (iT _ _ _ _ _)) hHeld ?_
  try dsimp only
  try simp only [Act.put, List.getElem_toArray, List.getElem_cons_zero, List.getElem_cons_succ, List.setIfInBounds_toArray, List.set_cons_zero, List.set_cons_succ]
  refine wpAnyH_ready (rs := [23]) (by kernel_rfl) (by simp) (AllReadyH.cons rfl (fun K hK => ?_) AllReadyH.nil)
  go_simp
  refine (HJ2.out _).mono ?_
  rintro e v7 ⟨rfl, hv7⟩
  refine hK.out _ _ hv7 (fun _ => ?_)
  clear hK K
  try dsimp only
  try simp only [Act.put, List.getElem_toArray, List.getElem_cons_zero, List.getElem_cons_succ, List.setIfInBounds_toArray, List.set_cons_zero, List.set_cons_succ]
  refine wpAnyH_more (S' := Below v7.heap.size v7) (fun w h => below_to hv7 h) ?_
  replace R1 := row_keep R1 hv7
  replace R2 := row_keep R2 hv7
  replace HB := below_to HB hv7
  clear hHeld
  have hHeld := Below.refl v7.heap.size v7
  refine wpAnyH_ready (rs := [24]) (by kernel_rfl) (by simp) (AllReadyH.cons rfl (fun K hK => ?_) AllReadyH.nil)
  go_simp
  refine (HLL.out _).mono ?_
  rintro e v8 ⟨A3, n3, c3, rfl, hy, hk, hv8⟩
  have HK3 := Lib.hid hk
  clear hk
  refine hK.out _ _ hv8 (fun _ => ?_)
  clear hK K
  try dsimp only
  try simp only [Act.put, List.getElem_toArray, List.getElem_cons_zero, List.getElem_cons_succ, List.setIfInBounds_toArray, List.set_cons_zero, List.set_cons_succ]
  refine wpAnyH_more (S' := Below v8.heap.size v8) (fun w h => below_to hv8 h) ?_
  replace R1 := row_keep R1 hv8
  replace R2 := row_keep R2 hv8
  replace HB := below_to HB hv8
  clear hHeld
  have hHeld := Below.refl v8.heap.size v8
  refine wpAnyH_take (i := 25) (v := .string (strB (stL l))) rfl (by kernel_rfl) (by kernel_rfl) (by kernel_rfl) (fun _ _ _ h => h) (yb_convS rfl (.tmp 39) rfl _ _ rfl (fun w hw => conv_by n3 c3 (hy.keep hw) HK3.out)) hHeld ?_
  try dsimp only
  try simp only [Act.put, List.getElem_toArray, List.getElem_cons_zero, List.getElem_cons_succ, List.setIfInBounds_toArray, List.set_cons_zero, List.set_cons_succ]
  clear hy HK3
  refine wpAnyH_ready (rs := [27]) (by kernel_rfl) (by simp) (AllReadyH.cons rfl (fun K hK => ?_) AllReadyH.nil)
  go_simp
  refine (HLL.out _).mono ?_
  rintro e v9 ⟨A4, n4, c4, rfl, hy, hk, hv9⟩
  have HK4 := Lib.hid hk
  clear hk
  refine hK.out _ _ hv9 (fun _ => ?_)
  clear hK K
  try dsimp only
  try simp only [Act.put, List.getElem_toArray, List.getElem_cons_zero, List.getElem_cons_succ, List.setIfInBounds_toArray, List.set_cons_zero, List.set_cons_succ]
  refine wpAnyH_more (S' := Below v9.heap.size v9) (fun w h => below_to hv9 h) ?_
  replace R1 := row_keep R1 hv9
  replace R2 := row_keep R2 hv9
  replace HB := below_to HB hv9
  clear hHeld
  have hHeld := Below.refl v9.heap.size v9
  refine wpAnyH_take (i := 28) (v := .string (strB (stL l))) rfl (by kernel_rfl) (by kernel_rfl) (by kernel_rfl) (fun _ _ _ h => h) (yb_convS rfl (.tmp 42) rfl _ _ rfl (fun w hw => conv_by n4 c4 (hy.keep hw) HK4.out)) hHeld ?_
  try dsimp only
  try simp only [Act.put, List.getElem_toArray, List.getElem_cons_zero, List.getElem_cons_succ, List.setIfInBounds_toArray, List.set_cons_zero, List.set_cons_succ]
  clear hy HK4
  refine wpAnyH_take (i := 29) (v := .bool true) rfl (by kernel_rfl) (by kernel_rfl) (by kernel_rfl) (fun _ _ _ h => h) (yb_bin rfl .eql _ _ _ _ rfl _ _ _ rfl rfl (fun _ => rfl) (fun w => b_str (stL_lt _) (stL_lt _) (decide_eq_true rfl) w)) hHeld ?_
  try dsimp only
  try simp only [Act.put, List.getElem_toArray, List.getElem_cons_zero, List.getElem_cons_succ, List.setIfInBounds_toArray, List.set_cons_zero, List.set_cons_succ]
  refine wpAnyH_take (i := 30) (v := .bool true) rfl (by kernel_rfl) (by kernel_rfl) (by kernel_rfl) (fun _ _ _ h => h) (Or.inl ⟨by rfl, fun _ _ => rfl⟩) hHeld ?_
  try dsimp only
  try simp only [Act.put, List.getElem_toArray, List.getElem_cons_zero, List.getElem_cons_succ, List.setIfInBounds_toArray, List.set_cons_zero, List.set_cons_succ]
  refine wpAnyH_take (i := 31) (v := .bool true) rfl (by kernel_rfl) (by kernel_rfl) (by kernel_rfl) (fun _ _ _ h => h) (Or.inl ⟨by rfl, fun _ _ => rfl⟩) hHeld ?_
  try dsimp only
  try simp only [Act.put, List.getElem_toArray, List.getElem_cons_zero, List.getElem_cons_succ, List.setIfInBounds_toArray, List.set_cons_zero, List.set_cons_succ]
  refine wpAnyH_take (i := 32) (v := .agg (TL [])) rfl (by kernel_rfl) (by kernel_rfl) (by kernel_rfl) (fun _ _ _ h => h) (yieldsIf_row rfl 40 (.tmp 3) rfl w1.heap.size rfl _ _ _ _ (fun w hw => row_keep R1 hw) uT rfl (iT _ _ _ _ _)) hHeld ?_
  try dsimp only
  try simp only [Act.put, List.getElem_toArray, List.getElem_cons_zero, List.getElem_cons_succ, List.setIfInBounds_toArray, List.set_cons_zero, List.set_cons_succ]
  refine wpAnyH_ready (rs := [33]) (by kernel_rfl) (by simp) (AllReadyH.cons rfl (fun K hK => ?_) AllReadyH.nil)
  go_simp
  refine (HLZ.out _).mono ?_
  rintro e v10 ⟨A5, n5, c5, rfl, hy, hk, hv10⟩
  have HK5 := Lib.hid hk
  clear hk
  refine hK.out _ _ hv10 (fun _ => ?_)
  clear hK K
  try dsimp only
  try simp only [Act.put, List.getElem_toArray, List.getElem_cons_zero, List.getElem_cons_succ, List.setIfInBounds_toArray, List.set_cons_zero, List.set_cons_succ]
  refine wpAnyH_more (S' := Below v10.heap.size v10) (fun w h => below_to hv10 h) ?_
  replace R1 := row_keep R1 hv10
  replace R2 := row_keep R2 hv10
  replace HB := below_to HB hv10
  clear hHeld
  have hHeld := Below.refl v10.heap.size v10
  refine wpAnyH_take (i := 34) (v := .string (strB (stL []))) rfl (by kernel_rfl) (by kernel_rfl) (by kernel_rfl) (fun _ _ _ h => h) (yb_convS rfl (.tmp 48) rfl _ _ rfl (fun w hw => conv_by n5 c5 (hy.keep hw) HK5.out)) hHeld ?_
  try dsimp only
  try simp only [Act.put, List.getElem_toArray, List.getElem_cons_zero, List.getElem_cons_succ, List.setIfInBounds_toArray, List.set_cons_zero, List.set_cons_succ]
  clear hy HK5
  refine wpAnyH_ready (rs := [35]) (by kernel_rfl) (by simp) (AllReadyH.cons rfl (fun K hK => ?_) AllReadyH.nil)
  go_simp
  refine (refU0 _).mono ?_
  rintro e v11 ⟨A6, n6, c6, rfl, hy, hk, hv11⟩
  have HK6 := Lib.hid hk
  clear hk
  refine hK.out _ _ hv11 (fun _ => ?_)
  clear hK K
  try dsimp only
  try simp only [Act.put, List.getElem_toArray, List.getElem_cons_zero, List.getElem_cons_succ, List.setIfInBounds_toArray, List.set_cons_zero, List.set_cons_succ]
  refine wpAnyH_more (S' := Below v11.heap.size v11) (fun w h => below_to hv11 h) ?_
  replace R1 := row_keep R1 hv11
  replace R2 := row_keep R2 hv11
  replace HB := below_to HB hv11
  clear hHeld
  have hHeld := Below.refl v11.heap.size v11
  refine wpAnyH_take (i := 36) (v := .string (strB [0])) rfl (by kernel_rfl) (by kernel_rfl) (by kernel_rfl) (fun _ _ _ h => h) (yb_convS rfl (.tmp 50) rfl _ _ rfl (fun w hw => conv_by n6 c6 (hy.keep hw) HK6.out)) hHeld ?_
  try dsimp only
  try simp only [Act.put, List.getElem_toArray, List.getElem_cons_zero, List.getElem_cons_succ, List.setIfInBounds_toArray, List.set_cons_zero, List.set_cons_succ]
  clear hy HK6
  refine wpAnyH_take (i := 37) (v := .string (strB [0] ++ ⟨#[1, 0]⟩)) rfl (by kernel_rfl) (by kernel_rfl) (by kernel_rfl) (fun _ _ _ h => h) (yb_bin rfl .add _ _ _ _ rfl _ _ _ rfl rfl (fun _ => rfl) (fun w => b_cat _ _ (by rw [strB_size]; decide) w)) hHeld ?_
  try dsimp only
  try simp only [Act.put, List.getElem_toArray, List.getElem_cons_zero, List.getElem_cons_succ, List.setIfInBounds_toArray, List.set_cons_zero, List.set_cons_succ]
  refine wpAnyH_take (i := 38) (v := .string (strB [0, 1, 0, 0, 0])) rfl (by kernel_rfl) (by kernel_rfl) (by kernel_rfl) (fun _ _ _ h => h) (yb_bin rfl .add _ _ _ _ rfl _ _ _ rfl rfl (fun _ => rfl) (fun w => by rw [← str0100]; exact b_cat _ _ (by rw [ByteArray.size_append, strB_size]; decide) w)) hHeld ?_
  try dsimp only
  try simp only [Act.put, List.getElem_toArray, List.getElem_cons_zero, List.getElem_cons_succ, List.setIfInBounds_toArray, List.set_cons_zero, List.set_cons_succ]
  refine wpAnyH_take (i := 39) (v := .bool true) rfl (by kernel_rfl) (by kernel_rfl) (by kernel_rfl) (fun _ _ _ h => h) (yb_bin rfl .eql _ _ _ _ rfl _ _ _ rfl rfl (fun _ => rfl) (fun w => b_str (stL_lt _) (by decide) (decide_eq_true stL_nil) w)) hHeld ?_
  try dsimp only
  try simp only [Act.put, List.getElem_toArray, List.getElem_cons_zero, List.getElem_cons_succ, List.setIfInBounds_toArray, List.set_cons_zero, List.set_cons_succ]
  refine wpAnyH_take (i := 40) (v := .bool true) rfl (by kernel_rfl) (by kernel_rfl) (by kernel_rfl) (fun _ _ _ h => h) (Or.inl ⟨by rfl, fun _ _ => rfl⟩) hHeld ?_
  try dsimp only
  try simp only [Act.put, List.getElem_toArray, List.getElem_cons_zero, List.getElem_cons_succ, List.setIfInBounds_toArray, List.set_cons_zero, List.set_cons_succ]
  refine wpAnyH_take (i := 41) (v := .bool true) rfl (by kernel_rfl) (by kernel_rfl) (by kernel_rfl) (fun _ _ _ h => h) (Or.inl ⟨by rfl, fun _ _ => rfl⟩) hHeld ?_
  try dsimp only
  try simp only [Act.put, List.getElem_toArray, List.getElem_cons_zero, List.getElem_cons_succ, List.setIfInBounds_toArray, List.set_cons_zero, List.set_cons_succ]
  refine wpAnyH_done (by kernel_rfl) ?_ _
  go_wp2
  go_ret
  exact ⟨rfl, HB⟩
theorem aggNone_any (a : Option Addr) (l : List Nat) (la ca : Nat) (hla : Hid (la = l.length)) (_ : la ≤ ca) (_ : ca ≤ maxLen) (W : World) (HA : Hid (FlAt W a l)) :
    Calls Try.prog 10 #[.slice a la ca] W fun e w' => e = .returned (.bool true) ∧ Below W.heap.size W w' := by
  by_cases hL : 40 < la
  · exact aggNone_long a la ca hL W
  · exact aggNone_core a l la ca hla hL W HA
end Go.Proofs.Ythklamgdoknmeaa
