/-
  Layer agg: the state of a list of values; the law's own 'of'; awake.
-/
import Derived.Test.YthklamgdoknmeaaAd
set_option linter.unusedSimpArgs false
set_option linter.unusedVariables false
set_option maxRecDepth 8000
namespace Go.Proofs.Ythklamgdoknmeaa
open Go.RowKit Sm
theorem kind256 (b : Nat) : kindB b < 256 := Nat.lt_trans (kindB_lt b) (by decide)
theorem acc256 (l : List Nat) : accH l < 256 := Nat.lt_trans (accH_lt l) (by decide)
theorem addTL (l : List Nat) (x : Nat) (hl : ∀ y ∈ l, y < 18446744073709551616) (hx : x < 18446744073709551616) (hn : l.length < 1099511627776) (w : World) :
    Calls Try.prog 32 #[.agg (TL l), .float .f64 x] w fun e w' => e = .returned (.agg (TL (l ++ [x]))) ∧ Below w.heap.size w w' := by
  have ha := anyH_acc l
  have hk := anyH_kind x
  have kc := Fl.canon_lt x hx
  unfold anyH at ha hk
  unfold TL
  by_cases h : l = []
  · subst h
    refine addS_core _ _ _ _ _ x _ _ _ _ _ hx (fun w => joinS_l _ _ _ _ _ _ _ _ _ _ ha w) w |>.mono ?_
    rintro e w' ⟨he, hb⟩
    refine ⟨he.trans ?_, hb⟩
    rw [accN_snoc, accH_snoc, List.nil_append, accLo_one, accHi_one]
    show _ = Ending.returned (Value.agg (T39 1 (wd ((0 + unit x) % top)) (0 ||| kindB x) (Fl.canon x) (Fl.canon x)))
    rw [Nat.zero_or, Nat.zero_add, Nat.mod_eq_of_lt (unit_lt x)]
  · have ht : (!l.isEmpty) = true := by cases l <;> simp_all
    rw [ht] at ha
    refine addS_core _ _ _ _ _ x _ _ _ _ _ hx (fun w => joinS_b _ _ _ _ _ _ _ _ _ _ (by omega) (accLo_lt l hl) kc (accHi_lt l hl) kc (acc256 l) (kind256 x) ha hk w) w |>.mono ?_
    rintro e w' ⟨he, hb⟩
    refine ⟨he.trans ?_, hb⟩
    rw [accN_snoc, accH_snoc, accLo_snoc l x h, accHi_snoc l x h, minC_canon, maxC_canon, List.length_append]; rfl
theorem TL_nil : TL [] = T39 0 (fun _ => 0) 0 0 0 := by
  have e1 : accLo [] = 0 := by unfold accLo; rfl
  have e2 : accHi [] = 0 := by unfold accHi; rfl
  show T39 0 (wd 0) 0 (accLo []) (accHi []) = _
  rw [e1, e2]
  refine (T39_ext _ _ _ _ _ (T39_size ..) (T39_n ..) (fun i hi => ?_) (T39_lo ..) (T39_hi ..)).symm
  rw [T39_sum _ _ _ _ _ i hi, P36_none]
theorem of_take {l : List Nat} {k : Nat} (h : k < l.length) : l.take (k + 1) = l.take k ++ [l[k]] := List.take_succ_eq_append_getElem h

set_option maxHeartbeats 4000000 in
theorem ofS_any (a : Option Addr) (l : List Nat) (len cap : Nat) (hlen : Hid (len = l.length)) (hl : len ≤ 1000000) (w : World) (HA : Hid (FlAt w a l)) :
    Calls Try.prog 21 #[.slice a len cap] w fun e w' => e = .returned (.agg (TL l)) ∧ Below w.heap.size w w' := by
  have HLT : Hid (∀ x ∈ l, x < 18446744073709551616) := Lib.hid fun x hx => by
    obtain ⟨k, hk⟩ := List.getElem?_of_mem hx
    exact (HA.out k x hk).1
  go_enter Try.func21, Try.ntmps21
  go_wp2
  rw [zeros39]
  go_loopw [4] (fun i wr => ∃ k : Nat, k ≤ len ∧ i = .int .i64 k ∧ Kp2 w w.heap.size (T39 0 (fun _ => 0) 0 0 0) 40 (w.heap.size + 1) (TL (l.take k)) 40 wr) (fun i _ => len - (intOf i).toNat)
  case atStart =>
    refine ⟨0, by omega, rfl, ?_⟩
    have h := Kp2.start w (T39 0 (fun _ => 0) 0 0 0) (T39 0 (fun _ => 0) 0 0 0) 40 40
    rw [List.take_zero, TL_nil]
    exact ⟨((Below.refl _ _).alloc (Nat.le_refl _) _).alloc (by simp) _, h.row1, h.row2⟩
  case round =>
    obtain ⟨k, hk, rfl, hq⟩ := hrel
    have HQ0 := Lib.hid hq
    clear hq
    by_cases hlt : k < len
    · have hkl : k < l.length := by have := hlen.out; omega
      obtain ⟨hx, g, off, rfl, hg, hc0⟩ := HA.out k l[k] (List.getElem?_eq_getElem hkl)
      have HADD : Hid (∀ w, Calls Try.prog 32 #[.agg (TL (l.take k)), .float .f64 l[k]] w fun e w' => e = .returned (.agg (TL (l.take (k + 1)))) ∧ Below w.heap.size w w') := Lib.hid fun w => by
        rw [of_take hkl]
        exact addTL _ _ (fun y hy => HLT.out y (List.mem_of_mem_take hy)) hx (by rw [List.length_take]; omega) w
      have HC0 := Lib.hid hc0
      clear hc0
      generalize l[k] = X at *
      have hkI : (k : Int) < (len : Int) := by omega
      go_wp2
      refine wp_region_held_drew (S := Below w.heap.size w) (by kernel_rfl) HQ0.out.below.drew (fun hHeld => ?_)
      have HQ := HQ0.out.drew
      have hc0 := HC0.out
      refine wpAnyH_take (i := 1) (v := .slice (some ⟨g, off, none⟩) len cap) rfl (by kernel_rfl) (by kernel_rfl) (by kernel_rfl) (fun _ _ _ h => h) (Or.inl ⟨by rfl, fun _ _ => rfl⟩) hHeld ?_
      try dsimp only
      try simp only [Act.put, List.getElem_toArray, List.getElem_cons_zero, List.getElem_cons_succ, List.setIfInBounds_toArray, List.set_cons_zero, List.set_cons_succ]
      refine wpAnyH_take (i := 2) (v := .int .i64 k) rfl (by kernel_rfl) (by kernel_rfl) (by kernel_rfl) (fun _ _ _ h => h) (Or.inl ⟨by rfl, fun _ _ => rfl⟩) hHeld ?_
      try dsimp only
      try simp only [Act.put, List.getElem_toArray, List.getElem_cons_zero, List.getElem_cons_succ, List.setIfInBounds_toArray, List.set_cons_zero, List.set_cons_succ]
      refine wpAnyH_take (i := 3) (v := .pointer (some ⟨g, off + k, none⟩)) rfl (by kernel_rfl) (by kernel_rfl) (by kernel_rfl) (fun _ _ _ h => h) (Or.inl ⟨by rfl, fun w _ => by go_simp⟩) hHeld ?_
      try dsimp only
      try simp only [Act.put, List.getElem_toArray, List.getElem_cons_zero, List.getElem_cons_succ, List.setIfInBounds_toArray, List.set_cons_zero, List.set_cons_succ]
      refine wpAnyH_take (i := 4) (v := .float .f64 X) rfl (by kernel_rfl) (by kernel_rfl) (by kernel_rfl) (fun _ _ _ h => h) (Or.inl ⟨by rfl, fun w hw => by have hc : w.cell? ⟨g, off + k, none⟩ = some (.float .f64 X) := (hw.cell (p := ⟨g, off + k, none⟩) hg).trans hc0; go_simp⟩) hHeld ?_
      try dsimp only
      try simp only [Act.put, List.getElem_toArray, List.getElem_cons_zero, List.getElem_cons_succ, List.setIfInBounds_toArray, List.set_cons_zero, List.set_cons_succ]
      refine wpAnyH_ready (rs := [0]) (by kernel_rfl) (by simp) (AllReadyH.cons rfl (fun K hK => ?_) AllReadyH.nil)
      rw [if_pos (by rfl)]
      refine wp_load_row 40 (.tmp 3) rfl (w.heap.size + 1) rfl _ (TL (l.take k)) (0, 0) _ HQ.row2 uT rfl (iT _ _ _ _ _) ?_
      refine hK.out _ _ hHeld (fun hHeld => ?_)
      clear hK K
      try dsimp only
      try simp only [Act.put, List.getElem_toArray, List.getElem_cons_zero, List.getElem_cons_succ, List.setIfInBounds_toArray, List.set_cons_zero, List.set_cons_succ]
      refine wpAnyH_ready (rs := [5]) (by kernel_rfl) (by simp) (AllReadyH.cons rfl (fun K hK => ?_) AllReadyH.nil)
      go_simp
      refine (HADD.out _).mono ?_
      rintro e w1 ⟨rfl, hb1⟩
      replace hHeld := below_to hHeld hb1
      replace HQ := HQ.next hb1
      refine hK.out _ _ hHeld (fun hHeld => ?_)
      clear hK K
      try dsimp only
      try simp only [Act.put, List.getElem_toArray, List.getElem_cons_zero, List.getElem_cons_succ, List.setIfInBounds_toArray, List.set_cons_zero, List.set_cons_succ]
      refine wpAnyH_ready (rs := [6]) (by kernel_rfl) (by simp) (AllReadyH.cons rfl (fun K hK => ?_) AllReadyH.nil)
      rw [if_pos (by rfl)]
      refine wp_store_row 40 (.tmp 3) (.tmp 16) rfl (w.heap.size + 1) (TL (l.take (k + 1))) rfl rfl _ _ HQ.row2 (iT _ _ _ _ _) (by rw [T39_size, T39_size]) (one39 _ _ _ _ _) ?_
      have HQ2 := Lib.hid (HQ.put2 (by omega) (by omega) (TL (l.take (k + 1))))
      refine hK.out _ _ HQ2.out.below (fun _ => ?_)
      clear hK K
      refine wpAnyH_done (by kernel_rfl) ?_ _
      clear HQ0 HQ hc0 hHeld HADD
      go_wp2
      go_roundw
      case rel => exact ⟨k + 1, by omega, by go_num, HQ2.out⟩
      case measure => simp [intOf]; omega
    · have hkl : l.take k = l := List.take_of_length_le (by have := hlen.out; omega)
      rw [hkl] at HQ0
      go_wp2_with (first
        | (refine wpList_load_row rfl 40 (.tmp 3) rfl (w.heap.size + 1) rfl _ (TL l) (0, 0) _ HQ0.out.row2 uT rfl (iT _ _ _ _ _) ?_)
        | (refine wpList_store_row rfl 40 (.tmp 2) (.tmp 17) rfl w.heap.size (TL l) rfl rfl _ _ HQ0.out.row1 (iT _ _ _ _ _) (by rw [T39_size, T39_size]) (one39 _ _ _ _ _) ?_))
      exact post_row 2 40 Try.results21 rfl w.heap.size 40 _ (0, 0) _ rfl (setRow_heap _ _ _ _ _ _ HQ0.out.row1) uT rfl (iT _ _ _ _ _) ⟨rfl, below_setRow HQ0.out.below (Nat.le_refl _) _⟩
/-- What is told of some values. -/
def telL (l : List Nat) : Tel := ⟨l.length, Fl.canon (valW (accN l) (accH l)), valO (accN l) (accH l), Fl.canon (accLo l), Fl.canon (accHi l)⟩
theorem valW_lt (n h : Nat) : valW n h < 18446744073709551616 := by
  unfold valW
  split
  · decide
  · split
    · decide
    · split
      · decide
      · split
        · decide
        · exact (nearest_word _ _).2.1
theorem telL_ok (l : List Nat) (hl : ∀ x ∈ l, x < 18446744073709551616) (hn : l.length ≤ 1000000) : (telL l).Ok :=
  ⟨by show l.length < _; omega, Fl.canon_lt _ (valW_lt _ _), Fl.canon_lt _ (accLo_lt l hl), Fl.canon_lt _ (accHi_lt l hl)⟩
theorem valueTL (l : List Nat) (hl : ∀ x ∈ l, x < 18446744073709551616) (w : World) :
    Calls Try.prog 23 #[.agg (TL l)] w (TelEnds w (telL l)) :=
  valueS_core _ _ _ _ _ _ _ (fun w => value_any _ _ (accN_lt l) (accH_lt l) w) (valW_lt _ _) (accLo_lt l hl) (accHi_lt l hl) w
theorem aw12 : telB (telL [4613937818241073152, 4607182418800017408, 4611686018427387904]) ⟨3, 4618441417868443648, false, 4607182418800017408, 4613937818241073152⟩ = true := by
  unfold telL telB accLo accHi
  simp only [List.foldl, minC_eq, maxC_eq]
  decide +kernel
set_option maxHeartbeats 1000000 in
theorem awakeS_any (w : World) : Calls Try.prog 20 #[] w fun e w' => e = .returned (.bool true) ∧ Below w.heap.size w w' := by
  have HB : Below w.heap.size w (w.alloc (.cells #[Value.float .f64 4613937818241073152, Value.float .f64 4607182418800017408, Value.float .f64 4611686018427387904] 33)) := (Below.refl _ _).alloc (Nat.le_refl _) _
  have HV := Lib.hid fun w => valueTL [4613937818241073152, 4607182418800017408, 4611686018427387904] (by decide) w
  have HT := Lib.hid fun w => aggSame_any (telL [4613937818241073152, 4607182418800017408, 4611686018427387904]) ⟨3, 4618441417868443648, false, 4607182418800017408, 4613937818241073152⟩ (telL_ok _ (by decide) (by decide)) ⟨by decide, by decide, by decide, by decide⟩ w
  have HT : Hid (∀ w, Calls Try.prog 37 #[.agg #[.int .u64 ((telL [4613937818241073152, 4607182418800017408, 4611686018427387904]).c : Int), .float .f64 (telL [4613937818241073152, 4607182418800017408, 4611686018427387904]).s, .bool (telL [4613937818241073152, 4607182418800017408, 4611686018427387904]).o, .float .f64 (telL [4613937818241073152, 4607182418800017408, 4611686018427387904]).lo, .float .f64 (telL [4613937818241073152, 4607182418800017408, 4611686018427387904]).hi], .agg #[.int .u64 3, .float .f64 4618441417868443648, .bool false, .float .f64 4607182418800017408, .float .f64 4613937818241073152]] w fun e w' => e = .returned (.bool true) ∧ Below w.heap.size w w') := Lib.hid fun w => by
    have h := HT.out w
    rw [aw12] at h
    exact h
  generalize telL [4613937818241073152, 4607182418800017408, 4611686018427387904] = T at *
  go_enter Try.func20, Try.ntmps20
  go_wp2_with (first
    | (go_at_call 21; refine (ofS_any _ [4613937818241073152, 4607182418800017408, 4611686018427387904] 3 3 rfl (by decide) _ (flAt_new w [4613937818241073152, 4607182418800017408, 4611686018427387904] _ (by decide))).mono ?_; rintro e w' ⟨rfl, hb1⟩; replace HB := HB.trans (hb1.mono HB.size); clear hb1)
    | (go_at_call 23; (with_reducible refine (HV.out _).mono ?_); rintro e w' ⟨rfl, hb1⟩; replace HB := HB.trans (hb1.mono HB.size); clear hb1)
    | (go_at_call 37; (with_reducible refine (HT.out _).mono ?_); rintro e w' ⟨rfl, hb1⟩; replace HB := HB.trans (hb1.mono HB.size); clear hb1))
  go_ret
  exact ⟨rfl, HB⟩
end Go.Proofs.Ythklamgdoknmeaa
