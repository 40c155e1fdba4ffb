/-
  Layer column: times: a list of what a function tells, one call behind the other.
-/
import Derived.Test.YtplmafbdalkopaaCy
import Derived.Test.YtplmafbdalkopaaCb
set_option linter.unusedSimpArgs false
set_option linter.unusedVariables false
set_option maxRecDepth 8000
namespace Go.Proofs.Ytplmafbdalkopaa
open Go.RowKit Go.WideShapes Col
namespace Col
/-- So many steps, one behind the other: what they tell, and what is left. -/
def runS {σ α : Type} (step : σ → Option (α × σ)) : Nat → σ → Option (List α × σ)
  | 0, s => some ([], s)
  | k + 1, s => (runS step k s).bind fun p => (step p.2).map fun r => (p.1 ++ [r.1], r.2)
theorem runS_some {σ α : Type} {step : σ → Option (α × σ)} {k : Nat} {s s' s2 : σ} {xs : List α} {x : α} (h : runS step k s = some (xs, s')) (h2 : step s' = some (x, s2)) : runS step (k + 1) s = some (xs ++ [x], s2) := by
  rw [runS, h]; simp [h2]
theorem runS_none {σ α : Type} {step : σ → Option (α × σ)} {k : Nat} {s s' : σ} {xs : List α} (h : runS step k s = some (xs, s')) (h2 : step s' = none) : ∀ n, k < n → runS step n s = none := by
  intro n hn
  induction n with
  | zero => omega
  | succ n ih =>
    by_cases hk : k = n
    · subst hk; rw [runS, h]; simp [h2]
    · rw [runS, ih (by omega)]; rfl
theorem runS_len {σ α : Type} {step : σ → Option (α × σ)} : ∀ {k : Nat} {s s' : σ} {xs : List α}, runS step k s = some (xs, s') → xs.length = k
  | 0, s, s', xs, h => by rw [runS] at h; injection h with h; injection h with h1 h2; rw [← h1]; rfl
  | k + 1, s, s', xs, h => by
    rw [runS] at h
    rcases hr : runS step k s with _ | ⟨ys, s1⟩
    · rw [hr] at h; cases h
    · rw [hr] at h
      simp only [Option.bind_some] at h
      rcases hs : step s1 with _ | ⟨x, s2⟩
      · rw [hs] at h; cases h
      · rw [hs] at h; injection h with h; injection h with h1 h2
        rw [← h1, List.length_append, runS_len hr]; rfl
end Col

/-- A row of whole numbers that is all of a slice. -/
def RowI (w : World) (g : Nat) (l : List Int) : Prop := w.heap[g]? = some (.cells (ivs l).toArray 2 (0, 0))
section
variable {w : World} {g : Nat} {l : List Int}
theorem RowI.fr (h : RowI w g l) (i : Nat) : w.frozen? ⟨g, i, none⟩ = false := row_frozen h i
theorem RowI.at (h : RowI w g l) (i : Nat) (hi : i < l.length) : ∃ u, w.cell? ⟨g, i, none⟩ = some u := by
  rw [cell_of_row _ _ _ _ _ _ h, List.getElem?_toArray]
  exact ⟨_, List.getElem?_eq_getElem (by rw [ivs_length]; exact hi)⟩
theorem RowI.set (h : RowI w g l) (i : Nat) (x : Int) : RowI (w.setCell ⟨g, i, none⟩ (.int .i64 x)) g (l.set i x) := by
  unfold RowI at *
  rw [World.setCell]
  simp only [Array.getElem?_modify, if_pos, h, Option.map_some]
  have e : (ivs l).toArray.setIfInBounds i (.int .i64 x) = (ivs (l.set i x)).toArray := by
    unfold ivs; rw [List.map_set]; simp; rfl
  simp [e]
theorem RowI.keep {S : Nat → Prop} {w' : World} (h : RowI w g l) (hk : Kept S w w') (hg : ¬ S g) : RowI w' g l := hk.heap h hg
theorem RowI.own {B : Nat} (h : RowI w g l) (hB : B ≤ g) (hl : ∀ x ∈ l, Wf64 x) (hm : l.length ≤ maxLen) : OwnI w B (some ⟨g, 0, none⟩) l.length l.length l := by
  refine ⟨⟨by rw [ivs_length]; omega, .inr ⟨g, l.length, _, rfl, hB, h, Nat.le_refl _, hm, by simp [ivs_length], by rw [Nat.mul_one]; simp [ivs_length, List.take_of_length_le]⟩⟩, hl⟩
end
theorem rowI_zeros {w : World} {B g q : Nat} (h : w.ownsRow B 2 1 (.slice (some ⟨g, 0, none⟩) q q) q (madeCells (Value.int .i64 0).cells (q * 1)).toList) : RowI w g (List.replicate q 0) := by
  have e : ivs (List.replicate q 0) = List.replicate q (.int .i64 0) := by unfold ivs; rw [List.map_replicate]; rfl
  rw [Nat.mul_one, show (Value.int .i64 0).cells = #[.int .i64 0] from rfl, toList_madeCells_one, ← e] at h
  rcases h.2 with ⟨h1, h2⟩ | ⟨g', cap', cur, h1, hb, hrow, -, -, hs, ht⟩
  · cases h1
  · cases h1
    unfold RowI
    rw [hrow]
    have hc : cur = (ivs (List.replicate q 0)).toArray := by
      apply Array.ext'
      rw [← ht, Nat.mul_one, List.take_of_length_le (by rw [Array.length_toList, hs]; omega)]
    rw [hc]
theorem fill_set (xs : List Int) (n k : Nat) (hx : xs.length = k) (hk : k < n) (x : Int) : (xs ++ List.replicate (n - k) 0).set k x = (xs ++ [x]) ++ List.replicate (n - (k + 1)) 0 := by
  obtain ⟨m, rfl⟩ : ∃ m, n = k + 1 + m := ⟨n - k - 1, by omega⟩
  rw [show k + 1 + m - k = m + 1 by omega, show k + 1 + m - (k + 1) = m by omega, List.replicate_succ, List.set_append_right _ _ (by omega), hx, Nat.sub_self, List.set_cons_zero, List.append_assoc]; rfl

/-- How one call ends. -/
def StepEnds {σ : Type} (g : Nat) (Sw : Nat → Prop) (St : σ → World → Prop) (o : Option (Int × σ)) (w : World) (e : Ending) (w' : World) : Prop :=
  match o with
  | some p => e = .returned (.int .i64 p.1) ∧ Wf64 p.1 ∧ St p.2 w' ∧ Kept Sw w w'
  | none => e = .panicked [gu g] ∧ Gone w' g ∧ Kept Sw w w'
/-- How a reading of a list ends. -/
def ListEnds {σ : Type} (g : Nat) (Sw : Nat → Prop) (St : σ → World → Prop) (o : Option (List Int × σ)) (w : World) (e : Ending) (w' : World) : Prop :=
  match o with
  | some p => (∃ A n cap, e = .returned (.slice A n cap) ∧ OwnI w' w.heap.size A n cap p.1) ∧ St p.2 w' ∧ Kept Sw w w'
  | none => e = .panicked [gu g] ∧ Gone w' g ∧ Kept Sw w w'
def RT {σ : Type} (Sw : Nat → Prop) (St : σ → World → Prop) (step : σ → Option (Int × σ)) (n : Nat) (w : World) (s0 : σ) (v : Value) (wr : World) : Prop :=
  ∃ (k : Nat) (xs : List Int) (s : σ), k ≤ n ∧ v = .int .i64 (k : Int) ∧ runS step k s0 = some (xs, s) ∧ (∀ x ∈ xs, Wf64 x) ∧ RowI wr w.heap.size (xs ++ List.replicate (n - k) 0) ∧ St s wr ∧ Kept Sw w wr ∧ w.heap.size < wr.heap.size
theorem infoI64' : (Try.prog.info? 2).map (fun i => (i.zero, i.size, i.bytes)) = some (some (.int .i64 0), 1, 8) := by kernel_rfl
set_option maxHeartbeats 2000000 in
theorem times_any {σ : Type} (step : σ → Option (Int × σ)) (F : Nat) (first cap : Array Value) (hent : ∀ (args : Array Value) (w : World), (callFunc F args).run Try.prog w = .ok (.enter F args) w)
    (n : Nat) (hn : n ≤ 4096) (g : Nat) (Sw : Nat → Prop) (St : σ → World → Prop) (w : World) (hSw : Hid (∀ k, Sw k → k < w.heap.size)) (hkeep : Hid (∀ s w1 w2, St s w1 → Kept (fun j => w.heap.size ≤ j) w1 w2 → St s w2))
    (s0 : σ) (hstep : Hid (∀ k xs s w1, k < n → runS step k s0 = some (xs, s) → St s w1 → w.heap.size ≤ w1.heap.size → Calls Try.prog F (first ++ cap) w1 (StepEnds g Sw St (step s) w1))) (h0 : Hid (St s0 w)) :
    Calls Try.prog 75 #[.int .i64 (n : Int), .func (.func F) first cap] w (ListEnds g Sw St (runS step n s0) w) := by
  obtain ⟨iu, hiu, hz0, hz1, hz2⟩ := info_parts infoI64'
  have hzb : iu.bytes * n ≤ 281474976710656 := by rw [hz2]; omega
  have hnm : n ≤ maxLen := by unfold maxLen; omega
  go_enter Try.func75, Try.ntmps75
  go_wp2_with (refine wpList_make_full _ rfl (.tmp 7) (.tmp 7) 22 rfl w.heap.size 2 iu (.int .i64 0) 1 Try.underlying22 hiu hz0 hz1 .i64 .i64 _ _ n rfl rfl rfl rfl hzb hnm (Nat.le_refl _) ?_; intro w1 own hgr; have HRI := Lib.hid (rowI_zeros own); have HB1 : Hid (Below w.heap.size w w1) := Lib.hid ((Below.refl _ w).grown hgr (Nat.le_refl _) (by intro k hk; cases hk)); clear own hgr)
  have HST : Hid (RT Sw St step n w s0 (.int .i64 0) w1) := Lib.hid ⟨0, [], s0, Nat.zero_le _, rfl, rfl, (fun x hx => by cases hx), by simpa using HRI.out, hkeep.out _ _ _ h0.out (Kept.of_below HB1.out), Kept.of_below HB1.out, (Array.getElem?_eq_some_iff.1 HRI.out).1⟩
  obtain ⟨L, hL⟩ : ∃ L, L = w.heap.size := ⟨_, rfl⟩
  have HL := Lib.hid hL
  rw [← hL]
  clear hL HRI HB1
  go_loopw [11] (fun v wr => RT Sw St step n w s0 v wr) (fun v _ => n - (intOf v).toNat)
  case atStart => exact HST.out
  case round =>
    obtain ⟨k, xs, s, hk, rfl, hrun, hwf, hrow, hst, hkp, hsz⟩ := hrel
    have HRUN := Lib.hid hrun; have HWF := Lib.hid hwf; have HST2 := Lib.hid hst; have HK := Lib.hid hkp; have HSZ := Lib.hid hsz
    have HROW : Hid (RowI wr L (xs ++ List.replicate (n - k) 0)) := Lib.hid (HL.out ▸ hrow)
    have HXL := Lib.hid (runS_len hrun)
    clear hrun hwf hst hkp hrow HST hsz
    by_cases hlt : k < n
    · have HC := Lib.hid (hstep.out k xs s wr hlt HRUN.out HST2.out (Nat.le_of_lt HSZ.out))
      have HNS : Hid (¬ Sw L) := Lib.hid fun h => by have := hSw.out L h; have := HL.out; omega
      rcases hs : step s with _ | ⟨x, s'⟩
      · have HN := Lib.hid (runS_none HRUN.out hs n hlt)
        rw [hs] at HC
        have HC2 : Hid (Calls Try.prog F (first ++ cap) wr fun e w' => e = .panicked [gu g] ∧ Gone w' g ∧ Kept Sw wr w') := HC
        clear hs HC
        go_wp2_with ((with_reducible refine (HC2.out).mono ?_); rintro e w2 ⟨rfl, h1, h2⟩)
        rw [HN.out]
        exact ⟨rfl, rfl, h1, HK.out.trans h2⟩
      · have HN := Lib.hid (runS_some HRUN.out hs)
        rw [hs] at HC
        have HC2 : Hid (Calls Try.prog F (first ++ cap) wr fun e w' => e = .returned (.int .i64 x) ∧ Wf64 x ∧ St s' w' ∧ Kept Sw wr w') := HC
        have HSET := Lib.hid (fill_set xs n k HXL.out hlt x)
        clear hs HC
        go_wp2_with ((with_reducible refine (HC2.out).mono ?_); rintro e w2 ⟨rfl, h1, h2, h3⟩; have HR2 : Hid (RowI w2 L _) := Lib.hid (HROW.out.keep h3 HNS.out); have HWX := Lib.hid h1; have HS2 := Lib.hid h2; have HK2 := Lib.hid h3; have f2 := HR2.out.fr k; obtain ⟨u2, c2⟩ := HR2.out.at k (by rw [List.length_append, List.length_replicate, HXL.out]; omega); clear h1 h2 h3)
        go_roundw
        case rel =>
          have hk2 : Kept (fun j => w.heap.size ≤ j) w2 (w2.setCell ⟨L, k, none⟩ (.int .i64 x)) := (Kept.refl _ _).setCell _ _ (.inl (by rw [HL.out]; exact Nat.le_refl _))
          refine ⟨k + 1, xs ++ [x], s', by omega, by go_num, HN.out, fun y hy => ?_, ?_, hkeep.out _ _ _ HS2.out hk2, (HK.out.trans HK2.out).trans' hk2 (fun i hi => .inr hi), ?_⟩
          · rcases List.mem_append.1 hy with h | h
            · exact HWF.out y h
            · rw [List.mem_singleton.1 h]; exact HWX.out
          · rw [← HSET.out, ← HL.out]; exact HR2.out.set k x
          · rw [setCell_size]; exact Nat.lt_of_lt_of_le HSZ.out HK2.out.size
        case measure => simp [intOf]; omega
    · obtain rfl : k = n := by omega
      go_wp2
      go_ret
      rw [HRUN.out]
      have hr := HROW.out
      rw [Nat.sub_self, List.replicate_zero, List.append_nil] at hr
      have ho := hr.own (B := w.heap.size) (by rw [HL.out]; exact Nat.le_refl _) HWF.out (by rw [HXL.out]; exact hnm)
      rw [HXL.out] at ho
      exact ⟨⟨_, _, _, rfl, ho⟩, HST2.out, HK.out⟩
end Go.Proofs.Ytplmafbdalkopaa
