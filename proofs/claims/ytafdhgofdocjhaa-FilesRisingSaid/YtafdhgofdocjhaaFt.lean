/-
  Layer files: slices.Delete of one file.
-/
import Derived.Test.YtafdhgofdocjhaaFs
set_option linter.unusedSimpArgs false
set_option linter.unusedVariables false
namespace Go.Proofs.Ytafdhgofdocjhaa
open Go.RowKit Go.WideShapes

theorem row_cleared {w w2 w3 : World} {B f J cap : Nat} {zs cs : List Value} (R : RowX w2 B f J cap zs cs) (hJ : J < cap) (h : w3 = w2.setRow f (cs.take (J * 3) ++ flZ ++ cs.drop (J * 3 + 3)).toArray) (hg : w.grownBy w2 (some f)) :
    OwnX w3 B (some ⟨f, 0, none⟩) J cap zs ∧ w.grownBy w3 (some f) := by
  subst h
  have hl := R.hlen
  refine ⟨RowX.own (cs := cs.take (J * 3) ++ flZ ++ cs.drop (J * 3 + 3)) ⟨setRow_heap _ _ _ _ _ _ R.row, ?_, R.hcap, ?_, R.base, R.xlen, R.le⟩, ⟨hg.os, hg.tape, hg.output, ?_, fun k hk hn => ?_⟩⟩
  · simp [flZ]; omega
  · rw [List.append_assoc, List.take_append_of_le_length (by rw [List.length_take]; omega), List.take_take, Nat.min_self]; exact R.first
  · have : (w2.setRow f (cs.take (J * 3) ++ flZ ++ cs.drop (J * 3 + 3)).toArray).heap.size = w2.heap.size := by unfold World.setRow; simp
    rw [this]; exact hg.size
  · rw [← hg.block k hk hn]
    have hne : f ≠ k := fun e => hn (by rw [e])
    exact setRow_other w2 f k _ hne.symm
set_option maxHeartbeats 4000000 in
theorem del_any (B f k J cap i m : Nat) (hk : Hid (k = J + 1)) (hi : i < k) (hm : Hid (m = k - (i + 1))) (hb : k ≤ 100000) (hbc : Hid (k ≤ cap)) (xs : List Value) (w : World) (hown : Hid (OwnX w B (some ⟨f, 0, none⟩) k cap xs)) (h1 : Hid (∀ u ∈ xs, u.oneCell' = true)) :
    Calls Try.prog 46 #[.slice (some ⟨f, 0, none⟩) k cap, .int .i64 i, .int .i64 ((i : Int) + 1)] w fun e w' => e = .returned (.slice (some ⟨f, 0, none⟩) J cap) ∧ OwnX w' B (some ⟨f, 0, none⟩) J cap (xs.take (i * 3) ++ xs.drop ((i + 1) * 3)) ∧ w.grownBy w' (some f) := by
  obtain ⟨R1, hR1⟩ := slice3_run f k cap i hi hbc.out
  have HT := Lib.hid (sliceTo_run f k cap i (by omega) hbc.out)
  obtain ⟨ad, hF, had⟩ := sliceFrom_run f k cap i hi hbc.out
  rw [← hm.out] at hF
  have HF := Lib.hid hF
  obtain ⟨cs, RX⟩ := hown.out.row
  have HC : Hid (RowX w.drew B f i cap (xs.take (i * 3)) cs) := Lib.hid (by have h := RX.cut i (by omega); exact ⟨h.row, h.hlen, h.hcap, h.first, h.base, h.xlen, h.le⟩)
  have HL : Hid ((xs.drop ((i + 1) * 3)).length = m * 3) := Lib.hid (by rw [List.length_drop, RX.xlen, hm.out]; omega)
  have HA : Hid (∀ (j : Nat) (u : Value), (xs.drop ((i + 1) * 3))[j]? = some u → w.drew.cell? (ad.add j) = some u) := Lib.hid fun j u hu => by
    have hlt := (List.getElem?_eq_some_iff.1 hu).1
    rw [HL.out] at hlt
    have := hm.out
    rw [had (by omega), addr_add]
    exact RX.cells _ j u hu
  have H1 : Hid (∀ u ∈ xs.drop ((i + 1) * 3), u.oneCell' = true) := Lib.hid fun u hu => h1.out u (List.mem_of_mem_drop hu)
  have HR : Hid (i + m ≤ cap) := Lib.hid (by have := hm.out; have := hbc.out; omega)
  have HJ : Hid (i + m = J) := Lib.hid (by have := hm.out; have := hk.out; omega)
  have HTL := Lib.hid (sliceTail_run f J k cap (by have := hk.out; have := hbc.out; omega) hk.out)
  have HJC : Hid (J < cap) := Lib.hid (by have := hk.out; have := hbc.out; omega)
  have hne : ((i : Int) == (i : Int) + 1) = false := by simp; omega
  clear hF had RX hown h1
  go_enter Try.func46, Try.ntmps46
  go_upto_region 5 with fail
  refine wp_region_held_drew (S := fun _ => True) (by kernel_rfl) trivial (fun hHeld => ?_)
  refine wpAnyH_take (i := 0) (v := .slice (some ⟨f, 0, none⟩) k cap) rfl (by kernel_rfl) (by kernel_rfl) (by kernel_rfl) (fun _ _ _ h => h) (Or.inl ⟨by rfl, fun _ _ => rfl⟩) hHeld ?_
  try dsimp only
  try simp only [Act.put, List.getElem_toArray, List.getElem_cons_zero, List.getElem_cons_succ, List.setIfInBounds_toArray, List.set_cons_zero, List.set_cons_succ]
  refine wpAnyH_take (i := 1) (v := .int .i64 (i : Nat)) rfl (by kernel_rfl) (by kernel_rfl) (by kernel_rfl) (fun _ _ _ h => h) (Or.inl ⟨by rfl, fun _ _ => rfl⟩) hHeld ?_
  try dsimp only
  try simp only [Act.put, List.getElem_toArray, List.getElem_cons_zero, List.getElem_cons_succ, List.setIfInBounds_toArray, List.set_cons_zero, List.set_cons_succ]
  refine wpAnyH_take (i := 2) (v := .slice (some ⟨f, 0, none⟩) i cap) rfl (by kernel_rfl) (by kernel_rfl) (by kernel_rfl) (fun _ _ _ h => h) (Or.inl ⟨by rfl, fun w _ => by have := HT.out w; go_simp⟩) hHeld ?_
  try dsimp only
  try simp only [Act.put, List.getElem_toArray, List.getElem_cons_zero, List.getElem_cons_succ, List.setIfInBounds_toArray, List.set_cons_zero, List.set_cons_succ]
  refine wpAnyH_take (i := 3) (v := .slice (some ⟨f, 0, none⟩) k cap) rfl (by kernel_rfl) (by kernel_rfl) (by kernel_rfl) (fun _ _ _ h => h) (Or.inl ⟨by rfl, fun _ _ => rfl⟩) hHeld ?_
  try dsimp only
  try simp only [Act.put, List.getElem_toArray, List.getElem_cons_zero, List.getElem_cons_succ, List.setIfInBounds_toArray, List.set_cons_zero, List.set_cons_succ]
  refine wpAnyH_take (i := 4) (v := .int .i64 ((i : Int) + 1)) rfl (by kernel_rfl) (by kernel_rfl) (by kernel_rfl) (fun _ _ _ h => h) (Or.inl ⟨by rfl, fun _ _ => rfl⟩) hHeld ?_
  try dsimp only
  try simp only [Act.put, List.getElem_toArray, List.getElem_cons_zero, List.getElem_cons_succ, List.setIfInBounds_toArray, List.set_cons_zero, List.set_cons_succ]
  refine wpAnyH_take (i := 5) (v := .slice (some ad) m (cap - (i + 1))) rfl (by kernel_rfl) (by kernel_rfl) (by kernel_rfl) (fun _ _ _ h => h) (Or.inl ⟨by rfl, fun w _ => by have := HF.out w; go_simp⟩) hHeld ?_
  try dsimp only
  try simp only [Act.put, List.getElem_toArray, List.getElem_cons_zero, List.getElem_cons_succ, List.setIfInBounds_toArray, List.set_cons_zero, List.set_cons_succ]
  refine wpAnyH_ready (rs := [6]) (by kernel_rfl) (by simp) (AllReadyH.cons rfl (fun K hK => ?_) AllReadyH.nil)
  rw [if_pos (by rfl)]
  refine wp_append_xf (.tmp 22) (.tmp 25) rfl B f i cap (xs.take (i * 3)) rfl HC.out.own ad m (cap - (i + 1)) (xs.drop ((i + 1) * 3)) rfl HL.out HA.out H1.out HR.out J HJ.out ?_
  intro w2 own2 hg2
  have HO := Lib.hid own2
  have HG := Lib.hid hg2
  clear own2 hg2
  refine hK.out _ _ trivial (fun hHeld => ?_)
  clear hK K
  try dsimp only
  try simp only [Act.put, List.getElem_toArray, List.getElem_cons_zero, List.getElem_cons_succ, List.setIfInBounds_toArray, List.set_cons_zero, List.set_cons_succ]
  refine wpAnyH_ready (rs := [7]) (by kernel_rfl) (by simp) (AllReadyH.cons rfl (fun K hK => ?_) AllReadyH.nil)
  go_simp
  refine hK.out _ _ trivial (fun hHeld => ?_)
  clear hK K
  refine wpAnyH_done (by kernel_rfl) ?_ _
  obtain ⟨cs2, R2⟩ := HO.out.row
  have HR2 := Lib.hid R2
  obtain ⟨w3, hclr, hw3⟩ := run_clear_x (n := J) R2.row (by have := R2.hlen; have := HJC.out; omega) (cap - J) 0
  have HW3 := Lib.hid hw3
  have htl := HTL.out
  clear R2 hw3
  go_wp2
  go_ret
  obtain ⟨o3, g3⟩ := row_cleared HR2.out HJC.out HW3.out HG.out
  exact ⟨rfl, o3, ⟨g3.os, g3.tape, g3.output, g3.size, g3.block⟩⟩
end Go.Proofs.Ytafdhgofdocjhaa
