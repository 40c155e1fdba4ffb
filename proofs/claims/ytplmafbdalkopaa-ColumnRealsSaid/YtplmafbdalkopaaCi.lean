/-
  Layer column: readPacked's function.
-/
import Derived.Test.YtplmafbdalkopaaCh
set_option linter.unusedSimpArgs false
set_option linter.unusedVariables false
set_option maxRecDepth 8000
namespace Go.Proofs.Ytplmafbdalkopaa
open Go.RowKit Go.WideShapes Col
namespace Col
def atI (i W : Nat) : Int := (i : Int) * (W : Int) - (W : Int)
theorem atI_add (i W : Nat) : atI i W + (W : Int) = ((i * W : Nat) : Int) := by unfold atI; rw [Int.natCast_mul]; omega
theorem atI_next (i W : Nat) : atI (i + 1) W = ((i * W : Nat) : Int) := by unfold atI; rw [Int.natCast_mul, Int.natCast_add, Int.add_mul]; simp
theorem atI_zero (W : Nat) : atI 0 W = -(W : Int) := by unfold atI; simp
/-- The i-th of some packed numbers. -/
def pval (W V : Nat) (mn : Int) (i : Nat) : Int := wrap64 (mn + IntKind.i64.wrap ((bitsAt V (i * W) W : Nat) : Int))
def pstep (W V : Nat) (mn : Int) (s : Nat × List Nat) : Option (Int × (Nat × List Nat)) := some (pval W V mn s.1, (s.1 + 1, s.2))
theorem prun (W V : Nat) (mn : Int) (r : List Nat) : ∀ k, runS (pstep W V mn) k (0, r) = some ((List.range k).map (pval W V mn), (k, r))
  | 0 => rfl
  | k + 1 => by rw [runS, prun W V mn r k]; simp [pstep, List.range_succ]
end Col
attribute [irreducible] atI
structure PS (g ca cw cl cp W K C V : Nat) (A : Option Addr) (mn : Int) (s : Nat × List Nat) (w : World) : Prop where
  rd : RdM g s.2 w
  ra : w.heap[ca]? = some (.cells #[.int .i64 (atI s.1 W)] 3 (0, 0))
  rw : w.heap[cw]? = some (.cells #[.int .i64 (W : Int)] 3 (0, 0))
  rl : w.heap[cl]? = some (.cells #[.int .i64 mn] 2 (0, 0))
  rp : w.heap[cp]? = some (.cells #[.slice A K C] 24 (0, 0))
  bytes : ByAt w A (leb K V)
  low : ∀ a, A = some a → 0 < (leb K V).length → a.block < g
  n1 : g < ca
  n2 : g < cw
  n3 : g < cl
  n4 : g < cp
  n5 : ca ≠ cw
  n6 : ca ≠ cl
  n7 : ca ≠ cp
section
variable {g ca cw cl cp W K C V : Nat} {A : Option Addr} {mn : Int} {s : Nat × List Nat} {w w' : World}
theorem PS.keep {S : Nat → Prop} (h : PS g ca cw cl cp W K C V A mn s w) (hk : Kept S w w') (hS : ∀ k, S k → g < k ∧ k ≠ ca ∧ k ≠ cw ∧ k ≠ cl ∧ k ≠ cp) : PS g ca cw cl cp W K C V A mn s w' :=
  ⟨h.rd.high hk fun k hs => (hS k hs).1, hk.heap h.ra fun e => (hS _ e).2.1 rfl, hk.heap h.rw fun e => (hS _ e).2.2.1 rfl, hk.heap h.rl fun e => (hS _ e).2.2.2.1 rfl, hk.heap h.rp fun e => (hS _ e).2.2.2.2 rfl,
    h.bytes.kept hk fun a ha h0 hs => by have := h.low a ha h0; have := (hS _ hs).1; omega, h.low, h.n1, h.n2, h.n3, h.n4, h.n5, h.n6, h.n7⟩
theorem PS.c_ca (h : PS g ca cw cl cp W K C V A mn s w) : w.cell? ⟨ca, 0, none⟩ = some (.int .i64 (atI s.1 W)) := by rw [cell_of_row _ _ _ _ _ _ h.ra]; rfl
theorem PS.c_cw (h : PS g ca cw cl cp W K C V A mn s w) : w.cell? ⟨cw, 0, none⟩ = some (.int .i64 (W : Int)) := by rw [cell_of_row _ _ _ _ _ _ h.rw]; rfl
theorem PS.c_cl (h : PS g ca cw cl cp W K C V A mn s w) : w.cell? ⟨cl, 0, none⟩ = some (.int .i64 mn) := by rw [cell_of_row _ _ _ _ _ _ h.rl]; rfl
theorem PS.c_cp (h : PS g ca cw cl cp W K C V A mn s w) : w.cell? ⟨cp, 0, none⟩ = some (.slice A K C) := by rw [cell_of_row _ _ _ _ _ _ h.rp]; rfl
theorem PS.lts (h : PS g ca cw cl cp W K C V A mn s w) : ca < w.heap.size ∧ cw < w.heap.size ∧ cl < w.heap.size ∧ cp < w.heap.size := ⟨(Array.getElem?_eq_some_iff.1 h.ra).1, (Array.getElem?_eq_some_iff.1 h.rw).1, (Array.getElem?_eq_some_iff.1 h.rl).1, (Array.getElem?_eq_some_iff.1 h.rp).1⟩
theorem PS.put {i : Nat} {r : List Nat} (h : PS g ca cw cl cp W K C V A mn (i, r) w) : PS g ca cw cl cp W K C V A mn (i + 1, r) (w.setCell ⟨ca, 0, none⟩ (.int .i64 ((i * W : Nat) : Int))) := by
  have hk : Kept (fun k => k = ca) w (w.setCell ⟨ca, 0, none⟩ (.int .i64 ((i * W : Nat) : Int))) := (Kept.refl _ _).setCell _ _ (.inl rfl)
  refine ⟨h.rd.high hk fun k hs => by have hs : k = ca := hs; have := h.n1; omega, ?_, hk.heap h.rw fun e => h.n5 e.symm, hk.heap h.rl fun e => h.n6 e.symm, hk.heap h.rp fun e => h.n7 e.symm, h.bytes.kept hk fun a ha h0 hs => by have := h.low a ha h0; have := h.n1; have hs : a.block = ca := hs; omega, h.low, h.n1, h.n2, h.n3, h.n4, h.n5, h.n6, h.n7⟩
  have h1 := h.ra
  rw [World.setCell, atI_next]; simp [Array.getElem?_modify, h1]
end
theorem i64_wrap (n : Int) : IntKind.i64.wrap n = wrap64 n := by unfold wrap64; rw [IntKind.wrap_i64]
theorem pv_eq (W V : Nat) (mn : Int) (i at' : Nat) (h : at' = i * W) : wrap64 (mn + IntKind.i64.wrap ((bitsAt V at' W : Nat) : Int)) = pval W V mn i := by subst h; rfl
set_option maxHeartbeats 2000000 in
theorem packed_step (g ca cw cl cp W K C V : Nat) (A : Option Addr) (mn : Int) (i : Nat) (r : List Nat) (hW : W ≤ 64) (hK : K ≤ 100000000) (hi : i * W + W ≤ 8 * K) (hV : Hid (V < 2 ^ (8 * K))) (w : World) (H : Hid (PS g ca cw cl cp W K C V A mn (i, r) w)) :
    Calls Try.prog 92 #[.pointer (some ⟨ca, 0, none⟩), .pointer (some ⟨cw, 0, none⟩), .pointer (some ⟨cl, 0, none⟩), .pointer (some ⟨cp, 0, none⟩)] w (StepEnds g (Two g ca) (PS g ca cw cl cp W K C V A mn) (pstep W V mn (i, r)) w) := by
  have c1 := H.out.c_ca
  have c2 := H.out.c_cw
  have f1 : w.frozen? ⟨ca, 0, none⟩ = false := row_frozen H.out.ra 0
  obtain ⟨at', hat⟩ : ∃ at', at' = i * W := ⟨_, rfl⟩
  have HAT := Lib.hid hat
  have hadd : atI i W + (W : Int) = (at' : Int) := by rw [hat]; exact atI_add i W
  rw [← hat] at hi
  have HP2 := Lib.hid H.out.put
  rw [← hat] at HP2
  have HK : Hid (Kept (Two g ca) w (w.setCell ⟨ca, 0, none⟩ (.int .i64 (at' : Int)))) := Lib.hid ((Kept.refl _ _).setCell _ _ (.inl (.inr rfl)))
  have hat9 : at' ≤ 800000000 := by omega
  clear hat
  go_enter Try.func92, Try.ntmps92
  go_upto_region 2 with fail
  generalize hw9 : w.setCell ⟨ca, 0, none⟩ (.int .i64 (at' : Int)) = w9 at *
  clear c1 c2 f1
  have HL := Lib.hid HP2.out.lts
  have HCA : Hid (w9.cell? ⟨ca, 0, none⟩ = some (.int .i64 (at' : Int))) := Lib.hid (by have := HP2.out.c_ca; rwa [atI_next, ← HAT.out] at this)
  have HCW := Lib.hid HP2.out.c_cw; have HCL := Lib.hid HP2.out.c_cl; have HCP := Lib.hid HP2.out.c_cp
  have HGB := Lib.hid (getBits_any A K C V at' W hW hK hi hV w9.drew (Lib.hid (HP2.out.bytes.keep ((Below.refl _ _).drew))))
  refine wp_region_held_drew (S := fun w' => Below w9.heap.size w9 w') (by kernel_rfl) ((Below.refl _ _).drew) (fun hHeld => ?_)
  refine wpAnyH_take (i := 0) (v := .int .i64 mn) rfl (by kernel_rfl) (by kernel_rfl) (by kernel_rfl) (fun _ _ _ h => h) (Or.inl ⟨by rfl, fun w hw => by have hc : w.cell? ⟨cl, 0, none⟩ = some (.int .i64 mn) := (hw.cell (p := ⟨cl, 0, none⟩) HL.out.2.2.1).trans HCL.out; go_simp⟩) hHeld ?_
  try dsimp only
  try simp only [Act.put, List.getElem_toArray, List.getElem_cons_zero, List.getElem_cons_succ, List.setIfInBounds_toArray, List.set_cons_zero, List.set_cons_succ]
  refine wpAnyH_take (i := 1) (v := .slice A K C) rfl (by kernel_rfl) (by kernel_rfl) (by kernel_rfl) (fun _ _ _ h => h) (Or.inl ⟨by rfl, fun w hw => by have hc : w.cell? ⟨cp, 0, none⟩ = some (.slice A K C) := (hw.cell (p := ⟨cp, 0, none⟩) HL.out.2.2.2).trans HCP.out; go_simp⟩) hHeld ?_
  try dsimp only
  try simp only [Act.put, List.getElem_toArray, List.getElem_cons_zero, List.getElem_cons_succ, List.setIfInBounds_toArray, List.set_cons_zero, List.set_cons_succ]
  refine wpAnyH_take (i := 2) (v := .int .i64 (at' : Int)) rfl (by kernel_rfl) (by kernel_rfl) (by kernel_rfl) (fun _ _ _ h => h) (Or.inl ⟨by rfl, fun w hw => by have hc : w.cell? ⟨ca, 0, none⟩ = some (.int .i64 (at' : Int)) := (hw.cell (p := ⟨ca, 0, none⟩) HL.out.1).trans HCA.out; go_simp⟩) hHeld ?_
  try dsimp only
  try simp only [Act.put, List.getElem_toArray, List.getElem_cons_zero, List.getElem_cons_succ, List.setIfInBounds_toArray, List.set_cons_zero, List.set_cons_succ]
  refine wpAnyH_take (i := 3) (v := .int .i64 (W : Int)) rfl (by kernel_rfl) (by kernel_rfl) (by kernel_rfl) (fun _ _ _ h => h) (Or.inl ⟨by rfl, fun w hw => by have hc : w.cell? ⟨cw, 0, none⟩ = some (.int .i64 (W : Int)) := (hw.cell (p := ⟨cw, 0, none⟩) HL.out.2.1).trans HCW.out; go_simp⟩) hHeld ?_
  try dsimp only
  try simp only [Act.put, List.getElem_toArray, List.getElem_cons_zero, List.getElem_cons_succ, List.setIfInBounds_toArray, List.set_cons_zero, List.set_cons_succ]
  refine wpAnyH_ready (rs := [4]) (by kernel_rfl) (by simp) (AllReadyH.cons rfl (fun K hK => ?_) AllReadyH.nil)
  go_simp
  refine (HGB.out).mono ?_
  rintro e w10 ⟨rfl, rfl⟩
  refine hK.out _ _ hHeld (fun hHeld => ?_)
  clear hK K
  try dsimp only
  try simp only [Act.put, List.getElem_toArray, List.getElem_cons_zero, List.getElem_cons_succ, List.setIfInBounds_toArray, List.set_cons_zero, List.set_cons_succ]
  refine wpAnyH_ready (rs := [5]) (by kernel_rfl) (by simp) (AllReadyH.cons rfl (fun K hK => ?_) AllReadyH.nil)
  go_simp
  refine hK.out _ _ hHeld (fun hHeld => ?_)
  clear hK K
  try dsimp only
  try simp only [Act.put, List.getElem_toArray, List.getElem_cons_zero, List.getElem_cons_succ, List.setIfInBounds_toArray, List.set_cons_zero, List.set_cons_succ]
  refine wpAnyH_ready (rs := [6]) (by kernel_rfl) (by simp) (AllReadyH.cons rfl (fun K hK => ?_) AllReadyH.nil)
  go_simp
  refine hK.out _ _ hHeld (fun hHeld => ?_)
  clear hK K
  try dsimp only
  try simp only [Act.put, List.getElem_toArray, List.getElem_cons_zero, List.getElem_cons_succ, List.setIfInBounds_toArray, List.set_cons_zero, List.set_cons_succ]
  refine wpAnyH_ready (rs := [7]) (by kernel_rfl) (by simp) (AllReadyH.cons rfl (fun K hK => ?_) AllReadyH.nil)
  go_simp
  refine hK.out _ _ hHeld (fun hHeld => ?_)
  clear hK K
  try dsimp only
  try simp only [Act.put, List.getElem_toArray, List.getElem_cons_zero, List.getElem_cons_succ, List.setIfInBounds_toArray, List.set_cons_zero, List.set_cons_succ]
  refine wpAnyH_done (by kernel_rfl) ?_ _
  have HBX := Lib.hid hHeld
  go_wp2
  go_ret
  refine ⟨?_, wrap64_wf' _, HP2.out.keep (S := fun _ => False) (Kept.of_below HBX.out) fun k hk => hk.elim, HK.out.trans (Kept.of_below HBX.out)⟩
  exact ret_i64 ((i64_wrap _).trans (pv_eq W V mn i at' HAT.out))
end Go.Proofs.Ytplmafbdalkopaa
