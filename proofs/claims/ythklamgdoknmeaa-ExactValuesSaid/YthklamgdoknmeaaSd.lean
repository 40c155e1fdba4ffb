/-
  The walk of Add.
-/
import Derived.Test.YthklamgdoknmeaaSo
set_option linter.unusedSimpArgs false
set_option linter.unusedVariables false
set_option maxRecDepth 8000
namespace Go.Proofs.Ythklamgdoknmeaa
open Go.RowKit Sm

theorem yieldsIf_row {P : Program} {ops : Array Oper} {S : World → Prop} {op : Oper} {a : Act} (hw : Region.wanted op (yielded ops a.tmps) = true) (ty : TypeId) (x : Operand) (ho : op.op = .load ty x)
    (g : Nat) (hx : a.eval x = .pointer (some ⟨g, 0, none⟩)) (t : TypeId) (cs : Array Value) (fr : Nat × Nat) (d : TypeDesc) (hS : ∀ w, S w → w.heap[g]? = some (.cells cs t fr))
    (hu : P.underlying ty = some d) (hd : (match d with | .struct _ | .array _ _ => true | _ => false) = true) (hi : (P.info? ty).map (·.size) = some cs.size) : YieldsIf P ops S op (.agg cs) a :=
  .inl ⟨hw, fun w hw' => by
    unfold execOp
    simp only [ho, hx, Instr.loadAt, Instr.sureAddr, Sem.run_bind, Sem.run_pure, Result.andThen_ok, run_loadVar_row w g t ty cs fr d (hS w hw') hu hd hi]⟩

set_option maxHeartbeats 1000000 in
theorem add_any (n h b : Nat) (hh : h < 256) (hb : b < 18446744073709551616) (w : World) :
    Calls Try.prog 41 #[.agg (P36 (wd n) h), .float .f64 b] w fun e w' => e = .returned (.agg (P36 (wd ((n + unit b) % top)) (h ||| kindB b))) ∧ Below w.heap.size w w' := by
  have HK : kindB b < 256 := Nat.lt_trans (kindB_lt b) (by decide)
  go_enter Try.func41, Try.ntmps41
  go_wp2
  rw [zeros36]
  have hk := Kp2.start w (P36 (wd n) h) (P36 (fun _ => 0) 0) 27 27
  refine wp_region_held_drew (S := Kp w w.heap.size (P36 (wd n) h) 27) (by kernel_rfl) ?_ (fun hHeld => ?_)
  · exact ⟨hk.below, hk.row1⟩
  refine wpAnyH_take (i := 0) (v := .agg (P36 (wd n) h)) rfl (by kernel_rfl) (by kernel_rfl) (by kernel_rfl) (fun _ _ _ h => h) (yieldsIf_row rfl 27 (.tmp 2) rfl w.heap.size rfl _ _ _ _ (fun w' hw' => hw'.row) u27 rfl (i36 _ _)) hHeld ?_
  try dsimp only
  try simp only [Act.put, List.setIfInBounds_toArray, List.set_cons_zero, List.set_cons_succ]
  refine wpAnyH_take (i := 1) (v := .float .f64 b) rfl (by kernel_rfl) (by kernel_rfl) (by kernel_rfl) (fun _ _ _ h => h) (Or.inl ⟨by rfl, fun _ _ => rfl⟩) hHeld ?_
  try dsimp only
  try simp only [Act.put, List.setIfInBounds_toArray, List.set_cons_zero, List.set_cons_succ]
  refine wpAnyH_ready (rs := [2]) (by kernel_rfl) (by simp) (AllReadyH.cons rfl (fun K hK => ?_) AllReadyH.nil)
  go_simp
  refine (of_one _ hb _).mono ?_
  rintro e w1 ⟨rfl, hb1⟩
  refine hK.out _ _ (hHeld.next hb1) (fun hHeld => ?_)
  replace hk := hk.next hb1
  clear hK K
  try dsimp only
  try simp only [Act.put, List.setIfInBounds_toArray, List.set_cons_zero, List.set_cons_succ]
  refine wpAnyH_ready (rs := [3]) (by kernel_rfl) (by simp) (AllReadyH.cons rfl (fun K hK => ?_) AllReadyH.nil)
  go_simp
  refine (join_any _ _ _ _ hh HK _).mono ?_
  rintro e w2 ⟨rfl, hb2⟩
  refine hK.out _ _ (hHeld.next hb2) (fun hHeld => ?_)
  replace hk := hk.next hb2
  clear hK K
  try dsimp only
  try simp only [Act.put, List.setIfInBounds_toArray, List.set_cons_zero, List.set_cons_succ]
  refine wpAnyH_ready (rs := [4]) (by kernel_rfl) (by simp) (AllReadyH.cons rfl (fun K hK => ?_) AllReadyH.nil)
  rw [if_pos (by rfl)]
  refine wp_store_row 27 (.tmp 4) (.tmp 8) rfl (w.heap.size + 1) (P36 (wd _) _) rfl rfl _ _ hk.row2 (i36 _ _) (by rw [P36_size, P36_size]) (one36 _ _) ?_
  replace hk := hk.put2 (by omega) (by omega) (P36 (wd ((n + unit b) % top)) (h ||| kindB b))
  refine hK.out _ _ ⟨hk.below, hk.row1⟩ (fun hHeld => ?_)
  refine wpAnyH_done (by kernel_rfl) ?_ _
  go_wp2
  exact post_row 4 27 Try.results41 rfl (w.heap.size + 1) 27 _ (0, 0) _ rfl hk.row2 u27 rfl (i36 _ _) ⟨rfl, hk.below⟩
end Go.Proofs.Ythklamgdoknmeaa
