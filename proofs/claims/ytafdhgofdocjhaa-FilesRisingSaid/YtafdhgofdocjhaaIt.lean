/-
  Layer files: the names of a call that came in.
-/
import Derived.Test.YtafdhgofdocjhaaPact
import Derived.Test.YtafdhgofdocjhaaFk
set_option linter.unusedSimpArgs false
set_option linter.unusedVariables false
namespace Go.Proofs.Ytafdhgofdocjhaa
open Go.RowKit Go.WideShapes

def nmL (s : ByteArray) : List ByteArray := [{ data := #[97] }, { data := #[98] }, { data := #[99, 46, 49] }, { data := #[115, 101, 103, 46, 48, 46, 53] }, { data := #[109, 97, 110, 46, 116, 109, 112] }, { data := #[122, 122] }, { data := #[48] }, s, { data := #[] }]
/-- The name that a byte of a call stands for. -/
def nm (s : ByteArray) (i : Nat) : ByteArray := (nmL s).getD (i % 9) s
def actObj (k a b : Nat) (s : ByteArray) (p n q : Value) : Obj := .cells #[.int .u8 (k : Int), .int .u8 (a : Int), .int .u8 (b : Int), .string s, p, n, q] 35
def nmObj (s : ByteArray) : Obj := .cells #[.string { data := #[97] }, .string { data := #[98] }, .string { data := #[99, 46, 49] }, .string { data := #[115, 101, 103, 46, 48, 46, 53] }, .string { data := #[109, 97, 110, 46, 116, 109, 112] }, .string { data := #[122, 122] }, .string { data := #[48] }, .string s, .string { data := #[] }] 9
theorem nm_cell (w : World) (s : ByteArray) (i : Nat) : (w.alloc (nmObj s)).cell? ⟨w.heap.size, i % 9, none⟩ = some (.string (nm s i)) := by
  unfold nmObj
  rw [cell_of_row _ _ _ _ _ _ (heap_alloc_new' w _)]
  unfold nm
  have h : i % 9 < 9 := Nat.mod_lt _ (by decide)
  generalize i % 9 = j at *
  match j, h with
  | 0, _ => rfl
  | 1, _ => rfl
  | 2, _ => rfl
  | 3, _ => rfl
  | 4, _ => rfl
  | 5, _ => rfl
  | 6, _ => rfl
  | 7, _ => rfl
  | 8, _ => rfl
set_option maxHeartbeats 2000000 in
theorem names_any (k a b : Nat) (s : ByteArray) (p n q : Value) (ha : a < 256) (hb : b < 256) (w : World) : Calls Try.prog 12 #[.agg #[.int .u8 (k : Int), .int .u8 (a : Int), .int .u8 (b : Int), .string s, p, n, q]] w fun e w' => e = .returned (.tuple #[.string (nm s a), .string (nm s b)]) ∧ Below w.heap.size w w' := by
  obtain ⟨W2, hW2⟩ : ∃ W2, W2 = (w.alloc (actObj k a b s p n q)).alloc (nmObj s) := ⟨_, rfl⟩
  have HB2 : Hid (Below w.heap.size w W2) := Lib.hid (by rw [hW2]; exact ((Below.refl _ w).alloc (Nat.le_refl _) _).alloc (by simp) _)
  have HR : Hid ((w.alloc (actObj k a b s p n q)).alloc (nmObj s) = W2) := Lib.hid hW2.symm
  have hrow : W2.heap[w.heap.size]? = some (actObj k a b s p n q) := by
    rw [hW2]; show ((w.heap.push _).push _)[_]? = _
    rw [Array.getElem?_push_lt (by simp), ← Array.getElem?_eq_getElem]; simp
  obtain ⟨g, hg⟩ : ∃ g, g = w.heap.size := ⟨_, rfl⟩
  obtain ⟨G, hG⟩ : ∃ G, G = w.heap.size + 1 := ⟨_, rfl⟩
  obtain ⟨ja, hja⟩ : ∃ j, j = a % 9 := ⟨_, rfl⟩
  obtain ⟨jb, hjb⟩ : ∃ j, j = b % 9 := ⟨_, rfl⟩
  have C1 : Hid (W2.cell? ⟨g, 1, none⟩ = some (.int .u8 (a : Int))) := Lib.hid (by rw [hg]; unfold actObj at hrow; rw [cell_of_row _ _ _ _ _ _ hrow]; rfl)
  have C2 : Hid (W2.cell? ⟨g, 2, none⟩ = some (.int .u8 (b : Int))) := Lib.hid (by rw [hg]; unfold actObj at hrow; rw [cell_of_row _ _ _ _ _ _ hrow]; rfl)
  have hs1 : (w.alloc (actObj k a b s p n q)).heap.size = G := by rw [hG]; simp
  have D1 : Hid (W2.cell? ⟨G, ja, none⟩ = some (.string (nm s a))) := Lib.hid (by rw [hW2, ← hs1, hja]; exact nm_cell _ s a)
  have D2 : Hid (W2.cell? ⟨G, jb, none⟩ = some (.string (nm s b))) := Lib.hid (by rw [hW2, ← hs1, hjb]; exact nm_cell _ s b)
  have HLG : Hid (g < W2.heap.size) := Lib.hid (by rw [hW2, hg]; simp; omega)
  have HLG2 : Hid (G < W2.heap.size) := Lib.hid (by rw [hW2, hG]; simp)
  have HG := Lib.hid hg; have HGG := Lib.hid hG
  have ja9 : ja < 9 := by omega
  have jb9 : jb < 9 := by omega
  have HJA : Hid ((a : Int).tmod 9 = (ja : Int)) := Lib.hid (by rw [Int.tmod_eq_emod_of_nonneg (by omega)]; omega)
  have HJB : Hid ((b : Int).tmod 9 = (jb : Int)) := Lib.hid (by rw [Int.tmod_eq_emod_of_nonneg (by omega)]; omega)
  clear hW2 hrow hg hG hja hjb hs1
  go_enter Try.func12, Try.ntmps12
  go_wp2
  have e := HR.out
  unfold actObj nmObj at e
  rw [e, ← HGG.out, ← HG.out]
  clear e
  have hh0 : Below W2.heap.size W2 W2.drew := (Below.refl _ _).drew
  refine wp_region_held_drew (S := fun w => Below W2.heap.size W2 w) (by kernel_rfl) hh0 (fun hHeld => ?_)
  refine wpAnyH_take (i := 0) (v := .slice (some ⟨G, 0, none⟩) 9 9) rfl (by kernel_rfl) (by kernel_rfl) (by kernel_rfl) (fun _ _ _ h => h) (Or.inl ⟨by rfl, fun _ _ => rfl⟩) hHeld ?_
  try dsimp only
  try simp only [Act.put, List.getElem_toArray, List.getElem_cons_zero, List.getElem_cons_succ, List.setIfInBounds_toArray, List.set_cons_zero, List.set_cons_succ]
  refine wpAnyH_take (i := 1) (v := .pointer (some ⟨g, 1, none⟩)) rfl (by kernel_rfl) (by kernel_rfl) (by kernel_rfl) (fun _ _ _ h => h) (Or.inl ⟨by rfl, fun w _ => by go_simp⟩) hHeld ?_
  try dsimp only
  try simp only [Act.put, List.getElem_toArray, List.getElem_cons_zero, List.getElem_cons_succ, List.setIfInBounds_toArray, List.set_cons_zero, List.set_cons_succ]
  refine wpAnyH_take (i := 2) (v := .int .u8 (a : Nat)) rfl (by kernel_rfl) (by kernel_rfl) (by kernel_rfl) (fun _ _ _ h => h) (Or.inl ⟨by rfl, fun w hw => by have hc : w.cell? ⟨g, 1, none⟩ = some (.int .u8 (a : Nat)) := (hw.cell (p := ⟨g, 1, none⟩) HLG.out).trans C1.out; go_simp⟩) hHeld ?_
  try dsimp only
  try simp only [Act.put, List.getElem_toArray, List.getElem_cons_zero, List.getElem_cons_succ, List.setIfInBounds_toArray, List.set_cons_zero, List.set_cons_succ]
  refine wpAnyH_take (i := 3) (v := .int .i64 (a : Nat)) rfl (by kernel_rfl) (by kernel_rfl) (by kernel_rfl) (fun _ _ _ h => h) (Or.inl ⟨by rfl, fun w _ => by go_simp; rw [IntKind.wrap_i64]; omega⟩) hHeld ?_
  try dsimp only
  try simp only [Act.put, List.getElem_toArray, List.getElem_cons_zero, List.getElem_cons_succ, List.setIfInBounds_toArray, List.set_cons_zero, List.set_cons_succ]
  refine wpAnyH_take (i := 4) (v := .int .i64 (ja : Nat)) rfl (by kernel_rfl) (by kernel_rfl) (by kernel_rfl) (fun _ _ _ h => h) (Or.inl ⟨by rfl, fun w _ => by go_simp; exact HJA.out⟩) hHeld ?_
  try dsimp only
  try simp only [Act.put, List.getElem_toArray, List.getElem_cons_zero, List.getElem_cons_succ, List.setIfInBounds_toArray, List.set_cons_zero, List.set_cons_succ]
  refine wpAnyH_take (i := 5) (v := .pointer (some ⟨G, ja, none⟩)) rfl (by kernel_rfl) (by kernel_rfl) (by kernel_rfl) (fun _ _ _ h => h) (Or.inl ⟨by rfl, fun w _ => by go_simp; intro h; exfalso; omega⟩) hHeld ?_
  try dsimp only
  try simp only [Act.put, List.getElem_toArray, List.getElem_cons_zero, List.getElem_cons_succ, List.setIfInBounds_toArray, List.set_cons_zero, List.set_cons_succ]
  refine wpAnyH_take (i := 6) (v := .string (nm s a)) rfl (by kernel_rfl) (by kernel_rfl) (by kernel_rfl) (fun _ _ _ h => h) (Or.inl ⟨by rfl, fun w hw => by have hc : w.cell? ⟨G, ja, none⟩ = some (.string (nm s a)) := (hw.cell (p := ⟨G, ja, none⟩) HLG2.out).trans D1.out; go_simp⟩) hHeld ?_
  try dsimp only
  try simp only [Act.put, List.getElem_toArray, List.getElem_cons_zero, List.getElem_cons_succ, List.setIfInBounds_toArray, List.set_cons_zero, List.set_cons_succ]
  refine wpAnyH_take (i := 7) (v := .slice (some ⟨G, 0, none⟩) 9 9) rfl (by kernel_rfl) (by kernel_rfl) (by kernel_rfl) (fun _ _ _ h => h) (Or.inl ⟨by rfl, fun _ _ => rfl⟩) hHeld ?_
  try dsimp only
  try simp only [Act.put, List.getElem_toArray, List.getElem_cons_zero, List.getElem_cons_succ, List.setIfInBounds_toArray, List.set_cons_zero, List.set_cons_succ]
  refine wpAnyH_take (i := 8) (v := .pointer (some ⟨g, 2, none⟩)) rfl (by kernel_rfl) (by kernel_rfl) (by kernel_rfl) (fun _ _ _ h => h) (Or.inl ⟨by rfl, fun w _ => by go_simp⟩) hHeld ?_
  try dsimp only
  try simp only [Act.put, List.getElem_toArray, List.getElem_cons_zero, List.getElem_cons_succ, List.setIfInBounds_toArray, List.set_cons_zero, List.set_cons_succ]
  refine wpAnyH_take (i := 9) (v := .int .u8 (b : Nat)) rfl (by kernel_rfl) (by kernel_rfl) (by kernel_rfl) (fun _ _ _ h => h) (Or.inl ⟨by rfl, fun w hw => by have hc : w.cell? ⟨g, 2, none⟩ = some (.int .u8 (b : Nat)) := (hw.cell (p := ⟨g, 2, none⟩) HLG.out).trans C2.out; go_simp⟩) hHeld ?_
  try dsimp only
  try simp only [Act.put, List.getElem_toArray, List.getElem_cons_zero, List.getElem_cons_succ, List.setIfInBounds_toArray, List.set_cons_zero, List.set_cons_succ]
  refine wpAnyH_take (i := 10) (v := .int .i64 (b : Nat)) rfl (by kernel_rfl) (by kernel_rfl) (by kernel_rfl) (fun _ _ _ h => h) (Or.inl ⟨by rfl, fun w _ => by go_simp; rw [IntKind.wrap_i64]; omega⟩) hHeld ?_
  try dsimp only
  try simp only [Act.put, List.getElem_toArray, List.getElem_cons_zero, List.getElem_cons_succ, List.setIfInBounds_toArray, List.set_cons_zero, List.set_cons_succ]
  refine wpAnyH_take (i := 11) (v := .int .i64 (jb : Nat)) rfl (by kernel_rfl) (by kernel_rfl) (by kernel_rfl) (fun _ _ _ h => h) (Or.inl ⟨by rfl, fun w _ => by go_simp; exact HJB.out⟩) hHeld ?_
  try dsimp only
  try simp only [Act.put, List.getElem_toArray, List.getElem_cons_zero, List.getElem_cons_succ, List.setIfInBounds_toArray, List.set_cons_zero, List.set_cons_succ]
  refine wpAnyH_take (i := 12) (v := .pointer (some ⟨G, jb, none⟩)) rfl (by kernel_rfl) (by kernel_rfl) (by kernel_rfl) (fun _ _ _ h => h) (Or.inl ⟨by rfl, fun w _ => by go_simp; intro h; exfalso; omega⟩) hHeld ?_
  try dsimp only
  try simp only [Act.put, List.getElem_toArray, List.getElem_cons_zero, List.getElem_cons_succ, List.setIfInBounds_toArray, List.set_cons_zero, List.set_cons_succ]
  refine wpAnyH_take (i := 13) (v := .string (nm s b)) rfl (by kernel_rfl) (by kernel_rfl) (by kernel_rfl) (fun _ _ _ h => h) (Or.inl ⟨by rfl, fun w hw => by have hc : w.cell? ⟨G, jb, none⟩ = some (.string (nm s b)) := (hw.cell (p := ⟨G, jb, none⟩) HLG2.out).trans D2.out; go_simp⟩) hHeld ?_
  try dsimp only
  try simp only [Act.put, List.getElem_toArray, List.getElem_cons_zero, List.getElem_cons_succ, List.setIfInBounds_toArray, List.set_cons_zero, List.set_cons_succ]
  refine wpAnyH_ready (rs := [14]) (by kernel_rfl) (by simp) (AllReadyH.cons rfl (fun K hK => ?_) AllReadyH.nil)
  go_simp
  refine hK.out _ _ hHeld (fun hHeld => ?_)
  clear hK K
  try dsimp only
  try simp only [Act.put, List.getElem_toArray, List.getElem_cons_zero, List.getElem_cons_succ, List.setIfInBounds_toArray, List.set_cons_zero, List.set_cons_succ]
  refine wpAnyH_ready (rs := [15]) (by kernel_rfl) (by simp) (AllReadyH.cons rfl (fun K hK => ?_) AllReadyH.nil)
  go_simp
  refine hK.out _ _ hHeld (fun hHeld => ?_)
  clear hK K
  try dsimp only
  try simp only [Act.put, List.getElem_toArray, List.getElem_cons_zero, List.getElem_cons_succ, List.setIfInBounds_toArray, List.set_cons_zero, List.set_cons_succ]
  refine wpAnyH_done (by kernel_rfl) ?_ _
  have HB3 : Hid (Below w.heap.size w _) := Lib.hid (HB2.out.trans (hHeld.mono HB2.out.size))
  go_wp2
  refine bodyPost_ret (results_tmp2 rfl _ _ _) rfl ?_
  exact ⟨rfl, HB3.out⟩
end Go.Proofs.Ytafdhgofdocjhaa
