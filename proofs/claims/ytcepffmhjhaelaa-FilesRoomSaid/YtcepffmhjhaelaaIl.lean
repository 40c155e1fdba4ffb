/-
  The law FilesRoom: what holds at the loop's head, and plain facts.
-/
import Derived.Test.YtcepffmhjhaelaaIk
import Derived.Test.YtcepffmhjhaelaaFk
import Derived.Test.YtcepffmhjhaelaaFq
set_option linter.unusedSimpArgs false
set_option linter.unusedVariables false
namespace Go.Proofs.Ytcepffmhjhaelaa
open Go.RowKit Go.WideShapes

theorem setCell_same {w w' : World} {k : Nat} (h : w'.heap[k]? = w.heap[k]?) (a : Addr) (v : Value) : (w'.setCell a v).heap[k]? = (w.setCell a v).heap[k]? := by
  simp [World.setCell, Array.getElem?_modify, h]
section
variable {W : World} {g f fcap : Nat} {room armed ops : Int} {off : Bool} {r : List Value} {xs : List Fil} {w w' : World}
theorem gb_both (h : W.grownBy w (some g)) (a : Addr) (v : Value) : (W.setCell a v).grownBy (w.setCell a v) (some g) :=
  ⟨h.os, h.tape, h.output, by rw [setCell_size, setCell_size]; exact h.size, fun k hk hn => setCell_same (h.block k (by rw [setCell_size] at hk; exact hk) hn) a v⟩
theorem SA.both (h : SA W g room off armed ops xs w) (B i : Nat) (hB : B < W.heap.size) (hne : B ≠ g) (v : Value) : SA (W.setCell ⟨B, i, none⟩ v) g room off armed ops xs (w.setCell ⟨B, i, none⟩ v) := by
  have hs : (W.setCell ⟨B, i, none⟩ v).heap.size = W.heap.size := setCell_size _ _ _
  rcases h with ⟨e, h⟩ | ⟨f, fcap, r, h⟩
  · exact .inl ⟨e, gb_both h.below _ _, row_far hne h.st⟩
  · have hf : B ≠ f := by have := h.fbase; omega
    refine .inr ⟨f, fcap, r, gb_both h.below _ _, by rw [hs]; exact h.fbase, h.ne, row_far hne h.st, row_far hf h.fl, h.fc, fun k x hx => ?_, h.sg, h.sf, h.ap⟩
    rw [hs]
    exact own_far (h.own k x hx) (fun e => by have := (h.own k x hx).base B e; omega)
theorem sa_row_lt (h : SA W g room off armed ops xs w) (hb : Below w.heap.size w w') {f n c : Nat} (hc : w'.cell? ⟨g, 1, none⟩ = some (.slice (some ⟨f, 0, none⟩) n c)) : f < w.heap.size := by
  have e := hb.cell (p := ⟨g, 1, none⟩) h.lt
  rw [e] at hc
  rcases h with ⟨-, h⟩ | ⟨f', fcap, r, h⟩
  · rw [h.g1] at hc; cases hc
  · rw [h.g1] at hc; cases hc; exact (Array.getElem?_eq_some_iff.1 h.fl).1
end
def nm : Nat → ByteArray
  | 0 => { data := #[97] }
  | 1 => { data := #[98] }
  | _ => { data := #[99] }
theorem nm_size (k : Nat) : (nm k).size = 1 := by
  match k with
  | 0 => rfl
  | 1 => rfl
  | _ + 2 => rfl
theorem fa_K : formK { data := #[97] } = true := by kernel_rfl
theorem fb_K : formK { data := #[98] } = true := by kernel_rfl
theorem fc_K : formK { data := #[99] } = true := by kernel_rfl
theorem nm_form (k : Nat) : formK (nm k) = true := by
  rcases k with _ | _ | k
  · exact fa_K
  · exact fb_K
  · exact fc_K
theorem nm_ne (j k : Nat) (hj : j < 3) (hk : k < 3) (h : j ≠ k) : cmpK (nm j) (nm k) ≠ 0 := by
  intro e
  have e2 := ck_eq e
  match j, k, hj, hk, h with
  | 0, 1, _, _, _ => exact absurd e2 (by decide)
  | 0, 2, _, _, _ => exact absurd e2 (by decide)
  | 1, 0, _, _, _ => exact absurd e2 (by decide)
  | 1, 2, _, _, _ => exact absurd e2 (by decide)
  | 2, 0, _, _, _ => exact absurd e2 (by decide)
  | 2, 1, _, _, _ => exact absurd e2 (by decide)
  | 0, 0, _, _, h => exact h rfl
  | 1, 1, _, _, h => exact h rfl
  | 2, 2, _, _, h => exact h rfl
def hasC (H : Nat → Int) : List Value := [.int .i64 (H 0), .int .i64 (H 1), .int .i64 (H 2)]
def upd (H : Nat → Int) (k : Nat) (v : Int) : Nat → Int := fun j => if j = k then v else H j
theorem hasC_set (H : Nat → Int) (k : Nat) (hk : k < 3) (v : Int) : (hasC H).set k (.int .i64 v) = hasC (upd H k v) := by
  match k, hk with
  | 0, _ => rfl
  | 1, _ => rfl
  | 2, _ => rfl
theorem hasC_get (H : Nat → Int) (k : Nat) (hk : k < 3) : (hasC H)[k]? = some (.int .i64 (H k)) := by
  match k, hk with
  | 0, _ => rfl
  | 1, _ => rfl
  | 2, _ => rfl
theorem upd_same (H : Nat → Int) (k : Nat) (v : Int) : upd H k v k = v := by unfold upd; rw [if_pos rfl]
theorem upd_upd (H : Nat → Int) (k : Nat) (v u : Int) : upd (upd H k v) k u = upd H k u := by
  funext j; unfold upd; split <;> rfl
structure RR (W : World) (g Bn Bh : Nat) (N : Int) (Wb : World) (ops : Int) (xs : List Fil) (H : Nat → Int) (w : World) : Prop where
  sa : SA Wb g N false 0 ops xs w
  bl : Below W.heap.size W Wb
  gw : W.heap.size ≤ g
  bn : Wb.heap[Bn]? = some (.cells #[.string { data := #[97] }, .string { data := #[98] }, .string { data := #[99] }] 9 (0, 0))
  bh : Wb.heap[Bh]? = some (.cells (hasC H).toArray 64 (0, 0))
  bw : W.heap.size ≤ Bh
  n1 : Bn ≠ g
  n2 : Bh ≠ g
  n3 : Bn ≠ Bh
section
variable {W Wb w w' : World} {g Bn Bh : Nat} {N ops : Int} {xs : List Fil} {H : Nat → Int}
theorem RR.names (h : RR W g Bn Bh N Wb ops xs H w) (k : Nat) (hk : k < 3) : w.cell? ⟨Bn, k, none⟩ = some (.string (nm k)) := by
  have e := (h.sa.below.block Bn (Array.getElem?_eq_some_iff.1 h.bn).1 (fun e => h.n1 (by injection e with e; try exact e.symm))).trans h.bn
  rw [cell_of_row _ _ _ _ _ _ e]
  match k, hk with
  | 0, _ => rfl
  | 1, _ => rfl
  | 2, _ => rfl
theorem RR.row (h : RR W g Bn Bh N Wb ops xs H w) : w.heap[Bh]? = some (.cells (hasC H).toArray 64 (0, 0)) := (h.sa.below.block Bh (Array.getElem?_eq_some_iff.1 h.bh).1 (fun e => h.n2 (by injection e with e; try exact e.symm))).trans h.bh
theorem RR.has (h : RR W g Bn Bh N Wb ops xs H w) (k : Nat) (hk : k < 3) : w.cell? ⟨Bh, k, none⟩ = some (.int .i64 (H k)) := row_cells h.row k _ (by rw [hasC_get H k hk])
theorem RR.hf (h : RR W g Bn Bh N Wb ops xs H w) (k : Nat) : w.frozen? ⟨Bh, k, none⟩ = false := row_frozen h.row k
theorem RR.next (h : RR W g Bn Bh N Wb ops xs H w) (hb : Below w.heap.size w w') : RR W g Bn Bh N Wb ops xs H w' := ⟨h.sa.next hb, h.bl, h.gw, h.bn, h.bh, h.bw, h.n1, h.n2, h.n3⟩
theorem RR.step (h : RR W g Bn Bh N Wb ops xs H w) {ops' : Int} {ys : List Fil} (hs : SA Wb g N false 0 ops' ys w') : RR W g Bn Bh N Wb ops' ys H w' := ⟨hs, h.bl, h.gw, h.bn, h.bh, h.bw, h.n1, h.n2, h.n3⟩
theorem RR.put (h : RR W g Bn Bh N Wb ops xs H w) (k : Nat) (hk : k < 3) (v : Int) : RR W g Bn Bh N (Wb.setCell ⟨Bh, k, none⟩ (.int .i64 v)) ops xs (upd H k v) (w.setCell ⟨Bh, k, none⟩ (.int .i64 v)) := by
  refine ⟨h.sa.both Bh k (Array.getElem?_eq_some_iff.1 h.bh).1 h.n2 _, h.bl.setCell h.bw _, h.gw, row_far (Ne.symm h.n3) h.bn, ?_, h.bw, h.n1, h.n2, h.n3⟩
  rw [← hasC_set H k hk v]; exact row_set h.bh k _
theorem RR.below (h : RR W g Bn Bh N Wb ops xs H w) : Below W.heap.size W w := below_gb h.bl h.sa.below h.gw
end
theorem room_start {W w1 w2 : World} {g : Nat} {N : Int} (h : S0 w1 g N false 0 0 w2) (hb : Below W.heap.size W w1) (hg : w1.heap.size ≤ g) :
    RR W g w2.heap.size (w2.heap.size + 1) N ((w2.alloc (.cells #[.string { data := #[97] }, .string { data := #[98] }, .string { data := #[99] }] 9)).alloc (.cells #[.int .i64 0, .int .i64 0, .int .i64 0] 64)) 0 [] (fun _ => 0) ((w2.alloc (.cells #[.string { data := #[97] }, .string { data := #[98] }, .string { data := #[99] }] 9)).alloc (.cells #[.int .i64 0, .int .i64 0, .int .i64 0] 64)) := by
  have hgl := (Array.getElem?_eq_some_iff.1 h.st).1
  have hB : Below w2.heap.size w2 ((w2.alloc (.cells #[.string { data := #[97] }, .string { data := #[98] }, .string { data := #[99] }] 9)).alloc (.cells #[.int .i64 0, .int .i64 0, .int .i64 0] 64)) := ((Below.refl w2.heap.size w2).alloc (Nat.le_refl _) _).alloc (by simp) _
  have hz := h.next hB
  have hW : W.heap.size ≤ w2.heap.size := Nat.le_trans hb.size h.below.size
  refine ⟨.inl ⟨rfl, hz.rebase⟩, below_gb hb hz.below (Nat.le_trans hb.size hg), Nat.le_trans hb.size hg, ?_, ?_, by omega, by omega, by omega, by omega⟩
  · rw [heap_alloc_old _ _ (by simp)]; exact heap_alloc_new' w2 _
  · have := heap_alloc_new' (w2.alloc (.cells #[.string { data := #[97] }, .string { data := #[98] }, .string { data := #[99] }] 9)) (.cells #[.int .i64 0, .int .i64 0, .int .i64 0] 64)
    rw [show (hasC fun _ => 0).toArray = #[Value.int .i64 0, .int .i64 0, .int .i64 0] from rfl]; simpa using this
theorem infoByte : (Try.prog.info? 5).map (fun i => (i.zero, i.size, i.bytes)) = some (some (.int .u8 0), 1, 1) := by kernel_rfl
theorem zeros_by {w : World} {B b q : Nat} (h : w.ownsRow B 5 1 (.slice (some ⟨b, 0, none⟩) q q) q (madeCells (Value.int .u8 0).cells (q * 1)).toList) : ByAt w (some ⟨b, 0, none⟩) (List.replicate q 0) := by
  have ho : OwnS w B (some ⟨b, 0, none⟩) q q (List.replicate q 0) := by
    refine ⟨?_, fun x hx => by rw [List.eq_of_mem_replicate hx]; decide⟩
    rw [Nat.mul_one, show (Value.int .u8 0).cells = #[.int .u8 0] from rfl, toList_madeCells_one] at h
    have e : bys (List.replicate q 0) = List.replicate q (.int .u8 0) := by unfold bys; rw [List.map_replicate]; rfl
    rw [e]; exact h
  exact ho.byAt
/-- At the loop's head. -/
def RJ (W : World) (g Bn Bh : Nat) (N : Int) (J : Nat) (u : Value) (w : World) : Prop :=
  ∃ (Wb : World) (ops : Int) (xs : List Fil) (H : Nat → Int), u = .int .i64 ((sumN xs : Nat) : Int) ∧ RR W g Bn Bh N Wb ops xs H w ∧ (∀ k, k < 3 → H k = (lenOf xs (nm k) : Nat)) ∧ Rises xs ∧ xs.length ≤ J ∧ ((sumN xs : Nat) : Int) ≤ N ∧ 0 ≤ ops ∧ ops ≤ 2 * J
theorem has_step {xs ys : List Fil} {H : Nat → Int} {k q : Nat} (hk : k < 3) (hH : ∀ j, j < 3 → H j = (lenOf xs (nm j) : Nat)) (hf : ∀ u, lenOf ys u = lenOf xs u + if cmpK (nm k) u = 0 then q else 0) : ∀ j, j < 3 → upd H k (H k + (q : Int)) j = (lenOf ys (nm j) : Nat) := fun j hj => by
  unfold upd
  by_cases e : j = k
  · subst e; rw [if_pos rfl, hf, if_pos (ck_self _), hH j hj]; omega
  · rw [if_neg e, hf, if_neg (nm_ne k j hk hj (Ne.symm e)), hH j hj]; omega
theorem has_gone {xs ys : List Fil} {H : Nat → Int} {k : Nat} (hk : k < 3) (hH : ∀ j, j < 3 → H j = (lenOf xs (nm j) : Nat)) (hz : lenOf ys (nm k) = 0) (hf : ∀ u, cmpK (nm k) u ≠ 0 → lenOf ys u = lenOf xs u) : ∀ j, j < 3 → upd H k 0 j = (lenOf ys (nm j) : Nat) := fun j hj => by
  unfold upd
  by_cases e : j = k
  · subst e; rw [if_pos rfl, hz]; rfl
  · rw [if_neg e, hf _ (nm_ne k j hk hj (Ne.symm e)), hH j hj]
end Go.Proofs.Ytcepffmhjhaelaa
