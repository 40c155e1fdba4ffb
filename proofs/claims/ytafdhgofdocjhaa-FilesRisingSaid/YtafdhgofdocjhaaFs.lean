/-
  Layer files: a file taken out of the row (slices.Delete of one).
-/
import Derived.Test.YtafdhgofdocjhaaFj
import Derived.Laws.OwnMore
import Derived.Laws.CopyRow
set_option linter.unusedSimpArgs false
set_option linter.unusedVariables false
namespace Go.Proofs.Ytafdhgofdocjhaa
open Go.RowKit Go.WideShapes

def flZ : List Value := [.string { data := #[] }, .slice none 0 0, .int .i64 0]
/-- The row of files, whole. -/
structure RowX (w : World) (B f k cap : Nat) (xs cs : List Value) : Prop where
  row : w.heap[f]? = some (.cells cs.toArray 74 (0, 0))
  hlen : cs.length = cap * 3
  hcap : cap ≤ maxLen
  first : cs.take (k * 3) = xs
  base : B ≤ f
  xlen : xs.length = k * 3
  le : k ≤ cap
theorem OwnX.row {w : World} {B f k cap : Nat} {xs : List Value} (h : OwnX w B (some ⟨f, 0, none⟩) k cap xs) : ∃ cs, RowX w B f k cap xs cs := by
  rcases h.2 with ⟨h1, h2⟩ | ⟨g, cap', cur, h1, hb, hrow, hkc, hc, hs, ht⟩
  · cases h1
  · cases h1
    exact ⟨cur.toList, by simpa using hrow, by rw [Array.length_toList, hs], hc, ht, hb, h.1, hkc⟩
theorem RowX.own {w : World} {B f k cap : Nat} {xs cs : List Value} (h : RowX w B f k cap xs cs) : OwnX w B (some ⟨f, 0, none⟩) k cap xs :=
  ⟨h.xlen, .inr ⟨f, cap, cs.toArray, rfl, h.base, h.row, h.le, h.hcap, by simpa using h.hlen, by simpa using h.first⟩⟩
theorem RowX.cut {w : World} {B f k cap : Nat} {xs cs : List Value} (h : RowX w B f k cap xs cs) (i : Nat) (hi : i ≤ k) : RowX w B f i cap (xs.take (i * 3)) cs :=
  ⟨h.row, h.hlen, h.hcap, by rw [← h.first, List.take_take, Nat.min_eq_left (by omega)], h.base, by rw [List.length_take, h.xlen]; omega, by have := h.le; omega⟩
theorem RowX.cells {w : World} {B f k cap : Nat} {xs cs : List Value} (h : RowX w B f k cap xs cs) (i : Nat) (j : Nat) (u : Value) (hu : (xs.drop i)[j]? = some u) : w.cell? ⟨f, i + j, none⟩ = some u := by
  rw [cell_of_row w f _ cs.toArray _ (0, 0) h.row]
  rw [List.getElem?_drop] at hu
  have hl := (List.getElem?_eq_some_iff.1 hu).1
  rw [← h.first, List.getElem?_take] at hu
  rw [h.xlen] at hl
  rw [if_pos hl] at hu
  simpa using hu
theorem slice3_run (f k cap i : Nat) (hi : i < k) (hk : k ≤ cap) : ∃ R, ∀ w, (Instr.slice 66 (.slice (some ⟨f, 0, none⟩) k cap) (some (.int .i64 (i : Int))) (some (.int .i64 ((i : Int) + 1))) (some (.int .i64 (k : Int)))).run Try.prog w = .ok R w := by
  refine ⟨sliced (some ⟨f, 0, none⟩) i (i + 1) k 3, fun w => ?_⟩
  rw [run_slice_lhm w 66 (some ⟨f, 0, none⟩) k cap Try.underlying66 .i64 .i64 .i64 (i : Int) ((i : Int) + 1) (k : Int) (by omega) (by omega) (by omega) (by omega)]
  rw [show (Go.sizeOf (Try.prog.elem 66)).run Try.prog w = .ok 3 w from by kernel_rfl]
  simp [Result.andThen, sliced, show ((i : Int) + 1).toNat = i + 1 by omega]
theorem sliceTo_run (f k cap i : Nat) (hi : i ≤ k) (hk : k ≤ cap) : ∀ w, (Instr.slice 66 (.slice (some ⟨f, 0, none⟩) k cap) none (some (.int .i64 (i : Int))) none).run Try.prog w = .ok (.slice (some ⟨f, 0, none⟩) i cap) w := fun w => by
  rw [run_slice_h w 66 (some ⟨f, 0, none⟩) k cap Try.underlying66 .i64 (i : Int) (by omega) (by omega)]
  rw [show (Go.sizeOf (Try.prog.elem 66)).run Try.prog w = .ok 3 w from by kernel_rfl]
  simp [Result.andThen, sliced, Addr.add]
theorem sliceFrom_run (f k cap i : Nat) (hi : i < k) (hk : k ≤ cap) : ∃ a, (∀ w, (Instr.slice 66 (.slice (some ⟨f, 0, none⟩) k cap) (some (.int .i64 ((i : Int) + 1))) none none).run Try.prog w = .ok (.slice (some a) (k - (i + 1)) (cap - (i + 1))) w) ∧ (i + 1 < k → a = ⟨f, (i + 1) * 3, none⟩) := by
  refine ⟨if cap = i + 1 then ⟨f, 0, none⟩ else ⟨f, (i + 1) * 3, none⟩, fun w => ?_, fun h => by rw [if_neg (by omega)]⟩
  rw [run_slice_l w 66 (some ⟨f, 0, none⟩) k cap Try.underlying66 .i64 ((i : Int) + 1) (by omega) (by omega)]
  rw [show (Go.sizeOf (Try.prog.elem 66)).run Try.prog w = .ok 3 w from by kernel_rfl]
  simp only [Result.andThen, sliced, show ((i : Int) + 1).toNat = i + 1 by omega]
  split <;> simp [addr_add]
theorem sliceTail_run (f k K cap : Nat) (hk : k < cap) (hK : K = k + 1) : ∀ w, (Instr.slice 66 (.slice (some ⟨f, 0, none⟩) k cap) (some (.int .i64 (k : Int))) (some (.int .i64 (K : Int))) none).run Try.prog w = .ok (.slice (some ⟨f, k * 3, none⟩) 1 (cap - k)) w := fun w => by
  subst hK
  rw [run_slice_lh w 66 (some ⟨f, 0, none⟩) k cap Try.underlying66 .i64 .i64 (k : Int) ((k + 1 : Nat) : Int) (by omega) (by omega) (by omega)]
  rw [show (Go.sizeOf (Try.prog.elem 66)).run Try.prog w = .ok 3 w from by kernel_rfl]
  simp only [Result.andThen, sliced, Int.toNat_natCast]
  rw [if_neg (by omega)]
  simp [addr_add]
theorem wp_append_xf {o : Oper} {a : Act} {w : World} {K : Act → World → Prop} {Q : Exit → Act → World → Prop} (s x : Operand)
    (ho : o.op = .call { callee := .builtin .append, args := #[s, x], argTypes := #[66, 66] })
    (B f k cap : Nat) (xs : List Value) (hs : a.eval s = .slice (some ⟨f, 0, none⟩) k cap) (hown : OwnX w B (some ⟨f, 0, none⟩) k cap xs) (ad : Addr) (m c : Nat) (ys : List Value) (hx : a.eval x = .slice (some ad) m c) (hl : ys.length = m * 3) (h2 : ∀ j u, ys[j]? = some u → w.cell? (ad.add j) = some u) (h1 : ∀ u ∈ ys, u.oneCell' = true)
    (hroom : k + m ≤ cap) (J : Nat) (hJ : k + m = J)
    (h : ∀ w', OwnX w' B (some ⟨f, 0, none⟩) J cap (xs ++ ys) → w.grownBy w' (some f) → K (a.put o.dst (.slice (some ⟨f, 0, none⟩) J cap)) w') : o.wp Try.prog a w K Q := by
  obtain ⟨i0, hi, hz0, hz1, hz2⟩ := info_parts infoFile
  subst hJ
  obtain ⟨w', hr, h3, h4⟩ := run_append_fits (P := Try.prog) w B 66 o.type 74 i0 3 Try.underlying66 hi hz1 f k cap xs hown ad m c ys hl h2 h1 hroom
  unfold Oper.wp execOp
  simp only [ho, resolve, invoke, builtin, Sem.run_bind, Sem.run_pure, Result.andThen_ok, List.map_toArray, List.map_cons, List.map_nil, hs, hx, hr]
  exact h w' h3 h4
theorem run_clear_x {w : World} {f n : Nat} {cs : List Value} (hrow : w.heap[f]? = some (.cells cs.toArray 74 (0, 0))) (hn : n * 3 + 3 ≤ cs.length) (c : Nat) (ty : TypeId) :
    ∃ w', (Builtin.clear_ #[66] ty #[.slice (some ⟨f, n * 3, none⟩) 1 c]).run Try.prog w = .ok (.tuple #[]) w' ∧ w' = w.setRow f (cs.take (n * 3) ++ flZ ++ cs.drop (n * 3 + 3)).toArray := by
  have hz : ∀ w, (zeroValue 74).run Try.prog w = .ok (.agg flZ.toArray) w := fun w => by kernel_rfl
  have hst := run_storeCells_at (P := Try.prog) f (n * 3) 74 flZ 0 cs.toArray w hrow (by simpa [flZ] using hn) (fun v hv => by
    simp only [flZ, List.mem_cons, List.not_mem_nil, or_false] at hv
    rcases hv with rfl | rfl | rfl <;> rfl)
  have hzc : (Builtin.zeroCells (Value.agg flZ.toArray).cells 1).toList = flZ := by kernel_rfl
  refine ⟨_, ?_, rfl⟩
  simp [Builtin.clear_, run_underlying Try.underlying66, hz, hzc, hst]
  rfl
end Go.Proofs.Ytafdhgofdocjhaa
