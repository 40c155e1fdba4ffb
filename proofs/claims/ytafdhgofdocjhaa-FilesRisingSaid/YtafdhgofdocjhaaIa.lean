/-
  Layer files: slices.Insert of one file in the midst of the row.
-/
import Derived.Test.YtafdhgofdocjhaaFt
import Derived.Lib.Overlaps
import Derived.Lib.AppendZerosOnto
import Derived.Laws.NewBlocks
set_option linter.unusedSimpArgs false
set_option linter.unusedVariables false
namespace Go.Proofs.Ytafdhgofdocjhaa
open Go.RowKit Go.WideShapes

theorem sz_files (w : World) : (Go.sizeOf (Try.prog.elem 66)).run Try.prog w = .ok 3 w := by kernel_rfl
theorem sl_from (f k cap i : Nat) (hi : i < cap) (hik : i ≤ k) : ∀ w, (Instr.slice 66 (.slice (some ⟨f, 0, none⟩) k cap) (some (.int .i64 (i : Int))) none none).run Try.prog w = .ok (.slice (some ⟨f, i * 3, none⟩) (k - i) (cap - i)) w := fun w => by
  rw [run_slice_l w 66 (some ⟨f, 0, none⟩) k cap Try.underlying66 .i64 (i : Int) (by omega) (by omega), sz_files]
  simp only [Result.andThen, sliced, Int.toNat_natCast]
  rw [if_neg (by omega)]
  simp [addr_add]
theorem sl_from1 (f k cap i : Nat) (hi : i + 1 < cap) (hik : i + 1 ≤ k) : ∀ w, (Instr.slice 66 (.slice (some ⟨f, 0, none⟩) k cap) (some (.int .i64 ((i : Int) + 1))) none none).run Try.prog w = .ok (.slice (some ⟨f, (i + 1) * 3, none⟩) (k - (i + 1)) (cap - (i + 1))) w := fun w => by
  have h := sl_from f k cap (i + 1) hi hik w
  rw [show ((i + 1 : Nat) : Int) = (i : Int) + 1 by omega] at h
  exact h
theorem sl_to (f k cap i : Nat) (hi : i ≤ cap) : ∀ w, (Instr.slice 66 (.slice (some ⟨f, 0, none⟩) k cap) none (some (.int .i64 (i : Int))) none).run Try.prog w = .ok (.slice (some ⟨f, 0, none⟩) i cap) w := fun w => by
  rw [run_slice_h w 66 (some ⟨f, 0, none⟩) k cap Try.underlying66 .i64 (i : Int) (by omega) (by omega), sz_files]
  simp [Result.andThen, sliced, Addr.add]
theorem sl_to1 (f k cap i : Nat) (hi : i + 1 ≤ cap) : ∀ w, (Instr.slice 66 (.slice (some ⟨f, 0, none⟩) k cap) none (some (.int .i64 ((i : Int) + 1))) none).run Try.prog w = .ok (.slice (some ⟨f, 0, none⟩) (i + 1) cap) w := fun w => by
  have h := sl_to f k cap (i + 1) hi w
  rw [show ((i + 1 : Nat) : Int) = (i : Int) + 1 by omega] at h
  exact h
/-- copy of whole files into a row that is known. -/
theorem run_copy_x (w : World) (ty : TypeId) (g o dLen dCap : Nat) (ad : Addr) (sLen sCap k : Nat) (cur cs : List Value) (hg : w.heap[g]? = some (.cells cur.toArray 74 (0, 0))) (hk : k = Nat.min sLen dLen) (hn : cs.length = k * 3)
    (hsrc : ∀ j v, cs[j]? = some v → w.cell? (ad.add j) = some v) (hfit : o + cs.length ≤ cur.length) (h1 : ∀ v ∈ cs, v.oneCell' = true) :
    (Builtin.copy_ #[66, 66] ty #[.slice (some ⟨g, o, none⟩) dLen dCap, .slice (some ad) sLen sCap]).run Try.prog w = .ok (goInt k) (w.setRow g (cur.take o ++ cs ++ cur.drop (o + cs.length)).toArray) := by
  obtain ⟨i0, hi, hz0, hz1, hz2⟩ := info_parts infoFile
  have hl := run_firstCells_some (P := Try.prog) w 3 k ad sLen sCap cs hn hsrc
  have hst := run_storeCells_at Try.prog g o 74 cs 0 cur.toArray w hg (by simpa using hfit) h1
  simp only [Nat.add_zero] at hst
  simp [Builtin.copy_, run_underlying Try.underlying66, Builtin.lenOf, sizeOf, typeInfo, hi, hz1, ← hk, hl, hst]
theorem wp_copy_x {o : Oper} {a : Act} {w : World} {K : Act → World → Prop} {Q : Exit → Act → World → Prop} (d s : Operand) (ho : o.op = .call { callee := .builtin .copy, args := #[d, s], argTypes := #[66, 66] })
    (g of dLen dCap : Nat) (ad : Addr) (sLen sCap k : Nat) (hd : a.eval d = .slice (some ⟨g, of, none⟩) dLen dCap) (hs : a.eval s = .slice (some ad) sLen sCap) (cur cs : List Value) (hg : w.heap[g]? = some (.cells cur.toArray 74 (0, 0))) (hk : k = Nat.min sLen dLen) (hn : cs.length = k * 3)
    (hsrc : ∀ j v, cs[j]? = some v → w.cell? (ad.add j) = some v) (hfit : of + cs.length ≤ cur.length) (h1 : ∀ v ∈ cs, v.oneCell' = true)
    (h : ∀ w', w' = w.setRow g (cur.take of ++ cs ++ cur.drop (of + cs.length)).toArray → K (a.put o.dst (goInt k)) w') : o.wp Try.prog a w K Q := by
  have hr := run_copy_x w o.type g of dLen dCap ad sLen sCap k cur cs hg hk hn hsrc hfit h1
  unfold Oper.wp execOp
  simp only [ho, resolve, invoke, builtin, Sem.run_bind, Sem.run_pure, Result.andThen_ok, List.map_toArray, List.map_cons, List.map_nil, hd, hs, hr]
  exact h _ rfl
theorem wpList_copy_x {w : World} {ops : Array Oper} {rest : List Oper} {o : Oper} {a : Act} {Q : Exit → Act → World → Prop} (hgd : o.guard = none) (d s : Operand) (ho : o.op = .call { callee := .builtin .copy, args := #[d, s], argTypes := #[66, 66] })
    (g of dLen dCap : Nat) (ad : Addr) (sLen sCap k : Nat) (hd : a.eval d = .slice (some ⟨g, of, none⟩) dLen dCap) (hs : a.eval s = .slice (some ad) sLen sCap) (cur cs : List Value) (hg : w.heap[g]? = some (.cells cur.toArray 74 (0, 0))) (hk : k = Nat.min sLen dLen) (hn : cs.length = k * 3)
    (hsrc : ∀ j v, cs[j]? = some v → w.cell? (ad.add j) = some v) (hfit : of + cs.length ≤ cur.length) (h1 : ∀ v ∈ cs, v.oneCell' = true)
    (h : ∀ w', w' = w.setRow g (cur.take of ++ cs ++ cur.drop (of + cs.length)).toArray → wpList Try.prog ops Q rest (a.put o.dst (goInt k)) w') : wpList Try.prog ops Q (o :: rest) a w :=
  wpList_plain hgd fun K hK => wp_copy_x d s ho g of dLen dCap ad sLen sCap k hd hs cur cs hg hk hn hsrc hfit h1 fun w' hw' => hK _ _ (h w' hw')
/-- append of k zero files behind the first i of a row that has no room for them. -/
theorem run_zeros_x (w : World) (ty : TypeId) (f i cap k : Nat) (olds : List Value) (hlo : olds.length = i * 3) (hold : ∀ j v, olds[j]? = some v → w.cell? ⟨f, j, none⟩ = some v) (h0 : 0 < k) (hg : cap < i + k) (hb : i + k ≤ 1000000) :
    ∃ G z, (Builtin.append_ #[66, 3] ty #[.slice (some ⟨f, 0, none⟩) i cap, .int .i64 (k : Int)]).run Try.prog w = .ok (.slice (some ⟨w.heap.size, 0, none⟩) (i + k) G) (w.drew.alloc (.cells (olds ++ z).toArray 74)) ∧ i + k ≤ G ∧ G ≤ maxLen ∧ z.length = (G - i) * 3 := by
  obtain ⟨i0, hi, hz0, hz1, hz2⟩ := info_parts infoFile
  have hold' := run_firstCells_some (P := Try.prog) w.drew 3 i ⟨f, 0, none⟩ i cap olds hlo (fun j v hj => by rw [addr_add, Nat.zero_add]; exact hold j v hj)
  have h := Lib.run_append_grow_zeros w 66 3 ty 74 i0 _ .i64 .i64 Try.underlying66 Try.underlying3 hi hz0 (some ⟨f, 0, none⟩) i cap olds (by rw [hz1]; exact hold') k h0 (by omega) hg (by omega) (by rw [hz2]; omega) (by rw [hz2]; exact growslice_fits hg (by omega))
  have hge := grownCap_ge w (i + k) cap 74
  refine ⟨grownCap w (i + k) cap 74, (Builtin.zeroCells (Value.agg #[Value.string ByteArray.empty, .slice none 0 0, .int .i64 0]).cells k).toList ++ (Builtin.zeroCells (Value.agg #[Value.string ByteArray.empty, .slice none 0 0, .int .i64 0]).cells (grownCap w (i + k) cap 74 - (i + k))).toList, by rw [h]; congr 3; apply Array.toList_inj.1; simp, hge, grownCap_le_maxLen w (i + k) cap _ (by unfold maxLen; omega), ?_⟩
  · rw [List.length_append, Array.length_toList, Array.length_toList, size_zeroCells, size_zeroCells]
    have : (Value.agg #[Value.string ByteArray.empty, .slice none 0 0, .int .i64 0]).cells.size = 3 := rfl
    rw [this]; omega
/-- What a file put in leaves. -/
def InsM (w : World) (B f k i : Nat) (xs ys : List Value) (e : Ending) (w' : World) : Prop :=
  ∃ F' cap', e = .returned (.slice F' (k + 1) cap') ∧ OwnX w' B F' (k + 1) cap' (xs.take (i * 3) ++ (ys ++ xs.drop (i * 3))) ∧ w.grownBy w' (some f) ∧ (F'.map (·.block) = some f ∨ F'.map (·.block) = some w.heap.size)
end Go.Proofs.Ytafdhgofdocjhaa
