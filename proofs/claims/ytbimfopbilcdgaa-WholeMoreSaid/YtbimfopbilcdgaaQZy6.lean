/-
  Layer whole: slices.Insert of one group (made by gen_zh.py out of files' texts).
-/
import Derived.Lib.Overlaps
import Derived.Lib.AppendZerosOnto
import Derived.Laws.NewBlocks
import Derived.Laws.OwnMore
import Derived.Laws.CopyRow
import Derived.Test.YtbimfopbilcdgaaQZy5
set_option linter.unusedSimpArgs false
set_option linter.unusedVariables false
set_option maxRecDepth 8000
namespace Go.Proofs.Ytbimfopbilcdgaa
open Go.RowKit Go.WideShapes

def GowX (w : World) (B : Nat) (F : Option Addr) (k cap : Nat) (xs : List Value) : Prop := w.ownsRow B 91 42 (.slice F k cap) k xs
theorem run_append_gx (w : World) (B : Nat) (F : Option Addr) (k cap : Nat) (xs : List Value) (hown : GowX w B F k cap xs) (ad : Addr) (m c : Nat) (ys : List Value) (hl : ys.length = m * 42) (h2 : ∀ j u, ys[j]? = some u → w.cell? (ad.add j) = some u) (h1 : ∀ u ∈ ys, u.oneCell' = true)
    (hk : k + m ≤ 1000000) (hbase : B ≤ w.heap.size) (ty : TypeId) :
    ∃ F' cap' w', (Builtin.append_ #[81, 81] ty #[.slice F k cap, .slice (some ad) m c]).run Try.prog w = .ok (.slice F' (k + m) cap') w' ∧ GowX w' B F' (k + m) cap' (xs ++ ys) ∧ w.grownBy w' (F.map (·.block)) ∧
      (F'.map (·.block) = F.map (·.block) ∨ F'.map (·.block) = some w.heap.size) := by
  obtain ⟨i0, hi, hz0, hz1, hz2⟩ := info_parts infoGr
  obtain ⟨v', w', hr, h3, h4, h5, h6⟩ := run_append_own_at (P := Try.prog) w B 81 ty 91 i0 _ 42 344 Try.underlying81 hi hz0 hz1 hz2 rfl (by decide) _ k xs hown ad m c ys hl h2 h1 (by unfold maxLen; omega) (by omega) hbase
  rcases h3.2 with ⟨rfl, h0⟩ | ⟨g, cap', cur, rfl, hb, hrest⟩
  · have hn0 : k = 0 := by omega
    have hm0 : m = 0 := by omega
    subst hn0; subst hm0
    exact ⟨none, 0, w', hr, h3, by rcases F with _ | _ <;> exact h4, by
      rcases F with _ | _
      · exact .inl rfl
      · exact h6⟩
  · exact ⟨_, _, w', hr, h3, by rcases F with _ | _ <;> exact h4, by rcases F with _ | _ <;> exact h6⟩
theorem wpList_append_gx {w : World} {ops : Array Oper} {rest : List Oper} {o : Oper} {a : Act} {Q : Exit → Act → World → Prop} (hgd : o.guard = none) (s x : Operand)
    (ho : o.op = .call { callee := .builtin .append, args := #[s, x], argTypes := #[81, 81] })
    (B : Nat) (F : Option Addr) (k cap : Nat) (xs : List Value) (hs : a.eval s = .slice F k cap) (hown : GowX w B F k cap xs) (ad : Addr) (m c : Nat) (ys : List Value) (hx : a.eval x = .slice (some ad) m c) (hl : ys.length = m * 42) (h2 : ∀ j u, ys[j]? = some u → w.cell? (ad.add j) = some u) (h1 : ∀ u ∈ ys, u.oneCell' = true)
    (hk : k + m ≤ 1000000) (hbase : B ≤ w.heap.size)
    (h : ∀ F' cap' w', GowX w' B F' (k + m) cap' (xs ++ ys) → w.grownBy w' (F.map (·.block)) → (F'.map (·.block) = F.map (·.block) ∨ F'.map (·.block) = some w.heap.size) → wpList Try.prog ops Q rest (a.put o.dst (.slice F' (k + m) cap')) w') : wpList Try.prog ops Q (o :: rest) a w := by
  refine wpList_plain hgd fun K hK => ?_
  obtain ⟨F', cap', w', hr, h3, h4, h5⟩ := run_append_gx w B F k cap xs hown ad m c ys hl h2 h1 hk hbase o.type
  unfold Oper.wp execOp
  simp only [ho, resolve, invoke, builtin, Sem.run_bind, Sem.run_pure, Result.andThen_ok, List.map_toArray, List.map_cons, List.map_nil, hs, hx, hr]
  exact hK _ _ (h F' cap' w' h3 h4 h5)
theorem GowX.caps {w : World} {B k cap : Nat} {F : Option Addr} {xs : List Value} (h : GowX w B F k cap xs) : k ≤ cap := by
  rcases h.2 with ⟨h1, h2⟩ | ⟨g, cap', cur, h1, -, -, h2, h3, -⟩
  · cases h1; exact Nat.le_refl _
  · cases h1; exact h2
theorem sliceG_run (F : Option Addr) (k cap : Nat) (h : k ≤ cap) : ∃ R, ∀ w, (Instr.slice 81 (.slice F k cap) (some (.int .i64 (k : Int))) none none).run Try.prog w = .ok R w := by
  refine ⟨sliced F k k cap 42, fun w => ?_⟩
  rw [run_slice_l w 81 F k cap Try.underlying81 .i64 (k : Int) (by omega) (by omega)]
  rw [show (Go.sizeOf (Try.prog.elem 81)).run Try.prog w = .ok 42 w from by kernel_rfl]
  simp [Result.andThen, sliced]
def GinX (w : World) (B : Nat) (F : Option Addr) (k : Nat) (xs ys : List Value) (e : Ending) (w' : World) : Prop :=
  ∃ F' cap', e = .returned (.slice F' (k + 1) cap') ∧ GowX w' B F' (k + 1) cap' (xs ++ ys) ∧ w.grownBy w' (F.map (·.block)) ∧ (F'.map (·.block) = F.map (·.block) ∨ F'.map (·.block) = some w.heap.size)
set_option maxHeartbeats 1000000 in
theorem ginsert_end (B : Nat) (F : Option Addr) (k cap h : Nat) (xs : List Value) (ys : List Value) (hy : ys.length = 42) (hk : k ≤ 100000) (w : World) (hown : Hid (GowX w B F k cap xs)) (hB : Hid (B ≤ w.heap.size)) (h1 : Hid (∀ u ∈ ys, u.oneCell' = true))
    (hc : Hid (∀ (j : Nat) (u : Value), ys[j]? = some u → w.cell? ((⟨h, 0, none⟩ : Addr).add j) = some u)) :
    Calls Try.prog 108 #[.slice F k cap, .int .i64 k, .slice (some ⟨h, 0, none⟩) 1 1] w (GinX w B F k xs ys) := by
  obtain ⟨R, hR⟩ := sliceG_run F k cap hown.out.caps
  go_enter Try.func108, Try.ntmps108
  go_wp2_with (refine wpList_append_gx rfl (.tmp 23) (.tmp 24) rfl B F k cap xs rfl hown.out ⟨h, 0, none⟩ 1 1 ys rfl (by rw [hy]) hc.out h1.out (by omega) hB.out ?_; intro F' cap' w1 own hgr hblk; have HO := Lib.hid own; have HG := Lib.hid hgr; have HK := Lib.hid hblk; clear own hgr hblk)
  go_ret
  exact ⟨F', cap', rfl, HO.out, HG.out, HK.out⟩
structure GrwX (w : World) (B f k cap : Nat) (xs cs : List Value) : Prop where
  row : w.heap[f]? = some (.cells cs.toArray 91 (0, 0))
  hlen : cs.length = cap * 42
  hcap : cap ≤ maxLen
  first : cs.take (k * 42) = xs
  base : B ≤ f
  xlen : xs.length = k * 42
  le : k ≤ cap
theorem GowX.row {w : World} {B f k cap : Nat} {xs : List Value} (h : GowX w B (some ⟨f, 0, none⟩) k cap xs) : ∃ cs, GrwX w B f k cap xs cs := by
  rcases h.2 with ⟨h1, h2⟩ | ⟨g, cap', cur, h1, hb, hrow, hkc, hc, hs, ht⟩
  · cases h1
  · cases h1
    exact ⟨cur.toList, by simpa using hrow, by rw [Array.length_toList, hs], hc, ht, hb, h.1, hkc⟩
theorem GrwX.own {w : World} {B f k cap : Nat} {xs cs : List Value} (h : GrwX w B f k cap xs cs) : GowX w B (some ⟨f, 0, none⟩) k cap xs :=
  ⟨h.xlen, .inr ⟨f, cap, cs.toArray, rfl, h.base, h.row, h.le, h.hcap, by simpa using h.hlen, by simpa using h.first⟩⟩
theorem GrwX.cut {w : World} {B f k cap : Nat} {xs cs : List Value} (h : GrwX w B f k cap xs cs) (i : Nat) (hi : i ≤ k) : GrwX w B f i cap (xs.take (i * 42)) cs :=
  ⟨h.row, h.hlen, h.hcap, by rw [← h.first, List.take_take, Nat.min_eq_left (by omega)], h.base, by rw [List.length_take, h.xlen]; omega, by have := h.le; omega⟩
theorem GrwX.cells {w : World} {B f k cap : Nat} {xs cs : List Value} (h : GrwX w B f k cap xs cs) (i : Nat) (j : Nat) (u : Value) (hu : (xs.drop i)[j]? = some u) : w.cell? ⟨f, i + j, none⟩ = some u := by
  rw [cell_of_row w f _ cs.toArray _ (0, 0) h.row]
  rw [List.getElem?_drop] at hu
  have hl := (List.getElem?_eq_some_iff.1 hu).1
  rw [← h.first, List.getElem?_take] at hu
  rw [h.xlen] at hl
  rw [if_pos hl] at hu
  simpa using hu
theorem sz_grs (w : World) : (Go.sizeOf (Try.prog.elem 81)).run Try.prog w = .ok 42 w := by kernel_rfl
theorem gsl_from (f k cap i : Nat) (hi : i < cap) (hik : i ≤ k) : ∀ w, (Instr.slice 81 (.slice (some ⟨f, 0, none⟩) k cap) (some (.int .i64 (i : Int))) none none).run Try.prog w = .ok (.slice (some ⟨f, i * 42, none⟩) (k - i) (cap - i)) w := fun w => by
  rw [run_slice_l w 81 (some ⟨f, 0, none⟩) k cap Try.underlying81 .i64 (i : Int) (by omega) (by omega), sz_grs]
  simp only [Result.andThen, sliced, Int.toNat_natCast]
  rw [if_neg (by omega)]
  simp [addr_add]
theorem gsl_from1 (f k cap i : Nat) (hi : i + 1 < cap) (hik : i + 1 ≤ k) : ∀ w, (Instr.slice 81 (.slice (some ⟨f, 0, none⟩) k cap) (some (.int .i64 ((i : Int) + 1))) none none).run Try.prog w = .ok (.slice (some ⟨f, (i + 1) * 42, none⟩) (k - (i + 1)) (cap - (i + 1))) w := fun w => by
  have h := gsl_from f k cap (i + 1) hi hik w
  rw [show ((i + 1 : Nat) : Int) = (i : Int) + 1 by omega] at h
  exact h
theorem gsl_to (f k cap i : Nat) (hi : i ≤ cap) : ∀ w, (Instr.slice 81 (.slice (some ⟨f, 0, none⟩) k cap) none (some (.int .i64 (i : Int))) none).run Try.prog w = .ok (.slice (some ⟨f, 0, none⟩) i cap) w := fun w => by
  rw [run_slice_h w 81 (some ⟨f, 0, none⟩) k cap Try.underlying81 .i64 (i : Int) (by omega) (by omega), sz_grs]
  simp [Result.andThen, sliced, Addr.add]
theorem gsl_to1 (f k cap i : Nat) (hi : i + 1 ≤ cap) : ∀ w, (Instr.slice 81 (.slice (some ⟨f, 0, none⟩) k cap) none (some (.int .i64 ((i : Int) + 1))) none).run Try.prog w = .ok (.slice (some ⟨f, 0, none⟩) (i + 1) cap) w := fun w => by
  have h := gsl_to f k cap (i + 1) hi w
  rw [show ((i + 1 : Nat) : Int) = (i : Int) + 1 by omega] at h
  exact h
/-- copy of whole files into a row that is known. -/
theorem run_copy_gx (w : World) (ty : TypeId) (g o dLen dCap : Nat) (ad : Addr) (sLen sCap k : Nat) (cur cs : List Value) (hg : w.heap[g]? = some (.cells cur.toArray 91 (0, 0))) (hk : k = Nat.min sLen dLen) (hn : cs.length = k * 42)
    (hsrc : ∀ j v, cs[j]? = some v → w.cell? (ad.add j) = some v) (hfit : o + cs.length ≤ cur.length) (h1 : ∀ v ∈ cs, v.oneCell' = true) :
    (Builtin.copy_ #[81, 81] ty #[.slice (some ⟨g, o, none⟩) dLen dCap, .slice (some ad) sLen sCap]).run Try.prog w = .ok (goInt k) (w.setRow g (cur.take o ++ cs ++ cur.drop (o + cs.length)).toArray) := by
  obtain ⟨i0, hi, hz0, hz1, hz2⟩ := info_parts infoGr
  have hl := run_firstCells_some (P := Try.prog) w 42 k ad sLen sCap cs hn hsrc
  have hst := run_storeCells_at Try.prog g o 91 cs 0 cur.toArray w hg (by simpa using hfit) h1
  simp only [Nat.add_zero] at hst
  simp [Builtin.copy_, run_underlying Try.underlying81, Builtin.lenOf, sizeOf, typeInfo, hi, hz1, ← hk, hl, hst]
theorem wp_copy_gx {o : Oper} {a : Act} {w : World} {K : Act → World → Prop} {Q : Exit → Act → World → Prop} (d s : Operand) (ho : o.op = .call { callee := .builtin .copy, args := #[d, s], argTypes := #[81, 81] })
    (g of dLen dCap : Nat) (ad : Addr) (sLen sCap k : Nat) (hd : a.eval d = .slice (some ⟨g, of, none⟩) dLen dCap) (hs : a.eval s = .slice (some ad) sLen sCap) (cur cs : List Value) (hg : w.heap[g]? = some (.cells cur.toArray 91 (0, 0))) (hk : k = Nat.min sLen dLen) (hn : cs.length = k * 42)
    (hsrc : ∀ j v, cs[j]? = some v → w.cell? (ad.add j) = some v) (hfit : of + cs.length ≤ cur.length) (h1 : ∀ v ∈ cs, v.oneCell' = true)
    (h : ∀ w', w' = w.setRow g (cur.take of ++ cs ++ cur.drop (of + cs.length)).toArray → K (a.put o.dst (goInt k)) w') : o.wp Try.prog a w K Q := by
  have hr := run_copy_gx w o.type g of dLen dCap ad sLen sCap k cur cs hg hk hn hsrc hfit h1
  unfold Oper.wp execOp
  simp only [ho, resolve, invoke, builtin, Sem.run_bind, Sem.run_pure, Result.andThen_ok, List.map_toArray, List.map_cons, List.map_nil, hd, hs, hr]
  exact h _ rfl
theorem wpList_copy_gx {w : World} {ops : Array Oper} {rest : List Oper} {o : Oper} {a : Act} {Q : Exit → Act → World → Prop} (hgd : o.guard = none) (d s : Operand) (ho : o.op = .call { callee := .builtin .copy, args := #[d, s], argTypes := #[81, 81] })
    (g of dLen dCap : Nat) (ad : Addr) (sLen sCap k : Nat) (hd : a.eval d = .slice (some ⟨g, of, none⟩) dLen dCap) (hs : a.eval s = .slice (some ad) sLen sCap) (cur cs : List Value) (hg : w.heap[g]? = some (.cells cur.toArray 91 (0, 0))) (hk : k = Nat.min sLen dLen) (hn : cs.length = k * 42)
    (hsrc : ∀ j v, cs[j]? = some v → w.cell? (ad.add j) = some v) (hfit : of + cs.length ≤ cur.length) (h1 : ∀ v ∈ cs, v.oneCell' = true)
    (h : ∀ w', w' = w.setRow g (cur.take of ++ cs ++ cur.drop (of + cs.length)).toArray → wpList Try.prog ops Q rest (a.put o.dst (goInt k)) w') : wpList Try.prog ops Q (o :: rest) a w :=
  wpList_plain hgd fun K hK => wp_copy_gx d s ho g of dLen dCap ad sLen sCap k hd hs cur cs hg hk hn hsrc hfit h1 fun w' hw' => hK _ _ (h w' hw')
/-- append of k zero files behind the first i of a row that has no room for them. -/
theorem run_zeros_gx (w : World) (ty : TypeId) (f i cap k : Nat) (olds : List Value) (hlo : olds.length = i * 42) (hold : ∀ j v, olds[j]? = some v → w.cell? ⟨f, j, none⟩ = some v) (h0 : 0 < k) (hg : cap < i + k) (hb : i + k ≤ 1000000) :
    ∃ G z, (Builtin.append_ #[81, 3] ty #[.slice (some ⟨f, 0, none⟩) i cap, .int .i64 (k : Int)]).run Try.prog w = .ok (.slice (some ⟨w.heap.size, 0, none⟩) (i + k) G) (w.drew.alloc (.cells (olds ++ z).toArray 91)) ∧ i + k ≤ G ∧ G ≤ maxLen ∧ z.length = (G - i) * 42 := by
  obtain ⟨i0, hi, hz0, hz1, hz2⟩ := info_parts infoGr
  have hold' := run_firstCells_some (P := Try.prog) w.drew 42 i ⟨f, 0, none⟩ i cap olds hlo (fun j v hj => by rw [addr_add, Nat.zero_add]; exact hold j v hj)
  have h := Lib.run_append_grow_zeros w 81 3 ty 91 i0 _ .i64 .i64 Try.underlying81 Try.underlying3 hi hz0 (some ⟨f, 0, none⟩) i cap olds (by rw [hz1]; exact hold') k h0 (by omega) hg (by omega) (by rw [hz2]; omega) (by rw [hz2]; exact growslice_fits hg (by omega))
  have hge := grownCap_ge w (i + k) cap 91
  refine ⟨grownCap w (i + k) cap 91, (Builtin.zeroCells (Value.agg #[Value.string ByteArray.empty, .int .i64 0, .int .i64 0, .int .u64 0, .int .u64 0, .int .u64 0, .int .u64 0, .int .u64 0, .int .u64 0, .int .u64 0, .int .u64 0, .int .u64 0, .int .u64 0, .int .u64 0, .int .u64 0, .int .u64 0, .int .u64 0, .int .u64 0, .int .u64 0, .int .u64 0, .int .u64 0, .int .u64 0, .int .u64 0, .int .u64 0, .int .u64 0, .int .u64 0, .int .u64 0, .int .u64 0, .int .u64 0, .int .u64 0, .int .u64 0, .int .u64 0, .int .u64 0, .int .u64 0, .int .u64 0, .int .u64 0, .int .u64 0, .int .u64 0, .int .u64 0, .int .u8 0, .int .u64 0, .int .u64 0]).cells k).toList ++ (Builtin.zeroCells (Value.agg #[Value.string ByteArray.empty, .int .i64 0, .int .i64 0, .int .u64 0, .int .u64 0, .int .u64 0, .int .u64 0, .int .u64 0, .int .u64 0, .int .u64 0, .int .u64 0, .int .u64 0, .int .u64 0, .int .u64 0, .int .u64 0, .int .u64 0, .int .u64 0, .int .u64 0, .int .u64 0, .int .u64 0, .int .u64 0, .int .u64 0, .int .u64 0, .int .u64 0, .int .u64 0, .int .u64 0, .int .u64 0, .int .u64 0, .int .u64 0, .int .u64 0, .int .u64 0, .int .u64 0, .int .u64 0, .int .u64 0, .int .u64 0, .int .u64 0, .int .u64 0, .int .u64 0, .int .u64 0, .int .u8 0, .int .u64 0, .int .u64 0]).cells (grownCap w (i + k) cap 91 - (i + k))).toList, by rw [h]; congr 3; apply Array.toList_inj.1; simp, hge, grownCap_le_maxLen w (i + k) cap _ (by unfold maxLen; omega), ?_⟩
  · rw [List.length_append, Array.length_toList, Array.length_toList, size_zeroCells, size_zeroCells]
    have : (Value.agg #[Value.string ByteArray.empty, .int .i64 0, .int .i64 0, .int .u64 0, .int .u64 0, .int .u64 0, .int .u64 0, .int .u64 0, .int .u64 0, .int .u64 0, .int .u64 0, .int .u64 0, .int .u64 0, .int .u64 0, .int .u64 0, .int .u64 0, .int .u64 0, .int .u64 0, .int .u64 0, .int .u64 0, .int .u64 0, .int .u64 0, .int .u64 0, .int .u64 0, .int .u64 0, .int .u64 0, .int .u64 0, .int .u64 0, .int .u64 0, .int .u64 0, .int .u64 0, .int .u64 0, .int .u64 0, .int .u64 0, .int .u64 0, .int .u64 0, .int .u64 0, .int .u64 0, .int .u64 0, .int .u8 0, .int .u64 0, .int .u64 0]).cells.size = 42 := rfl
    rw [this]; omega
/-- What a file put in leaves. -/
def GinM (w : World) (B f k i : Nat) (xs ys : List Value) (e : Ending) (w' : World) : Prop :=
  ∃ F' cap', e = .returned (.slice F' (k + 1) cap') ∧ GowX w' B F' (k + 1) cap' (xs.take (i * 42) ++ (ys ++ xs.drop (i * 42))) ∧ w.grownBy w' (some f) ∧ (F'.map (·.block) = some f ∨ F'.map (·.block) = some w.heap.size)
theorem sz_gr (w : World) : (Go.sizeOf 91).run Try.prog w = .ok 42 w := by kernel_rfl
theorem gov_run (w : World) (h f o lb cb : Nat) (ys : List Value) (hy : ys.length = 42) (cs : List Value) (hne : h ≠ f) (hrow : w.heap[h]? = some (.cells ys.toArray 91 (0, 0))) (hf : w.heap[f]? = some (.cells cs.toArray 91 (0, 0))) (hcs : cs.length ≠ 0) :
    (callFunc 138 #[.slice (some ⟨h, 0, none⟩) 1 1, .slice (some ⟨f, o, none⟩) lb cb]).run Try.prog w = .ok (.value (.bool false)) w := by
  rw [run_callFunc_extern Try.func138 (by kernel_rfl) (by kernel_rfl) (by kernel_rfl) (e := Extern.SlicesOverlaps.overlaps #[81, 81] #[4]) (by kernel_rfl),
    Lib.run_overlaps_apart w 81 4 91 Try.underlying81 42 sz_gr ⟨h, 0, none⟩ ⟨f, o, none⟩ 1 1 lb cb hne 91 91 42 cs.length (by simp [World.shape?, hrow, hy]) (by simp [World.shape?, hf]) hcs (row_frozen hrow 0) (row_frozen hrow 42)]
  rfl
theorem gmid_row (i k n : Nat) (xs ys cs : List Value) (hi : i < k) (hx : xs.length = k * 42) (hy : ys.length = 42) (hc : cs.take (k * 42) = xs) (hn : cs.length = n * 42) (hk : k + 1 ≤ n) :
    let c2 := cs.take ((i + 1) * 42) ++ xs.drop (i * 42) ++ cs.drop ((i + 1) * 42 + (xs.drop (i * 42)).length)
    let c3 := c2.take (i * 42) ++ ys ++ c2.drop (i * 42 + ys.length)
    c3.length = n * 42 ∧ c3.take ((k + 1) * 42) = xs.take (i * 42) ++ (ys ++ xs.drop (i * 42)) := by
  intro c2 c3
  have hd : (xs.drop (i * 42)).length = k * 42 - i * 42 := by rw [List.length_drop, hx]
  have e1 : c2.take (i * 42) = xs.take (i * 42) := by
    show (cs.take ((i + 1) * 42) ++ xs.drop (i * 42) ++ cs.drop ((i + 1) * 42 + (xs.drop (i * 42)).length)).take (i * 42) = _
    rw [List.append_assoc, List.take_append_of_le_length (by rw [List.length_take]; omega), List.take_take, ← hc, List.take_take, Nat.min_eq_left (by omega), Nat.min_eq_left (by omega)]
  have e2 : c2.drop (i * 42 + ys.length) = xs.drop (i * 42) ++ cs.drop ((i + 1) * 42 + (xs.drop (i * 42)).length) := by
    show (cs.take ((i + 1) * 42) ++ xs.drop (i * 42) ++ cs.drop ((i + 1) * 42 + (xs.drop (i * 42)).length)).drop (i * 42 + ys.length) = _
    have hl : (cs.take ((i + 1) * 42)).length = i * 42 + ys.length := by rw [List.length_take, hy]; omega
    rw [List.append_assoc, ← hl, List.drop_left]
  have e3 : c3 = (xs.take (i * 42) ++ (ys ++ xs.drop (i * 42))) ++ cs.drop ((i + 1) * 42 + (xs.drop (i * 42)).length) := by
    show c2.take (i * 42) ++ ys ++ c2.drop (i * 42 + ys.length) = _
    rw [e1, e2]; simp only [List.append_assoc]
  have hl : (xs.take (i * 42) ++ (ys ++ xs.drop (i * 42))).length = (k + 1) * 42 := by
    rw [List.length_append, List.length_append, List.length_take, hd, hx, hy]; omega
  refine ⟨?_, ?_⟩
  · rw [e3, List.length_append, hl, List.length_drop, hd, hn]; omega
  · rw [e3, ← hl, List.take_left]
theorem gmid_new (i k G : Nat) (xs ys z : List Value) (hi : i < k) (hx : xs.length = k * 42) (hy : ys.length = 42) (hz : z.length = (G - i) * 42) (hk : k + 1 ≤ G) :
    let c1 := xs.take (i * 42) ++ z
    let c2 := c1.take (i * 42) ++ ys ++ c1.drop (i * 42 + ys.length)
    let c3 := c2.take ((i + 1) * 42) ++ xs.drop (i * 42) ++ c2.drop ((i + 1) * 42 + (xs.drop (i * 42)).length)
    c2.length = G * 42 ∧ c3.length = G * 42 ∧ c3.take ((k + 1) * 42) = xs.take (i * 42) ++ (ys ++ xs.drop (i * 42)) := by
  intro c1 c2 c3
  have hd : (xs.drop (i * 42)).length = k * 42 - i * 42 := by rw [List.length_drop, hx]
  have ht : (xs.take (i * 42)).length = i * 42 := by rw [List.length_take, hx]; omega
  have l1 : c1.length = G * 42 := by show (xs.take (i * 42) ++ z).length = _; rw [List.length_append, ht, hz]; omega
  have e1 : c1.take (i * 42) = xs.take (i * 42) := by
    show (xs.take (i * 42) ++ z).take (i * 42) = _
    exact List.take_left' ht
  have l2 : c2.length = G * 42 := by
    show (c1.take (i * 42) ++ ys ++ c1.drop (i * 42 + ys.length)).length = _
    rw [List.length_append, List.length_append, List.length_take, List.length_drop, l1, hy]; omega
  have e2 : c2.take ((i + 1) * 42) = xs.take (i * 42) ++ ys := by
    show (c1.take (i * 42) ++ ys ++ c1.drop (i * 42 + ys.length)).take ((i + 1) * 42) = _
    have hl : (xs.take (i * 42) ++ ys).length = (i + 1) * 42 := by rw [List.length_append, ht, hy]; omega
    rw [e1, ← hl, List.take_left]
  have e3 : c3 = (xs.take (i * 42) ++ (ys ++ xs.drop (i * 42))) ++ c2.drop ((i + 1) * 42 + (xs.drop (i * 42)).length) := by
    show c2.take ((i + 1) * 42) ++ xs.drop (i * 42) ++ c2.drop ((i + 1) * 42 + (xs.drop (i * 42)).length) = _
    rw [e2]; simp only [List.append_assoc]
  have hl : (xs.take (i * 42) ++ (ys ++ xs.drop (i * 42))).length = (k + 1) * 42 := by
    rw [List.length_append, List.length_append, ht, hd, hy]; omega
  refine ⟨l2, ?_, ?_⟩
  · rw [e3, List.length_append, hl, List.length_drop, hd, l2]; omega
  · rw [e3, ← hl, List.take_left]
theorem gsrow_size (w : World) (f : Nat) (row : Array Value) : (w.setRow f row).heap.size = w.heap.size := by unfold World.setRow; simp
theorem ggb_setRow {w w' : World} {f : Nat} {row : Array Value} (h : w.grownBy w' (some f)) : w.grownBy (w'.setRow f row) (some f) :=
  ⟨h.os, h.tape, h.output, by unfold World.setRow; simpa using h.size, fun k hk hn => (setRow_other w' f k _ (fun e => hn (by rw [e]))).trans (h.block k hk hn)⟩
theorem ggb_drew {w w' : World} {r : Option Nat} (h : w.grownBy w' r) : w.grownBy w'.drew r := ⟨h.os, h.tape, h.output, h.size, h.block⟩
theorem ggb_refl (w : World) (r : Option Nat) : w.grownBy w r := ⟨rfl, rfl, rfl, Nat.le_refl _, fun _ _ _ => rfl⟩
set_option maxHeartbeats 4000000 in
theorem ginsert_room (B f k cap i h : Nat) (xs : List Value) (ys : List Value) (hy : ys.length = 42) (hi : i < k) (hk : k ≤ 100000) (hroom : Hid (k + 1 ≤ cap)) (hcap : Hid (cap ≤ maxLen)) (w : World) (hown : Hid (GowX w B (some ⟨f, 0, none⟩) k cap xs)) (hx1 : Hid (∀ u ∈ xs, u.oneCell' = true)) (h1 : Hid (∀ u ∈ ys, u.oneCell' = true))
    (hc : Hid (w.heap[h]? = some (.cells ys.toArray 91 (0, 0)))) (hne : Hid (h ≠ f)) :
    Calls Try.prog 108 #[.slice (some ⟨f, 0, none⟩) k cap, .int .i64 i, .slice (some ⟨h, 0, none⟩) 1 1] w (GinM w B f k i xs ys) := by
  obtain ⟨cs, RX⟩ := hown.out.row
  have HB0 := Lib.hid RX
  have HR : Hid (GrwX w.drew B f k cap xs cs) := Lib.hid ⟨RX.row, RX.hlen, RX.hcap, RX.first, RX.base, RX.xlen, RX.le⟩
  have hr1 : k + 1 ≤ cap := hroom.out
  have HS0 := Lib.hid (gsl_from f k cap i (by omega) (by omega))
  have HST := Lib.hid (gsl_to1 f k cap k hr1)
  have HS1 := Lib.hid (gsl_from1 f (k + 1) cap i (by omega) (by omega))
  have HS2 := Lib.hid (gsl_from f (k + 1) cap i (by omega) (by omega))
  have hov := fun lb cb => gov_run w h f ((i + 1) * 42) lb cb ys hy cs hne.out hc.out RX.row (by have := RX.hlen; omega)
  have HOV := Lib.hid hov
  have HL : Hid ((xs.drop (i * 42)).length = (k - i) * 42) := Lib.hid (by rw [List.length_drop, RX.xlen]; omega)
  have HA : Hid (∀ (j : Nat) (u : Value), (xs.drop (i * 42))[j]? = some u → w.drew.cell? ((⟨f, i * 42, none⟩ : Addr).add j) = some u) := Lib.hid fun j u hu => by rw [addr_add]; exact RX.cells _ j u hu
  have HFIT : Hid ((i + 1) * 42 + (xs.drop (i * 42)).length ≤ cs.length) := Lib.hid (by rw [HL.out, RX.hlen]; omega)
  have HD1 : Hid (∀ u ∈ xs.drop (i * 42), u.oneCell' = true) := Lib.hid fun u hu => hx1.out u (List.mem_of_mem_drop hu)
  have hne1 : ((i : Int) == (k : Int)) = false := by simp; omega
  have hgt : decide ((cap : Int) < (k : Int) + 1) = false := by simp; omega
  have hwi : IntKind.i64.wrap ((i : Int) + 1) = (i : Int) + 1 := IntWalk.i64_in _ (by omega)
  have hs0 := HS0.out
  have hst := HST.out
  have hs1 := HS1.out
  clear RX hown hov hr1
  have hov := HOV.out
  go_enter Try.func108, Try.ntmps108
  go_upto_region 15 with (simp only [hov])
  clear hs0 hst hs1 hov
  refine wp_region_held_drew (S := fun _ => True) (by kernel_rfl) trivial (fun hHeld => ?_)
  refine wpAnyH_take (i := 0) (v := .slice (some ⟨f, 0, none⟩) (k + 1) cap) rfl (by kernel_rfl) (by kernel_rfl) (by kernel_rfl) (fun _ _ _ h => h) (Or.inl ⟨by rfl, fun _ _ => rfl⟩) hHeld ?_
  try dsimp only
  try simp only [Act.put, List.getElem_toArray, List.getElem_cons_zero, List.getElem_cons_succ, List.setIfInBounds_toArray, List.set_cons_zero, List.set_cons_succ]
  refine wpAnyH_take (i := 1) (v := .int .i64 (i : Nat)) rfl (by kernel_rfl) (by kernel_rfl) (by kernel_rfl) (fun _ _ _ h => h) (Or.inl ⟨by rfl, fun _ _ => rfl⟩) hHeld ?_
  try dsimp only
  try simp only [Act.put, List.getElem_toArray, List.getElem_cons_zero, List.getElem_cons_succ, List.setIfInBounds_toArray, List.set_cons_zero, List.set_cons_succ]
  refine wpAnyH_take (i := 2) (v := .int .i64 1) rfl (by kernel_rfl) (by kernel_rfl) (by kernel_rfl) (fun _ _ _ h => h) (Or.inl ⟨by rfl, fun _ _ => rfl⟩) hHeld ?_
  try dsimp only
  try simp only [Act.put, List.getElem_toArray, List.getElem_cons_zero, List.getElem_cons_succ, List.setIfInBounds_toArray, List.set_cons_zero, List.set_cons_succ]
  refine wpAnyH_take (i := 3) (v := .int .i64 ((i : Int) + 1)) rfl (by kernel_rfl) (by kernel_rfl) (by kernel_rfl) (fun _ _ _ h => h) (Or.inl ⟨by rfl, fun w _ => by go_simp⟩) hHeld ?_
  try dsimp only
  try simp only [Act.put, List.getElem_toArray, List.getElem_cons_zero, List.getElem_cons_succ, List.setIfInBounds_toArray, List.set_cons_zero, List.set_cons_succ]
  refine wpAnyH_take (i := 4) (v := .slice (some ⟨f, (i + 1) * 42, none⟩) (k + 1 - (i + 1)) (cap - (i + 1))) rfl (by kernel_rfl) (by kernel_rfl) (by kernel_rfl) (fun _ _ _ h => h) (Or.inl ⟨by rfl, fun w _ => by have := HS1.out w; go_simp⟩) hHeld ?_
  try dsimp only
  try simp only [Act.put, List.getElem_toArray, List.getElem_cons_zero, List.getElem_cons_succ, List.setIfInBounds_toArray, List.set_cons_zero, List.set_cons_succ]
  refine wpAnyH_take (i := 5) (v := .slice (some ⟨f, 0, none⟩) (k + 1) cap) rfl (by kernel_rfl) (by kernel_rfl) (by kernel_rfl) (fun _ _ _ h => h) (Or.inl ⟨by rfl, fun _ _ => rfl⟩) hHeld ?_
  try dsimp only
  try simp only [Act.put, List.getElem_toArray, List.getElem_cons_zero, List.getElem_cons_succ, List.setIfInBounds_toArray, List.set_cons_zero, List.set_cons_succ]
  refine wpAnyH_take (i := 6) (v := .int .i64 (i : Nat)) rfl (by kernel_rfl) (by kernel_rfl) (by kernel_rfl) (fun _ _ _ h => h) (Or.inl ⟨by rfl, fun _ _ => rfl⟩) hHeld ?_
  try dsimp only
  try simp only [Act.put, List.getElem_toArray, List.getElem_cons_zero, List.getElem_cons_succ, List.setIfInBounds_toArray, List.set_cons_zero, List.set_cons_succ]
  refine wpAnyH_take (i := 7) (v := .slice (some ⟨f, i * 42, none⟩) (k + 1 - i) (cap - i)) rfl (by kernel_rfl) (by kernel_rfl) (by kernel_rfl) (fun _ _ _ h => h) (Or.inl ⟨by rfl, fun w _ => by have := HS2.out w; go_simp⟩) hHeld ?_
  try dsimp only
  try simp only [Act.put, List.getElem_toArray, List.getElem_cons_zero, List.getElem_cons_succ, List.setIfInBounds_toArray, List.set_cons_zero, List.set_cons_succ]
  refine wpAnyH_ready (rs := [8]) (by kernel_rfl) (by simp) (AllReadyH.cons rfl (fun K hK => ?_) AllReadyH.nil)
  rw [if_pos (by rfl)]
  refine wp_copy_gx (.tmp 73) (.tmp 76) rfl f ((i + 1) * 42) (k + 1 - (i + 1)) (cap - (i + 1)) ⟨f, i * 42, none⟩ (k + 1 - i) (cap - i) (k - i) rfl rfl cs (xs.drop (i * 42)) HR.out.row (by simp only [Nat.min_def]; split <;> omega) HL.out HA.out HFIT.out HD1.out ?_
  intro w1 hw1
  have HW1 := Lib.hid hw1
  clear hw1
  refine hK.out _ _ trivial (fun hHeld => ?_)
  clear hK K
  refine wpAnyH_done (by kernel_rfl) ?_ _
  have hs2 := HS2.out
  have HM := gmid_row i k cap xs ys cs hi HR.out.xlen hy HR.out.first HR.out.hlen hroom.out
  have HM := Lib.hid HM
  obtain ⟨cu, hcu⟩ : ∃ cu, cu = cs.take ((i + 1) * 42) ++ xs.drop (i * 42) ++ cs.drop ((i + 1) * 42 + (xs.drop (i * 42)).length) := ⟨_, rfl⟩
  have HCU := Lib.hid hcu
  have HRW : Hid (w1.heap[f]? = some (.cells cu.toArray 91 (0, 0))) := Lib.hid (by rw [HW1.out, ← hcu]; exact setRow_heap _ _ _ _ _ _ HR.out.row)
  have HSRC : Hid (∀ (j : Nat) (v : Value), ys[j]? = some v → w1.cell? ((⟨h, 0, none⟩ : Addr).add j) = some v) := Lib.hid fun j v hv => by
    have e : w1.heap[h]? = some (.cells ys.toArray 91 (0, 0)) := by rw [HW1.out, setRow_other _ _ _ _ hne.out]; exact hc.out
    rw [addr_add, Nat.zero_add, cell_of_row _ _ _ _ _ _ e, ← hv]; simp
  have HF3 : Hid (i * 42 + ys.length ≤ cu.length) := Lib.hid (by
    have h2 := HR.out.hlen; have h4 := hroom.out; have h5 := HR.out.xlen
    rw [hcu]; simp only [List.length_append, List.length_take, List.length_drop, h2, h5, List.length_cons, List.length_nil, hy]; omega)
  clear hcu
  go_wp2_with (refine wpList_copy_gx rfl (.tmp 80) (.tmp 81) rfl f (i * 42) (k + 1 - i) (cap - i) ⟨h, 0, none⟩ 1 1 1 rfl rfl cu ys HRW.out (by simp only [Nat.min_def]; split <;> omega) (by rw [hy]) HSRC.out HF3.out h1.out ?_; intro w2 hw2; have HW2 := Lib.hid hw2; clear hw2)
  go_ret
  have hm := HM.out
  rw [← HCU.out] at hm
  refine ⟨some ⟨f, 0, none⟩, cap, rfl, GrwX.own (cs := cu.take (i * 42) ++ ys ++ cu.drop (i * 42 + ys.length)) ⟨?_, hm.1, HR.out.hcap, hm.2, HR.out.base, ?_, hroom.out⟩, ?_, .inl rfl⟩
  · rw [HW2.out]; exact setRow_heap _ _ _ _ _ _ HRW.out
  · have h2 := HR.out.xlen; have h5 := HL.out
    rw [List.length_append, List.length_append, List.length_take, h5, h2]; simp; omega
  · rw [HW2.out, HW1.out]; exact ggb_setRow (ggb_setRow (ggb_drew (ggb_refl _ _)))
set_option maxHeartbeats 4000000 in
theorem ginsert_full (B f k cap i h : Nat) (xs : List Value) (ys : List Value) (hy : ys.length = 42) (hi : i < k) (hk : k ≤ 100000) (hfull : Hid (cap < k + 1)) (w : World) (hB : Hid (B ≤ w.heap.size)) (hown : Hid (GowX w B (some ⟨f, 0, none⟩) k cap xs)) (hx1 : Hid (∀ u ∈ xs, u.oneCell' = true)) (h1 : Hid (∀ u ∈ ys, u.oneCell' = true))
    (hc : Hid (w.heap[h]? = some (.cells ys.toArray 91 (0, 0)))) (hne : Hid (h ≠ f)) :
    Calls Try.prog 108 #[.slice (some ⟨f, 0, none⟩) k cap, .int .i64 i, .slice (some ⟨h, 0, none⟩) 1 1] w (GinM w B f k i xs ys) := by
  obtain ⟨cs, RX⟩ := hown.out.row
  have HR := Lib.hid RX
  have hkc := RX.le
  have hfl := hfull.out
  have HS0 := Lib.hid (gsl_from f k cap i (by omega) (by omega))
  have HST := Lib.hid (gsl_to f k cap i (by omega))
  have HL : Hid ((xs.drop (i * 42)).length = (k - i) * 42) := Lib.hid (by rw [List.length_drop, RX.xlen]; omega)
  have HD1 : Hid (∀ u ∈ xs.drop (i * 42), u.oneCell' = true) := Lib.hid fun u hu => hx1.out u (List.mem_of_mem_drop hu)
  have hlf : f < w.heap.size := (Array.getElem?_eq_some_iff.1 RX.row).1
  have hlh : h < w.heap.size := (Array.getElem?_eq_some_iff.1 hc.out).1
  obtain ⟨G, z, hz, hG1, hG2, hz3⟩ := run_zeros_gx w 81 f i cap (k + 1 - i) (xs.take (i * 42)) (by rw [List.length_take, RX.xlen]; omega) (fun j v hj => by
    have h2 := RX.cells 0 j v (by
      rw [List.getElem?_take] at hj
      split at hj
      · simpa using hj
      · cases hj)
    simpa using h2) (by omega) (by omega) (by omega)
  rw [show ((k + 1 - i : Nat) : Int) = (k : Int) + 1 - (i : Int) by omega, show i + (k + 1 - i) = k + 1 by omega] at hz
  rw [show i + (k + 1 - i) = k + 1 by omega] at hG1
  obtain ⟨N, hN⟩ : ∃ N, N = w.heap.size := ⟨_, rfl⟩
  have HN := Lib.hid hN
  obtain ⟨W1, hW1⟩ : ∃ W1, W1 = w.drew.alloc (.cells (xs.take (i * 42) ++ z).toArray 91) := ⟨_, rfl⟩
  have HW1 := Lib.hid hW1
  rw [← hN, ← hW1] at hz
  have HZ := Lib.hid hz
  have HS3 := Lib.hid (gsl_from N (k + 1) G i (by omega) (by omega))
  have HS1 := Lib.hid (gsl_from1 N (k + 1) G i (by omega) (by omega))
  have HS2 := Lib.hid (gsl_from f k cap i (by omega) (by omega))
  have HM := Lib.hid (gmid_new i k G xs ys z hi RX.xlen hy hz3 hG1)
  have hne1 : ((i : Int) == (k : Int)) = false := by simp; omega
  have hgt : decide ((cap : Int) < (k : Int) + 1) = true := by simp; omega
  have hwi : IntKind.i64.wrap ((i : Int) + 1) = (i : Int) + 1 := IntWalk.i64_in _ (by omega)
  have HRW1 : Hid (W1.heap[N]? = some (.cells (xs.take (i * 42) ++ z).toArray 91 (0, 0))) := Lib.hid (by rw [hW1, hN]; exact heap_alloc_new' w.drew _)
  have hold : ∀ q, q < w.heap.size → W1.heap[q]? = w.heap[q]? := fun q hq => by rw [hW1]; exact heap_alloc_old w.drew _ hq
  have HOLD := Lib.hid hold
  have HSRC : Hid (∀ (j : Nat) (v : Value), ys[j]? = some v → W1.cell? ((⟨h, 0, none⟩ : Addr).add j) = some v) := Lib.hid fun j v hv => by
    rw [addr_add, Nat.zero_add, cell_of_row _ _ _ _ _ _ ((hold h hlh).trans hc.out), ← hv]; simp
  have HF3 : Hid (i * 42 + ys.length ≤ (xs.take (i * 42) ++ z).length) := Lib.hid (by
    simp only [List.length_append, List.length_take, RX.xlen, hz3, List.length_cons, List.length_nil, hy]; omega)
  have HNF : Hid (N ≠ f ∧ N ≠ h) := Lib.hid ⟨by omega, by omega⟩
  have hs0 := HS0.out
  have hst := HST.out
  have hs3 := HS3.out
  clear RX hown hN hW1 hz hold hz3 hlf hlh
  go_enter Try.func108, Try.ntmps108
  go_upto_region 11 with (first
    | (at_builtin; refine Lib.wpList_append_run _ rfl (.tmp 34) (.tmp 39) _ _ rfl _ _ rfl rfl _ _ HZ.out ?_)
    | (refine wpList_copy_gx rfl (.tmp 43) (.tmp 44) rfl N (i * 42) (k + 1 - i) (G - i) ⟨h, 0, none⟩ 1 1 1 rfl rfl (xs.take (i * 42) ++ z) ys HRW1.out (by simp only [Nat.min_def]; split <;> omega) (by rw [hy]) HSRC.out HF3.out h1.out ?_; intro w2 hw2; have HW2 := Lib.hid hw2; clear hw2))
  clear hs0 hst hs3
  obtain ⟨cu, hcu⟩ : ∃ cu, cu = (xs.take (i * 42) ++ z).take (i * 42) ++ ys ++ (xs.take (i * 42) ++ z).drop (i * 42 + ys.length) := ⟨_, rfl⟩
  have hm := HM.out
  simp only [← hcu] at hm
  have HM2 := Lib.hid hm
  have HRW2 : Hid (w2.drew.heap[N]? = some (.cells cu.toArray 91 (0, 0))) := Lib.hid (by
    show w2.heap[N]? = _
    rw [HW2.out, ← hcu]; exact setRow_heap _ _ _ _ _ _ HRW1.out)
  have hfr : w2.drew.heap[f]? = some (.cells cs.toArray 91 (0, 0)) := by
    show w2.heap[f]? = _
    rw [HW2.out, setRow_other _ _ _ _ HNF.out.1.symm, HOLD.out f (Array.getElem?_eq_some_iff.1 HR.out.row).1]; exact HR.out.row
  have HA2 : Hid (∀ (j : Nat) (u : Value), (xs.drop (i * 42))[j]? = some u → w2.drew.cell? ((⟨f, i * 42, none⟩ : Addr).add j) = some u) := Lib.hid fun j u hu => by
    have RY : GrwX w2.drew B f k cap xs cs := ⟨hfr, HR.out.hlen, HR.out.hcap, HR.out.first, HR.out.base, HR.out.xlen, HR.out.le⟩
    rw [addr_add]; exact RY.cells _ j u hu
  have HFIT2 : Hid ((i + 1) * 42 + (xs.drop (i * 42)).length ≤ cu.length) := Lib.hid (by rw [HL.out, hm.1]; omega)
  clear hcu hm hfr HM
  refine wp_region_held_drew (S := fun _ => True) (by kernel_rfl) trivial (fun hHeld => ?_)
  refine wpAnyH_take (i := 0) (v := .slice (some ⟨N, 0, none⟩) (k + 1) G) rfl (by kernel_rfl) (by kernel_rfl) (by kernel_rfl) (fun _ _ _ h => h) (Or.inl ⟨by rfl, fun _ _ => rfl⟩) hHeld ?_
  try dsimp only
  try simp only [Act.put, List.getElem_toArray, List.getElem_cons_zero, List.getElem_cons_succ, List.setIfInBounds_toArray, List.set_cons_zero, List.set_cons_succ]
  refine wpAnyH_take (i := 1) (v := .int .i64 (i : Nat)) rfl (by kernel_rfl) (by kernel_rfl) (by kernel_rfl) (fun _ _ _ h => h) (Or.inl ⟨by rfl, fun _ _ => rfl⟩) hHeld ?_
  try dsimp only
  try simp only [Act.put, List.getElem_toArray, List.getElem_cons_zero, List.getElem_cons_succ, List.setIfInBounds_toArray, List.set_cons_zero, List.set_cons_succ]
  refine wpAnyH_take (i := 2) (v := .int .i64 1) rfl (by kernel_rfl) (by kernel_rfl) (by kernel_rfl) (fun _ _ _ h => h) (Or.inl ⟨by rfl, fun _ _ => rfl⟩) hHeld ?_
  try dsimp only
  try simp only [Act.put, List.getElem_toArray, List.getElem_cons_zero, List.getElem_cons_succ, List.setIfInBounds_toArray, List.set_cons_zero, List.set_cons_succ]
  refine wpAnyH_take (i := 3) (v := .int .i64 ((i : Int) + 1)) rfl (by kernel_rfl) (by kernel_rfl) (by kernel_rfl) (fun _ _ _ h => h) (Or.inl ⟨by rfl, fun w _ => by go_simp⟩) hHeld ?_
  try dsimp only
  try simp only [Act.put, List.getElem_toArray, List.getElem_cons_zero, List.getElem_cons_succ, List.setIfInBounds_toArray, List.set_cons_zero, List.set_cons_succ]
  refine wpAnyH_take (i := 4) (v := .slice (some ⟨N, (i + 1) * 42, none⟩) (k + 1 - (i + 1)) (G - (i + 1))) rfl (by kernel_rfl) (by kernel_rfl) (by kernel_rfl) (fun _ _ _ h => h) (Or.inl ⟨by rfl, fun w _ => by have := HS1.out w; go_simp⟩) hHeld ?_
  try dsimp only
  try simp only [Act.put, List.getElem_toArray, List.getElem_cons_zero, List.getElem_cons_succ, List.setIfInBounds_toArray, List.set_cons_zero, List.set_cons_succ]
  refine wpAnyH_take (i := 5) (v := .slice (some ⟨f, 0, none⟩) k cap) rfl (by kernel_rfl) (by kernel_rfl) (by kernel_rfl) (fun _ _ _ h => h) (Or.inl ⟨by rfl, fun _ _ => rfl⟩) hHeld ?_
  try dsimp only
  try simp only [Act.put, List.getElem_toArray, List.getElem_cons_zero, List.getElem_cons_succ, List.setIfInBounds_toArray, List.set_cons_zero, List.set_cons_succ]
  refine wpAnyH_take (i := 6) (v := .int .i64 (i : Nat)) rfl (by kernel_rfl) (by kernel_rfl) (by kernel_rfl) (fun _ _ _ h => h) (Or.inl ⟨by rfl, fun _ _ => rfl⟩) hHeld ?_
  try dsimp only
  try simp only [Act.put, List.getElem_toArray, List.getElem_cons_zero, List.getElem_cons_succ, List.setIfInBounds_toArray, List.set_cons_zero, List.set_cons_succ]
  refine wpAnyH_take (i := 7) (v := .slice (some ⟨f, i * 42, none⟩) (k - i) (cap - i)) rfl (by kernel_rfl) (by kernel_rfl) (by kernel_rfl) (fun _ _ _ h => h) (Or.inl ⟨by rfl, fun w _ => by have := HS2.out w; go_simp⟩) hHeld ?_
  try dsimp only
  try simp only [Act.put, List.getElem_toArray, List.getElem_cons_zero, List.getElem_cons_succ, List.setIfInBounds_toArray, List.set_cons_zero, List.set_cons_succ]
  refine wpAnyH_ready (rs := [8]) (by kernel_rfl) (by simp) (AllReadyH.cons rfl (fun K hK => ?_) AllReadyH.nil)
  rw [if_pos (by rfl)]
  refine wp_copy_gx (.tmp 50) (.tmp 53) rfl N ((i + 1) * 42) (k + 1 - (i + 1)) (G - (i + 1)) ⟨f, i * 42, none⟩ (k - i) (cap - i) (k - i) rfl rfl _ (xs.drop (i * 42)) HRW2.out (by simp only [Nat.min_def]; split <;> omega) HL.out HA2.out HFIT2.out HD1.out ?_
  intro w3 hw3
  have HW3 := Lib.hid hw3
  clear hw3
  refine hK.out _ _ trivial (fun hHeld => ?_)
  clear hK K
  refine wpAnyH_done (by kernel_rfl) ?_ _
  go_wp2
  go_ret
  refine ⟨some ⟨N, 0, none⟩, G, rfl, GrwX.own (cs := cu.take ((i + 1) * 42) ++ xs.drop (i * 42) ++ cu.drop ((i + 1) * 42 + (xs.drop (i * 42)).length)) ⟨?_, HM2.out.2.1, hG2, HM2.out.2.2, ?_, ?_, hG1⟩, ?_, .inr (by rw [HN.out]; rfl)⟩
  · rw [HW3.out]; exact setRow_heap _ _ _ _ _ _ HRW2.out
  · have := hB.out; have := HN.out; omega
  · have h2 := HR.out.xlen; have h5 := HL.out
    rw [List.length_append, List.length_append, List.length_take, h5, h2]; simp; omega
  · rw [HW3.out, HW2.out, HW1.out]
    refine ⟨rfl, rfl, rfl, by rw [gsrow_size]; show _ ≤ ((w.drew.alloc _).setRow N _).heap.size; rw [gsrow_size]; simp, fun q hq _ => ?_⟩
    have e : q ≠ N := by have := HN.out; omega
    rw [setRow_other _ _ _ _ e]
    show ((w.drew.alloc _).setRow N _).heap[q]? = _
    rw [setRow_other _ _ _ _ e]; exact heap_alloc_old w.drew _ hq
theorem ginsert_any (B f k cap i h : Nat) (xs : List Value) (ys : List Value) (hy : ys.length = 42) (hi : i ≤ k) (hk : k ≤ 100000) (w : World) (hB : Hid (B ≤ w.heap.size)) (hown : Hid (GowX w B (some ⟨f, 0, none⟩) k cap xs)) (hx1 : Hid (∀ u ∈ xs, u.oneCell' = true)) (h1 : Hid (∀ u ∈ ys, u.oneCell' = true))
    (hc : Hid (w.heap[h]? = some (.cells ys.toArray 91 (0, 0)))) (hne : Hid (h ≠ f)) :
    Calls Try.prog 108 #[.slice (some ⟨f, 0, none⟩) k cap, .int .i64 i, .slice (some ⟨h, 0, none⟩) 1 1] w (GinM w B f k i xs ys) := by
  rcases Nat.lt_or_ge i k with hlt | hge
  · rcases Nat.lt_or_ge k cap with hr | hr
    · obtain ⟨cs, RX⟩ := hown.out.row
      exact ginsert_room B f k cap i h xs ys hy hlt hk (Lib.hid hr) (Lib.hid RX.hcap) w hown hx1 h1 hc hne
    · exact ginsert_full B f k cap i h xs ys hy hlt hk (Lib.hid (by omega)) w hB hown hx1 h1 hc hne
  · obtain rfl : i = k := by omega
    refine (ginsert_end B (some ⟨f, 0, none⟩) i cap h xs ys hy hk w hown hB h1 (Lib.hid fun j u hu => ?_)).mono ?_
    · rw [addr_add, Nat.zero_add, cell_of_row _ _ _ _ _ _ hc.out, ← hu]; simp
    · rintro e w' ⟨F', cap', rfl, ho, hg, hb⟩
      have hl := hown.out.1
      refine ⟨F', cap', rfl, ?_, hg, hb⟩
      rw [List.take_of_length_le (by omega), List.drop_of_length_le (by omega), List.append_nil]; exact ho
end Go.Proofs.Ytbimfopbilcdgaa

set_option linter.unusedSimpArgs false
set_option linter.unusedVariables false
set_option maxRecDepth 8000
namespace Go.Proofs.Ytbimfopbilcdgaa
open Go.RowKit Go.Sort Sm

theorem putAll_all (z cs : Array Value) (h : cs.size = z.size) : putAll z 0 cs.toList = cs := by
  apply Array.ext_getElem?
  intro j
  rw [putAll_get _ _ _ _ (by simp [h])]
  by_cases hj : j < cs.size
  · rw [if_pos ⟨by omega, by simpa using hj⟩]; simp
  · rw [if_neg (fun h => hj (by simpa using h.2)), Array.getElem?_eq_none (by omega), Array.getElem?_eq_none (by omega)]
theorem run_bslice1 (w : World) (cs : Array Value) (hs : cs.size = 42) : (Instr.buildSlice 81 1 #[(0, .agg cs)]).run Try.prog w = .ok (.slice (some ⟨w.heap.size, 0, none⟩) 1 1) (w.alloc (.cells cs 91)) := by
  unfold Instr.buildSlice
  simp only [Sem.run_bind, run_underlying Try.underlying81, Result.andThen_ok, Try.sizeOf91]
  rw [if_neg (by decide), if_neg (by decide)]
  simp only [Sem.run_bind, Sem.run_pure, Result.andThen_ok, Try.zeroValue91]
  have hr : ∀ (e : Array Nat) (f : Nat → Value), e.size = 42 → Instr.fill (fun i => some (i * 42, 42)) (e.map f) [(0, .agg cs)] = some cs := fun e f he => by
    rw [fill_one _ _ 0 _ 0 42 _ rfl cs rfl hs (by simp [he, hs]), putAll_all _ _ (by simp [he, hs])]; rfl
  rw [hr _ _ (by simp)]
  rfl
theorem wpList_bslice1 {w : World} {ops : Array Oper} {rest : List Oper} {o : Oper} {a : Act} {Q : Exit → Act → World → Prop} (hgd : o.guard = none) (x : Operand) (ho : o.op = .buildSlice 81 1 #[(0, x)]) (cs : Array Value) (hs : cs.size = 42) (hx : a.eval x = .agg cs)
    (h : wpList Try.prog ops Q rest (a.put o.dst (.slice (some ⟨w.heap.size, 0, none⟩) 1 1)) (w.alloc (.cells cs 91))) : wpList Try.prog ops Q (o :: rest) a w := by
  refine wpList_plain hgd fun K hK => ?_
  unfold Oper.wp execOp
  simp only [ho, List.map_toArray, List.map_cons, List.map_nil, hx, Sem.run_bind, Sem.run_pure, Result.andThen_ok, run_bslice1 w cs hs]
  exact hK _ _ h
theorem zeroGr : ((Try.prog.info? 91).bind (·.zero)).map (·.cells.size) = some 42 := by kernel_rfl
theorem placesGr : ((Try.prog.fieldsOf 91).toList.mapM fun f => (Try.prog.info? f.type).map fun i => (f.offset, i.size)) = some [(0, 1), (1, 2), (3, 39)] := by kernel_rfl
theorem puts_grp (z : Array Value) (x : Grp) (hz : z.size = 42) : putAll (putAll (putAll z 0 [.string x.p.key]) 1 [.int .i64 x.p.s, .int .i64 x.p.e]) 3 (TL x.vs).toList = x.cells.toArray := by
  have hT : (TL x.vs).toList.length = 39 := by rw [Array.length_toList, T39_size]
  unfold Grp.cells
  obtain ⟨L, hL⟩ : ∃ L, L = (TL x.vs).toList := ⟨_, rfl⟩
  rw [← hL] at hT ⊢
  apply Array.ext_getElem?
  intro j
  rw [putAll_get _ _ _ _ (by rw [putAll_size, putAll_size]; omega), putAll_get _ _ _ _ (by rw [putAll_size, hz]; simp), putAll_get _ _ _ _ (by rw [hz]; simp)]
  have hR : (Value.string x.p.key :: Value.int .i64 x.p.s :: Value.int .i64 x.p.e :: L).toArray[j]? = (Value.string x.p.key :: Value.int .i64 x.p.s :: Value.int .i64 x.p.e :: L)[j]? := by simp
  rw [hR]
  clear hR
  rcases j with _ | _ | _ | j
  · simp
  · simp
  · simp
  · simp only [List.getElem?_cons_succ, List.length_cons, List.length_nil]
    by_cases hj : j < 39
    · rw [if_pos (by omega)]; congr 1
    · rw [if_neg (by omega), if_neg (by omega), if_neg (by omega), Array.getElem?_eq_none (by omega), List.getElem?_eq_none (by omega)]
theorem builtG (x : Grp) : Try.prog.built 91 [(0, .string x.p.key), (1, .agg #[.int .i64 x.p.s, .int .i64 x.p.e]), (2, .agg (TL x.vs))] = some x.cells.toArray := by
  have hz := zeroGr
  have hp := placesGr
  unfold Program.built
  cases hi1 : Try.prog.info? 91 with
  | none => rw [hi1] at hz; cases hz
  | some it =>
    rw [hi1] at hz
    cases hz1 : it.zero with
    | none => simp [hz1] at hz
    | some z =>
      have hzc : z.cells.size = 42 := by simpa [hz1] using hz
      rw [uGr]
      dsimp only
      rw [hz1, hp]
      dsimp only
      rw [fill_one _ _ 0 _ 0 1 _ rfl #[.string x.p.key] rfl rfl (by rw [hzc]; simp),
        fill_one _ _ 1 _ 1 2 _ rfl #[.int .i64 x.p.s, .int .i64 x.p.e] rfl rfl (by rw [putAll_size, hzc]; simp),
        fill_one _ _ 2 _ 3 39 _ rfl (TL x.vs) rfl (T39_size ..) (by rw [putAll_size, putAll_size, hzc, T39_size]; omega)]
      show some _ = some _
      congr 1
      exact puts_grp _ x hzc
theorem wpList_buildG {ops : Array Oper} {rest : List Oper} {o : Oper} {a : Act} {w : World} {Q : Exit → Act → World → Prop} (hgd : o.guard = none) (x0 x1 x2 : Operand) (ho : o.op = .build 91 #[(0, x0), (1, x1), (2, x2)])
    (x : Grp) (e0 : a.eval x0 = .string x.p.key) (e1 : a.eval x1 = .agg #[.int .i64 x.p.s, .int .i64 x.p.e]) (e2 : a.eval x2 = .agg (TL x.vs))
    (hh : wpList Try.prog ops Q rest (a.put o.dst (.agg x.cells.toArray)) w) : wpList Try.prog ops Q (o :: rest) a w := by
  have e : (#[(0, x0), (1, x1), (2, x2)] : Array (Nat × Operand)).map (fun (i, x) => (i, a.eval x)) = #[(0, .string x.p.key), (1, .agg #[.int .i64 x.p.s, .int .i64 x.p.e]), (2, .agg (TL x.vs))] := by simp [e0, e1, e2]
  refine wpList_build hgd _ _ ho ?_ ?_
  · rw [e]
    show (Try.prog.built 91 [(0, .string x.p.key), (1, .agg #[.int .i64 x.p.s, .int .i64 x.p.e]), (2, .agg (TL x.vs))]).isSome = true
    rw [builtG]; rfl
  · rw [e]
    show wpList _ _ _ _ (a.put o.dst (.agg ((Try.prog.built 91 [(0, .string x.p.key), (1, .agg #[.int .i64 x.p.s, .int .i64 x.p.e]), (2, .agg (TL x.vs))]).getD #[]))) w
    rw [builtG, Option.getD_some]
    exact hh
end Go.Proofs.Ytbimfopbilcdgaa

set_option linter.unusedSimpArgs false
set_option linter.unusedVariables false
set_option maxRecDepth 8000
namespace Go.Proofs.Ytbimfopbilcdgaa
open Go.RowKit Go.Sort Sm

theorem ggb_below {w w1 w2 : World} {r : Option Nat} (h : w.grownBy w1 r) (hb : Below w1.heap.size w1 w2) : w.grownBy w2 r :=
  ⟨hb.os.trans h.os, hb.tape.trans h.tape, hb.output.trans h.output, Nat.le_trans h.size hb.size, fun k hk hn => (hb.block k (Nat.lt_of_lt_of_le hk h.size)).trans (h.block k hk hn)⟩
theorem below_ggb {w w1 w2 : World} {r : Option Nat} (hb : Below w.heap.size w w1) (h : w1.grownBy w2 r) : w.grownBy w2 r :=
  ⟨h.os.trans hb.os, h.tape.trans hb.tape, h.output.trans hb.output, Nat.le_trans hb.size h.size, fun k hk hn => (h.block k (Nat.lt_of_lt_of_le hk hb.size) hn).trans (hb.block k hk)⟩
theorem ggb_trans {w w1 w2 : World} {r : Option Nat} (h : w.grownBy w1 r) (h' : w1.grownBy w2 r) : w.grownBy w2 r :=
  ⟨h'.os.trans h.os, h'.tape.trans h.tape, h'.output.trans h.output, Nat.le_trans h.size h'.size, fun k hk hn => (h'.block k (Nat.lt_of_lt_of_le hk h.size) hn).trans (h.block k hk hn)⟩
theorem zgrown {w w' : World} {f g o : Nat} {cs : List Value} (h : w.rangeAt g o cs) (hg : g < w.heap.size) (hn : g ≠ f) (hb : w.grownBy w' (some f)) : w'.rangeAt g o cs := fun j v hv => by
  have e : w'.heap[g]? = w.heap[g]? := hb.block g hg (fun e => by injection e with e; exact hn e)
  have h1 := h j v hv
  unfold World.cell? at h1 ⊢
  simp only at h1 ⊢
  rw [e]; exact h1
theorem zrowAt {w : World} {g i : Nat} {cur cs : List Value} {T : TypeId} {fr : Nat × Nat} (h : w.heap[g]? = some (.cells cur.toArray T fr)) (hx : ∀ j v, cs[j]? = some v → cur[i + j]? = some v) : w.rangeAt g i cs := fun j v hv => by
  rw [cell_of_row w g _ _ _ _ h]; simpa using hx j v hv
theorem iTL (l : List Nat) : (Try.prog.info? 89).map (·.size) = some (TL l).toList.length := by rw [Array.length_toList]; exact iT _ _ _ _ _
theorem infoTL (l : List Nat) : (Try.prog.info? 89).map (·.size) = some (TL l).toList.length := iTL l
theorem infoWnL {a b : Value} : (Try.prog.info? 84).map (·.size) = some [a, b].length := by kernel_rfl
theorem oneTL (l : List Nat) : ∀ v ∈ (TL l).toList, v.oneCell' = true := fun v hv => by
  have h := one39 l.length (wd (accN l)) (accH l) (accLo l) (accHi l)
  rw [Array.all_eq_true_iff_forall_mem] at h
  exact h v (by simpa using hv)
theorem wp_store_part {o : Oper} {a : Act} {w : World} {K : Act → World → Prop} {Q : Exit → Act → World → Prop} (ty T : TypeId) (x y : Operand) (ho : o.op = .store ty x y) (b of : Nat) (vs : List Value) (hx : a.eval x = .pointer (some ⟨b, of, none⟩)) (hy : a.eval y = .agg vs.toArray)
    (hi : (Try.prog.info? ty).map (·.size) = some vs.length) (cur : List Value) (hrow : w.heap[b]? = some (.cells cur.toArray T (0, 0))) (hfit : of + vs.length ≤ cur.length) (h1 : ∀ v ∈ vs, v.oneCell' = true)
    (h : K (a.put o.dst undef) (w.setRow b (cur.take of ++ vs ++ cur.drop (of + vs.length)).toArray)) : o.wp Try.prog a w K Q := by
  have hst := run_storeCells_at Try.prog b of T vs 0 cur.toArray w hrow (by simpa using hfit) h1
  simp only [Nat.add_zero] at hst
  obtain ⟨it, hit, hsz⟩ : ∃ it, Try.prog.info? ty = some it ∧ it.size = vs.length := by
    cases hq : Try.prog.info? ty with
    | none => rw [hq] at hi; cases hi
    | some it => rw [hq] at hi; exact ⟨it, rfl, by simpa using hi⟩
  have hv : (storeVar ty ⟨b, of, none⟩ (.agg vs.toArray)).run Try.prog w = .ok () (w.setRow b (cur.take of ++ vs ++ cur.drop (of + vs.length)).toArray) := by
    simp [storeVar, sizeOf, typeInfo, hit, hsz, Value.cells, hst]
  unfold Oper.wp execOp
  simp only [ho, hx, hy, Instr.storeAt, Instr.sureAddr, Sem.run_bind, Sem.run_pure, Result.andThen_ok, hv]
  exact h
/-- A row of groups, cut at one. -/
theorem grs_split {gs : List Grp} {i : Nat} {x : Grp} (h : gs[i]? = some x) : grs gs = grs (gs.take i) ++ (x.cells ++ grs (gs.drop (i + 1))) := by
  have hi := (List.getElem?_eq_some_iff.1 h).1
  have e : gs = gs.take i ++ x :: gs.drop (i + 1) := by
    have h2 : x = gs[i] := (List.getElem?_eq_some_iff.1 h).2.symm
    rw [h2, List.getElem_cons_drop, List.take_append_drop]
  have e2 := congrArg grs e
  rw [e2]
  unfold grs
  rw [List.flatMap_append, List.flatMap_cons]
theorem grs_cut (gs : List Grp) (i : Nat) (h : i ≤ gs.length) : grs (gs.take i) = (grs gs).take (i * 42) ∧ grs (gs.drop i) = (grs gs).drop (i * 42) := by
  have e : grs gs = grs (gs.take i) ++ grs (gs.drop i) := by unfold grs; rw [← List.flatMap_append, List.take_append_drop]
  have hl : (grs (gs.take i)).length = i * 42 := by rw [grs_length, List.length_take, Nat.min_eq_left h]
  rw [e]
  exact ⟨by rw [← hl, List.take_left], by rw [← hl, List.drop_left]⟩
theorem grs_ins (gs : List Grp) (i : Nat) (g : Grp) (h : i ≤ gs.length) : grs (gs.take i ++ g :: gs.drop i) = (grs gs).take (i * 42) ++ (g.cells ++ (grs gs).drop (i * 42)) := by
  rw [← (grs_cut gs i h).1, ← (grs_cut gs i h).2]
  unfold grs
  rw [List.flatMap_append, List.flatMap_cons]
theorem set_win {cur P S Q : List Value} {k a b a' b' : Value} {n : Nat} (hc : cur = P ++ (k :: a :: b :: S ++ Q)) (hn : P.length = n) : cur.take (n + 1) ++ [a', b'] ++ cur.drop (n + 1 + [a', b'].length) = P ++ (k :: a' :: b' :: S ++ Q) := by
  subst hc; subst hn
  rw [List.take_length_add_append, show P.length + 1 + [a', b'].length = P.length + 3 from rfl, List.drop_length_add_append]
  simp
theorem set_st {cur P S S' Q : List Value} {k a b : Value} {n : Nat} (hc : cur = P ++ (k :: a :: b :: S ++ Q)) (hn : P.length = n) (hs : S.length = S'.length) : cur.take (n + 3) ++ S' ++ cur.drop (n + 3 + S'.length) = P ++ (k :: a :: b :: S' ++ Q) := by
  subst hc; subst hn
  rw [List.take_length_add_append, Nat.add_assoc, List.drop_length_add_append, ← hs]
  simp
  rw [show 3 + S.length = S.length + 3 by omega]
  simp
/-- What a put ends with. -/
def PutEnds (W : World) (B : Nat) (A : Option Addr) (gs : List Grp) (e : Ending) (w' : World) : Prop := ∃ A' n' cap', e = .returned (.slice A' n' cap') ∧ n' = gs.length ∧ n' ≤ cap' ∧ cap' ≤ maxLen ∧ (A' = none → cap' = 0) ∧ OwnGr w' B A' n' cap' gs ∧ W.grownBy w' (A.map (·.block))
/-- Groups' values are numbers' bits, and few. -/
def GrOk (gs : List Grp) : Prop := ∀ x ∈ gs, (∀ v ∈ x.vs, v < 18446744073709551616) ∧ x.vs.length ≤ 1000000
set_option maxHeartbeats 4000000 in
theorem put13_no (ses : Bool) (B : Nat) (A : Option Addr) (n cap : Nat) (gs : List Grp) (kind : Nat) (hses : ses = decide (kind = 2)) (g : Grp) (h1000 : n ≤ 100000) (W : World) (HB : Hid (B ≤ W.heap.size)) (HO : Hid (OwnGr W B A n cap gs)) (hno : Hid (plcB ses gs g.p = false))
    (HPL : Hid (∀ w, Below W.heap.size W w → Calls Try.prog 107 #[.slice A n cap, .int .u8 (kind : Int), .agg g.cells.toArray] w fun e w' => e = .returned (.tuple #[.int .i64 (plcI ses gs g.p), .bool (plcB ses gs g.p)]) ∧ Below w.heap.size w w')) (HI : Hid (plcI ses gs g.p ≤ gs.length)) :
    Calls Try.prog 77 #[.slice A n cap, .int .u8 (kind : Int), .agg g.cells.toArray] W (PutEnds W B A (putL ses gs g)) := by
  rw [hno.out] at HPL
  have HPE : Hid (putL ses gs g = gs.take (plcI ses gs g.p) ++ g :: gs.drop (plcI ses gs g.p)) := Lib.hid (by unfold putL; rw [hno.out]; simp)
  generalize plcI ses gs g.p = i at *
  generalize putL ses gs g = ps at *
  have HB1 : Hid (Below W.heap.size W (W.alloc (.cells g.cells.toArray 91))) := Lib.hid ((Below.refl _ _).alloc (Nat.le_refl _) _)
  have HR1 : Hid ((W.alloc (.cells g.cells.toArray 91)).heap[W.heap.size]? = some (.cells g.cells.toArray 91 (0, 0))) := Lib.hid (heap_new W _)
  have HNG : Hid (n = gs.length) := Lib.hid HO.out.len
  go_enter Try.func77, Try.ntmps77
  go_upto_region 3 with (first
    | (refine wpList_load_row rfl 91 (.tmp 5) rfl W.heap.size rfl _ g.cells.toArray (0, 0) _ HR1.out uGr rfl (iGr g) ?_)
    | (go_at_call 107; (with_reducible refine (HPL.out _ HB1.out).mono ?_); rintro e w2 ⟨rfl, hb2⟩; have HB2 := Lib.hid (HB1.out.trans (hb2.mono HB1.out.size)); have HR2 := Lib.hid (row_keep HR1.out hb2); clear hb2))
  have HIN : Hid (Calls Try.prog 108 #[.slice A n cap, .int .i64 i, .slice (some ⟨w2.heap.size, 0, none⟩) 1 1] (w2.alloc (.cells g.cells.toArray 91)) fun e w' => ∃ F' cap', e = .returned (.slice F' (n + 1) cap') ∧ OwnGr w' B F' (n + 1) cap' ps ∧ w2.grownBy w' (A.map (·.block))) := Lib.hid (by
    have hB2 : Below W.heap.size W (w2.alloc (.cells g.cells.toArray 91)) := HB2.out.alloc (HB2.out.size) _
    have hown : GowX (w2.alloc (.cells g.cells.toArray 91)) B A n cap (grs gs) := HO.out.below hB2 (fun g' off e => (HO.out.lt g' off e).1)
    have hrow : (w2.alloc (.cells g.cells.toArray 91)).heap[w2.heap.size]? = some (.cells g.cells.toArray 91 (0, 0)) := heap_new w2 _
    have hBs : B ≤ (w2.alloc (.cells g.cells.toArray 91)).heap.size := Nat.le_trans HB.out hB2.size
    have hal : Below w2.heap.size w2 (w2.alloc (.cells g.cells.toArray 91)) := (Below.refl _ _).alloc (Nat.le_refl _) _
    rcases A with _ | ad
    · have hn0 : n = 0 := by rcases HO.out.2 with ⟨e0, e1⟩ | ⟨g', cap', cur, e0, -⟩ <;> cases e0; exact e1
      have hg0 : gs = [] := List.eq_nil_of_length_eq_zero (by have := HNG.out; omega)
      have hi0 : i = 0 := by have := HI.out; rw [hg0] at this; simpa using this
      subst hn0; subst hi0; subst hg0
      refine (ginsert_end B none 0 cap w2.heap.size (grs []) g.cells (gr_len g) (by omega) _ (Lib.hid hown) (Lib.hid hBs) (Lib.hid (gr_one g)) (Lib.hid fun j u hu => ?_)).mono ?_
      · rw [addr_add, Nat.zero_add, cell_of_row _ _ _ _ _ _ hrow]; simpa using hu
      · rintro e w' ⟨F', cap', rfl, ho, hg, -⟩
        refine ⟨F', cap', rfl, ?_, below_ggb hal hg⟩
        rw [HPE.out]
        unfold OwnGr
        rw [show grs (List.take 0 [] ++ g :: List.drop 0 []) = grs [] ++ g.cells by simp [grs]]
        exact ho
    · obtain ⟨q, hq⟩ : ∃ q, ad = ⟨q, 0, none⟩ := by
        rcases gr_roaddr HO.out with h | ⟨q, h⟩
        · cases h
        · injection h with h; exact ⟨q, h⟩
      subst hq
      obtain ⟨hlt, -, h0⟩ := HO.out.lt q 0 rfl
      refine (ginsert_any B q n cap i w2.heap.size (grs gs) g.cells (gr_len g) (by have := HI.out; have := HNG.out; omega) h1000 _ (Lib.hid hBs) (Lib.hid hown) (Lib.hid (grs_one gs)) (Lib.hid (gr_one g)) (Lib.hid hrow) (Lib.hid (by have := HB2.out.size; omega))).mono ?_
      rintro e w' ⟨F', cap', rfl, ho, hg, -⟩
      refine ⟨F', cap', rfl, ?_, below_ggb hal hg⟩
      rw [HPE.out]
      unfold OwnGr
      rw [grs_ins _ _ _ HI.out]
      exact ho)
  go_wp2_with (first
    | (refine wpList_load_row rfl 91 (.tmp 5) rfl W.heap.size rfl _ g.cells.toArray (0, 0) _ HR2.out uGr rfl (iGr g) ?_)
    | (refine wpList_bslice1 rfl (.tmp 20) rfl g.cells.toArray (by simp [gr_len]) rfl ?_)
    | (go_at_call 108; (with_reducible refine HIN.out.mono ?_); rintro e w3 ⟨F', cap', rfl, ho, hg⟩; have HO3 := Lib.hid ho; have HG3 := Lib.hid hg; clear ho hg))
  go_ret
  obtain ⟨A1, c1, e1, e2, e3, e4⟩ := gr_roslice HO3.out
  injection e1 with b1 b2 b3
  subst b1; subst b3
  exact ⟨F', n + 1, cap', rfl, HO3.out.len, e2, e3, e4, HO3.out, below_ggb HB2.out HG3.out⟩
end Go.Proofs.Ytbimfopbilcdgaa

set_option linter.unusedSimpArgs false
set_option linter.unusedVariables false
set_option maxRecDepth 8000
namespace Go.Proofs.Ytbimfopbilcdgaa
open Go.RowKit Go.Sort Sm

theorem cur_split {w : World} {B f n cap : Nat} {gs : List Grp} {cur : List Value} (H : GrwX w B f n cap (grs gs) cur) {i : Nat} {x : Grp} (hx : gs[i]? = some x) (hn : n = gs.length) :
    cur = (grs gs).take (i * 42) ++ (x.cells ++ cur.drop ((i + 1) * 42)) ∧ ((grs gs).take (i * 42)).length = i * 42 := by
  have hi := (List.getElem?_eq_some_iff.1 hx).1
  have hs := grs_split hx
  rw [(grs_cut gs i (by omega)).1, (grs_cut gs (i + 1) hi).2] at hs
  have hl : (grs gs).length = n * 42 := H.xlen
  have h1 : ((grs gs).take (i * 42)).length = i * 42 := by rw [List.length_take, hl]; omega
  refine ⟨?_, h1⟩
  have h2 : cur.take ((i + 1) * 42) = (grs gs).take ((i + 1) * 42) := by rw [← H.first, List.take_take, Nat.min_eq_left (by omega)]
  have h3 : (grs gs).take ((i + 1) * 42) = (grs gs).take (i * 42) ++ x.cells := by
    obtain ⟨P, hP⟩ : ∃ P, P = (grs gs).take (i * 42) := ⟨_, rfl⟩
    obtain ⟨Q, hQ⟩ : ∃ Q, Q = (grs gs).drop ((i + 1) * 42) := ⟨_, rfl⟩
    rw [← hP] at h1 ⊢
    rw [hs, ← hP, ← hQ, ← List.append_assoc]
    exact List.take_left' (by rw [List.length_append, gr_len, h1]; omega)
  rw [← List.append_assoc, ← h3, ← h2, List.take_append_drop]
theorem modify_split (gs : List Grp) (i : Nat) (f : Grp → Grp) (x : Grp) (h : gs[i]? = some x) : gs.modify i f = gs.take i ++ f x :: gs.drop (i + 1) := by
  induction gs generalizing i with
  | nil => simp at h
  | cons a t ih =>
    rcases i with _ | i
    · simp at h; subst h; simp
    · rw [List.modify_succ_cons, ih i (by simpa using h)]; simp
theorem grw_joined {w : World} {B f n cap : Nat} {gs : List Grp} {cur cur2 : List Value} {w' : World} (H : GrwX w B f n cap (grs gs) cur) {i : Nat} {x g : Grp} (hx : gs[i]? = some x) (hn : n = gs.length)
    (h2 : cur2 = (grs gs).take (i * 42) ++ (Value.string x.p.key :: .int .i64 (joinP x.p g.p).s :: .int .i64 (joinP x.p g.p).e :: (TL (x.vs ++ g.vs)).toList ++ cur.drop ((i + 1) * 42))) (hr : w'.heap[f]? = some (.cells cur2.toArray 91 (0, 0))) :
    OwnGr w' B (some ⟨f, 0, none⟩) n cap (gs.modify i (fun h => joinG h g)) := by
  have hi := (List.getElem?_eq_some_iff.1 hx).1
  have hsp := cur_split H hx hn
  have hy : (Value.string x.p.key :: .int .i64 (joinP x.p g.p).s :: .int .i64 (joinP x.p g.p).e :: (TL (x.vs ++ g.vs)).toList) = (joinG x g).cells := rfl
  rw [hy] at h2
  have hl2 : cur2.length = cap * 42 := by
    have e1 := congrArg List.length hsp.1
    rw [H.hlen] at e1
    rw [h2, e1, List.length_append, List.length_append, List.length_append, List.length_append, gr_len, gr_len]
  have hm : grs (gs.modify i (fun h => joinG h g)) = (grs gs).take (i * 42) ++ ((joinG x g).cells ++ (grs gs).drop ((i + 1) * 42)) := by
    rw [modify_split gs i _ x hx]
    unfold grs
    rw [List.flatMap_append, List.flatMap_cons]
    have h3 := (grs_cut gs i (by omega)).1
    have h4 := (grs_cut gs (i + 1) hi).2
    unfold grs at h3 h4
    rw [h3, h4]
  have hlm : (grs (gs.modify i (fun h => joinG h g))).length = n * 42 := by rw [grs_length, List.length_modify, ← hn]
  refine GrwX.own (cs := cur2) ⟨hr, hl2, H.hcap, ?_, H.base, hlm, H.le⟩
  have hd : (grs gs).drop ((i + 1) * 42) = (cur.drop ((i + 1) * 42)).take (n * 42 - (i + 1) * 42) := by rw [← H.first, List.drop_take]
  have hc : cur2 = grs (gs.modify i (fun h => joinG h g)) ++ (cur.drop ((i + 1) * 42)).drop (n * 42 - (i + 1) * 42) := by
    rw [h2, hm, hd, List.append_assoc, List.append_assoc, List.take_append_drop]
  rw [hc]
  exact List.take_left' hlm
set_option maxHeartbeats 4000000 in
theorem put13_yes (ses : Bool) (B f n cap : Nat) (gs : List Grp) (kind : Nat) (g x : Grp) (i : Nat) (h1000 : n ≤ 100000) (W : World) (HB : Hid (B ≤ W.heap.size)) (HO : Hid (OwnGr W B (some ⟨f, 0, none⟩) n cap gs)) (HX0 : Hid (gs[i]? = some x)) (hpl : putL ses gs g = gs.modify i (fun h => joinG h g))
    (HPL : Hid (∀ w, Below W.heap.size W w → Calls Try.prog 107 #[.slice (some ⟨f, 0, none⟩) n cap, .int .u8 (kind : Int), .agg g.cells.toArray] w fun e w' => e = .returned (.tuple #[.int .i64 i, .bool true]) ∧ Below w.heap.size w w'))
    (HJT : Hid (∀ w, Calls Try.prog 105 #[.agg (TL x.vs), .agg (TL g.vs)] w fun e w' => e = .returned (.agg (TL (x.vs ++ g.vs))) ∧ Below w.heap.size w w')) :
    Calls Try.prog 77 #[.slice (some ⟨f, 0, none⟩) n cap, .int .u8 (kind : Int), .agg g.cells.toArray] W (PutEnds W B (some ⟨f, 0, none⟩) (putL ses gs g)) := by
  rw [hpl]
  clear hpl
  obtain ⟨cur, hcur⟩ := GowX.row HO.out
  have HRX := Lib.hid hcur
  have HNG : Hid (n = gs.length) := Lib.hid HO.out.len
  have HSP := Lib.hid (cur_split hcur HX0.out HNG.out)
  have HCL : Hid (i * 42 + 42 ≤ cur.length) := Lib.hid (by
    have h1 := hcur.hlen; have h2 := hcur.le; have h3 := (List.getElem?_eq_some_iff.1 HX0.out).1; have h4 := HNG.out; omega)
  have hin : i < n := by have h3 := (List.getElem?_eq_some_iff.1 HX0.out).1; have h4 := HNG.out; omega
  have HX : Hid (∀ j v, x.cells[j]? = some v → cur[i * 42 + j]? = some v) := Lib.hid fun j v hv => by
    have h1 := HSP.out.1
    have hj := (List.getElem?_eq_some_iff.1 hv).1
    rw [h1, List.getElem?_append_right (by rw [HSP.out.2]; omega), HSP.out.2, Nat.add_sub_cancel_left, List.getElem?_append_left hj]; exact hv
  have hfl := (HO.out.lt f 0 rfl).1
  have HB1 : Hid (Below W.heap.size W (W.alloc (.cells g.cells.toArray 91))) := Lib.hid ((Below.refl _ _).alloc (Nat.le_refl _) _)
  have HR1 : Hid ((W.alloc (.cells g.cells.toArray 91)).heap[W.heap.size]? = some (.cells g.cells.toArray 91 (0, 0))) := Lib.hid (heap_new W _)
  have HNE : Hid (W.heap.size ≠ f) := Lib.hid (by omega)
  have HFL := Lib.hid hfl
  clear hcur hfl
  go_enter Try.func77, Try.ntmps77
  go_upto_region 4 with (first
    | (refine wpList_load_row rfl 91 (.tmp 5) rfl W.heap.size rfl _ g.cells.toArray (0, 0) _ HR1.out uGr rfl (iGr g) ?_)
    | (go_at_call 107; (with_reducible refine (HPL.out _ HB1.out).mono ?_); rintro e w2 ⟨rfl, hb2⟩; have HB2 := Lib.hid (HB1.out.trans (hb2.mono HB1.out.size)); have HR2 := Lib.hid (row_keep HR1.out hb2); clear hb2))
  have HRW : Hid (w2.heap[f]? = some (.cells cur.toArray 91 (0, 0))) := Lib.hid ((HB2.out.block f HFL.out).trans HRX.out.row)
  have HG : Hid (w2.rangeAt W.heap.size 0 (g3 g)) := Lib.hid (z3 (zrow HR2.out))
  have HGS : Hid (w2.rangeAt W.heap.size (0 + 3) (TL g.vs).toList) := Lib.hid (zst (zrow HR2.out))
  have HGL : Hid (W.heap.size < w2.heap.size) := Lib.hid (Array.getElem?_eq_some_iff.1 HR2.out).1
  obtain ⟨bg, hbg⟩ : ∃ bg, bg = W.heap.size := ⟨_, rfl⟩
  rw [← hbg] at HG HGS HGL HNE ⊢
  clear hbg
  refine wp_region_held_drew (S := fun w' => w2.grownBy w' (some f)) (by kernel_rfl) (ggb_drew (ggb_refl _ _)) (fun hHeld => ?_)
  have HR : w2.drew.heap[f]? = some (.cells cur.toArray 91 (0, 0)) := HRW.out
  refine wpAnyH_take (i := 0) (v := .slice (some ⟨f, 0, none⟩) n cap) rfl (by kernel_rfl) (by kernel_rfl) (by kernel_rfl) (fun _ _ _ h => h) (Or.inl ⟨by rfl, fun _ _ => rfl⟩) hHeld ?_
  try dsimp only
  try simp only [Act.put, List.getElem_toArray, List.getElem_cons_zero, List.getElem_cons_succ, List.setIfInBounds_toArray, List.set_cons_zero, List.set_cons_succ]
  refine wpAnyH_take (i := 1) (v := .int .i64 (i : Int)) rfl (by kernel_rfl) (by kernel_rfl) (by kernel_rfl) (fun _ _ _ h => h) (Or.inl ⟨by rfl, fun _ _ => rfl⟩) hHeld ?_
  try dsimp only
  try simp only [Act.put, List.getElem_toArray, List.getElem_cons_zero, List.getElem_cons_succ, List.setIfInBounds_toArray, List.set_cons_zero, List.set_cons_succ]
  refine wpAnyH_take (i := 2) (v := .slice (some ⟨f, 0, none⟩) n cap) rfl (by kernel_rfl) (by kernel_rfl) (by kernel_rfl) (fun _ _ _ h => h) (Or.inl ⟨by rfl, fun _ _ => rfl⟩) hHeld ?_
  try dsimp only
  try simp only [Act.put, List.getElem_toArray, List.getElem_cons_zero, List.getElem_cons_succ, List.setIfInBounds_toArray, List.set_cons_zero, List.set_cons_succ]
  refine wpAnyH_take (i := 3) (v := .int .i64 (i : Int)) rfl (by kernel_rfl) (by kernel_rfl) (by kernel_rfl) (fun _ _ _ h => h) (Or.inl ⟨by rfl, fun _ _ => rfl⟩) hHeld ?_
  try dsimp only
  try simp only [Act.put, List.getElem_toArray, List.getElem_cons_zero, List.getElem_cons_succ, List.setIfInBounds_toArray, List.set_cons_zero, List.set_cons_succ]
  refine wpAnyH_take (i := 4) (v := .pointer (some ⟨f, i * 42, none⟩)) rfl (by kernel_rfl) (by kernel_rfl) (by kernel_rfl) (fun _ _ _ h => h) (Or.inl ⟨by rfl, fun w _ => by go_simp⟩) hHeld ?_
  try dsimp only
  try simp only [Act.put, List.getElem_toArray, List.getElem_cons_zero, List.getElem_cons_succ, List.setIfInBounds_toArray, List.set_cons_zero, List.set_cons_succ]
  refine wpAnyH_take (i := 5) (v := .pointer (some ⟨f, i * 42 + 1, none⟩)) rfl (by kernel_rfl) (by kernel_rfl) (by kernel_rfl) (fun _ _ _ h => h) (Or.inl ⟨by rfl, fun w _ => by go_simp⟩) hHeld ?_
  try dsimp only
  try simp only [Act.put, List.getElem_toArray, List.getElem_cons_zero, List.getElem_cons_succ, List.setIfInBounds_toArray, List.set_cons_zero, List.set_cons_succ]
  refine wpAnyH_take (i := 7) (v := .pointer (some ⟨bg, 1, none⟩)) rfl (by kernel_rfl) (by kernel_rfl) (by kernel_rfl) (fun _ _ _ h => h) (Or.inl ⟨by rfl, fun w _ => by go_simp⟩) hHeld ?_
  try dsimp only
  try simp only [Act.put, List.getElem_toArray, List.getElem_cons_zero, List.getElem_cons_succ, List.setIfInBounds_toArray, List.set_cons_zero, List.set_cons_succ]
  refine wpAnyH_take (i := 8) (v := .agg [.int .i64 g.p.s, .int .i64 g.p.e].toArray) rfl (by kernel_rfl) (by kernel_rfl) (by kernel_rfl) (fun _ _ _ h => h) (yieldsIf_load_mid rfl 84 (.tmp 30) rfl bg (1) rfl [.int .i64 g.p.s, .int .i64 g.p.e] _ (fun w hw => rsub (cs := [.string g.p.key, .int .i64 g.p.s, .int .i64 g.p.e]) (zgrown HG.out (HGL.out) HNE.out hw) 1 2 _ rfl _ (by simp)) uWn rfl (by kernel_rfl)) hHeld ?_
  try dsimp only
  try simp only [Act.put, List.getElem_toArray, List.getElem_cons_zero, List.getElem_cons_succ, List.setIfInBounds_toArray, List.set_cons_zero, List.set_cons_succ]
  refine wpAnyH_ready (rs := [6]) (by kernel_rfl) (by simp) (AllReadyH.cons rfl (fun K hK => ?_) AllReadyH.nil)
  rw [if_pos (by rfl)]
  refine wp_load_mid 84 (.tmp 28) rfl f (i * 42 + 1) rfl [.int .i64 x.p.s, .int .i64 x.p.e] _ (zrsub (zrowAt HR HX.out) 1 2 _ (by unfold Grp.cells; rfl) _ rfl) uWn rfl (by kernel_rfl) ?_
  refine hK.out _ _ hHeld (fun hHeld => ?_)
  clear hK K
  try dsimp only
  try simp only [Act.put, List.getElem_toArray, List.getElem_cons_zero, List.getElem_cons_succ, List.setIfInBounds_toArray, List.set_cons_zero, List.set_cons_succ]
  refine wpAnyH_ready (rs := [9]) (by kernel_rfl) (by simp) (AllReadyH.cons rfl (fun K hK => ?_) AllReadyH.nil)
  go_simp
  refine (joinW_any x.p g.p _).mono ?_
  rintro e w9 ⟨rfl, hb9⟩
  replace hHeld := ggb_below hHeld hb9
  replace HR := row_keep HR hb9
  clear hb9
  refine hK.out _ _ hHeld (fun hHeld => ?_)
  clear hK K
  try dsimp only
  try simp only [Act.put, List.getElem_toArray, List.getElem_cons_zero, List.getElem_cons_succ, List.setIfInBounds_toArray, List.set_cons_zero, List.set_cons_succ]
  refine wpAnyH_take (i := 10) (v := .pointer (some ⟨f, i * 42, none⟩)) rfl (by kernel_rfl) (by kernel_rfl) (by kernel_rfl) (fun _ _ _ h => h) (Or.inl ⟨by rfl, fun w _ => by go_simp⟩) hHeld ?_
  try dsimp only
  try simp only [Act.put, List.getElem_toArray, List.getElem_cons_zero, List.getElem_cons_succ, List.setIfInBounds_toArray, List.set_cons_zero, List.set_cons_succ]
  refine wpAnyH_take (i := 11) (v := .pointer (some ⟨f, i * 42 + 1, none⟩)) rfl (by kernel_rfl) (by kernel_rfl) (by kernel_rfl) (fun _ _ _ h => h) (Or.inl ⟨by rfl, fun w _ => by go_simp⟩) hHeld ?_
  try dsimp only
  try simp only [Act.put, List.getElem_toArray, List.getElem_cons_zero, List.getElem_cons_succ, List.setIfInBounds_toArray, List.set_cons_zero, List.set_cons_succ]
  refine wpAnyH_ready (rs := [12]) (by kernel_rfl) (by simp) (AllReadyH.cons rfl (fun K hK => ?_) AllReadyH.nil)
  rw [if_pos (by rfl)]
  refine wp_store_part 84 91 (.tmp 34) (.tmp 32) rfl f (i * 42 + 1) [.int .i64 (joinP x.p g.p).s, .int .i64 (joinP x.p g.p).e] rfl rfl infoWnL cur HR (by have := HCL.out; simp; omega) (fun v hv => by simp at hv; rcases hv with rfl | rfl <;> rfl) ?_
  refine hK.out _ _ (ggb_setRow hHeld) (fun hHeld => ?_)
  clear hK K
  refine wpAnyH_done (by kernel_rfl) ?_ _
  have HRN := Lib.hid (setRow_heap _ _ _ (cur.take (i * 42 + 1) ++ [Value.int .i64 (joinP x.p g.p).s, .int .i64 (joinP x.p g.p).e] ++ cur.drop (i * 42 + 1 + [Value.int .i64 (joinP x.p g.p).s, .int .i64 (joinP x.p g.p).e].length)).toArray _ _ HR)
  clear HR
  have HGB := Lib.hid hHeld
  clear hHeld
  go_upto_region 5 with fail
  obtain ⟨w3, hw3⟩ : ∃ w3, w3 = w9.setRow f (cur.take (i * 42 + 1) ++ [Value.int .i64 (joinP x.p g.p).s, .int .i64 (joinP x.p g.p).e] ++ cur.drop (i * 42 + 1 + [Value.int .i64 (joinP x.p g.p).s, .int .i64 (joinP x.p g.p).e].length)).toArray := ⟨_, rfl⟩
  rw [← hw3] at HRN HGB ⊢
  clear hw3
  obtain ⟨cur1, hc1⟩ : ∃ cur1, cur1 = (cur.take (i * 42 + 1) ++ [Value.int .i64 (joinP x.p g.p).s, .int .i64 (joinP x.p g.p).e] ++ cur.drop (i * 42 + 1 + [Value.int .i64 (joinP x.p g.p).s, .int .i64 (joinP x.p g.p).e].length)) := ⟨_, rfl⟩
  rw [← hc1] at HRN
  obtain ⟨x1, hx1⟩ : ∃ x1 : Grp, x1 = ⟨joinP x.p g.p, x.vs⟩ := ⟨_, rfl⟩
  have HV1 : Hid (x1.vs = x.vs) := Lib.hid (by rw [hx1])
  have HC1 : Hid (cur1 = (grs gs).take (i * 42) ++ (x1.cells ++ cur.drop ((i + 1) * 42))) := Lib.hid (by
    rw [hc1, hx1]; exact set_win HSP.out.1 HSP.out.2)
  have HL1 : Hid (cur1.length = cur.length) := Lib.hid (by
    have e1 := congrArg List.length HSP.out.1
    rw [HC1.out, e1, List.length_append, List.length_append, List.length_append, List.length_append, gr_len, gr_len])
  have HX1 : Hid (∀ j v, x1.cells[j]? = some v → cur1[i * 42 + j]? = some v) := Lib.hid fun j v hv => by
    have hj := (List.getElem?_eq_some_iff.1 hv).1
    rw [HC1.out, List.getElem?_append_right (by rw [HSP.out.2]; omega), HSP.out.2, Nat.add_sub_cancel_left, List.getElem?_append_left hj]; exact hv
  have HC2 : Hid (cur1.take (i * 42 + 3) ++ (TL (x.vs ++ g.vs)).toList ++ cur1.drop (i * 42 + 3 + (TL (x.vs ++ g.vs)).toList.length) = (grs gs).take (i * 42) ++ (Value.string x.p.key :: .int .i64 (joinP x.p g.p).s :: .int .i64 (joinP x.p g.p).e :: (TL (x.vs ++ g.vs)).toList ++ cur.drop ((i + 1) * 42))) := Lib.hid (by
    have h9 := HC1.out
    rw [hx1] at h9
    exact set_st h9 HSP.out.2 (by rw [Array.length_toList, Array.length_toList, T39_size, T39_size]))
  clear hc1 hx1
  have HRW := HRN
  clear HRN
  refine wp_region_held_drew (S := fun w' => w2.grownBy w' (some f)) (by kernel_rfl) (ggb_drew HGB.out) (fun hHeld => ?_)
  have HR : w3.drew.heap[f]? = some (.cells cur1.toArray 91 (0, 0)) := HRW.out
  refine wpAnyH_take (i := 0) (v := .slice (some ⟨f, 0, none⟩) n cap) rfl (by kernel_rfl) (by kernel_rfl) (by kernel_rfl) (fun _ _ _ h => h) (Or.inl ⟨by rfl, fun _ _ => rfl⟩) hHeld ?_
  try dsimp only
  try simp only [Act.put, List.getElem_toArray, List.getElem_cons_zero, List.getElem_cons_succ, List.setIfInBounds_toArray, List.set_cons_zero, List.set_cons_succ]
  refine wpAnyH_take (i := 1) (v := .int .i64 (i : Int)) rfl (by kernel_rfl) (by kernel_rfl) (by kernel_rfl) (fun _ _ _ h => h) (Or.inl ⟨by rfl, fun _ _ => rfl⟩) hHeld ?_
  try dsimp only
  try simp only [Act.put, List.getElem_toArray, List.getElem_cons_zero, List.getElem_cons_succ, List.setIfInBounds_toArray, List.set_cons_zero, List.set_cons_succ]
  refine wpAnyH_take (i := 2) (v := .slice (some ⟨f, 0, none⟩) n cap) rfl (by kernel_rfl) (by kernel_rfl) (by kernel_rfl) (fun _ _ _ h => h) (Or.inl ⟨by rfl, fun _ _ => rfl⟩) hHeld ?_
  try dsimp only
  try simp only [Act.put, List.getElem_toArray, List.getElem_cons_zero, List.getElem_cons_succ, List.setIfInBounds_toArray, List.set_cons_zero, List.set_cons_succ]
  refine wpAnyH_take (i := 3) (v := .int .i64 (i : Int)) rfl (by kernel_rfl) (by kernel_rfl) (by kernel_rfl) (fun _ _ _ h => h) (Or.inl ⟨by rfl, fun _ _ => rfl⟩) hHeld ?_
  try dsimp only
  try simp only [Act.put, List.getElem_toArray, List.getElem_cons_zero, List.getElem_cons_succ, List.setIfInBounds_toArray, List.set_cons_zero, List.set_cons_succ]
  refine wpAnyH_take (i := 4) (v := .pointer (some ⟨f, i * 42, none⟩)) rfl (by kernel_rfl) (by kernel_rfl) (by kernel_rfl) (fun _ _ _ h => h) (Or.inl ⟨by rfl, fun w _ => by go_simp⟩) hHeld ?_
  try dsimp only
  try simp only [Act.put, List.getElem_toArray, List.getElem_cons_zero, List.getElem_cons_succ, List.setIfInBounds_toArray, List.set_cons_zero, List.set_cons_succ]
  refine wpAnyH_take (i := 5) (v := .pointer (some ⟨f, i * 42 + 3, none⟩)) rfl (by kernel_rfl) (by kernel_rfl) (by kernel_rfl) (fun _ _ _ h => h) (Or.inl ⟨by rfl, fun w _ => by go_simp⟩) hHeld ?_
  try dsimp only
  try simp only [Act.put, List.getElem_toArray, List.getElem_cons_zero, List.getElem_cons_succ, List.setIfInBounds_toArray, List.set_cons_zero, List.set_cons_succ]
  refine wpAnyH_take (i := 7) (v := .pointer (some ⟨bg, 3, none⟩)) rfl (by kernel_rfl) (by kernel_rfl) (by kernel_rfl) (fun _ _ _ h => h) (Or.inl ⟨by rfl, fun w _ => by go_simp⟩) hHeld ?_
  try dsimp only
  try simp only [Act.put, List.getElem_toArray, List.getElem_cons_zero, List.getElem_cons_succ, List.setIfInBounds_toArray, List.set_cons_zero, List.set_cons_succ]
  refine wpAnyH_take (i := 8) (v := .agg (TL g.vs)) rfl (by kernel_rfl) (by kernel_rfl) (by kernel_rfl) (fun _ _ _ h => h) (yieldsIf_load_mid rfl 89 (.tmp 42) rfl bg (0 + 3) rfl (TL g.vs).toList _ (fun w hw => zgrown HGS.out HGL.out HNE.out hw) uT rfl (iTL _)) hHeld ?_
  try dsimp only
  try simp only [Act.put, List.getElem_toArray, List.getElem_cons_zero, List.getElem_cons_succ, List.setIfInBounds_toArray, List.set_cons_zero, List.set_cons_succ]
  refine wpAnyH_ready (rs := [6]) (by kernel_rfl) (by simp) (AllReadyH.cons rfl (fun K hK => ?_) AllReadyH.nil)
  rw [if_pos (by rfl)]
  refine wp_load_mid 89 (.tmp 40) rfl f (i * 42 + 3) rfl (TL x.vs).toList _ (by have h9 := zst (x := x1) (zrowAt HR HX1.out); rw [HV1.out] at h9; exact h9) uT rfl (iTL _) ?_
  refine hK.out _ _ hHeld (fun hHeld => ?_)
  clear hK K
  try dsimp only
  try simp only [Act.put, List.getElem_toArray, List.getElem_cons_zero, List.getElem_cons_succ, List.setIfInBounds_toArray, List.set_cons_zero, List.set_cons_succ]
  refine wpAnyH_ready (rs := [9]) (by kernel_rfl) (by simp) (AllReadyH.cons rfl (fun K hK => ?_) AllReadyH.nil)
  go_simp
  refine (HJT.out _).mono ?_
  rintro e w9 ⟨rfl, hb9⟩
  replace hHeld := ggb_below hHeld hb9
  replace HR := row_keep HR hb9
  clear hb9
  refine hK.out _ _ hHeld (fun hHeld => ?_)
  clear hK K
  try dsimp only
  try simp only [Act.put, List.getElem_toArray, List.getElem_cons_zero, List.getElem_cons_succ, List.setIfInBounds_toArray, List.set_cons_zero, List.set_cons_succ]
  refine wpAnyH_take (i := 10) (v := .pointer (some ⟨f, i * 42, none⟩)) rfl (by kernel_rfl) (by kernel_rfl) (by kernel_rfl) (fun _ _ _ h => h) (Or.inl ⟨by rfl, fun w _ => by go_simp⟩) hHeld ?_
  try dsimp only
  try simp only [Act.put, List.getElem_toArray, List.getElem_cons_zero, List.getElem_cons_succ, List.setIfInBounds_toArray, List.set_cons_zero, List.set_cons_succ]
  refine wpAnyH_take (i := 11) (v := .pointer (some ⟨f, i * 42 + 3, none⟩)) rfl (by kernel_rfl) (by kernel_rfl) (by kernel_rfl) (fun _ _ _ h => h) (Or.inl ⟨by rfl, fun w _ => by go_simp⟩) hHeld ?_
  try dsimp only
  try simp only [Act.put, List.getElem_toArray, List.getElem_cons_zero, List.getElem_cons_succ, List.setIfInBounds_toArray, List.set_cons_zero, List.set_cons_succ]
  refine wpAnyH_ready (rs := [12]) (by kernel_rfl) (by simp) (AllReadyH.cons rfl (fun K hK => ?_) AllReadyH.nil)
  rw [if_pos (by rfl)]
  refine wp_store_part 89 91 (.tmp 46) (.tmp 44) rfl f (i * 42 + 3) (TL (x.vs ++ g.vs)).toList rfl rfl (infoTL _) cur1 HR (by have := HCL.out; have := HL1.out; rw [Array.length_toList, T39_size]; omega) (oneTL _) ?_
  refine hK.out _ _ (ggb_setRow hHeld) (fun hHeld => ?_)
  clear hK K
  refine wpAnyH_done (by kernel_rfl) ?_ _
  have HRN := Lib.hid (setRow_heap _ _ _ (cur1.take (i * 42 + 3) ++ (TL (x.vs ++ g.vs)).toList ++ cur1.drop (i * 42 + 3 + (TL (x.vs ++ g.vs)).toList.length)).toArray _ _ HR)
  clear HR
  have HGB := Lib.hid hHeld
  clear hHeld
  obtain ⟨w4, hw4⟩ : ∃ w4, w4 = w9.setRow f (cur1.take (i * 42 + 3) ++ (TL (x.vs ++ g.vs)).toList ++ cur1.drop (i * 42 + 3 + (TL (x.vs ++ g.vs)).toList.length)).toArray := ⟨_, rfl⟩
  rw [← hw4] at HRN HGB ⊢
  clear hw4
  go_wp2
  go_ret
  refine ⟨some ⟨f, 0, none⟩, n, cap, rfl, ?_, HRX.out.le, HRX.out.hcap, (fun h => by cases h), grw_joined HRX.out HX0.out HNG.out HC2.out HRN.out, below_ggb HB2.out HGB.out⟩
  rw [List.length_modify]; exact HNG.out
theorem fdB_some {p : ZP} {gs : List Grp} (h : fdB p gs = true) : ∃ x, gs[fdI p gs]? = some x := by
  unfold fdB at h
  rcases hx : gs[fdI p gs]? with _ | x
  · rw [hx] at h; cases h
  · exact ⟨x, rfl⟩
theorem plcB_some {ses : Bool} {gs : List Grp} {p : ZP} (h : plcB ses gs p = true) : ∃ x, gs[plcI ses gs p]? = some x := by
  unfold plcB plcI at *
  rcases hl : lastB ses gs p with _ | _
  · rw [hl] at h
    exact fdB_some h
  · rcases snoc_cases gs with rfl | ⟨r, y, rfl⟩
    · cases hl
    · exact ⟨y, by simp⟩
theorem plcI_le (ses : Bool) (gs : List Grp) (p : ZP) : plcI ses gs p ≤ gs.length := by
  unfold plcI; split
  · omega
  · exact fd_le _ _
theorem put13_any (kind B : Nat) (A : Option Addr) (n cap : Nat) (gs : List Grp) (g : Grp) (h1000 : n ≤ 1000) (hs : Srt gs) (hok : GrOk gs) (hg : (∀ v ∈ g.vs, v < 18446744073709551616) ∧ g.vs.length ≤ 1000000) (W : World) (hB : B ≤ W.heap.size) (HO : OwnGr W B A n cap gs) :
    Calls Try.prog 77 #[.slice A n cap, .int .u8 (kind : Int), .agg g.cells.toArray] W (PutEnds W B A (putL (decide (kind = 2)) gs g)) := by
  have HPL : ∀ w, Below W.heap.size W w → Calls Try.prog 107 #[.slice A n cap, .int .u8 (kind : Int), .agg g.cells.toArray] w fun e w' => e = .returned (.tuple #[.int .i64 (plcI (decide (kind = 2)) gs g.p), .bool (plcB (decide (kind = 2)) gs g.p)]) ∧ Below w.heap.size w w' := fun w hb => by
    have ho : OwnGr w B A n cap gs := HO.below hb (fun g' off e => (HO.lt g' off e).1)
    exact place13_any A n cap gs kind g h1000 hs w (Lib.hid ho.gsAt)
  rcases hb : plcB (decide (kind = 2)) gs g.p with _ | _
  · exact put13_no _ B A n cap gs kind rfl g (by omega) W (Lib.hid hB) (Lib.hid HO) (Lib.hid hb) (Lib.hid HPL) (Lib.hid (plcI_le _ _ _))
  · obtain ⟨x, hx⟩ := plcB_some hb
    have hA : ∃ f, A = some ⟨f, 0, none⟩ := by
      rcases gr_roaddr HO with h | h
      · obtain ⟨ga, e, -⟩ := HO.gsAt.hx _ _ hx
        exact ⟨ga, e⟩
      · exact h
    obtain ⟨f, rfl⟩ := hA
    have hxm : x ∈ gs := List.mem_of_getElem? hx
    refine put13_yes _ B f n cap gs kind g x (plcI (decide (kind = 2)) gs g.p) (by omega) W (Lib.hid hB) (Lib.hid HO) (Lib.hid hx) (by unfold putL; rw [if_pos hb]) (Lib.hid ?_) (Lib.hid fun w => joinTL x.vs g.vs (hok x hxm).1 hg.1 (by have := (hok x hxm).2; have := hg.2; omega) w)
    intro w hw
    have h := HPL w hw
    rw [hb] at h
    exact h
end Go.Proofs.Ytbimfopbilcdgaa
