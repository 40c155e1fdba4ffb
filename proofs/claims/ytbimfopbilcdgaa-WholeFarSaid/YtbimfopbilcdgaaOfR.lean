/-
  Lists of floats that a call owns: made by mkof.py out of lib/XBy.
-/
import Derived.Test.YtbimfopbilcdgaaZyQ
import Derived.Test.YtbimfopbilcdgaaLezR
set_option linter.unusedSimpArgs false
set_option linter.unusedVariables false
set_option maxRecDepth 8000
namespace Go.Proofs.Ytbimfopbilcdgaa
open Go.RowKit Go.WideShapes Sm

theorem FlAt.lt {w : World} {a : Option Addr} {l : List Nat} (h : FlAt w a l) : ∀ x ∈ l, x < 18446744073709551616 := fun x hx => by
  obtain ⟨k, hk⟩ := List.getElem?_of_mem hx
  exact (h k x hk).1
theorem FlAt.nil (w : World) (a : Option Addr) : FlAt w a [] := fun k x hx => by simp at hx
def fv (x : Nat) : Value := .float .f64 x
def fls (l : List Nat) : List Value := l.map fv
theorem fls_length (l : List Nat) : (fls l).length = l.length := List.length_map ..
/-- A block of bytes that is known whole. -/
theorem FlAt.of_row {w : World} {g : Nat} {cs : Array Value} {t : TypeId} {fr : Nat × Nat} (l : List Nat) (hl : ∀ x ∈ l, x < 18446744073709551616) (hrow : w.heap[g]? = some (.cells cs t fr)) (hcs : (fls l).IsPrefix cs.toList) : FlAt w (some ⟨g, 0, none⟩) l := fun k x hx => by
  refine ⟨hl x (List.mem_of_getElem? hx), g, 0, rfl, (Array.getElem?_eq_some_iff.1 hrow).1, ?_⟩
  rw [cell_of_row w g (0 + k) cs t fr hrow, Nat.zero_add, ← Array.getElem?_toList]
  obtain ⟨r, hr⟩ := hcs
  have hk : k < (fls l).length := by rw [fls_length]; exact (List.getElem?_eq_some_iff.1 hx).1
  rw [← hr, List.getElem?_append_left hk]
  unfold fls; rw [List.getElem?_map, hx]; rfl
/-- A slice of bytes that the call owns: its block lies from B on. -/
def OwnF (w : World) (B : Nat) (A : Option Addr) (n cap : Nat) (l : List Nat) : Prop := w.ownsRow B 74 1 (.slice A n cap) n (fls l) ∧ ∀ x ∈ l, x < 18446744073709551616
theorem OwnF.len {w : World} {B n cap : Nat} {A : Option Addr} {l : List Nat} (h : OwnF w B A n cap l) : n = l.length := by have := h.1.1; rw [fls_length] at this; omega
theorem OwnF.caps {w : World} {B n cap : Nat} {A : Option Addr} {l : List Nat} (h : OwnF w B A n cap l) : n ≤ cap ∧ cap ≤ maxLen := by
  rcases h.1.2 with ⟨h1, h2⟩ | ⟨g, cap', cur, h1, -, -, h2, h3, -⟩
  · cases h1; exact ⟨Nat.le_refl _, Nat.zero_le _⟩
  · cases h1; exact ⟨h2, h3⟩
theorem OwnF.flAt {w : World} {B n cap : Nat} {A : Option Addr} {l : List Nat} (h : OwnF w B A n cap l) : FlAt w A l := by
  rcases h.1.2 with ⟨h1, h2⟩ | ⟨g, cap', cur, h1, hb, hrow, -, -, hs, ht⟩
  · have := h.len
    have hl : l = [] := List.eq_nil_of_length_eq_zero (by omega)
    subst hl; exact FlAt.nil _ _
  · cases h1
    exact FlAt.of_row l h.2 hrow ⟨cur.toList.drop (n * 1), by rw [← ht, List.take_append_drop]⟩
theorem OwnF.nil (w : World) (B : Nat) : OwnF w B none 0 0 [] := ⟨w.ownsRow_nil B _ 1, fun x hx => by cases hx⟩
theorem OwnF.keep {w w' : World} {B n cap : Nat} {A : Option Addr} {l : List Nat} (h : OwnF w B A n cap l) (hb : Below w.heap.size w w') : OwnF w' B A n cap l :=
  ⟨h.1.kept (row := none) ⟨hb.os, hb.tape, hb.output, hb.size, fun k hk _ => hb.block k hk⟩ (by rcases A with _ | a <;> simp [Value.ownBlock]), h.2⟩
theorem infoF64 : (Try.prog.info? 74).map (fun i => (i.zero, i.size, i.bytes)) = some (some (.float .f64 0), 1, 8) := by kernel_rfl
theorem fls_one (l : List Nat) : ∀ u ∈ fls l, u.oneCell' = true := fun u hu => by
  obtain ⟨x, -, rfl⟩ := List.mem_map.1 hu; rfl
theorem fls_append (l m : List Nat) : fls (l ++ m) = fls l ++ fls m := List.map_append ..
theorem fls_at {w : World} {a : Addr} {l : List Nat} (h : FlAt w (some a) l) (j : Nat) (u : Value) (hu : (fls l)[j]? = some u) : w.cell? (a.add j) = some u := by
  unfold fls at hu
  rw [List.getElem?_map] at hu
  rcases hx : l[j]? with _ | x
  · rw [hx] at hu; cases hu
  · rw [hx] at hu
    obtain ⟨-, g, off, e, -, hc⟩ := h j x hx
    cases e
    rw [addr_add, hc]; exact hu
/-- append of bytes, the source nil, empty or not. -/
theorem run_append_fl (w : World) (B : Nat) (A : Option Addr) (n cap : Nat) (l : List Nat) (hown : OwnF w B A n cap l) (a : Option Addr) (m c : Nat) (l2 : List Nat) (hm : m = l2.length) (h2 : FlAt w a l2)
    (hbytes : n + m ≤ 17592186044416) (hbase : B ≤ w.heap.size) (ty : TypeId) :
    ∃ A' cap' w', (Builtin.append_ #[132, 132] ty #[.slice A n cap, .slice a m c]).run Try.prog w = .ok (.slice A' (n + m) cap') w' ∧ OwnF w' B A' (n + m) cap' (l ++ l2) ∧ w.grownBy w' (A.map (·.block)) ∧
      (A'.map (·.block) = A.map (·.block) ∨ A'.map (·.block) = some w.heap.size) := by
  obtain ⟨i0, hi, hz0, hz1, hz2⟩ := info_parts infoF64
  have hlt : ∀ x ∈ l ++ l2, x < 18446744073709551616 := fun x hx => by
    rcases List.mem_append.1 hx with h | h
    · exact hown.2 x h
    · exact h2.lt x h
  rcases a with _ | ad
  · have hl2 : l2 = [] := by
      rcases l2 with _ | ⟨x, r⟩
      · rfl
      · obtain ⟨-, g, off, e, -⟩ := h2 0 x rfl; cases e
    subst hl2
    have h0 : m = 0 := hm
    subst h0
    refine ⟨A, cap, w, ?_, by rw [Nat.add_zero, List.append_nil]; exact hown, World.grownBy.refl w _, .inl rfl⟩
    rcases hown.1.2 with ⟨h1, h3⟩ | ⟨g, cap', cur, h1, _, _, hnc, _⟩
    · cases h1
      simp [Builtin.append_, run_underlying Try.underlying132, Go.sizeOf, typeInfo, hi, Builtin.lenOf, Builtin.firstCells]
    · cases h1
      simp [Builtin.append_, run_underlying Try.underlying132, Go.sizeOf, typeInfo, hi, Builtin.lenOf, Builtin.firstCells, hnc, storeCells]
  · obtain ⟨v', w', hr, h3, h4, h5, h6⟩ := run_append_own_at (P := Try.prog) w B 132 ty 74 i0 (.float .f64 0) 1 8 Try.underlying132 hi hz0 hz1 hz2 rfl (by decide) _ n (fls l) hown.1 ad m c (fls l2) (by rw [fls_length, hm, Nat.mul_one]) (fls_at h2) (fls_one l2) (by unfold maxLen; omega) (by omega) hbase
    rw [← fls_append] at h3
    rcases h3.2 with ⟨rfl, h0⟩ | ⟨g, cap', cur, rfl, hb, hrest⟩
    · have hn0 : n = 0 := by omega
      have hm0 : m = 0 := by omega
      subst hn0; subst hm0
      exact ⟨none, 0, w', hr, ⟨h3, hlt⟩, by rcases A with _ | _ <;> exact h4, by
        rcases A with _ | _
        · exact .inl rfl
        · exact h6⟩
    · exact ⟨_, _, w', hr, ⟨h3, hlt⟩, by rcases A with _ | _ <;> exact h4, by
        rcases A with _ | _ <;> exact h6⟩
theorem wpList_append_fl {w : World} {ops : Array Oper} {rest : List Oper} {o : Oper} {a : Act} {Q : Exit → Act → World → Prop} (hgd : o.guard = none) (s x : Operand)
    (ho : o.op = .call { callee := .builtin .append, args := #[s, x], argTypes := #[132, 132] })
    (B : Nat) (A : Option Addr) (n cap : Nat) (l : List Nat) (hs : a.eval s = .slice A n cap) (hown : OwnF w B A n cap l) (b : Option Addr) (m c : Nat) (l2 : List Nat) (hx : a.eval x = .slice b m c) (hm : m = l2.length) (h2 : FlAt w b l2)
    (hbytes : n + m ≤ 17592186044416) (hbase : B ≤ w.heap.size)
    (h : ∀ A' cap' w', OwnF w' B A' (n + m) cap' (l ++ l2) → w.grownBy w' (A.map (·.block)) → (A'.map (·.block) = A.map (·.block) ∨ A'.map (·.block) = some w.heap.size) → wpList Try.prog ops Q rest (a.put o.dst (.slice A' (n + m) cap')) w') : wpList Try.prog ops Q (o :: rest) a w := by
  refine wpList_plain hgd fun K hK => ?_
  obtain ⟨A', cap', w', hr, h3, h4, h5⟩ := run_append_fl w B A n cap l hown b m c l2 hm h2 hbytes hbase o.type
  unfold Oper.wp execOp
  simp only [ho, resolve, invoke, builtin, Sem.run_bind, Sem.run_pure, Result.andThen_ok, List.map_toArray, List.map_cons, List.map_nil, hs, hx, hr]
  exact hK _ _ (h A' cap' w' h3 h4 h5)
theorem cut_fromF (a : Option Addr) (len cap k : Nat) (hk : k ≤ len) (hc : len ≤ cap) :
    ∃ A C, (∀ w, (Instr.slice 132 (.slice a len cap) (some (.int .i64 (k : Int))) none none).run Try.prog w = .ok (.slice A (len - k) C) w) ∧ len - k ≤ C ∧ C ≤ cap ∧ ∀ w l, len = l.length → FlAt w a l → FlAt w A (l.drop k) := by
  refine ⟨if cap = k then a else a.map (·.add k), cap - k, fun w => ?_, by omega, by omega, fun w l hl h j x hx => ?_⟩
  · rw [run_slice_l w 132 a len cap Try.underlying132 .i64 (k : Int) (by omega) (by omega)]
    rw [show (Go.sizeOf (Try.prog.elem 132)).run Try.prog w = .ok 1 w from by kernel_rfl]
    simp [Result.andThen, sliced]
  · rw [List.getElem?_drop] at hx
    obtain ⟨h1, g, off, rfl, hg, hcell⟩ := h _ _ hx
    have hkl := (List.getElem?_eq_some_iff.1 hx).1
    rw [if_neg (by omega)]
    exact ⟨h1, g, off + k, by simp [addr_add], hg, by rw [Nat.add_assoc]; exact hcell⟩
theorem cut_toF (a : Option Addr) (len cap k : Nat) (hk : k ≤ len) (hc : len ≤ cap) :
    ∃ A, (∀ w, (Instr.slice 132 (.slice a len cap) none (some (.int .i64 (k : Int))) none).run Try.prog w = .ok (.slice A k cap) w) ∧ ∀ w l, len = l.length → FlAt w a l → FlAt w A (l.take k) := by
  refine ⟨if cap = 0 then a else a.map (·.add 0), fun w => ?_, fun w l hl h j x hx => ?_⟩
  · rw [run_slice_h w 132 a len cap Try.underlying132 .i64 (k : Int) (by omega) (by omega)]
    rw [show (Go.sizeOf (Try.prog.elem 132)).run Try.prog w = .ok 1 w from by kernel_rfl]
    simp [Result.andThen, sliced]
  · rw [List.getElem?_take] at hx
    split at hx
    · obtain ⟨h1, g, off, rfl, hg, hcell⟩ := h _ _ hx
      exact ⟨h1, g, off, by simp [addr_add], hg, hcell⟩
    · cases hx
/-- A row of bytes that is known whole, with room behind. -/
structure RoomF (w : World) (B g n cap : Nat) (cs : List Value) (l : List Nat) : Prop where
  row : w.heap[g]? = some (.cells cs.toArray 74 (0, 0))
  size : cs.length = cap
  cap : cap ≤ maxLen
  first : cs.take n = fls l
  base : B ≤ g
  lt : ∀ x ∈ l, x < 18446744073709551616
theorem OwnF.of_row {w : World} {B g n cap : Nat} {cs : List Value} {l : List Nat} (hrow : w.heap[g]? = some (.cells cs.toArray 74 (0, 0))) (hs : cs.length = cap) (hc : cap ≤ maxLen) (hn : n = l.length) (hf : cs.take n = fls l) (hb : B ≤ g) (hl : ∀ x ∈ l, x < 18446744073709551616) : OwnF w B (some ⟨g, 0, none⟩) n cap l := by
  have hnc : n ≤ cap := by
    have := congrArg List.length hf
    rw [List.length_take, fls_length] at this
    omega
  exact ⟨⟨by rw [fls_length, hn]; omega, .inr ⟨g, cap, cs.toArray, rfl, hb, hrow, hnc, hc, by rw [List.size_toArray, hs, Nat.mul_one], by rw [Nat.mul_one]; exact hf⟩⟩, hl⟩
/-- A row of the call's own, whole. -/
theorem OwnF.row {w : World} {B n cap : Nat} {A : Option Addr} {l : List Nat} (h : OwnF w B A n cap l) (hn : 0 < n) : ∃ g cs, A = some ⟨g, 0, none⟩ ∧ RoomF w B g n cap cs l := by
  rcases h.1.2 with ⟨h1, h2⟩ | ⟨g, cap', cur, h1, hb, hrow, -, hc, hs, ht⟩
  · omega
  · cases h1
    exact ⟨g, cur.toList, rfl, hrow, by rw [Array.length_toList, hs, Nat.mul_one], hc, by rw [← ht, Nat.mul_one], hb, h.2⟩
theorem RoomF.lt_heap {w : World} {B g n cap : Nat} {cs : List Value} {l : List Nat} (h : RoomF w B g n cap cs l) : g < w.heap.size := (Array.getElem?_eq_some_iff.1 h.row).1
theorem fls_set (l : List Nat) (i x : Nat) : fls (l.set i x) = (fls l).set i (fv x) := by unfold fls; rw [List.map_set]
/-- A byte is written. -/
theorem RoomF.set {w : World} {B g n cap : Nat} {cs : List Value} {l : List Nat} (h : RoomF w B g n cap cs l) (i x : Nat) (hx : x < 18446744073709551616) : RoomF (w.setCell ⟨g, i, none⟩ (.float .f64 x)) B g n cap (cs.set i (fv x)) (l.set i x) :=
  ⟨row_set h.row i _, by rw [List.length_set, h.size], h.cap, by rw [List.take_set, h.first, fls_set], h.base, fun y hy => by
    rcases List.mem_or_eq_of_mem_set hy with h1 | h1
    · exact h.lt y h1
    · omega⟩
theorem RoomF.own {w : World} {B g n cap : Nat} {cs : List Value} {l : List Nat} (h : RoomF w B g n cap cs l) (hn : n = l.length) : OwnF w B (some ⟨g, 0, none⟩) n cap l := OwnF.of_row h.row h.size h.cap hn h.first h.base h.lt
theorem RoomF.cell {w : World} {B g n cap : Nat} {cs : List Value} {l : List Nat} (h : RoomF w B g n cap cs l) (i x : Nat) (hx : l[i]? = some x) (hi : i < n) : w.cell? ⟨g, i, none⟩ = some (.float .f64 x) ∧ w.frozen? ⟨g, i, none⟩ = false := by
  refine ⟨?_, row_frozen h.row i⟩
  rw [cell_of_row w g i cs.toArray _ (0, 0) h.row]
  have h1 : (cs.take n)[i]? = some (fv x) := by rw [h.first]; unfold fls; rw [List.getElem?_map, hx]; rfl
  rw [List.getElem?_take, if_pos hi] at h1
  rw [List.getElem?_toArray]; exact h1
theorem RoomF.le {w : World} {B g n cap : Nat} {cs : List Value} {l : List Nat} (h : RoomF w B g n cap cs l) (hn : n = l.length) : n ≤ cap := by
  have := congrArg List.length h.first
  rw [List.length_take, fls_length, h.size] at this
  omega
theorem RoomF.drew {w : World} {B g n cap : Nat} {cs : List Value} {l : List Nat} (h : RoomF w B g n cap cs l) : RoomF w.drew B g n cap cs l := ⟨h.row, h.size, h.cap, h.first, h.base, h.lt⟩
theorem OwnF.base {w : World} {B n cap : Nat} {A : Option Addr} {l : List Nat} (h : OwnF w B A n cap l) : ∀ k, A.map (·.block) = some k → B ≤ k := fun k hk => by
  rcases h.1.2 with ⟨h1, h2⟩ | ⟨g, cap', cur, h1, hb, _⟩
  · cases h1; cases hk
  · cases h1; simp at hk; omega
end Go.Proofs.Ytbimfopbilcdgaa
