/-
  Lists of bytes in a world, of bytes that a call owns, append, cuts, bytes as strings: for any layer.
-/
import Derived.Test.YtjldamkmdkaiiaaGreatDoorRows
import Derived.WalkKit
import Derived.WalkSpells
import Derived.WalkLawsBesides
import Derived.Lib.Hide
import Derived.Deep.QuietTactic
import Derived.BigQuiet
import Derived.Deep.AppendLies
import Derived.Laws.CopyOwn
import Derived.Maps.AppendAt
import Derived.Deep.RegionHeld3
import Derived.Deep.Draws
import Derived.Laws.BytesArg
import Derived.Lib.SlBytesConst
set_option linter.unusedSimpArgs false
set_option linter.unusedVariables false
set_option maxRecDepth 8000
namespace Go.Proofs.YtjldamkmdkaiiaaGreatDoor
open Go.RowKit Go.WideShapes
def ByAt (w : World) (a : Option Addr) (l : List Nat) : Prop := ∀ (k x : Nat), l[k]? = some x → x < 256 ∧ ∃ g off, a = some ⟨g, off, none⟩ ∧ g < w.heap.size ∧ w.cell? ⟨g, off + k, none⟩ = some (.int .u8 (x : Int))
theorem ByAt.keep {w w' : World} {a : Option Addr} {l : List Nat} (h : ByAt w a l) (hb : Below w.heap.size w w') : ByAt w' a l := fun k x hx => by
 obtain ⟨h1, g, off, h2, h3, h4⟩ := h k x hx
 exact ⟨h1, g, off, h2, Nat.lt_of_lt_of_le h3 hb.size, (hb.cell (p := ⟨g, off + k, none⟩) h3).trans h4⟩
theorem ByAt.lt {w : World} {a : Option Addr} {l : List Nat} (h : ByAt w a l) : ∀ x ∈ l, x < 256 := fun x hx => by
 obtain ⟨k, hk⟩ := List.getElem?_of_mem hx
 exact (h k x hk).1
theorem ByAt.nil (w : World) (a : Option Addr) : ByAt w a [] := fun k x hx => by simp at hx
def bv (x : Nat) : Value := .int .u8 (x : Int)
def bys (l : List Nat) : List Value := l.map bv
theorem bys_length (l : List Nat) : (bys l).length = l.length := List.length_map ..
theorem ByAt.of_row {w : World} {g : Nat} {cs : Array Value} {t : TypeId} {fr : Nat × Nat} (l : List Nat) (hl : ∀ x ∈ l, x < 256) (hrow : w.heap[g]? = some (.cells cs t fr)) (hcs : (bys l).IsPrefix cs.toList) : ByAt w (some ⟨g, 0, none⟩) l := fun k x hx => by
 refine ⟨hl x (List.mem_of_getElem? hx), g, 0, rfl, (Array.getElem?_eq_some_iff.1 hrow).1, ?_⟩
 rw [cell_of_row w g (0 + k) cs t fr hrow, Nat.zero_add, ← Array.getElem?_toList]
 obtain ⟨r, hr⟩ := hcs
 have hk : k < (bys l).length := by rw [bys_length]; exact (List.getElem?_eq_some_iff.1 hx).1
 rw [← hr, List.getElem?_append_left hk]
 unfold bys; rw [List.getElem?_map, hx]; rfl
theorem heap_alloc_new' (w : World) (o : Obj) : (w.alloc o).heap[w.heap.size]? = some o := by show (w.heap.push o)[w.heap.size]? = _; simp
theorem ByAt.at {w w' : World} {a : Option Addr} {l : List Nat} (h : Hid (ByAt w a l)) (hb : Below w.heap.size w w') : Hid (ByAt w' a l) := h.out.keep hb
theorem alloc_eq (w : World) {c c' : Array Value} {t : TypeId} (h : c = c') : w.alloc (.cells c t) = w.alloc (.cells c' t) := by rw [h]
theorem ByAt.spot {w : World} {a : Option Addr} {l : List Nat} (h : ByAt w a l) (h0 : 0 < l.length) : ∃ g off, a = some ⟨g, off, none⟩ ∧ g < w.heap.size ∧ ∀ (k x : Nat), l[k]? = some x → w.cell? ⟨g, off + k, none⟩ = some (.int .u8 (x : Int)) := by
 obtain ⟨-, g, off, rfl, hg, -⟩ := h 0 l[0] (List.getElem?_eq_getElem h0)
 refine ⟨g, off, rfl, hg, fun k x hx => ?_⟩
 obtain ⟨-, g', off', h2, -, hc⟩ := h k x hx
 cases h2
 exact hc
def OwnS (w : World) (B : Nat) (A : Option Addr) (n cap : Nat) (l : List Nat) : Prop := w.ownsRow B 5 1 (.slice A n cap) n (bys l) ∧ ∀ x ∈ l, x < 256
theorem OwnS.len {w : World} {B n cap : Nat} {A : Option Addr} {l : List Nat} (h : OwnS w B A n cap l) : n = l.length := by have := h.1.1; rw [bys_length] at this; omega
theorem OwnS.caps {w : World} {B n cap : Nat} {A : Option Addr} {l : List Nat} (h : OwnS w B A n cap l) : n ≤ cap ∧ cap ≤ maxLen := by
 rcases h.1.2 with ⟨h1, h2⟩ | ⟨g, cap', cur, h1, -, -, h2, h3, -⟩
 ·cases h1; exact ⟨Nat.le_refl _, Nat.zero_le _⟩
 ·cases h1; exact ⟨h2, h3⟩
theorem OwnS.byAt {w : World} {B n cap : Nat} {A : Option Addr} {l : List Nat} (h : OwnS w B A n cap l) : ByAt w A l := by
 rcases h.1.2 with ⟨h1, h2⟩ | ⟨g, cap', cur, h1, hb, hrow, -, -, hs, ht⟩
 ·have := h.len
  have hl : l = [] := List.eq_nil_of_length_eq_zero (by omega)
  subst hl; exact ByAt.nil _ _
 ·cases h1
  exact ByAt.of_row l h.2 hrow ⟨cur.toList.drop (n * 1), by rw [← ht, List.take_append_drop]⟩
theorem OwnS.nil (w : World) (B : Nat) : OwnS w B none 0 0 [] := ⟨w.ownsRow_nil B _ 1, fun x hx => by cases hx⟩
theorem OwnS.keep {w w' : World} {B n cap : Nat} {A : Option Addr} {l : List Nat} (h : OwnS w B A n cap l) (hb : Below w.heap.size w w') : OwnS w' B A n cap l :=
 ⟨h.1.kept (row := none) ⟨hb.os, hb.tape, hb.output, hb.size, fun k hk _ => hb.block k hk⟩ (by rcases A with _ | a <;> simp [Value.ownBlock]), h.2⟩
theorem OwnS.more {w : World} {B n cap : Nat} {A : Option Addr} {l : List Nat} {B' : Nat} (h : OwnS w B A n cap l) (hB : B' ≤ B) : OwnS w B' A n cap l := by
 refine ⟨⟨h.1.1, ?_⟩, h.2⟩
 rcases h.1.2 with h1 | ⟨g, cap', cur, h1, hb, h2⟩
 ·exact .inl h1
 ·exact .inr ⟨g, cap', cur, h1, Nat.le_trans hB hb, h2⟩
theorem infoU8 : (Tryz.prog.info? 5).map (fun i => (i.zero, i.size, i.bytes)) = some (some (.int .u8 0), 1, 1) := by kernel_rfl
theorem bys_one (l : List Nat) : ∀ u ∈ bys l, u.oneCell' = true := fun u hu => by
 obtain ⟨x, -, rfl⟩ := List.mem_map.1 hu; rfl
theorem addr_add (g off j : Nat) : (⟨g, off, none⟩ : Addr).add j = ⟨g, off + j, none⟩ := by unfold Addr.add; split <;> simp_all
theorem bys_append (l m : List Nat) : bys (l ++ m) = bys l ++ bys m := List.map_append ..
theorem bys_at {w : World} {a : Addr} {l : List Nat} (h : ByAt w (some a) l) (j : Nat) (u : Value) (hu : (bys l)[j]? = some u) : w.cell? (a.add j) = some u := by
 unfold bys at hu
 rw [List.getElem?_map] at hu
 rcases hx : l[j]? with _ | x
 ·rw [hx] at hu; cases hu
 ·rw [hx] at hu
  obtain ⟨-, g, off, e, -, hc⟩ := h j x hx
  cases e
  rw [addr_add, hc]; exact hu
theorem run_append_by (w : World) (B : Nat) (A : Option Addr) (n cap : Nat) (l : List Nat) (hown : OwnS w B A n cap l) (a : Option Addr) (m c : Nat) (l2 : List Nat) (hm : m = l2.length) (h2 : ByAt w a l2)
  (hbytes : n + m ≤ 140737488355328) (hbase : B ≤ w.heap.size) (ty : TypeId) :
  ∃ A' cap' w', (Builtin.append_ #[32, 32] ty #[.slice A n cap, .slice a m c]).run Tryz.prog w = .ok (.slice A' (n + m) cap') w' ∧ OwnS w' B A' (n + m) cap' (l ++ l2) ∧ w.grownBy w' (A.map (·.block)) ∧
   (A'.map (·.block) = A.map (·.block) ∨ A'.map (·.block) = some w.heap.size) := by
 obtain ⟨i0, hi, hz0, hz1, hz2⟩ := info_parts infoU8
 have hlt : ∀ x ∈ l ++ l2, x < 256 := fun x hx => by
  rcases List.mem_append.1 hx with h | h
  ·exact hown.2 x h
  ·exact h2.lt x h
 rcases a with _ | ad
 ·have hl2 : l2 = [] := by
   rcases l2 with _ | ⟨x, r⟩
   ·rfl
   ·obtain ⟨-, g, off, e, -⟩ := h2 0 x rfl; cases e
  subst hl2
  have h0 : m = 0 := hm
  subst h0
  refine ⟨A, cap, w, ?_, by rw [Nat.add_zero, List.append_nil]; exact hown, World.grownBy.refl w _, .inl rfl⟩
  rcases hown.1.2 with ⟨h1, h3⟩ | ⟨g, cap', cur, h1, _, _, hnc, _⟩
  ·cases h1
   simp [Builtin.append_, run_underlying Tryz.underlying32, Go.sizeOf, typeInfo, hi, Builtin.lenOf, Builtin.firstCells]
  ·cases h1
   simp [Builtin.append_, run_underlying Tryz.underlying32, Go.sizeOf, typeInfo, hi, Builtin.lenOf, Builtin.firstCells, hnc, storeCells]
 ·obtain ⟨v', w', hr, h3, h4, h5, h6⟩ := run_append_own_at (P := Tryz.prog) w B 32 ty 5 i0 (.int .u8 0) 1 1 Tryz.underlying32 hi hz0 hz1 hz2 rfl (by decide) _ n (bys l) hown.1 ad m c (bys l2) (by rw [bys_length, hm, Nat.mul_one]) (bys_at h2) (bys_one l2) (by unfold maxLen; omega) (by omega) hbase
  rw [← bys_append] at h3
  rcases h3.2 with ⟨rfl, h0⟩ | ⟨g, cap', cur, rfl, hb, hrest⟩
  ·have hn0 : n = 0 := by omega
   have hm0 : m = 0 := by omega
   subst hn0; subst hm0
   exact ⟨none, 0, w', hr, ⟨h3, hlt⟩, by rcases A with _ | _ <;> exact h4, by
    rcases A with _ | _
    ·exact .inl rfl
    ·exact h6⟩
  ·exact ⟨_, _, w', hr, ⟨h3, hlt⟩, by rcases A with _ | _ <;> exact h4, by
    rcases A with _ | _ <;> exact h6⟩
theorem wpList_append_by {w : World} {ops : Array Oper} {rest : List Oper} {o : Oper} {a : Act} {Q : Exit → Act → World → Prop} (hgd : o.guard = none) (s x : Operand)
  (ho : o.op = .call { callee := .builtin .append, args := #[s, x], argTypes := #[32, 32] })
  (B : Nat) (A : Option Addr) (n cap : Nat) (l : List Nat) (hs : a.eval s = .slice A n cap) (hown : OwnS w B A n cap l) (b : Option Addr) (m c : Nat) (l2 : List Nat) (hx : a.eval x = .slice b m c) (hm : m = l2.length) (h2 : ByAt w b l2)
  (hbytes : n + m ≤ 140737488355328) (hbase : B ≤ w.heap.size)
  (h : ∀ A' cap' w', OwnS w' B A' (n + m) cap' (l ++ l2) → w.grownBy w' (A.map (·.block)) → (A'.map (·.block) = A.map (·.block) ∨ A'.map (·.block) = some w.heap.size) → wpList Tryz.prog ops Q rest (a.put o.dst (.slice A' (n + m) cap')) w') : wpList Tryz.prog ops Q (o :: rest) a w := by
 refine wpList_plain hgd fun K hK => ?_
 obtain ⟨A', cap', w', hr, h3, h4, h5⟩ := run_append_by w B A n cap l hown b m c l2 hm h2 hbytes hbase o.type
 unfold Oper.wp execOp
 simp only [ho, resolve, invoke, builtin, Sem.run_bind, Sem.run_pure, Result.andThen_ok, List.map_toArray, List.map_cons, List.map_nil, hs, hx, hr]
 exact hK _ _ (h A' cap' w' h3 h4 h5)
def RetS (w : World) (l : List Nat) (e : Ending) (w' : World) : Prop := ∃ A cap, e = .returned (.slice A l.length cap) ∧ OwnS w' w.heap.size A l.length cap l ∧ Below w.heap.size w w'
theorem cut_from (a : Option Addr) (len cap k : Nat) (hk : k ≤ len) (hc : len ≤ cap) :
  ∃ A C, (∀ w, (Instr.slice 32 (.slice a len cap) (some (.int .i64 (k : Int))) none none).run Tryz.prog w = .ok (.slice A (len - k) C) w) ∧ len - k ≤ C ∧ C ≤ cap ∧ ∀ w l, len = l.length → ByAt w a l → ByAt w A (l.drop k) := by
 refine ⟨if cap = k then a else a.map (·.add k), cap - k, fun w => ?_, by omega, by omega, fun w l hl h j x hx => ?_⟩
 ·rw [run_slice_l w 32 a len cap Tryz.underlying32 .i64 (k : Int) (by omega) (by omega)]
  rw [show (Go.sizeOf (Tryz.prog.elem 32)).run Tryz.prog w = .ok 1 w from by kernel_rfl]
  simp [Result.andThen, sliced]
 ·rw [List.getElem?_drop] at hx
  obtain ⟨h1, g, off, rfl, hg, hcell⟩ := h _ _ hx
  have hkl := (List.getElem?_eq_some_iff.1 hx).1
  rw [if_neg (by omega)]
  exact ⟨h1, g, off + k, by simp [addr_add], hg, by rw [Nat.add_assoc]; exact hcell⟩
theorem cut_to (a : Option Addr) (len cap k : Nat) (hk : k ≤ len) (hc : len ≤ cap) :
  ∃ A, (∀ w, (Instr.slice 32 (.slice a len cap) none (some (.int .i64 (k : Int))) none).run Tryz.prog w = .ok (.slice A k cap) w) ∧ ∀ w l, len = l.length → ByAt w a l → ByAt w A (l.take k) := by
 refine ⟨if cap = 0 then a else a.map (·.add 0), fun w => ?_, fun w l hl h j x hx => ?_⟩
 ·rw [run_slice_h w 32 a len cap Tryz.underlying32 .i64 (k : Int) (by omega) (by omega)]
  rw [show (Go.sizeOf (Tryz.prog.elem 32)).run Tryz.prog w = .ok 1 w from by kernel_rfl]
  simp [Result.andThen, sliced]
 ·rw [List.getElem?_take] at hx
  split at hx
  ·obtain ⟨h1, g, off, rfl, hg, hcell⟩ := h _ _ hx
   exact ⟨h1, g, off, by simp [addr_add], hg, hcell⟩
  ·cases hx
theorem cut_mid (a : Option Addr) (len cap i j : Nat) (hi : i ≤ j) (hj : j ≤ len) (hc : len ≤ cap) :
  ∃ A C, (∀ w, (Instr.slice 32 (.slice a len cap) (some (.int .i64 (i : Int))) (some (.int .i64 (j : Int))) none).run Tryz.prog w = .ok (.slice A (j - i) C) w) ∧ j - i ≤ C ∧ C ≤ cap ∧ ∀ w l, len = l.length → ByAt w a l → ByAt w A ((l.drop i).take (j - i)) := by
 refine ⟨if cap = i then a else a.map (·.add i), cap - i, fun w => ?_, by omega, by omega, fun w l hl h m x hx => ?_⟩
 ·rw [run_slice_lh w 32 a len cap Tryz.underlying32 .i64 .i64 (i : Int) (j : Int) (by omega) (by omega) (by omega)]
  rw [show (Go.sizeOf (Tryz.prog.elem 32)).run Tryz.prog w = .ok 1 w from by kernel_rfl]
  simp [Result.andThen, sliced]
 ·rw [List.getElem?_take] at hx
  split at hx
  ·rw [List.getElem?_drop] at hx
   obtain ⟨h1, g, off, rfl, hg, hcell⟩ := h _ _ hx
   have hkl := (List.getElem?_eq_some_iff.1 hx).1
   rw [if_neg (by omega)]
   exact ⟨h1, g, off + i, by simp [addr_add], hg, by rw [Nat.add_assoc]; exact hcell⟩
  ·cases hx
theorem below_drewN {B : Nat} {a w : World} (h : Below B a w) (n : Nat) : Below B a (w.drewN n) := ⟨h.os, h.tape, h.output, h.size, h.block⟩
theorem results_tmp4 {fn : Func} {t u v x : Tmp} (h : fn.results = #[.tmp t, .tmp u, .tmp v, .tmp x]) (tmps : Array Value) (P : Program) (w : World) :
  (results fn tmps).run P w = .ok (.tuple #[tmps.getD t undef, tmps.getD u undef, tmps.getD v undef, tmps.getD x undef]) w := by simp [results, h]
theorem drewN_by {w : World} {a : Option Addr} {l : List Nat} (h : Hid (ByAt w a l)) (n : Nat) : Hid (ByAt (w.drewN n) a l) := Lib.hid (h.out.keep (below_drewN (Below.refl _ _) n))
def strB (l : List Nat) : ByteArray := strOfNums (l.map Int.ofNat)
theorem strB_inj {l m : List Nat} (hl : ∀ x ∈ l, x < 256) (hm : ∀ x ∈ m, x < 256) (h : strB l = strB m) : l = m := by
 have h1 := congrArg (fun s : ByteArray => s.data.toList) h
 simp only [strB, strOfNums_data, List.map_map] at h1
 have h2 := congrArg (List.map UInt8.toNat) h1
 have key : ∀ r : List Nat, (∀ x ∈ r, x < 256) → (r.map ((fun n : Int => UInt8.ofNat n.toNat) ∘ Int.ofNat)).map UInt8.toNat = r := by
  intro r hr
  rw [List.map_map]
  conv => rhs; rw [← List.map_id r]
  apply List.map_congr_left
  intro x hx
  have := hr x hx
  simp [Function.comp]; omega
 rwa [key l hl, key m hm] at h2
theorem conv_by {w : World} {A : Option Addr} {l : List Nat} (n C : Nat) (h : ByAt w A l) (hn : n = l.length) : (convert 32 9 (.slice A n C)).run Tryz.prog w = .ok (.string (strB l)) w := by
 rcases l with _ | ⟨x, r⟩
 ·subst hn
  rcases A with _ | ad
  ·exact run_convert_bytes_nil w 32 5 Tryz.underlying32 Tryz.underlying5 _ _ 9 Tryz.underlying9
  ·rw [run_convert_bytes_string w 32 9 5 _ _ C Tryz.underlying32 Tryz.underlying5 Tryz.underlying9]
   rw [run_bytesToString w ad _ C [] (by simpa using run_loadCells_list (P := Tryz.prog) w ad [] (fun j v hj => by simp at hj))]
   rfl
 ·obtain ⟨g, off, rfl, -, hc⟩ := h.spot (by simp)
  refine run_convert_bytes_arg w 32 5 Tryz.underlying32 Tryz.underlying5 g off n C ((x :: r).map Int.ofNat) (by rw [List.length_map, hn]) (fun i hi => ?_) 9 Tryz.underlying9
  have hil : i < (x :: r).length := by omega
  rw [hc i ((x :: r)[i]) (List.getElem?_eq_getElem hil)]
  simp only [List.getD_eq_getElem?_getD, List.getElem?_map, List.getElem?_eq_getElem hil]; rfl
structure Roomy (w : World) (B g n cap : Nat) (cs : List Value) (l : List Nat) : Prop where
 row : w.heap[g]? = some (.cells cs.toArray 5 (0, 0))
 size : cs.length = cap
 cap : cap ≤ maxLen
 first : cs.take n = bys l
 base : B ≤ g
 lt : ∀ x ∈ l, x < 256
theorem OwnS.of_row {w : World} {B g n cap : Nat} {cs : List Value} {l : List Nat} (hrow : w.heap[g]? = some (.cells cs.toArray 5 (0, 0))) (hs : cs.length = cap) (hc : cap ≤ maxLen) (hn : n = l.length) (hf : cs.take n = bys l) (hb : B ≤ g) (hl : ∀ x ∈ l, x < 256) : OwnS w B (some ⟨g, 0, none⟩) n cap l := by
 have hnc : n ≤ cap := by
  have := congrArg List.length hf
  rw [List.length_take, bys_length] at this
  omega
 exact ⟨⟨by rw [bys_length, hn]; omega, .inr ⟨g, cap, cs.toArray, rfl, hb, hrow, hnc, hc, by rw [List.size_toArray, hs, Nat.mul_one], by rw [Nat.mul_one]; exact hf⟩⟩, hl⟩
theorem row_set {w : World} {g : Nat} {cs : List Value} {t : TypeId} (h : w.heap[g]? = some (.cells cs.toArray t (0, 0))) (i : Nat) (u : Value) : (w.setCell ⟨g, i, none⟩ u).heap[g]? = some (.cells (cs.set i u).toArray t (0, 0)) := by
 simp [World.setCell, Array.getElem?_modify, h]
theorem row_cell {w : World} {g : Nat} {cs : List Value} {t : TypeId} (h : w.heap[g]? = some (.cells cs.toArray t (0, 0))) (i : Nat) (hi : i < cs.length) : w.cell? ⟨g, i, none⟩ = some cs[i] := by
 rw [cell_of_row w g i cs.toArray t (0, 0) h]
 simp [hi]
theorem row_frozen {w : World} {g : Nat} {cs : Array Value} {t : TypeId} (h : w.heap[g]? = some (.cells cs t (0, 0))) (i : Nat) : w.frozen? ⟨g, i, none⟩ = false := by simp [World.frozen?, h]
theorem ByAt.shift {w : World} {g n : Nat} {l m : List Nat} (h : ByAt w (some ⟨g, 0, none⟩) (l ++ m)) (hn : n = l.length) : ByAt w (some ⟨g, n, none⟩) m := fun k x hx => by
 obtain ⟨h1, g', off, e, hg, hc⟩ := h (n + k) x (by rw [List.getElem?_append_right (by omega), hn, Nat.add_sub_cancel_left]; exact hx)
 cases e
 exact ⟨h1, g, n, rfl, hg, by rw [Nat.zero_add] at hc; exact hc⟩
theorem row_to (g n cap k : Nat) (hk : k ≤ cap) : ∀ w, (Instr.slice 32 (.slice (some ⟨g, 0, none⟩) n cap) none (some (.int .i64 (k : Int))) none).run Tryz.prog w = .ok (.slice (some ⟨g, 0, none⟩) k cap) w := fun w => by
 rw [run_slice_h w 32 _ n cap Tryz.underlying32 .i64 (k : Int) (by omega) (by omega)]
 rw [show (Go.sizeOf (Tryz.prog.elem 32)).run Tryz.prog w = .ok 1 w from by kernel_rfl]
 simp [Result.andThen, sliced, Addr.add]
theorem row_from (g n cap k : Nat) (hk : k ≤ n) (hc : k < cap) : ∀ w, (Instr.slice 32 (.slice (some ⟨g, 0, none⟩) n cap) (some (.int .i64 (k : Int))) none none).run Tryz.prog w = .ok (.slice (some ⟨g, k, none⟩) (n - k) (cap - k)) w := fun w => by
 rw [run_slice_l w 32 _ n cap Tryz.underlying32 .i64 (k : Int) (by omega) (by omega)]
 rw [show (Go.sizeOf (Tryz.prog.elem 32)).run Tryz.prog w = .ok 1 w from by kernel_rfl]
 simp only [Result.andThen, sliced, Int.toNat_natCast]
 rw [if_neg (by omega)]
 simp [addr_add]
theorem row_from' (g n cap k j : Nat) (hk : n = k + j) (hc : k < cap) : ∀ w, (Instr.slice 32 (.slice (some ⟨g, 0, none⟩) n cap) (some (.int .i64 (k : Int))) none none).run Tryz.prog w = .ok (.slice (some ⟨g, k, none⟩) j (cap - k)) w := fun w => by
 have h := row_from g n cap k (by omega) hc w
 rwa [show n - k = j by omega] at h
theorem sizeU8 : (Tryz.prog.info? 5).map (·.size) = some 1 := by kernel_rfl
theorem copy_src {w w1 : World} {b dp : Option Addr} {ad : Addr} {body : List Nat} (hd : dp = some ad) (HB : Hid (ByAt w b body)) (hb : Below w.heap.size w w1) (h0 : 0 < (bys body).length) : dp = some ad ∧ ∃ ad, b = some ad ∧ ∀ j v, (bys body)[j]? = some v → w1.cell? (ad.add j) = some v := by
 refine ⟨hd, ?_⟩
 have h := HB.out.keep hb
 rcases b with _ | ad
 ·rw [bys_length] at h0
  obtain ⟨-, g, off, e, -⟩ := h 0 body[0] (List.getElem?_eq_getElem h0)
  cases e
 ·exact ⟨ad, rfl, fun j v hj => bys_at h j v hj⟩
theorem row_new {w : World} {g : Nat} {o o' : Obj} (h : Hid (w.heap[g]? = some o)) : (w.alloc o').drew.heap[g]? = some o := (Below.heap_alloc w o' g (Array.getElem?_eq_some_iff.1 h.out).1).trans h.out
theorem splice_len {α : Type} (L cs : List α) (i : Nat) (h : i + cs.length ≤ L.length) : (splice L i cs).length = L.length := length_splice L i cs h
theorem setCell_size (w : World) (a : Addr) (u : Value) : (w.setCell a u).heap.size = w.heap.size := by simp [World.setCell]
theorem by_size {w : World} {B : Nat} {o : Obj} (h : Hid (B ≤ w.heap.size)) : B ≤ (w.alloc o).heap.size := by simp; exact Nat.le_succ_of_le h.out
theorem OwnS.row {w : World} {B n cap : Nat} {A : Option Addr} {l : List Nat} (h : OwnS w B A n cap l) (hn : 0 < n) : ∃ g cs, A = some ⟨g, 0, none⟩ ∧ Roomy w B g n cap cs l := by
 rcases h.1.2 with ⟨h1, h2⟩ | ⟨g, cap', cur, h1, hb, hrow, -, hc, hs, ht⟩
 ·omega
 ·cases h1
  exact ⟨g, cur.toList, rfl, hrow, by rw [Array.length_toList, hs, Nat.mul_one], hc, by rw [← ht, Nat.mul_one], hb, h.2⟩
theorem bys_set (l : List Nat) (i x : Nat) : bys (l.set i x) = (bys l).set i (bv x) := by unfold bys; rw [List.map_set]
theorem Roomy.set {w : World} {B g n cap : Nat} {cs : List Value} {l : List Nat} (h : Roomy w B g n cap cs l) (i x : Nat) (hx : x < 256) : Roomy (w.setCell ⟨g, i, none⟩ (.int .u8 (x : Int))) B g n cap (cs.set i (bv x)) (l.set i x) :=
 ⟨row_set h.row i _, by rw [List.length_set, h.size], h.cap, by rw [List.take_set, h.first, bys_set], h.base, fun y hy => by
  rcases List.mem_or_eq_of_mem_set hy with h1 | h1
  ·exact h.lt y h1
  ·omega⟩
theorem Roomy.own {w : World} {B g n cap : Nat} {cs : List Value} {l : List Nat} (h : Roomy w B g n cap cs l) (hn : n = l.length) : OwnS w B (some ⟨g, 0, none⟩) n cap l := OwnS.of_row h.row h.size h.cap hn h.first h.base h.lt
theorem Roomy.cell {w : World} {B g n cap : Nat} {cs : List Value} {l : List Nat} (h : Roomy w B g n cap cs l) (i x : Nat) (hx : l[i]? = some x) (hi : i < n) : w.cell? ⟨g, i, none⟩ = some (.int .u8 (x : Int)) ∧ w.frozen? ⟨g, i, none⟩ = false := by
 refine ⟨?_, row_frozen h.row i⟩
 rw [cell_of_row w g i cs.toArray _ (0, 0) h.row]
 have h1 : (cs.take n)[i]? = some (bv x) := by rw [h.first]; unfold bys; rw [List.getElem?_map, hx]; rfl
 rw [List.getElem?_take, if_pos hi] at h1
 rw [List.getElem?_toArray]; exact h1
theorem Roomy.le {w : World} {B g n cap : Nat} {cs : List Value} {l : List Nat} (h : Roomy w B g n cap cs l) (hn : n = l.length) : n ≤ cap := by
 have := congrArg List.length h.first
 rw [List.length_take, bys_length, h.size] at this
 omega
theorem conv_at {w w' : World} {A : Option Addr} {l : List Nat} (n C : Nat) (h : Hid (ByAt w A l)) (hb : Below w.heap.size w w') (hn : n = l.length) : (convert 32 9 (.slice A n C)).run Tryz.prog w' = .ok (.string (strB l)) w' := conv_by n C (h.out.keep hb) hn
theorem below_to {W w w' : World} (h : Below W.heap.size W w) (h' : Below w.heap.size w w') : Below W.heap.size W w' := h.trans (h'.mono h.size)
theorem Roomy.drew {w : World} {B g n cap : Nat} {cs : List Value} {l : List Nat} (h : Roomy w B g n cap cs l) : Roomy w.drew B g n cap cs l := ⟨h.row, h.size, h.cap, h.first, h.base, h.lt⟩
theorem by_one (w : World) (x : Nat) (hx : x < 256) : ByAt (w.alloc (.cells #[.int .u8 (x : Int)] 5)) (some ⟨w.heap.size, 0, none⟩) [x] :=
 ByAt.of_row _ (fun y hy => by simp at hy; omega) (heap_alloc_new' w _) ⟨[], rfl⟩
theorem OwnS.base {w : World} {B n cap : Nat} {A : Option Addr} {l : List Nat} (h : OwnS w B A n cap l) : ∀ k, A.map (·.block) = some k → B ≤ k := fun k hk => by
 rcases h.1.2 with ⟨h1, h2⟩ | ⟨g, cap', cur, h1, hb, _⟩
 ·cases h1; cases hk
 ·cases h1; simp at hk; omega
theorem strB_size (l : List Nat) : (strB l).size = l.length := by unfold strB; rw [strOfNums_size, List.length_map]
end Go.Proofs.YtjldamkmdkaiiaaGreatDoor
