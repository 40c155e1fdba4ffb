/-
  Contracts of slices.Grow and of Lay.
-/
import Derived.Test.YtjldamkmdkaiiaaGreatDoorRows
import Derived.WalkKit
import Derived.WalkSpells
import Derived.WalkLawsBesides
import Derived.Lib.Hide
import Derived.Deep.QuietTactic
import Derived.BigQuiet
import Derived.Deep.AppendLies
import Derived.Laws.CopyOwn
import Derived.Maps.AppendAt
import Derived.Deep.RegionHeld3
import Derived.Deep.Draws
import Derived.Laws.BytesArg
import Derived.Lib.SlBytesConst
import Derived.Laws.BitsAllLaws
import Derived.Lib.AppendZerosOnto
import Derived.Deep.RegionLaw
import Derived.Lib.SliceRun
set_option linter.unusedSimpArgs false
set_option linter.unusedVariables false
set_option maxRecDepth 8000
namespace Go.Proofs.YtjldamkmdkaiiaaGreatDoor
open Go.RowKit Go.WideShapes
def ByAt (w : World) (a : Option Addr) (l : List Nat) : Prop := ∀ (k x : Nat), l[k]? = some x → x < 256 ∧ ∃ g off, a = some ⟨g, off, none⟩ ∧ g < w.heap.size ∧ w.cell? ⟨g, off + k, none⟩ = some (.int .u8 (x : Int))
theorem ByAt.keep {w w' : World} {a : Option Addr} {l : List Nat} (h : ByAt w a l) (hb : Below w.heap.size w w') : ByAt w' a l := fun k x hx => by
 obtain ⟨h1, g, off, h2, h3, h4⟩ := h k x hx
 exact ⟨h1, g, off, h2, Nat.lt_of_lt_of_le h3 hb.size, (hb.cell (p := ⟨g, off + k, none⟩) h3).trans h4⟩
theorem ByAt.lt {w : World} {a : Option Addr} {l : List Nat} (h : ByAt w a l) : ∀ x ∈ l, x < 256 := fun x hx => by
 obtain ⟨k, hk⟩ := List.getElem?_of_mem hx
 exact (h k x hk).1
theorem ByAt.nil (w : World) (a : Option Addr) : ByAt w a [] := fun k x hx => by simp at hx
def bv (x : Nat) : Value := .int .u8 (x : Int)
def bys (l : List Nat) : List Value := l.map bv
theorem bys_length (l : List Nat) : (bys l).length = l.length := List.length_map ..
theorem ByAt.of_row {w : World} {g : Nat} {cs : Array Value} {t : TypeId} {fr : Nat × Nat} (l : List Nat) (hl : ∀ x ∈ l, x < 256) (hrow : w.heap[g]? = some (.cells cs t fr)) (hcs : (bys l).IsPrefix cs.toList) : ByAt w (some ⟨g, 0, none⟩) l := fun k x hx => by
 refine ⟨hl x (List.mem_of_getElem? hx), g, 0, rfl, (Array.getElem?_eq_some_iff.1 hrow).1, ?_⟩
 rw [cell_of_row w g (0 + k) cs t fr hrow, Nat.zero_add, ← Array.getElem?_toList]
 obtain ⟨r, hr⟩ := hcs
 have hk : k < (bys l).length := by rw [bys_length]; exact (List.getElem?_eq_some_iff.1 hx).1
 rw [← hr, List.getElem?_append_left hk]
 unfold bys; rw [List.getElem?_map, hx]; rfl
theorem heap_alloc_new' (w : World) (o : Obj) : (w.alloc o).heap[w.heap.size]? = some o := by show (w.heap.push o)[w.heap.size]? = _; simp
theorem ByAt.at {w w' : World} {a : Option Addr} {l : List Nat} (h : Hid (ByAt w a l)) (hb : Below w.heap.size w w') : Hid (ByAt w' a l) := h.out.keep hb
theorem alloc_eq (w : World) {c c' : Array Value} {t : TypeId} (h : c = c') : w.alloc (.cells c t) = w.alloc (.cells c' t) := by rw [h]
theorem ByAt.spot {w : World} {a : Option Addr} {l : List Nat} (h : ByAt w a l) (h0 : 0 < l.length) : ∃ g off, a = some ⟨g, off, none⟩ ∧ g < w.heap.size ∧ ∀ (k x : Nat), l[k]? = some x → w.cell? ⟨g, off + k, none⟩ = some (.int .u8 (x : Int)) := by
 obtain ⟨-, g, off, rfl, hg, -⟩ := h 0 l[0] (List.getElem?_eq_getElem h0)
 refine ⟨g, off, rfl, hg, fun k x hx => ?_⟩
 obtain ⟨-, g', off', h2, -, hc⟩ := h k x hx
 cases h2
 exact hc
def OwnS (w : World) (B : Nat) (A : Option Addr) (n cap : Nat) (l : List Nat) : Prop := w.ownsRow B 5 1 (.slice A n cap) n (bys l) ∧ ∀ x ∈ l, x < 256
theorem OwnS.len {w : World} {B n cap : Nat} {A : Option Addr} {l : List Nat} (h : OwnS w B A n cap l) : n = l.length := by have := h.1.1; rw [bys_length] at this; omega
theorem OwnS.caps {w : World} {B n cap : Nat} {A : Option Addr} {l : List Nat} (h : OwnS w B A n cap l) : n ≤ cap ∧ cap ≤ maxLen := by
 rcases h.1.2 with ⟨h1, h2⟩ | ⟨g, cap', cur, h1, -, -, h2, h3, -⟩
 ·cases h1; exact ⟨Nat.le_refl _, Nat.zero_le _⟩
 ·cases h1; exact ⟨h2, h3⟩
theorem OwnS.byAt {w : World} {B n cap : Nat} {A : Option Addr} {l : List Nat} (h : OwnS w B A n cap l) : ByAt w A l := by
 rcases h.1.2 with ⟨h1, h2⟩ | ⟨g, cap', cur, h1, hb, hrow, -, -, hs, ht⟩
 ·have := h.len
  have hl : l = [] := List.eq_nil_of_length_eq_zero (by omega)
  subst hl; exact ByAt.nil _ _
 ·cases h1
  exact ByAt.of_row l h.2 hrow ⟨cur.toList.drop (n * 1), by rw [← ht, List.take_append_drop]⟩
theorem OwnS.nil (w : World) (B : Nat) : OwnS w B none 0 0 [] := ⟨w.ownsRow_nil B _ 1, fun x hx => by cases hx⟩
theorem OwnS.keep {w w' : World} {B n cap : Nat} {A : Option Addr} {l : List Nat} (h : OwnS w B A n cap l) (hb : Below w.heap.size w w') : OwnS w' B A n cap l :=
 ⟨h.1.kept (row := none) ⟨hb.os, hb.tape, hb.output, hb.size, fun k hk _ => hb.block k hk⟩ (by rcases A with _ | a <;> simp [Value.ownBlock]), h.2⟩
theorem OwnS.more {w : World} {B n cap : Nat} {A : Option Addr} {l : List Nat} {B' : Nat} (h : OwnS w B A n cap l) (hB : B' ≤ B) : OwnS w B' A n cap l := by
 refine ⟨⟨h.1.1, ?_⟩, h.2⟩
 rcases h.1.2 with h1 | ⟨g, cap', cur, h1, hb, h2⟩
 ·exact .inl h1
 ·exact .inr ⟨g, cap', cur, h1, Nat.le_trans hB hb, h2⟩
theorem infoU8 : (Tryz.prog.info? 5).map (fun i => (i.zero, i.size, i.bytes)) = some (some (.int .u8 0), 1, 1) := by kernel_rfl
theorem bys_one (l : List Nat) : ∀ u ∈ bys l, u.oneCell' = true := fun u hu => by
 obtain ⟨x, -, rfl⟩ := List.mem_map.1 hu; rfl
theorem addr_add (g off j : Nat) : (⟨g, off, none⟩ : Addr).add j = ⟨g, off + j, none⟩ := by unfold Addr.add; split <;> simp_all
theorem bys_append (l m : List Nat) : bys (l ++ m) = bys l ++ bys m := List.map_append ..
theorem bys_at {w : World} {a : Addr} {l : List Nat} (h : ByAt w (some a) l) (j : Nat) (u : Value) (hu : (bys l)[j]? = some u) : w.cell? (a.add j) = some u := by
 unfold bys at hu
 rw [List.getElem?_map] at hu
 rcases hx : l[j]? with _ | x
 ·rw [hx] at hu; cases hu
 ·rw [hx] at hu
  obtain ⟨-, g, off, e, -, hc⟩ := h j x hx
  cases e
  rw [addr_add, hc]; exact hu
theorem run_append_by (w : World) (B : Nat) (A : Option Addr) (n cap : Nat) (l : List Nat) (hown : OwnS w B A n cap l) (a : Option Addr) (m c : Nat) (l2 : List Nat) (hm : m = l2.length) (h2 : ByAt w a l2)
  (hbytes : n + m ≤ 140737488355328) (hbase : B ≤ w.heap.size) (ty : TypeId) :
  ∃ A' cap' w', (Builtin.append_ #[32, 32] ty #[.slice A n cap, .slice a m c]).run Tryz.prog w = .ok (.slice A' (n + m) cap') w' ∧ OwnS w' B A' (n + m) cap' (l ++ l2) ∧ w.grownBy w' (A.map (·.block)) ∧
   (A'.map (·.block) = A.map (·.block) ∨ A'.map (·.block) = some w.heap.size) := by
 obtain ⟨i0, hi, hz0, hz1, hz2⟩ := info_parts infoU8
 have hlt : ∀ x ∈ l ++ l2, x < 256 := fun x hx => by
  rcases List.mem_append.1 hx with h | h
  ·exact hown.2 x h
  ·exact h2.lt x h
 rcases a with _ | ad
 ·have hl2 : l2 = [] := by
   rcases l2 with _ | ⟨x, r⟩
   ·rfl
   ·obtain ⟨-, g, off, e, -⟩ := h2 0 x rfl; cases e
  subst hl2
  have h0 : m = 0 := hm
  subst h0
  refine ⟨A, cap, w, ?_, by rw [Nat.add_zero, List.append_nil]; exact hown, World.grownBy.refl w _, .inl rfl⟩
  rcases hown.1.2 with ⟨h1, h3⟩ | ⟨g, cap', cur, h1, _, _, hnc, _⟩
  ·cases h1
   simp [Builtin.append_, run_underlying Tryz.underlying32, Go.sizeOf, typeInfo, hi, Builtin.lenOf, Builtin.firstCells]
  ·cases h1
   simp [Builtin.append_, run_underlying Tryz.underlying32, Go.sizeOf, typeInfo, hi, Builtin.lenOf, Builtin.firstCells, hnc, storeCells]
 ·obtain ⟨v', w', hr, h3, h4, h5, h6⟩ := run_append_own_at (P := Tryz.prog) w B 32 ty 5 i0 (.int .u8 0) 1 1 Tryz.underlying32 hi hz0 hz1 hz2 rfl (by decide) _ n (bys l) hown.1 ad m c (bys l2) (by rw [bys_length, hm, Nat.mul_one]) (bys_at h2) (bys_one l2) (by unfold maxLen; omega) (by omega) hbase
  rw [← bys_append] at h3
  rcases h3.2 with ⟨rfl, h0⟩ | ⟨g, cap', cur, rfl, hb, hrest⟩
  ·have hn0 : n = 0 := by omega
   have hm0 : m = 0 := by omega
   subst hn0; subst hm0
   exact ⟨none, 0, w', hr, ⟨h3, hlt⟩, by rcases A with _ | _ <;> exact h4, by
    rcases A with _ | _
    ·exact .inl rfl
    ·exact h6⟩
  ·exact ⟨_, _, w', hr, ⟨h3, hlt⟩, by rcases A with _ | _ <;> exact h4, by
    rcases A with _ | _ <;> exact h6⟩
theorem wpList_append_by {w : World} {ops : Array Oper} {rest : List Oper} {o : Oper} {a : Act} {Q : Exit → Act → World → Prop} (hgd : o.guard = none) (s x : Operand)
  (ho : o.op = .call { callee := .builtin .append, args := #[s, x], argTypes := #[32, 32] })
  (B : Nat) (A : Option Addr) (n cap : Nat) (l : List Nat) (hs : a.eval s = .slice A n cap) (hown : OwnS w B A n cap l) (b : Option Addr) (m c : Nat) (l2 : List Nat) (hx : a.eval x = .slice b m c) (hm : m = l2.length) (h2 : ByAt w b l2)
  (hbytes : n + m ≤ 140737488355328) (hbase : B ≤ w.heap.size)
  (h : ∀ A' cap' w', OwnS w' B A' (n + m) cap' (l ++ l2) → w.grownBy w' (A.map (·.block)) → (A'.map (·.block) = A.map (·.block) ∨ A'.map (·.block) = some w.heap.size) → wpList Tryz.prog ops Q rest (a.put o.dst (.slice A' (n + m) cap')) w') : wpList Tryz.prog ops Q (o :: rest) a w := by
 refine wpList_plain hgd fun K hK => ?_
 obtain ⟨A', cap', w', hr, h3, h4, h5⟩ := run_append_by w B A n cap l hown b m c l2 hm h2 hbytes hbase o.type
 unfold Oper.wp execOp
 simp only [ho, resolve, invoke, builtin, Sem.run_bind, Sem.run_pure, Result.andThen_ok, List.map_toArray, List.map_cons, List.map_nil, hs, hx, hr]
 exact hK _ _ (h A' cap' w' h3 h4 h5)
def RetS (w : World) (l : List Nat) (e : Ending) (w' : World) : Prop := ∃ A cap, e = .returned (.slice A l.length cap) ∧ OwnS w' w.heap.size A l.length cap l ∧ Below w.heap.size w w'
theorem cut_from (a : Option Addr) (len cap k : Nat) (hk : k ≤ len) (hc : len ≤ cap) :
  ∃ A C, (∀ w, (Instr.slice 32 (.slice a len cap) (some (.int .i64 (k : Int))) none none).run Tryz.prog w = .ok (.slice A (len - k) C) w) ∧ len - k ≤ C ∧ C ≤ cap ∧ ∀ w l, len = l.length → ByAt w a l → ByAt w A (l.drop k) := by
 refine ⟨if cap = k then a else a.map (·.add k), cap - k, fun w => ?_, by omega, by omega, fun w l hl h j x hx => ?_⟩
 ·rw [run_slice_l w 32 a len cap Tryz.underlying32 .i64 (k : Int) (by omega) (by omega)]
  rw [show (Go.sizeOf (Tryz.prog.elem 32)).run Tryz.prog w = .ok 1 w from by kernel_rfl]
  simp [Result.andThen, sliced]
 ·rw [List.getElem?_drop] at hx
  obtain ⟨h1, g, off, rfl, hg, hcell⟩ := h _ _ hx
  have hkl := (List.getElem?_eq_some_iff.1 hx).1
  rw [if_neg (by omega)]
  exact ⟨h1, g, off + k, by simp [addr_add], hg, by rw [Nat.add_assoc]; exact hcell⟩
theorem cut_to (a : Option Addr) (len cap k : Nat) (hk : k ≤ len) (hc : len ≤ cap) :
  ∃ A, (∀ w, (Instr.slice 32 (.slice a len cap) none (some (.int .i64 (k : Int))) none).run Tryz.prog w = .ok (.slice A k cap) w) ∧ ∀ w l, len = l.length → ByAt w a l → ByAt w A (l.take k) := by
 refine ⟨if cap = 0 then a else a.map (·.add 0), fun w => ?_, fun w l hl h j x hx => ?_⟩
 ·rw [run_slice_h w 32 a len cap Tryz.underlying32 .i64 (k : Int) (by omega) (by omega)]
  rw [show (Go.sizeOf (Tryz.prog.elem 32)).run Tryz.prog w = .ok 1 w from by kernel_rfl]
  simp [Result.andThen, sliced]
 ·rw [List.getElem?_take] at hx
  split at hx
  ·obtain ⟨h1, g, off, rfl, hg, hcell⟩ := h _ _ hx
   exact ⟨h1, g, off, by simp [addr_add], hg, hcell⟩
  ·cases hx
theorem cut_mid (a : Option Addr) (len cap i j : Nat) (hi : i ≤ j) (hj : j ≤ len) (hc : len ≤ cap) :
  ∃ A C, (∀ w, (Instr.slice 32 (.slice a len cap) (some (.int .i64 (i : Int))) (some (.int .i64 (j : Int))) none).run Tryz.prog w = .ok (.slice A (j - i) C) w) ∧ j - i ≤ C ∧ C ≤ cap ∧ ∀ w l, len = l.length → ByAt w a l → ByAt w A ((l.drop i).take (j - i)) := by
 refine ⟨if cap = i then a else a.map (·.add i), cap - i, fun w => ?_, by omega, by omega, fun w l hl h m x hx => ?_⟩
 ·rw [run_slice_lh w 32 a len cap Tryz.underlying32 .i64 .i64 (i : Int) (j : Int) (by omega) (by omega) (by omega)]
  rw [show (Go.sizeOf (Tryz.prog.elem 32)).run Tryz.prog w = .ok 1 w from by kernel_rfl]
  simp [Result.andThen, sliced]
 ·rw [List.getElem?_take] at hx
  split at hx
  ·rw [List.getElem?_drop] at hx
   obtain ⟨h1, g, off, rfl, hg, hcell⟩ := h _ _ hx
   have hkl := (List.getElem?_eq_some_iff.1 hx).1
   rw [if_neg (by omega)]
   exact ⟨h1, g, off + i, by simp [addr_add], hg, by rw [Nat.add_assoc]; exact hcell⟩
  ·cases hx
theorem below_drewN {B : Nat} {a w : World} (h : Below B a w) (n : Nat) : Below B a (w.drewN n) := ⟨h.os, h.tape, h.output, h.size, h.block⟩
theorem results_tmp4 {fn : Func} {t u v x : Tmp} (h : fn.results = #[.tmp t, .tmp u, .tmp v, .tmp x]) (tmps : Array Value) (P : Program) (w : World) :
  (results fn tmps).run P w = .ok (.tuple #[tmps.getD t undef, tmps.getD u undef, tmps.getD v undef, tmps.getD x undef]) w := by simp [results, h]
theorem drewN_by {w : World} {a : Option Addr} {l : List Nat} (h : Hid (ByAt w a l)) (n : Nat) : Hid (ByAt (w.drewN n) a l) := Lib.hid (h.out.keep (below_drewN (Below.refl _ _) n))
def strB (l : List Nat) : ByteArray := strOfNums (l.map Int.ofNat)
theorem strB_inj {l m : List Nat} (hl : ∀ x ∈ l, x < 256) (hm : ∀ x ∈ m, x < 256) (h : strB l = strB m) : l = m := by
 have h1 := congrArg (fun s : ByteArray => s.data.toList) h
 simp only [strB, strOfNums_data, List.map_map] at h1
 have h2 := congrArg (List.map UInt8.toNat) h1
 have key : ∀ r : List Nat, (∀ x ∈ r, x < 256) → (r.map ((fun n : Int => UInt8.ofNat n.toNat) ∘ Int.ofNat)).map UInt8.toNat = r := by
  intro r hr
  rw [List.map_map]
  conv => rhs; rw [← List.map_id r]
  apply List.map_congr_left
  intro x hx
  have := hr x hx
  simp [Function.comp]; omega
 rwa [key l hl, key m hm] at h2
theorem conv_by {w : World} {A : Option Addr} {l : List Nat} (n C : Nat) (h : ByAt w A l) (hn : n = l.length) : (convert 32 9 (.slice A n C)).run Tryz.prog w = .ok (.string (strB l)) w := by
 rcases l with _ | ⟨x, r⟩
 ·subst hn
  rcases A with _ | ad
  ·exact run_convert_bytes_nil w 32 5 Tryz.underlying32 Tryz.underlying5 _ _ 9 Tryz.underlying9
  ·rw [run_convert_bytes_string w 32 9 5 _ _ C Tryz.underlying32 Tryz.underlying5 Tryz.underlying9]
   rw [run_bytesToString w ad _ C [] (by simpa using run_loadCells_list (P := Tryz.prog) w ad [] (fun j v hj => by simp at hj))]
   rfl
 ·obtain ⟨g, off, rfl, -, hc⟩ := h.spot (by simp)
  refine run_convert_bytes_arg w 32 5 Tryz.underlying32 Tryz.underlying5 g off n C ((x :: r).map Int.ofNat) (by rw [List.length_map, hn]) (fun i hi => ?_) 9 Tryz.underlying9
  have hil : i < (x :: r).length := by omega
  rw [hc i ((x :: r)[i]) (List.getElem?_eq_getElem hil)]
  simp only [List.getD_eq_getElem?_getD, List.getElem?_map, List.getElem?_eq_getElem hil]; rfl
structure Roomy (w : World) (B g n cap : Nat) (cs : List Value) (l : List Nat) : Prop where
 row : w.heap[g]? = some (.cells cs.toArray 5 (0, 0))
 size : cs.length = cap
 cap : cap ≤ maxLen
 first : cs.take n = bys l
 base : B ≤ g
 lt : ∀ x ∈ l, x < 256
theorem OwnS.of_row {w : World} {B g n cap : Nat} {cs : List Value} {l : List Nat} (hrow : w.heap[g]? = some (.cells cs.toArray 5 (0, 0))) (hs : cs.length = cap) (hc : cap ≤ maxLen) (hn : n = l.length) (hf : cs.take n = bys l) (hb : B ≤ g) (hl : ∀ x ∈ l, x < 256) : OwnS w B (some ⟨g, 0, none⟩) n cap l := by
 have hnc : n ≤ cap := by
  have := congrArg List.length hf
  rw [List.length_take, bys_length] at this
  omega
 exact ⟨⟨by rw [bys_length, hn]; omega, .inr ⟨g, cap, cs.toArray, rfl, hb, hrow, hnc, hc, by rw [List.size_toArray, hs, Nat.mul_one], by rw [Nat.mul_one]; exact hf⟩⟩, hl⟩
theorem row_set {w : World} {g : Nat} {cs : List Value} {t : TypeId} (h : w.heap[g]? = some (.cells cs.toArray t (0, 0))) (i : Nat) (u : Value) : (w.setCell ⟨g, i, none⟩ u).heap[g]? = some (.cells (cs.set i u).toArray t (0, 0)) := by
 simp [World.setCell, Array.getElem?_modify, h]
theorem row_cell {w : World} {g : Nat} {cs : List Value} {t : TypeId} (h : w.heap[g]? = some (.cells cs.toArray t (0, 0))) (i : Nat) (hi : i < cs.length) : w.cell? ⟨g, i, none⟩ = some cs[i] := by
 rw [cell_of_row w g i cs.toArray t (0, 0) h]
 simp [hi]
theorem row_frozen {w : World} {g : Nat} {cs : Array Value} {t : TypeId} (h : w.heap[g]? = some (.cells cs t (0, 0))) (i : Nat) : w.frozen? ⟨g, i, none⟩ = false := by simp [World.frozen?, h]
theorem ByAt.shift {w : World} {g n : Nat} {l m : List Nat} (h : ByAt w (some ⟨g, 0, none⟩) (l ++ m)) (hn : n = l.length) : ByAt w (some ⟨g, n, none⟩) m := fun k x hx => by
 obtain ⟨h1, g', off, e, hg, hc⟩ := h (n + k) x (by rw [List.getElem?_append_right (by omega), hn, Nat.add_sub_cancel_left]; exact hx)
 cases e
 exact ⟨h1, g, n, rfl, hg, by rw [Nat.zero_add] at hc; exact hc⟩
theorem row_to (g n cap k : Nat) (hk : k ≤ cap) : ∀ w, (Instr.slice 32 (.slice (some ⟨g, 0, none⟩) n cap) none (some (.int .i64 (k : Int))) none).run Tryz.prog w = .ok (.slice (some ⟨g, 0, none⟩) k cap) w := fun w => by
 rw [run_slice_h w 32 _ n cap Tryz.underlying32 .i64 (k : Int) (by omega) (by omega)]
 rw [show (Go.sizeOf (Tryz.prog.elem 32)).run Tryz.prog w = .ok 1 w from by kernel_rfl]
 simp [Result.andThen, sliced, Addr.add]
theorem row_from (g n cap k : Nat) (hk : k ≤ n) (hc : k < cap) : ∀ w, (Instr.slice 32 (.slice (some ⟨g, 0, none⟩) n cap) (some (.int .i64 (k : Int))) none none).run Tryz.prog w = .ok (.slice (some ⟨g, k, none⟩) (n - k) (cap - k)) w := fun w => by
 rw [run_slice_l w 32 _ n cap Tryz.underlying32 .i64 (k : Int) (by omega) (by omega)]
 rw [show (Go.sizeOf (Tryz.prog.elem 32)).run Tryz.prog w = .ok 1 w from by kernel_rfl]
 simp only [Result.andThen, sliced, Int.toNat_natCast]
 rw [if_neg (by omega)]
 simp [addr_add]
theorem row_from' (g n cap k j : Nat) (hk : n = k + j) (hc : k < cap) : ∀ w, (Instr.slice 32 (.slice (some ⟨g, 0, none⟩) n cap) (some (.int .i64 (k : Int))) none none).run Tryz.prog w = .ok (.slice (some ⟨g, k, none⟩) j (cap - k)) w := fun w => by
 have h := row_from g n cap k (by omega) hc w
 rwa [show n - k = j by omega] at h
theorem sizeU8 : (Tryz.prog.info? 5).map (·.size) = some 1 := by kernel_rfl
theorem copy_src {w w1 : World} {b dp : Option Addr} {ad : Addr} {body : List Nat} (hd : dp = some ad) (HB : Hid (ByAt w b body)) (hb : Below w.heap.size w w1) (h0 : 0 < (bys body).length) : dp = some ad ∧ ∃ ad, b = some ad ∧ ∀ j v, (bys body)[j]? = some v → w1.cell? (ad.add j) = some v := by
 refine ⟨hd, ?_⟩
 have h := HB.out.keep hb
 rcases b with _ | ad
 ·rw [bys_length] at h0
  obtain ⟨-, g, off, e, -⟩ := h 0 body[0] (List.getElem?_eq_getElem h0)
  cases e
 ·exact ⟨ad, rfl, fun j v hj => bys_at h j v hj⟩
theorem row_new {w : World} {g : Nat} {o o' : Obj} (h : Hid (w.heap[g]? = some o)) : (w.alloc o').drew.heap[g]? = some o := (Below.heap_alloc w o' g (Array.getElem?_eq_some_iff.1 h.out).1).trans h.out
theorem splice_len {α : Type} (L cs : List α) (i : Nat) (h : i + cs.length ≤ L.length) : (splice L i cs).length = L.length := length_splice L i cs h
theorem setCell_size (w : World) (a : Addr) (u : Value) : (w.setCell a u).heap.size = w.heap.size := by simp [World.setCell]
theorem by_size {w : World} {B : Nat} {o : Obj} (h : Hid (B ≤ w.heap.size)) : B ≤ (w.alloc o).heap.size := by simp; exact Nat.le_succ_of_le h.out
theorem OwnS.row {w : World} {B n cap : Nat} {A : Option Addr} {l : List Nat} (h : OwnS w B A n cap l) (hn : 0 < n) : ∃ g cs, A = some ⟨g, 0, none⟩ ∧ Roomy w B g n cap cs l := by
 rcases h.1.2 with ⟨h1, h2⟩ | ⟨g, cap', cur, h1, hb, hrow, -, hc, hs, ht⟩
 ·omega
 ·cases h1
  exact ⟨g, cur.toList, rfl, hrow, by rw [Array.length_toList, hs, Nat.mul_one], hc, by rw [← ht, Nat.mul_one], hb, h.2⟩
theorem bys_set (l : List Nat) (i x : Nat) : bys (l.set i x) = (bys l).set i (bv x) := by unfold bys; rw [List.map_set]
theorem Roomy.set {w : World} {B g n cap : Nat} {cs : List Value} {l : List Nat} (h : Roomy w B g n cap cs l) (i x : Nat) (hx : x < 256) : Roomy (w.setCell ⟨g, i, none⟩ (.int .u8 (x : Int))) B g n cap (cs.set i (bv x)) (l.set i x) :=
 ⟨row_set h.row i _, by rw [List.length_set, h.size], h.cap, by rw [List.take_set, h.first, bys_set], h.base, fun y hy => by
  rcases List.mem_or_eq_of_mem_set hy with h1 | h1
  ·exact h.lt y h1
  ·omega⟩
theorem Roomy.own {w : World} {B g n cap : Nat} {cs : List Value} {l : List Nat} (h : Roomy w B g n cap cs l) (hn : n = l.length) : OwnS w B (some ⟨g, 0, none⟩) n cap l := OwnS.of_row h.row h.size h.cap hn h.first h.base h.lt
theorem Roomy.cell {w : World} {B g n cap : Nat} {cs : List Value} {l : List Nat} (h : Roomy w B g n cap cs l) (i x : Nat) (hx : l[i]? = some x) (hi : i < n) : w.cell? ⟨g, i, none⟩ = some (.int .u8 (x : Int)) ∧ w.frozen? ⟨g, i, none⟩ = false := by
 refine ⟨?_, row_frozen h.row i⟩
 rw [cell_of_row w g i cs.toArray _ (0, 0) h.row]
 have h1 : (cs.take n)[i]? = some (bv x) := by rw [h.first]; unfold bys; rw [List.getElem?_map, hx]; rfl
 rw [List.getElem?_take, if_pos hi] at h1
 rw [List.getElem?_toArray]; exact h1
theorem Roomy.le {w : World} {B g n cap : Nat} {cs : List Value} {l : List Nat} (h : Roomy w B g n cap cs l) (hn : n = l.length) : n ≤ cap := by
 have := congrArg List.length h.first
 rw [List.length_take, bys_length, h.size] at this
 omega
theorem conv_at {w w' : World} {A : Option Addr} {l : List Nat} (n C : Nat) (h : Hid (ByAt w A l)) (hb : Below w.heap.size w w') (hn : n = l.length) : (convert 32 9 (.slice A n C)).run Tryz.prog w' = .ok (.string (strB l)) w' := conv_by n C (h.out.keep hb) hn
theorem below_to {W w w' : World} (h : Below W.heap.size W w) (h' : Below w.heap.size w w') : Below W.heap.size W w' := h.trans (h'.mono h.size)
theorem Roomy.drew {w : World} {B g n cap : Nat} {cs : List Value} {l : List Nat} (h : Roomy w B g n cap cs l) : Roomy w.drew B g n cap cs l := ⟨h.row, h.size, h.cap, h.first, h.base, h.lt⟩
theorem by_one (w : World) (x : Nat) (hx : x < 256) : ByAt (w.alloc (.cells #[.int .u8 (x : Int)] 5)) (some ⟨w.heap.size, 0, none⟩) [x] :=
 ByAt.of_row _ (fun y hy => by simp at hy; omega) (heap_alloc_new' w _) ⟨[], rfl⟩
theorem OwnS.base {w : World} {B n cap : Nat} {A : Option Addr} {l : List Nat} (h : OwnS w B A n cap l) : ∀ k, A.map (·.block) = some k → B ≤ k := fun k hk => by
 rcases h.1.2 with ⟨h1, h2⟩ | ⟨g, cap', cur, h1, hb, _⟩
 ·cases h1; cases hk
 ·cases h1; simp at hk; omega
theorem strB_size (l : List Nat) : (strB l).size = l.length := by unfold strB; rw [strOfNums_size, List.length_map]
end Go.Proofs.YtjldamkmdkaiiaaGreatDoor
namespace Go.Proofs.YtjldamkmdkaiiaaGreatDoor
namespace Pg
theorem xor_left (a b c : Nat) : a ^^^ (b ^^^ c) = b ^^^ (a ^^^ c) := by rw [← Nat.xor_assoc, Nat.xor_comm a b, Nat.xor_assoc]
theorem xor_mod (x y : Nat) : (x ^^^ y) % 2 = (x + y) % 2 := by
 have h := @Nat.xor_mod_two_eq_one x y
 omega
def poly : Nat := 3988292384
def full : Nat := 4294967295
def step (x : Nat) : Nat := if x % 2 = 1 then x / 2 ^^^ poly else x / 2
def steps : Nat → Nat → Nat
 | 0, x => x
 | n + 1, x => steps n (step x)
theorem step_xor (x y : Nat) : step (x ^^^ y) = step x ^^^ step y := by
 have hm : (x ^^^ y) % 2 = (x + y) % 2 := xor_mod x y
 have hd : (x ^^^ y) / 2 = x / 2 ^^^ y / 2 := Nat.xor_div_two
 unfold step
 rw [hd, hm]
 by_cases hx : x % 2 = 1 <;> by_cases hy : y % 2 = 1
 ·rw [if_neg (by omega), if_pos hx, if_pos hy, show (x / 2 ^^^ poly) ^^^ (y / 2 ^^^ poly) = (x / 2 ^^^ y / 2) ^^^ (poly ^^^ poly) by simp only [Nat.xor_assoc, Nat.xor_comm, xor_left], Nat.xor_self, Nat.xor_zero]
 ·rw [if_pos (by omega), if_pos hx, if_neg hy]; simp only [Nat.xor_assoc, Nat.xor_comm, xor_left]
 ·rw [if_pos (by omega), if_neg hx, if_pos hy]; simp only [Nat.xor_assoc]
 ·rw [if_neg (by omega), if_neg hx, if_neg hy]
theorem steps_xor : ∀ (n x y : Nat), steps n (x ^^^ y) = steps n x ^^^ steps n y
 | 0, _, _ => rfl
 | n + 1, x, y => by show steps n (step (x ^^^ y)) = _; rw [step_xor, steps_xor n]; rfl
theorem step_two (y : Nat) : step (2 * y) = y := by unfold step; rw [if_neg (by omega)]; omega
theorem steps_add : ∀ (m n x : Nat), steps (m + n) x = steps n (steps m x)
 | 0, n, x => by rw [Nat.zero_add]; rfl
 | m + 1, n, x => by rw [Nat.succ_add]; exact steps_add m n (step x)
theorem steps_pow : ∀ (n y : Nat), steps n (2 ^ n * y) = y
 | 0, y => by simp [steps]
 | n + 1, y => by
  show steps n (step (2 ^ (n + 1) * y)) = y
  rw [Nat.pow_succ, show 2 ^ n * 2 * y = 2 * (2 ^ n * y) by rw [Nat.mul_comm (2 ^ n) 2, Nat.mul_assoc], step_two, steps_pow n]
theorem step_lt {x : Nat} (h : x < 4294967296) : step x < 4294967296 := by
 unfold step
 split
 ·exact Nat.xor_lt_two_pow (n := 32) (by omega) (by decide)
 ·omega
theorem steps_lt : ∀ (n : Nat) {x : Nat}, x < 4294967296 → steps n x < 4294967296
 | 0, _, h => h
 | n + 1, _, h => steps_lt n (step_lt h)
theorem split_xor (k x : Nat) : x = 2 ^ k * (x / 2 ^ k) ^^^ x % 2 ^ k := by
 apply Nat.eq_of_testBit_eq
 intro i
 rw [Nat.testBit_xor, Nat.testBit_two_pow_mul, Nat.testBit_mod_two_pow]
 by_cases h : k ≤ i
 ·rw [Nat.testBit_div_two_pow]
  simp [h, show ¬ i < k by omega, Nat.sub_add_cancel h, Nat.add_sub_cancel' h]
 ·simp [h, show i < k by omega]
theorem steps_split (k x : Nat) : steps k x = x / 2 ^ k ^^^ steps k (x % 2 ^ k) := by
 conv => lhs; rw [split_xor k x]
 rw [steps_xor, steps_pow]
def half (i : Nat) : Nat := (#[0, 498536548, 997073096, 651767980, 1994146192, 1802195444, 1303535960, 1342533948, 3988292384, 4027552580, 3604390888, 3412177804, 2607071920, 2262029012, 2685067896, 3183342108] : Array Nat).getD i 0
theorem half_steps : ∀ i : _root_.Fin 16, half i.val = steps 4 i.val := by decide +kernel
theorem half_lt : ∀ i : _root_.Fin 16, half i.val < 4294967296 := by decide +kernel
theorem by_half (x : Nat) : x / 16 ^^^ half (x % 16) = steps 4 x := by
 rw [steps_split 4 x, half_steps ⟨x % 16, Nat.mod_lt _ (by decide)⟩]
def byteOn (c b : Nat) : Nat := steps 8 (c ^^^ b)
def on (c : Nat) (l : List Nat) : Nat := l.foldl byteOn c
def sum (l : List Nat) : Nat := on full l ^^^ full
theorem byteOn_lt {c b : Nat} (hc : c < 4294967296) (hb : b < 256) : byteOn c b < 4294967296 := steps_lt 8 (Nat.xor_lt_two_pow (n := 32) hc (by omega))
theorem on_lt : ∀ (l : List Nat) {c : Nat}, c < 4294967296 → (∀ x ∈ l, x < 256) → on c l < 4294967296
 | [], _, h, _ => h
 | b :: l, c, h, hl => on_lt l (byteOn_lt h (hl b (by simp))) (fun x hx => hl x (by simp [hx]))
theorem sum_lt {l : List Nat} (h : ∀ x ∈ l, x < 256) : sum l < 4294967296 := Nat.xor_lt_two_pow (n := 32) (on_lt l (by decide) h) (by decide)
theorem on_snoc (c : Nat) (l : List Nat) (b : Nat) : on c (l ++ [b]) = byteOn (on c l) b := by unfold on; rw [List.foldl_append]; rfl
/-! Bytes as one number -/
def val : List Nat → Nat
 | [] => 0
 | b :: l => b + 256 * val l
theorem val_lt : ∀ (l : List Nat), (∀ x ∈ l, x < 256) → val l < 256 ^ l.length
 | [], _ => by simp [val]
 | b :: l, h => by
  have h1 := h b (by simp)
  have h2 := val_lt l (fun x hx => h x (by simp [hx]))
  show b + 256 * val l < 256 ^ (l.length + 1)
  rw [Nat.pow_succ]; omega
def four (n : Nat) : List Nat := [n % 256, n / 256 % 256, n / 65536 % 256, n / 16777216 % 256]
theorem val_four (n : Nat) (h : n < 4294967296) : val (four n) = n := by unfold four val val val val val; omega
theorem four_lt (n : Nat) : ∀ x ∈ four n, x < 256 := by
 intro x hx; unfold four at hx; simp at hx; omega
end Pg
end Go.Proofs.YtjldamkmdkaiiaaGreatDoor
namespace Go.Proofs.YtjldamkmdkaiiaaGreatDoor
open Go.RowKit
theorem ret_eqP {v v' : Value} (h : v = v') : Ending.returned v = Ending.returned v' := by rw [h]
def HalvesAt (w : World) : Prop := ∀ i : Nat, i < 16 → w.cell? ⟨2, i, none⟩ = some (.int .u32 (Pg.half i : Nat))
theorem take_snoc' (l : List Nat) (k : Nat) (h : k < l.length) : l.take (k + 1) = l.take k ++ [l[k]] := by
 rw [List.take_succ_eq_append_getElem h]
theorem on_take (c : Nat) (l : List Nat) (k : Nat) (h : k < l.length) : Pg.on c (l.take (k + 1)) = Pg.byteOn (Pg.on c (l.take k)) l[k] := by
 rw [take_snoc' l k h, Pg.on_snoc]
theorem half_round (z : Nat) (hz : z < 4294967296) : bits .and .u32 (z : Int) 15 = ((z % 16 : Nat) : Int) ∧ bits .xor .u32 ((z : Int) / 16) (Pg.half (z % 16) : Nat) = ((Pg.steps 4 z : Nat) : Int) ∧ Pg.steps 4 z < 4294967296 := by
 refine ⟨?_, ?_, Pg.steps_lt 4 hz⟩
 ·have h := u32_and_nat z 15 hz (by decide)
  rw [nat_mask4] at h; exact h
 ·have h := u32_xor_nat (z / 16) (Pg.half (z % 16)) (by omega) (Pg.half_lt ⟨z % 16, Nat.mod_lt _ (by decide)⟩)
  rw [Pg.by_half] at h
  rw [← h]; congr 1
set_option maxHeartbeats 1000000 in
theorem sum_any (a : Option Addr) (l : List Nat) (len cap : Nat) (hlen : Hid (len = l.length)) (hl : len ≤ maxLen) (w : World) (HA : Hid (ByAt w a l)) (HG : Hid (HalvesAt w)) :
  Calls Tryz.prog 102 #[.slice a len cap] w fun e w' => e = .returned (.int .u32 (Pg.sum l : Nat)) ∧ w = w' := by
 unfold maxLen at hl
 go_enter Tryz.func102, Tryz.ntmps102
 go_wp2
 go_loop [3, 8] (fun c i => ∃ k : Nat, k ≤ len ∧ i = .int .i64 k ∧ c = .int .u32 (Pg.on Pg.full (l.take k) : Nat)) (fun _ i => len - (intOf i).toNat)
 case atStart => exact ⟨0, Nat.zero_le _, rfl, rfl⟩
 case round =>
  obtain ⟨k, hk, rfl, rfl⟩ := hrel
  by_cases hlt : k < len
  ·have hkl : k < l.length := by have := hlen.out; omega
   obtain ⟨hx, g, off, rfl, hg, hc⟩ := HA.out k l[k] (List.getElem?_eq_getElem hkl)
   have hst := Lib.hid (on_take Pg.full l k hkl)
   have hc0 : Pg.on Pg.full (l.take k) < 4294967296 := Pg.on_lt _ (by decide) (fun x hx => HA.out.lt x (List.mem_of_mem_take hx))
   generalize Pg.on Pg.full (l.take k) = c at *
   generalize l[k] = b at *
   have hz : c ^^^ b < 4294967296 := Nat.xor_lt_two_pow (n := 32) hc0 (by omega)
   have e0 : bits .xor .u32 (c : Int) (b : Int) = ((c ^^^ b : Nat) : Int) := u32_xor_nat c b hc0 (by omega)
   have hb8 : Hid (Pg.byteOn c b = Pg.steps 4 (Pg.steps 4 (c ^^^ b))) := Lib.hid (Pg.steps_add 4 4 _)
   generalize c ^^^ b = z at *
   obtain ⟨e1, e2, hz2⟩ := half_round z hz
   have hc1 := HG.out (z % 16) (Nat.mod_lt _ (by decide))
   have hi1 : (0 : Int) ≤ ((z % 16 : Nat) : Int) := by omega
   have hj1 : ((z % 16 : Nat) : Int) < 16 := by omega
   have hn1 : (((z % 16 : Nat) : Int)).toNat = z % 16 := by omega
   generalize Pg.steps 4 z = y at *
   obtain ⟨e3, e4, hz3⟩ := half_round y hz2
   have hc2 := HG.out (y % 16) (Nat.mod_lt _ (by decide))
   have hi2 : (0 : Int) ≤ ((y % 16 : Nat) : Int) := by omega
   have hj2 : ((y % 16 : Nat) : Int) < 16 := by omega
   have hn2 : (((y % 16 : Nat) : Int)).toNat = y % 16 := by omega
   generalize Pg.half (z % 16) = h1 at *
   generalize Pg.half (y % 16) = h2 at *
   generalize z % 16 = m1 at *
   generalize y % 16 = m2 at *
   go_wp2
   go_round
   case rel => exact ⟨k + 1, by omega, by go_num, by rw [hst.out, hb8.out]⟩
   case measure => simp [intOf]; omega
  ·have hT : Hid (l.take k = l) := Lib.hid (List.take_of_length_le (by have := hlen.out; omega))
   have hc0 : Pg.on Pg.full (l.take k) < 4294967296 := Pg.on_lt _ (by decide) (fun x hx => HA.out.lt x (List.mem_of_mem_take hx))
   have hs : Hid (Pg.sum l = Pg.on Pg.full (l.take k) ^^^ 4294967295) := Lib.hid (by rw [hT.out]; rfl)
   generalize Pg.on Pg.full (l.take k) = c at *
   have e0 : bits .xor .u32 IntKind.u32.max (c : Int) = ((c ^^^ 4294967295 : Nat) : Int) := by
    rw [Nat.xor_comm]; exact u32_xor_nat 4294967295 c (by decide) hc0
   go_wp2
   go_ret
   exact ⟨ret_eqP (by rw [hs.out]; rfl), rfl⟩
theorem HalvesAt.keep {w w' : World} (h : HalvesAt w) (hb : Below w.heap.size w w') : HalvesAt w' := fun i hi =>
 (hb.cell (p := ⟨2, i, none⟩) (World.block_lt_of_cell? w _ (h i hi))).trans (h i hi)
theorem HalvesAt.at {w w' : World} (h : Hid (HalvesAt w)) (hb : Below w.heap.size w w') : Hid (HalvesAt w') := h.out.keep hb
def fourC (n : Nat) : Array Value := #[bv (n % 256), bv (n / 256 % 256), bv (n / 65536 % 256), bv (n / 16777216 % 256)]
theorem fourC_list (n : Nat) : (fourC n).toList = bys (Pg.four n) := rfl
theorem fourC_mk (n : Nat) (a b c d : Int) (ha : a = ((n % 256 : Nat) : Int)) (hb : b = ((n / 256 % 256 : Nat) : Int)) (hc : c = ((n / 65536 % 256 : Nat) : Int)) (hd : d = ((n / 16777216 % 256 : Nat) : Int)) :
  #[Value.int .u8 a, .int .u8 b, .int .u8 c, .int .u8 d] = fourC n := by subst ha hb hc hd; rfl
set_option maxHeartbeats 1000000 in
theorem word_any (n : Nat) (hn : n < 4294967296) (w : World) :
  Calls Tryz.prog 101 #[.int .u32 n] w fun e w' => e = .returned (.slice (some ⟨w.heap.size, 0, none⟩) 4 4) ∧ w.alloc (.cells (fourC n) 5) = w' := by
 go_enter Tryz.func101, Tryz.ntmps101
 go_wp2
 go_ret
 exact ⟨rfl, alloc_eq _ (fourC_mk n _ _ _ _ (by omega) (by omega) (by omega) (by omega)).symm⟩
theorem or_join (a b c d : Nat) (ha : a < 256) (hb : b < 256) (hc : c < 256) (hd : d < 256) :
  a ||| b * 256 ||| c * 65536 ||| d * 16777216 = a + 256 * (b + 256 * (c + 256 * (d + 256 * 0))) := by
 have h1 : a ||| b * 256 = b * 256 + a := by rw [Nat.or_comm]; exact nat_join 8 (b * 256) a (by omega) (by omega)
 have h2 : (b * 256 + a) ||| c * 65536 = c * 65536 + (b * 256 + a) := by rw [Nat.or_comm]; exact nat_join 16 (c * 65536) _ (by omega) (by omega)
 have h3 : (c * 65536 + (b * 256 + a)) ||| d * 16777216 = d * 16777216 + (c * 65536 + (b * 256 + a)) := by rw [Nat.or_comm]; exact nat_join 24 (d * 16777216) _ (by omega) (by omega)
 rw [h1, h2, h3]; omega
set_option maxHeartbeats 1000000 in
theorem wordOf_any (a : Option Addr) (l : List Nat) (len cap : Nat) (hlen : Hid (len = l.length)) (h4 : 4 ≤ len) (hl : len ≤ maxLen) (w : World) (HA : Hid (ByAt w a l)) :
  Calls Tryz.prog 112 #[.slice a len cap] w fun e w' => e = .returned (.int .u32 (Pg.val (l.take 4) : Nat)) ∧ ∃ n, w' = w.drewN n := by
 unfold maxLen at hl
 obtain ⟨b0, b1, b2, b3, r, rfl⟩ : ∃ b0 b1 b2 b3 r, l = b0 :: b1 :: b2 :: b3 :: r := by
  have h := hlen.out
  match l, h with
  | b0 :: b1 :: b2 :: b3 :: r, _ => exact ⟨b0, b1, b2, b3, r, rfl⟩
  | [_, _, _], h => simp at h; omega
  | [_, _], h => simp at h; omega
  | [_], h => simp at h; omega
  | [], h => simp at h; omega
 obtain ⟨g, off, rfl, hg, hc⟩ := HA.out.spot (by simp)
 have c0 := hc 0 b0 rfl
 have c1 := hc 1 b1 rfl
 have c2 := hc 2 b2 rfl
 have c3 := hc 3 b3 rfl
 have l0 := HA.out.lt b0 (by simp)
 have l1 := HA.out.lt b1 (by simp)
 have l2 := HA.out.lt b2 (by simp)
 have l3 := HA.out.lt b3 (by simp)
 rw [Nat.add_zero] at c0
 clear hc
 have hj := Lib.hid (or_join b0 b1 b2 b3 l0 l1 l2 l3)
 have j0 : (0 : Int) < (len : Int) := by omega
 have j1 : (1 : Int) < (len : Int) := by omega
 have j2 : (2 : Int) < (len : Int) := by omega
 have j3 : (3 : Int) < (len : Int) := by omega
 have e1 : bits .or .u32 (b0 : Int) ((b1 : Int) * 256) = ((b0 ||| b1 * 256 : Nat) : Int) := u32_or_nat b0 (b1 * 256) (by omega) (by omega)
 have e2 : bits .or .u32 ((b0 ||| b1 * 256 : Nat) : Int) ((b2 : Int) * 65536) = ((b0 ||| b1 * 256 ||| b2 * 65536 : Nat) : Int) := u32_or_nat (b0 ||| b1 * 256) (b2 * 65536) (Nat.or_lt_two_pow (n := 32) (by omega) (by omega)) (by omega)
 have e3 : bits .or .u32 ((b0 ||| b1 * 256 ||| b2 * 65536 : Nat) : Int) ((b3 : Int) * 16777216) = ((b0 ||| b1 * 256 ||| b2 * 65536 ||| b3 * 16777216 : Nat) : Int) :=
  u32_or_nat (b0 ||| b1 * 256 ||| b2 * 65536) (b3 * 16777216) (Nat.or_lt_two_pow (n := 32) (Nat.or_lt_two_pow (n := 32) (by omega) (by omega)) (by omega)) (by omega)
 have hv : Hid (Pg.val ((b0 :: b1 :: b2 :: b3 :: r).take 4) = b0 + 256 * (b1 + 256 * (b2 + 256 * (b3 + 256 * 0)))) := rfl
 go_enter Tryz.func112, Tryz.ntmps112
 go_wp2
 go_quiet (fail)
 go_wp2
 go_ret
 exact ⟨ret_eqP (by rw [hv.out, ← hj.out]; rfl), _, rfl⟩
section
variable {w w' : World} {B n cap : Nat} {A : Option Addr} {l : List Nat}
end
set_option maxHeartbeats 1000000 in
theorem clone_any (a : Option Addr) (l : List Nat) (len cap : Nat) (hlen : Hid (len = l.length)) (hl : len ≤ 140737488355328) (w : World) (HA : Hid (ByAt w a l)) :
  Calls Tryz.prog 74 #[.slice a len cap] w (RetS w l) := by
 have q22 : ∀ (w : World) (a : Option Addr) (n c n' c' : Nat), (binOp .eql 32 (.slice a n c) (.slice none n' c')).run Tryz.prog w = .ok (.bool a.isNone) w := fun w a n c n' c' => Lib.run_eql_slice_nil w _ _ a n c n' c' Tryz.underlying32
 have hl9 : len ≤ maxLen := by unfold maxLen; omega
 rcases a with _ | ad
 ·have e : l = [] := by
   rcases l with _ | ⟨x, r⟩
   ·rfl
   ·obtain ⟨-, g, off, e, -⟩ := HA.out 0 x rfl; cases e
  subst e
  have e : len = 0 := hlen.out
  subst e
  go_enter Tryz.func74, Tryz.ntmps74
  go_wp2
  go_ret
  exact ⟨none, 0, rfl, OwnS.nil _ _, Below.refl _ _⟩
 ·have HA1 : Hid (ByAt (w.alloc (.cells #[] 5)) (some ad) l) := Lib.hid (HA.out.keep ((Below.refl _ _).alloc (Nat.le_refl _) _))
  have HO : Hid (OwnS (w.alloc (.cells #[] 5)) w.heap.size (some ⟨w.heap.size, 0, none⟩) 0 0 []) := Lib.hid ⟨World.ownsRow_made w #[] 0 (Nat.le_refl _) (Nat.zero_le _) (by simp), fun x hx => by cases hx⟩
  go_enter Tryz.func74, Tryz.ntmps74
  go_wp2_with (at_builtin; refine wpList_append_by rfl (.tmp 5) (.tmp 6) rfl w.heap.size (some ⟨w.heap.size, 0, none⟩) 0 0 [] rfl HO.out (some ad) len cap l rfl hlen.out HA1.out (by omega) (by simp) ?_; intro A' cap' w' hO hG hL)
  go_ret
  rw [Nat.zero_add, List.nil_append, hlen.out] at hO
  exact ⟨A', cap', by rw [← hlen.out]; rfl, hO, ((Below.refl _ w).alloc (Nat.le_refl _) _).grown hG (by simp) (by intro k hk; simp at hk; omega)⟩
/-! Cuts -/
def RetG (w : World) (B n m : Nat) (l : List Nat) (e : Ending) (w' : World) : Prop := ∃ g cap cs, e = .returned (.slice (some ⟨g, 0, none⟩) n cap) ∧ Roomy w' B g n cap cs l ∧ n + m ≤ cap ∧ Below w.heap.size w w'
theorem zeroCells_len (n : Nat) : (Builtin.zeroCells (Value.int .u8 0).cells n).size = n := by
 unfold Builtin.zeroCells
 simp [Value.cells]
theorem grow_run (A : Option Addr) (n cap : Nat) (l : List Nat) (m : Nat) (B : Nat) (w : World) (HO : OwnS w B A n cap l) (hr : cap < n + m) (hbig : n + m ≤ 140737488355328) (hB : B ≤ w.heap.size) :
  ∃ W' G cs', (∀ ty, (Builtin.append_ #[32, 3] ty #[.slice A cap cap, .int .i64 ((n + m - cap : Nat) : Int)]).run Tryz.prog w = .ok (.slice (some ⟨w.heap.size, 0, none⟩) (n + m) G) W') ∧
   Roomy W' B w.heap.size n G cs' l ∧ n + m ≤ G ∧ Below w.heap.size w W' := by
 obtain ⟨hc1, hc2⟩ := HO.caps
 have hlen := HO.len
 obtain ⟨i0, hi0, hz0, hi1, hi2⟩ := info_parts infoU8
 obtain ⟨cs, hcl, hct, hold⟩ : ∃ cs : List Value, cs.length = cap ∧ cs.take n = bys l ∧ (Builtin.firstCells i0.size cap (.slice A cap cap)).run Tryz.prog w.drew = .ok cs.toArray w.drew := by
  rcases HO.1.2 with ⟨h1, h2⟩ | ⟨g, cap', cur, h1, hb, hrow, -, -, hs, ht⟩
  ·cases h1
   have hl : l = [] := List.eq_nil_of_length_eq_zero hlen.symm
   subst hl
   exact ⟨[], rfl, rfl, run_firstCells_none w.drew i0.size 0 0 0⟩
  ·cases h1
   refine ⟨cur.toList, by rw [Array.length_toList, hs, Nat.mul_one], by rw [← ht, Nat.mul_one], ?_⟩
   exact run_firstCells_some w.drew i0.size cap ⟨g, 0, none⟩ cap cap cur.toList (by rw [Array.length_toList, hs, hi1]) (fun j v hj => World.news_of_block (w := w.drew) hrow j v hj)
 have hck : cap + (n + m - cap) = n + m := by omega
 have hGn : n + m ≤ grownCap w (n + m) cap 5 := grownCap_ge w _ _ _
 have hG63 := grownCap_le_maxLen w (n + m) cap 5 (by unfold maxLen; omega)
 refine ⟨w.drew.alloc (.cells (cs.toArray ++ Builtin.zeroCells (Value.int .u8 0).cells (n + m - cap) ++ Builtin.zeroCells (Value.int .u8 0).cells (grownCap w (n + m) cap 5 - (n + m))) 5), grownCap w (n + m) cap 5, cs ++ ((Builtin.zeroCells (Value.int .u8 0).cells (n + m - cap)).toList ++ (Builtin.zeroCells (Value.int .u8 0).cells (grownCap w (n + m) cap 5 - (n + m))).toList), fun ty => ?_, ⟨?_, ?_, hG63, ?_, hB, HO.2⟩, hGn, ((Below.refl _ _).drew).alloc (Nat.le_refl _) _⟩
 ·have h := Lib.run_append_grow_zeros w 32 3 ty 5 i0 (.int .u8 0) .i64 .i64 Tryz.underlying32 Tryz.underlying3 hi0 hz0 A cap cap cs hold (n + m - cap) (by omega) (by omega) (by omega) (by omega)
   (by rw [hi2]; omega) (by rw [hck]; exact growslice_fits (by omega) (by rw [hi2]; omega))
  rw [hck] at h
  exact h
 ·rw [show w.heap.size = w.drew.heap.size from rfl, heap_alloc_new']
  congr 2
  simp
 ·simp only [List.length_append, Array.length_toList, zeroCells_len, hcl]; omega
 ·rw [List.take_append_of_le_length (by omega), hct]
set_option maxHeartbeats 400000 in
theorem grow_room (A : Option Addr) (n cap m : Nat) (w : World) (h1 : n ≤ cap) (h2 : cap ≤ 9223372036854775807) (hr : n + m ≤ cap) :
  Calls Tryz.prog 100 #[.slice A n cap, .int .i64 (m : Int)] w fun e w' => e = .returned (.slice A n cap) ∧ w = w' := by
 have h3 : ¬ ((m : Int) < 0) := by omega
 have h4 : ¬ ((m : Int) - ((cap : Int) - (n : Int)) > 0) := by omega
 go_enter Tryz.func100, Tryz.ntmps100
 go_wp2
 go_ret
 exact ⟨rfl, rfl⟩
set_option maxHeartbeats 400000 in
theorem grow_more (A : Option Addr) (n cap m : Nat) (w W' : World) (g G : Nat) (h1 : n ≤ cap) (h2 : cap ≤ 9223372036854775807) (hr : cap < n + m) (hbig : n + m ≤ 140737488355328) (hG : n + m ≤ G) (hG2 : G ≤ 9223372036854775807)
  (hA : A = none → cap = 0) (hrz : ∀ ty, (Builtin.append_ #[32, 3] ty #[.slice A cap cap, .int .i64 ((n + m - cap : Nat) : Int)]).run Tryz.prog w = .ok (.slice (some ⟨g, 0, none⟩) (n + m) G) W') :
  Calls Tryz.prog 100 #[.slice A n cap, .int .i64 (m : Int)] w fun e w' => e = .returned (.slice (some ⟨g, 0, none⟩) n G) ∧ W' = w' := by
 have h3 : ¬ ((m : Int) < 0) := by omega
 have h4 : (m : Int) - ((cap : Int) - (n : Int)) > 0 := by omega
 have hrz : ∀ ty, (Builtin.append_ #[32, 3] ty #[.slice A cap cap, .int .i64 ((m : Int) - ((cap : Int) - (n : Int)))]).run Tryz.prog w = .ok (.slice (some ⟨g, 0, none⟩) (n + m) G) W' := fun ty => by
  rw [show (m : Int) - ((cap : Int) - (n : Int)) = ((n + m - cap : Nat) : Int) by omega]; exact hrz ty
 obtain ⟨A1, C1, hcut, hsl⟩ : ∃ A1 C1, (∀ w, (Instr.slice 32 (.slice A n cap) none (some (.int .i64 (cap : Int))) none).run Tryz.prog w = .ok (.slice A1 cap C1) w) ∧ (A1 = A ∧ C1 = cap) := by
  refine ⟨A, cap, fun w => ?_, rfl, rfl⟩
  rw [run_slice_h w 32 A n cap Tryz.underlying32 .i64 (cap : Int) (by omega) (by omega)]
  rw [show (Go.sizeOf (Tryz.prog.elem 32)).run Tryz.prog w = .ok 1 w from by kernel_rfl]
  rcases A with _ | ⟨ab, ao, asp⟩
  ·simp [Result.andThen, sliced]
  ·simp [Result.andThen, sliced, Addr.add]
 obtain ⟨rfl, rfl⟩ := hsl
 go_enter Tryz.func100, Tryz.ntmps100
 go_wp2_with (at_builtin; refine Lib.wpList_append_run _ rfl _ _ _ _ rfl _ _ rfl rfl _ _ (hrz _) ?_)
 all_goals
  go_ret
  exact ⟨rfl, rfl⟩
theorem grow_any (A : Option Addr) (n cap : Nat) (l : List Nat) (m : Nat) (B : Nat) (w : World) (HO : Hid (OwnS w B A n cap l)) (hm : 0 < m) (hbig : n + m ≤ 140737488355328) (hB : B ≤ w.heap.size) :
  Calls Tryz.prog 100 #[.slice A n cap, .int .i64 (m : Int)] w (RetG w B n m l) := by
 obtain ⟨hc1, hc2⟩ := HO.out.caps
 have hlen := HO.out.len
 unfold maxLen at hc2
 by_cases hr : n + m ≤ cap
 ·refine (grow_room A n cap m w hc1 (by omega) hr).mono ?_
  rintro e w' ⟨rfl, rfl⟩
  rcases HO.out.1.2 with ⟨h1, h2⟩ | ⟨g, cap', cur, h1, hb, hrow, -, -, hs, ht⟩
  ·cases h1; omega
  ·cases h1
   exact ⟨g, cap, cur.toList, rfl, ⟨hrow, by rw [Array.length_toList, hs, Nat.mul_one], by unfold maxLen; omega, by rw [← ht, Nat.mul_one], hb, HO.out.2⟩, hr, Below.refl _ _⟩
 ·obtain ⟨W', G, cs', hrz, F, hG, hb⟩ := grow_run A n cap l m B w HO.out (by omega) hbig hB
  have hGm := F.cap
  unfold maxLen at hGm
  refine (grow_more A n cap m w W' w.heap.size G hc1 (by omega) (by omega) hbig hG (by omega) (fun hA => ?_) hrz).mono ?_
  ·subst hA
   rcases HO.out.1.2 with ⟨h1, h2⟩ | ⟨g, cap', cur, h1, _⟩
   ·cases h1; rfl
   ·cases h1
  ·rintro e w' ⟨rfl, rfl⟩
   exact ⟨_, _, _, rfl, F, hG, hb⟩
end Go.Proofs.YtjldamkmdkaiiaaGreatDoor
