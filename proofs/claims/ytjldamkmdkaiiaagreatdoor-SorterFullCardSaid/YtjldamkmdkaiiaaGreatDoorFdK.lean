/-
  Layer files: what a store of one file is in memory, and how it changes.
-/
import Derived.Test.YtjldamkmdkaiiaaGreatDoorRows
import Derived.WalkKit
import Derived.WalkSpells
import Derived.WalkLawsBesides
import Derived.Lib.Hide
import Derived.Lib.Bytealg
import Derived.Outline
import Derived.Test.YtjldamkmdkaiiaaGreatDoorGlK
import Derived.Shelf.Strconv.Clone
set_option linter.unusedSimpArgs false
set_option linter.unusedVariables false
namespace Go.Proofs.YtjldamkmdkaiiaaGreatDoor
open Go.RowKit
def cmpKF (a b : ByteArray) : Int := Lib.compareBytes a.data.toList b.data.toList
theorem cmpstr_runF (a b : ByteArray) (w : World) : (callFunc 64 #[.string a, .string b]).run Tryz.prog w = .ok (.value (.int .i64 (cmpKF a b))) w := by
 rw [run_callFunc_extern Tryz.func64 (by kernel_rfl) (by kernel_rfl) (by kernel_rfl) (e := Extern.BytealgCompare.compare) (by kernel_rfl), Lib.run_compareString]
 rfl
set_option maxHeartbeats 400000 in
theorem compareString_anyF (a b : ByteArray) (r : Int) (hr : cmpKF a b = r) (w : World) : Calls Tryz.prog 53 #[.string a, .string b] w fun e w' => e = .returned (.int .i64 r) ∧ w = w' := by
 have xr := fun w => cmpstr_runF a b w
 rw [hr] at xr
 clear hr
 go_enter Tryz.func53, Tryz.ntmps53
 go_wp2
 go_ret
 exact ⟨rfl, rfl⟩
set_option maxHeartbeats 400000 in
theorem strCompare_anyF (a b : ByteArray) (r : Int) (hr : cmpKF a b = r) (w : World) : Calls Tryz.prog 40 #[.string a, .string b] w fun e w' => e = .returned (.int .i64 r) ∧ w = w' := by
 have H := Lib.hid fun w => compareString_anyF a b r hr w
 clear hr
 go_enter Tryz.func40, Tryz.ntmps40
 go_wp2_with (go_at_call 53; refine (H.out _).mono ?_; rintro e w' ⟨rfl, rfl⟩)
 go_ret
 exact ⟨rfl, rfl⟩
end Go.Proofs.YtjldamkmdkaiiaaGreatDoor
set_option maxRecDepth 8000
namespace Go.Proofs.YtjldamkmdkaiiaaGreatDoor
open Go.RowKit
theorem lt_of_cell {w : World} {g o : Nat} {v : Value} (h : w.cell? ⟨g, o, none⟩ = some v) : g < w.heap.size := World.block_lt_of_cell? w _ h
/-! operate -/
set_option maxHeartbeats 1000000 in
theorem operate_0 (g : Nat) (ops : Int) (h : 0 ≤ ops ∧ ops < 1000000000) (w : World) (h3 : w.cell? ⟨g, 3, none⟩ = some (.int .i64 0)) (h4 : w.cell? ⟨g, 4, none⟩ = some (.int .i64 ops)) (k4 : w.frozen? ⟨g, 4, none⟩ = false) :
  Calls Tryz.prog 28 #[.pointer (some ⟨g, 0, none⟩)] w fun e w' => e = .returned (.int .i64 0) ∧ w.setCell ⟨g, 4, none⟩ (.int .i64 (ops + 1)) = w' := by
 obtain ⟨o1, o2⟩ := h
 go_enter Tryz.func28, Tryz.ntmps28
 go_wp2
 go_ret
 exact ⟨rfl, rfl⟩
set_option maxHeartbeats 1000000 in
theorem operate_n (g : Nat) (ops armed : Int) (h : 0 ≤ ops ∧ ops < 1000000000) (ha : 2 ≤ armed ∧ armed < 1000000000) (w : World) (h3 : w.cell? ⟨g, 3, none⟩ = some (.int .i64 armed)) (h4 : w.cell? ⟨g, 4, none⟩ = some (.int .i64 ops)) (k3 : w.frozen? ⟨g, 3, none⟩ = false) (k4 : w.frozen? ⟨g, 4, none⟩ = false) :
  Calls Tryz.prog 28 #[.pointer (some ⟨g, 0, none⟩)] w fun e w' => e = .returned (.int .i64 0) ∧ (w.setCell ⟨g, 4, none⟩ (.int .i64 (ops + 1))).setCell ⟨g, 3, none⟩ (.int .i64 (armed - 1)) = w' := by
 obtain ⟨o1, o2⟩ := h
 obtain ⟨a1, a2⟩ := ha
 have a0 : (armed == 0) = false := by simp; omega
 go_enter Tryz.func28, Tryz.ntmps28
 go_wp2
 go_ret
 exact ⟨rfl, rfl⟩
set_option maxHeartbeats 1000000 in
theorem operate_1 (g : Nat) (ops : Int) (b : Bool) (h : 0 ≤ ops ∧ ops < 1000000000) (w : World) (h2 : w.cell? ⟨g, 2, none⟩ = some (.bool b)) (h3 : w.cell? ⟨g, 3, none⟩ = some (.int .i64 1)) (h4 : w.cell? ⟨g, 4, none⟩ = some (.int .i64 ops)) (k2 : w.frozen? ⟨g, 2, none⟩ = false) (k3 : w.frozen? ⟨g, 3, none⟩ = false) (k4 : w.frozen? ⟨g, 4, none⟩ = false) :
  Calls Tryz.prog 28 #[.pointer (some ⟨g, 0, none⟩)] w fun e w' => e = .returned (.int .i64 9) ∧ ((w.setCell ⟨g, 4, none⟩ (.int .i64 (ops + 1))).setCell ⟨g, 3, none⟩ (.int .i64 0)).setCell ⟨g, 2, none⟩ (.bool true) = w' := by
 obtain ⟨o1, o2⟩ := h
 go_enter Tryz.func28, Tryz.ntmps28
 go_wp2
 go_ret
 exact ⟨rfl, rfl⟩
/-! Used -/
set_option maxHeartbeats 1000000 in
theorem used_0 (g : Nat) (F : Option Addr) (fc : Nat) (w : World) (h1 : w.cell? ⟨g, 1, none⟩ = some (.slice F 0 fc)) : Calls Tryz.prog 18 #[.pointer (some ⟨g, 0, none⟩)] w fun e w' => e = .returned (.int .i64 0) ∧ w = w' := by
 go_enter Tryz.func18, Tryz.ntmps18
 go_wp2
 refine wp_loop_rounds 1 ?_
 rw [rounds_succ]
 go_wp2
 go_ret
 exact ⟨rfl, rfl⟩
end Go.Proofs.YtjldamkmdkaiiaaGreatDoor
namespace Go.Proofs.YtjldamkmdkaiiaaGreatDoor
open Go.RowKit Go.WideShapes
def litLays_ren : Go.Shelf.Ren := ⟨fun | 316 => 55 | n => n, fun | 9 => 9 | 3 => 3 | 4 => 4 | 37 => 32 | 0 => 0 | 127 => 107 | 5 => 5 | n => n, fun n => n⟩
theorem litLays : Go.Proofs.LaysM.n316 Tryz.prog litLays_ren := {
 mixed := by kernel_rfl
 f316 := Tryz.func55.trans (congrArg some (by kernel_rfl))
 t0 := Tryz.underlying0
 a0 := Tryz.isAgg0
 z0 := Tryz.sizeOf0
 v0 := Tryz.zeroValue0
 t3 := Tryz.underlying3
 a3 := Tryz.isAgg3
 z3 := Tryz.sizeOf3
 v3 := Tryz.zeroValue3
 t4 := Tryz.underlying4
 a4 := Tryz.isAgg4
 z4 := Tryz.sizeOf4
 v4 := Tryz.zeroValue4
 t9 := Tryz.underlying9
 a9 := Tryz.isAgg9
 z9 := Tryz.sizeOf9
 v9 := Tryz.zeroValue9
 t37 := Tryz.underlying32
 a37 := Tryz.isAgg32
 z37 := Tryz.sizeOf32
 v37 := Tryz.zeroValue32
 t127 := Tryz.underlying107
 a127 := Tryz.isAgg107
 z127 := Tryz.sizeOf107
 v127 := Tryz.zeroValue107
 t5 := Tryz.underlying5
 a5 := Tryz.isAgg5
 z5 := Tryz.sizeOf5
 v5 := Tryz.zeroValue5
 i0 := by kernel_rfl
 i3 := by kernel_rfl
 i4 := by kernel_rfl
 i5 := by kernel_rfl
 i9 := by kernel_rfl
 i37 := by kernel_rfl
 i127 := by kernel_rfl }
theorem liteClone_any (s : ByteArray) (hs : s.size ≤ 281474976710656) (w : World) : Calls Tryz.prog 55 #[.string s] w fun e w' => e = .returned (.string s) ∧ Below w.heap.size w w' := by
 have h := Any.stringslite_Clone litLays s w hs
 change Calls Tryz.prog 55 _ _ _ at h
 exact h
set_option maxHeartbeats 400000 in
theorem strClone_any (s : ByteArray) (hs : s.size ≤ 281474976710656) (w : World) : Calls Tryz.prog 43 #[.string s] w fun e w' => e = .returned (.string s) ∧ Below w.heap.size w w' := by
 have H := Lib.hid fun w => liteClone_any s hs w
 clear hs
 go_enter Tryz.func43, Tryz.ntmps43
 go_wp2_with (go_at_call 55; refine (H.out _).mono ?_; rintro e w' ⟨rfl, hb⟩; have HB := Lib.hid hb; clear hb)
 go_ret
 exact ⟨rfl, HB.out⟩
set_option maxHeartbeats 400000 in
theorem ownName_any (s : ByteArray) (hs : s.size ≤ 281474976710656) (w : World) : Calls Tryz.prog 27 #[.string s] w fun e w' => e = .returned (.string s) ∧ Below w.heap.size w w' := by
 have H := Lib.hid fun w => strClone_any s hs w
 clear hs
 go_enter Tryz.func27, Tryz.ntmps27
 go_wp2_with (go_at_call 43; refine (H.out _).mono ?_; rintro e w' ⟨rfl, hb⟩; have HB := Lib.hid hb; clear hb)
 go_ret
 exact ⟨rfl, HB.out⟩
def OwnXF (w : World) (B : Nat) (F : Option Addr) (k cap : Nat) (xs : List Value) : Prop := w.ownsRow B 64 3 (.slice F k cap) k xs
theorem infoFile : (Tryz.prog.info? 64).map (fun i => (i.zero, i.size, i.bytes)) = some (some (.agg #[.string ByteArray.empty, .slice none 0 0, .int .i64 0]), 3, 48) := by kernel_rfl
theorem run_append_x (w : World) (B : Nat) (F : Option Addr) (k cap : Nat) (xs : List Value) (hown : OwnXF w B F k cap xs) (ad : Addr) (m c : Nat) (ys : List Value) (hl : ys.length = m * 3) (h2 : ∀ j u, ys[j]? = some u → w.cell? (ad.add j) = some u) (h1 : ∀ u ∈ ys, u.oneCell' = true)
  (hk : k + m ≤ 1000000) (hbase : B ≤ w.heap.size) (ty : TypeId) :
  ∃ F' cap' w', (Builtin.append_ #[56, 56] ty #[.slice F k cap, .slice (some ad) m c]).run Tryz.prog w = .ok (.slice F' (k + m) cap') w' ∧ OwnXF w' B F' (k + m) cap' (xs ++ ys) ∧ w.grownBy w' (F.map (·.block)) ∧
   (F'.map (·.block) = F.map (·.block) ∨ F'.map (·.block) = some w.heap.size) := by
 obtain ⟨i0, hi, hz0, hz1, hz2⟩ := info_parts infoFile
 obtain ⟨v', w', hr, h3, h4, h5, h6⟩ := run_append_own_at (P := Tryz.prog) w B 56 ty 64 i0 _ 3 48 Tryz.underlying56 hi hz0 hz1 hz2 rfl (by decide) _ k xs hown ad m c ys hl h2 h1 (by unfold maxLen; omega) (by omega) hbase
 rcases h3.2 with ⟨rfl, h0⟩ | ⟨g, cap', cur, rfl, hb, hrest⟩
 ·have hn0 : k = 0 := by omega
  have hm0 : m = 0 := by omega
  subst hn0; subst hm0
  exact ⟨none, 0, w', hr, h3, by rcases F with _ | _ <;> exact h4, by
   rcases F with _ | _
   ·exact .inl rfl
   ·exact h6⟩
 ·exact ⟨_, _, w', hr, h3, by rcases F with _ | _ <;> exact h4, by rcases F with _ | _ <;> exact h6⟩
theorem wpList_append_x {w : World} {ops : Array Oper} {rest : List Oper} {o : Oper} {a : Act} {Q : Exit → Act → World → Prop} (hgd : o.guard = none) (s x : Operand)
  (ho : o.op = .call { callee := .builtin .append, args := #[s, x], argTypes := #[56, 56] })
  (B : Nat) (F : Option Addr) (k cap : Nat) (xs : List Value) (hs : a.eval s = .slice F k cap) (hown : OwnXF w B F k cap xs) (ad : Addr) (m c : Nat) (ys : List Value) (hx : a.eval x = .slice (some ad) m c) (hl : ys.length = m * 3) (h2 : ∀ j u, ys[j]? = some u → w.cell? (ad.add j) = some u) (h1 : ∀ u ∈ ys, u.oneCell' = true)
  (hk : k + m ≤ 1000000) (hbase : B ≤ w.heap.size)
  (h : ∀ F' cap' w', OwnXF w' B F' (k + m) cap' (xs ++ ys) → w.grownBy w' (F.map (·.block)) → (F'.map (·.block) = F.map (·.block) ∨ F'.map (·.block) = some w.heap.size) → wpList Tryz.prog ops Q rest (a.put o.dst (.slice F' (k + m) cap')) w') : wpList Tryz.prog ops Q (o :: rest) a w := by
 refine wpList_plain hgd fun K hK => ?_
 obtain ⟨F', cap', w', hr, h3, h4, h5⟩ := run_append_x w B F k cap xs hown ad m c ys hl h2 h1 hk hbase o.type
 unfold Oper.wp execOp
 simp only [ho, resolve, invoke, builtin, Sem.run_bind, Sem.run_pure, Result.andThen_ok, List.map_toArray, List.map_cons, List.map_nil, hs, hx, hr]
 exact hK _ _ (h F' cap' w' h3 h4 h5)
theorem OwnXF.caps {w : World} {B k cap : Nat} {F : Option Addr} {xs : List Value} (h : OwnXF w B F k cap xs) : k ≤ cap := by
 rcases h.2 with ⟨h1, h2⟩ | ⟨g, cap', cur, h1, -, -, h2, h3, -⟩
 ·cases h1; exact Nat.le_refl _
 ·cases h1; exact h2
theorem sliceX_run (F : Option Addr) (k cap : Nat) (h : k ≤ cap) : ∃ R, ∀ w, (Instr.slice 56 (.slice F k cap) (some (.int .i64 (k : Int))) none none).run Tryz.prog w = .ok R w := by
 refine ⟨sliced F k k cap 3, fun w => ?_⟩
 rw [run_slice_l w 56 F k cap Tryz.underlying56 .i64 (k : Int) (by omega) (by omega)]
 rw [show (Go.sizeOf (Tryz.prog.elem 56)).run Tryz.prog w = .ok 3 w from by kernel_rfl]
 simp [Result.andThen, sliced]
def InsX (w : World) (B : Nat) (F : Option Addr) (k : Nat) (xs ys : List Value) (e : Ending) (w' : World) : Prop :=
 ∃ F' cap', e = .returned (.slice F' (k + 1) cap') ∧ OwnXF w' B F' (k + 1) cap' (xs ++ ys) ∧ w.grownBy w' (F.map (·.block)) ∧ (F'.map (·.block) = F.map (·.block) ∨ F'.map (·.block) = some w.heap.size)
set_option maxHeartbeats 1000000 in
theorem insert_end (B : Nat) (F : Option Addr) (k cap h : Nat) (xs : List Value) (c0 c1 c2 : Value) (hk : k ≤ 100000) (w : World) (hown : Hid (OwnXF w B F k cap xs)) (hB : Hid (B ≤ w.heap.size)) (h1 : Hid (∀ u ∈ [c0, c1, c2], u.oneCell' = true))
  (hc : Hid (∀ (j : Nat) (u : Value), [c0, c1, c2][j]? = some u → w.cell? ((⟨h, 0, none⟩ : Addr).add j) = some u)) :
  Calls Tryz.prog 26 #[.slice F k cap, .int .i64 k, .slice (some ⟨h, 0, none⟩) 1 1] w (InsX w B F k xs [c0, c1, c2]) := by
 obtain ⟨R, hR⟩ := sliceX_run F k cap hown.out.caps
 go_enter Tryz.func26, Tryz.ntmps26
 go_wp2_with (refine wpList_append_x rfl (.tmp 23) (.tmp 24) rfl B F k cap xs rfl hown.out ⟨h, 0, none⟩ 1 1 [c0, c1, c2] rfl rfl hc.out h1.out (by omega) hB.out ?_; intro F' cap' w1 own hgr hblk; have HO := Lib.hid own; have HG := Lib.hid hgr; have HK := Lib.hid hblk; clear own hgr hblk)
 go_ret
 exact ⟨F', cap', rfl, HO.out, HG.out, HK.out⟩
def stC (room : Int) (F : Option Addr) (n fcap : Nat) (off : Bool) (armed ops : Int) : List Value := [.int .i64 room, .slice F n fcap, .bool off, .int .i64 armed, .int .i64 ops]
def flC (A : Option Addr) (n cap : Nat) (du : Int) : List Value := [.string { data := #[97] }, .slice A n cap, .int .i64 du]
def StT (t : TypeId) : Prop := t = 58 ∨ t = 64 ∨ t = 5
def IsT (w : World) (k : Nat) : Prop := ∃ cs t fr, w.heap[k]? = some (.cells cs t fr) ∧ StT t
theorem isT_st {w : World} {k : Nat} {cs : Array Value} {fr : Nat × Nat} (h : w.heap[k]? = some (.cells cs 58 fr)) : IsT w k := ⟨_, _, _, h, .inl rfl⟩
theorem isT_fl {w : World} {k : Nat} {cs : Array Value} {fr : Nat × Nat} (h : w.heap[k]? = some (.cells cs 64 fr)) : IsT w k := ⟨_, _, _, h, .inr (.inl rfl)⟩
theorem isT_own {w : World} {B n cap : Nat} {A : Option Addr} {l : List Nat} (h : OwnS w B A n cap l) (k : Nat) (hk : A.map (·.block) = some k) : IsT w k := by
 rcases h.1.2 with ⟨h1, _⟩ | ⟨a, cap', cur, h1, hb, hrow, -⟩
 ·injection h1 with e1 e2 e3; rw [e1] at hk; cases hk
 ·injection h1 with e1 e2 e3; rw [e1] at hk; simp at hk; subst hk; exact ⟨_, _, _, hrow, .inr (.inr rfl)⟩
structure KF (V w : World) : Prop where
 size : V.heap.size ≤ w.heap.size
 kept : ∀ (k : Nat) (o : Obj), V.heap[k]? = some o → (∀ cs t fr, o = .cells cs t fr → ¬ StT t) → w.heap[k]? = some o
theorem KF.refl (w : World) : KF w w := ⟨Nat.le_refl _, fun _ _ h _ => h⟩
theorem KF.trans {a b c : World} (h : KF a b) (h' : KF b c) : KF a c := ⟨Nat.le_trans h.size h'.size, fun k o hk hn => h'.kept k o (h.kept k o hk hn) hn⟩
theorem KF.below {V w w' : World} (h : KF V w) (hb : Below w.heap.size w w') : KF V w' := ⟨Nat.le_trans h.size hb.size, fun k o hk hn => by
 have h1 := h.kept k o hk hn
 exact (hb.block k (Array.getElem?_eq_some_iff.1 h1).1).trans h1⟩
theorem KF.of_below {w w' : World} (hb : Below w.heap.size w w') : KF w w' := (KF.refl w).below hb
theorem KF.grown {V w w' : World} {row : Option Nat} (h : KF V w) (hg : w.grownBy w' row) (ht : ∀ k, row = some k → IsT w k) : KF V w' := ⟨Nat.le_trans h.size hg.size, fun k o hk hn => by
 have h1 := h.kept k o hk hn
 refine (hg.block k (Array.getElem?_eq_some_iff.1 h1).1 (fun e => ?_)).trans h1
 obtain ⟨cs, t, fr, h2, h3⟩ := ht k e.symm
 rw [h1] at h2; injection h2 with h2
 exact hn cs t fr h2 h3⟩
theorem KF.setRow {V w w' : World} {b : Nat} (h : KF V w) (ht : IsT w b) (hs : w'.heap.size = w.heap.size) (ho : ∀ k, k ≠ b → w'.heap[k]? = w.heap[k]?) : KF V w' := ⟨by rw [hs]; exact h.size, fun k o hk hn => by
 have h1 := h.kept k o hk hn
 by_cases e : k = b
 ·subst e
  obtain ⟨cs, t, fr, h2, h3⟩ := ht
  rw [h1] at h2; injection h2 with h2
  exact absurd h3 (hn cs t fr h2)
 ·rw [ho k e]; exact h1⟩
structure Bs where
 b : World
 v : World
abbrev Bs.heap (W : Bs) : Array Obj := W.b.heap
abbrev Bs.of (w : World) : Bs := ⟨w, w⟩
structure Bs.grownBy (W : Bs) (w : World) (r : Option Nat) : Prop where
 gb : W.b.grownBy w r
 kf : KF W.v w
theorem Bs.grownBy.size {W : Bs} {w : World} {r : Option Nat} (h : W.grownBy w r) : W.heap.size ≤ w.heap.size := h.gb.size
theorem gb_below {W : Bs} {w w' : World} {g : Nat} (h : W.grownBy w (some g)) (hb : Below w.heap.size w w') : W.grownBy w' (some g) :=
 ⟨⟨hb.os.trans h.gb.os, hb.tape.trans h.gb.tape, hb.output.trans h.gb.output, Nat.le_trans h.size hb.size, fun k hk hn => (hb.block k (Nat.lt_of_lt_of_le hk h.size)).trans (h.gb.block k hk hn)⟩, h.kf.below hb⟩
theorem gb_set {W : Bs} {w : World} {g b : Nat} (h : W.grownBy w (some g)) (hb : b = g ∨ W.heap.size ≤ b) (ht : IsT w b) (i : Nat) (u : Value) : W.grownBy (w.setCell ⟨b, i, none⟩ u) (some g) :=
 ⟨⟨h.gb.os, h.gb.tape, h.gb.output, by simpa [World.setCell] using h.gb.size, fun k hk hn => by
  rw [← h.gb.block k hk hn]
  have hne : b ≠ k := by
   rcases hb with rfl | hb
   ·exact fun e => hn (by rw [e])
   ·have hb : W.b.heap.size ≤ b := hb
    omega
  simp [World.setCell, Array.getElem?_modify, hne]⟩, h.kf.setRow ht (by simp [World.setCell]) (fun k hk => by simp [World.setCell, Array.getElem?_modify, Ne.symm hk])⟩
theorem gb_grown {W : Bs} {w w' : World} {g : Nat} {row : Option Nat} (h : W.grownBy w (some g)) (hg : w.grownBy w' row) (hr : ∀ k, row = some k → W.heap.size ≤ k) (ht : ∀ k, row = some k → IsT w k) : W.grownBy w' (some g) :=
 ⟨⟨hg.os.trans h.gb.os, hg.tape.trans h.gb.tape, hg.output.trans h.gb.output, Nat.le_trans h.gb.size hg.size, fun k hk hn => (hg.block k (Nat.lt_of_lt_of_le hk h.gb.size) (fun e => by
  have h1 : W.b.heap.size ≤ k := hr k e.symm
  omega)).trans (h.gb.block k hk hn)⟩, h.kf.grown hg ht⟩
theorem gb_new {W : Bs} {w : World} {g : Nat} (h : W.grownBy w (some g)) (hg : W.heap.size ≤ g) : Below W.heap.size W.b w :=
 ⟨h.gb.os, h.gb.tape, h.gb.output, h.gb.size, fun k hk => h.gb.block k hk (fun e => by
  have hg : W.b.heap.size ≤ g := hg
  have hk : k < W.b.heap.size := hk
  injection e; omega)⟩
theorem gb_seen {W : Bs} {w : World} {r : Option Nat} (h : W.grownBy w r) (v : World) (hv : KF v w) : Bs.grownBy ⟨W.b, v⟩ w r := ⟨h.gb, hv⟩
structure S0 (W : Bs) (g : Nat) (room : Int) (off : Bool) (armed ops : Int) (w : World) : Prop where
 below : W.grownBy w (some g)
 st : w.heap[g]? = some (.cells (stC room none 0 0 off armed ops).toArray 58 (0, 0))
structure S1F (W : Bs) (g : Nat) (room : Int) (off : Bool) (armed ops : Int) (f fcap : Nat) (r : List Value) (A : Option Addr) (cap : Nat) (l : List Nat) (du : Int) (w : World) : Prop where
 below : W.grownBy w (some g)
 fbase : W.heap.size ≤ f
 ne : g ≠ f
 st : w.heap[g]? = some (.cells (stC room (some ⟨f, 0, none⟩) 1 fcap off armed ops).toArray 58 (0, 0))
 fl : w.heap[f]? = some (.cells (flC A l.length cap du ++ r).toArray 64 (0, 0))
 fc : r.length + 3 = fcap * 3 ∧ fcap ≤ maxLen
 own : OwnS w W.heap.size A l.length cap l
 sg : A.map (·.block) ≠ some g
 sf : A.map (·.block) ≠ some f
theorem row_cells {w : World} {g : Nat} {cs : List Value} {t : TypeId} (h : w.heap[g]? = some (.cells cs.toArray t (0, 0))) (i : Nat) (v : Value) (hi : cs[i]? = some v) : w.cell? ⟨g, i, none⟩ = some v := by
 rw [cell_of_row w g i cs.toArray t (0, 0) h, ← hi]; simp
theorem row_far {w : World} {g f i : Nat} {u : Value} {o : Obj} (hne : g ≠ f) (h : w.heap[f]? = some o) : (w.setCell ⟨g, i, none⟩ u).heap[f]? = some o := by
 simp [World.setCell, Array.getElem?_modify, h, hne]
theorem own_far {w : World} {B g i n cap : Nat} {A : Option Addr} {l : List Nat} {u : Value} (h : OwnS w B A n cap l) (hne : A.map (·.block) ≠ some g) : OwnS (w.setCell ⟨g, i, none⟩ u) B A n cap l := by
 refine ⟨⟨h.1.1, ?_⟩, h.2⟩
 rcases h.1.2 with h1 | ⟨a, cap', cur, h1, hb, hrow, hrest⟩
 ·exact .inl h1
 ·cases h1
  exact .inr ⟨a, cap, cur, rfl, hb, row_far (fun e => hne (by simp [e])) hrow, hrest⟩
theorem own_grown {w w' : World} {B n cap : Nat} {A : Option Addr} {l : List Nat} {row : Option Nat} (h : OwnS w B A n cap l) (hg : w.grownBy w' row) (hne : ∀ k, A.map (·.block) = some k → row ≠ some k) : OwnS w' B A n cap l := by
 refine ⟨⟨h.1.1, ?_⟩, h.2⟩
 rcases h.1.2 with h1 | ⟨a, cap', cur, h1, hb, hrow, hrest⟩
 ·exact .inl h1
 ·cases h1
  refine .inr ⟨a, cap, cur, rfl, hb, ?_, hrest⟩
  rw [hg.block a (Array.getElem?_eq_some_iff.1 hrow).1 (fun e => hne a rfl e.symm)]
  exact hrow
theorem row_kept {w w' : World} {g : Nat} {o : Obj} (h : w.heap[g]? = some o) (hb : Below w.heap.size w w') : w'.heap[g]? = some o := (hb.block g (Array.getElem?_eq_some_iff.1 h).1).trans h
section
variable {W : Bs} {g f fcap cap : Nat} {room armed ops du : Int} {off : Bool} {r : List Value} {A : Option Addr} {l : List Nat} {w w' : World}
theorem S0.next (h : S0 W g room off armed ops w) (hb : Below w.heap.size w w') : S0 W g room off armed ops w' := ⟨gb_below h.below hb, row_kept h.st hb⟩
theorem S0.drew (h : S0 W g room off armed ops w) : S0 W g room off armed ops w.drew := ⟨gb_below h.below (Below.refl _ _).drew, h.st⟩
theorem S1F.next (h : S1F W g room off armed ops f fcap r A cap l du w) (hb : Below w.heap.size w w') : S1F W g room off armed ops f fcap r A cap l du w' :=
 ⟨gb_below h.below hb, h.fbase, h.ne, row_kept h.st hb, row_kept h.fl hb, h.fc, h.own.keep hb, h.sg, h.sf⟩
theorem S1F.drew (h : S1F W g room off armed ops f fcap r A cap l du w) : S1F W g room off armed ops f fcap r A cap l du w.drew := h.next (Below.refl _ _).drew
theorem S1F.putOps (h : S1F W g room off armed ops f fcap r A cap l du w) (v : Int) : S1F W g room off armed v f fcap r A cap l du (w.setCell ⟨g, 4, none⟩ (.int .i64 v)) :=
 ⟨gb_set h.below (.inl rfl) (isT_st h.st) _ _, h.fbase, h.ne, row_set h.st 4 _, row_far h.ne h.fl, h.fc, own_far h.own h.sg, h.sg, h.sf⟩
theorem S1F.putArmed (h : S1F W g room off armed ops f fcap r A cap l du w) (v : Int) : S1F W g room off v ops f fcap r A cap l du (w.setCell ⟨g, 3, none⟩ (.int .i64 v)) :=
 ⟨gb_set h.below (.inl rfl) (isT_st h.st) _ _, h.fbase, h.ne, row_set h.st 3 _, row_far h.ne h.fl, h.fc, own_far h.own h.sg, h.sg, h.sf⟩
theorem S1F.putOff (h : S1F W g room off armed ops f fcap r A cap l du w) (v : Bool) : S1F W g room v armed ops f fcap r A cap l du (w.setCell ⟨g, 2, none⟩ (.bool v)) :=
 ⟨gb_set h.below (.inl rfl) (isT_st h.st) _ _, h.fbase, h.ne, row_set h.st 2 _, row_far h.ne h.fl, h.fc, own_far h.own h.sg, h.sg, h.sf⟩
theorem S1F.putDu (h : S1F W g room off armed ops f fcap r A cap l du w) (v : Int) : S1F W g room off armed ops f fcap r A cap l v (w.setCell ⟨f, 2, none⟩ (.int .i64 v)) :=
 ⟨gb_set h.below (.inr h.fbase) (isT_fl h.fl) _ _, h.fbase, h.ne, row_far (Ne.symm h.ne) h.st, row_set h.fl 2 _, h.fc, own_far h.own h.sf, h.sg, h.sf⟩
theorem S0.putOps (h : S0 W g room off armed ops w) (v : Int) : S0 W g room off armed v (w.setCell ⟨g, 4, none⟩ (.int .i64 v)) :=
 ⟨gb_set h.below (.inl rfl) (isT_st h.st) _ _, row_set h.st 4 _⟩
theorem S1F.g0 (h : S1F W g room off armed ops f fcap r A cap l du w) : w.cell? ⟨g, 0, none⟩ = some (.int .i64 room) := row_cells h.st 0 _ rfl
theorem S1F.g1 (h : S1F W g room off armed ops f fcap r A cap l du w) : w.cell? ⟨g, 1, none⟩ = some (.slice (some ⟨f, 0, none⟩) 1 fcap) := row_cells h.st 1 _ rfl
theorem S1F.g2 (h : S1F W g room off armed ops f fcap r A cap l du w) : w.cell? ⟨g, 2, none⟩ = some (.bool off) := row_cells h.st 2 _ rfl
theorem S1F.g3 (h : S1F W g room off armed ops f fcap r A cap l du w) : w.cell? ⟨g, 3, none⟩ = some (.int .i64 armed) := row_cells h.st 3 _ rfl
theorem S1F.g4 (h : S1F W g room off armed ops f fcap r A cap l du w) : w.cell? ⟨g, 4, none⟩ = some (.int .i64 ops) := row_cells h.st 4 _ rfl
theorem S1F.gf (h : S1F W g room off armed ops f fcap r A cap l du w) (i : Nat) : w.frozen? ⟨g, i, none⟩ = false := row_frozen h.st i
theorem S1F.f0 (h : S1F W g room off armed ops f fcap r A cap l du w) : w.cell? ⟨f, 0, none⟩ = some (.string { data := #[97] }) := row_cells h.fl 0 _ rfl
theorem S1F.f1 (h : S1F W g room off armed ops f fcap r A cap l du w) : w.cell? ⟨f, 1, none⟩ = some (.slice A l.length cap) := row_cells h.fl 1 _ rfl
theorem S1F.f2 (h : S1F W g room off armed ops f fcap r A cap l du w) : w.cell? ⟨f, 2, none⟩ = some (.int .i64 du) := row_cells h.fl 2 _ rfl
theorem S0.g0 (h : S0 W g room off armed ops w) : w.cell? ⟨g, 0, none⟩ = some (.int .i64 room) := row_cells h.st 0 _ rfl
theorem S0.g1 (h : S0 W g room off armed ops w) : w.cell? ⟨g, 1, none⟩ = some (.slice none 0 0) := row_cells h.st 1 _ rfl
theorem S0.g2 (h : S0 W g room off armed ops w) : w.cell? ⟨g, 2, none⟩ = some (.bool off) := row_cells h.st 2 _ rfl
theorem S0.g3 (h : S0 W g room off armed ops w) : w.cell? ⟨g, 3, none⟩ = some (.int .i64 armed) := row_cells h.st 3 _ rfl
theorem S0.g4 (h : S0 W g room off armed ops w) : w.cell? ⟨g, 4, none⟩ = some (.int .i64 ops) := row_cells h.st 4 _ rfl
theorem S0.gf (h : S0 W g room off armed ops w) (i : Nat) : w.frozen? ⟨g, i, none⟩ = false := row_frozen h.st i
theorem S0.seen (h : S0 W g room off armed ops w) (v : World) (hv : KF v w) : S0 ⟨W.b, v⟩ g room off armed ops w := ⟨gb_seen h.below v hv, h.st⟩
theorem S0.grown (h : S0 W g room off armed ops w) (hg : w.grownBy w' none) : S0 W g room off armed ops w' := ⟨gb_grown h.below hg (fun k hk => by cases hk) (fun k hk => by cases hk), (hg.block g (Array.getElem?_eq_some_iff.1 h.st).1 (fun e => by cases e)).trans h.st⟩
theorem S1F.lt (h : S1F W g room off armed ops f fcap r A cap l du w) : g < w.heap.size ∧ f < w.heap.size ∧ ∀ k, A.map (·.block) = some k → k < w.heap.size :=
 ⟨(Array.getElem?_eq_some_iff.1 h.st).1, (Array.getElem?_eq_some_iff.1 h.fl).1, fun k hk => by
  rcases h.own.1.2 with ⟨h1, _⟩ | ⟨a, cap', cur, h1, hb, hrow, -⟩
  ·injection h1 with e1 e2 e3; rw [e1] at hk; cases hk
  ·injection h1 with e1 e2 e3; rw [e1] at hk; simp at hk; subst hk; exact (Array.getElem?_eq_some_iff.1 hrow).1⟩
theorem S1F.grown (h : S1F W g room off armed ops f fcap r A cap l du w) {A' : Option Addr} {cap' : Nat} {l' : List Nat} (hg : w.grownBy w' (A.map (·.block))) (hA : A'.map (·.block) = A.map (·.block) ∨ A'.map (·.block) = some w.heap.size) (own : OwnS w' W.heap.size A' l'.length cap' l') :
  S1F W g room off armed ops f fcap r A' cap' l' du (w'.setCell ⟨f, 1, none⟩ (.slice A' l'.length cap')) := by
 have hgl := (Array.getElem?_eq_some_iff.1 h.st).1
 have hfl := (Array.getElem?_eq_some_iff.1 h.fl).1
 have e1 : w'.heap[g]? = _ := (hg.block g hgl (fun e => h.sg e.symm)).trans h.st
 have e2 : w'.heap[f]? = _ := (hg.block f hfl (fun e => h.sf e.symm)).trans h.fl
 have n1 : A'.map (·.block) ≠ some g := by
  rcases hA with hA | hA
  ·rw [hA]; exact h.sg
  ·rw [hA]; intro e; injection e; omega
 have n2 : A'.map (·.block) ≠ some f := by
  rcases hA with hA | hA
  ·rw [hA]; exact h.sf
  ·rw [hA]; intro e; injection e; omega
 exact ⟨gb_set (gb_grown h.below hg (fun k hk => h.own.base k hk) (fun k hk => isT_own h.own k hk)) (.inr h.fbase) (isT_fl e2) _ _, h.fbase, h.ne, row_far (Ne.symm h.ne) e1, row_set e2 1 _, h.fc, own_far own n2, n1, n2⟩
end
end Go.Proofs.YtjldamkmdkaiiaaGreatDoor
