/-
  Layer ledger: the law's own change.
-/
import Derived.Test.YtkhldnihboklaaaNq
set_option linter.unusedSimpArgs false
set_option linter.unusedVariables false
set_option maxRecDepth 8000
namespace Go.Proofs.Ytkhldnihboklaaa
open Go.RowKit Go.Sort

/-- A change as it is drawn. -/
structure Acx where
  put : Bool
  key : Nat
  w : Nat
  near : Nat
  t : Tel
structure Acx.Ok (a : Acx) : Prop where
  key : a.key < 256
  w : a.w < 256
  near : a.near < 256
  t : a.t.Ok
def keyA (k : Nat) : ByteArray := if k % 2 = 0 then { data := #[97] } else { data := #[98] }
def actP (a : Acx) : Pl := ⟨keyA a.key, ((a.w % 3 : Nat) : Int), ((a.w % 3 : Nat) : Int) + 5⟩
theorem keyA_small (k : Nat) : (keyA k).size ≤ 1000 := by unfold keyA; split <;> decide
theorem tmodU (k m : Nat) : ((k : Int)).tmod (m : Int) = ((k % m : Nat) : Int) := by
  rw [Int.tmod_eq_emod_of_nonneg (by omega)]; rfl
theorem convU (k : Nat) (hk : k < 3) (w : World) : (convert 5 2 (.int .u8 (k : Int))).run Try.prog w = .ok (.int .i64 (k : Int)) w := by
  go_simp
  rw [IntKind.wrap_i64]; omega
theorem u64w (x : Int) : ∃ n : Nat, n < 18446744073709551616 ∧ IntKind.u64.wrap x = (n : Int) := by
  refine ⟨(x % 18446744073709551616).toNat, by omega, ?_⟩
  simp [IntKind.wrap, IntKind.bits, IntKind.signed]
  omega
theorem belowSetRow {B : Nat} {a w : World} (h : Below B a w) {g : Nat} (hg : B ≤ g) (cs : Array Value) : Below B a (w.setRow g cs) :=
  h.trans ⟨rfl, rfl, rfl, by simp, fun k hk => setRow_other w g k cs (by omega)⟩
/-- The change in its box, the act in its, and a box for the answer. -/
structure CRow (W : World) (qc : Nat) (a : Acx) (c : Chg) (w : World) : Prop where
  rc : w.heap[qc]? = some (.cells #[.bool c.put, .int .u64 (c.rev : Int), .string c.p.key, .int .i64 c.p.s, .int .i64 c.p.e, .int .u64 (c.t.c : Int), .float .f64 c.t.s, .bool c.t.o, .float .f64 c.t.lo, .float .f64 c.t.hi] 38 (0, 0))
  ra : w.heap[W.heap.size]? = some (.cells #[.bool a.put, .int .u8 (a.key : Int), .int .u8 (a.w : Int), .int .u8 (a.near : Int), .int .u64 (a.t.c : Int), .float .f64 a.t.s, .bool a.t.o, .float .f64 a.t.lo, .float .f64 a.t.hi] 40 (0, 0))
  rz : w.heap[W.heap.size + 1]? = some (.cells #[.bool false, .int .u64 0, .string { data := #[] }, .int .i64 0, .int .i64 0, .int .u64 0, .float .f64 0, .bool false, .float .f64 0, .float .f64 0] 38 (0, 0))
  b : Below W.heap.size W w
  q : W.heap.size + 1 < qc
theorem CRow.frozen {W : World} {qc : Nat} {a : Acx} {c : Chg} {w : World} (h : CRow W qc a c w) (j : Nat) : w.frozen? ⟨qc, j, none⟩ = false := by simp [World.frozen?, h.rc]
theorem CRow.rev {W : World} {qc : Nat} {a : Acx} {c : Chg} {w : World} (h : CRow W qc a c w) (m : Nat) : CRow W qc a ⟨c.put, m, c.p, c.t⟩ (w.setCell ⟨qc, 1, none⟩ (.int .u64 (m : Int))) :=
  ⟨heap_setCell_same w qc 1 _ _ _ h.rc, (Below.heap_setCell _ _ _ _ (by have := h.q; show W.heap.size ≠ qc; omega)).trans h.ra, (Below.heap_setCell _ _ _ _ (by have := h.q; show W.heap.size + 1 ≠ qc; omega)).trans h.rz, h.b.setCell (p := ⟨qc, 1, none⟩) (by have := h.q; show _ ≤ qc; omega) _, h.q⟩
theorem CRow.cnt {W : World} {qc : Nat} {a : Acx} {c : Chg} {w : World} (h : CRow W qc a c w) (m : Nat) : CRow W qc a ⟨c.put, c.rev, c.p, ⟨m, c.t.s, c.t.o, c.t.lo, c.t.hi⟩⟩ (w.setCell ⟨qc, 5, none⟩ (.int .u64 (m : Int))) :=
  ⟨heap_setCell_same w qc 5 _ _ _ h.rc, (Below.heap_setCell _ _ _ _ (by have := h.q; show W.heap.size ≠ qc; omega)).trans h.ra, (Below.heap_setCell _ _ _ _ (by have := h.q; show W.heap.size + 1 ≠ qc; omega)).trans h.rz, h.b.setCell (p := ⟨qc, 5, none⟩) (by have := h.q; show _ ≤ qc; omega) _, h.q⟩
theorem CRow.there {W : World} {qc : Nat} {a : Acx} {c : Chg} {w : World} (h : CRow W qc a c w) : w.there qc 5 5 := fun j hj => by
  refine ⟨?_, h.frozen _⟩
  rw [cell_of_row w qc (5 + j) _ _ _ h.rc]
  rcases j with _ | _ | _ | _ | _ | j
  · rfl
  · rfl
  · rfl
  · rfl
  · rfl
  · omega
theorem CRow.cell {W : World} {qc : Nat} {a : Acx} {c : Chg} {w : World} (h : CRow W qc a c w) (j : Nat) (v : Value) (hj : 5 ≤ j) {cs : Array Value} (hcs : w.heap[qc]? = some (.cells cs 38 (0, 0))) : (w.setCell ⟨qc, j, none⟩ v).heap[qc]? = some (.cells (cs.setIfInBounds j v) 38 (0, 0)) := heap_setCell_same w qc j cs _ v hcs
theorem CRow.tel {W : World} {qc : Nat} {a : Acx} {c : Chg} {w : World} (h : CRow W qc a c w) (t : Tel) : CRow W qc a ⟨c.put, c.rev, c.p, t⟩ (w.setCells qc 5 [.int .u64 (t.c : Int), .float .f64 t.s, .bool t.o, .float .f64 t.lo, .float .f64 t.hi]) := by
  have hq := h.q
  have h0 : ∀ k, k ≠ qc → (w.setCells qc 5 [.int .u64 (t.c : Int), .float .f64 t.s, .bool t.o, .float .f64 t.lo, .float .f64 t.hi]).heap[k]? = w.heap[k]? := fun k hk => by
    simp only [World.setCells]
    rw [Below.heap_setCell _ _ _ _ hk, Below.heap_setCell _ _ _ _ hk, Below.heap_setCell _ _ _ _ hk, Below.heap_setCell _ _ _ _ hk, Below.heap_setCell _ _ _ _ hk]
  refine ⟨?_, (h0 _ (by omega)).trans h.ra, (h0 _ (by omega)).trans h.rz, ?_, h.q⟩
  · simp only [World.setCells]
    have e1 := heap_setCell_same w qc 5 _ _ (.int .u64 (t.c : Int)) h.rc
    have e2 := heap_setCell_same _ qc 6 _ _ (.float .f64 t.s) e1
    have e3 := heap_setCell_same _ qc 7 _ _ (.bool t.o) e2
    have e4 := heap_setCell_same _ qc 8 _ _ (.float .f64 t.lo) e3
    have e5 := heap_setCell_same _ qc 9 _ _ (.float .f64 t.hi) e4
    exact e5
  · simp only [World.setCells]
    have hp : ∀ j, W.heap.size ≤ (⟨qc, j, none⟩ : Addr).block := fun j => by show _ ≤ qc; omega
    exact ((((h.b.setCell (hp 5) _).setCell (hp 6) _).setCell (hp 7) _).setCell (hp 8) _).setCell (hp 9) _
theorem rangeSet {w : World} {g o : Nat} {cs : List Value} (h : w.rangeAt g o cs) (p : Addr) (v : Value) (hne : ¬ g = p.block) : (w.setCell p v).rangeAt g o cs := fun j u hu => by
  rw [World.cell?_of_block (Below.heap_setCell w p v g hne)]; exact h j u hu
/-- What the rounds hold. -/
def RCH (W : World) (qc : Nat) (a : Acx) (n : Nat) (i : Value) (wr : World) : Prop := ∃ (k : Nat) (c : Chg), k ≤ n ∧ i = .int .i64 k ∧ c.Ok ∧ c.p = actP a ∧ wr.heap[qc]? = some (.cells #[.bool c.put, .int .u64 (c.rev : Int), .string c.p.key, .int .i64 c.p.s, .int .i64 c.p.e, .int .u64 (c.t.c : Int), .float .f64 c.t.s, .bool c.t.o, .float .f64 c.t.lo, .float .f64 c.t.hi] 38 (0, 0)) ∧
  wr.heap[W.heap.size]? = some (.cells #[.bool a.put, .int .u8 (a.key : Int), .int .u8 (a.w : Int), .int .u8 (a.near : Int), .int .u64 (a.t.c : Int), .float .f64 a.t.s, .bool a.t.o, .float .f64 a.t.lo, .float .f64 a.t.hi] 40 (0, 0)) ∧ wr.heap[W.heap.size + 1]? = some (.cells #[.bool false, .int .u64 0, .string { data := #[] }, .int .i64 0, .int .i64 0, .int .u64 0, .float .f64 0, .bool false, .float .f64 0, .float .f64 0] 38 (0, 0)) ∧ Below W.heap.size W wr
set_option maxHeartbeats 8000000 in
theorem change_any (a : Acx) (ha : a.Ok) (A : Option Addr) (n cc : Nat) (l : List Chg) (hn : n = l.length) (h1000 : n ≤ 1000) (hok : ∀ c ∈ l, c.Ok) (W : World) (H : Hid (ChAt W A l)) :
    Calls Try.prog 8 #[.agg #[.bool a.put, .int .u8 (a.key : Int), .int .u8 (a.w : Int), .int .u8 (a.near : Int), .int .u64 (a.t.c : Int), .float .f64 a.t.s, .bool a.t.o, .float .f64 a.t.lo, .float .f64 a.t.hi], .slice A n cc] W fun e w' => (∃ c : Chg, e = .returned (.agg #[.bool c.put, .int .u64 (c.rev : Int), .string c.p.key, .int .i64 c.p.s, .int .i64 c.p.e, .int .u64 (c.t.c : Int), .float .f64 c.t.s, .bool c.t.o, .float .f64 c.t.lo, .float .f64 c.t.hi]) ∧ c.Ok ∧ c.p = actP a) ∧ Below W.heap.size W w' := by
  have HN := Lib.hid hn; have HOK := Lib.hid hok; have HA := Lib.hid ha
  clear hn hok
  have HRA : Hid ((((W.alloc (.cells #[.bool a.put, .int .u8 (a.key : Int), .int .u8 (a.w : Int), .int .u8 (a.near : Int), .int .u64 (a.t.c : Int), .float .f64 a.t.s, .bool a.t.o, .float .f64 a.t.lo, .float .f64 a.t.hi] 40)).alloc (.cells #[.bool false, .int .u64 0, .string { data := #[] }, .int .i64 0, .int .i64 0, .int .u64 0, .float .f64 0, .bool false, .float .f64 0, .float .f64 0] 38)).alloc (.cells #[.string { data := #[97] }, .string { data := #[98] }] 9)).heap[W.heap.size]? = some (.cells #[.bool a.put, .int .u8 (a.key : Int), .int .u8 (a.w : Int), .int .u8 (a.near : Int), .int .u64 (a.t.c : Int), .float .f64 a.t.s, .bool a.t.o, .float .f64 a.t.lo, .float .f64 a.t.hi] 40 (0, 0))) := Lib.hid (row_alloc' (row_alloc' (heap_new' _ _ _ rfl) _) _)
  have HRZ : Hid ((((W.alloc (.cells #[.bool a.put, .int .u8 (a.key : Int), .int .u8 (a.w : Int), .int .u8 (a.near : Int), .int .u64 (a.t.c : Int), .float .f64 a.t.s, .bool a.t.o, .float .f64 a.t.lo, .float .f64 a.t.hi] 40)).alloc (.cells #[.bool false, .int .u64 0, .string { data := #[] }, .int .i64 0, .int .i64 0, .int .u64 0, .float .f64 0, .bool false, .float .f64 0, .float .f64 0] 38)).alloc (.cells #[.string { data := #[97] }, .string { data := #[98] }] 9)).heap[W.heap.size + 1]? = some (.cells #[.bool false, .int .u64 0, .string { data := #[] }, .int .i64 0, .int .i64 0, .int .u64 0, .float .f64 0, .bool false, .float .f64 0, .float .f64 0] 38 (0, 0))) := Lib.hid (row_alloc' (heap_new' _ _ _ (by simp)) _)
  have HRK : Hid ((((W.alloc (.cells #[.bool a.put, .int .u8 (a.key : Int), .int .u8 (a.w : Int), .int .u8 (a.near : Int), .int .u64 (a.t.c : Int), .float .f64 a.t.s, .bool a.t.o, .float .f64 a.t.lo, .float .f64 a.t.hi] 40)).alloc (.cells #[.bool false, .int .u64 0, .string { data := #[] }, .int .i64 0, .int .i64 0, .int .u64 0, .float .f64 0, .bool false, .float .f64 0, .float .f64 0] 38)).alloc (.cells #[.string { data := #[97] }, .string { data := #[98] }] 9)).heap[W.heap.size + 1 + 1]? = some (.cells #[.string { data := #[97] }, .string { data := #[98] }] 9 (0, 0))) := Lib.hid (heap_new' _ _ _ (by simp))
  have HBK : Hid (Below W.heap.size W (((W.alloc (.cells #[.bool a.put, .int .u8 (a.key : Int), .int .u8 (a.w : Int), .int .u8 (a.near : Int), .int .u64 (a.t.c : Int), .float .f64 a.t.s, .bool a.t.o, .float .f64 a.t.lo, .float .f64 a.t.hi] 40)).alloc (.cells #[.bool false, .int .u64 0, .string { data := #[] }, .int .i64 0, .int .i64 0, .int .u64 0, .float .f64 0, .bool false, .float .f64 0, .float .f64 0] 38)).alloc (.cells #[.string { data := #[97] }, .string { data := #[98] }] 9))) := Lib.hid ((((Below.refl _ _).alloc (Nat.le_refl _) _).alloc (by simp) _).alloc (by simp; omega) _)
  have ht2 : ((a.key : Int)).tmod 2 = ((a.key % 2 : Nat) : Int) := tmodU a.key 2
  have ht3 : ((a.w : Int)).tmod 3 = ((a.w % 3 : Nat) : Int) := tmodU a.w 3
  have hcv := convU (a.w % 3) (by omega)
  have HP : Hid (actP a = ⟨keyA a.key, ((a.w % 3 : Nat) : Int), ((a.w % 3 : Nat) : Int) + 5⟩) := Lib.hid rfl
  have HKA : Hid (keyA a.key = if a.key % 2 = 0 then { data := #[97] } else { data := #[98] }) := Lib.hid rfl
  have HKZ := Lib.hid (keyA_small a.key)
  generalize hks : keyA a.key = ks at *
  generalize hkn : a.key % 2 = kn at *
  generalize hwn : a.w % 3 = wn at *
  have hkn2 : kn < 2 := by omega
  have hwn3 : wn < 3 := by omega
  have hkn3 : ¬ (2 ≤ (kn : Int)) := by omega
  have hkn4 : (kn : Int) < 2 := by omega
  clear hks hkn hwn ha
  go_enter Try.func8, Try.ntmps8
  go_upto_region 2 with fail
  generalize World.alloc (World.alloc (World.alloc W _) _) _ = wk at *
  have HQL : Hid (W.heap.size < wk.heap.size) := Lib.hid (Array.getElem?_eq_some_iff.1 HRA.out).1
  have HQ2 : Hid (W.heap.size + 1 + 1 < wk.heap.size) := Lib.hid (Array.getElem?_eq_some_iff.1 HRK.out).1
  have HKS : Hid (∀ w, Below wk.heap.size wk w → w.cell? ⟨W.heap.size + 1 + 1, kn, none⟩ = some (.string ks)) := Lib.hid (fun w hw => by
    have h : wk.cell? ⟨W.heap.size + 1 + 1, kn, none⟩ = some (.string ks) := by
      rw [cell_of_row wk _ kn _ _ _ HRK.out, HKA.out]
      rcases kn with _ | _ | m
      · rfl
      · rfl
      · omega
    exact (hw.cell (p := ⟨W.heap.size + 1 + 1, kn, none⟩) HQ2.out).trans h)
  refine wp_region_held_drew (S := fun w => Below wk.heap.size wk w) (by kernel_rfl) ((Below.refl _ wk).drew) (fun hHeld => ?_)
  refine wpAnyH_take (i := 0) (v := .pointer (some ⟨W.heap.size, 0, none⟩)) rfl (by kernel_rfl) (by kernel_rfl) (by kernel_rfl) (fun _ _ _ h => h) (Or.inl ⟨by rfl, fun w _ => by go_simp⟩) hHeld ?_
  try dsimp only
  try simp only [Act.put, List.getElem_toArray, List.getElem_cons_zero, List.getElem_cons_succ, List.setIfInBounds_toArray, List.set_cons_zero, List.set_cons_succ]
  refine wpAnyH_take (i := 1) (v := .bool a.put) rfl (by kernel_rfl) (by kernel_rfl) (by kernel_rfl) (fun _ _ _ h => h) (Or.inl ⟨by rfl, fun w hw => by have hr9 : w.rangeAt W.heap.size (0) [.bool a.put, .int .u8 (a.key : Int), .int .u8 (a.w : Int), .int .u8 (a.near : Int), .int .u64 (a.t.c : Int), .float .f64 a.t.s, .bool a.t.o, .float .f64 a.t.lo, .float .f64 a.t.hi] := (rangeKeep (rowRange HRA.out) HQL.out hw); have hc : w.cell? ⟨W.heap.size, 0, none⟩ = some (.bool a.put) := (by have h9 := hr9 0 _ rfl; rw [Nat.zero_add] at h9; exact h9); go_simp⟩) hHeld ?_
  try dsimp only
  try simp only [Act.put, List.getElem_toArray, List.getElem_cons_zero, List.getElem_cons_succ, List.setIfInBounds_toArray, List.set_cons_zero, List.set_cons_succ]
  refine wpAnyH_take (i := 2) (v := .slice (some ⟨W.heap.size + 1 + 1, 0, none⟩) 2 2) rfl (by kernel_rfl) (by kernel_rfl) (by kernel_rfl) (fun _ _ _ h => h) (Or.inl ⟨by rfl, fun _ _ => rfl⟩) hHeld ?_
  try dsimp only
  try simp only [Act.put, List.getElem_toArray, List.getElem_cons_zero, List.getElem_cons_succ, List.setIfInBounds_toArray, List.set_cons_zero, List.set_cons_succ]
  refine wpAnyH_take (i := 3) (v := .pointer (some ⟨W.heap.size, 1, none⟩)) rfl (by kernel_rfl) (by kernel_rfl) (by kernel_rfl) (fun _ _ _ h => h) (Or.inl ⟨by rfl, fun w _ => by go_simp⟩) hHeld ?_
  try dsimp only
  try simp only [Act.put, List.getElem_toArray, List.getElem_cons_zero, List.getElem_cons_succ, List.setIfInBounds_toArray, List.set_cons_zero, List.set_cons_succ]
  refine wpAnyH_take (i := 4) (v := .int .u8 (a.key : Int)) rfl (by kernel_rfl) (by kernel_rfl) (by kernel_rfl) (fun _ _ _ h => h) (Or.inl ⟨by rfl, fun w hw => by have hr9 : w.rangeAt W.heap.size (0) [.bool a.put, .int .u8 (a.key : Int), .int .u8 (a.w : Int), .int .u8 (a.near : Int), .int .u64 (a.t.c : Int), .float .f64 a.t.s, .bool a.t.o, .float .f64 a.t.lo, .float .f64 a.t.hi] := (rangeKeep (rowRange HRA.out) HQL.out hw); have hc : w.cell? ⟨W.heap.size, 1, none⟩ = some (.int .u8 (a.key : Int)) := (by have h9 := hr9 1 _ rfl; rw [Nat.zero_add] at h9; exact h9); go_simp⟩) hHeld ?_
  try dsimp only
  try simp only [Act.put, List.getElem_toArray, List.getElem_cons_zero, List.getElem_cons_succ, List.setIfInBounds_toArray, List.set_cons_zero, List.set_cons_succ]
  refine wpAnyH_take (i := 5) (v := .int .u8 (kn : Int)) rfl (by kernel_rfl) (by kernel_rfl) (by kernel_rfl) (fun _ _ _ h => h) (Or.inl ⟨by rfl, fun w _ => by go_simp⟩) hHeld ?_
  try dsimp only
  try simp only [Act.put, List.getElem_toArray, List.getElem_cons_zero, List.getElem_cons_succ, List.setIfInBounds_toArray, List.set_cons_zero, List.set_cons_succ]
  refine wpAnyH_take (i := 6) (v := .pointer (some ⟨W.heap.size + 1 + 1, kn, none⟩)) rfl (by kernel_rfl) (by kernel_rfl) (by kernel_rfl) (fun _ _ _ h => h) (Or.inl ⟨by rfl, fun w _ => by go_simp⟩) hHeld ?_
  try dsimp only
  try simp only [Act.put, List.getElem_toArray, List.getElem_cons_zero, List.getElem_cons_succ, List.setIfInBounds_toArray, List.set_cons_zero, List.set_cons_succ]
  refine wpAnyH_take (i := 7) (v := .string ks) rfl (by kernel_rfl) (by kernel_rfl) (by kernel_rfl) (fun _ _ _ h => h) (Or.inl ⟨by rfl, fun w hw => by have hc : w.cell? ⟨W.heap.size + 1 + 1, kn, none⟩ = some (.string ks) := HKS.out w hw; go_simp⟩) hHeld ?_
  try dsimp only
  try simp only [Act.put, List.getElem_toArray, List.getElem_cons_zero, List.getElem_cons_succ, List.setIfInBounds_toArray, List.set_cons_zero, List.set_cons_succ]
  refine wpAnyH_take (i := 8) (v := .pointer (some ⟨W.heap.size, 2, none⟩)) rfl (by kernel_rfl) (by kernel_rfl) (by kernel_rfl) (fun _ _ _ h => h) (Or.inl ⟨by rfl, fun w _ => by go_simp⟩) hHeld ?_
  try dsimp only
  try simp only [Act.put, List.getElem_toArray, List.getElem_cons_zero, List.getElem_cons_succ, List.setIfInBounds_toArray, List.set_cons_zero, List.set_cons_succ]
  refine wpAnyH_take (i := 9) (v := .int .u8 (a.w : Int)) rfl (by kernel_rfl) (by kernel_rfl) (by kernel_rfl) (fun _ _ _ h => h) (Or.inl ⟨by rfl, fun w hw => by have hr9 : w.rangeAt W.heap.size (0) [.bool a.put, .int .u8 (a.key : Int), .int .u8 (a.w : Int), .int .u8 (a.near : Int), .int .u64 (a.t.c : Int), .float .f64 a.t.s, .bool a.t.o, .float .f64 a.t.lo, .float .f64 a.t.hi] := (rangeKeep (rowRange HRA.out) HQL.out hw); have hc : w.cell? ⟨W.heap.size, 2, none⟩ = some (.int .u8 (a.w : Int)) := (by have h9 := hr9 2 _ rfl; rw [Nat.zero_add] at h9; exact h9); go_simp⟩) hHeld ?_
  try dsimp only
  try simp only [Act.put, List.getElem_toArray, List.getElem_cons_zero, List.getElem_cons_succ, List.setIfInBounds_toArray, List.set_cons_zero, List.set_cons_succ]
  refine wpAnyH_take (i := 10) (v := .int .u8 (wn : Int)) rfl (by kernel_rfl) (by kernel_rfl) (by kernel_rfl) (fun _ _ _ h => h) (Or.inl ⟨by rfl, fun w _ => by go_simp⟩) hHeld ?_
  try dsimp only
  try simp only [Act.put, List.getElem_toArray, List.getElem_cons_zero, List.getElem_cons_succ, List.setIfInBounds_toArray, List.set_cons_zero, List.set_cons_succ]
  refine wpAnyH_take (i := 11) (v := .int .i64 (wn : Int)) rfl (by kernel_rfl) (by kernel_rfl) (by kernel_rfl) (fun _ _ _ h => h) (Or.inl ⟨by rfl, fun w _ => by go_simp⟩) hHeld ?_
  try dsimp only
  try simp only [Act.put, List.getElem_toArray, List.getElem_cons_zero, List.getElem_cons_succ, List.setIfInBounds_toArray, List.set_cons_zero, List.set_cons_succ]
  refine wpAnyH_take (i := 12) (v := .pointer (some ⟨W.heap.size, 2, none⟩)) rfl (by kernel_rfl) (by kernel_rfl) (by kernel_rfl) (fun _ _ _ h => h) (Or.inl ⟨by rfl, fun w _ => by go_simp⟩) hHeld ?_
  try dsimp only
  try simp only [Act.put, List.getElem_toArray, List.getElem_cons_zero, List.getElem_cons_succ, List.setIfInBounds_toArray, List.set_cons_zero, List.set_cons_succ]
  refine wpAnyH_take (i := 13) (v := .int .u8 (a.w : Int)) rfl (by kernel_rfl) (by kernel_rfl) (by kernel_rfl) (fun _ _ _ h => h) (Or.inl ⟨by rfl, fun w hw => by have hr9 : w.rangeAt W.heap.size (0) [.bool a.put, .int .u8 (a.key : Int), .int .u8 (a.w : Int), .int .u8 (a.near : Int), .int .u64 (a.t.c : Int), .float .f64 a.t.s, .bool a.t.o, .float .f64 a.t.lo, .float .f64 a.t.hi] := (rangeKeep (rowRange HRA.out) HQL.out hw); have hc : w.cell? ⟨W.heap.size, 2, none⟩ = some (.int .u8 (a.w : Int)) := (by have h9 := hr9 2 _ rfl; rw [Nat.zero_add] at h9; exact h9); go_simp⟩) hHeld ?_
  try dsimp only
  try simp only [Act.put, List.getElem_toArray, List.getElem_cons_zero, List.getElem_cons_succ, List.setIfInBounds_toArray, List.set_cons_zero, List.set_cons_succ]
  refine wpAnyH_take (i := 14) (v := .int .u8 (wn : Int)) rfl (by kernel_rfl) (by kernel_rfl) (by kernel_rfl) (fun _ _ _ h => h) (Or.inl ⟨by rfl, fun w _ => by go_simp⟩) hHeld ?_
  try dsimp only
  try simp only [Act.put, List.getElem_toArray, List.getElem_cons_zero, List.getElem_cons_succ, List.setIfInBounds_toArray, List.set_cons_zero, List.set_cons_succ]
  refine wpAnyH_take (i := 15) (v := .int .i64 (wn : Int)) rfl (by kernel_rfl) (by kernel_rfl) (by kernel_rfl) (fun _ _ _ h => h) (Or.inl ⟨by rfl, fun w _ => by go_simp⟩) hHeld ?_
  try dsimp only
  try simp only [Act.put, List.getElem_toArray, List.getElem_cons_zero, List.getElem_cons_succ, List.setIfInBounds_toArray, List.set_cons_zero, List.set_cons_succ]
  refine wpAnyH_take (i := 16) (v := .int .i64 ((wn : Int) + 5)) rfl (by kernel_rfl) (by kernel_rfl) (by kernel_rfl) (fun _ _ _ h => h) (Or.inl ⟨by rfl, fun w _ => by go_simp; rw [IntKind.wrap_i64]; omega⟩) hHeld ?_
  try dsimp only
  try simp only [Act.put, List.getElem_toArray, List.getElem_cons_zero, List.getElem_cons_succ, List.setIfInBounds_toArray, List.set_cons_zero, List.set_cons_succ]
  refine wpAnyH_take (i := 17) (v := .agg #[.int .i64 (wn : Int), .int .i64 ((wn : Int) + 5)]) rfl (by kernel_rfl) (by kernel_rfl) (by kernel_rfl) (fun _ _ _ h => h) (Or.inl ⟨by rfl, fun w _ => by go_simp⟩) hHeld ?_
  try dsimp only
  try simp only [Act.put, List.getElem_toArray, List.getElem_cons_zero, List.getElem_cons_succ, List.setIfInBounds_toArray, List.set_cons_zero, List.set_cons_succ]
  refine wpAnyH_take (i := 18) (v := .pointer (some ⟨W.heap.size, 4, none⟩)) rfl (by kernel_rfl) (by kernel_rfl) (by kernel_rfl) (fun _ _ _ h => h) (Or.inl ⟨by rfl, fun w _ => by go_simp⟩) hHeld ?_
  try dsimp only
  try simp only [Act.put, List.getElem_toArray, List.getElem_cons_zero, List.getElem_cons_succ, List.setIfInBounds_toArray, List.set_cons_zero, List.set_cons_succ]
  refine wpAnyH_take (i := 19) (v := .agg [.int .u64 (a.t.c : Int), .float .f64 a.t.s, .bool a.t.o, .float .f64 a.t.lo, .float .f64 a.t.hi].toArray) rfl (by kernel_rfl) (by kernel_rfl) (by kernel_rfl) (fun _ _ _ h => h) (yieldsIf_load_mid rfl 34 (.tmp 27) rfl W.heap.size (4) rfl [.int .u64 (a.t.c : Int), .float .f64 a.t.s, .bool a.t.o, .float .f64 a.t.lo, .float .f64 a.t.hi] _ (fun w hw => rsub (cs := [.bool a.put, .int .u8 (a.key : Int), .int .u8 (a.w : Int), .int .u8 (a.near : Int), .int .u64 (a.t.c : Int), .float .f64 a.t.s, .bool a.t.o, .float .f64 a.t.lo, .float .f64 a.t.hi]) (rangeKeep (rowRange HRA.out) HQL.out hw) 4 5 _ rfl _ (by simp)) uAgg rfl iAgg) hHeld ?_
  try dsimp only
  try simp only [Act.put, List.getElem_toArray, List.getElem_cons_zero, List.getElem_cons_succ, List.setIfInBounds_toArray, List.set_cons_zero, List.set_cons_succ]
  refine wpAnyH_take (i := 20) (v := .agg #[.string ks, .int .i64 (wn : Int), .int .i64 ((wn : Int) + 5), .int .u64 (a.t.c : Int), .float .f64 a.t.s, .bool a.t.o, .float .f64 a.t.lo, .float .f64 a.t.hi]) rfl (by kernel_rfl) (by kernel_rfl) (by kernel_rfl) (fun _ _ _ h => h) (Or.inl ⟨by rfl, fun w _ => by go_simp⟩) hHeld ?_
  try dsimp only
  try simp only [Act.put, List.getElem_toArray, List.getElem_cons_zero, List.getElem_cons_succ, List.setIfInBounds_toArray, List.set_cons_zero, List.set_cons_succ]
  refine wpAnyH_take (i := 21) (v := .agg #[.bool a.put, .int .u64 0, .string ks, .int .i64 (wn : Int), .int .i64 ((wn : Int) + 5), .int .u64 (a.t.c : Int), .float .f64 a.t.s, .bool a.t.o, .float .f64 a.t.lo, .float .f64 a.t.hi]) rfl (by kernel_rfl) (by kernel_rfl) (by kernel_rfl) (fun _ _ _ h => h) (Or.inl ⟨by rfl, fun w _ => by go_simp⟩) hHeld ?_
  try dsimp only
  try simp only [Act.put, List.getElem_toArray, List.getElem_cons_zero, List.getElem_cons_succ, List.setIfInBounds_toArray, List.set_cons_zero, List.set_cons_succ]
  refine wpAnyH_ready (rs := [22]) (by kernel_rfl) (by simp) (AllReadyH.cons rfl (fun K hK => ?_) AllReadyH.nil)
  go_simp
  refine hK.out _ _ ((Below.refl wk.heap.size wk).drew.alloc (Nat.le_refl _) _) (fun hHeld => ?_)
  clear hK K
  try dsimp only
  try simp only [Act.put, List.getElem_toArray, List.getElem_cons_zero, List.getElem_cons_succ, List.setIfInBounds_toArray, List.set_cons_zero, List.set_cons_succ]
  refine wpAnyH_ready (rs := [23]) (by kernel_rfl) (by simp) (AllReadyH.cons rfl (fun K hK => ?_) AllReadyH.nil)
  refine wp_store_row 38 (.tmp 6) (.tmp 30) rfl wk.heap.size #[.bool a.put, .int .u64 0, .string ks, .int .i64 (wn : Int), .int .i64 ((wn : Int) + 5), .int .u64 (a.t.c : Int), .float .f64 a.t.s, .bool a.t.o, .float .f64 a.t.lo, .float .f64 a.t.hi] rfl rfl _ _ (heap_new (World.drew wk) _) iCh rfl (oneCh ⟨a.put, 0, ⟨ks, wn, (wn : Int) + 5⟩, a.t⟩) ?_
  refine hK.out _ _ (belowSetRow ((Below.refl wk.heap.size wk).drew.alloc (Nat.le_refl _) _) (Nat.le_refl _) _) (fun hHeld => ?_)
  clear hK K
  refine wpAnyH_done (by kernel_rfl) ?_ _
  clear hHeld ht2 ht3 hcv hkn3 hkn4
  obtain ⟨qc, hqc⟩ : ∃ qc, qc = wk.heap.size := ⟨_, rfl⟩
  have HC0 : Hid (∃ w2 : World, w2 = (World.drew (wk.alloc (.cells #[.bool false, .int .u64 0, .string { data := #[] }, .int .i64 0, .int .i64 0, .int .u64 0, .float .f64 0, .bool false, .float .f64 0, .float .f64 0] 38))).setRow wk.heap.size #[.bool a.put, .int .u64 0, .string ks, .int .i64 (wn : Int), .int .i64 ((wn : Int) + 5), .int .u64 (a.t.c : Int), .float .f64 a.t.s, .bool a.t.o, .float .f64 a.t.lo, .float .f64 a.t.hi] ∧ w2.heap[qc]? = some (.cells #[.bool a.put, .int .u64 0, .string ks, .int .i64 (wn : Int), .int .i64 ((wn : Int) + 5), .int .u64 (a.t.c : Int), .float .f64 a.t.s, .bool a.t.o, .float .f64 a.t.lo, .float .f64 a.t.hi] 38 (0, 0)) ∧ w2.heap[W.heap.size]? = some (.cells #[.bool a.put, .int .u8 (a.key : Int), .int .u8 (a.w : Int), .int .u8 (a.near : Int), .int .u64 (a.t.c : Int), .float .f64 a.t.s, .bool a.t.o, .float .f64 a.t.lo, .float .f64 a.t.hi] 40 (0, 0)) ∧ w2.heap[W.heap.size + 1]? = some (.cells #[.bool false, .int .u64 0, .string { data := #[] }, .int .i64 0, .int .i64 0, .int .u64 0, .float .f64 0, .bool false, .float .f64 0, .float .f64 0] 38 (0, 0)) ∧ Below W.heap.size W w2) := Lib.hid (by
    refine ⟨_, rfl, ?_, ?_, ?_, ?_⟩
    · rw [hqc]; exact setRow_heap (World.drew (wk.alloc (.cells #[.bool false, .int .u64 0, .string { data := #[] }, .int .i64 0, .int .i64 0, .int .u64 0, .float .f64 0, .bool false, .float .f64 0, .float .f64 0] 38))) _ _ _ _ _ (heap_new wk _)
    · rw [setRow_other _ _ _ _ (by have := HQL.out; omega)]; exact row_alloc' HRA.out _
    · rw [setRow_other _ _ _ _ (by have := HQ2.out; omega)]; exact row_alloc' HRZ.out _
    · exact belowSetRow (HBK.out.alloc HBK.out.size _).drew HBK.out.size _)
  rw [← hqc] at HC0 ⊢
  have HQC0 : Hid (W.heap.size + 1 < qc) := Lib.hid (by rw [hqc]; have := HQ2.out; omega)
  clear hqc HRA HRZ HRK HBK HQL HQ2 HKS
  obtain ⟨w2, hw2, hr2, ha2, hz2, hb2⟩ := HC0.out
  clear HC0
  rw [← hw2]
  clear hw2
  have HST : Hid (RCH W qc a n (.int .i64 0) w2) := Lib.hid ⟨0, ⟨a.put, 0, actP a, a.t⟩, Nat.zero_le _, rfl, ⟨by show (actP a).key.size ≤ 1000; rw [HP.out]; exact HKZ.out, by show 0 < _; decide, ⟨by rw [HP.out]; exact Nat.le_trans HKZ.out (by unfold maxLen; decide), by
      rw [HP.out]
      show (Lit.int .i64 (wn : Int)).wf = true
      exact WalkArith.wf_i64 (by omega), by
      rw [HP.out]
      show (Lit.int .i64 ((wn : Int) + 5)).wf = true
      exact WalkArith.wf_i64 (by omega)⟩, HA.out.t⟩, rfl, by rw [HP.out]; exact hr2, ha2, hz2, hb2⟩
  clear hr2 ha2 hz2 hb2 HP HKA HKZ hkn2 hwn3
  go_wp2
  go_loopw [7] (fun i wr => RCH W qc a n i wr) (fun i _ => n - (intOf i).toNat)
  case atStart => exact HST.out
  case round =>
    obtain ⟨k, c, hkn, rfl, hcok, hcp, hrc, hra, hrz, hb⟩ := hrel
    obtain ⟨wq, hwq9⟩ : ∃ wq, wq = wr := ⟨wr, rfl⟩
    subst hwq9
    have HCO := Lib.hid hcok; have HCP := Lib.hid hcp; have HRC := Lib.hid hrc; have HRA := Lib.hid hra; have HRZ := Lib.hid hrz; have HB := Lib.hid hb
    clear hcok hcp hrc hra hrz hb
    have HQC : Hid (qc < wq.heap.size) := Lib.hid (Array.getElem?_eq_some_iff.1 HRC.out).1
    by_cases hin : k < n
    · obtain ⟨y, hy⟩ : ∃ y, l[k]? = some y := ⟨l[k]'(by have := HN.out; omega), List.getElem?_eq_getElem _⟩
      obtain ⟨ga, off, rfl, hga, hr0⟩ := chr H.out k y hy
      have HX : Hid (wq.rangeAt ga (off + k * 10) y.cells) := Lib.hid (rangeKeep hr0 hga HB.out)
      have HG : Hid (ga < wq.heap.size) := Lib.hid (Nat.lt_of_lt_of_le hga HB.out.size)
      have HYO := Lib.hid (HOK.out y (List.mem_of_getElem? hy))
      have HGW : Hid (ga < W.heap.size) := Lib.hid hga
      clear hr0 hga hy
      have hz : (k : Int) < (n : Int) := by omega
      have hb : (y.p.key.toList == c.p.key.toList) = keyB y.p.key c.p.key := rfl
      have hwq := winEql_run y.p.s y.p.e c.p.s c.p.e
      generalize keyB y.p.key c.p.key = kb at *
      generalize winB y.p.s y.p.e c.p.s c.p.e = wb at *
      cases kb
      · go_upto_region 6 with fail
        refine wp_region_held_drew (S := fun w => Below wq.heap.size wq w) (by kernel_rfl) ((Below.refl _ wq).drew) (fun hHeld => ?_)
        refine wpAnyH_take (i := 0) (v := .slice (some ⟨ga, off, none⟩) n cc) rfl (by kernel_rfl) (by kernel_rfl) (by kernel_rfl) (fun _ _ _ h => h) (Or.inl ⟨by rfl, fun _ _ => rfl⟩) hHeld ?_
        try dsimp only
        try simp only [Act.put, List.getElem_toArray, List.getElem_cons_zero, List.getElem_cons_succ, List.setIfInBounds_toArray, List.set_cons_zero, List.set_cons_succ]
        refine wpAnyH_take (i := 1) (v := .int .i64 (k : Int)) rfl (by kernel_rfl) (by kernel_rfl) (by kernel_rfl) (fun _ _ _ h => h) (Or.inl ⟨by rfl, fun _ _ => rfl⟩) hHeld ?_
        try dsimp only
        try simp only [Act.put, List.getElem_toArray, List.getElem_cons_zero, List.getElem_cons_succ, List.setIfInBounds_toArray, List.set_cons_zero, List.set_cons_succ]
        refine wpAnyH_take (i := 2) (v := .pointer (some ⟨ga, off + k * 10, none⟩)) rfl (by kernel_rfl) (by kernel_rfl) (by kernel_rfl) (fun _ _ _ h => h) (Or.inl ⟨by rfl, fun w _ => by go_simp⟩) hHeld ?_
        try dsimp only
        try simp only [Act.put, List.getElem_toArray, List.getElem_cons_zero, List.getElem_cons_succ, List.setIfInBounds_toArray, List.set_cons_zero, List.set_cons_succ]
        refine wpAnyH_take (i := 3) (v := .pointer (some ⟨ga, off + k * 10 + 2, none⟩)) rfl (by kernel_rfl) (by kernel_rfl) (by kernel_rfl) (fun _ _ _ h => h) (Or.inl ⟨by rfl, fun w _ => by go_simp⟩) hHeld ?_
        try dsimp only
        try simp only [Act.put, List.getElem_toArray, List.getElem_cons_zero, List.getElem_cons_succ, List.setIfInBounds_toArray, List.set_cons_zero, List.set_cons_succ]
        refine wpAnyH_take (i := 4) (v := .pointer (some ⟨ga, off + k * 10 + 2, none⟩)) rfl (by kernel_rfl) (by kernel_rfl) (by kernel_rfl) (fun _ _ _ h => h) (Or.inl ⟨by rfl, fun w _ => by go_simp⟩) hHeld ?_
        try dsimp only
        try simp only [Act.put, List.getElem_toArray, List.getElem_cons_zero, List.getElem_cons_succ, List.setIfInBounds_toArray, List.set_cons_zero, List.set_cons_succ]
        refine wpAnyH_take (i := 5) (v := .string y.p.key) rfl (by kernel_rfl) (by kernel_rfl) (by kernel_rfl) (fun _ _ _ h => h) (Or.inl ⟨by rfl, fun w hw => by have hr9 : w.rangeAt ga (off + k * 10) [.bool y.put, .int .u64 (y.rev : Int), .string y.p.key, .int .i64 y.p.s, .int .i64 y.p.e, .int .u64 (y.t.c : Int), .float .f64 y.t.s, .bool y.t.o, .float .f64 y.t.lo, .float .f64 y.t.hi] := (rangeKeep HX.out HG.out hw); have hc : w.cell? ⟨ga, off + k * 10 + 2, none⟩ = some (.string y.p.key) := hr9 2 _ rfl; go_simp⟩) hHeld ?_
        try dsimp only
        try simp only [Act.put, List.getElem_toArray, List.getElem_cons_zero, List.getElem_cons_succ, List.setIfInBounds_toArray, List.set_cons_zero, List.set_cons_succ]
        refine wpAnyH_take (i := 6) (v := .pointer (some ⟨qc, 2, none⟩)) rfl (by kernel_rfl) (by kernel_rfl) (by kernel_rfl) (fun _ _ _ h => h) (Or.inl ⟨by rfl, fun w _ => by go_simp⟩) hHeld ?_
        try dsimp only
        try simp only [Act.put, List.getElem_toArray, List.getElem_cons_zero, List.getElem_cons_succ, List.setIfInBounds_toArray, List.set_cons_zero, List.set_cons_succ]
        refine wpAnyH_take (i := 7) (v := .pointer (some ⟨qc, 2, none⟩)) rfl (by kernel_rfl) (by kernel_rfl) (by kernel_rfl) (fun _ _ _ h => h) (Or.inl ⟨by rfl, fun w _ => by go_simp⟩) hHeld ?_
        try dsimp only
        try simp only [Act.put, List.getElem_toArray, List.getElem_cons_zero, List.getElem_cons_succ, List.setIfInBounds_toArray, List.set_cons_zero, List.set_cons_succ]
        refine wpAnyH_take (i := 8) (v := .string c.p.key) rfl (by kernel_rfl) (by kernel_rfl) (by kernel_rfl) (fun _ _ _ h => h) (Or.inl ⟨by rfl, fun w hw => by have hr9 : w.rangeAt qc (0) [.bool c.put, .int .u64 (c.rev : Int), .string c.p.key, .int .i64 c.p.s, .int .i64 c.p.e, .int .u64 (c.t.c : Int), .float .f64 c.t.s, .bool c.t.o, .float .f64 c.t.lo, .float .f64 c.t.hi] := (rangeKeep (rowRange HRC.out) HQC.out hw); have hc : w.cell? ⟨qc, 2, none⟩ = some (.string c.p.key) := (by have h9 := hr9 2 _ rfl; rw [Nat.zero_add] at h9; exact h9); go_simp⟩) hHeld ?_
        try dsimp only
        try simp only [Act.put, List.getElem_toArray, List.getElem_cons_zero, List.getElem_cons_succ, List.setIfInBounds_toArray, List.set_cons_zero, List.set_cons_succ]
        refine wpAnyH_take (i := 9) (v := .bool false) rfl (by kernel_rfl) (by kernel_rfl) (by kernel_rfl) (fun _ _ _ h => h) (Or.inl ⟨by rfl, fun w _ => by go_simp⟩) hHeld ?_
        try dsimp only
        try simp only [Act.put, List.getElem_toArray, List.getElem_cons_zero, List.getElem_cons_succ, List.setIfInBounds_toArray, List.set_cons_zero, List.set_cons_succ]
        refine wpAnyH_take (i := 10) (v := .bool false) rfl (by kernel_rfl) (by kernel_rfl) (by kernel_rfl) (fun _ _ _ h => h) (Or.inl ⟨by rfl, fun _ _ => rfl⟩) hHeld ?_
        try dsimp only
        try simp only [Act.put, List.getElem_toArray, List.getElem_cons_zero, List.getElem_cons_succ, List.setIfInBounds_toArray, List.set_cons_zero, List.set_cons_succ]
        refine wpAnyH_take (i := 11) (v := undef) rfl (by kernel_rfl) (by kernel_rfl) (by kernel_rfl) (fun _ _ _ h => h) (Or.inr ⟨by rfl, rfl⟩) hHeld ?_
        try dsimp only
        try simp only [Act.put, List.getElem_toArray, List.getElem_cons_zero, List.getElem_cons_succ, List.setIfInBounds_toArray, List.set_cons_zero, List.set_cons_succ]
        refine wpAnyH_take (i := 12) (v := undef) rfl (by kernel_rfl) (by kernel_rfl) (by kernel_rfl) (fun _ _ _ h => h) (Or.inr ⟨by rfl, rfl⟩) hHeld ?_
        try dsimp only
        try simp only [Act.put, List.getElem_toArray, List.getElem_cons_zero, List.getElem_cons_succ, List.setIfInBounds_toArray, List.set_cons_zero, List.set_cons_succ]
        refine wpAnyH_take (i := 13) (v := undef) rfl (by kernel_rfl) (by kernel_rfl) (by kernel_rfl) (fun _ _ _ h => h) (Or.inr ⟨by rfl, rfl⟩) hHeld ?_
        try dsimp only
        try simp only [Act.put, List.getElem_toArray, List.getElem_cons_zero, List.getElem_cons_succ, List.setIfInBounds_toArray, List.set_cons_zero, List.set_cons_succ]
        refine wpAnyH_take (i := 14) (v := undef) rfl (by kernel_rfl) (by kernel_rfl) (by kernel_rfl) (fun _ _ _ h => h) (Or.inr ⟨by rfl, rfl⟩) hHeld ?_
        try dsimp only
        try simp only [Act.put, List.getElem_toArray, List.getElem_cons_zero, List.getElem_cons_succ, List.setIfInBounds_toArray, List.set_cons_zero, List.set_cons_succ]
        refine wpAnyH_take (i := 15) (v := undef) rfl (by kernel_rfl) (by kernel_rfl) (by kernel_rfl) (fun _ _ _ h => h) (Or.inr ⟨by rfl, rfl⟩) hHeld ?_
        try dsimp only
        try simp only [Act.put, List.getElem_toArray, List.getElem_cons_zero, List.getElem_cons_succ, List.setIfInBounds_toArray, List.set_cons_zero, List.set_cons_succ]
        refine wpAnyH_take (i := 16) (v := undef) rfl (by kernel_rfl) (by kernel_rfl) (by kernel_rfl) (fun _ _ _ h => h) (Or.inr ⟨by rfl, rfl⟩) hHeld ?_
        try dsimp only
        try simp only [Act.put, List.getElem_toArray, List.getElem_cons_zero, List.getElem_cons_succ, List.setIfInBounds_toArray, List.set_cons_zero, List.set_cons_succ]
        refine wpAnyH_take (i := 17) (v := undef) rfl (by kernel_rfl) (by kernel_rfl) (by kernel_rfl) (fun _ _ _ h => h) (Or.inr ⟨by rfl, rfl⟩) hHeld ?_
        try dsimp only
        try simp only [Act.put, List.getElem_toArray, List.getElem_cons_zero, List.getElem_cons_succ, List.setIfInBounds_toArray, List.set_cons_zero, List.set_cons_succ]
        refine wpAnyH_take (i := 18) (v := undef) rfl (by kernel_rfl) (by kernel_rfl) (by kernel_rfl) (fun _ _ _ h => h) (Or.inr ⟨by rfl, rfl⟩) hHeld ?_
        try dsimp only
        try simp only [Act.put, List.getElem_toArray, List.getElem_cons_zero, List.getElem_cons_succ, List.setIfInBounds_toArray, List.set_cons_zero, List.set_cons_succ]
        refine wpAnyH_take (i := 19) (v := undef) rfl (by kernel_rfl) (by kernel_rfl) (by kernel_rfl) (fun _ _ _ h => h) (Or.inr ⟨by rfl, rfl⟩) hHeld ?_
        try dsimp only
        try simp only [Act.put, List.getElem_toArray, List.getElem_cons_zero, List.getElem_cons_succ, List.setIfInBounds_toArray, List.set_cons_zero, List.set_cons_succ]
        refine wpAnyH_take (i := 20) (v := undef) rfl (by kernel_rfl) (by kernel_rfl) (by kernel_rfl) (fun _ _ _ h => h) (Or.inr ⟨by rfl, rfl⟩) hHeld ?_
        try dsimp only
        try simp only [Act.put, List.getElem_toArray, List.getElem_cons_zero, List.getElem_cons_succ, List.setIfInBounds_toArray, List.set_cons_zero, List.set_cons_succ]
        refine wpAnyH_take (i := 21) (v := .bool false) rfl (by kernel_rfl) (by kernel_rfl) (by kernel_rfl) (fun _ _ _ h => h) (Or.inl ⟨by rfl, fun w _ => by go_simp⟩) hHeld ?_
        try dsimp only
        try simp only [Act.put, List.getElem_toArray, List.getElem_cons_zero, List.getElem_cons_succ, List.setIfInBounds_toArray, List.set_cons_zero, List.set_cons_succ]
        refine wpAnyH_done (by kernel_rfl) ?_ _
        clear hHeld hwq hb
        go_wp2
        go_roundw
        case rel => exact ⟨k + 1, c, by omega, by go_num, HCO.out, HCP.out, HRC.out, HRA.out, HRZ.out, HB.out.drew⟩
        case measure => (simp [intOf]; omega)
      · cases wb
        · go_upto_region 6 with fail
          refine wp_region_held_drew (S := fun w => Below wq.heap.size wq w) (by kernel_rfl) ((Below.refl _ wq).drew) (fun hHeld => ?_)
          refine wpAnyH_take (i := 0) (v := .slice (some ⟨ga, off, none⟩) n cc) rfl (by kernel_rfl) (by kernel_rfl) (by kernel_rfl) (fun _ _ _ h => h) (Or.inl ⟨by rfl, fun _ _ => rfl⟩) hHeld ?_
          try dsimp only
          try simp only [Act.put, List.getElem_toArray, List.getElem_cons_zero, List.getElem_cons_succ, List.setIfInBounds_toArray, List.set_cons_zero, List.set_cons_succ]
          refine wpAnyH_take (i := 1) (v := .int .i64 (k : Int)) rfl (by kernel_rfl) (by kernel_rfl) (by kernel_rfl) (fun _ _ _ h => h) (Or.inl ⟨by rfl, fun _ _ => rfl⟩) hHeld ?_
          try dsimp only
          try simp only [Act.put, List.getElem_toArray, List.getElem_cons_zero, List.getElem_cons_succ, List.setIfInBounds_toArray, List.set_cons_zero, List.set_cons_succ]
          refine wpAnyH_take (i := 2) (v := .pointer (some ⟨ga, off + k * 10, none⟩)) rfl (by kernel_rfl) (by kernel_rfl) (by kernel_rfl) (fun _ _ _ h => h) (Or.inl ⟨by rfl, fun w _ => by go_simp⟩) hHeld ?_
          try dsimp only
          try simp only [Act.put, List.getElem_toArray, List.getElem_cons_zero, List.getElem_cons_succ, List.setIfInBounds_toArray, List.set_cons_zero, List.set_cons_succ]
          refine wpAnyH_take (i := 3) (v := .pointer (some ⟨ga, off + k * 10 + 2, none⟩)) rfl (by kernel_rfl) (by kernel_rfl) (by kernel_rfl) (fun _ _ _ h => h) (Or.inl ⟨by rfl, fun w _ => by go_simp⟩) hHeld ?_
          try dsimp only
          try simp only [Act.put, List.getElem_toArray, List.getElem_cons_zero, List.getElem_cons_succ, List.setIfInBounds_toArray, List.set_cons_zero, List.set_cons_succ]
          refine wpAnyH_take (i := 4) (v := .pointer (some ⟨ga, off + k * 10 + 2, none⟩)) rfl (by kernel_rfl) (by kernel_rfl) (by kernel_rfl) (fun _ _ _ h => h) (Or.inl ⟨by rfl, fun w _ => by go_simp⟩) hHeld ?_
          try dsimp only
          try simp only [Act.put, List.getElem_toArray, List.getElem_cons_zero, List.getElem_cons_succ, List.setIfInBounds_toArray, List.set_cons_zero, List.set_cons_succ]
          refine wpAnyH_take (i := 5) (v := .string y.p.key) rfl (by kernel_rfl) (by kernel_rfl) (by kernel_rfl) (fun _ _ _ h => h) (Or.inl ⟨by rfl, fun w hw => by have hr9 : w.rangeAt ga (off + k * 10) [.bool y.put, .int .u64 (y.rev : Int), .string y.p.key, .int .i64 y.p.s, .int .i64 y.p.e, .int .u64 (y.t.c : Int), .float .f64 y.t.s, .bool y.t.o, .float .f64 y.t.lo, .float .f64 y.t.hi] := (rangeKeep HX.out HG.out hw); have hc : w.cell? ⟨ga, off + k * 10 + 2, none⟩ = some (.string y.p.key) := hr9 2 _ rfl; go_simp⟩) hHeld ?_
          try dsimp only
          try simp only [Act.put, List.getElem_toArray, List.getElem_cons_zero, List.getElem_cons_succ, List.setIfInBounds_toArray, List.set_cons_zero, List.set_cons_succ]
          refine wpAnyH_take (i := 6) (v := .pointer (some ⟨qc, 2, none⟩)) rfl (by kernel_rfl) (by kernel_rfl) (by kernel_rfl) (fun _ _ _ h => h) (Or.inl ⟨by rfl, fun w _ => by go_simp⟩) hHeld ?_
          try dsimp only
          try simp only [Act.put, List.getElem_toArray, List.getElem_cons_zero, List.getElem_cons_succ, List.setIfInBounds_toArray, List.set_cons_zero, List.set_cons_succ]
          refine wpAnyH_take (i := 7) (v := .pointer (some ⟨qc, 2, none⟩)) rfl (by kernel_rfl) (by kernel_rfl) (by kernel_rfl) (fun _ _ _ h => h) (Or.inl ⟨by rfl, fun w _ => by go_simp⟩) hHeld ?_
          try dsimp only
          try simp only [Act.put, List.getElem_toArray, List.getElem_cons_zero, List.getElem_cons_succ, List.setIfInBounds_toArray, List.set_cons_zero, List.set_cons_succ]
          refine wpAnyH_take (i := 8) (v := .string c.p.key) rfl (by kernel_rfl) (by kernel_rfl) (by kernel_rfl) (fun _ _ _ h => h) (Or.inl ⟨by rfl, fun w hw => by have hr9 : w.rangeAt qc (0) [.bool c.put, .int .u64 (c.rev : Int), .string c.p.key, .int .i64 c.p.s, .int .i64 c.p.e, .int .u64 (c.t.c : Int), .float .f64 c.t.s, .bool c.t.o, .float .f64 c.t.lo, .float .f64 c.t.hi] := (rangeKeep (rowRange HRC.out) HQC.out hw); have hc : w.cell? ⟨qc, 2, none⟩ = some (.string c.p.key) := (by have h9 := hr9 2 _ rfl; rw [Nat.zero_add] at h9; exact h9); go_simp⟩) hHeld ?_
          try dsimp only
          try simp only [Act.put, List.getElem_toArray, List.getElem_cons_zero, List.getElem_cons_succ, List.setIfInBounds_toArray, List.set_cons_zero, List.set_cons_succ]
          refine wpAnyH_take (i := 9) (v := .bool true) rfl (by kernel_rfl) (by kernel_rfl) (by kernel_rfl) (fun _ _ _ h => h) (Or.inl ⟨by rfl, fun w _ => by go_simp⟩) hHeld ?_
          try dsimp only
          try simp only [Act.put, List.getElem_toArray, List.getElem_cons_zero, List.getElem_cons_succ, List.setIfInBounds_toArray, List.set_cons_zero, List.set_cons_succ]
          refine wpAnyH_take (i := 10) (v := .bool true) rfl (by kernel_rfl) (by kernel_rfl) (by kernel_rfl) (fun _ _ _ h => h) (Or.inl ⟨by rfl, fun _ _ => rfl⟩) hHeld ?_
          try dsimp only
          try simp only [Act.put, List.getElem_toArray, List.getElem_cons_zero, List.getElem_cons_succ, List.setIfInBounds_toArray, List.set_cons_zero, List.set_cons_succ]
          refine wpAnyH_take (i := 11) (v := .slice (some ⟨ga, off, none⟩) n cc) rfl (by kernel_rfl) (by kernel_rfl) (by kernel_rfl) (fun _ _ _ h => h) (Or.inl ⟨by rfl, fun _ _ => rfl⟩) hHeld ?_
          try dsimp only
          try simp only [Act.put, List.getElem_toArray, List.getElem_cons_zero, List.getElem_cons_succ, List.setIfInBounds_toArray, List.set_cons_zero, List.set_cons_succ]
          refine wpAnyH_take (i := 12) (v := .int .i64 (k : Int)) rfl (by kernel_rfl) (by kernel_rfl) (by kernel_rfl) (fun _ _ _ h => h) (Or.inl ⟨by rfl, fun _ _ => rfl⟩) hHeld ?_
          try dsimp only
          try simp only [Act.put, List.getElem_toArray, List.getElem_cons_zero, List.getElem_cons_succ, List.setIfInBounds_toArray, List.set_cons_zero, List.set_cons_succ]
          refine wpAnyH_take (i := 13) (v := .pointer (some ⟨ga, off + k * 10, none⟩)) rfl (by kernel_rfl) (by kernel_rfl) (by kernel_rfl) (fun _ _ _ h => h) (Or.inl ⟨by rfl, fun w _ => by go_simp⟩) hHeld ?_
          try dsimp only
          try simp only [Act.put, List.getElem_toArray, List.getElem_cons_zero, List.getElem_cons_succ, List.setIfInBounds_toArray, List.set_cons_zero, List.set_cons_succ]
          refine wpAnyH_take (i := 14) (v := .pointer (some ⟨ga, off + k * 10 + 2, none⟩)) rfl (by kernel_rfl) (by kernel_rfl) (by kernel_rfl) (fun _ _ _ h => h) (Or.inl ⟨by rfl, fun w _ => by go_simp⟩) hHeld ?_
          try dsimp only
          try simp only [Act.put, List.getElem_toArray, List.getElem_cons_zero, List.getElem_cons_succ, List.setIfInBounds_toArray, List.set_cons_zero, List.set_cons_succ]
          refine wpAnyH_take (i := 15) (v := .pointer (some ⟨ga, off + k * 10 + 3, none⟩)) rfl (by kernel_rfl) (by kernel_rfl) (by kernel_rfl) (fun _ _ _ h => h) (Or.inl ⟨by rfl, fun w _ => by go_simp⟩) hHeld ?_
          try dsimp only
          try simp only [Act.put, List.getElem_toArray, List.getElem_cons_zero, List.getElem_cons_succ, List.setIfInBounds_toArray, List.set_cons_zero, List.set_cons_succ]
          refine wpAnyH_take (i := 16) (v := .agg [.int .i64 y.p.s, .int .i64 y.p.e].toArray) rfl (by kernel_rfl) (by kernel_rfl) (by kernel_rfl) (fun _ _ _ h => h) (yieldsIf_load_mid rfl 31 (.tmp 52) rfl ga (off + k * 10 + 3) rfl [.int .i64 y.p.s, .int .i64 y.p.e] _ (fun w hw => rsub (cs := [.bool y.put, .int .u64 (y.rev : Int), .string y.p.key, .int .i64 y.p.s, .int .i64 y.p.e, .int .u64 (y.t.c : Int), .float .f64 y.t.s, .bool y.t.o, .float .f64 y.t.lo, .float .f64 y.t.hi]) (rangeKeep HX.out HG.out hw) 3 2 _ rfl _ rfl) uWin rfl iWin) hHeld ?_
          try dsimp only
          try simp only [Act.put, List.getElem_toArray, List.getElem_cons_zero, List.getElem_cons_succ, List.setIfInBounds_toArray, List.set_cons_zero, List.set_cons_succ]
          refine wpAnyH_take (i := 17) (v := .pointer (some ⟨qc, 2, none⟩)) rfl (by kernel_rfl) (by kernel_rfl) (by kernel_rfl) (fun _ _ _ h => h) (Or.inl ⟨by rfl, fun w _ => by go_simp⟩) hHeld ?_
          try dsimp only
          try simp only [Act.put, List.getElem_toArray, List.getElem_cons_zero, List.getElem_cons_succ, List.setIfInBounds_toArray, List.set_cons_zero, List.set_cons_succ]
          refine wpAnyH_take (i := 18) (v := .pointer (some ⟨qc, 3, none⟩)) rfl (by kernel_rfl) (by kernel_rfl) (by kernel_rfl) (fun _ _ _ h => h) (Or.inl ⟨by rfl, fun w _ => by go_simp⟩) hHeld ?_
          try dsimp only
          try simp only [Act.put, List.getElem_toArray, List.getElem_cons_zero, List.getElem_cons_succ, List.setIfInBounds_toArray, List.set_cons_zero, List.set_cons_succ]
          refine wpAnyH_take (i := 19) (v := .agg [.int .i64 c.p.s, .int .i64 c.p.e].toArray) rfl (by kernel_rfl) (by kernel_rfl) (by kernel_rfl) (fun _ _ _ h => h) (yieldsIf_load_mid rfl 31 (.tmp 55) rfl qc (3) rfl [.int .i64 c.p.s, .int .i64 c.p.e] _ (fun w hw => rsub (cs := [.bool c.put, .int .u64 (c.rev : Int), .string c.p.key, .int .i64 c.p.s, .int .i64 c.p.e, .int .u64 (c.t.c : Int), .float .f64 c.t.s, .bool c.t.o, .float .f64 c.t.lo, .float .f64 c.t.hi]) (rangeKeep (rowRange HRC.out) HQC.out hw) 3 2 _ rfl _ (by simp)) uWin rfl iWin) hHeld ?_
          try dsimp only
          try simp only [Act.put, List.getElem_toArray, List.getElem_cons_zero, List.getElem_cons_succ, List.setIfInBounds_toArray, List.set_cons_zero, List.set_cons_succ]
          refine wpAnyH_take (i := 20) (v := .bool false) rfl (by kernel_rfl) (by kernel_rfl) (by kernel_rfl) (fun _ _ _ h => h) (Or.inl ⟨by rfl, fun w _ => by go_simp⟩) hHeld ?_
          try dsimp only
          try simp only [Act.put, List.getElem_toArray, List.getElem_cons_zero, List.getElem_cons_succ, List.setIfInBounds_toArray, List.set_cons_zero, List.set_cons_succ]
          refine wpAnyH_take (i := 21) (v := .bool false) rfl (by kernel_rfl) (by kernel_rfl) (by kernel_rfl) (fun _ _ _ h => h) (Or.inl ⟨by rfl, fun w _ => by go_simp⟩) hHeld ?_
          try dsimp only
          try simp only [Act.put, List.getElem_toArray, List.getElem_cons_zero, List.getElem_cons_succ, List.setIfInBounds_toArray, List.set_cons_zero, List.set_cons_succ]
          refine wpAnyH_done (by kernel_rfl) ?_ _
          clear hHeld hwq hb
          go_wp2
          go_roundw
          case rel => exact ⟨k + 1, c, by omega, by go_num, HCO.out, HCP.out, HRC.out, HRA.out, HRZ.out, HB.out.drew⟩
          case measure => (simp [intOf]; omega)
        · go_upto_region 6 with fail
          refine wp_region_held_drew (S := fun w => Below wq.heap.size wq w) (by kernel_rfl) ((Below.refl _ wq).drew) (fun hHeld => ?_)
          refine wpAnyH_take (i := 0) (v := .slice (some ⟨ga, off, none⟩) n cc) rfl (by kernel_rfl) (by kernel_rfl) (by kernel_rfl) (fun _ _ _ h => h) (Or.inl ⟨by rfl, fun _ _ => rfl⟩) hHeld ?_
          try dsimp only
          try simp only [Act.put, List.getElem_toArray, List.getElem_cons_zero, List.getElem_cons_succ, List.setIfInBounds_toArray, List.set_cons_zero, List.set_cons_succ]
          refine wpAnyH_take (i := 1) (v := .int .i64 (k : Int)) rfl (by kernel_rfl) (by kernel_rfl) (by kernel_rfl) (fun _ _ _ h => h) (Or.inl ⟨by rfl, fun _ _ => rfl⟩) hHeld ?_
          try dsimp only
          try simp only [Act.put, List.getElem_toArray, List.getElem_cons_zero, List.getElem_cons_succ, List.setIfInBounds_toArray, List.set_cons_zero, List.set_cons_succ]
          refine wpAnyH_take (i := 2) (v := .pointer (some ⟨ga, off + k * 10, none⟩)) rfl (by kernel_rfl) (by kernel_rfl) (by kernel_rfl) (fun _ _ _ h => h) (Or.inl ⟨by rfl, fun w _ => by go_simp⟩) hHeld ?_
          try dsimp only
          try simp only [Act.put, List.getElem_toArray, List.getElem_cons_zero, List.getElem_cons_succ, List.setIfInBounds_toArray, List.set_cons_zero, List.set_cons_succ]
          refine wpAnyH_take (i := 3) (v := .pointer (some ⟨ga, off + k * 10 + 2, none⟩)) rfl (by kernel_rfl) (by kernel_rfl) (by kernel_rfl) (fun _ _ _ h => h) (Or.inl ⟨by rfl, fun w _ => by go_simp⟩) hHeld ?_
          try dsimp only
          try simp only [Act.put, List.getElem_toArray, List.getElem_cons_zero, List.getElem_cons_succ, List.setIfInBounds_toArray, List.set_cons_zero, List.set_cons_succ]
          refine wpAnyH_take (i := 4) (v := .pointer (some ⟨ga, off + k * 10 + 2, none⟩)) rfl (by kernel_rfl) (by kernel_rfl) (by kernel_rfl) (fun _ _ _ h => h) (Or.inl ⟨by rfl, fun w _ => by go_simp⟩) hHeld ?_
          try dsimp only
          try simp only [Act.put, List.getElem_toArray, List.getElem_cons_zero, List.getElem_cons_succ, List.setIfInBounds_toArray, List.set_cons_zero, List.set_cons_succ]
          refine wpAnyH_take (i := 5) (v := .string y.p.key) rfl (by kernel_rfl) (by kernel_rfl) (by kernel_rfl) (fun _ _ _ h => h) (Or.inl ⟨by rfl, fun w hw => by have hr9 : w.rangeAt ga (off + k * 10) [.bool y.put, .int .u64 (y.rev : Int), .string y.p.key, .int .i64 y.p.s, .int .i64 y.p.e, .int .u64 (y.t.c : Int), .float .f64 y.t.s, .bool y.t.o, .float .f64 y.t.lo, .float .f64 y.t.hi] := (rangeKeep HX.out HG.out hw); have hc : w.cell? ⟨ga, off + k * 10 + 2, none⟩ = some (.string y.p.key) := hr9 2 _ rfl; go_simp⟩) hHeld ?_
          try dsimp only
          try simp only [Act.put, List.getElem_toArray, List.getElem_cons_zero, List.getElem_cons_succ, List.setIfInBounds_toArray, List.set_cons_zero, List.set_cons_succ]
          refine wpAnyH_take (i := 6) (v := .pointer (some ⟨qc, 2, none⟩)) rfl (by kernel_rfl) (by kernel_rfl) (by kernel_rfl) (fun _ _ _ h => h) (Or.inl ⟨by rfl, fun w _ => by go_simp⟩) hHeld ?_
          try dsimp only
          try simp only [Act.put, List.getElem_toArray, List.getElem_cons_zero, List.getElem_cons_succ, List.setIfInBounds_toArray, List.set_cons_zero, List.set_cons_succ]
          refine wpAnyH_take (i := 7) (v := .pointer (some ⟨qc, 2, none⟩)) rfl (by kernel_rfl) (by kernel_rfl) (by kernel_rfl) (fun _ _ _ h => h) (Or.inl ⟨by rfl, fun w _ => by go_simp⟩) hHeld ?_
          try dsimp only
          try simp only [Act.put, List.getElem_toArray, List.getElem_cons_zero, List.getElem_cons_succ, List.setIfInBounds_toArray, List.set_cons_zero, List.set_cons_succ]
          refine wpAnyH_take (i := 8) (v := .string c.p.key) rfl (by kernel_rfl) (by kernel_rfl) (by kernel_rfl) (fun _ _ _ h => h) (Or.inl ⟨by rfl, fun w hw => by have hr9 : w.rangeAt qc (0) [.bool c.put, .int .u64 (c.rev : Int), .string c.p.key, .int .i64 c.p.s, .int .i64 c.p.e, .int .u64 (c.t.c : Int), .float .f64 c.t.s, .bool c.t.o, .float .f64 c.t.lo, .float .f64 c.t.hi] := (rangeKeep (rowRange HRC.out) HQC.out hw); have hc : w.cell? ⟨qc, 2, none⟩ = some (.string c.p.key) := (by have h9 := hr9 2 _ rfl; rw [Nat.zero_add] at h9; exact h9); go_simp⟩) hHeld ?_
          try dsimp only
          try simp only [Act.put, List.getElem_toArray, List.getElem_cons_zero, List.getElem_cons_succ, List.setIfInBounds_toArray, List.set_cons_zero, List.set_cons_succ]
          refine wpAnyH_take (i := 9) (v := .bool true) rfl (by kernel_rfl) (by kernel_rfl) (by kernel_rfl) (fun _ _ _ h => h) (Or.inl ⟨by rfl, fun w _ => by go_simp⟩) hHeld ?_
          try dsimp only
          try simp only [Act.put, List.getElem_toArray, List.getElem_cons_zero, List.getElem_cons_succ, List.setIfInBounds_toArray, List.set_cons_zero, List.set_cons_succ]
          refine wpAnyH_take (i := 10) (v := .bool true) rfl (by kernel_rfl) (by kernel_rfl) (by kernel_rfl) (fun _ _ _ h => h) (Or.inl ⟨by rfl, fun _ _ => rfl⟩) hHeld ?_
          try dsimp only
          try simp only [Act.put, List.getElem_toArray, List.getElem_cons_zero, List.getElem_cons_succ, List.setIfInBounds_toArray, List.set_cons_zero, List.set_cons_succ]
          refine wpAnyH_take (i := 11) (v := .slice (some ⟨ga, off, none⟩) n cc) rfl (by kernel_rfl) (by kernel_rfl) (by kernel_rfl) (fun _ _ _ h => h) (Or.inl ⟨by rfl, fun _ _ => rfl⟩) hHeld ?_
          try dsimp only
          try simp only [Act.put, List.getElem_toArray, List.getElem_cons_zero, List.getElem_cons_succ, List.setIfInBounds_toArray, List.set_cons_zero, List.set_cons_succ]
          refine wpAnyH_take (i := 12) (v := .int .i64 (k : Int)) rfl (by kernel_rfl) (by kernel_rfl) (by kernel_rfl) (fun _ _ _ h => h) (Or.inl ⟨by rfl, fun _ _ => rfl⟩) hHeld ?_
          try dsimp only
          try simp only [Act.put, List.getElem_toArray, List.getElem_cons_zero, List.getElem_cons_succ, List.setIfInBounds_toArray, List.set_cons_zero, List.set_cons_succ]
          refine wpAnyH_take (i := 13) (v := .pointer (some ⟨ga, off + k * 10, none⟩)) rfl (by kernel_rfl) (by kernel_rfl) (by kernel_rfl) (fun _ _ _ h => h) (Or.inl ⟨by rfl, fun w _ => by go_simp⟩) hHeld ?_
          try dsimp only
          try simp only [Act.put, List.getElem_toArray, List.getElem_cons_zero, List.getElem_cons_succ, List.setIfInBounds_toArray, List.set_cons_zero, List.set_cons_succ]
          refine wpAnyH_take (i := 14) (v := .pointer (some ⟨ga, off + k * 10 + 2, none⟩)) rfl (by kernel_rfl) (by kernel_rfl) (by kernel_rfl) (fun _ _ _ h => h) (Or.inl ⟨by rfl, fun w _ => by go_simp⟩) hHeld ?_
          try dsimp only
          try simp only [Act.put, List.getElem_toArray, List.getElem_cons_zero, List.getElem_cons_succ, List.setIfInBounds_toArray, List.set_cons_zero, List.set_cons_succ]
          refine wpAnyH_take (i := 15) (v := .pointer (some ⟨ga, off + k * 10 + 3, none⟩)) rfl (by kernel_rfl) (by kernel_rfl) (by kernel_rfl) (fun _ _ _ h => h) (Or.inl ⟨by rfl, fun w _ => by go_simp⟩) hHeld ?_
          try dsimp only
          try simp only [Act.put, List.getElem_toArray, List.getElem_cons_zero, List.getElem_cons_succ, List.setIfInBounds_toArray, List.set_cons_zero, List.set_cons_succ]
          refine wpAnyH_take (i := 16) (v := .agg [.int .i64 y.p.s, .int .i64 y.p.e].toArray) rfl (by kernel_rfl) (by kernel_rfl) (by kernel_rfl) (fun _ _ _ h => h) (yieldsIf_load_mid rfl 31 (.tmp 52) rfl ga (off + k * 10 + 3) rfl [.int .i64 y.p.s, .int .i64 y.p.e] _ (fun w hw => rsub (cs := [.bool y.put, .int .u64 (y.rev : Int), .string y.p.key, .int .i64 y.p.s, .int .i64 y.p.e, .int .u64 (y.t.c : Int), .float .f64 y.t.s, .bool y.t.o, .float .f64 y.t.lo, .float .f64 y.t.hi]) (rangeKeep HX.out HG.out hw) 3 2 _ rfl _ rfl) uWin rfl iWin) hHeld ?_
          try dsimp only
          try simp only [Act.put, List.getElem_toArray, List.getElem_cons_zero, List.getElem_cons_succ, List.setIfInBounds_toArray, List.set_cons_zero, List.set_cons_succ]
          refine wpAnyH_take (i := 17) (v := .pointer (some ⟨qc, 2, none⟩)) rfl (by kernel_rfl) (by kernel_rfl) (by kernel_rfl) (fun _ _ _ h => h) (Or.inl ⟨by rfl, fun w _ => by go_simp⟩) hHeld ?_
          try dsimp only
          try simp only [Act.put, List.getElem_toArray, List.getElem_cons_zero, List.getElem_cons_succ, List.setIfInBounds_toArray, List.set_cons_zero, List.set_cons_succ]
          refine wpAnyH_take (i := 18) (v := .pointer (some ⟨qc, 3, none⟩)) rfl (by kernel_rfl) (by kernel_rfl) (by kernel_rfl) (fun _ _ _ h => h) (Or.inl ⟨by rfl, fun w _ => by go_simp⟩) hHeld ?_
          try dsimp only
          try simp only [Act.put, List.getElem_toArray, List.getElem_cons_zero, List.getElem_cons_succ, List.setIfInBounds_toArray, List.set_cons_zero, List.set_cons_succ]
          refine wpAnyH_take (i := 19) (v := .agg [.int .i64 c.p.s, .int .i64 c.p.e].toArray) rfl (by kernel_rfl) (by kernel_rfl) (by kernel_rfl) (fun _ _ _ h => h) (yieldsIf_load_mid rfl 31 (.tmp 55) rfl qc (3) rfl [.int .i64 c.p.s, .int .i64 c.p.e] _ (fun w hw => rsub (cs := [.bool c.put, .int .u64 (c.rev : Int), .string c.p.key, .int .i64 c.p.s, .int .i64 c.p.e, .int .u64 (c.t.c : Int), .float .f64 c.t.s, .bool c.t.o, .float .f64 c.t.lo, .float .f64 c.t.hi]) (rangeKeep (rowRange HRC.out) HQC.out hw) 3 2 _ rfl _ (by simp)) uWin rfl iWin) hHeld ?_
          try dsimp only
          try simp only [Act.put, List.getElem_toArray, List.getElem_cons_zero, List.getElem_cons_succ, List.setIfInBounds_toArray, List.set_cons_zero, List.set_cons_succ]
          refine wpAnyH_take (i := 20) (v := .bool true) rfl (by kernel_rfl) (by kernel_rfl) (by kernel_rfl) (fun _ _ _ h => h) (Or.inl ⟨by rfl, fun w _ => by go_simp⟩) hHeld ?_
          try dsimp only
          try simp only [Act.put, List.getElem_toArray, List.getElem_cons_zero, List.getElem_cons_succ, List.setIfInBounds_toArray, List.set_cons_zero, List.set_cons_succ]
          refine wpAnyH_take (i := 21) (v := .bool true) rfl (by kernel_rfl) (by kernel_rfl) (by kernel_rfl) (fun _ _ _ h => h) (Or.inl ⟨by rfl, fun w _ => by go_simp⟩) hHeld ?_
          try dsimp only
          try simp only [Act.put, List.getElem_toArray, List.getElem_cons_zero, List.getElem_cons_succ, List.setIfInBounds_toArray, List.set_cons_zero, List.set_cons_succ]
          refine wpAnyH_done (by kernel_rfl) ?_ _
          clear hHeld hwq hb
          obtain ⟨wd, hwd⟩ : ∃ wd, wd = World.drew wq := ⟨_, rfl⟩
          rw [← hwd]
          have HS1 : Hid (CRow W qc a c wd) := Lib.hid (by rw [hwd]; exact ⟨HRC.out, HRA.out, HRZ.out, HB.out.drew, HQC0.out⟩)
          have HX1 : Hid (wd.rangeAt ga (off + k * 10) y.cells) := Lib.hid (by rw [hwd]; exact HX.out)
          clear hwd
          have hne : ¬ ga = qc := by have := HGW.out; have := HQC0.out; omega
          have hx1 : wd.cell? ⟨ga, off + k * 10 + 1, none⟩ = some (.int .u64 (y.rev : Int)) := HX1.out 1 _ rfl
          have hc1 : wd.cell? ⟨qc, 1, none⟩ = some (.int .u64 (c.rev : Int)) := cell_of_row wd qc 1 _ _ _ HS1.out.rc
          have hf1 : wd.frozen? ⟨qc, 1, none⟩ = false := HS1.out.frozen 1
          go_upto_region 8 with fail
          obtain ⟨we, hwe⟩ : ∃ we, we = wd.setCell ⟨qc, 1, none⟩ (.int .u64 (y.rev : Int)) := ⟨_, rfl⟩
          rw [← hwe]
          have HS2 : Hid (CRow W qc a ⟨c.put, y.rev, c.p, c.t⟩ we) := Lib.hid (by rw [hwe]; exact HS1.out.rev y.rev)
          have HX2 : Hid (we.rangeAt ga (off + k * 10) y.cells) := Lib.hid (by rw [hwe]; exact rangeSet HX1.out _ _ hne)
          clear hwe hx1 hc1 hf1
          have hx0 : we.cell? ⟨ga, off + k * 10, none⟩ = some (.bool y.put) := HX2.out 0 _ rfl
          have hc1 : we.cell? ⟨qc, 1, none⟩ = some (.int .u64 (y.rev : Int)) := cell_of_row we qc 1 _ _ _ HS2.out.rc
          have hf1 : we.frozen? ⟨qc, 1, none⟩ = false := HS2.out.frozen 1
          have ha0 : we.cell? ⟨W.heap.size, 0, none⟩ = some (.bool a.put) := cell_of_row we _ 0 _ _ _ HS2.out.ra
          have HCO2 : Hid (∀ m t', m < 18446744073709551616 → t'.Ok → (⟨c.put, m, c.p, t'⟩ : Chg).Ok) := Lib.hid (fun m t' h1 h2 => ⟨HCO.out.kb, h1, HCO.out.p, h2⟩)
          rcases hyp : y.put with _ | _
          · rw [hyp] at hx0
            obtain ⟨m, hm, em⟩ := u64w ((y.rev : Int) + 1)
            have HM := Lib.hid hm; have HEM := Lib.hid em
            clear hm em hyp
            go_wp2
            go_roundw
            case rel => exact ⟨k + 1, ⟨c.put, m, c.p, c.t⟩, by omega, by go_num, HCO2.out m c.t HM.out HCO.out.t, HCP.out, by rw [HEM.out]; exact (HS2.out.rev m).rc, by rw [HEM.out]; exact (HS2.out.rev m).ra, by rw [HEM.out]; exact (HS2.out.rev m).rz, by rw [HEM.out]; exact (HS2.out.rev m).b⟩
            case measure => (simp [intOf]; omega)
          · rw [hyp] at hx0
            clear hyp
            have hap2 : a.put = false ∨ a.put = true := by cases a.put <;> simp
            rcases hap2 with hap | hap
            · rw [hap] at ha0
              have HAP := Lib.hid hap
              have HXA : Hid (we.rangeAt ga (off + k * 10 + 5) [.int .u64 (y.t.c : Int), .float .f64 y.t.s, .bool y.t.o, .float .f64 y.t.lo, .float .f64 y.t.hi]) := Lib.hid (rsub HX2.out 5 5 _ rfl _ rfl)
              clear hap
              go_wp2_with (first
                | (refine wpList_load_mid rfl 34 (.tmp 82) rfl ga (off + k * 10 + 5) rfl [.int .u64 (y.t.c : Int), .float .f64 y.t.s, .bool y.t.o, .float .f64 y.t.lo, .float .f64 y.t.hi] _ HXA.out uAgg rfl iAgg ?_)
                | (refine wpList_store_mid rfl 34 (.tmp 85) (.tmp 83) rfl qc 5 #[.int .u64 (y.t.c : Int), .float .f64 y.t.s, .bool y.t.o, .float .f64 y.t.lo, .float .f64 y.t.hi] rfl rfl HS2.out.there iAgg (oneAgg y.t) ?_; change wpList _ _ _ _ _ (World.setCells we qc 5 [.int .u64 (y.t.c : Int), .float .f64 y.t.s, .bool y.t.o, .float .f64 y.t.lo, .float .f64 y.t.hi]); have HS3 := Lib.hid (HS2.out.tel y.t); generalize World.setCells we qc 5 _ = wg at HS3 ⊢; try dsimp only [Act.put]))
              go_roundw
              case rel => exact ⟨k + 1, ⟨c.put, y.rev, c.p, y.t⟩, by omega, by go_num, HCO2.out y.rev y.t HYO.out.rev HYO.out.t, HCP.out, HS3.out.rc, HS3.out.ra, HS3.out.rz, HS3.out.b⟩
              case measure => (simp [intOf]; omega)
            · rw [hap] at ha0
              have HAP := Lib.hid hap
              clear hap
              go_wp2
              go_roundw
              case rel => exact ⟨k + 1, ⟨c.put, y.rev, c.p, c.t⟩, by omega, by go_num, HCO2.out y.rev c.t HYO.out.rev HCO.out.t, HCP.out, HS2.out.rc, HS2.out.ra, HS2.out.rz, HS2.out.b⟩
              case measure => (simp [intOf]; omega)
    · have hz : ¬ ((k : Int) < (n : Int)) := by omega
      have HS0 : Hid (CRow W qc a c wq) := Lib.hid ⟨HRC.out, HRA.out, HRZ.out, HB.out, HQC0.out⟩
      have ht3 : ((a.near : Int)).tmod 16 = ((a.near % 16 : Nat) : Int) := tmodU a.near 16
      have ha3 : wq.cell? ⟨W.heap.size, 3, none⟩ = some (.int .u8 (a.near : Int)) := cell_of_row wq _ 3 _ _ _ HRA.out
      have hc1 : wq.cell? ⟨qc, 1, none⟩ = some (.int .u64 (c.rev : Int)) := cell_of_row wq qc 1 _ _ _ HRC.out
      have hf1 : wq.frozen? ⟨qc, 1, none⟩ = false := HS0.out.frozen 1
      have hc5 : wq.cell? ⟨qc, 5, none⟩ = some (.int .u64 (c.t.c : Int)) := cell_of_row wq qc 5 _ _ _ HRC.out
      have hf5 : wq.frozen? ⟨qc, 5, none⟩ = false := HS0.out.frozen 5
      have HCO2 : Hid (∀ m, m < 18446744073709551616 → (⟨c.put, m, c.p, c.t⟩ : Chg).Ok) := Lib.hid (fun m h1 => ⟨HCO.out.kb, h1, HCO.out.p, HCO.out.t⟩)
      have HCO3 : Hid (∀ m, m < 18446744073709551616 → (⟨c.put, c.rev, c.p, ⟨m, c.t.s, c.t.o, c.t.lo, c.t.hi⟩⟩ : Chg).Ok) := Lib.hid (fun m h1 => ⟨HCO.out.kb, HCO.out.rev, HCO.out.p, ⟨h1, HCO.out.t.s, HCO.out.t.lo, HCO.out.t.hi⟩⟩)
      generalize a.near % 16 = nr at *
      clear hin
      by_cases h13 : (nr : Int) = 13
      · obtain ⟨m, hm, em⟩ := u64w ((c.rev : Int) + 1)
        have HM := Lib.hid hm; have HEM := Lib.hid em
        have hn1 : ((nr : Int) == 13) = true := by simpa using h13
        clear hm em h13
        go_upto_region 19 with fail
        rw [HEM.out]
        have HSF := Lib.hid (HS0.out.rev m)
        generalize World.setCell wq _ _ = wf at *
        clear hc1 hf1 hc5 hf5 ha3
        go_wp2_with (first
          | (refine wpList_load_row rfl 38 (.tmp 6) rfl _ rfl _ _ _ _ HSF.out.rc uCh rfl iCh ?_)
          | (refine wpList_store_row rfl 38 (.tmp 4) (.tmp 111) rfl (W.heap.size + 1) #[.bool c.put, .int .u64 (m : Int), .string c.p.key, .int .i64 c.p.s, .int .i64 c.p.e, .int .u64 (c.t.c : Int), .float .f64 c.t.s, .bool c.t.o, .float .f64 c.t.lo, .float .f64 c.t.hi] rfl rfl _ _ HSF.out.rz iCh rfl (oneCh ⟨c.put, m, c.p, c.t⟩) ?_))
        refine post_rowK 4 38 rfl rfl _ _ #[.bool c.put, .int .u64 (m : Int), .string c.p.key, .int .i64 c.p.s, .int .i64 c.p.e, .int .u64 (c.t.c : Int), .float .f64 c.t.s, .bool c.t.o, .float .f64 c.t.lo, .float .f64 c.t.hi] _ _ rfl (setRow_heap _ _ _ _ _ _ HSF.out.rz) uCh rfl iCh ⟨⟨⟨c.put, m, c.p, c.t⟩, rfl, (HCO2.out m HM.out), HCP.out⟩, belowSetRow HSF.out.b (Nat.le_succ _) _⟩
      · have hn1 : ((nr : Int) == 13) = false := by simpa using h13
        by_cases h14 : (nr : Int) = 14
        · obtain ⟨m, hm, em⟩ := u64w ((c.t.c : Int) + 1)
          have HM := Lib.hid hm; have HEM := Lib.hid em
          have hn2 : ((nr : Int) == 14) = true := by simpa using h14
          clear hm em h13 h14
          go_upto_region 19 with fail
          rw [HEM.out]
          have HSF := Lib.hid (HS0.out.cnt m)
          generalize World.setCell wq _ _ = wf at *
          clear hc1 hf1 hc5 hf5 ha3
          go_wp2_with (first
            | (refine wpList_load_row rfl 38 (.tmp 6) rfl _ rfl _ _ _ _ HSF.out.rc uCh rfl iCh ?_)
            | (refine wpList_store_row rfl 38 (.tmp 4) (.tmp 111) rfl (W.heap.size + 1) #[.bool c.put, .int .u64 (c.rev : Int), .string c.p.key, .int .i64 c.p.s, .int .i64 c.p.e, .int .u64 (m : Int), .float .f64 c.t.s, .bool c.t.o, .float .f64 c.t.lo, .float .f64 c.t.hi] rfl rfl _ _ HSF.out.rz iCh rfl (oneCh ⟨c.put, c.rev, c.p, ⟨m, c.t.s, c.t.o, c.t.lo, c.t.hi⟩⟩) ?_))
          refine post_rowK 4 38 rfl rfl _ _ #[.bool c.put, .int .u64 (c.rev : Int), .string c.p.key, .int .i64 c.p.s, .int .i64 c.p.e, .int .u64 (m : Int), .float .f64 c.t.s, .bool c.t.o, .float .f64 c.t.lo, .float .f64 c.t.hi] _ _ rfl (setRow_heap _ _ _ _ _ _ HSF.out.rz) uCh rfl iCh ⟨⟨⟨c.put, c.rev, c.p, ⟨m, c.t.s, c.t.o, c.t.lo, c.t.hi⟩⟩, rfl, (HCO3.out m HM.out), HCP.out⟩, belowSetRow HSF.out.b (Nat.le_succ _) _⟩
        · have hn2 : ((nr : Int) == 14) = false := by simpa using h14
          by_cases h15 : (nr : Int) = 15
          · obtain ⟨m, hm, em⟩ := u64w ((c.rev : Int) - 1)
            have HM := Lib.hid hm; have HEM := Lib.hid em
            have hn3 : ((nr : Int) == 15) = true := by simpa using h15
            clear hm em h13 h14 h15
            go_upto_region 19 with fail
            rw [HEM.out]
            have HSF := Lib.hid (HS0.out.rev m)
            generalize World.setCell wq _ _ = wf at *
            clear hc1 hf1 hc5 hf5 ha3
            go_wp2_with (first
              | (refine wpList_load_row rfl 38 (.tmp 6) rfl _ rfl _ _ _ _ HSF.out.rc uCh rfl iCh ?_)
              | (refine wpList_store_row rfl 38 (.tmp 4) (.tmp 111) rfl (W.heap.size + 1) #[.bool c.put, .int .u64 (m : Int), .string c.p.key, .int .i64 c.p.s, .int .i64 c.p.e, .int .u64 (c.t.c : Int), .float .f64 c.t.s, .bool c.t.o, .float .f64 c.t.lo, .float .f64 c.t.hi] rfl rfl _ _ HSF.out.rz iCh rfl (oneCh ⟨c.put, m, c.p, c.t⟩) ?_))
            refine post_rowK 4 38 rfl rfl _ _ #[.bool c.put, .int .u64 (m : Int), .string c.p.key, .int .i64 c.p.s, .int .i64 c.p.e, .int .u64 (c.t.c : Int), .float .f64 c.t.s, .bool c.t.o, .float .f64 c.t.lo, .float .f64 c.t.hi] _ _ rfl (setRow_heap _ _ _ _ _ _ HSF.out.rz) uCh rfl iCh ⟨⟨⟨c.put, m, c.p, c.t⟩, rfl, (HCO2.out m HM.out), HCP.out⟩, belowSetRow HSF.out.b (Nat.le_succ _) _⟩
          · have hn3 : ((nr : Int) == 15) = false := by simpa using h15
            clear h13 h14 h15 hc1 hf1 hc5 hf5
            go_upto_region 19 with fail
            clear ha3
            obtain ⟨wf, hwf⟩ : ∃ wf, wf = wq := ⟨wq, rfl⟩
            rw [← hwf] at HS0 ⊢
            have HSF := HS0
            clear hwf
            go_wp2_with (first
              | (refine wpList_load_row rfl 38 (.tmp 6) rfl _ rfl _ _ _ _ HSF.out.rc uCh rfl iCh ?_)
              | (refine wpList_store_row rfl 38 (.tmp 4) (.tmp 111) rfl (W.heap.size + 1) #[.bool c.put, .int .u64 (c.rev : Int), .string c.p.key, .int .i64 c.p.s, .int .i64 c.p.e, .int .u64 (c.t.c : Int), .float .f64 c.t.s, .bool c.t.o, .float .f64 c.t.lo, .float .f64 c.t.hi] rfl rfl _ _ HSF.out.rz iCh rfl (oneCh ⟨c.put, c.rev, c.p, c.t⟩) ?_))
            refine post_rowK 4 38 rfl rfl _ _ #[.bool c.put, .int .u64 (c.rev : Int), .string c.p.key, .int .i64 c.p.s, .int .i64 c.p.e, .int .u64 (c.t.c : Int), .float .f64 c.t.s, .bool c.t.o, .float .f64 c.t.lo, .float .f64 c.t.hi] _ _ rfl (setRow_heap _ _ _ _ _ _ HSF.out.rz) uCh rfl iCh ⟨⟨⟨c.put, c.rev, c.p, c.t⟩, rfl, (HCO2.out c.rev HCO.out.rev), HCP.out⟩, belowSetRow HSF.out.b (Nat.le_succ _) _⟩
end Go.Proofs.Ytkhldnihboklaaa
