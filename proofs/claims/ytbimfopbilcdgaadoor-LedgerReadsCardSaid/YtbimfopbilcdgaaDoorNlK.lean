/-
  Layer ledger: places held against one another; the document's Before.
-/
import Derived.Laws.StructEq
import Derived.Test.YtbimfopbilcdgaaDoorNkK
import Derived.Test.YtbimfopbilcdgaaDoorEaK
set_option linter.unusedSimpArgs false
set_option linter.unusedVariables false
set_option maxRecDepth 8000
namespace Go.Proofs.YtbimfopbilcdgaaDoor
open Go.RowKit Go.Sort

theorem rsub {w : World} {g o : Nat} {cs : List Value} (h : w.rangeAt g o cs) (a n : Nat) (cs' : List Value) (hcs : (cs.drop a).take n = cs') (o' : Nat) (ho : o + a = o') : w.rangeAt g o' cs' := fun j v hv => by
  subst hcs; subst ho
  rw [List.getElem?_take] at hv
  split at hv
  · rw [List.getElem?_drop] at hv
    have := h (a + j) v hv
    rwa [← Nat.add_assoc] at this
  · cases hv
theorem rowRange {w : World} {g : Nat} {cs : List Value} {T : TypeId} {fr : Nat × Nat} (h : w.heap[g]? = some (.cells cs.toArray T fr)) : w.rangeAt g 0 cs := fun j v hv => by
  rw [Nat.zero_add, cell_of_row w g j _ _ _ h]; simpa using hv
theorem rangeKeep {w w' : World} {g o : Nat} {cs : List Value} (h : w.rangeAt g o cs) (hg : g < w.heap.size) (hb : Below w.heap.size w w') : w'.rangeAt g o cs := fun j v hv => (hb.cell (p := ⟨g, o + j, none⟩) hg).trans (h j v hv)
theorem uWin : Tryd.prog.underlying 34 = some (.struct (Tryd.prog.fieldsOf 34)) := by kernel_rfl
theorem iWin : (Tryd.prog.info? 34).map (·.size) = some 2 := by kernel_rfl
theorem uAgg : Tryd.prog.underlying 38 = some (.struct (Tryd.prog.fieldsOf 38)) := by kernel_rfl
theorem iAgg : (Tryd.prog.info? 38).map (·.size) = some 5 := by kernel_rfl
def keyB (a b : ByteArray) : Bool := a.toList == b.toList
theorem keyB_iff (a b : ByteArray) : keyB a b = true ↔ a = b := by
  unfold keyB
  rw [beq_iff_eq, ByteArray.toList_eq, ByteArray.toList_eq]
  constructor
  · intro h
    cases a; cases b
    congr
    exact Array.toList_inj.1 h
  · rintro rfl; rfl
theorem keyB_no {a b : ByteArray} (h : a ≠ b) : keyB a b = false := by
  cases hk : keyB a b
  · rfl
  · exact absurd ((keyB_iff a b).1 hk) h
def winB (a b c d : Int) : Bool := decide (a = c) && decide (b = d)
theorem winEqual (a b c d : Int) (w : World) : (Op.equalIn 10000 34 (.agg #[.int .i64 a, .int .i64 b]) (.agg #[.int .i64 c, .int .i64 d])).run Tryd.prog w = .ok (winB a b c d) w := by
  unfold winB
  go_simp
  by_cases h1 : a = c <;> by_cases h2 : b = d <;> simp [h1, h2]
theorem winEql_run (a b c d : Int) (w : World) : (binOp .eql 34 (.agg #[.int .i64 a, .int .i64 b]) (.agg #[.int .i64 c, .int .i64 d])).run Tryd.prog w = .ok (.bool (winB a b c d)) w := by
  rw [run_eql_struct, winEqual]; rfl
theorem winNeq_run (a b c d : Int) (w : World) : (binOp .neq 34 (.agg #[.int .i64 a, .int .i64 b]) (.agg #[.int .i64 c, .int .i64 d])).run Tryd.prog w = .ok (.bool (!winB a b c d)) w := by
  rw [run_neq_struct, winEqual]; rfl
theorem pl_eq (p q : Pl) : p = q ↔ keyB p.key q.key = true ∧ winB p.s p.e q.s q.e = true := by
  unfold winB
  rw [keyB_iff, Bool.and_eq_true, decide_eq_true_eq, decide_eq_true_eq]
  constructor
  · rintro rfl; exact ⟨rfl, rfl, rfl⟩
  · rintro ⟨h1, h2, h3⟩
    obtain ⟨a, b, c⟩ := p
    obtain ⟨a', b', c'⟩ := q
    simp only at h1 h2 h3
    rw [h1, h2, h3]
/-- Does a place stand ahead? -/
def plB (p q : Pl) : Bool := decide (plCmp p q < 0)
theorem plB_key (p q : Pl) (h : keyB p.key q.key = false) : plB p q = Op.bytesLess p.key.toList q.key.toList := by
  unfold keyB at h
  rw [ByteArray.toList_eq, ByteArray.toList_eq] at h
  unfold plB plCmp cmpK or3
  rw [cmp_less, h, ByteArray.toList_eq, ByteArray.toList_eq]
  cases Op.bytesLess p.key.data.toList q.key.data.toList <;> simp
theorem plB_s (p q : Pl) (h : keyB p.key q.key = true) (ht : p.s ≠ q.s) : plB p q = decide (p.s < q.s) := by
  have hk := (keyB_iff _ _).1 h
  unfold plB plCmp or3
  rw [hk, ek_self, decide_eq_decide]
  unfold cmpI
  by_cases h1 : p.s < q.s
  · simp [h1]
  · have h2 : q.s < p.s := by omega
    simp [h1, h2]
theorem plB_e (p q : Pl) (h : keyB p.key q.key = true) (ht : p.s = q.s) : plB p q = decide (p.e < q.e) := by
  have hk := (keyB_iff _ _).1 h
  unfold plB plCmp or3
  rw [hk, ek_self, decide_eq_decide]
  unfold cmpI
  rw [ht]
  by_cases h1 : p.e < q.e
  · simp [h1]
  · by_cases h2 : q.e < p.e
    · simp [h1, h2]
    · simp [h1, h2]
end Go.Proofs.YtbimfopbilcdgaaDoor

set_option linter.unusedSimpArgs false
set_option linter.unusedVariables false
set_option maxRecDepth 8000
namespace Go.Proofs.YtbimfopbilcdgaaDoor
open Go.RowKit Go.Sort

theorem Kept.ofB {S : Nat → Prop} {w w' : World} (h : Below w.heap.size w w') : Kept S w w' := Kept.of_below h
theorem oneAgg (t : Tel) : (#[.int .u64 (t.c : Int), .float .f64 t.s, .bool t.o, .float .f64 t.lo, .float .f64 t.hi] : Array Value).all (·.oneCell') = true := all_oneCell_toArray fun v hv => by
  simp only [List.mem_cons, List.not_mem_nil, or_false] at hv
  rcases hv with rfl | rfl | rfl | rfl | rfl <;> rfl
/-- What its rounds hold. -/
def RNX (W : World) (l : List Chg) (cc : Chg) (u v i : Value) (wr : World) : Prop := ∃ (k : Nat) (x : Pn) (t : Tel), k ≤ l.length ∧ i = .int .i64 k ∧ x = (lastF (l.take k) cc.p).getD p0 ∧ u = .bool x.th ∧ v = .int .u64 (x.rev : Int) ∧ t.Ok ∧ (x.th = true → t = x.t) ∧
  wr.heap[W.heap.size]? = some (.cells #[.bool cc.put, .int .u64 (cc.rev : Int), .string cc.p.key, .int .i64 cc.p.s, .int .i64 cc.p.e, .int .u64 (cc.t.c : Int), .float .f64 cc.t.s, .bool cc.t.o, .float .f64 cc.t.lo, .float .f64 cc.t.hi] 43 (0, 0)) ∧ wr.heap[W.heap.size + 1]? = some (.cells #[.int .u64 (t.c : Int), .float .f64 t.s, .bool t.o, .float .f64 t.lo, .float .f64 t.hi] 38 (0, 0)) ∧ Below W.heap.size W wr
theorem mayB_put {x : Pn} {c : Chg} (h : c.put = true) : mayB x c = (!x.th && decide ((c.rev : Int) = (x.rev : Int))) := by
  have e : decide ((c.rev : Int) = (x.rev : Int)) = decide (c.rev = x.rev) := by rw [decide_eq_decide]; omega
  rw [e]; unfold mayB; rw [h]; cases x.th <;> simp
theorem mayB_not {x : Pn} {c : Chg} (h : c.put = false) : mayB x c = (x.th && decide ((c.rev : Int) = (x.rev : Int)) && telB c.t x.t) := by
  have e : decide ((c.rev : Int) = (x.rev : Int)) = decide (c.rev = x.rev) := by rw [decide_eq_decide]; omega
  rw [e]; unfold mayB; rw [h]; cases x.th <;> simp
end Go.Proofs.YtbimfopbilcdgaaDoor
