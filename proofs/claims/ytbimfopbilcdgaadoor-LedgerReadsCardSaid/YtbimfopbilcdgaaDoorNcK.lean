/-
  Layer ledger: is a change next of a pane; the pane behind it.
-/
import Derived.Deep.WholeRow
import Derived.Deep.MidRow
import Derived.Test.YtbimfopbilcdgaaDoorNbK
set_option linter.unusedSimpArgs false
set_option linter.unusedVariables false
set_option maxRecDepth 8000
namespace Go.Proofs.YtbimfopbilcdgaaDoor
open Go.RowKit Go.Sort

/-- Is a change next of a pane? -/
def mayB (x : Pn) (c : Chg) : Bool := !(decide (c.put = x.th)) && decide (c.rev = x.rev) && (c.put || telB c.t x.t)
/-- The pane behind a change. -/
def stepA (c : Chg) : Pn := if c.put then ⟨true, c.rev, c.t⟩ else ⟨false, c.rev + 1, t0⟩
theorem t0_ok : t0.Ok := ⟨by decide, by decide, by decide, by decide⟩
theorem stepA_ok (c : Chg) (hc : c.Ok) (hr : c.rev < 9223372036854775807) : (stepA c).Ok := by
  unfold stepA
  split
  · exact ⟨hc.rev, hc.t⟩
  · exact ⟨by show c.rev + 1 < _; omega, t0_ok⟩
theorem post_rowK {P : Program} {fn : Func} {R : Ending → World → Prop} {a : Act} {w : World} (p : Tmp) (ty : TypeId) (h : fn.results = #[.cell p ty]) (hd : a.defers = []) (g : Nat) (t : TypeId) (cs : Array Value) (fr : Nat × Nat) (d : TypeDesc)
    (hp : a.tmps.getD p undef = .pointer (some ⟨g, 0, none⟩)) (hg : w.heap[g]? = some (.cells cs t fr))
    (hu : P.underlying ty = some d) (hr : (match d with | .struct _ | .array _ _ => true | _ => false) = true) (hi : (P.info? ty).map (·.size) = some cs.size)
    (hR : R (.returned (.agg cs)) w) : bodyPost P fn R .ret a w := ⟨hd, _, results_cell_row h a.tmps w g t cs fr d hp hg hu hr hi, hR⟩
theorem heap_new' (w : World) (g : Nat) (o : Obj) (hg : g = w.heap.size) : (w.alloc o).heap[g]? = some o := by subst hg; exact heap_new w o
theorem wpList_store_fresh {ops : Array Oper} {rest : List Oper} {o : Oper} {a : Act} {w0 : World} {Q : Exit → Act → World → Prop} (hgd : o.guard = none) (ty : TypeId) (x y : Operand) (ho : o.op = .store ty x y)
    (g : Nat) (c c' : Array Value) (t : TypeId) (hx : a.eval x = .pointer (some ⟨g, 0, none⟩)) (hgs : g = w0.heap.size) (hy : a.eval y = .agg c') (hi : (Tryd.prog.info? ty).map (·.size) = some c'.size) (hcc : c.size = c'.size) (h1 : c'.all (·.oneCell') = true)
    (h : wpList Tryd.prog ops Q rest (a.put o.dst undef) (w0.alloc (.cells c' t))) : wpList Tryd.prog ops Q (o :: rest) a (w0.alloc (.cells c t)) := by
  subst hgs
  refine wpList_store_row hgd ty x y ho w0.heap.size c' hx hy t c (heap_new w0 _) hi hcc h1 ?_
  rw [World.setRow_alloc_new]; exact h
theorem onePn (x : Pn) : (#[.bool x.th, .int .u64 (x.rev : Int), .int .u64 (x.t.c : Int), .float .f64 x.t.s, .bool x.t.o, .float .f64 x.t.lo, .float .f64 x.t.hi] : Array Value).all (·.oneCell') = true := all_oneCell_toArray fun v hv => by
  simp only [List.mem_cons, List.not_mem_nil, or_false] at hv
  rcases hv with rfl | rfl | rfl | rfl | rfl | rfl | rfl <;> rfl
theorem oneCh (c : Chg) : (#[.bool c.put, .int .u64 (c.rev : Int), .string c.p.key, .int .i64 c.p.s, .int .i64 c.p.e, .int .u64 (c.t.c : Int), .float .f64 c.t.s, .bool c.t.o, .float .f64 c.t.lo, .float .f64 c.t.hi] : Array Value).all (·.oneCell') = true := all_oneCell_toArray (ch_one c)
theorem onePw (c : Pw) : (#[.string c.p.key, .int .i64 c.p.s, .int .i64 c.p.e, .int .u64 (c.t.c : Int), .float .f64 c.t.s, .bool c.t.o, .float .f64 c.t.lo, .float .f64 c.t.hi] : Array Value).all (·.oneCell') = true := all_oneCell_toArray (pw_one c)
theorem onePl (p : Pl) : (#[.string p.key, .int .i64 p.s, .int .i64 p.e] : Array Value).all (·.oneCell') = true := all_oneCell_toArray fun v hv => by
  simp only [List.mem_cons, List.not_mem_nil, or_false] at hv
  rcases hv with rfl | rfl | rfl <;> rfl
theorem iPn : (Tryd.prog.info? 64).map (·.size) = some 7 := by kernel_rfl
theorem iPl : (Tryd.prog.info? 62).map (·.size) = some 3 := by kernel_rfl
theorem iCh : (Tryd.prog.info? 43).map (·.size) = some 10 := by kernel_rfl
theorem iPw : (Tryd.prog.info? 40).map (·.size) = some 8 := by kernel_rfl
theorem uCh : Tryd.prog.underlying 43 = some (.struct (Tryd.prog.fieldsOf 43)) := by kernel_rfl
theorem uPw : Tryd.prog.underlying 40 = some (.struct (Tryd.prog.fieldsOf 40)) := by kernel_rfl
theorem uPn : Tryd.prog.underlying 64 = some (.struct (Tryd.prog.fieldsOf 64)) := by kernel_rfl
theorem uPl : Tryd.prog.underlying 62 = some (.struct (Tryd.prog.fieldsOf 62)) := by kernel_rfl
def mayBoxes (w : World) (x : Pn) (c : Chg) : World := (w.alloc (.cells #[.bool x.th, .int .u64 (x.rev : Int), .int .u64 (x.t.c : Int), .float .f64 x.t.s, .bool x.t.o, .float .f64 x.t.lo, .float .f64 x.t.hi] 64)).alloc (.cells #[.bool c.put, .int .u64 (c.rev : Int), .string c.p.key, .int .i64 c.p.s, .int .i64 c.p.e, .int .u64 (c.t.c : Int), .float .f64 c.t.s, .bool c.t.o, .float .f64 c.t.lo, .float .f64 c.t.hi] 43)
theorem mayBoxes_below (w : World) (x : Pn) (c : Chg) : Below w.heap.size w (mayBoxes w x c) := ((Below.refl w.heap.size w).alloc (Nat.le_refl _) _).alloc (by simp) _

set_option maxHeartbeats 4000000 in
theorem mayBe_any (x : Pn) (c : Chg) (hx : x.Ok) (hc : c.Ok) (w : World) : Calls Tryd.prog 36 #[.agg #[.bool x.th, .int .u64 (x.rev : Int), .int .u64 (x.t.c : Int), .float .f64 x.t.s, .bool x.t.o, .float .f64 x.t.lo, .float .f64 x.t.hi], .agg #[.bool c.put, .int .u64 (c.rev : Int), .string c.p.key, .int .i64 c.p.s, .int .i64 c.p.e, .int .u64 (c.t.c : Int), .float .f64 c.t.s, .bool c.t.o, .float .f64 c.t.lo, .float .f64 c.t.hi]] w fun e w' => e = .returned (.bool (mayB x c)) ∧ Below w.heap.size w w' := by
  have HB := Lib.hid (mayBoxes_below w x c)
  unfold mayBoxes at HB
  have HS := Lib.hid fun w => aggSame_any c.t x.t hc.t hx.t w
  have HR : Hid (mayB x c = (!(decide (c.put = x.th)) && decide (c.rev = x.rev) && (c.put || telB c.t x.t))) := Lib.hid rfl
  generalize mayB x c = r at *
  generalize telB c.t x.t = s at *
  clear hx hc
  obtain ⟨th, rev, tt⟩ := x
  obtain ⟨put, crev, p, ct⟩ := c
  dsimp only at *
  by_cases hr : crev = rev
  · subst hr
    cases put <;> cases th
    all_goals
      go_enter Tryd.func36, Tryd.ntmps36
      go_wp2_with (go_at_call 54; with_reducible refine (HS.out _).mono ?_; rintro e w' ⟨rfl, hb⟩; have HD := Lib.hid hb; clear hb)
      go_ret
      first
        | exact ⟨ret_eq (by rw [HR.out]; simp), HB.out⟩
        | exact ⟨ret_eq (by rw [HR.out]; simp), bto HB.out HD.out⟩
  · have hr' : ¬ ((crev : Int) = (rev : Int)) := by omega
    have HN := Lib.hid hr
    clear hr
    cases put <;> cases th
    all_goals
      go_enter Tryd.func36, Tryd.ntmps36
      go_wp2
      go_ret
      exact ⟨ret_eq (by rw [HR.out, decide_eq_false HN.out]; simp), HB.out⟩

set_option maxHeartbeats 4000000 in
theorem behind_any (x : Pn) (c : Chg) (hr : c.rev < 9223372036854775807) (w : World) : Calls Tryd.prog 37 #[.agg #[.bool x.th, .int .u64 (x.rev : Int), .int .u64 (x.t.c : Int), .float .f64 x.t.s, .bool x.t.o, .float .f64 x.t.lo, .float .f64 x.t.hi], .agg #[.bool c.put, .int .u64 (c.rev : Int), .string c.p.key, .int .i64 c.p.s, .int .i64 c.p.e, .int .u64 (c.t.c : Int), .float .f64 c.t.s, .bool c.t.o, .float .f64 c.t.lo, .float .f64 c.t.hi]] w fun e w' => e = .returned (.agg #[.bool (stepA c).th, .int .u64 ((stepA c).rev : Int), .int .u64 ((stepA c).t.c : Int), .float .f64 (stepA c).t.s, .bool (stepA c).t.o, .float .f64 (stepA c).t.lo, .float .f64 (stepA c).t.hi]) ∧ Below w.heap.size w w' := by
  have HB := Lib.hid (mayBoxes_below w x c)
  unfold mayBoxes at HB
  obtain ⟨put, crev, p, ct⟩ := c
  dsimp only at *
  cases put
  · have HO := Lib.hid (onePn (stepA ⟨false, crev, p, ct⟩))
    go_enter Tryd.func37, Tryd.ntmps37
    go_wp2_with (refine wpList_store_fresh rfl 64 (.tmp 4) (.tmp 16) rfl _ _ _ _ rfl (by simp) rfl iPn rfl HO.out ?_)
    refine post_rowK 4 64 rfl rfl _ _ #[.bool false, .int .u64 ((crev : Int) + 1), .int .u64 0, .float .f64 0, .bool false, .float .f64 0, .float .f64 0] _ _ rfl (heap_new' _ _ _ (by simp)) uPn rfl iPn ⟨rfl, HB.out.alloc (by simp; omega) _⟩
  · have HO := Lib.hid (onePn (stepA ⟨true, crev, p, ct⟩))
    go_enter Tryd.func37, Tryd.ntmps37
    go_wp2_with (refine wpList_store_fresh rfl 64 (.tmp 4) (.tmp 12) rfl _ _ _ _ rfl (by simp) rfl iPn rfl HO.out ?_)
    refine post_rowK 4 64 rfl rfl _ _ #[.bool true, .int .u64 (crev : Int), .int .u64 (ct.c : Int), .float .f64 ct.s, .bool ct.o, .float .f64 ct.lo, .float .f64 ct.hi] _ _ rfl (heap_new' _ _ _ (by simp)) uPn rfl iPn ⟨rfl, HB.out.alloc (by simp; omega) _⟩
end Go.Proofs.YtbimfopbilcdgaaDoor
