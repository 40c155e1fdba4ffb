/-
  Layer agg: tellings; Same of both sides.
-/
import Derived.Test.YtbimfopbilcdgaaDoorWaK
import Derived.Test.YtbimfopbilcdgaaDoorByK
set_option linter.unusedSimpArgs false
set_option linter.unusedVariables false
set_option maxRecDepth 8000
namespace Go.Proofs.YtbimfopbilcdgaaDoor
open Go.RowKit
/-- A telling: how many, their sum (its bits), is it over, the least, the greatest. -/
structure Tel where
  c : Nat
  s : Nat
  o : Bool
  lo : Nat
  hi : Nat
structure Tel.Ok (t : Tel) : Prop where
  c : t.c < 18446744073709551616
  s : t.s < 18446744073709551616
  lo : t.lo < 18446744073709551616
  hi : t.hi < 18446744073709551616
def telB (a b : Tel) : Bool := decide ((a.c : Int) = (b.c : Int)) && decide (a.o = b.o) && decide (Fl.canon a.s = Fl.canon b.s) && decide (Fl.canon a.lo = Fl.canon b.lo) && decide (Fl.canon a.hi = Fl.canon b.hi)
def parts5 (c o r1 r2 r3 s : Bool) : Prop := s = (c && o && r1 && r2 && r3)
theorem parts5' {c o r1 r2 r3 s : Bool} (h : parts5 c o r1 r2 r3 s) : s = (c && r1 && o && r2 && r3) := by
  unfold parts5 at h; subst h; cases c <;> cases o <;> cases r1 <;> rfl
def telBoxes (w : World) (x y : Tel) : World := (w.alloc (.cells #[.int .u64 (x.c : Int), .float .f64 x.s, .bool x.o, .float .f64 x.lo, .float .f64 x.hi] 38)).alloc (.cells #[.int .u64 (y.c : Int), .float .f64 y.s, .bool y.o, .float .f64 y.lo, .float .f64 y.hi] 38)
theorem telBoxes_below (w : World) (x y : Tel) : Below w.heap.size w (telBoxes w x y) := ((Below.refl w.heap.size w).alloc (Nat.le_refl _) _).alloc (by simp) _

set_option maxHeartbeats 4000000 in
theorem aggSame_any (x y : Tel) (hx : x.Ok) (hy : y.Ok) (w : World) : Calls Tryd.prog 54 #[.agg #[.int .u64 (x.c : Int), .float .f64 x.s, .bool x.o, .float .f64 x.lo, .float .f64 x.hi], .agg #[.int .u64 (y.c : Int), .float .f64 y.s, .bool y.o, .float .f64 y.lo, .float .f64 y.hi]] w fun e w' => e = .returned (.bool (telB x y)) ∧ Below w.heap.size w w' := by
  have HB := Lib.hid (telBoxes_below w x y)
  have H1 := Lib.hid fun w => same_any x.s y.s hx.s hy.s w
  have H2 := Lib.hid fun w => same_any x.lo y.lo hx.lo hy.lo w
  have H3 := Lib.hid fun w => same_any x.hi y.hi hx.hi hy.hi w
  have HS : Hid (parts5 (decide ((x.c : Int) = (y.c : Int))) (decide (x.o = y.o)) (decide (Fl.canon x.s = Fl.canon y.s)) (decide (Fl.canon x.lo = Fl.canon y.lo)) (decide (Fl.canon x.hi = Fl.canon y.hi)) (telB x y)) := Lib.hid rfl
  generalize decide (Fl.canon x.s = Fl.canon y.s) = r1 at *
  generalize decide (Fl.canon x.lo = Fl.canon y.lo) = r2 at *
  generalize decide (Fl.canon x.hi = Fl.canon y.hi) = r3 at *
  generalize telB x y = s at *
  clear hx hy
  obtain ⟨xc, xs, xo, xlo, xhi⟩ := x
  obtain ⟨yc, ys, yo, ylo, yhi⟩ := y
  cases xo <;> cases yo <;> cases r1 <;> cases r2
  all_goals
    go_enter Tryd.func54, Tryd.ntmps54
    go_wp2_with (go_at_call 72; first
      | (with_reducible refine (H1.out _).mono ?_; rintro e w' ⟨rfl, rfl⟩)
      | (with_reducible refine (H2.out _).mono ?_; rintro e w' ⟨rfl, rfl⟩)
      | (with_reducible refine (H3.out _).mono ?_; rintro e w' ⟨rfl, rfl⟩))
    all_goals
      go_ret
      refine ⟨ret_eq ?_, ((Below.refl w.heap.size w).alloc (Nat.le_refl _) _).alloc (by simp) _⟩
      have h := HS.out
      unfold parts5 at h
      rw [h]
      exact congrArg Value.bool (by simp [*])

end Go.Proofs.YtbimfopbilcdgaaDoor
