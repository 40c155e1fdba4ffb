/-
  The law ExactCancels returns true: walked.
-/
import Derived.Test.YthklamgdoknmeaaLtm
set_option linter.unusedSimpArgs false
set_option linter.unusedVariables false
set_option maxRecDepth 8000
namespace Go.Proofs.Ythklamgdoknmeaa
open Go.RowKit Sm

/-- One number more: the sum, and what it has. -/
def addN (n b : Nat) : Nat := (n + unit b) % top
def orH (h b : Nat) : Nat := h ||| kindB b
theorem add_nx (n h b : Nat) (hh : h < 32) (hb : b < 18446744073709551616) (w : World) :
    Calls Try.prog 41 #[.agg (P36 (wd n) h), .float .f64 b] w fun e w' => e = .returned (.agg (P36 (wd (addN n b)) (orH h b))) ∧ Below w.heap.size w w' := add_any n h b (Nat.lt_trans hh (by decide)) hb w
theorem addN_lt (n b : Nat) : addN n b < top := Nat.mod_lt _ top_pos
theorem orH_lt (h b : Nat) (hh : h < 32) : orH h b < 32 := Nat.or_lt_two_pow (n := 5) hh (kindB_lt b)
theorem addN_int (n b : Nat) : ((addN n b : Nat) : Int) = ((n : Int) + sval b) % (top : Int) := by
  unfold addN
  rw [Int.natCast_emod, Int.natCast_add, unit_int, Int.add_emod_emod]
attribute [irreducible] addN orH
theorem sumU : Try.prog.underlying 27 = some (.struct (Try.prog.fieldsOf 27)) := u27
theorem FlAt.keep {w w' : World} {a : Option Addr} {l : List Nat} (h : FlAt w a l) (hb : Below w.heap.size w w') : FlAt w' a l := fun k x hx => by
  obtain ⟨h1, g, off, h2, h3, h4⟩ := h k x hx
  exact ⟨h1, g, off, h2, Nat.lt_of_lt_of_le h3 hb.size, (hb.cell (p := ⟨g, off + k, none⟩) h3).trans h4⟩
theorem row_keep {w w' : World} {g : Nat} {o : Obj} (h : w.heap[g]? = some o) (hb : Below w.heap.size w w') : w'.heap[g]? = some o := (hb.block g (lt_of_row h)).trans h
theorem row_alloc {w : World} {g : Nat} {o : Obj} (h : w.heap[g]? = some o) (q : Obj) : (w.alloc q).heap[g]? = some o := (Below.heap_alloc _ _ _ (lt_of_row h)).trans h

/-! Put together -/
theorem sval_neg (x : Nat) (hx : x < 18446744073709551616) (hf : Fl.rung x < 9218868437227405312) : sval (Op.negFloat .f64 x) = -sval x ∧ Fl.rung (Op.negFloat .f64 x) < 9218868437227405312 ∧ Op.negFloat .f64 x < 18446744073709551616 := by
  rw [neg_word x hx]
  by_cases h : x < 9223372036854775808
  · rw [if_pos h]
    have e : Fl.rung (x + 9223372036854775808) = Fl.rung x := by unfold Fl.rung; omega
    have e1 : sval (x + 9223372036854775808) = -(Fl.val (Fl.rung x) : Int) := by unfold sval; rw [e, if_neg (Nat.not_le.2 hf), if_pos (by omega)]
    have e2 : sval x = (Fl.val (Fl.rung x) : Int) := by unfold sval; rw [if_neg (Nat.not_le.2 hf), if_neg (by omega)]
    rw [e1, e2, e]
    exact ⟨rfl, hf, by omega⟩
  · rw [if_neg h]
    have e : Fl.rung (x - 9223372036854775808) = Fl.rung x := by unfold Fl.rung; omega
    have e1 : sval (x - 9223372036854775808) = (Fl.val (Fl.rung x) : Int) := by unfold sval; rw [e, if_neg (Nat.not_le.2 hf), if_neg (by omega)]
    have e2 : sval x = -(Fl.val (Fl.rung x) : Int) := by unfold sval; rw [if_neg (Nat.not_le.2 hf), if_pos (by omega)]
    rw [e1, e2, e]
    exact ⟨by omega, hf, by omega⟩
theorem eq_of_int {a b : Nat} (ha : a < top) (hb : b < top) (h : (a : Int) % (top : Int) = (b : Int) % (top : Int)) : a = b := by
  rw [Int.emod_eq_of_lt (by omega) (by omega), Int.emod_eq_of_lt (by omega) (by omega)] at h
  omega
theorem cancels (n x y : Nat) (hx : x < 18446744073709551616) (hf : Fl.rung x < 9218868437227405312) (hy : y = Op.negFloat .f64 x) : addN (addN (addN n x) y) 0 = addN n 0 := by
  have hp := top_pos
  refine eq_of_int (addN_lt _ _) (addN_lt _ _) ?_
  rw [addN_int, addN_int, addN_int, addN_int, hy, (sval_neg x hx hf).1]
  simp only [Int.emod_emod, Int.emod_add_emod]
  congr 1; omega
theorem kind_cancels (k x y : Nat) (hf : Fl.rung x < 9218868437227405312) (hg : Fl.rung y < 9218868437227405312) : orH (orH (orH k x) y) 0 = orH k 0 := by
  unfold orH
  rw [kind_fin x hf, kind_fin y hg, kind_fin 0 (by decide), if_neg (show ¬ (0 : Nat) = 9223372036854775808 by decide)]
  have e : ∀ p q : Bool, (if p then 8 else 24) ||| ((if q then 8 else 24) ||| 24) = 24 := by decide
  have h := e (decide (x = 9223372036854775808)) (decide (y = 9223372036854775808))
  simp only [decide_eq_true_eq] at h
  rw [Nat.or_assoc, Nat.or_assoc, h]
end Go.Proofs.Ythklamgdoknmeaa
