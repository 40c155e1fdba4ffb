/-
  Lists of bytes in a world; contracts of signByte, spare and possible.
-/
import Derived.Test.YthklamgdoknmeaaLez
import Derived.Test.YthklamgdoknmeaaBy
set_option linter.unusedSimpArgs false
set_option linter.unusedVariables false
set_option maxRecDepth 8000
namespace Go.Proofs.Ythklamgdoknmeaa
open Go.RowKit Sm

/-- What stands behind a number's bytes. -/
def sgB (l : List Nat) : Nat := if 128 ≤ l.getLast?.getD 0 then 255 else 0
/-- Its last byte says no more than the others. -/
def spB (l : List Nat) : Bool := match l.getLast? with
  | none => false
  | some x => x == sgB l.dropLast
theorem sgB_lt (l : List Nat) : sgB l < 256 := by unfold sgB; split <;> decide
theorem sgB_nil : sgB [] = 0 := rfl
theorem sgB_of (l : List Nat) (x : Nat) (n : Nat) (hn : l.length = n + 1) (hx : l[n]? = some x) : sgB l = if 128 ≤ x then 255 else 0 := by
  unfold sgB
  rw [List.getLast?_eq_getElem?, hn, Nat.add_sub_cancel, hx]; rfl

set_option maxHeartbeats 1000000 in
theorem signByte_any (a : Option Addr) (l : List Nat) (len cap : Nat) (hlen : Hid (len = l.length)) (hl : len ≤ 4096) (w : World) (HA : Hid (ByAt w a l)) :
    Calls Try.prog 79 #[.slice a len cap] w fun e w' => e = .returned (.int .u8 (sgB l)) ∧ w = w' := by
  by_cases hz : len = 0
  · subst hz
    have e : l = [] := List.length_eq_zero_iff.1 hlen.out.symm
    subst e
    go_enter Try.func79, Try.ntmps79
    go_wp2
    go_ret
    exact ⟨rfl, rfl⟩
  · have hn : len - 1 < l.length := by have := hlen.out; omega
    obtain ⟨hx, g, off, rfl, hg, hc⟩ := HA.out (len - 1) l[len - 1] (List.getElem?_eq_getElem hn)
    have hs := Lib.hid (sgB_of l l[len - 1] (len - 1) (by have := hlen.out; omega) (List.getElem?_eq_getElem hn))
    have h0 : decide ((0 : Int) < (len : Int)) = true := decide_eq_true (by omega)
    have ht : ((len : Int) - 1).toNat = len - 1 := by omega
    generalize l[len - 1] = x at *
    go_enter Try.func79, Try.ntmps79
    set_option maxRecDepth 4000 in go_wp2
    all_goals go_ret
    all_goals refine ⟨ret_eq ?_, rfl⟩
    all_goals rw [hs.out]
    · rw [if_pos (by omega)]; rfl
    · rw [if_neg (by omega)]; rfl

/-! Which bytes of what was there may be -/
def possB (h : Nat) (z : Bool) : Bool := if 32 ≤ h then false else if h / 16 % 2 = 1 then decide (h / 8 % 2 = 1) else decide (h = 0 ∨ h = 8) && z
theorem poss_tests : ∀ h : _root_.Fin 256, (bits .and .u8 ((h.val : Nat) : Int) 16 != 0) = decide (h.val / 16 % 2 = 1) ∧ (bits .and .u8 ((h.val : Nat) : Int) 8 != 0) = decide (h.val / 8 % 2 = 1) ∧
    (bits .andNot .u8 ((h.val : Nat) : Int) 8 == 0) = decide (h.val = 0 ∨ h.val = 8) := by decide +kernel
set_option maxHeartbeats 1000000 in
theorem possible_core (h : Nat) (z c0 c1 c2 c3 : Bool) (hh : h < 256) (t0 : decide ((32 : Int) ≤ (h : Int)) = c0) (t1 : (bits .and .u8 (h : Int) 16 != 0) = c1) (t2 : (bits .and .u8 (h : Int) 8 != 0) = c2) (t3 : (bits .andNot .u8 (h : Int) 8 == 0) = c3) (w : World) :
    Calls Try.prog 93 #[.int .u8 h, .bool z] w fun e w' => e = .returned (.bool (if c0 then false else if c1 then c2 else (c3 && z))) ∧ w = w' := by
  cases c0 <;> cases c1 <;> cases c2 <;> cases c3 <;> cases z
  all_goals
    go_enter Try.func93, Try.ntmps93
    (set_option maxRecDepth 4000 in go_wp2)
    go_ret
    exact ⟨rfl, rfl⟩

theorem possible_any (h : Nat) (z : Bool) (hh : h < 256) (w : World) :
    Calls Try.prog 93 #[.int .u8 h, .bool z] w fun e w' => e = .returned (.bool (possB h z)) ∧ w = w' := by
  obtain ⟨t1, t2, t3⟩ := poss_tests ⟨h, hh⟩
  refine (possible_core h z _ _ _ _ hh rfl t1 t2 t3 w).mono ?_
  rintro e w' ⟨rfl, rfl⟩
  refine ⟨ret_eq (congrArg Value.bool ?_), rfl⟩
  unfold possB
  by_cases h0 : 32 ≤ h
  · rw [if_pos h0, if_pos (decide_eq_true (by omega))]
  · rw [if_neg h0, if_neg (by rw [decide_eq_true_eq]; omega)]
    by_cases h1 : h / 16 % 2 = 1
    · rw [if_pos h1, if_pos (decide_eq_true h1)]
    · rw [if_neg h1, if_neg (by rw [decide_eq_true_eq]; exact h1)]

/-- The list without its last. -/
theorem ByAt.most {w : World} {a : Option Addr} {l : List Nat} (h : ByAt w a l) : ByAt w a l.dropLast := fun k x hx => by
  rw [List.dropLast_eq_take, List.getElem?_take] at hx
  split at hx
  · exact h k x hx
  · cases hx

end Go.Proofs.Ythklamgdoknmeaa
