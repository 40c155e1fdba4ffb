/-
  Lists of bytes in a world; contracts of signByte, spare and possible.
-/
import Derived.Test.YtmnjkpomclaidaaLez
import Derived.Test.YtmnjkpomclaidaaBy
set_option linter.unusedSimpArgs false
set_option linter.unusedVariables false
namespace Go.Proofs.Ytmnjkpomclaidaa
open Go.RowKit Sm

/-- What stands behind a number's bytes. -/
def sgB (l : List Nat) : Nat := if 128 ≤ l.getLast?.getD 0 then 255 else 0
/-- Its last byte says no more than the others. -/
def spB (l : List Nat) : Bool := match l.getLast? with
  | none => false
  | some x => x == sgB l.dropLast
theorem sgB_lt (l : List Nat) : sgB l < 256 := by unfold sgB; split <;> decide
theorem sgB_nil : sgB [] = 0 := rfl
theorem sgB_of (l : List Nat) (x : Nat) (n : Nat) (hn : l.length = n + 1) (hx : l[n]? = some x) : sgB l = if 128 ≤ x then 255 else 0 := by
  unfold sgB
  rw [List.getLast?_eq_getElem?, hn, Nat.add_sub_cancel, hx]; rfl

set_option maxHeartbeats 1000000 in
theorem signByte_any (a : Option Addr) (l : List Nat) (len cap : Nat) (hlen : Hid (len = l.length)) (hl : len ≤ 4096) (w : World) (HA : Hid (ByAt w a l)) :
    Calls Try.prog 42 #[.slice a len cap] w fun e w' => e = .returned (.int .u8 (sgB l)) ∧ w = w' := by
  by_cases hz : len = 0
  · subst hz
    have e : l = [] := List.length_eq_zero_iff.1 hlen.out.symm
    subst e
    go_enter Try.func42, Try.ntmps42
    go_wp2
    go_ret
    exact ⟨rfl, rfl⟩
  · have hn : len - 1 < l.length := by have := hlen.out; omega
    obtain ⟨hx, g, off, rfl, hg, hc⟩ := HA.out (len - 1) l[len - 1] (List.getElem?_eq_getElem hn)
    have hs := Lib.hid (sgB_of l l[len - 1] (len - 1) (by have := hlen.out; omega) (List.getElem?_eq_getElem hn))
    have h0 : decide ((0 : Int) < (len : Int)) = true := decide_eq_true (by omega)
    have ht : ((len : Int) - 1).toNat = len - 1 := by omega
    generalize l[len - 1] = x at *
    go_enter Try.func42, Try.ntmps42
    set_option maxRecDepth 4000 in go_wp2
    all_goals go_ret
    all_goals refine ⟨ret_eq ?_, rfl⟩
    all_goals rw [hs.out]
    · rw [if_pos (by omega)]; rfl
    · rw [if_neg (by omega)]; rfl

/-! Which bytes of what was there may be -/
def possB (h : Nat) (z : Bool) : Bool := if 32 ≤ h then false else if h / 16 % 2 = 1 then decide (h / 8 % 2 = 1) else decide (h = 0 ∨ h = 8) && z
theorem poss_tests : ∀ h : _root_.Fin 256, (bits .and .u8 ((h.val : Nat) : Int) 16 != 0) = decide (h.val / 16 % 2 = 1) ∧ (bits .and .u8 ((h.val : Nat) : Int) 8 != 0) = decide (h.val / 8 % 2 = 1) ∧
    (bits .andNot .u8 ((h.val : Nat) : Int) 8 == 0) = decide (h.val = 0 ∨ h.val = 8) := by decide +kernel
/-- The list without its last. -/
theorem ByAt.most {w : World} {a : Option Addr} {l : List Nat} (h : ByAt w a l) : ByAt w a l.dropLast := fun k x hx => by
  rw [List.dropLast_eq_take, List.getElem?_take] at hx
  split at hx
  · exact h k x hx
  · cases hx

end Go.Proofs.Ytmnjkpomclaidaa
