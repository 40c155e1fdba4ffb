/-
  Layer event: contracts of strings.Compare, cmp.Compare, cmp.Or, compare.
-/
import Derived.Test.YtkhldnihboklaaaWa
import Derived.WalkKit
import Derived.WalkSpells
import Derived.WalkLawsBesides
import Derived.Lib.Hide
import Derived.Lib.Bytealg
import Derived.BigRegion
import Derived.Deep.RegionHeld3
import Derived.Deep.Draws
import Derived.Outline
import Derived.Sort.Grow
set_option linter.unusedSimpArgs false
set_option linter.unusedVariables false
namespace Go.Proofs.Ytkhldnihboklaaa
open Go.RowKit Go.Sort

/-- An event. -/
structure Ev where
  off : Nat
  part : Int
  time : Int
  key : ByteArray
  val : Nat
instance : Inhabited Ev := ⟨⟨0, 0, 0, ByteArray.empty, 0⟩⟩
def Ev.cells (x : Ev) : List Value := [.int .u64 (x.off : Int), .int .i64 x.part, .int .i64 x.time, .string x.key, .float .f64 x.val]
/-- -1, 0 or 1. -/
def cmpI (a b : Int) : Int := if a < b then -1 else if b < a then 1 else 0
def or3 (a b c : Int) : Int := if a ≠ 0 then a else if b ≠ 0 then b else c
def cmpK (a b : ByteArray) : Int := Lib.compareBytes a.data.toList b.data.toList
def evCmp (x y : Ev) : Int := or3 (cmpK x.key y.key) (cmpI x.time y.time) (cmpI (x.off : Int) (y.off : Int))

theorem cmpstr_run (a b : ByteArray) (w : World) : (callFunc 58 #[.string a, .string b]).run Try.prog w = .ok (.value (.int .i64 (cmpK a b))) w := by
  rw [run_callFunc_extern Try.func58 (by kernel_rfl) (by kernel_rfl) (by kernel_rfl) (e := Extern.BytealgCompare.compare) (by kernel_rfl), Lib.run_compareString]
  rfl
set_option maxHeartbeats 400000 in
theorem compareString_any (a b : ByteArray) (w : World) : Calls Try.prog 49 #[.string a, .string b] w fun e w' => e = .returned (.int .i64 (cmpK a b)) ∧ w = w' := by
  have xr := fun w => cmpstr_run a b w
  generalize cmpK a b = r at *
  go_enter Try.func49, Try.ntmps49
  go_wp2
  go_ret
  exact ⟨rfl, rfl⟩
set_option maxHeartbeats 400000 in
theorem strCompare_any (a b : ByteArray) (w : World) : Calls Try.prog 34 #[.string a, .string b] w fun e w' => e = .returned (.int .i64 (cmpK a b)) ∧ w = w' := by
  have h := fun w => compareString_any a b w
  generalize cmpK a b = r at *
  have H := Lib.hid h
  clear h
  go_enter Try.func34, Try.ntmps34
  go_wp2_with (go_at_call 49; refine (H.out _).mono ?_; rintro e w' ⟨rfl, rfl⟩)
  go_ret
  exact ⟨rfl, rfl⟩
set_option maxHeartbeats 400000 in
theorem isNaNI_any (a : Int) (w : World) : Calls Try.prog 50 #[.int .i64 a] w fun e w' => e = .returned (.bool false) ∧ w = w' := by
  go_enter Try.func50, Try.ntmps50
  go_wp2
  go_ret
  exact ⟨rfl, rfl⟩
theorem cmpI_lt {a b : Int} (h : a < b) : cmpI a b = -1 := if_pos h
theorem cmpI_gt {a b : Int} (h : b < a) : cmpI a b = 1 := by unfold cmpI; rw [if_neg (by omega), if_pos h]
theorem cmpI_eq {a b : Int} (h1 : ¬ a < b) (h2 : ¬ b < a) : cmpI a b = 0 := by unfold cmpI; rw [if_neg h1, if_neg h2]
set_option maxHeartbeats 400000 in
theorem cmpInt_any (a b : Int) (w : World) : Calls Try.prog 35 #[.int .i64 (a : Int), .int .i64 (b : Int)] w fun e w' => e = .returned (.int .i64 (cmpI (a : Int) (b : Int))) ∧ w = w' := by
  have hc : ((a : Int) < b ∧ Hid (cmpI (a : Int) (b : Int) = -1)) ∨ ((b : Int) < a ∧ Hid (cmpI (a : Int) (b : Int) = 1)) ∨ ((¬ (a : Int) < b ∧ ¬ (b : Int) < a) ∧ Hid (cmpI (a : Int) (b : Int) = 0)) := by
    by_cases h1 : (a : Int) < b
    · exact .inl ⟨h1, Lib.hid (cmpI_lt h1)⟩
    · by_cases h2 : (b : Int) < a
      · exact .inr (.inl ⟨h2, Lib.hid (cmpI_gt h2)⟩)
      · exact .inr (.inr ⟨⟨h1, h2⟩, Lib.hid (cmpI_eq h1 h2)⟩)
  generalize cmpI (a : Int) (b : Int) = r at *
  rcases hc with ⟨h1, hr⟩ | ⟨h1, hr⟩ | ⟨⟨h1, h2⟩, hr⟩
  all_goals
    go_enter Try.func35, Try.ntmps35
    go_wp2_with (go_at_call 50; refine (isNaNI_any _ _).mono ?_; rintro e w' ⟨rfl, rfl⟩)
    go_ret
    exact ⟨ret_eq (by rw [hr.out]; rfl), rfl⟩
set_option maxHeartbeats 1000000 in
theorem or_any (g : Nat) (a b c r : Int) (hr : or3 a b c = r) (w : World) (h0 : w.cell? ⟨g, 0, none⟩ = some (.int .i64 a)) (h1 : w.cell? ⟨g, 1, none⟩ = some (.int .i64 b)) (h2 : w.cell? ⟨g, 2, none⟩ = some (.int .i64 c)) :
    Calls Try.prog 33 #[.slice (some ⟨g, 0, none⟩) 3 3] w fun e w' => e = .returned (.int .i64 r) ∧ w = w' := by
  have HR := Lib.hid hr
  clear hr
  go_enter Try.func33, Try.ntmps33
  go_wp2
  go_loop [8] (fun i => (i = .int .i64 0) ∨ (i = .int .i64 1 ∧ a = 0) ∨ (i = .int .i64 2 ∧ a = 0 ∧ b = 0) ∨ (i = .int .i64 3 ∧ a = 0 ∧ b = 0 ∧ c = 0)) (fun i => (3 - intOf i).toNat)
  case atStart => exact Or.inl rfl
  case round =>
    rcases hrel with rfl | ⟨rfl, ha⟩ | ⟨rfl, ha, hb⟩ | ⟨rfl, ha, hb, hc⟩
    · by_cases ha : a = 0
      · have ha' : (a == 0) = true := by simpa using ha
        have HA := Lib.hid ha
        clear ha
        go_wp2
        go_round
        case rel => exact Or.inr (Or.inl ⟨rfl, HA.out⟩)
        case measure => simp [intOf]
      · have ha' : (a != 0) = true := by simpa using ha
        go_wp2
        go_ret
        exact ⟨ret_eq (by rw [← HR.out]; unfold or3; rw [if_pos ha]; rfl), rfl⟩
    · have HA := Lib.hid ha
      clear ha
      by_cases hb : b = 0
      · have HB := Lib.hid hb
        have hb' : (b == 0) = true := by simpa using hb
        clear hb
        go_wp2
        go_round
        case rel => exact Or.inr (Or.inr (Or.inl ⟨rfl, HA.out, HB.out⟩))
        case measure => simp [intOf]
      · go_wp2
        go_ret
        exact ⟨ret_eq (by rw [← HR.out]; unfold or3; rw [if_neg (by rw [HA.out]; decide), if_pos hb]; rfl), rfl⟩
    · have HA := Lib.hid ha
      have HB := Lib.hid hb
      clear ha hb
      by_cases hc : c = 0
      · have HC := Lib.hid hc
        have hc' : (c == 0) = true := by simpa using hc
        clear hc
        go_wp2
        go_round
        case rel => exact Or.inr (Or.inr (Or.inr ⟨rfl, HA.out, HB.out, HC.out⟩))
        case measure => simp [intOf]
      · go_wp2
        go_ret
        exact ⟨ret_eq (by rw [← HR.out]; unfold or3; rw [if_neg (by rw [HA.out]; decide), if_neg (by rw [HB.out]; decide)]; rfl), rfl⟩
    · have HA := Lib.hid ha
      have HB := Lib.hid hb
      have HC := Lib.hid hc
      clear ha hb hc
      go_wp2
      go_ret
      exact ⟨ret_eq (by rw [← HR.out]; unfold or3; rw [if_neg (by rw [HA.out]; decide), if_neg (by rw [HB.out]; decide), HC.out]; rfl), rfl⟩
end Go.Proofs.Ytkhldnihboklaaa
