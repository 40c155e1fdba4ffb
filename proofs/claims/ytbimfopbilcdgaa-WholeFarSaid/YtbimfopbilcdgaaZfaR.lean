/-
  Layer window: Form of any config.
-/
import Derived.Test.YtbimfopbilcdgaaZyQ
set_option linter.unusedSimpArgs false
set_option linter.unusedVariables false
set_option maxRecDepth 8000
namespace Go.Proofs.Ytbimfopbilcdgaa
open Go.RowKit Go.Sort

/-- The step fits the kind. -/
def StepOk (c : Cf) : Prop := c.kind ≤ 2 ∧ (c.kind ≠ 1 → c.step = 0) ∧ (c.kind = 1 → 1 ≤ c.step ∧ c.step ≤ c.size ∧ c.size ≤ 16 * c.step)
instance (c : Cf) : Decidable (StepOk c) := by unfold StepOk; exact inferInstance
/-- An answer that says so only where it is so. -/
def BoolSo (P : Prop) (e : Ending) : Prop := ∃ b, e = .returned (.bool b) ∧ (b = true → P)
theorem BoolSo.no {P : Prop} : BoolSo P (.returned (.bool false)) := ⟨false, rfl, fun h => by cases h⟩
theorem BoolSo.yes {P : Prop} (h : P) : BoolSo P (.returned (.bool true)) := ⟨true, rfl, fun _ => h⟩
/-- A config that is handed in. -/
structure Cf.In (c : Cf) : Prop where
  kind : c.kind < 256
  late : -9223372036854775808 ≤ c.late
  cut : c.cut < 18446744073709551616
set_option maxHeartbeats 1000000 in
theorem stepForm_any (c : Cf) (s1 : 1 ≤ c.size) (s2 : c.size ≤ 1073741824) (w : World) : Calls Try.prog 72 #[c.v] w fun e w' => e = .returned (.bool (decide (StepOk c))) ∧ Below w.heap.size w w' := by
  have HB : Hid (Below w.heap.size w (w.alloc (.cells #[.int .u8 (c.kind : Int), .int .i64 c.size, .int .i64 c.step, .int .i64 c.late, .int .i64 c.skew, .int .i64 c.parts, .int .u64 (c.cut : Int)] 64))) := Lib.hid ((Below.refl _ _).alloc (Nat.le_refl _) _)
  obtain ⟨kind, size, step, late, skew, parts, cut⟩ := c
  simp only at *
  have HK : Hid (kind = 0 ∨ kind = 2 ∨ kind = 1 ∨ 3 ≤ kind) := Lib.hid (by omega)
  rcases HK.out with rfl | rfl | rfl | h3
  · by_cases h0 : step = 0
    · subst h0
      go_enter Try.func72, Try.ntmps72
      go_wp2
      go_ret
      exact ⟨by rw [decide_eq_true (p := StepOk _) ⟨by show 0 ≤ 2; omega, fun _ => rfl, fun h => by cases h⟩]; rfl, HB.out⟩
    · have hse : (step == 0) = false := by simpa using h0
      go_enter Try.func72, Try.ntmps72
      go_wp2
      go_ret
      exact ⟨by rw [decide_eq_false (p := StepOk _) (fun h => h0 (h.2.1 (by intro h9; cases h9)))]; rfl, HB.out⟩
  · by_cases h0 : step = 0
    · subst h0
      go_enter Try.func72, Try.ntmps72
      go_wp2
      go_ret
      exact ⟨by rw [decide_eq_true (p := StepOk _) ⟨by show 2 ≤ 2; omega, fun _ => rfl, fun h => by cases h⟩]; rfl, HB.out⟩
    · have hse : (step == 0) = false := by simpa using h0
      go_enter Try.func72, Try.ntmps72
      go_wp2
      go_ret
      exact ⟨by rw [decide_eq_false (p := StepOk _) (fun h => h0 (h.2.1 (by intro h9; cases h9)))]; rfl, HB.out⟩
  · by_cases h1 : 1 ≤ step
    · by_cases h2 : step ≤ size
      · have h4 : step ≤ 1073741824 := by omega
        by_cases h5 : size ≤ 16 * step
        · go_enter Try.func72, Try.ntmps72
          go_wp2
          go_ret
          exact ⟨by rw [decide_eq_true (p := StepOk _) ⟨by show 1 ≤ 2; omega, fun h => absurd rfl h, fun _ => ⟨h1, h2, h5⟩⟩]; rfl, HB.out⟩
        · go_enter Try.func72, Try.ntmps72
          go_wp2
          go_ret
          exact ⟨by rw [decide_eq_false (p := StepOk _) (fun h => by have h9 : size ≤ 16 * step := (h.2.2 rfl).2.2; omega)]; rfl, HB.out⟩
      · go_enter Try.func72, Try.ntmps72
        go_wp2
        go_ret
        exact ⟨by rw [decide_eq_false (p := StepOk _) (fun h => by have h9 : step ≤ size := (h.2.2 rfl).2.1; omega)]; rfl, HB.out⟩
    · go_enter Try.func72, Try.ntmps72
      go_wp2
      go_ret
      exact ⟨by rw [decide_eq_false (p := StepOk _) (fun h => by have h9 : 1 ≤ step := (h.2.2 rfl).1; omega)]; rfl, HB.out⟩
  · have k0 : ¬ ((kind : Int) = 0) := by omega
    have k1 : ¬ ((kind : Int) = 1) := by omega
    have k2 : ¬ ((kind : Int) = 2) := by omega
    have k3 : ¬ (kind = 0) := by omega
    have k4 : ¬ (kind = 1) := by omega
    have k5 : ¬ (kind = 2) := by omega
    have HK3 := Lib.hid h3
    clear h3
    go_enter Try.func72, Try.ntmps72
    go_wp2
    go_ret
    exact ⟨by rw [decide_eq_false (p := StepOk _) (fun h => by have h9 : kind ≤ 2 := h.1; have := HK3.out; omega)]; rfl, HB.out⟩
set_option maxHeartbeats 4000000 in
theorem formW_any (c : Cf) (hin : c.In) (w : World) : Calls Try.prog 43 #[c.v] w fun e w' => BoolSo c.Ok e ∧ Below w.heap.size w w' := by
  have HB : Hid (Below w.heap.size w (w.alloc (.cells #[.int .u8 (c.kind : Int), .int .i64 c.size, .int .i64 c.step, .int .i64 c.late, .int .i64 c.skew, .int .i64 c.parts, .int .u64 (c.cut : Int)] 64))) := Lib.hid ((Below.refl _ _).alloc (Nat.le_refl _) _)
  have HSA := Lib.hid fun s1 s2 w => stepForm_any c s1 s2 w
  have HOK : Hid (StepOk c → 1 ≤ c.size → c.size ≤ 1073741824 → c.late ≤ 1073741824 → 0 ≤ c.skew → c.skew ≤ 1073741824 → 1 ≤ c.parts → c.parts ≤ 8 → (c.cut : Int) ≤ 1099511627776 → c.Ok) := Lib.hid fun h s1 s2 a b d e f g =>
    ⟨h.1, s1, s2, h.2.1, h.2.2, hin.late, a, b, d, e, f, by omega⟩
  clear hin
  cases hsb : decide (StepOk c)
  · rw [hsb] at HSA
    clear hsb HOK
    obtain ⟨kind, size, step, late, skew, parts, cut⟩ := c
    simp only at *
    by_cases s1 : 1 ≤ size
    · by_cases s2 : size ≤ 1073741824
      · have HS := Lib.hid (HSA.out s1 s2)
        clear HSA
        go_enter Try.func43, Try.ntmps43
        go_wp2_with (go_at_call 72; with_reducible refine (HS.out _).mono ?_; rintro e w1 ⟨rfl, hb⟩; have HB1 := Lib.hid (bto HB.out hb); have hc := fun j => hb.cell (p := ⟨w.heap.size, j, none⟩) (by simp); clear hb)
        go_ret
        exact ⟨BoolSo.no, HB1.out⟩
      · go_enter Try.func43, Try.ntmps43
        go_wp2
        go_ret
        exact ⟨BoolSo.no, HB.out⟩
    · go_enter Try.func43, Try.ntmps43
      go_wp2
      go_ret
      exact ⟨BoolSo.no, HB.out⟩
  rw [hsb] at HSA
  have HSO := Lib.hid (of_decide_eq_true hsb)
  clear hsb
  generalize hCO : c.Ok = CO at *
  generalize hSP : StepOk c = SP at *
  clear hCO hSP
  obtain ⟨kind, size, step, late, skew, parts, cut⟩ := c
  simp only at *
  by_cases s1 : 1 ≤ size
  · by_cases s2 : size ≤ 1073741824
    · have HS := Lib.hid (HSA.out s1 s2)
      clear HSA
      by_cases hl : late ≤ 1073741824
      rotate_left
      · skip
        go_enter Try.func43, Try.ntmps43
        go_wp2_with (go_at_call 72; with_reducible refine (HS.out _).mono ?_; rintro e w1 ⟨rfl, hb⟩; have HB1 := Lib.hid (bto HB.out hb); have hc := fun j => hb.cell (p := ⟨w.heap.size, j, none⟩) (by simp); clear hb)
        go_ret
        exact ⟨by first | exact BoolSo.no | (show BoolSo CO (.returned (.bool (decide ((cut : Int) ≤ 1099511627776)))); rw [decide_eq_false (by omega)]; exact BoolSo.no), HB1.out⟩
      by_cases hs0 : 0 ≤ skew
      rotate_left
      · skip
        go_enter Try.func43, Try.ntmps43
        go_wp2_with (go_at_call 72; with_reducible refine (HS.out _).mono ?_; rintro e w1 ⟨rfl, hb⟩; have HB1 := Lib.hid (bto HB.out hb); have hc := fun j => hb.cell (p := ⟨w.heap.size, j, none⟩) (by simp); clear hb)
        go_ret
        exact ⟨by first | exact BoolSo.no | (show BoolSo CO (.returned (.bool (decide ((cut : Int) ≤ 1099511627776)))); rw [decide_eq_false (by omega)]; exact BoolSo.no), HB1.out⟩
      by_cases hs1 : skew ≤ 1073741824
      rotate_left
      · skip
        go_enter Try.func43, Try.ntmps43
        go_wp2_with (go_at_call 72; with_reducible refine (HS.out _).mono ?_; rintro e w1 ⟨rfl, hb⟩; have HB1 := Lib.hid (bto HB.out hb); have hc := fun j => hb.cell (p := ⟨w.heap.size, j, none⟩) (by simp); clear hb)
        go_ret
        exact ⟨by first | exact BoolSo.no | (show BoolSo CO (.returned (.bool (decide ((cut : Int) ≤ 1099511627776)))); rw [decide_eq_false (by omega)]; exact BoolSo.no), HB1.out⟩
      by_cases hp1 : 1 ≤ parts
      rotate_left
      · skip
        go_enter Try.func43, Try.ntmps43
        go_wp2_with (go_at_call 72; with_reducible refine (HS.out _).mono ?_; rintro e w1 ⟨rfl, hb⟩; have HB1 := Lib.hid (bto HB.out hb); have hc := fun j => hb.cell (p := ⟨w.heap.size, j, none⟩) (by simp); clear hb)
        go_ret
        exact ⟨by first | exact BoolSo.no | (show BoolSo CO (.returned (.bool (decide ((cut : Int) ≤ 1099511627776)))); rw [decide_eq_false (by omega)]; exact BoolSo.no), HB1.out⟩
      by_cases hp2 : parts ≤ 8
      rotate_left
      · skip
        go_enter Try.func43, Try.ntmps43
        go_wp2_with (go_at_call 72; with_reducible refine (HS.out _).mono ?_; rintro e w1 ⟨rfl, hb⟩; have HB1 := Lib.hid (bto HB.out hb); have hc := fun j => hb.cell (p := ⟨w.heap.size, j, none⟩) (by simp); clear hb)
        go_ret
        exact ⟨by first | exact BoolSo.no | (show BoolSo CO (.returned (.bool (decide ((cut : Int) ≤ 1099511627776)))); rw [decide_eq_false (by omega)]; exact BoolSo.no), HB1.out⟩
      by_cases hcu : (cut : Int) ≤ 1099511627776
      rotate_left
      · skip
        go_enter Try.func43, Try.ntmps43
        go_wp2_with (go_at_call 72; with_reducible refine (HS.out _).mono ?_; rintro e w1 ⟨rfl, hb⟩; have HB1 := Lib.hid (bto HB.out hb); have hc := fun j => hb.cell (p := ⟨w.heap.size, j, none⟩) (by simp); clear hb)
        go_ret
        exact ⟨by first | exact BoolSo.no | (show BoolSo CO (.returned (.bool (decide ((cut : Int) ≤ 1099511627776)))); rw [decide_eq_false (by omega)]; exact BoolSo.no), HB1.out⟩
      go_enter Try.func43, Try.ntmps43
      go_wp2_with (go_at_call 72; with_reducible refine (HS.out _).mono ?_; rintro e w1 ⟨rfl, hb⟩; have HB1 := Lib.hid (bto HB.out hb); have hc := fun j => hb.cell (p := ⟨w.heap.size, j, none⟩) (by simp); clear hb)
      go_ret
      exact ⟨BoolSo.yes (HOK.out HSO.out s1 s2 hl hs0 hs1 hp1 hp2 hcu), HB1.out⟩
    · go_enter Try.func43, Try.ntmps43
      go_wp2
      go_ret
      exact ⟨BoolSo.no, HB.out⟩
  · go_enter Try.func43, Try.ntmps43
    go_wp2
    go_ret
    exact ⟨BoolSo.no, HB.out⟩
end Go.Proofs.Ytbimfopbilcdgaa
