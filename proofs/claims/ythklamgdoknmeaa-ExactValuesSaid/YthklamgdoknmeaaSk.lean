/-
  awake, of layer exact; and what its sum is, reckoned.
-/
import Derived.Test.YthklamgdoknmeaaSf
set_option linter.unusedSimpArgs false
set_option linter.unusedVariables false
set_option maxRecDepth 8000
namespace Go.Proofs.Ythklamgdoknmeaa
open Go.RowKit Sm

theorem awake_val : valW (accN [9094988921128908188, 4607182418800017408, 18318360957983683996]) (accH [9094988921128908188, 4607182418800017408, 18318360957983683996]) = 4607182418800017408 ∧
    valO (accN [9094988921128908188, 4607182418800017408, 18318360957983683996]) (accH [9094988921128908188, 4607182418800017408, 18318360957983683996]) = false := by decide +kernel

def OfGives (W : World) (a : Option Addr) (len cap n h : Nat) : Prop := Calls Try.prog 12 #[.slice a len cap] W fun e w' => e = .returned (.agg (P36 (wd n) h)) ∧ Below W.heap.size W w'
def VaGives (n h W : Nat) (o : Bool) : Prop := ∀ w, Calls Try.prog 14 #[.agg (P36 (wd n) h)] w fun e w' => e = .returned (.tuple #[.float .f64 W, .bool o]) ∧ Below w.heap.size w w'
theorem VaGives.at {n h W : Nat} {o : Bool} (H : VaGives n h W o) (w : World) : Calls Try.prog 14 #[.agg (P36 (wd n) h)] w fun e w' => e = .returned (.tuple #[.float .f64 W, .bool o]) ∧ Below w.heap.size w w' := H w

theorem flAt_new (w : World) (l : List Nat) (t : TypeId) (hl : ∀ x, x ∈ l → x < 18446744073709551616) : FlAt (w.alloc (.cells (l.map (Value.float .f64)).toArray t)) (some ⟨w.heap.size, 0, none⟩) l := by
  intro k x hx
  have hk : k < l.length := by
    rcases Nat.lt_or_ge k l.length with h | h
    · exact h
    · rw [List.getElem?_eq_none h] at hx; cases hx
  refine ⟨hl x (List.mem_of_getElem? hx), w.heap.size, 0, rfl, by simp, ?_⟩
  rw [Nat.zero_add, World.cell?_alloc_new]
  simp [hx]

set_option maxHeartbeats 1000000 in
theorem awake_any (w : World) : Calls Try.prog 11 #[] w fun e w' => e = .returned (.bool true) ∧ Below w.heap.size w w' := by
  have hv : VaGives (accN [9094988921128908188, 4607182418800017408, 18318360957983683996]) (accH [9094988921128908188, 4607182418800017408, 18318360957983683996]) 4607182418800017408 false := fun w => by
    have h := value_any _ _ (accN_lt [9094988921128908188, 4607182418800017408, 18318360957983683996]) (accH_lt [9094988921128908188, 4607182418800017408, 18318360957983683996]) w
    rwa [awake_val.1, awake_val.2] at h
  have he : (FloatKind.f64.format.order 4607182418800017408 4607182418800017408 == some .eq) = true := by decide +kernel
  go_enter Try.func11, Try.ntmps11
  have HB : Below w.heap.size w (w.alloc (.cells #[Value.float .f64 9094988921128908188, Value.float .f64 4607182418800017408, Value.float .f64 18318360957983683996] 33)) := (Below.refl _ _).alloc (Nat.le_refl _) _
  go_wp2_with (first
    | (go_at_call 12; refine (of_slice _ [9094988921128908188, 4607182418800017408, 18318360957983683996] 3 3 rfl (by decide) _ (flAt_new w [9094988921128908188, 4607182418800017408, 18318360957983683996] _ (by decide))).mono ?_; rintro e w' ⟨rfl, hb1⟩; replace HB := HB.trans (hb1.mono HB.size); clear hb1)
    | (go_at_call 14; (with_reducible refine (hv.at _).mono ?_); rintro e w' ⟨rfl, hb1⟩; replace HB := HB.trans (hb1.mono HB.size); clear hb1))
  go_ret
  exact ⟨rfl, HB⟩

/-! A law's own numbers that stand alone -/
theorem acc_two (x y : Nat) : accN [x, y] = (unit x + unit y) % top ∧ accH [x, y] = kindB x ||| kindB y := by
  constructor
  · show ((0 + unit x) % top + unit y) % top = _
    rw [Nat.zero_add, Nat.mod_eq_of_lt (unit_lt x)]
  · show 0 ||| kindB x ||| kindB y = _
    rw [Nat.zero_or]
/-- A call behind a new block. -/
theorem below_new {B : Nat} {w w' : World} {o : Obj} (h : Below (w.alloc o).heap.size (w.alloc o) w') (hB : B ≤ w.heap.size) : Below B w w' :=
  (((Below.refl w.heap.size w).alloc (Nat.le_refl _) o).trans (h.mono (by simp))).mono hB
end Go.Proofs.Ythklamgdoknmeaa
