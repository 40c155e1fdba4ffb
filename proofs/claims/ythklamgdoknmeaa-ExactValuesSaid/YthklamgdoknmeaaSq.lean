/-
  Arrays of words held against one another: the walk of Same.
-/
import Derived.Test.YthklamgdoknmeaaSs
set_option linter.unusedSimpArgs false
set_option linter.unusedVariables false
set_option maxRecDepth 8000
namespace Go.Proofs.Ythklamgdoknmeaa
open Go.RowKit Sm

theorem run_forIn_first {P : Program} {w : World} (c : Nat → Bool) (body : Nat → (Option Bool × PUnit) → Sem (ForInStep (Option Bool × PUnit))) :
    ∀ (l : List Nat), (∀ i, i ∈ l → ∀ s, (body i s).run P w = .ok (if c i then .yield (none, ⟨⟩) else .done (some false, ⟨⟩)) w) →
    (forIn l (none, ⟨⟩) body).run P w = .ok (if l.all c then (none, ⟨⟩) else (some false, ⟨⟩)) w
  | [], _ => by simp
  | i :: r, h => by
    rw [List.forIn_cons, Sem.run_bind, h i (by simp)]
    simp only [Result.andThen_ok, List.all_cons]
    by_cases hc : c i = true
    · simp only [hc, if_true, Bool.true_and]
      exact run_forIn_first c body r (fun j hj => h j (by simp [hj]))
    · simp only [Bool.not_eq_true] at hc
      simp [hc]

/-- Word by word. -/
def eqW (f g : Nat → Nat) : Bool := (List.range' 0 35).all fun i => f i == g i
theorem eqW_iff (f g : Nat → Nat) : eqW f g = true ↔ A35 f = A35 g := by
  unfold eqW
  rw [List.all_eq_true]
  constructor
  · intro h
    refine A35_congr fun i hi => ?_
    have := h i (by simp [List.mem_range', hi])
    simpa using this
  · intro h i hi
    have hi2 : i < 35 := by simp [List.mem_range'] at hi; omega
    simpa using A35_inj h i hi2

theorem size24 (w : World) : (sizeOf 24).run Try.prog w = .ok 1 w := by kernel_rfl
theorem eq35_run (d : Nat) (f g : Nat → Nat) (w : World) : (Op.equalIn (d + 2) 25 (.agg (A35 f)) (.agg (A35 g))).run Try.prog w = .ok (eqW f g) w := by
  rw [Op.equalIn]
  simp only [Sem.run_bind, run_underlying u35, Result.andThen_ok, size24]
  rw [Std.Legacy.Range.forIn_eq_forIn_range', run_forIn_first (fun i => f i == g i)]
  · have e : (List.range' [:35].start [:35].size [:35].step).all (fun i => f i == g i) = eqW f g := rfl
    rw [e]
    simp only [Result.andThen_ok]
    cases eqW f g <;> rfl
  · intro i hi s
    have hi2 : i < 35 := by simp [List.mem_range'] at hi; omega
    simp only [Sem.run_bind, part_word f i hi2, part_word g i hi2, Result.andThen_ok, run_equalIn_int w d 24 .u64 .u64 _ _ Try.underlying24]
    cases h : (f i == g i)
    · have : ((f i : Int) == (g i : Int)) = false := by rw [beq_eq_false_iff_ne] at h ⊢; omega
      rw [this]; rfl
    · have : ((f i : Int) == (g i : Int)) = true := by rw [beq_iff_eq] at h ⊢; omega
      rw [this]; rfl

/-- The words of a struct that lies in a known block. -/
theorem range_words (W : World) (g h : Nat) (f : Nat → Nat) (t : TypeId) (fr : Nat × Nat) (hg : W.heap[g]? = some (.cells (P36 f h) t fr)) : W.rangeAt g 0 (A35 f).toList := by
  intro j v hv
  rw [cell_of_row W g (0 + j) _ t fr hg, Nat.zero_add]
  have hj : j < 35 := by
    rcases Nat.lt_or_ge j 35 with h1 | h1
    · exact h1
    · rw [List.getElem?_eq_none (by simp [A35_size, h1])] at hv; cases hv
  rw [P36_word _ _ _ hj, ← A35_get f j hj]
  simpa using hv
theorem wpList_words {ops : Array Oper} {rest : List Oper} {o : Oper} {a : Act} {w : World} {Q : Exit → Act → World → Prop} (hgd : o.guard = none) (x : Operand) (ho : o.op = .load 25 x)
    (g : Nat) (hx : a.eval x = .pointer (some ⟨g, 0, none⟩)) (f : Nat → Nat) (h : Nat) (t : TypeId) (fr : Nat × Nat) (hg : w.heap[g]? = some (.cells (P36 f h) t fr))
    (hh : wpList Try.prog ops Q rest (a.put o.dst (.agg (A35 f))) w) : wpList Try.prog ops Q (o :: rest) a w :=
  wpList_load_mid hgd 25 x ho g 0 hx (A35 f).toList _ (range_words w g h f t fr hg) u35 rfl (by rw [i35' f]; simp) (by simpa using hh)

theorem eqlSum_run (f g : Nat → Nat) (w : World) : (binOp .eql 25 (.agg (A35 f)) (.agg (A35 g))).run Try.prog w = .ok (.bool (eqW f g)) w := by
  rw [run_eql_struct, eq35_run 9998]; rfl

end Go.Proofs.Ythklamgdoknmeaa
