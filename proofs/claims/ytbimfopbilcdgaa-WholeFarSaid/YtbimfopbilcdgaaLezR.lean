/-
  Shared by the laws of layer exact.
-/
import Derived.Test.YtbimfopbilcdgaaZyQ
set_option linter.unusedSimpArgs false
set_option linter.unusedVariables false
set_option maxRecDepth 8000
namespace Go.Proofs.Ytbimfopbilcdgaa
open Go.RowKit Sm

theorem Kp.drew {w0 : World} {g : Nat} {cs : Array Value} {t : TypeId} {w : World} (h : Kp w0 g cs t w) : Kp w0 g cs t w.drew := ⟨h.below.drew, h.row⟩
theorem Kp.put {w0 : World} {g : Nat} {cs cs' : Array Value} {t : TypeId} {w : World} (h : Kp w0 g cs t w) (hg : w0.heap.size ≤ g) : Kp w0 g cs' t (w.setRow g cs') := h.stored hg cs'
def SmGives (a b : Nat) : Prop := ∀ w, Calls Try.prog 83 #[.float .f64 a, .float .f64 b] w fun e w' => e = .returned (.bool true) ∧ w = w'
theorem SmGives.at {a b : Nat} (H : SmGives a b) (w : World) : Calls Try.prog 83 #[.float .f64 a, .float .f64 b] w fun e w' => e = .returned (.bool true) ∧ w = w' := H w
theorem sm_gives (a b : Nat) (ha : a < 18446744073709551616) (hb : b < 18446744073709551616) (h : Fl.canon a = Fl.canon b) : SmGives a b := fun w => by
  refine (refSame_any a b ha hb w).mono ?_
  rintro e w' ⟨rfl, rfl⟩
  exact ⟨ret_eq (congrArg Value.bool (decide_eq_true h)), rfl⟩
/-- All of the numbers are finite. -/
def Fin (l : List Nat) : Prop := ∀ x, x ∈ l → Fl.rung x < 9218868437227405312
theorem fin_has (l : List Nat) : Fin l → accH l = 0 ∨ accH l = 8 ∨ accH l = 24 :=
  list_snoc (p := fun l => Fin l → accH l = 0 ∨ accH l = 8 ∨ accH l = 24) (fun _ => Or.inl rfl) (fun l b ih h => by
    have h1 := ih (fun x hx => h x (by simp [hx]))
    have h2 := kind_fin b (h b (by simp))
    rw [accH_snoc, h2]
    rcases h1 with h1 | h1 | h1 <;> rw [h1] <;> split <;> decide) l
theorem fin_snoc (l : List Nat) (b : Nat) (h : Fin l) (hb : Fl.rung b < 9218868437227405312) : Fin (l ++ [b]) := fun x hx => by
  rcases List.mem_append.1 hx with h1 | h1
  · exact h x h1
  · rw [List.mem_singleton.1 h1]; exact hb

/-- A whole sum read, its operation guarded or not. -/
theorem wpList_sum {ops : Array Oper} {rest : List Oper} {o : Oper} {a : Act} {w : World} {Q : Exit → Act → World → Prop} (x : Operand) (ho : o.op = .load 87 x)
    (g : Nat) (hx : a.eval x = .pointer (some ⟨g, 0, none⟩)) (n h : Nat) (t : TypeId) (fr : Nat × Nat) (hg : w.heap[g]? = some (.cells (P36 (wd n) h) t fr)) (hw : Region.wanted o (yielded ops a.tmps) = true)
    (hh : wpList Try.prog ops Q rest (a.put o.dst (.agg (P36 (wd n) h))) w) : wpList Try.prog ops Q (o :: rest) a w :=
  wpList_load_row_w hw 87 x ho g hx t _ fr _ hg u27 rfl (i36 _ _) hh
theorem wpList_keepSum {ops : Array Oper} {rest : List Oper} {o : Oper} {a : Act} {w : World} {Q : Exit → Act → World → Prop} (x y : Operand) (ho : o.op = .store 87 x y)
    (g : Nat) (hx : a.eval x = .pointer (some ⟨g, 0, none⟩)) (n h : Nat) (hy : a.eval y = .agg (P36 (wd n) h)) (f : Nat → Nat) (k : Nat) (t : TypeId) (hg : w.heap[g]? = some (.cells (P36 f k) t (0, 0))) (hgd : o.guard = none)
    (hh : wpList Try.prog ops Q rest (a.put o.dst undef) (w.setRow g (P36 (wd n) h))) : wpList Try.prog ops Q (o :: rest) a w :=
  wpList_store_row hgd 87 x y ho g _ hx hy t _ hg (i36 _ _) (by rw [P36_size, P36_size]) (one36 _ _) hh
end Go.Proofs.Ytbimfopbilcdgaa
