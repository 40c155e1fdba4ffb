/-
  The law ExactReads.
-/
import Derived.Test.YthklamgdoknmeaaBk
import Derived.Test.YthklamgdoknmeaaSd
import Derived.Test.YthklamgdoknmeaaSk
import Derived.Outline
set_option linter.unusedSimpArgs false
set_option linter.unusedVariables false
set_option maxRecDepth 8000
namespace Go.Proofs.Ythklamgdoknmeaa
open Go.RowKit Sm

/-- Are these a sum's bytes? -/
def okP (l : List Nat) : Bool := match l with
  | [] => false
  | x :: r => decide (r.length ≤ 280) && !spB r && possB x (((r.length : Nat) : Int) == 0)

theorem xread_no (a : Option Addr) (l : List Nat) (len cap : Nat) (hlen : Hid (len = l.length)) (hc : len ≤ cap) (h : okP l = false) (w : World) (HA : Hid (ByAt w a l)) :
    Calls Try.prog 84 #[.slice a len cap] w (RetX w) := by
  rcases l with _ | ⟨x, r⟩
  · exact xread_size a len cap (Or.inl hlen.out) w
  · by_cases hr : r.length ≤ 280
    · obtain ⟨g, off, A, n, C, H⟩ := hd_of a x r len cap hlen hc w HA
      have hn := H.rlen.out
      refine xread_bad a len cap x r g off A n C w (Lib.hid H) (by omega) ?_
      unfold okP at h
      simp only [decide_eq_true hr, Bool.true_and] at h
      rw [hn]
      cases hs : spB r
      · right; rw [hs] at h; exact ⟨rfl, by simpa using h⟩
      · left; rfl
    · exact xread_size a len cap (Or.inr (by have := hlen.out; rw [List.length_cons] at this; omega)) w
theorem xread_yes (a : Option Addr) (x : Nat) (r : List Nat) (len cap : Nat) (hlen : Hid (len = (x :: r).length)) (hc : len ≤ cap) (h : okP (x :: r) = true) (w : World) (HA : Hid (ByAt w a (x :: r))) :
    Calls Try.prog 84 #[.slice a len cap] w (RetY w (vl (xt r 280)) x) := by
  obtain ⟨g, off, A, n, C, H⟩ := hd_of a x r len cap hlen hc w HA
  have hn := H.rlen.out
  unfold okP at h
  simp only [Bool.and_eq_true, decide_eq_true_eq, Bool.not_eq_true'] at h
  exact xread_ok a len cap x r g off A n C w (Lib.hid H) (by omega) (Lib.hid h.1.2) (by rw [hn]; exact h.2)

theorem wd_nought : wd 0 = fun _ => 0 := by funext i; unfold wd; simp
/-- An empty sum built, its operation guarded or not. -/
theorem wpList_build36w {ops : Array Oper} {rest : List Oper} {o : Oper} {a : Act} {w : World} {Q : Exit → Act → World → Prop} (hw : Region.wanted o (yielded ops a.tmps) = true) (ho : o.op = .build 27 #[])
    (h : wpList Try.prog ops Q rest (a.put o.dst (.agg (P36 (wd 0) 0))) w) : wpList Try.prog ops Q (o :: rest) a w := by
  refine wpList_step fun K hK => ?_
  rw [if_pos hw]
  have e : (#[] : Array (Nat × Operand)).map (fun (i, x) => (i, a.eval x)) = #[] := by simp
  refine wp_build _ _ ho ?_ ?_
  · rw [e]
    show (Try.prog.built 27 []).isSome = true
    rw [built36e]; rfl
  · rw [e]
    show K (a.put o.dst (.agg ((Try.prog.built 27 []).getD #[]))) w
    rw [built36e, Option.getD_some, zeros36, ← wd_nought]
    exact hK _ _ h

theorem yieldsIf_conv {ops : Array Oper} {S : World → Prop} {op : Oper} {a : Act} (hw : Region.wanted op (yielded ops a.tmps) = true) (x : Operand) (ho : op.op = .convert 29 9 x) (v u : Value) (hx : a.eval x = v)
    (h : ∀ w, S w → (convert 29 9 v).run Try.prog w = .ok u w) : YieldsIf Try.prog ops S op u a :=
  .inl ⟨hw, fun w hw' => by
    unfold execOp
    simp only [ho, hx, Sem.run_bind, Sem.run_pure, h w hw', Result.andThen_ok]⟩

theorem wp_conv {o : Oper} {a : Act} {w : World} {K : Act → World → Prop} {Q : Exit → Act → World → Prop} (x : Operand) (ho : o.op = .convert 29 9 x) (v u : Value) (hx : a.eval x = v)
    (h : (convert 29 9 v).run Try.prog w = .ok u w) (hk : K (a.put o.dst u) w) : o.wp Try.prog a w K Q := by
  unfold Oper.wp execOp
  simp only [ho, hx, Sem.run_bind, h, Result.andThen_ok]
  exact hk

end Go.Proofs.Ythklamgdoknmeaa
