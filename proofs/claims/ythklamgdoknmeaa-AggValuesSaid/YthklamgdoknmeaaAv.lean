/-
  Layer agg: the law AggValues, walked.
-/
import Derived.Test.YthklamgdoknmeaaAt
set_option linter.unusedSimpArgs false
set_option linter.unusedVariables false
set_option maxRecDepth 8000
namespace Go.Proofs.Ythklamgdoknmeaa
open Go.RowKit Go.WideShapes Col Sm Qb
/-- A whole row loaded under a guard that holds. -/
theorem wpList_load_rowG {P : Program} {ops : Array Oper} {rest : List Oper} {o : Oper} {a : Act} {w : World} {Q : Exit → Act → World → Prop} (hw : Region.wanted o (yielded ops a.tmps) = true) (ty : TypeId) (x : Operand) (ho : o.op = .load ty x)
    (g : Nat) (hx : a.eval x = .pointer (some ⟨g, 0, none⟩)) (t : TypeId) (cs : Array Value) (fr : Nat × Nat) (d : TypeDesc) (hg : w.heap[g]? = some (.cells cs t fr))
    (hu : P.underlying ty = some d) (hd : (match d with | .struct _ | .array _ _ => true | _ => false) = true) (hi : (P.info? ty).map (·.size) = some cs.size)
    (h : wpList P ops Q rest (a.put o.dst (.agg cs)) w) : wpList P ops Q (o :: rest) a w :=
  wpList_step fun K hK => by simp only [hw, if_true]; exact wp_load_row ty x ho g hx t cs fr d hg hu hd hi (hK _ _ h)
set_option maxHeartbeats 1000000 in
theorem aggValues_long (a : Option Addr) (la ca : Nat) (hL : 30 < la) (w : World) :
    Calls Try.prog 4 #[.slice a la ca] w fun e w' => e = .returned (.bool true) ∧ Below w.heap.size w w' := by
  have HB := Below.refl w.heap.size w
  go_enter Try.func4, Try.ntmps4
  go_wp2_with (go_at_call 20; refine (awakeS_any _).mono ?_; rintro e w' ⟨rfl, hb1⟩; replace HB := HB.trans (hb1.mono HB.size); clear hb1)
  go_ret
  exact ⟨rfl, HB⟩
set_option maxHeartbeats 4000000 in
theorem aggValues_core (a : Option Addr) (l : List Nat) (la ca : Nat) (hla : Hid (la = l.length)) (hL : ¬ 30 < la) (W : World) (HA : Hid (FlAt W a l)) :
    Calls Try.prog 4 #[.slice a la ca] W fun e w' => e = .returned (.bool true) ∧ Below W.heap.size W w' := by
  have hlt : ∀ x ∈ l, x < 18446744073709551616 := fun x hx => by
    obtain ⟨k, hk⟩ := List.getElem?_of_mem hx
    exact (HA.out k x hk).1
  have hlw : IntKind.u64.wrap (la : Int) = (la : Int) := by rw [IntKind.wrap_u64]; omega
  have HLN : Hid (∀ w, Calls Try.prog 25 #[.agg (TL l)] w fun e w' => e = .returned (.int .u64 (la : Int)) ∧ Below w.heap.size w w') := Lib.hid fun w => by
    have h := lenS_any l.length (wd (accN l)) (accH l) (accLo l) (accHi l) w
    exact h.mono fun e w' ⟨he, hb⟩ => ⟨by rw [he, hla.out], hb⟩
  have HVL := Lib.hid fun w => valueTL l hlt w
  have HTO := Lib.hid (telL_ok l hlt (by have := hla.out; omega))
  have HRV := Lib.hid fun (w : World) (hb : Below W.heap.size W w) => refVal_any a l la ca hla (by omega) w (Lib.hid (HA.out.keep hb))
  clear hlt
  generalize telL l = TZ at *
  go_enter Try.func4, Try.ntmps4
  go_wp2_with (first
    | (go_at_call 20; refine (awakeS_any _).mono ?_; rintro e w1 ⟨rfl, hb⟩; have HB1 := Lib.hid hb; clear hb)
    | (go_at_call 21; refine (ofS_any a l la ca hla (by omega) _ (FlAt.keep HA.out HB1.out)).mono ?_; rintro e w2 ⟨rfl, hb⟩; have HB2 := Lib.hid (below_to HB1.out hb); clear hb)
    | (rw [zeros39]; refine wpList_store_row rfl 40 (.tmp 3) (.tmp 13) rfl _ (TL l) rfl rfl _ _ (heap_alloc_new _ _) (iT _ _ _ _ _) (by rw [T39_size, T39_size]) (one39 _ _ _ _ _) ?_; rw [World.setRow_alloc_new]; have HR3 := Lib.hid (heap_alloc_new' w2 (.cells (TL l) 40)); have HB3 := Lib.hid (HB2.out.alloc HB2.out.size (.cells (TL l) 40)))
    | (refine wpList_load_row rfl 40 (.tmp 3) rfl w2.heap.size rfl _ (TL l) (0, 0) _ HR3.out uT rfl (iT _ _ _ _ _) ?_)
    | (refine wpList_load_rowG (by rfl) 40 (.tmp 3) rfl w2.heap.size rfl _ (TL l) (0, 0) _ HR6.out uT rfl (iT _ _ _ _ _) ?_)
    | (go_at_call 23; (with_reducible refine (HVL.out _).mono ?_); rintro e w4 ⟨rfl, hb⟩; have HB4 := Lib.hid (below_to HB3.out hb); have HR4 := Lib.hid (row_keep HR3.out hb); clear hb)
    | (go_at_call 24; obtain ⟨t, ht, hte, hcl⟩ := HRV.out _ HB4.out; refine hcl.mono ?_; rintro e w5 ⟨rfl, hb⟩; have HB5 := Lib.hid (below_to HB4.out hb); have HR5 := Lib.hid (row_keep HR4.out hb); have HSM : Hid (∀ w, Calls Try.prog 22 #[.agg #[.int .u64 (TZ.c : Int), .float .f64 TZ.s, .bool TZ.o, .float .f64 TZ.lo, .float .f64 TZ.hi], .agg #[.int .u64 (t.c : Int), .float .f64 t.s, .bool t.o, .float .f64 t.lo, .float .f64 t.hi]] w fun e w' => e = .returned (.bool true) ∧ Below w.heap.size w w') := Lib.hid (fun w => by have h := refAggSame_any TZ t HTO.out ht w; rwa [hte] at h); clear hb hcl hte ht)
    | (go_at_call 22; (with_reducible refine (HSM.out _).mono ?_); rintro e w6 ⟨rfl, hb⟩; have HB6 := Lib.hid (below_to HB5.out hb); have HR6 := Lib.hid (row_keep HR5.out hb); clear hb)
    | (go_at_call 25; (with_reducible refine (HLN.out _).mono ?_); rintro e w7 ⟨rfl, hb⟩; have HB7 := Lib.hid (below_to HB6.out hb); clear hb))
  go_ret
  exact ⟨rfl, HB7.out⟩
theorem aggValues_any (a : Option Addr) (l : List Nat) (la ca : Nat) (hla : Hid (la = l.length)) (_ : la ≤ ca) (_ : ca ≤ maxLen) (W : World) (HA : Hid (FlAt W a l)) :
    Calls Try.prog 4 #[.slice a la ca] W fun e w' => e = .returned (.bool true) ∧ Below W.heap.size W w' := by
  by_cases hL : 30 < la
  · exact aggValues_long a la ca hL W
  · exact aggValues_core a l la ca hla hL W HA
end Go.Proofs.Ythklamgdoknmeaa
