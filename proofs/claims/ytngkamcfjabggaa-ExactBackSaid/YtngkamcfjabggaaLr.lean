/-
  The law ExactReads.
-/
import Derived.Test.YtngkamcfjabggaaBk
import Derived.Test.YtngkamcfjabggaaSd
import Derived.Test.YtngkamcfjabggaaSk
import Derived.Outline
set_option linter.unusedSimpArgs false
set_option linter.unusedVariables false
namespace Go.Proofs.Ytngkamcfjabggaa
open Go.RowKit Sm

/-- Are these a sum's bytes? -/
def okP (l : List Nat) : Bool := match l with
  | [] => false
  | x :: r => decide (r.length ≤ 280) && !spB r && possB x (((r.length : Nat) : Int) == 0)

theorem xread_no (a : Option Addr) (l : List Nat) (len cap : Nat) (hlen : Hid (len = l.length)) (hc : len ≤ cap) (h : okP l = false) (w : World) (HA : Hid (ByAt w a l)) :
    Calls Try.prog 32 #[.slice a len cap] w (RetX w) := by
  rcases l with _ | ⟨x, r⟩
  · exact xread_size a len cap (Or.inl hlen.out) w
  · by_cases hr : r.length ≤ 280
    · obtain ⟨g, off, A, n, C, H⟩ := hd_of a x r len cap hlen hc w HA
      have hn := H.rlen.out
      refine xread_bad a len cap x r g off A n C w (Lib.hid H) (by omega) ?_
      unfold okP at h
      simp only [decide_eq_true hr, Bool.true_and] at h
      rw [hn]
      cases hs : spB r
      · right; rw [hs] at h; exact ⟨rfl, by simpa using h⟩
      · left; rfl
    · exact xread_size a len cap (Or.inr (by have := hlen.out; rw [List.length_cons] at this; omega)) w
theorem xread_yes (a : Option Addr) (x : Nat) (r : List Nat) (len cap : Nat) (hlen : Hid (len = (x :: r).length)) (hc : len ≤ cap) (h : okP (x :: r) = true) (w : World) (HA : Hid (ByAt w a (x :: r))) :
    Calls Try.prog 32 #[.slice a len cap] w (RetY w (vl (xt r 280)) x) := by
  obtain ⟨g, off, A, n, C, H⟩ := hd_of a x r len cap hlen hc w HA
  have hn := H.rlen.out
  unfold okP at h
  simp only [Bool.and_eq_true, decide_eq_true_eq, Bool.not_eq_true'] at h
  exact xread_ok a len cap x r g off A n C w (Lib.hid H) (by omega) (Lib.hid h.1.2) (by rw [hn]; exact h.2)

theorem wd_nought : wd 0 = fun _ => 0 := by funext i; unfold wd; simp
/-- An empty sum built, its operation guarded or not. -/
theorem wpList_build36w {ops : Array Oper} {rest : List Oper} {o : Oper} {a : Act} {w : World} {Q : Exit → Act → World → Prop} (hw : Region.wanted o (yielded ops a.tmps) = true) (ho : o.op = .build 27 #[])
    (h : wpList Try.prog ops Q rest (a.put o.dst (.agg (P36 (wd 0) 0))) w) : wpList Try.prog ops Q (o :: rest) a w := by
  refine wpList_step fun K hK => ?_
  rw [if_pos hw]
  have e : (#[] : Array (Nat × Operand)).map (fun (i, x) => (i, a.eval x)) = #[] := by simp
  refine wp_build _ _ ho ?_ ?_
  · rw [e]
    show (Try.prog.built 27 []).isSome = true
    rw [built36e]; rfl
  · rw [e]
    show K (a.put o.dst (.agg ((Try.prog.built 27 []).getD #[]))) w
    rw [built36e, Option.getD_some, zeros36, ← wd_nought]
    exact hK _ _ h

set_option maxHeartbeats 1000000 in
theorem exactReads_long (a : Option Addr) (len cap : Nat) (hL : 600 < len) (w : World) :
    Calls Try.prog 10 #[.slice a len cap] w fun e w' => e = .returned (.bool true) ∧ Below w.heap.size w w' := by
  have HB := Below.refl w.heap.size w
  go_enter Try.func10, Try.ntmps10
  go_wp2_with (go_at_call 13; refine (awake_any _).mono ?_; rintro e w' ⟨rfl, hb1⟩; replace HB := HB.trans (hb1.mono HB.size); clear hb1)
  go_ret
  exact ⟨rfl, HB⟩

set_option maxHeartbeats 2000000 in
theorem exactReads_no (a : Option Addr) (l : List Nat) (len cap : Nat) (hlen : Hid (len = l.length)) (hc : len ≤ cap) (hL : ¬ 600 < len) (h : Hid (okP l = false)) (W : World) (HA : Hid (ByAt W a l)) :
    Calls Try.prog 10 #[.slice a len cap] W fun e w' => e = .returned (.bool true) ∧ Below W.heap.size W w' := by
  have hany : (bits .and .u8 ((0 : Nat) : Int) 8 != 0) = false := by decide
  have hsame : (eqW (wd 0) (wd 0) && (((0 : Nat) : Int) == ((0 : Nat) : Int))) = true := by rw [(eqW_iff _ _).2 rfl]; rfl
  have HANY := Lib.hid hany
  have HSAME := Lib.hid hsame
  clear hany hsame
  go_enter Try.func10, Try.ntmps10
  go_wp2_with (first
    | (go_at_call 13; refine (awake_any _).mono ?_; rintro e w1 ⟨rfl, hb⟩; have HB := Lib.hid hb; clear hb; have HA1 := Lib.hid (HA.out.keep HB.out))
    | (go_at_call 32; refine (xread_no a l len cap hlen hc h.out _ HA1).mono ?_; rintro e w2 ⟨rfl, hb⟩; rw [← wd_nought]; have HB2 := Lib.hid hb; clear hb)
    | (rw [zeros36]; refine wpList_store_row rfl 27 (.tmp 3) (.tmp 16) rfl w2.heap.size (P36 (wd 0) 0) rfl rfl _ _ (heap_alloc_new _ _) (i36 _ _) (by rw [P36_size, P36_size]) (one36 _ _) ?_; rw [World.setRow_alloc_new]; have hk := Kp.start w2 (P36 (wd 0) 0) 27)
    | (refine wpList_sum (.tmp 3) rfl _ rfl _ _ _ _ hk.row rfl ?_)
    | (go_at_call 21; (refine (any_any 0 0 _).mono ?_); rw [HANY.out]; rintro e w3 ⟨rfl, hb⟩; replace hk := hk.next hb; clear hb)
    | (refine wpList_build36w rfl rfl ?_)
    | (go_at_call 23; (refine (same_sum 0 0 0 0 _).mono ?_); rw [HSAME.out]; rintro e w4 ⟨rfl, hb⟩; replace hk := hk.next hb; clear hb))
  go_ret
  exact ⟨ret_eq rfl, below_to (below_to HB.out HB2.out) hk.below⟩

theorem yieldsIf_conv {ops : Array Oper} {S : World → Prop} {op : Oper} {a : Act} (hw : Region.wanted op (yielded ops a.tmps) = true) (x : Operand) (ho : op.op = .convert 29 9 x) (v u : Value) (hx : a.eval x = v)
    (h : ∀ w, S w → (convert 29 9 v).run Try.prog w = .ok u w) : YieldsIf Try.prog ops S op u a :=
  .inl ⟨hw, fun w hw' => by
    unfold execOp
    simp only [ho, hx, Sem.run_bind, Sem.run_pure, h w hw', Result.andThen_ok]⟩

theorem wp_conv {o : Oper} {a : Act} {w : World} {K : Act → World → Prop} {Q : Exit → Act → World → Prop} (x : Operand) (ho : o.op = .convert 29 9 x) (v u : Value) (hx : a.eval x = v)
    (h : (convert 29 9 v).run Try.prog w = .ok u w) (hk : K (a.put o.dst u) w) : o.wp Try.prog a w K Q := by
  unfold Oper.wp execOp
  simp only [ho, hx, Sem.run_bind, h, Result.andThen_ok]
  exact hk

set_option maxHeartbeats 4000000 in
theorem exactReads_core (a : Option Addr) (x N : Nat) (r : List Nat) (len cap : Nat) (hlen : Hid (len = (x :: r).length)) (hL : ¬ 600 < len) (hx : x < 256) (W : World) (HA : Hid (ByAt W a (x :: r)))
    (hN : Hid (strip (fl280 N 280) 280 = r)) (hrd : Hid (∀ w, Hid (ByAt w a (x :: r)) → Calls Try.prog 32 #[.slice a len cap] w (RetY w N x))) :
    Calls Try.prog 10 #[.slice a len cap] W fun e w' => e = .returned (.bool true) ∧ Below W.heap.size W w' := by
  go_enter Try.func10, Try.ntmps10
  go_wp2_with (first
    | (go_at_call 13; refine (awake_any _).mono ?_; rintro e w1 ⟨rfl, hb⟩; have HB := Lib.hid hb; clear hb; have HA1 := Lib.hid (HA.out.keep HB.out))
    | (go_at_call 32; refine (hrd.out _ HA1).mono ?_; rintro e w2 ⟨rfl, hb⟩; have HB2 := Lib.hid hb; clear hb)
    | (rw [zeros36]; refine wpList_store_row rfl 27 (.tmp 3) (.tmp 16) rfl w2.heap.size (P36 (wd N) x) rfl rfl _ _ (heap_alloc_new _ _) (i36 _ _) (by rw [P36_size, P36_size]) (one36 _ _) ?_; rw [World.setRow_alloc_new]; have hk := Kp.start w2 (P36 (wd N) x) 27))
  have hS : Kp W w2.heap.size (P36 (wd N) x) 27 (w2.alloc (.cells (P36 (wd N) x) 27)) := ⟨below_to (below_to HB.out HB2.out) hk.below, hk.row⟩
  clear hk
  generalize w2.alloc _ = wz at *
  generalize w2.heap.size = g at *
  refine wp_region_held_drew (S := Kp W g (P36 (wd N) x) 27) (by kernel_rfl) hS.drew (fun hHeld => ?_)
  refine wpAnyH_take (i := 0) (v := .agg (P36 (wd N) x)) rfl (by kernel_rfl) (by kernel_rfl) (by kernel_rfl) (fun _ _ _ h => h) (yieldsIf_row rfl 27 (.tmp 3) rfl g rfl _ _ _ _ (fun w' hw' => hw'.row) u27 rfl (i36 _ _)) hHeld ?_
  try dsimp only
  try simp only [Act.put, List.setIfInBounds_toArray, List.set_cons_zero, List.set_cons_succ]
  refine wpAnyH_take (i := 3) (v := .slice a len cap) rfl (by kernel_rfl) (by kernel_rfl) (by kernel_rfl) (fun _ _ _ h => h) (Or.inl ⟨by rfl, fun _ _ => rfl⟩) hHeld ?_
  try dsimp only
  try simp only [Act.put, List.setIfInBounds_toArray, List.set_cons_zero, List.set_cons_succ]
  refine wpAnyH_take (i := 4) (v := .string (strB (x :: r))) rfl (by kernel_rfl) (by kernel_rfl) (by kernel_rfl) (fun _ _ _ h => h) (yieldsIf_conv rfl (.tmp 35) rfl (.slice a len cap) _ rfl (fun w' hw' => conv_at len cap HA hw'.below hlen.out)) hHeld ?_
  try dsimp only
  try simp only [Act.put, List.setIfInBounds_toArray, List.set_cons_zero, List.set_cons_succ]
  refine wpAnyH_ready (rs := [1]) (by kernel_rfl) (by simp) (AllReadyH.cons rfl (fun K hK => ?_) AllReadyH.nil)
  go_simp
  refine (sumBytes_any N x hx _).mono ?_
  rw [hN.out]
  rintro e w3 ⟨A, C, rfl, own, hb⟩
  have hHeld3 := hHeld.next hb
  have HO := own.byAt
  have hl := own.len
  refine hK.out _ _ hHeld3 (fun hHeld3 => ?_)
  clear hK K
  try dsimp only
  try simp only [Act.put, List.setIfInBounds_toArray, List.set_cons_zero, List.set_cons_succ]
  refine wpAnyH_ready (rs := [2]) (by kernel_rfl) (by simp) (AllReadyH.cons rfl (fun K hK => ?_) AllReadyH.nil)
  rw [if_pos (by rfl)]
  refine wp_conv (.tmp 33) rfl (.slice A (x :: r).length C) (.string (strB (x :: r))) rfl (conv_by _ C HO rfl) ?_
  refine hK.out _ _ hHeld3 (fun hHeld3 => ?_)
  clear hK K
  try dsimp only
  try simp only [Act.put, List.setIfInBounds_toArray, List.set_cons_zero, List.set_cons_succ]
  refine wpAnyH_ready (rs := [5]) (by kernel_rfl) (by simp) (AllReadyH.cons rfl (fun K hK => ?_) AllReadyH.nil)
  go_simp
  refine hK.out _ _ hHeld3 (fun hHeld3 => ?_)
  clear hK K
  try dsimp only
  try simp only [Act.put, List.setIfInBounds_toArray, List.set_cons_zero, List.set_cons_succ]
  refine wpAnyH_ready (rs := [6]) (by kernel_rfl) (by simp) (AllReadyH.cons rfl (fun K hK => ?_) AllReadyH.nil)
  go_simp
  refine hK.out _ _ hHeld3 (fun hHeld3 => ?_)
  refine wpAnyH_done (by kernel_rfl) ?_ _
  go_wp2
  go_ret
  exact ⟨ret_eq rfl, hHeld3.below⟩
theorem exactReads_yes (a : Option Addr) (x : Nat) (r : List Nat) (len cap : Nat) (hlen : Hid (len = (x :: r).length)) (hc : len ≤ cap) (hL : ¬ 600 < len) (h : okP (x :: r) = true) (W : World) (HA : Hid (ByAt W a (x :: r))) :
    Calls Try.prog 10 #[.slice a len cap] W fun e w' => e = .returned (.bool true) ∧ Below W.heap.size W w' := by
  have hlt : ∀ y ∈ x :: r, y < 256 := HA.out.lt
  have h' := h
  unfold okP at h'
  simp only [Bool.and_eq_true, decide_eq_true_eq, Bool.not_eq_true'] at h'
  have hr : ∀ y ∈ r, y < 256 := fun y hy => hlt y (by simp [hy])
  refine exactReads_core a x (vl (xt r 280)) r len cap hlen hL (hlt x (by simp)) W HA (Lib.hid ?_) (Lib.hid fun w HA' => xread_yes a x r len cap hlen hc h w HA')
  rw [fl280_vl _ (xt_lt r 280 hr) (xt_len r 280)]
  exact xt_strip r h'.1.2 280 h'.1.1 (Nat.le_refl _)
theorem exactReads_any (a : Option Addr) (l : List Nat) (len cap : Nat) (hlen : Hid (len = l.length)) (hc : len ≤ cap) (hm : cap ≤ maxLen) (W : World) (HA : Hid (ByAt W a l)) :
    Calls Try.prog 10 #[.slice a len cap] W fun e w' => e = .returned (.bool true) ∧ Below W.heap.size W w' := by
  by_cases hL : 600 < len
  · exact exactReads_long a len cap hL W
  · cases h : okP l
    · exact exactReads_no a l len cap hlen hc hL (Lib.hid h) W HA
    · rcases l with _ | ⟨x, r⟩
      · cases h
      · exact exactReads_yes a x r len cap hlen hc hL h W HA
end Go.Proofs.Ytngkamcfjabggaa
