/-
  The law ColumnReals: walked.
-/
import Derived.Test.YtplmafbdalkopaaDb
set_option linter.unusedSimpArgs false
set_option linter.unusedVariables false
set_option maxRecDepth 8000
namespace Go.Proofs.Ytplmafbdalkopaa
open Go.RowKit Go.WideShapes Col
theorem yb_convR {ops : Array Oper} {S : World → Prop} {op : Oper} {a : Act} (hw : Region.wanted op (yielded ops a.tmps) = true) (x : Operand) (ho : op.op = .convert 24 9 x) (v u : Value) (hx : a.eval x = v)
    (h : ∀ w, S w → (convert 24 9 v).run Try.prog w = .ok u w) : YieldsIf Try.prog ops S op u a :=
  .inl ⟨hw, fun w hw' => by
    unfold execOp
    simp only [ho, hx, Sem.run_bind, Sem.run_pure, h w hw', Result.andThen_ok]⟩
theorem b_neqsR (s : ByteArray) (w : World) : (binOp .neq 9 (.string s) (.string s)).run Try.prog w = .ok (.bool false) w := by
  simp [binOp, Op.stringOp]
theorem b_neqR (x : Int) (w : World) : (binOp .neq 3 (.int .i64 x) (.int .i64 x)).run Try.prog w = .ok (.bool false) w := by
  have h : (x != x) = false := by simp
  go_simp
theorem yb_lenF {ops : Array Oper} {S : World → Prop} {op : Oper} {a : Act} (hw : Region.wanted op (yielded ops a.tmps) = true) (x : Operand) (ho : op.op = .call { callee := .builtin .len, args := #[x], argTypes := #[39] }) (A : Option Addr) (n c : Nat) (hx : a.eval x = .slice A n c) : YieldsIf Try.prog ops S op (.int .i64 (n : Int)) a :=
  .inl ⟨hw, fun w _ => by
    unfold execOp
    simp only [ho, resolve, invoke, builtin, Sem.run_bind, Sem.run_pure, Result.andThen_ok, List.map_toArray, List.map_cons, List.map_nil, hx]
    rfl⟩
theorem rwI_back (l : List Nat) (hl : ∀ x ∈ l, x < 18446744073709551616) : ∀ x ∈ l.map rwI, Fl.canon (u64N x) = u64N x := fun x hx => by
  obtain ⟨y, hy, rfl⟩ := List.mem_map.1 hx
  rw [u64N_rw y (hl y hy), Fl.canon_canon]
theorem rwI_at (l : List Nat) (k x : Nat) (h : l[k]? = some x) (hx : x < 18446744073709551616) : ((l.map rwI).map u64N)[k]? = some (Fl.canon x) := by
  rw [List.getElem?_map, List.getElem?_map, h]; show some (u64N (rwI x)) = _; rw [u64N_rw x hx]
theorem u64N_lt (l : List Int) : ∀ x ∈ l.map u64N, x < 18446744073709551616 := fun x hx => by
  obtain ⟨y, -, rfl⟩ := List.mem_map.1 hx; exact (u64N_eq y).2
theorem FlAt.lt {w : World} {a : Option Addr} {l : List Nat} (h : FlAt w a l) : ∀ x ∈ l, x < 18446744073709551616 := fun x hx => by
  obtain ⟨k, hk, rfl⟩ := List.getElem_of_mem hx
  exact (h k _ (List.getElem?_eq_getElem hk)).1
set_option maxHeartbeats 8000000 in
theorem columnReals_core (b : Option Addr) (l : List Nat) (n c : Nat) (hn : Hid (n = l.length)) (hnc : n ≤ c) (hc : c ≤ 9223372036854775807) (W : World) (HA : Hid (FlAt W b l)) :
    Calls Try.prog 6 #[.slice b n c] W fun e w' => e = .returned (.bool true) ∧ Below W.heap.size W w' := by
  by_cases h200 : n ≤ 200
  · have HXN : Hid (n = (l.map rwI).length) := Lib.hid (by rw [List.length_map]; exact hn.out)
    have hwf : ∀ x ∈ l.map rwI, Wf64 x := fun x hx => by obtain ⟨y, -, rfl⟩ := List.mem_map.1 hx; exact rwI_wf y
    have HBACK : Hid (rI (intsL (l.map rwI)) = some (l.map rwI, [])) := Lib.hid (ints_back _ hwf (by have := HXN.out; omega))
    have HOK := Lib.hid (rwI_back l HA.out.lt)
    have HLN : Hid ((intsL (l.map rwI)).length ≤ 23 + 20 * n) := Lib.hid (by
      have h1 := best_le 3 (l.map rwI) 0 (by decide); have h2 := asL_len 0 (l.map rwI) hwf (by have := HXN.out; omega); have h3 := HXN.out
      have h4 : intsL (l.map rwI) = bestL 3 (l.map rwI) := rfl
      rw [h4]; omega)
    clear hwf
    have HI := Lib.hid fun w hl => reals_any b n c l hn (by omega) w hl
    have HRI := Lib.hid fun w hl => refReals_any b n c l hn (by omega) w hl
    go_enter Try.func6, Try.ntmps6
    go_upto_region 5 with (first
      | (go_at_call 10; refine (awakeC_any _).mono ?_; rintro e w1 ⟨rfl, hb⟩; have HB1 := Lib.hid hb; have HA1 := Lib.hid (HA.out.keep hb); clear hb)
      | (go_at_call 26; refine (HI.out _ HA1).mono ?_; rintro e w2 ⟨A2, n2, c2, rfl, h1, h2, h3⟩; have HN2 := Lib.hid h1.len; have HO2 := Lib.hid h1; have HB2 := Lib.hid (below_to HB1.out h2); have HRD := Lib.hid (readRealsC_yes A2 c2 (intsL (l.map rwI)) n2 HN2 (by have e1 := HN2.out; have e2 := HLN.out; omega) h1.caps.1 h1.caps.2 (l.map rwI) HBACK HOK n HXN (by omega) w2 (Lib.hid h1.byAt)); clear h1 h2 h3)
      | (go_at_call 20; (refine (HRD.out).mono ?_); rintro e w3 ⟨L, rfl, h1, h2⟩; have HM := Lib.hid (h1.isAt (u64N_lt _)); have HO3 := Lib.hid (HO2.out.keep h2); have HB3 := Lib.hid (below_to HB2.out h2); clear h1 h2))
    have HBY3 := Lib.hid HO3.out.byAt
    have HREF := Lib.hid (HRI.out w3.drew (Lib.hid (HA.out.keep (below_to HB3.out ((Below.refl _ _).drew)))))
    refine wp_region_held_drew (S := fun w => Below w3.heap.size w3 w) (by kernel_rfl) ((Below.refl _ _).drew) (fun hHeld => ?_)
    refine wpAnyH_take (i := 0) (v := .slice A2 n2 c2) rfl (by kernel_rfl) (by kernel_rfl) (by kernel_rfl) (fun _ _ _ h => h) (Or.inl ⟨by rfl, fun _ _ => rfl⟩) hHeld ?_
    try dsimp only
    try simp only [Act.put, List.getElem_toArray, List.getElem_cons_zero, List.getElem_cons_succ, List.setIfInBounds_toArray, List.set_cons_zero, List.set_cons_succ]
    refine wpAnyH_take (i := 1) (v := .string (strB (intsL (l.map rwI)))) rfl (by kernel_rfl) (by kernel_rfl) (by kernel_rfl) (fun _ _ _ h => h) (yb_convR rfl (.tmp 22) rfl _ _ rfl (fun w hw => conv_by n2 c2 (HBY3.out.keep hw) HN2.out)) hHeld ?_
    try dsimp only
    try simp only [Act.put, List.getElem_toArray, List.getElem_cons_zero, List.getElem_cons_succ, List.setIfInBounds_toArray, List.set_cons_zero, List.set_cons_succ]
    refine wpAnyH_take (i := 2) (v := .slice b n c) rfl (by kernel_rfl) (by kernel_rfl) (by kernel_rfl) (fun _ _ _ h => h) (Or.inl ⟨by rfl, fun _ _ => rfl⟩) hHeld ?_
    try dsimp only
    try simp only [Act.put, List.getElem_toArray, List.getElem_cons_zero, List.getElem_cons_succ, List.setIfInBounds_toArray, List.set_cons_zero, List.set_cons_succ]
    refine wpAnyH_ready (rs := [3]) (by kernel_rfl) (by simp) (AllReadyH.cons rfl (fun K hK => ?_) AllReadyH.nil)
    go_simp
    refine (HREF.out).mono ?_
    rintro e w4 ⟨A3, n3, c3, rfl, h1, h2, h3⟩; have hb4 := below_to ((Below.refl w3.heap.size w3).drew) h2; have HCV := Lib.hid (conv_by n3 c3 h1.byAt h1.len); clear h1 h2 h3
    refine hK.out _ _ hb4 (fun hHeld => ?_)
    clear hK K
    try dsimp only
    try simp only [Act.put, List.getElem_toArray, List.getElem_cons_zero, List.getElem_cons_succ, List.setIfInBounds_toArray, List.set_cons_zero, List.set_cons_succ]
    have hcv := HCV.out
    refine wpAnyH_ready (rs := [4]) (by kernel_rfl) (by simp) (AllReadyH.cons rfl (fun K hK => ?_) AllReadyH.nil)
    go_simp
    refine hK.out _ _ hb4 (fun hHeld => ?_)
    clear hK K
    try dsimp only
    try simp only [Act.put, List.getElem_toArray, List.getElem_cons_zero, List.getElem_cons_succ, List.setIfInBounds_toArray, List.set_cons_zero, List.set_cons_succ]
    refine wpAnyH_take (i := 5) (v := .bool false) rfl (by kernel_rfl) (by kernel_rfl) (by kernel_rfl) (fun _ _ _ h => h) (yb_bin rfl .neq 9 9 (.tmp 23) (.tmp 26) rfl _ _ _ rfl rfl (fun _ => rfl) (b_neqsR _)) hHeld ?_
    try dsimp only
    try simp only [Act.put, List.getElem_toArray, List.getElem_cons_zero, List.getElem_cons_succ, List.setIfInBounds_toArray, List.set_cons_zero, List.set_cons_succ]
    refine wpAnyH_take (i := 6) (v := .bool false) rfl (by kernel_rfl) (by kernel_rfl) (by kernel_rfl) (fun _ _ _ h => h) (Or.inl ⟨by rfl, fun _ _ => rfl⟩) hHeld ?_
    try dsimp only
    try simp only [Act.put, List.getElem_toArray, List.getElem_cons_zero, List.getElem_cons_succ, List.setIfInBounds_toArray, List.set_cons_zero, List.set_cons_succ]
    refine wpAnyH_take (i := 7) (v := .int .i64 0) rfl (by kernel_rfl) (by kernel_rfl) (by kernel_rfl) (fun _ _ _ h => h) (Or.inl ⟨by rfl, fun _ _ => rfl⟩) hHeld ?_
    try dsimp only
    try simp only [Act.put, List.getElem_toArray, List.getElem_cons_zero, List.getElem_cons_succ, List.setIfInBounds_toArray, List.set_cons_zero, List.set_cons_succ]
    refine wpAnyH_take (i := 8) (v := .bool false) rfl (by kernel_rfl) (by kernel_rfl) (by kernel_rfl) (fun _ _ _ h => h) (Or.inl ⟨by rfl, fun w _ => by go_simp⟩) hHeld ?_
    try dsimp only
    try simp only [Act.put, List.getElem_toArray, List.getElem_cons_zero, List.getElem_cons_succ, List.setIfInBounds_toArray, List.set_cons_zero, List.set_cons_succ]
    refine wpAnyH_take (i := 9) (v := .bool false) rfl (by kernel_rfl) (by kernel_rfl) (by kernel_rfl) (fun _ _ _ h => h) (yb_pick rfl (.tmp 28) (.const (.bool true)) (.tmp 30) rfl false _ rfl rfl) hHeld ?_
    try dsimp only
    try simp only [Act.put, List.getElem_toArray, List.getElem_cons_zero, List.getElem_cons_succ, List.setIfInBounds_toArray, List.set_cons_zero, List.set_cons_succ]
    refine wpAnyH_take (i := 10) (v := .bool false) rfl (by kernel_rfl) (by kernel_rfl) (by kernel_rfl) (fun _ _ _ h => h) (Or.inl ⟨by rfl, fun _ _ => rfl⟩) hHeld ?_
    try dsimp only
    try simp only [Act.put, List.getElem_toArray, List.getElem_cons_zero, List.getElem_cons_succ, List.setIfInBounds_toArray, List.set_cons_zero, List.set_cons_succ]
    refine wpAnyH_take (i := 11) (v := .slice (some ⟨L, 0, none⟩) n n) rfl (by kernel_rfl) (by kernel_rfl) (by kernel_rfl) (fun _ _ _ h => h) (Or.inl ⟨by rfl, fun _ _ => rfl⟩) hHeld ?_
    try dsimp only
    try simp only [Act.put, List.getElem_toArray, List.getElem_cons_zero, List.getElem_cons_succ, List.setIfInBounds_toArray, List.set_cons_zero, List.set_cons_succ]
    refine wpAnyH_take (i := 12) (v := .int .i64 (n : Int)) rfl (by kernel_rfl) (by kernel_rfl) (by kernel_rfl) (fun _ _ _ h => h) (yb_lenF rfl (.tmp 33) rfl _ _ _ rfl) hHeld ?_
    try dsimp only
    try simp only [Act.put, List.getElem_toArray, List.getElem_cons_zero, List.getElem_cons_succ, List.setIfInBounds_toArray, List.set_cons_zero, List.set_cons_succ]
    refine wpAnyH_take (i := 13) (v := .slice b n c) rfl (by kernel_rfl) (by kernel_rfl) (by kernel_rfl) (fun _ _ _ h => h) (Or.inl ⟨by rfl, fun _ _ => rfl⟩) hHeld ?_
    try dsimp only
    try simp only [Act.put, List.getElem_toArray, List.getElem_cons_zero, List.getElem_cons_succ, List.setIfInBounds_toArray, List.set_cons_zero, List.set_cons_succ]
    refine wpAnyH_take (i := 14) (v := .int .i64 (n : Int)) rfl (by kernel_rfl) (by kernel_rfl) (by kernel_rfl) (fun _ _ _ h => h) (yb_lenF rfl (.tmp 35) rfl _ _ _ rfl) hHeld ?_
    try dsimp only
    try simp only [Act.put, List.getElem_toArray, List.getElem_cons_zero, List.getElem_cons_succ, List.setIfInBounds_toArray, List.set_cons_zero, List.set_cons_succ]
    refine wpAnyH_take (i := 15) (v := .bool false) rfl (by kernel_rfl) (by kernel_rfl) (by kernel_rfl) (fun _ _ _ h => h) (yb_bin rfl .neq 3 3 (.tmp 34) (.tmp 36) rfl _ _ _ rfl rfl (fun _ => rfl) (b_neqR _)) hHeld ?_
    try dsimp only
    try simp only [Act.put, List.getElem_toArray, List.getElem_cons_zero, List.getElem_cons_succ, List.setIfInBounds_toArray, List.set_cons_zero, List.set_cons_succ]
    refine wpAnyH_take (i := 16) (v := .bool false) rfl (by kernel_rfl) (by kernel_rfl) (by kernel_rfl) (fun _ _ _ h => h) (yb_pick rfl (.tmp 32) (.const (.bool true)) (.tmp 37) rfl false _ rfl rfl) hHeld ?_
    try dsimp only
    try simp only [Act.put, List.getElem_toArray, List.getElem_cons_zero, List.getElem_cons_succ, List.setIfInBounds_toArray, List.set_cons_zero, List.set_cons_succ]
    refine wpAnyH_done (by kernel_rfl) ?_ _
    have HB4 := Lib.hid (below_to HB3.out hHeld)
    have HM4 := Lib.hid (HM.out.keep hHeld)
    clear hHeld HREF HRD HI HRI HM HO2 HO3 HBY3
    go_wp2
    obtain ⟨w0, hw0⟩ : ∃ w0, w0 = w4 := ⟨w4, rfl⟩
    subst hw0
    go_loopw [6] (fun v wk => ∃ k : Nat, k ≤ n ∧ v = .int .i64 (k : Int) ∧ Below w0.heap.size w0 wk) (fun v _ => n - (intOf v).toNat)
    case atStart => exact ⟨0, Nat.zero_le _, rfl, Below.refl _ _⟩
    case round =>
      obtain ⟨k, hk, rfl, hbk⟩ := hrel
      have HBK := Lib.hid hbk
      clear hbk
      have HBW := Lib.hid (below_to HB4.out HBK.out)
      by_cases hlt : k < n
      · obtain ⟨x, hx⟩ : ∃ x, l[k]? = some x := ⟨l[k]'(by have := hn.out; omega), List.getElem?_eq_getElem _⟩
        obtain ⟨hx64, ga, oa, rfl, hga, hca⟩ := (HA.out.keep HBW.out) k x hx
        obtain ⟨hy64, gb, ob, hge, hgb, hcb⟩ := (HM4.out.keep HBK.out) k (Fl.canon x) (rwI_at l k x hx hx64)
        injection hge with hge; injection hge with hg1 hg2 hg3
        subst hg1; subst hg2
        rw [Nat.zero_add] at hcb
        have HGA := Lib.hid hga; have HGB := Lib.hid hgb; have HCA := Lib.hid hca; have HCB := Lib.hid hcb
        have hki : (k : Int) < (n : Int) := by omega
        have HSM := Lib.hid fun w => refSame_any x (Fl.canon x) hx64 hy64 w
        have hcc : decide (Fl.canon x = Fl.canon (Fl.canon x)) = true := by rw [Fl.canon_canon]; simp
        obtain ⟨y, hy⟩ : ∃ y, y = Fl.canon x := ⟨_, rfl⟩
        rw [← hy] at HCB HSM hcc
        clear hx hga hgb hca hcb hg3 hy hy64
        go_upto_region 10 with fail
        refine wp_region_held_drew (S := fun w => Below wr.heap.size wr w) (by kernel_rfl) ((Below.refl _ _).drew) (fun hHeld => ?_)
        refine wpAnyH_take (i := 0) (v := .slice (some ⟨ga, oa, none⟩) n c) rfl (by kernel_rfl) (by kernel_rfl) (by kernel_rfl) (fun _ _ _ h => h) (Or.inl ⟨by rfl, fun _ _ => rfl⟩) hHeld ?_
        try dsimp only
        try simp only [Act.put, List.getElem_toArray, List.getElem_cons_zero, List.getElem_cons_succ, List.setIfInBounds_toArray, List.set_cons_zero, List.set_cons_succ]
        refine wpAnyH_take (i := 1) (v := .int .i64 (k : Int)) rfl (by kernel_rfl) (by kernel_rfl) (by kernel_rfl) (fun _ _ _ h => h) (Or.inl ⟨by rfl, fun _ _ => rfl⟩) hHeld ?_
        try dsimp only
        try simp only [Act.put, List.getElem_toArray, List.getElem_cons_zero, List.getElem_cons_succ, List.setIfInBounds_toArray, List.set_cons_zero, List.set_cons_succ]
        refine wpAnyH_take (i := 2) (v := .pointer (some ⟨ga, oa + k, none⟩)) rfl (by kernel_rfl) (by kernel_rfl) (by kernel_rfl) (fun _ _ _ h => h) (Or.inl ⟨by rfl, fun w _ => by first | (go_simp; done) | (go_simp; intro h; exfalso; omega)⟩) hHeld ?_
        try dsimp only
        try simp only [Act.put, List.getElem_toArray, List.getElem_cons_zero, List.getElem_cons_succ, List.setIfInBounds_toArray, List.set_cons_zero, List.set_cons_succ]
        refine wpAnyH_take (i := 3) (v := .float .f64 x) rfl (by kernel_rfl) (by kernel_rfl) (by kernel_rfl) (fun _ _ _ h => h) (Or.inl ⟨by rfl, fun w hw => by have hc : w.cell? ⟨ga, oa + k, none⟩ = some (.float .f64 x) := (hw.cell (p := ⟨ga, oa + k, none⟩) HGA.out).trans HCA.out; go_simp⟩) hHeld ?_
        try dsimp only
        try simp only [Act.put, List.getElem_toArray, List.getElem_cons_zero, List.getElem_cons_succ, List.setIfInBounds_toArray, List.set_cons_zero, List.set_cons_succ]
        refine wpAnyH_take (i := 4) (v := .slice (some ⟨L, 0, none⟩) n n) rfl (by kernel_rfl) (by kernel_rfl) (by kernel_rfl) (fun _ _ _ h => h) (Or.inl ⟨by rfl, fun _ _ => rfl⟩) hHeld ?_
        try dsimp only
        try simp only [Act.put, List.getElem_toArray, List.getElem_cons_zero, List.getElem_cons_succ, List.setIfInBounds_toArray, List.set_cons_zero, List.set_cons_succ]
        refine wpAnyH_take (i := 5) (v := .int .i64 (k : Int)) rfl (by kernel_rfl) (by kernel_rfl) (by kernel_rfl) (fun _ _ _ h => h) (Or.inl ⟨by rfl, fun _ _ => rfl⟩) hHeld ?_
        try dsimp only
        try simp only [Act.put, List.getElem_toArray, List.getElem_cons_zero, List.getElem_cons_succ, List.setIfInBounds_toArray, List.set_cons_zero, List.set_cons_succ]
        refine wpAnyH_take (i := 6) (v := .pointer (some ⟨L, k, none⟩)) rfl (by kernel_rfl) (by kernel_rfl) (by kernel_rfl) (fun _ _ _ h => h) (Or.inl ⟨by rfl, fun w _ => by first | (go_simp; done) | (go_simp; intro h; exfalso; omega)⟩) hHeld ?_
        try dsimp only
        try simp only [Act.put, List.getElem_toArray, List.getElem_cons_zero, List.getElem_cons_succ, List.setIfInBounds_toArray, List.set_cons_zero, List.set_cons_succ]
        refine wpAnyH_take (i := 7) (v := .float .f64 y) rfl (by kernel_rfl) (by kernel_rfl) (by kernel_rfl) (fun _ _ _ h => h) (Or.inl ⟨by rfl, fun w hw => by have hc : w.cell? ⟨L, k, none⟩ = some (.float .f64 y) := (hw.cell (p := ⟨L, k, none⟩) HGB.out).trans HCB.out; go_simp⟩) hHeld ?_
        try dsimp only
        try simp only [Act.put, List.getElem_toArray, List.getElem_cons_zero, List.getElem_cons_succ, List.setIfInBounds_toArray, List.set_cons_zero, List.set_cons_succ]
        refine wpAnyH_ready (rs := [8]) (by kernel_rfl) (by simp) (AllReadyH.cons rfl (fun K hK => ?_) AllReadyH.nil)
        go_simp
        refine (HSM.out _).mono ?_
        rintro e w6 ⟨rfl, rfl⟩
        rw [hcc]
        refine hK.out _ _ hHeld (fun hHeld => ?_)
        clear hK K
        try dsimp only
        try simp only [Act.put, List.getElem_toArray, List.getElem_cons_zero, List.getElem_cons_succ, List.setIfInBounds_toArray, List.set_cons_zero, List.set_cons_succ]
        refine wpAnyH_take (i := 9) (v := .bool false) rfl (by kernel_rfl) (by kernel_rfl) (by kernel_rfl) (fun _ _ _ h => h) (Or.inl ⟨by rfl, fun w _ => by go_simp⟩) hHeld ?_
        try dsimp only
        try simp only [Act.put, List.getElem_toArray, List.getElem_cons_zero, List.getElem_cons_succ, List.setIfInBounds_toArray, List.set_cons_zero, List.set_cons_succ]
        refine wpAnyH_done (by kernel_rfl) ?_ _
        have HB9 := Lib.hid (below_to HBK.out hHeld)
        clear hHeld
        go_wp2
        go_roundw
        case rel => exact ⟨k + 1, by omega, by go_num, HB9.out⟩
        case measure => simp [intOf]; omega
      · obtain rfl : k = n := by omega
        go_wp2
        go_ret
        exact ⟨rfl, HBW.out⟩
  · go_enter Try.func6, Try.ntmps6
    go_wp2_with (go_at_call 10; refine (awakeC_any _).mono ?_; rintro e w1 ⟨rfl, hb⟩; first | (have HB2 := Lib.hid (below_to HB1.out hb); clear hb) | (have HB1 := Lib.hid hb; clear hb))
    go_ret
    exact ⟨rfl, HB2.out⟩
theorem columnReals_any (b : Option Addr) (l : List Nat) (n c : Nat) (hn : Hid (n = l.length)) (hnc : n ≤ c) (hc : c ≤ maxLen) (W : World) (HA : Hid (FlAt W b l)) :
    Calls Try.prog 6 #[.slice b n c] W fun e w' => e = .returned (.bool true) ∧ Below W.heap.size W w' :=
  columnReals_core b l n c hn hnc hc W HA
end Go.Proofs.Ytplmafbdalkopaa
