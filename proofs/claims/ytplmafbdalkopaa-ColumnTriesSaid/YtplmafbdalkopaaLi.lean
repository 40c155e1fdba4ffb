/-
  The law ColumnInts: walked.
-/
import Derived.Test.YtplmafbdalkopaaRd
set_option linter.unusedSimpArgs false
set_option linter.unusedVariables false
set_option maxRecDepth 8000
namespace Go.Proofs.Ytplmafbdalkopaa
open Go.RowKit Go.WideShapes Col
theorem yb_conv {ops : Array Oper} {S : World → Prop} {op : Oper} {a : Act} (hw : Region.wanted op (yielded ops a.tmps) = true) (x : Operand) (ho : op.op = .convert 24 9 x) (v u : Value) (hx : a.eval x = v)
    (h : ∀ w, S w → (convert 24 9 v).run Try.prog w = .ok u w) : YieldsIf Try.prog ops S op u a :=
  .inl ⟨hw, fun w hw' => by
    unfold execOp
    simp only [ho, hx, Sem.run_bind, Sem.run_pure, h w hw', Result.andThen_ok]⟩
theorem yb_lenb {ops : Array Oper} {S : World → Prop} {op : Oper} {a : Act} (hw : Region.wanted op (yielded ops a.tmps) = true) (x : Operand) (ho : op.op = .call { callee := .builtin .len, args := #[x], argTypes := #[24] }) (A : Option Addr) (n c : Nat) (hx : a.eval x = .slice A n c) : YieldsIf Try.prog ops S op (.int .i64 (n : Int)) a :=
  .inl ⟨hw, fun w _ => by
    unfold execOp
    simp only [ho, resolve, invoke, builtin, Sem.run_bind, Sem.run_pure, Result.andThen_ok, List.map_toArray, List.map_cons, List.map_nil, hx]
    rfl⟩
theorem b_neqs (s : ByteArray) (w : World) : (binOp .neq 9 (.string s) (.string s)).run Try.prog w = .ok (.bool false) w := by
  simp [binOp, Op.stringOp]
set_option maxHeartbeats 8000000 in
theorem columnInts_core (b : Option Addr) (l : List Int) (n c : Nat) (hn : Hid (n = l.length)) (hnc : n ≤ c) (hc : c ≤ 9223372036854775807) (W : World) (HA : Hid (IsAt W b l)) :
    Calls Try.prog 3 #[.slice b n c] W fun e w' => e = .returned (.bool true) ∧ Below W.heap.size W w' := by
  by_cases h300 : n ≤ 300
  · have HWF := Lib.hid HA.out.wf
    have HB3 : Hid (riL (intsL l) = some l) := Lib.hid (riL_some (ints_back l HWF.out (by have := hn.out; omega)))
    have HLE : Hid (∀ way, way < 4 → (intsL l).length ≤ (asL way l).length) := Lib.hid fun way hw => best_le 3 l way (by omega)
    have HA20 := Lib.hid fun way => asL_len way l HWF.out (by have := hn.out; omega)
    have HBACK := Lib.hid fun way hw => asr_back way hw l HWF.out (by have := hn.out; omega)
    have HI := Lib.hid fun w hl => ints_any b n c l hn hnc hc (by omega) w hl
    have HRI := Lib.hid fun w hl => refInts_any b n c l hn hnc hc (by omega) w hl
    have HAS := Lib.hid fun way hw w hl => as_any way hw b n c l hn hnc hc (by omega) w hl
    have HRA := Lib.hid fun way hw w hl => refAs_any way hw b n c l hn hnc hc (by omega) w hl
    go_enter Try.func3, Try.ntmps3
    go_upto_region 4 with (first
      | (go_at_call 10; refine (awakeC_any _).mono ?_; rintro e w1 ⟨rfl, hb⟩; have HB1 := Lib.hid hb; have HA1 := Lib.hid (HA.out.keep hb); clear hb)
      | (go_at_call 11; refine (HI.out _ HA1).mono ?_; rintro e w2 ⟨A2, n2, c2, rfl, h1, h2, h3⟩; have HO2 := Lib.hid h1; have HB2 := Lib.hid (below_to HB1.out h2); have HN2 := Lib.hid h1.len; clear h1 h2 h3))
    have HA2 := Lib.hid (HA.out.keep HB2.out)
    have HBY2 := Lib.hid HO2.out.byAt
    have hnb : n2 ≤ 7000 := by
      have h1 := HLE.out 0 (by decide); have h2 := HA20.out 0; have h3 := hn.out; have h4 := HN2.out; omega

    have HREF := Lib.hid (HRI.out w2.drew (Lib.hid (HA2.out.keep ((Below.refl _ _).drew))))
    refine wp_region_held_drew (S := fun w => Below w2.heap.size w2 w) (by kernel_rfl) ((Below.refl _ _).drew) (fun hHeld => ?_)
    refine wpAnyH_take (i := 0) (v := .slice A2 n2 c2) rfl (by kernel_rfl) (by kernel_rfl) (by kernel_rfl) (fun _ _ _ h => h) (Or.inl ⟨by rfl, fun _ _ => rfl⟩) hHeld ?_
    try dsimp only
    try simp only [Act.put, List.getElem_toArray, List.getElem_cons_zero, List.getElem_cons_succ, List.setIfInBounds_toArray, List.set_cons_zero, List.set_cons_succ]
    refine wpAnyH_take (i := 1) (v := .string (strB (intsL l))) rfl (by kernel_rfl) (by kernel_rfl) (by kernel_rfl) (fun _ _ _ h => h) (yb_conv rfl (.tmp 20) rfl _ _ rfl (fun w hw => conv_by n2 c2 (HBY2.out.keep hw) HN2.out)) hHeld ?_
    try dsimp only
    try simp only [Act.put, List.getElem_toArray, List.getElem_cons_zero, List.getElem_cons_succ, List.setIfInBounds_toArray, List.set_cons_zero, List.set_cons_succ]
    refine wpAnyH_take (i := 2) (v := .slice b n c) rfl (by kernel_rfl) (by kernel_rfl) (by kernel_rfl) (fun _ _ _ h => h) (Or.inl ⟨by rfl, fun _ _ => rfl⟩) hHeld ?_
    try dsimp only
    try simp only [Act.put, List.getElem_toArray, List.getElem_cons_zero, List.getElem_cons_succ, List.setIfInBounds_toArray, List.set_cons_zero, List.set_cons_succ]
    refine wpAnyH_ready (rs := [3]) (by kernel_rfl) (by simp) (AllReadyH.cons rfl (fun K hK => ?_) AllReadyH.nil)
    go_simp
    refine (HREF.out).mono ?_
    rintro e w3 ⟨A3, n3, c3, rfl, h1, h2, h3⟩; have hb3 := below_to ((Below.refl w2.heap.size w2).drew) h2; have HCV := Lib.hid (conv_by n3 c3 h1.byAt h1.len); clear h1 h2 h3
    refine hK.out _ _ hb3 (fun hHeld => ?_)
    clear hK K
    try dsimp only
    try simp only [Act.put, List.getElem_toArray, List.getElem_cons_zero, List.getElem_cons_succ, List.setIfInBounds_toArray, List.set_cons_zero, List.set_cons_succ]
    have hcv := HCV.out
    refine wpAnyH_ready (rs := [4]) (by kernel_rfl) (by simp) (AllReadyH.cons rfl (fun K hK => ?_) AllReadyH.nil)
    go_simp
    refine hK.out _ _ hb3 (fun hHeld => ?_)
    clear hK K
    try dsimp only
    try simp only [Act.put, List.getElem_toArray, List.getElem_cons_zero, List.getElem_cons_succ, List.setIfInBounds_toArray, List.set_cons_zero, List.set_cons_succ]
    refine wpAnyH_take (i := 5) (v := .bool false) rfl (by kernel_rfl) (by kernel_rfl) (by kernel_rfl) (fun _ _ _ h => h) (yb_bin rfl .neq 9 9 (.tmp 21) (.tmp 24) rfl _ _ _ rfl rfl (fun _ => rfl) (b_neqs _)) hHeld ?_
    try dsimp only
    try simp only [Act.put, List.getElem_toArray, List.getElem_cons_zero, List.getElem_cons_succ, List.setIfInBounds_toArray, List.set_cons_zero, List.set_cons_succ]
    refine wpAnyH_done (by kernel_rfl) ?_ _
    have HB4 := Lib.hid (below_to HB2.out hHeld)
    have HO4 := Lib.hid (HO2.out.keep hHeld)
    clear hHeld HREF
    go_wp2
    obtain ⟨w0, hw0⟩ : ∃ w0, w0 = w3 := ⟨w3, rfl⟩
    subst hw0
    go_loopw [4] (fun v wk => ∃ j : Nat, j ≤ 4 ∧ v = .int .u8 (j : Int) ∧ Below w0.heap.size w0 wk) (fun v _ => 4 - (intOf v).toNat)
    case atStart => exact ⟨0, by decide, rfl, Below.refl _ _⟩
    case round =>
      obtain ⟨j, hj4, rfl, hbk⟩ := hrel
      have HBK := Lib.hid hbk
      clear hbk
      have HBW := Lib.hid (below_to HB4.out HBK.out)
      have HAW := Lib.hid (HA.out.keep HBW.out)
      have HOW := Lib.hid (HO4.out.keep HBK.out)
      by_cases hj : j < 4
      · have HASJ := Lib.hid (HAS.out j hj wr HAW)
        have HBJ := Lib.hid (HBACK.out j hj)
        have HLJ := Lib.hid (HA20.out j)
        have HLEJ := Lib.hid (HLE.out j hj)
        go_upto_region 11 with (first
          | (go_at_call 13; (refine (HASJ.out).mono ?_); rintro e v2 ⟨A5, n5, c5, rfl, h1, h2, h3⟩; have HO5 := Lib.hid h1; have HB5 := Lib.hid (below_to HBK.out h2); have HN5 := Lib.hid h1.len; have hRI := readIntsC_any A5 c5 (asL j l) n5 (Lib.hid h1.len) (by have := h1.len; have := HLJ.out; have := hn.out; omega) h1.caps.1 h1.caps.2 v2 (Lib.hid h1.byAt); rw [HBJ.out] at hRI; have HRD := Lib.hid hRI; clear h1 h2 h3 hRI)
          | (go_at_call 14; (refine (HRD.out).mono ?_); rintro e v3 ⟨⟨A6, n6, c6, rfl, h1⟩, h2⟩; obtain rfl : n6 = n := (by have e1 := h1.len; have e2 := hn.out; omega); have HO6 := Lib.hid h1; have HO7 := Lib.hid (HO5.out.keep h2); have HB6 := Lib.hid (below_to HB5.out h2); clear h1 h2))
        have hlt9 : ¬ n5 < n2 := by
          have h1 := HN5.out; have h2 := HN2.out; have h3 := HLEJ.out; omega
        have HBV : Hid (Below W.heap.size W v3) := Lib.hid (below_to HB4.out HB6.out)
        have HBY7 := Lib.hid HO7.out.byAt
        have HREF := Lib.hid (HRA.out j hj v3.drew (Lib.hid (HA.out.keep (below_to HBV.out ((Below.refl _ _).drew)))))
        have hj64 : j < 256 := by omega
        refine wp_region_held_drew (S := fun w => Below v3.heap.size v3 w) (by kernel_rfl) ((Below.refl _ _).drew) (fun hHeld => ?_)
        refine wpAnyH_take (i := 0) (v := .slice A5 n5 c5) rfl (by kernel_rfl) (by kernel_rfl) (by kernel_rfl) (fun _ _ _ h => h) (Or.inl ⟨by rfl, fun _ _ => rfl⟩) hHeld ?_
        try dsimp only
        try simp only [Act.put, List.getElem_toArray, List.getElem_cons_zero, List.getElem_cons_succ, List.setIfInBounds_toArray, List.set_cons_zero, List.set_cons_succ]
        refine wpAnyH_take (i := 1) (v := .string (strB (asL j l))) rfl (by kernel_rfl) (by kernel_rfl) (by kernel_rfl) (fun _ _ _ h => h) (yb_conv rfl (.tmp 38) rfl _ _ rfl (fun w hw => conv_by n5 c5 (HBY7.out.keep hw) HN5.out)) hHeld ?_
        try dsimp only
        try simp only [Act.put, List.getElem_toArray, List.getElem_cons_zero, List.getElem_cons_succ, List.setIfInBounds_toArray, List.set_cons_zero, List.set_cons_succ]
        refine wpAnyH_take (i := 2) (v := .int .u8 (j : Int)) rfl (by kernel_rfl) (by kernel_rfl) (by kernel_rfl) (fun _ _ _ h => h) (Or.inl ⟨by rfl, fun _ _ => rfl⟩) hHeld ?_
        try dsimp only
        try simp only [Act.put, List.getElem_toArray, List.getElem_cons_zero, List.getElem_cons_succ, List.setIfInBounds_toArray, List.set_cons_zero, List.set_cons_succ]
        refine wpAnyH_take (i := 3) (v := .slice b n6 c) rfl (by kernel_rfl) (by kernel_rfl) (by kernel_rfl) (fun _ _ _ h => h) (Or.inl ⟨by rfl, fun _ _ => rfl⟩) hHeld ?_
        try dsimp only
        try simp only [Act.put, List.getElem_toArray, List.getElem_cons_zero, List.getElem_cons_succ, List.setIfInBounds_toArray, List.set_cons_zero, List.set_cons_succ]
        refine wpAnyH_ready (rs := [4]) (by kernel_rfl) (by simp) (AllReadyH.cons rfl (fun K hK => ?_) AllReadyH.nil)
        go_simp
        refine (HREF.out).mono ?_
        rintro e v4 ⟨A8, n8, c8, rfl, h1, h2, h3⟩; have hb4 := below_to ((Below.refl v3.heap.size v3).drew) h2; have HCV := Lib.hid (conv_by n8 c8 h1.byAt h1.len); clear h1 h2 h3
        refine hK.out _ _ hb4 (fun hHeld => ?_)
        clear hK K
        try dsimp only
        try simp only [Act.put, List.getElem_toArray, List.getElem_cons_zero, List.getElem_cons_succ, List.setIfInBounds_toArray, List.set_cons_zero, List.set_cons_succ]
        have hcv := HCV.out
        refine wpAnyH_ready (rs := [5]) (by kernel_rfl) (by simp) (AllReadyH.cons rfl (fun K hK => ?_) AllReadyH.nil)
        go_simp
        refine hK.out _ _ hb4 (fun hHeld => ?_)
        clear hK K
        try dsimp only
        try simp only [Act.put, List.getElem_toArray, List.getElem_cons_zero, List.getElem_cons_succ, List.setIfInBounds_toArray, List.set_cons_zero, List.set_cons_succ]
        refine wpAnyH_take (i := 6) (v := .bool false) rfl (by kernel_rfl) (by kernel_rfl) (by kernel_rfl) (fun _ _ _ h => h) (yb_bin rfl .neq 9 9 (.tmp 39) (.tmp 43) rfl _ _ _ rfl rfl (fun _ => rfl) (b_neqs _)) hHeld ?_
        try dsimp only
        try simp only [Act.put, List.getElem_toArray, List.getElem_cons_zero, List.getElem_cons_succ, List.setIfInBounds_toArray, List.set_cons_zero, List.set_cons_succ]
        refine wpAnyH_take (i := 7) (v := .bool false) rfl (by kernel_rfl) (by kernel_rfl) (by kernel_rfl) (fun _ _ _ h => h) (Or.inl ⟨by rfl, fun _ _ => rfl⟩) hHeld ?_
        try dsimp only
        try simp only [Act.put, List.getElem_toArray, List.getElem_cons_zero, List.getElem_cons_succ, List.setIfInBounds_toArray, List.set_cons_zero, List.set_cons_succ]
        refine wpAnyH_take (i := 8) (v := .int .i64 0) rfl (by kernel_rfl) (by kernel_rfl) (by kernel_rfl) (fun _ _ _ h => h) (Or.inl ⟨by rfl, fun _ _ => rfl⟩) hHeld ?_
        try dsimp only
        try simp only [Act.put, List.getElem_toArray, List.getElem_cons_zero, List.getElem_cons_succ, List.setIfInBounds_toArray, List.set_cons_zero, List.set_cons_succ]
        refine wpAnyH_take (i := 9) (v := .bool false) rfl (by kernel_rfl) (by kernel_rfl) (by kernel_rfl) (fun _ _ _ h => h) (Or.inl ⟨by rfl, fun w _ => by go_simp⟩) hHeld ?_
        try dsimp only
        try simp only [Act.put, List.getElem_toArray, List.getElem_cons_zero, List.getElem_cons_succ, List.setIfInBounds_toArray, List.set_cons_zero, List.set_cons_succ]
        refine wpAnyH_take (i := 10) (v := .bool false) rfl (by kernel_rfl) (by kernel_rfl) (by kernel_rfl) (fun _ _ _ h => h) (yb_pick rfl (.tmp 45) (.const (.bool true)) (.tmp 47) rfl false _ rfl rfl) hHeld ?_
        try dsimp only
        try simp only [Act.put, List.getElem_toArray, List.getElem_cons_zero, List.getElem_cons_succ, List.setIfInBounds_toArray, List.set_cons_zero, List.set_cons_succ]
        refine wpAnyH_take (i := 11) (v := .bool false) rfl (by kernel_rfl) (by kernel_rfl) (by kernel_rfl) (fun _ _ _ h => h) (Or.inl ⟨by rfl, fun _ _ => rfl⟩) hHeld ?_
        try dsimp only
        try simp only [Act.put, List.getElem_toArray, List.getElem_cons_zero, List.getElem_cons_succ, List.setIfInBounds_toArray, List.set_cons_zero, List.set_cons_succ]
        refine wpAnyH_take (i := 12) (v := .slice A6 n6 c6) rfl (by kernel_rfl) (by kernel_rfl) (by kernel_rfl) (fun _ _ _ h => h) (Or.inl ⟨by rfl, fun _ _ => rfl⟩) hHeld ?_
        try dsimp only
        try simp only [Act.put, List.getElem_toArray, List.getElem_cons_zero, List.getElem_cons_succ, List.setIfInBounds_toArray, List.set_cons_zero, List.set_cons_succ]
        refine wpAnyH_take (i := 13) (v := .slice b n6 c) rfl (by kernel_rfl) (by kernel_rfl) (by kernel_rfl) (fun _ _ _ h => h) (Or.inl ⟨by rfl, fun _ _ => rfl⟩) hHeld ?_
        try dsimp only
        try simp only [Act.put, List.getElem_toArray, List.getElem_cons_zero, List.getElem_cons_succ, List.setIfInBounds_toArray, List.set_cons_zero, List.set_cons_succ]
        have HSAME := Lib.hid (sameI_any A6 b n6 c6 c l hn (by omega) v4 (Lib.hid (HO6.out.isAt.keep hb4)) (Lib.hid (HA.out.keep (below_to HBV.out hb4))))
        refine wpAnyH_ready (rs := [14]) (by kernel_rfl) (by simp) (AllReadyH.cons rfl (fun K hK => ?_) AllReadyH.nil)
        go_simp
        refine (HSAME.out).mono ?_
        rintro e v5 ⟨rfl, hb5'⟩; have hb5 := below_to hb4 hb5'
        refine hK.out _ _ hb5 (fun hHeld => ?_)
        clear hK K
        try dsimp only
        try simp only [Act.put, List.getElem_toArray, List.getElem_cons_zero, List.getElem_cons_succ, List.setIfInBounds_toArray, List.set_cons_zero, List.set_cons_succ]
        refine wpAnyH_take (i := 15) (v := .bool false) rfl (by kernel_rfl) (by kernel_rfl) (by kernel_rfl) (fun _ _ _ h => h) (Or.inl ⟨by rfl, fun w _ => by go_simp⟩) hHeld ?_
        try dsimp only
        try simp only [Act.put, List.getElem_toArray, List.getElem_cons_zero, List.getElem_cons_succ, List.setIfInBounds_toArray, List.set_cons_zero, List.set_cons_succ]
        refine wpAnyH_take (i := 16) (v := .bool false) rfl (by kernel_rfl) (by kernel_rfl) (by kernel_rfl) (fun _ _ _ h => h) (yb_pick rfl (.tmp 49) (.const (.bool true)) (.tmp 53) rfl false _ rfl rfl) hHeld ?_
        try dsimp only
        try simp only [Act.put, List.getElem_toArray, List.getElem_cons_zero, List.getElem_cons_succ, List.setIfInBounds_toArray, List.set_cons_zero, List.set_cons_succ]
        refine wpAnyH_take (i := 17) (v := .bool false) rfl (by kernel_rfl) (by kernel_rfl) (by kernel_rfl) (fun _ _ _ h => h) (Or.inl ⟨by rfl, fun _ _ => rfl⟩) hHeld ?_
        try dsimp only
        try simp only [Act.put, List.getElem_toArray, List.getElem_cons_zero, List.getElem_cons_succ, List.setIfInBounds_toArray, List.set_cons_zero, List.set_cons_succ]
        refine wpAnyH_take (i := 18) (v := .slice A5 n5 c5) rfl (by kernel_rfl) (by kernel_rfl) (by kernel_rfl) (fun _ _ _ h => h) (Or.inl ⟨by rfl, fun _ _ => rfl⟩) hHeld ?_
        try dsimp only
        try simp only [Act.put, List.getElem_toArray, List.getElem_cons_zero, List.getElem_cons_succ, List.setIfInBounds_toArray, List.set_cons_zero, List.set_cons_succ]
        refine wpAnyH_take (i := 19) (v := .int .i64 (n5 : Int)) rfl (by kernel_rfl) (by kernel_rfl) (by kernel_rfl) (fun _ _ _ h => h) (yb_lenb rfl (.tmp 56) rfl _ _ _ rfl) hHeld ?_
        try dsimp only
        try simp only [Act.put, List.getElem_toArray, List.getElem_cons_zero, List.getElem_cons_succ, List.setIfInBounds_toArray, List.set_cons_zero, List.set_cons_succ]
        refine wpAnyH_take (i := 20) (v := .slice A2 n2 c2) rfl (by kernel_rfl) (by kernel_rfl) (by kernel_rfl) (fun _ _ _ h => h) (Or.inl ⟨by rfl, fun _ _ => rfl⟩) hHeld ?_
        try dsimp only
        try simp only [Act.put, List.getElem_toArray, List.getElem_cons_zero, List.getElem_cons_succ, List.setIfInBounds_toArray, List.set_cons_zero, List.set_cons_succ]
        refine wpAnyH_take (i := 21) (v := .int .i64 (n2 : Int)) rfl (by kernel_rfl) (by kernel_rfl) (by kernel_rfl) (fun _ _ _ h => h) (yb_lenb rfl (.tmp 58) rfl _ _ _ rfl) hHeld ?_
        try dsimp only
        try simp only [Act.put, List.getElem_toArray, List.getElem_cons_zero, List.getElem_cons_succ, List.setIfInBounds_toArray, List.set_cons_zero, List.set_cons_succ]
        refine wpAnyH_take (i := 22) (v := .bool false) rfl (by kernel_rfl) (by kernel_rfl) (by kernel_rfl) (fun _ _ _ h => h) (yb_bin rfl .lss 3 3 (.tmp 57) (.tmp 59) rfl _ _ _ rfl rfl (fun _ => rfl) (b_lss _ _ false (by simpa using hlt9))) hHeld ?_
        try dsimp only
        try simp only [Act.put, List.getElem_toArray, List.getElem_cons_zero, List.getElem_cons_succ, List.setIfInBounds_toArray, List.set_cons_zero, List.set_cons_succ]
        refine wpAnyH_take (i := 23) (v := .bool false) rfl (by kernel_rfl) (by kernel_rfl) (by kernel_rfl) (fun _ _ _ h => h) (yb_pick rfl (.tmp 55) (.const (.bool true)) (.tmp 60) rfl false _ rfl rfl) hHeld ?_
        try dsimp only
        try simp only [Act.put, List.getElem_toArray, List.getElem_cons_zero, List.getElem_cons_succ, List.setIfInBounds_toArray, List.set_cons_zero, List.set_cons_succ]
        refine wpAnyH_done (by kernel_rfl) ?_ _
        have HB9 := Lib.hid (below_to HB6.out hHeld)
        clear hHeld
        go_wp2
        go_roundw
        case rel => exact ⟨j + 1, by omega, by go_num, HB9.out⟩
        case measure => simp [intOf]; omega
      · obtain rfl : j = 4 := by omega
        have hRI := readIntsC_any A2 c2 (intsL l) n2 HN2 (by omega) HOW.out.caps.1 HOW.out.caps.2 wr (Lib.hid HOW.out.byAt)
        rw [HB3.out] at hRI
        have HRD := Lib.hid hRI
        clear hRI
        go_wp2_with (first
          | (go_at_call 14; (refine (HRD.out).mono ?_); rintro e v3 ⟨⟨A6, n6, c6, rfl, h1⟩, h2⟩; obtain rfl : n6 = n := (by have e1 := h1.len; have e2 := hn.out; omega); have HO6 := Lib.hid h1; have HB6 := Lib.hid (below_to HBW.out h2); clear h1 h2)
          | (go_at_call 16; (refine (sameI_any A6 b n6 c6 c l hn (by omega) _ (Lib.hid HO6.out.isAt) (Lib.hid (HA.out.keep HB6.out))).mono ?_); rintro e w5 ⟨rfl, hb⟩; have HB7 := Lib.hid (below_to HB6.out hb); clear hb))
        go_ret
        exact ⟨rfl, HB7.out⟩
  · go_enter Try.func3, Try.ntmps3
    go_wp2_with (go_at_call 10; refine (awakeC_any _).mono ?_; rintro e w1 ⟨rfl, hb⟩; first | (have HB2 := Lib.hid (below_to HB1.out hb); clear hb) | (have HB1 := Lib.hid hb; clear hb))
    go_ret
    exact ⟨rfl, HB2.out⟩
theorem columnInts_any (b : Option Addr) (l : List Int) (n c : Nat) (hn : Hid (n = l.length)) (hnc : n ≤ c) (hc : c ≤ maxLen) (W : World) (HA : Hid (IsAt W b l)) :
    Calls Try.prog 3 #[.slice b n c] W fun e w' => e = .returned (.bool true) ∧ Below W.heap.size W w' :=
  columnInts_core b l n c hn hnc hc W HA
end Go.Proofs.Ytplmafbdalkopaa
