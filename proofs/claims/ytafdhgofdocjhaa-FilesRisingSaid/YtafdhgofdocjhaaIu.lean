/-
  The law FilesRising: walked.
-/
import Derived.Test.YtafdhgofdocjhaaIr
import Derived.Test.YtafdhgofdocjhaaIt
import Derived.Test.YtafdhgofdocjhaaFq
set_option linter.unusedSimpArgs false
set_option linter.unusedVariables false
namespace Go.Proofs.Ytafdhgofdocjhaa
open Go.RowKit Go.WideShapes

theorem bl_of_cb : ∀ a b : List UInt8, Lib.compareBytes a b < 0 → Op.bytesLess a b = true
  | [], [], h => by simp [Lib.compareBytes] at h
  | [], _ :: _, _ => rfl
  | _ :: _, [], h => by simp [Lib.compareBytes] at h
  | x :: r, y :: s, h => by
    unfold Lib.compareBytes at h
    unfold Op.bytesLess
    by_cases h1 : x < y
    · simp [h1]
    · by_cases h2 : y < x
      · simp [h1, h2] at h
      · simp [h1, h2] at h
        have e : x = y := by
          apply UInt8.toNat_inj.1
          rw [UInt8.lt_iff_toNat_lt] at h1 h2; omega
        subst e
        have := bl_of_cb r s h
        simp [this]
theorem geq_no (s t : ByteArray) (h : cmpK s t < 0) (ty : TypeId) : ∀ w : World, (binOp .geq ty (.string s) (.string t)).run Try.prog w = .ok (.bool false) w := fun w => by
  have e : Op.bytesLess s.toList t.toList = true := by rw [Lib.toList_data, Lib.toList_data]; exact bl_of_cb _ _ h
  simp [binOp, Op.stringOp, e]
theorem StrsAt.keep {w w' : World} {p : Option Addr} {l : List ByteArray} (h : StrsAt w p l) (hb : Below w.heap.size w w') : StrsAt w' p l := fun k s hk => by
  obtain ⟨b, off, e, h1, h2⟩ := h k s hk
  exact ⟨b, off, e, Nat.lt_of_lt_of_le h1 hb.size, (hb.cell (p := ⟨b, off + k, none⟩) h1).trans h2⟩
theorem strs_cell {w : World} {b : Nat} {l : List ByteArray} (h : StrsAt w (some ⟨b, 0, none⟩) l) (k : Nat) (s : ByteArray) (hk : l[k]? = some s) : b < w.heap.size ∧ w.cell? ⟨b, k, none⟩ = some (.string s) := by
  obtain ⟨b', off, e, h1, h2⟩ := h k s hk
  injection e with e; injection e with e1 e2; subst e1; subst e2
  rw [Nat.zero_add] at h2
  exact ⟨h1, h2⟩
theorem thin_form {ys : List Fil} (h : Thin ys) (k : Nat) (s : ByteArray) (hk : (ys.map (·.name))[k]? = some s) : formK s = true := by
  rw [List.getElem?_map] at hk
  rcases hx : ys[k]? with _ | x
  · rw [hx] at hk; cases hk
  · rw [hx] at hk; injection hk with hk; subst hk; exact (h.each k x hx).1
theorem thin_next {ys : List Fil} (h : Thin ys) (k : Nat) (s t : ByteArray) (hk : (ys.map (·.name))[k]? = some s) (hk1 : (ys.map (·.name))[k + 1]? = some t) : cmpK s t < 0 := by
  rw [List.getElem?_map] at hk hk1
  rcases hx : ys[k]? with _ | x
  · rw [hx] at hk; cases hk
  · rcases hy : ys[k + 1]? with _ | y
    · rw [hy] at hk1; cases hk1
    · rw [hx] at hk; rw [hy] at hk1; injection hk with hk; injection hk1 with hk1; subst hk; subst hk1
      exact h.rises k (k + 1) x y (by omega) hx hy
/-- At the loop's head. -/
def RS (W W1 : World) (g J : Nat) (w : World) : Prop := ∃ (ops : Int) (xs : List Fil), SA W1 g 65536 false 0 ops xs w ∧ Thin xs ∧ xs.length ≤ J ∧ 0 ≤ ops ∧ ops ≤ J ∧ Below W.heap.size W w
/-- Behind a call. -/
def RC (W W1 : World) (g J : Nat) (w : World) : Prop := ∃ (ops : Int) (xs : List Fil), SA W1 g 65536 false 0 ops xs w ∧ Thin xs ∧ xs.length ≤ J + 1 ∧ 0 ≤ ops ∧ ops ≤ J + 1 ∧ Below W.heap.size W w
theorem rc_of {W W1 w0 w w' : World} {g J : Nat} {ops : Int} {n : Nat} {e : Ending} (h : Left W1 g 65536 ops n e w') (hn : n ≤ J + 1) (h0 : 0 ≤ ops) (h1 : ops ≤ J) (hb : Below W.heap.size W W1) (hg : W.heap.size ≤ g) : (∃ code : Int, e = .returned (.int .i64 code)) ∧ Hid (RC W W1 g J w') := by
  obtain ⟨code, ops', ys, he, ht, hl, ho1, ho2, hs⟩ := h
  exact ⟨⟨code, he⟩, Lib.hid ⟨ops', ys, hs, ht, by omega, by omega, by omega, below_gb hb hs.below hg⟩⟩
theorem yieldsIf_bin {ops : Array Oper} {S : World → Prop} {op : Oper} {a : Act} (hw : Region.wanted op (yielded ops a.tmps) = true) (o : BinOp) (t t2 : TypeId) (x y : Operand) (ho : op.op = .binOp o t x y t2) (v1 v2 u : Value) (hx : a.eval x = v1) (hy : a.eval y = v2)
    (he : ∀ w, (eqGuard o t x y v1 v2).run Try.prog w = .ok () w) (h : ∀ w, (binOp o t v1 v2).run Try.prog w = .ok u w) : YieldsIf Try.prog ops S op u a :=
  .inl ⟨hw, fun w _ => by
    unfold execOp
    simp only [ho, hx, hy, Sem.run_bind, Sem.run_pure, he w, h w, Result.andThen_ok]⟩
theorem ks_num (k : Nat) : ((k + 1 : Nat) : Int) - 1 = (k : Int) := by omega

theorem uAct : Try.prog.underlying 35 = some (.struct (Try.prog.fieldsOf 35)) := by kernel_rfl
theorem iAct (k a b : Nat) (s : ByteArray) (p m q : Value) : (Try.prog.info? 35).map (·.size) = some [Value.int .u8 (k : Int), .int .u8 (a : Int), .int .u8 (b : Int), .string s, p, m, q].length := by kernel_rfl
set_option maxRecDepth 4000 in
set_option maxHeartbeats 8000000 in
theorem filesRising_core (a : Option Addr) (l : List ActR) (la ca : Nat) (hla : Hid (la = l.length)) (hc : la ≤ ca) (hm : ca ≤ 9223372036854775807) (W : World) (HA : Hid (ActsAt W a l)) :
    Calls Try.prog 9 #[.slice a la ca] W fun e w' => e = .returned (.bool true) ∧ Below W.heap.size W w' := by
  have HLA := hla
  clear hla
  go_enter Try.func9, Try.ntmps9
  go_wp2_with (first
    | (go_at_call 10; refine (awake_any _).mono ?_; rintro e w1 ⟨rfl, hb⟩; have HB1 := Lib.hid hb; clear hb)
    | (go_at_call 11; refine (new_any 65536 (by decide) _).mono ?_; rintro e w2 ⟨g, rfl, hgn, h0⟩; have HS0 := Lib.hid h0; have HGN := Lib.hid hgn; clear h0 hgn))
  have HWG : Hid (W.heap.size ≤ g) := Lib.hid (Nat.le_trans HB1.out.size HGN.out)
  have HRS : Hid (RS W w1 g 0 w2) := Lib.hid ⟨0, [], .inl ⟨rfl, HS0.out⟩, Thin.nil, Nat.le_refl _, by decide, by decide, below_gb HB1.out HS0.out.below HWG.out⟩
  clear HS0
  go_loopw [5] (fun i wr => ∃ J : Nat, J ≤ la ∧ J ≤ 60 ∧ i = .int .i64 J ∧ RS W w1 g J wr) (fun i _ => la - (intOf i).toNat)
  case atStart => exact ⟨0, Nat.zero_le _, Nat.zero_le _, rfl, HRS.out⟩
  case round =>
    obtain ⟨J, hJ, hJ6, rfl, ops, xs, hsa, hth, hxl, ho1, ho2, hbw⟩ := hrel
    have HS := Lib.hid hsa; have HT := Lib.hid hth; have HBW := Lib.hid hbw
    clear hsa hth hbw HRS
    by_cases hlt : J < la
    · by_cases h60 : J < 60
      · obtain ⟨x, hx⟩ : ∃ x, l[J]? = some x := ⟨l[J]'(by have := HLA.out; omega), List.getElem?_eq_getElem _⟩
        obtain ⟨hk8, ha8, hb8, ga, off, rfl, hga, hr⟩ := (HA.out.keep HBW.out) J x hx
        obtain ⟨xk, xa, xb, xn, xp, xm, xq⟩ := x
        have HR := Lib.hid hr
        have HX := Lib.hid hx
        simp only at hk8 ha8 hb8
        clear hr hx
        have ck : wr.cell? ⟨ga, off + J * 7, none⟩ = some (.int .u8 (xk : Int)) := HR.out 0 _ rfl
        have HNM := Lib.hid fun w => names_any xk xa xb xn xp xm xq ha8 hb8 w
        generalize nm xn xa = sa at *
        generalize nm xn xb = sb at *
        obtain ⟨k4, hk4, hkv⟩ : ∃ k4 : Nat, (xk : Int) % 4 = (k4 : Int) ∧ (k4 = 0 ∨ k4 = 1 ∨ k4 = 2 ∨ k4 = 3) := ⟨xk % 4, by omega, by omega⟩
        have hx500 : xs.length < 500 := by omega
        have hops : 0 ≤ ops ∧ ops < 1000000000 := by omega
        rcases hkv with rfl | rfl | rfl | rfl
        all_goals
          go_upto_region 15 with (first
            | (refine wpList_load_mid rfl 35 (.tmp 29) rfl ga (off + J * 7) rfl [.int .u8 (xk : Int), .int .u8 (xa : Int), .int .u8 (xb : Int), .string xn, xp, xm, xq] _ HR.out uAct rfl (iAct xk xa xb xn xp xm xq) ?_)
            | (go_at_call 12; refine (HNM.out _).mono ?_; rintro e w3 ⟨rfl, hb3⟩; have HS3 := Lib.hid (HS.out.next hb3); have HB3 := Lib.hid hb3; have ck3 := (hb3.cell (p := ⟨ga, off + J * 7, none⟩) hga).trans ck; clear hb3)
            | (go_at_call 13; refine (append_T sa HT.out hx500 hops (by decide) _ HS3).mono ?_; rintro e w4 hl4; obtain ⟨⟨code, rfl⟩, HC⟩ := rc_of (W := W) (J := J) (w0 := w3) (w := w3) hl4 (by omega) ho1 ho2 HB1.out HWG.out; clear hl4)
            | (go_at_call 19; refine (delete_T sa HT.out (by omega) hops _ HS3).mono ?_; rintro e w4 hl4; obtain ⟨⟨code, rfl⟩, HC⟩ := rc_of (W := W) (J := J) (w0 := w3) (w := w3) hl4 (by omega) ho1 ho2 HB1.out HWG.out; clear hl4)
            | (go_at_call 17; refine (rename_T sa sb HT.out (by omega) hops _ HS3).mono ?_; rintro e w4 hl4; obtain ⟨⟨code, rfl⟩, HC⟩ := rc_of (W := W) (J := J) (w0 := w3) (w := w3) hl4 (by omega) ho1 ho2 HB1.out HWG.out; clear hl4))
          obtain ⟨ops', ys, hs4, ht4, hl4, hp1, hp2, hb4⟩ := HC.out
          have HS4 := Lib.hid hs4; have HT4 := Lib.hid ht4; have HB4 := Lib.hid hb4
          clear hs4 ht4 hb4 HC
          obtain ⟨n, hn⟩ : ∃ n, n = ys.length := ⟨_, rfl⟩
          have HN := Lib.hid hn
          have hn61 : n ≤ 61 := by omega
          have hLI := list_A (by omega) _ HS4
          rw [← hn] at hLI
          clear hn
          have HLI := Lib.hid hLI
          clear hLI
          go_wp2_with (go_at_call 27; (with_reducible refine (HLI.out).mono ?_); rintro e w5 ⟨b, rfl, hst, hb5⟩; have HS5 := Lib.hid (HS4.out.next hb5); have HST := Lib.hid hst; have HB5 := Lib.hid (below_to HB4.out hb5); clear hst hb5)
          have HF := Lib.hid (thin_form HT4.out)
          have HX1 := Lib.hid (thin_next HT4.out)
          obtain ⟨nms, hnms⟩ : ∃ nms, nms = ys.map (·.name) := ⟨_, rfl⟩
          rw [← hnms] at HST HF HX1
          have HLN : Hid (nms.length = n) := Lib.hid (by rw [hnms, List.length_map]; exact HN.out.symm)
          clear hnms
          clear ck ck3
          go_loopw [9] (fun v wk => ∃ k : Nat, k ≤ n ∧ v = .int .i64 k ∧ Below w5.heap.size w5 wk) (fun v _ => n - (intOf v).toNat)
          case atStart => exact ⟨0, Nat.zero_le _, rfl, Below.refl _ _⟩
          case round =>
            obtain ⟨k, hkn, rfl, hbk⟩ := hrel
            have HBK := Lib.hid hbk
            clear hbk
            by_cases hkl : k < n
            · obtain ⟨t, ht⟩ : ∃ t, nms[k]? = some t := ⟨nms[k]'(by have := HLN.out; omega), List.getElem?_eq_getElem _⟩
              obtain ⟨hbl, hct⟩ := strs_cell HST.out k t ht
              have hct2 := (HBK.out.cell (p := ⟨b, k, none⟩) hbl).trans hct
              have HBL : Hid (b < wr.heap.size) := Lib.hid (Nat.lt_of_lt_of_le hbl HBK.out.size)
              have HCT := Lib.hid hct2
              have HFT := Lib.hid (HF.out k t ht)
              have HTT := Lib.hid ht
              have hkni : (k : Int) < (n : Int) := by omega
              clear hbl hct hct2 ht
              by_cases hk0 : k = 0
              · subst hk0
                have hn0 : (0 : Int) < (n : Int) := by omega
                go_upto_region 19 with fail
                have hh0 : Below wr.heap.size wr wr.drew := (Below.refl _ _).drew
                refine wp_region_held_drew (S := fun w => Below wr.heap.size wr w) (by kernel_rfl) hh0 (fun hHeld => ?_)
                refine wpAnyH_take (i := 0) (v := .int .i64 ((0 : Nat) : Int)) rfl (by kernel_rfl) (by kernel_rfl) (by kernel_rfl) (fun _ _ _ h => h) (Or.inl ⟨by rfl, fun _ _ => rfl⟩) hHeld ?_
                try dsimp only
                try simp only [Act.put, List.getElem_toArray, List.getElem_cons_zero, List.getElem_cons_succ, List.setIfInBounds_toArray, List.set_cons_zero, List.set_cons_succ]
                refine wpAnyH_take (i := 1) (v := .bool false) rfl (by kernel_rfl) (by kernel_rfl) (by kernel_rfl) (fun _ _ _ h => h) (Or.inl ⟨by rfl, fun w _ => by go_simp⟩) hHeld ?_
                try dsimp only
                try simp only [Act.put, List.getElem_toArray, List.getElem_cons_zero, List.getElem_cons_succ, List.setIfInBounds_toArray, List.set_cons_zero, List.set_cons_succ]
                refine wpAnyH_take (i := 2) (v := .bool false) rfl (by kernel_rfl) (by kernel_rfl) (by kernel_rfl) (fun _ _ _ h => h) (Or.inl ⟨by rfl, fun _ _ => rfl⟩) hHeld ?_
                try dsimp only
                try simp only [Act.put, List.getElem_toArray, List.getElem_cons_zero, List.getElem_cons_succ, List.setIfInBounds_toArray, List.set_cons_zero, List.set_cons_succ]
                refine wpAnyH_take (i := 3) (v := undef) rfl (by kernel_rfl) (by kernel_rfl) (by kernel_rfl) (fun _ _ _ h => h) (Or.inr ⟨by rfl, rfl⟩) hHeld ?_
                try dsimp only
                try simp only [Act.put, List.getElem_toArray, List.getElem_cons_zero, List.getElem_cons_succ, List.setIfInBounds_toArray, List.set_cons_zero, List.set_cons_succ]
                refine wpAnyH_take (i := 4) (v := undef) rfl (by kernel_rfl) (by kernel_rfl) (by kernel_rfl) (fun _ _ _ h => h) (Or.inr ⟨by rfl, rfl⟩) hHeld ?_
                try dsimp only
                try simp only [Act.put, List.getElem_toArray, List.getElem_cons_zero, List.getElem_cons_succ, List.setIfInBounds_toArray, List.set_cons_zero, List.set_cons_succ]
                refine wpAnyH_take (i := 5) (v := undef) rfl (by kernel_rfl) (by kernel_rfl) (by kernel_rfl) (fun _ _ _ h => h) (Or.inr ⟨by rfl, rfl⟩) hHeld ?_
                try dsimp only
                try simp only [Act.put, List.getElem_toArray, List.getElem_cons_zero, List.getElem_cons_succ, List.setIfInBounds_toArray, List.set_cons_zero, List.set_cons_succ]
                refine wpAnyH_take (i := 6) (v := undef) rfl (by kernel_rfl) (by kernel_rfl) (by kernel_rfl) (fun _ _ _ h => h) (Or.inr ⟨by rfl, rfl⟩) hHeld ?_
                try dsimp only
                try simp only [Act.put, List.getElem_toArray, List.getElem_cons_zero, List.getElem_cons_succ, List.setIfInBounds_toArray, List.set_cons_zero, List.set_cons_succ]
                refine wpAnyH_take (i := 7) (v := undef) rfl (by kernel_rfl) (by kernel_rfl) (by kernel_rfl) (fun _ _ _ h => h) (Or.inr ⟨by rfl, rfl⟩) hHeld ?_
                try dsimp only
                try simp only [Act.put, List.getElem_toArray, List.getElem_cons_zero, List.getElem_cons_succ, List.setIfInBounds_toArray, List.set_cons_zero, List.set_cons_succ]
                refine wpAnyH_take (i := 8) (v := undef) rfl (by kernel_rfl) (by kernel_rfl) (by kernel_rfl) (fun _ _ _ h => h) (Or.inr ⟨by rfl, rfl⟩) hHeld ?_
                try dsimp only
                try simp only [Act.put, List.getElem_toArray, List.getElem_cons_zero, List.getElem_cons_succ, List.setIfInBounds_toArray, List.set_cons_zero, List.set_cons_succ]
                refine wpAnyH_take (i := 9) (v := undef) rfl (by kernel_rfl) (by kernel_rfl) (by kernel_rfl) (fun _ _ _ h => h) (Or.inr ⟨by rfl, rfl⟩) hHeld ?_
                try dsimp only
                try simp only [Act.put, List.getElem_toArray, List.getElem_cons_zero, List.getElem_cons_succ, List.setIfInBounds_toArray, List.set_cons_zero, List.set_cons_succ]
                refine wpAnyH_take (i := 10) (v := undef) rfl (by kernel_rfl) (by kernel_rfl) (by kernel_rfl) (fun _ _ _ h => h) (Or.inr ⟨by rfl, rfl⟩) hHeld ?_
                try dsimp only
                try simp only [Act.put, List.getElem_toArray, List.getElem_cons_zero, List.getElem_cons_succ, List.setIfInBounds_toArray, List.set_cons_zero, List.set_cons_succ]
                refine wpAnyH_take (i := 11) (v := undef) rfl (by kernel_rfl) (by kernel_rfl) (by kernel_rfl) (fun _ _ _ h => h) (Or.inr ⟨by rfl, rfl⟩) hHeld ?_
                try dsimp only
                try simp only [Act.put, List.getElem_toArray, List.getElem_cons_zero, List.getElem_cons_succ, List.setIfInBounds_toArray, List.set_cons_zero, List.set_cons_succ]
                refine wpAnyH_take (i := 12) (v := undef) rfl (by kernel_rfl) (by kernel_rfl) (by kernel_rfl) (fun _ _ _ h => h) (Or.inr ⟨by rfl, rfl⟩) hHeld ?_
                try dsimp only
                try simp only [Act.put, List.getElem_toArray, List.getElem_cons_zero, List.getElem_cons_succ, List.setIfInBounds_toArray, List.set_cons_zero, List.set_cons_succ]
                refine wpAnyH_take (i := 13) (v := .bool false) rfl (by kernel_rfl) (by kernel_rfl) (by kernel_rfl) (fun _ _ _ h => h) (Or.inl ⟨by rfl, fun w _ => by go_simp⟩) hHeld ?_
                try dsimp only
                try simp only [Act.put, List.getElem_toArray, List.getElem_cons_zero, List.getElem_cons_succ, List.setIfInBounds_toArray, List.set_cons_zero, List.set_cons_succ]
                refine wpAnyH_take (i := 14) (v := .bool false) rfl (by kernel_rfl) (by kernel_rfl) (by kernel_rfl) (fun _ _ _ h => h) (Or.inl ⟨by rfl, fun _ _ => rfl⟩) hHeld ?_
                try dsimp only
                try simp only [Act.put, List.getElem_toArray, List.getElem_cons_zero, List.getElem_cons_succ, List.setIfInBounds_toArray, List.set_cons_zero, List.set_cons_succ]
                refine wpAnyH_take (i := 15) (v := .slice (some ⟨b, 0, none⟩) n n) rfl (by kernel_rfl) (by kernel_rfl) (by kernel_rfl) (fun _ _ _ h => h) (Or.inl ⟨by rfl, fun _ _ => rfl⟩) hHeld ?_
                try dsimp only
                try simp only [Act.put, List.getElem_toArray, List.getElem_cons_zero, List.getElem_cons_succ, List.setIfInBounds_toArray, List.set_cons_zero, List.set_cons_succ]
                refine wpAnyH_take (i := 16) (v := .int .i64 ((0 : Nat) : Int)) rfl (by kernel_rfl) (by kernel_rfl) (by kernel_rfl) (fun _ _ _ h => h) (Or.inl ⟨by rfl, fun _ _ => rfl⟩) hHeld ?_
                try dsimp only
                try simp only [Act.put, List.getElem_toArray, List.getElem_cons_zero, List.getElem_cons_succ, List.setIfInBounds_toArray, List.set_cons_zero, List.set_cons_succ]
                refine wpAnyH_take (i := 17) (v := .pointer (some ⟨b, 0, none⟩)) rfl (by kernel_rfl) (by kernel_rfl) (by kernel_rfl) (fun _ _ _ h => h) (Or.inl ⟨by rfl, fun w _ => by go_simp; try (intro h; exfalso; omega)⟩) hHeld ?_
                try dsimp only
                try simp only [Act.put, List.getElem_toArray, List.getElem_cons_zero, List.getElem_cons_succ, List.setIfInBounds_toArray, List.set_cons_zero, List.set_cons_succ]
                refine wpAnyH_take (i := 18) (v := .string t) rfl (by kernel_rfl) (by kernel_rfl) (by kernel_rfl) (fun _ _ _ h => h) (Or.inl ⟨by rfl, fun w hw => by have hc : w.cell? ⟨b, 0, none⟩ = some (.string t) := (hw.cell (p := ⟨b, 0, none⟩) HBL.out).trans HCT.out; go_simp⟩) hHeld ?_
                try dsimp only
                try simp only [Act.put, List.getElem_toArray, List.getElem_cons_zero, List.getElem_cons_succ, List.setIfInBounds_toArray, List.set_cons_zero, List.set_cons_succ]
                refine wpAnyH_ready (rs := [19]) (by kernel_rfl) (by simp) (AllReadyH.cons rfl (fun K hK => ?_) AllReadyH.nil)
                go_simp
                refine (form_any t _).mono ?_
                rintro e w9 ⟨rfl, rfl⟩
                rw [HFT.out]
                refine hK.out _ _ hHeld (fun hHeld => ?_)
                clear hK K
                try dsimp only
                try simp only [Act.put, List.getElem_toArray, List.getElem_cons_zero, List.getElem_cons_succ, List.setIfInBounds_toArray, List.set_cons_zero, List.set_cons_succ]
                refine wpAnyH_ready (rs := [20]) (by kernel_rfl) (by simp) (AllReadyH.cons rfl (fun K hK => ?_) AllReadyH.nil)
                go_simp
                refine hK.out _ _ hHeld (fun hHeld => ?_)
                clear hK K
                try dsimp only
                try simp only [Act.put, List.getElem_toArray, List.getElem_cons_zero, List.getElem_cons_succ, List.setIfInBounds_toArray, List.set_cons_zero, List.set_cons_succ]
                refine wpAnyH_ready (rs := [21]) (by kernel_rfl) (by simp) (AllReadyH.cons rfl (fun K hK => ?_) AllReadyH.nil)
                go_simp
                refine hK.out _ _ hHeld (fun hHeld => ?_)
                clear hK K
                try dsimp only
                try simp only [Act.put, List.getElem_toArray, List.getElem_cons_zero, List.getElem_cons_succ, List.setIfInBounds_toArray, List.set_cons_zero, List.set_cons_succ]
                refine wpAnyH_done (by kernel_rfl) ?_ _
                have HB9 := Lib.hid (below_to HBK.out hHeld)
                clear hHeld hh0
                go_wp2
                go_roundw
                case rel => exact ⟨0 + 1, by omega, by go_num, HB9.out⟩
                case measure => simp [intOf]; omega
              · obtain ⟨j, rfl⟩ : ∃ j, k = j + 1 := ⟨k - 1, by omega⟩
                obtain ⟨s, hs⟩ : ∃ s, nms[j]? = some s := ⟨nms[j]'(by have := HLN.out; omega), List.getElem?_eq_getElem _⟩
                obtain ⟨hbl, hct⟩ := strs_cell HST.out j s hs
                have HCS := Lib.hid ((HBK.out.cell (p := ⟨b, j, none⟩) hbl).trans hct)
                have HGE := Lib.hid (geq_no s t (HX1.out j s t hs HTT.out) 9)
                have hjn : (j : Int) < (n : Int) := by omega
                clear hbl hct hs hk0
                go_upto_region 19 with fail
                have hh0 : Below wr.heap.size wr wr.drew := (Below.refl _ _).drew
                refine wp_region_held_drew (S := fun w => Below wr.heap.size wr w) (by kernel_rfl) hh0 (fun hHeld => ?_)
                refine wpAnyH_take (i := 0) (v := .int .i64 ((j + 1 : Nat) : Int)) rfl (by kernel_rfl) (by kernel_rfl) (by kernel_rfl) (fun _ _ _ h => h) (Or.inl ⟨by rfl, fun _ _ => rfl⟩) hHeld ?_
                try dsimp only
                try simp only [Act.put, List.getElem_toArray, List.getElem_cons_zero, List.getElem_cons_succ, List.setIfInBounds_toArray, List.set_cons_zero, List.set_cons_succ]
                refine wpAnyH_take (i := 1) (v := .bool true) rfl (by kernel_rfl) (by kernel_rfl) (by kernel_rfl) (fun _ _ _ h => h) (Or.inl ⟨by rfl, fun w _ => by first | (go_simp; done) | (go_simp; omega)⟩) hHeld ?_
                try dsimp only
                try simp only [Act.put, List.getElem_toArray, List.getElem_cons_zero, List.getElem_cons_succ, List.setIfInBounds_toArray, List.set_cons_zero, List.set_cons_succ]
                refine wpAnyH_take (i := 2) (v := .bool true) rfl (by kernel_rfl) (by kernel_rfl) (by kernel_rfl) (fun _ _ _ h => h) (Or.inl ⟨by rfl, fun _ _ => rfl⟩) hHeld ?_
                try dsimp only
                try simp only [Act.put, List.getElem_toArray, List.getElem_cons_zero, List.getElem_cons_succ, List.setIfInBounds_toArray, List.set_cons_zero, List.set_cons_succ]
                refine wpAnyH_take (i := 3) (v := .slice (some ⟨b, 0, none⟩) n n) rfl (by kernel_rfl) (by kernel_rfl) (by kernel_rfl) (fun _ _ _ h => h) (Or.inl ⟨by rfl, fun _ _ => rfl⟩) hHeld ?_
                try dsimp only
                try simp only [Act.put, List.getElem_toArray, List.getElem_cons_zero, List.getElem_cons_succ, List.setIfInBounds_toArray, List.set_cons_zero, List.set_cons_succ]
                refine wpAnyH_take (i := 4) (v := .int .i64 ((j + 1 : Nat) : Int)) rfl (by kernel_rfl) (by kernel_rfl) (by kernel_rfl) (fun _ _ _ h => h) (Or.inl ⟨by rfl, fun _ _ => rfl⟩) hHeld ?_
                try dsimp only
                try simp only [Act.put, List.getElem_toArray, List.getElem_cons_zero, List.getElem_cons_succ, List.setIfInBounds_toArray, List.set_cons_zero, List.set_cons_succ]
                refine wpAnyH_take (i := 5) (v := .int .i64 (j : Int)) rfl (by kernel_rfl) (by kernel_rfl) (by kernel_rfl) (fun _ _ _ h => h) (Or.inl ⟨by rfl, fun w _ => by first | (go_simp; done) | (go_simp; omega) | (go_simp; rw [IntKind.wrap_i64]; omega) | (have hks := ks_num j; go_simp; done) | (have hks := ks_num j; go_simp; rw [hks, IntKind.wrap_i64]; omega)⟩) hHeld ?_
                try dsimp only
                try simp only [Act.put, List.getElem_toArray, List.getElem_cons_zero, List.getElem_cons_succ, List.setIfInBounds_toArray, List.set_cons_zero, List.set_cons_succ]
                refine wpAnyH_take (i := 6) (v := .pointer (some ⟨b, j, none⟩)) rfl (by kernel_rfl) (by kernel_rfl) (by kernel_rfl) (fun _ _ _ h => h) (Or.inl ⟨by rfl, fun w _ => by first | (go_simp; done) | (go_simp; intro h; exfalso; omega)⟩) hHeld ?_
                try dsimp only
                try simp only [Act.put, List.getElem_toArray, List.getElem_cons_zero, List.getElem_cons_succ, List.setIfInBounds_toArray, List.set_cons_zero, List.set_cons_succ]
                refine wpAnyH_take (i := 7) (v := .string s) rfl (by kernel_rfl) (by kernel_rfl) (by kernel_rfl) (fun _ _ _ h => h) (Or.inl ⟨by rfl, fun w hw => by have hc : w.cell? ⟨b, j, none⟩ = some (.string s) := (hw.cell (p := ⟨b, j, none⟩) HBL.out).trans HCS.out; go_simp⟩) hHeld ?_
                try dsimp only
                try simp only [Act.put, List.getElem_toArray, List.getElem_cons_zero, List.getElem_cons_succ, List.setIfInBounds_toArray, List.set_cons_zero, List.set_cons_succ]
                refine wpAnyH_take (i := 8) (v := .slice (some ⟨b, 0, none⟩) n n) rfl (by kernel_rfl) (by kernel_rfl) (by kernel_rfl) (fun _ _ _ h => h) (Or.inl ⟨by rfl, fun _ _ => rfl⟩) hHeld ?_
                try dsimp only
                try simp only [Act.put, List.getElem_toArray, List.getElem_cons_zero, List.getElem_cons_succ, List.setIfInBounds_toArray, List.set_cons_zero, List.set_cons_succ]
                refine wpAnyH_take (i := 9) (v := .int .i64 ((j + 1 : Nat) : Int)) rfl (by kernel_rfl) (by kernel_rfl) (by kernel_rfl) (fun _ _ _ h => h) (Or.inl ⟨by rfl, fun _ _ => rfl⟩) hHeld ?_
                try dsimp only
                try simp only [Act.put, List.getElem_toArray, List.getElem_cons_zero, List.getElem_cons_succ, List.setIfInBounds_toArray, List.set_cons_zero, List.set_cons_succ]
                refine wpAnyH_take (i := 10) (v := .pointer (some ⟨b, j + 1, none⟩)) rfl (by kernel_rfl) (by kernel_rfl) (by kernel_rfl) (fun _ _ _ h => h) (Or.inl ⟨by rfl, fun w _ => by first | (go_simp; done) | (go_simp; intro h; exfalso; omega)⟩) hHeld ?_
                try dsimp only
                try simp only [Act.put, List.getElem_toArray, List.getElem_cons_zero, List.getElem_cons_succ, List.setIfInBounds_toArray, List.set_cons_zero, List.set_cons_succ]
                refine wpAnyH_take (i := 11) (v := .string t) rfl (by kernel_rfl) (by kernel_rfl) (by kernel_rfl) (fun _ _ _ h => h) (Or.inl ⟨by rfl, fun w hw => by have hc : w.cell? ⟨b, j + 1, none⟩ = some (.string t) := (hw.cell (p := ⟨b, j + 1, none⟩) HBL.out).trans HCT.out; go_simp⟩) hHeld ?_
                try dsimp only
                try simp only [Act.put, List.getElem_toArray, List.getElem_cons_zero, List.getElem_cons_succ, List.setIfInBounds_toArray, List.set_cons_zero, List.set_cons_succ]
                refine wpAnyH_take (i := 12) (v := .bool false) rfl (by kernel_rfl) (by kernel_rfl) (by kernel_rfl) (fun _ _ _ h => h) (yieldsIf_bin rfl .geq 9 9 (.tmp 70) (.tmp 74) rfl _ _ _ rfl rfl (fun _ => rfl) HGE.out) hHeld ?_
                try dsimp only
                try simp only [Act.put, List.getElem_toArray, List.getElem_cons_zero, List.getElem_cons_succ, List.setIfInBounds_toArray, List.set_cons_zero, List.set_cons_succ]
                refine wpAnyH_take (i := 13) (v := .bool false) rfl (by kernel_rfl) (by kernel_rfl) (by kernel_rfl) (fun _ _ _ h => h) (Or.inl ⟨by rfl, fun w _ => by go_simp⟩) hHeld ?_
                try dsimp only
                try simp only [Act.put, List.getElem_toArray, List.getElem_cons_zero, List.getElem_cons_succ, List.setIfInBounds_toArray, List.set_cons_zero, List.set_cons_succ]
                refine wpAnyH_take (i := 14) (v := .bool false) rfl (by kernel_rfl) (by kernel_rfl) (by kernel_rfl) (fun _ _ _ h => h) (Or.inl ⟨by rfl, fun _ _ => rfl⟩) hHeld ?_
                try dsimp only
                try simp only [Act.put, List.getElem_toArray, List.getElem_cons_zero, List.getElem_cons_succ, List.setIfInBounds_toArray, List.set_cons_zero, List.set_cons_succ]
                refine wpAnyH_take (i := 15) (v := .slice (some ⟨b, 0, none⟩) n n) rfl (by kernel_rfl) (by kernel_rfl) (by kernel_rfl) (fun _ _ _ h => h) (Or.inl ⟨by rfl, fun _ _ => rfl⟩) hHeld ?_
                try dsimp only
                try simp only [Act.put, List.getElem_toArray, List.getElem_cons_zero, List.getElem_cons_succ, List.setIfInBounds_toArray, List.set_cons_zero, List.set_cons_succ]
                refine wpAnyH_take (i := 16) (v := .int .i64 ((j + 1 : Nat) : Int)) rfl (by kernel_rfl) (by kernel_rfl) (by kernel_rfl) (fun _ _ _ h => h) (Or.inl ⟨by rfl, fun _ _ => rfl⟩) hHeld ?_
                try dsimp only
                try simp only [Act.put, List.getElem_toArray, List.getElem_cons_zero, List.getElem_cons_succ, List.setIfInBounds_toArray, List.set_cons_zero, List.set_cons_succ]
                refine wpAnyH_take (i := 17) (v := .pointer (some ⟨b, (j + 1), none⟩)) rfl (by kernel_rfl) (by kernel_rfl) (by kernel_rfl) (fun _ _ _ h => h) (Or.inl ⟨by rfl, fun w _ => by go_simp; try (intro h; exfalso; omega)⟩) hHeld ?_
                try dsimp only
                try simp only [Act.put, List.getElem_toArray, List.getElem_cons_zero, List.getElem_cons_succ, List.setIfInBounds_toArray, List.set_cons_zero, List.set_cons_succ]
                refine wpAnyH_take (i := 18) (v := .string t) rfl (by kernel_rfl) (by kernel_rfl) (by kernel_rfl) (fun _ _ _ h => h) (Or.inl ⟨by rfl, fun w hw => by have hc : w.cell? ⟨b, (j + 1), none⟩ = some (.string t) := (hw.cell (p := ⟨b, (j + 1), none⟩) HBL.out).trans HCT.out; go_simp⟩) hHeld ?_
                try dsimp only
                try simp only [Act.put, List.getElem_toArray, List.getElem_cons_zero, List.getElem_cons_succ, List.setIfInBounds_toArray, List.set_cons_zero, List.set_cons_succ]
                refine wpAnyH_ready (rs := [19]) (by kernel_rfl) (by simp) (AllReadyH.cons rfl (fun K hK => ?_) AllReadyH.nil)
                go_simp
                refine (form_any t _).mono ?_
                rintro e w9 ⟨rfl, rfl⟩
                rw [HFT.out]
                refine hK.out _ _ hHeld (fun hHeld => ?_)
                clear hK K
                try dsimp only
                try simp only [Act.put, List.getElem_toArray, List.getElem_cons_zero, List.getElem_cons_succ, List.setIfInBounds_toArray, List.set_cons_zero, List.set_cons_succ]
                refine wpAnyH_ready (rs := [20]) (by kernel_rfl) (by simp) (AllReadyH.cons rfl (fun K hK => ?_) AllReadyH.nil)
                go_simp
                refine hK.out _ _ hHeld (fun hHeld => ?_)
                clear hK K
                try dsimp only
                try simp only [Act.put, List.getElem_toArray, List.getElem_cons_zero, List.getElem_cons_succ, List.setIfInBounds_toArray, List.set_cons_zero, List.set_cons_succ]
                refine wpAnyH_ready (rs := [21]) (by kernel_rfl) (by simp) (AllReadyH.cons rfl (fun K hK => ?_) AllReadyH.nil)
                go_simp
                refine hK.out _ _ hHeld (fun hHeld => ?_)
                clear hK K
                try dsimp only
                try simp only [Act.put, List.getElem_toArray, List.getElem_cons_zero, List.getElem_cons_succ, List.setIfInBounds_toArray, List.set_cons_zero, List.set_cons_succ]
                refine wpAnyH_done (by kernel_rfl) ?_ _
                have HB9 := Lib.hid (below_to HBK.out hHeld)
                clear hHeld hh0
                go_wp2
                go_roundw
                case rel => exact ⟨j + 1 + 1, by omega, by go_num, HB9.out⟩
                case measure => simp [intOf]; omega
            · have hkn2 : k = n := by omega
              subst hkn2
              go_wp2
              go_roundw
              case rel => exact ⟨J + 1, by omega, by omega, by go_num, ops', ys, HS5.out.next HBK.out, HT4.out, by omega, hp1, by omega, below_to HB5.out HBK.out⟩
              case measure => simp [intOf]; omega
      · have hJ60 : J = 60 := by omega
        subst hJ60
        go_wp2
        go_ret
        exact ⟨rfl, HBW.out⟩
    · have hJla : J = la := by omega
      subst hJla
      go_wp2
      go_ret
      exact ⟨rfl, HBW.out⟩
theorem filesRising_any (a : Option Addr) (l : List ActR) (la ca : Nat) (hla : Hid (la = l.length)) (hc : la ≤ ca) (hm : ca ≤ maxLen) (W : World) (HA : Hid (ActsAt W a l)) :
    Calls Try.prog 9 #[.slice a la ca] W fun e w' => e = .returned (.bool true) ∧ Below W.heap.size W w' :=
  filesRising_core a l la ca hla hc hm W HA
end Go.Proofs.Ytafdhgofdocjhaa
