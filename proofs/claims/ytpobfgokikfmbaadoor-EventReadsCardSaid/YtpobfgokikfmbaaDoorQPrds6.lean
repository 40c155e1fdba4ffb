/-
  Layer column: the document's own reader: whole numbers laid packed.
-/
import Derived.Test.YtpobfgokikfmbaaDoorQPrds5
set_option linter.unusedSimpArgs false
set_option linter.unusedVariables false
set_option maxRecDepth 8000
namespace Go.Proofs.YtpobfgokikfmbaaDoor
open Go.RowKit Go.WideShapes Col
namespace Col
theorem bits_zero (V a : Nat) : bitsAt V a 0 = 0 := by unfold bitsAt; rw [Nat.pow_zero, Nat.mod_one]
theorem bits_more (V a k : Nat) : bitsAt V a (k + 1) = bitsAt V a k + V / 2 ^ (a + k) % 2 * 2 ^ k := by
  unfold bitsAt
  rw [Nat.pow_succ, Nat.mod_mul, Nat.pow_add, ← Nat.div_div_eq_div_mul, Nat.mul_comm]
theorem bit_byte (V T : Nat) : V / 2 ^ (8 * (T / 8)) % 256 / 2 ^ (T % 8) % 2 = V / 2 ^ T % 2 := by
  have h8 : (256 : Nat) = 2 ^ (T % 8) * 2 ^ (8 - T % 8) := by rw [← Nat.pow_add, show T % 8 + (8 - T % 8) = 8 by omega]
  rw [h8, Nat.mod_mul_right_div_self, Nat.div_div_eq_div_mul, ← Nat.pow_add, show 8 * (T / 8) + T % 8 = T by omega]
  have : (2 : Nat) ^ (8 - T % 8) = 2 * 2 ^ (8 - T % 8 - 1) := by rw [Nat.mul_comm, ← Nat.pow_succ]; congr 1; omega
  rw [this, Nat.mod_mul_right_mod]
theorem map_snoc (W V : Nat) (mn : Int) (i : Nat) : (List.range (i + 1)).map (pval W V mn) = (List.range i).map (pval W V mn) ++ [pval W V mn i] := by rw [List.range_succ, List.map_append]; rfl
/-- What is behind the bits that are used. -/
theorem rest_zero {V M T E : Nat} (hV : V < 2 ^ E) (h : bitsAt V M (T - M) = 0) (hM : M ≤ T) (hT : T = E) : V < 2 ^ M := by
  subst hT
  unfold bitsAt at h
  have h1 : V / 2 ^ M < 2 ^ (T - M) := by rw [Nat.div_lt_iff_lt_mul (Nat.two_pow_pos _), ← Nat.pow_add, show T - M + M = T by omega]; exact hV
  rw [Nat.mod_eq_of_lt h1] at h
  have := Nat.div_eq_zero_iff.1 h
  have h2 := Nat.two_pow_pos M
  omega
theorem rest_one {V M T : Nat} (h : V / 2 ^ T % 2 = 1) (hM : M ≤ T) : ¬ V < 2 ^ M := fun h2 => by
  have h3 : V < 2 ^ T := Nat.lt_of_lt_of_le h2 (Nat.pow_le_pow_right (by decide) hM)
  rw [Nat.div_eq_of_lt h3] at h; cases h
end Col
theorem RRA.drewN {w : World} {m C : Nat} {A : Option Addr} {p : List Nat} {s : Option (List Nat)} (h : RRA w m A C p s) (n : Nat) : RRA (w.drewN n) m A C p s := h.keep (S := fun _ => False) ((Kept.refl _ _).drewN n) (fun e => e) (fun a _ _ e => e)
attribute [local irreducible] bitsAt
theorem b_gtr (x y : Int) (b : Bool) (h : decide (y < x) = b) (w : World) : (binOp .gtr 3 (.int .i64 x) (.int .i64 y)).run Tryd.prog w = .ok (.bool b) w := by
  subst h; rfl
/-- The loop over packed numbers. -/
def R3 (w : World) (m C : Nat) (A : Option Addr) (p r4 : List Nat) (n W V : Nat) (mn : Int) (u a v : Value) (wr : World) : Prop :=
  ∃ (k T : Nat) (A' : Option Addr) (cap' : Nat), k ≤ n ∧ v = .int .i64 (k : Int) ∧ T = k * W ∧ a = .int .i64 (T : Int) ∧ u = .slice A' k cap' ∧ OwnI wr w.heap.size A' k cap' ((List.range k).map (pval W V mn)) ∧ RRA wr m A C p (some r4) ∧ Kept (Only m) w wr
/-- One packed number's bits. -/
def R3i (w0 : World) (V T0 W : Nat) (m C : Nat) (A : Option Addr) (p r4 : List Nat) (a x v : Value) (wr : World) : Prop :=
  ∃ (k T X : Nat), k ≤ W ∧ v = .int .i64 (k : Int) ∧ T = T0 + k ∧ a = .int .i64 (T : Int) ∧ X = bitsAt V T0 k ∧ x = .int .u64 (X : Int) ∧ RRA wr m A C p (some r4) ∧ Below w0.heap.size w0 wr
/-- What is behind. -/
def R3z (w0 : World) (V M E : Nat) (m C : Nat) (A : Option Addr) (p r4 : List Nat) (a : Value) (wr : World) : Prop :=
  ∃ (T : Nat), M ≤ T ∧ T ≤ E ∧ a = .int .i64 (T : Int) ∧ bitsAt V M (T - M) = 0 ∧ RRA wr m A C p (some r4) ∧ Below w0.heap.size w0 wr
set_option maxHeartbeats 8000000 in
theorem rints3_any (m C : Nat) (A : Option Addr) (p q r : List Nat) (n : Nat) (hu : Hid (uP 4096 q = some (n, r))) (hn : n ≤ 4096) (w : World) (H : Hid (RRA w m A C p (some (3 :: q)))) :
    Calls Tryd.prog 39 #[.pointer (some ⟨m, 0, none⟩)] w (RIEnds w m C A p (allOf (rpk n r))) := by
  have HB : Hid (Calls Tryd.prog 56 #[.pointer (some ⟨m, 0, none⟩)] w (RByte w m A C p (.int .u8 3) (some q))) := Lib.hid (rbyte_any m C A p (some (3 :: q)) w H)
  have HU : Hid (∀ w2, Hid (RRA w2 m A C p (some q)) → Calls Tryd.prog 38 #[.pointer (some ⟨m, 0, none⟩), .int .u64 4096] w2 (RByte w2 m A C p (.int .u64 (n : Int)) (some r))) := Lib.hid fun w2 h => by
    have := ruint_any m C A p 4096 (some q) w2 h
    rw [uintS_some hu.out] at this; exact this
  have HBLK := Lib.hid H.out.blk
  have HLT := Lib.hid H.out.lt
  have hni : IntKind.i64.wrap (n : Int) = (n : Int) := by rw [IntKind.wrap_i64]; omega
  by_cases h0 : n = 0
  · subst h0
    go_enter Tryd.func39, Tryd.ntmps39
    go_wp2_with (first
      | (go_at_call 56; (with_reducible refine (HB.out).mono ?_); rintro e w2 hy; obtain ⟨rfl, HR2, HK2⟩ := hy.at; clear hy)
      | (go_at_call 38; (refine (HU.out _ HR2).mono ?_); rintro e w3 hy; obtain ⟨rfl, HR3, HK3⟩ := hy.at; obtain ⟨z, hz, hzl⟩ := atR_pos HR3.out; have c1 := HR3.out.c1; rw [hz] at c1; have hz0 : ¬ ((z : Int) < 0) := (by omega); clear hy hz))
    go_ret
    exact r0_ends (o := rpk 0 r) (xs := []) HR3.out (HK2.out.trans HK3.out) (OwnI.nil _ _) (.inl ⟨r, rfl, by unfold rpk; rfl⟩)
  · have hz00 : ((n : Int) == 0) = false := by rw [beq_eq_false_iff_ne]; omega
    obtain ⟨mn, hmn⟩ : ∃ mn, mn = (intS (some r)).1 := ⟨_, rfl⟩
    obtain ⟨s3, hs3⟩ : ∃ s3, s3 = (intS (some r)).2 := ⟨_, rfl⟩
    have HI := Lib.hid fun w4 h => rint_any m C A p (some r) w4 h
    rw [← hmn, ← hs3] at HI
    obtain ⟨W, hW⟩ : ∃ W, W = (byteS s3).1 := ⟨_, rfl⟩
    obtain ⟨s4, hs4⟩ : ∃ s4, s4 = (byteS s3).2 := ⟨_, rfl⟩
    have HB4 := Lib.hid fun w4 h => rbyte_any m C A p s3 w4 h
    rw [← hW, ← hs4] at HB4
    have HF : Hid (s4 = none → rpk n r = none) := Lib.hid fun e => by
      rcases hz : zP r with _ | ⟨y, q1⟩
      · unfold rpk; rw [if_neg h0, hz]; rfl
      · rw [rpk_of h0 hz]
        rw [intS_some hz] at hs3
        rcases q1 with _ | ⟨b, q2⟩
        · rfl
        · rw [hs3] at hs4; rw [hs4] at e; cases e
    have HG : Hid (∀ r4, s4 = some r4 → rpk n r = rpk2 n mn (W :: r4) ∧ ∀ w, RRA w m A C p (some r) → W < 256 ∧ Wf64 mn) := Lib.hid fun r4 e => by
      rcases hz : zP r with _ | ⟨y, q1⟩
      · rw [intS_none hz] at hs3
        rw [hs3] at hs4; rw [hs4] at e; cases e
      · rw [rpk_of h0 hz]
        rw [intS_some hz] at hs3 hmn
        rcases q1 with _ | ⟨b, q2⟩
        · rw [hs3] at hs4; rw [hs4] at e; cases e
        · rw [hs3] at hs4 hW
          have hW : W = b := hW
          have hs4 : s4 = some q2 := hs4
          rw [hs4] at e; injection e with e; subst e
          have hmn : mn = y := hmn
          subst hmn; subst hW
          exact ⟨rfl, fun w1 h1 => ⟨by
            unfold zP at hz
            rcases hg : grp 0 r with _ | ⟨n1, r1⟩
            · rw [hg] at hz; cases hz
            · rw [hg] at hz
              simp only [Option.map_some, Option.some.injEq, Prod.mk.injEq] at hz
              obtain ⟨-, -, k, -, hk, -⟩ := grp_lt _ _ _ _ hg
              exact h1.wf W (List.mem_of_mem_drop (hk ▸ hz.2 ▸ List.mem_cons_self ..)), zP_wf hz h1.wf⟩⟩
    have HNIL : Hid (∀ (s5 : Option (List Nat)) (w9 : World), RRA w9 m A C p s5 → Kept (Only m) w w9 → allOf (rpk n r) = none → RIEnds w m C A p (allOf (rpk n r)) (.returned (.slice none 0 0)) (w9.setCell ⟨m, 1, none⟩ (.int .i64 (-1)))) := Lib.hid fun s5 w9 h1 h2 h3 => by
      rw [h3]
      exact ⟨none, 0, 0, none, rfl, by simp, h1.put (s' := none) (fun q h => by cases h), h2.setCell _ _ (.inl rfl)⟩
    clear hmn hs3 hW hs4
    rcases s4 with _ | r4
    · have HE : Hid (allOf (rpk n r) = none) := Lib.hid (by rw [HF.out rfl]; rfl)
      clear HF HG h0
      go_enter Tryd.func39, Tryd.ntmps39
      go_wp2_with (first
      | (go_at_call 56; (with_reducible refine (HB.out).mono ?_); rintro e w2 hy; obtain ⟨rfl, HR2, HK2⟩ := hy.at; clear hy)
      | (go_at_call 38; (refine (HU.out _ HR2).mono ?_); rintro e w3 hy; obtain ⟨rfl, HR3, HK3⟩ := hy.at; obtain ⟨z, hz, hzl⟩ := atR_pos HR3.out; have c1 := HR3.out.c1; rw [hz] at c1; have hz0 : ¬ ((z : Int) < 0) := (by omega); clear hy hz)
      | (go_at_call 57; (refine (HI.out _ HR3).mono ?_); rintro e w4 hy; obtain ⟨rfl, HR4, HK4⟩ := hy.at; clear hy c1 hz0 hzl)
      | (go_at_call 56; (refine (HB4.out _ HR4).mono ?_); rintro e w5 hy; obtain ⟨rfl, HR5, HK5⟩ := hy.at; clear hy))
      have HKA := Lib.hid (((HK2.out.trans HK3.out).trans HK4.out).trans HK5.out)
      have HC1 : Hid (w5.cell? ⟨m, 1, none⟩ = some (.int .i64 (-1))) := Lib.hid HR5.out.c1
      have f1 := HR5.out.fr 1
      have HLM := Lib.hid HR5.out.lt
      clear HB HU HI HB4 HR2 HK2 HR3 HK3 HR4 HK4 HK5
      have hh0 : Below w5.heap.size w5 w5.drew := (Below.refl _ _).drew
      refine wp_region_held_drew (S := fun w2 => Below w5.heap.size w5 w2) (by kernel_rfl) hh0 (fun hHeld => ?_)
      refine wpAnyH_take (i := 0) (v := .pointer (some ⟨m, 0, none⟩)) rfl (by kernel_rfl) (by kernel_rfl) (by kernel_rfl) (fun _ _ _ h => h) (Or.inl ⟨by rfl, fun _ _ => rfl⟩) hHeld ?_
      try dsimp only
      try simp only [Act.put, List.getElem_toArray, List.getElem_cons_zero, List.getElem_cons_succ, List.setIfInBounds_toArray, List.set_cons_zero, List.set_cons_succ]
      refine wpAnyH_take (i := 1) (v := .pointer (some ⟨m, 0, none⟩)) rfl (by kernel_rfl) (by kernel_rfl) (by kernel_rfl) (fun _ _ _ h => h) (Or.inl ⟨by rfl, fun w _ => by go_simp⟩) hHeld ?_
      try dsimp only
      try simp only [Act.put, List.getElem_toArray, List.getElem_cons_zero, List.getElem_cons_succ, List.setIfInBounds_toArray, List.set_cons_zero, List.set_cons_succ]
      refine wpAnyH_take (i := 2) (v := .pointer (some ⟨m, 1, none⟩)) rfl (by kernel_rfl) (by kernel_rfl) (by kernel_rfl) (fun _ _ _ h => h) (Or.inl ⟨by rfl, fun w _ => by go_simp⟩) hHeld ?_
      try dsimp only
      try simp only [Act.put, List.getElem_toArray, List.getElem_cons_zero, List.getElem_cons_succ, List.setIfInBounds_toArray, List.set_cons_zero, List.set_cons_succ]
      refine wpAnyH_take (i := 3) (v := .int .i64 (-1)) rfl (by kernel_rfl) (by kernel_rfl) (by kernel_rfl) (fun _ _ _ h => h) (Or.inl ⟨by rfl, fun w hw => by have hc : w.cell? ⟨m, 1, none⟩ = some (.int .i64 (-1)) := (hw.cell (p := ⟨m, 1, none⟩) HLM.out).trans HC1.out; go_simp⟩) hHeld ?_
      try dsimp only
      try simp only [Act.put, List.getElem_toArray, List.getElem_cons_zero, List.getElem_cons_succ, List.setIfInBounds_toArray, List.set_cons_zero, List.set_cons_succ]
      refine wpAnyH_take (i := 4) (v := .bool true) rfl (by kernel_rfl) (by kernel_rfl) (by kernel_rfl) (fun _ _ _ h => h) (yb_bin rfl .lss 3 3 (.tmp 46) (.const (.int .i64 0)) rfl _ _ _ rfl rfl (fun _ => rfl) (b_lss _ _ true (by simp))) hHeld ?_
      try dsimp only
      try simp only [Act.put, List.getElem_toArray, List.getElem_cons_zero, List.getElem_cons_succ, List.setIfInBounds_toArray, List.set_cons_zero, List.set_cons_succ]
      refine wpAnyH_take (i := 5) (v := .bool true) rfl (by kernel_rfl) (by kernel_rfl) (by kernel_rfl) (fun _ _ _ h => h) (Or.inl ⟨by rfl, fun _ _ => rfl⟩) hHeld ?_
      try dsimp only
      try simp only [Act.put, List.getElem_toArray, List.getElem_cons_zero, List.getElem_cons_succ, List.setIfInBounds_toArray, List.set_cons_zero, List.set_cons_succ]
      refine wpAnyH_take (i := 6) (v := undef) rfl (by kernel_rfl) (by kernel_rfl) (by kernel_rfl) (fun _ _ _ h => h) (Or.inr ⟨by rfl, rfl⟩) hHeld ?_
      try dsimp only
      try simp only [Act.put, List.getElem_toArray, List.getElem_cons_zero, List.getElem_cons_succ, List.setIfInBounds_toArray, List.set_cons_zero, List.set_cons_succ]
      refine wpAnyH_take (i := 7) (v := undef) rfl (by kernel_rfl) (by kernel_rfl) (by kernel_rfl) (fun _ _ _ h => h) (Or.inr ⟨by rfl, rfl⟩) hHeld ?_
      try dsimp only
      try simp only [Act.put, List.getElem_toArray, List.getElem_cons_zero, List.getElem_cons_succ, List.setIfInBounds_toArray, List.set_cons_zero, List.set_cons_succ]
      refine wpAnyH_take (i := 8) (v := .bool true) rfl (by kernel_rfl) (by kernel_rfl) (by kernel_rfl) (fun _ _ _ h => h) (yb_pick rfl (.tmp 48) (.const (.bool true)) (.tmp 50) rfl true _ rfl rfl) hHeld ?_
      try dsimp only
      try simp only [Act.put, List.getElem_toArray, List.getElem_cons_zero, List.getElem_cons_succ, List.setIfInBounds_toArray, List.set_cons_zero, List.set_cons_succ]
      refine wpAnyH_take (i := 9) (v := .bool true) rfl (by kernel_rfl) (by kernel_rfl) (by kernel_rfl) (fun _ _ _ h => h) (Or.inl ⟨by rfl, fun _ _ => rfl⟩) hHeld ?_
      try dsimp only
      try simp only [Act.put, List.getElem_toArray, List.getElem_cons_zero, List.getElem_cons_succ, List.setIfInBounds_toArray, List.set_cons_zero, List.set_cons_succ]
      refine wpAnyH_take (i := 10) (v := undef) rfl (by kernel_rfl) (by kernel_rfl) (by kernel_rfl) (fun _ _ _ h => h) (Or.inr ⟨by rfl, rfl⟩) hHeld ?_
      try dsimp only
      try simp only [Act.put, List.getElem_toArray, List.getElem_cons_zero, List.getElem_cons_succ, List.setIfInBounds_toArray, List.set_cons_zero, List.set_cons_succ]
      refine wpAnyH_take (i := 11) (v := undef) rfl (by kernel_rfl) (by kernel_rfl) (by kernel_rfl) (fun _ _ _ h => h) (Or.inr ⟨by rfl, rfl⟩) hHeld ?_
      try dsimp only
      try simp only [Act.put, List.getElem_toArray, List.getElem_cons_zero, List.getElem_cons_succ, List.setIfInBounds_toArray, List.set_cons_zero, List.set_cons_succ]
      refine wpAnyH_take (i := 12) (v := undef) rfl (by kernel_rfl) (by kernel_rfl) (by kernel_rfl) (fun _ _ _ h => h) (Or.inr ⟨by rfl, rfl⟩) hHeld ?_
      try dsimp only
      try simp only [Act.put, List.getElem_toArray, List.getElem_cons_zero, List.getElem_cons_succ, List.setIfInBounds_toArray, List.set_cons_zero, List.set_cons_succ]
      refine wpAnyH_take (i := 13) (v := undef) rfl (by kernel_rfl) (by kernel_rfl) (by kernel_rfl) (fun _ _ _ h => h) (Or.inr ⟨by rfl, rfl⟩) hHeld ?_
      try dsimp only
      try simp only [Act.put, List.getElem_toArray, List.getElem_cons_zero, List.getElem_cons_succ, List.setIfInBounds_toArray, List.set_cons_zero, List.set_cons_succ]
      refine wpAnyH_take (i := 14) (v := undef) rfl (by kernel_rfl) (by kernel_rfl) (by kernel_rfl) (fun _ _ _ h => h) (Or.inr ⟨by rfl, rfl⟩) hHeld ?_
      try dsimp only
      try simp only [Act.put, List.getElem_toArray, List.getElem_cons_zero, List.getElem_cons_succ, List.setIfInBounds_toArray, List.set_cons_zero, List.set_cons_succ]
      refine wpAnyH_take (i := 15) (v := undef) rfl (by kernel_rfl) (by kernel_rfl) (by kernel_rfl) (fun _ _ _ h => h) (Or.inr ⟨by rfl, rfl⟩) hHeld ?_
      try dsimp only
      try simp only [Act.put, List.getElem_toArray, List.getElem_cons_zero, List.getElem_cons_succ, List.setIfInBounds_toArray, List.set_cons_zero, List.set_cons_succ]
      refine wpAnyH_take (i := 16) (v := undef) rfl (by kernel_rfl) (by kernel_rfl) (by kernel_rfl) (fun _ _ _ h => h) (Or.inr ⟨by rfl, rfl⟩) hHeld ?_
      try dsimp only
      try simp only [Act.put, List.getElem_toArray, List.getElem_cons_zero, List.getElem_cons_succ, List.setIfInBounds_toArray, List.set_cons_zero, List.set_cons_succ]
      refine wpAnyH_take (i := 17) (v := undef) rfl (by kernel_rfl) (by kernel_rfl) (by kernel_rfl) (fun _ _ _ h => h) (Or.inr ⟨by rfl, rfl⟩) hHeld ?_
      try dsimp only
      try simp only [Act.put, List.getElem_toArray, List.getElem_cons_zero, List.getElem_cons_succ, List.setIfInBounds_toArray, List.set_cons_zero, List.set_cons_succ]
      refine wpAnyH_take (i := 18) (v := undef) rfl (by kernel_rfl) (by kernel_rfl) (by kernel_rfl) (fun _ _ _ h => h) (Or.inr ⟨by rfl, rfl⟩) hHeld ?_
      try dsimp only
      try simp only [Act.put, List.getElem_toArray, List.getElem_cons_zero, List.getElem_cons_succ, List.setIfInBounds_toArray, List.set_cons_zero, List.set_cons_succ]
      refine wpAnyH_take (i := 19) (v := undef) rfl (by kernel_rfl) (by kernel_rfl) (by kernel_rfl) (fun _ _ _ h => h) (Or.inr ⟨by rfl, rfl⟩) hHeld ?_
      try dsimp only
      try simp only [Act.put, List.getElem_toArray, List.getElem_cons_zero, List.getElem_cons_succ, List.setIfInBounds_toArray, List.set_cons_zero, List.set_cons_succ]
      refine wpAnyH_take (i := 20) (v := undef) rfl (by kernel_rfl) (by kernel_rfl) (by kernel_rfl) (fun _ _ _ h => h) (Or.inr ⟨by rfl, rfl⟩) hHeld ?_
      try dsimp only
      try simp only [Act.put, List.getElem_toArray, List.getElem_cons_zero, List.getElem_cons_succ, List.setIfInBounds_toArray, List.set_cons_zero, List.set_cons_succ]
      refine wpAnyH_take (i := 21) (v := undef) rfl (by kernel_rfl) (by kernel_rfl) (by kernel_rfl) (fun _ _ _ h => h) (Or.inr ⟨by rfl, rfl⟩) hHeld ?_
      try dsimp only
      try simp only [Act.put, List.getElem_toArray, List.getElem_cons_zero, List.getElem_cons_succ, List.setIfInBounds_toArray, List.set_cons_zero, List.set_cons_succ]
      refine wpAnyH_take (i := 22) (v := undef) rfl (by kernel_rfl) (by kernel_rfl) (by kernel_rfl) (fun _ _ _ h => h) (Or.inr ⟨by rfl, rfl⟩) hHeld ?_
      try dsimp only
      try simp only [Act.put, List.getElem_toArray, List.getElem_cons_zero, List.getElem_cons_succ, List.setIfInBounds_toArray, List.set_cons_zero, List.set_cons_succ]
      refine wpAnyH_take (i := 23) (v := undef) rfl (by kernel_rfl) (by kernel_rfl) (by kernel_rfl) (fun _ _ _ h => h) (Or.inr ⟨by rfl, rfl⟩) hHeld ?_
      try dsimp only
      try simp only [Act.put, List.getElem_toArray, List.getElem_cons_zero, List.getElem_cons_succ, List.setIfInBounds_toArray, List.set_cons_zero, List.set_cons_succ]
      refine wpAnyH_take (i := 24) (v := undef) rfl (by kernel_rfl) (by kernel_rfl) (by kernel_rfl) (fun _ _ _ h => h) (Or.inr ⟨by rfl, rfl⟩) hHeld ?_
      try dsimp only
      try simp only [Act.put, List.getElem_toArray, List.getElem_cons_zero, List.getElem_cons_succ, List.setIfInBounds_toArray, List.set_cons_zero, List.set_cons_succ]
      refine wpAnyH_take (i := 25) (v := undef) rfl (by kernel_rfl) (by kernel_rfl) (by kernel_rfl) (fun _ _ _ h => h) (Or.inr ⟨by rfl, rfl⟩) hHeld ?_
      try dsimp only
      try simp only [Act.put, List.getElem_toArray, List.getElem_cons_zero, List.getElem_cons_succ, List.setIfInBounds_toArray, List.set_cons_zero, List.set_cons_succ]
      refine wpAnyH_take (i := 26) (v := .bool true) rfl (by kernel_rfl) (by kernel_rfl) (by kernel_rfl) (fun _ _ _ h => h) (yb_pick rfl (.tmp 52) (.const (.bool true)) (.tmp 68) rfl true _ rfl rfl) hHeld ?_
      try dsimp only
      try simp only [Act.put, List.getElem_toArray, List.getElem_cons_zero, List.getElem_cons_succ, List.setIfInBounds_toArray, List.set_cons_zero, List.set_cons_succ]
      refine wpAnyH_done (by kernel_rfl) ?_ _
      have c1 := HC1.out
      go_wp2
      go_ret
      exact HNIL.out _ _ HR5.out.drew HKA.out.drew HE.out
    · obtain ⟨hrp, HWF⟩ := HG.out r4 rfl
      have HRP := Lib.hid hrp
      have HWF := Lib.hid HWF
      clear HF HG h0 hrp
      go_enter Tryd.func39, Tryd.ntmps39
      go_wp2_with (first
      | (go_at_call 56; (with_reducible refine (HB.out).mono ?_); rintro e w2 hy; obtain ⟨rfl, HR2, HK2⟩ := hy.at; clear hy)
      | (go_at_call 38; (refine (HU.out _ HR2).mono ?_); rintro e w3 hy; obtain ⟨rfl, HR3, HK3⟩ := hy.at; obtain ⟨z1, hz1, hzl1⟩ := atR_pos HR3.out; have c1 := HR3.out.c1; rw [hz1] at c1; have hz0 : ¬ ((z1 : Int) < 0) := (by omega); obtain ⟨hw256, hmnw⟩ := HWF.out _ HR3.out; have HMN := Lib.hid hmnw; have hwi : IntKind.i64.wrap (W : Int) = (W : Int) := (by rw [IntKind.wrap_i64]; omega); clear hy hz1 hmnw)
      | (go_at_call 57; (refine (HI.out _ HR3).mono ?_); rintro e w4 hy; obtain ⟨rfl, HR4, HK4⟩ := hy.at; clear hy c1 hz0 hzl1)
      | (go_at_call 56; (refine (HB4.out _ HR4).mono ?_); rintro e w5 hy; obtain ⟨rfl, HR5, HK5⟩ := hy.at; clear hy))
      have hd1 : decide ((z1 : Int) < 0) = false := decide_eq_false (by omega)
      rw [hd1]
      clear hd1
      have HKA := Lib.hid (((HK2.out.trans HK3.out).trans HK4.out).trans HK5.out)
      obtain ⟨z, hz, hzl⟩ := atR_pos HR5.out
      have c1 := HR5.out.c1
      rw [hz] at c1
      have HC1 := Lib.hid c1
      have f1 := HR5.out.fr 1
      have HLM := Lib.hid HR5.out.lt
      obtain ⟨LP, hLP⟩ : ∃ LP, LP = p.length := ⟨_, rfl⟩
      have c0 := HR5.out.c0
      rw [← hLP] at c0 hzl
      have hLPB : LP ≤ 1000000 := by rw [hLP]; exact HR5.out.small
      have HZL := Lib.hid hzl
      clear HB HU HI HB4 HR2 HK2 HR3 HK3 HR4 HK4 HK5 HWF c1
      by_cases hW : W ≤ 64
      · have HWB : Hid (decide ((64 : Int) < (W : Int)) = false) := Lib.hid (decide_eq_false (by omega))
        have hMW : n * W ≤ 262144 := by
          have : n * W ≤ 4096 * 64 := Nat.mul_le_mul hn hW
          omega
        obtain ⟨MW, hMWe⟩ : ∃ MW, MW = n * W := ⟨_, rfl⟩
        obtain ⟨M7, hM7⟩ : ∃ M7, M7 = MW + 7 := ⟨_, rfl⟩
        obtain ⟨M8, hM8⟩ : ∃ M8, M8 = M7 / 8 := ⟨_, rfl⟩
        obtain ⟨DZ, hDZ⟩ : ∃ DZ, DZ = LP - z := ⟨_, rfl⟩
        have hMWb : MW ≤ 262144 := by omega
        have HMB : Hid (∀ w9 : World, (binOp .mul 3 (.int .i64 (n : Int)) (.int .i64 (W : Int))).run Tryd.prog w9 = .ok (.int .i64 (MW : Int)) w9) := Lib.hid fun w9 => by rw [hMWe]; exact b_mulN n W (by omega) w9
        have HMC : Hid (∀ w9 : World, (binOp .add 3 (.int .i64 (MW : Int)) (.int .i64 7)).run Tryd.prog w9 = .ok (.int .i64 (M7 : Int)) w9) := Lib.hid fun w9 => by rw [hM7]; exact b_addN MW 7 (by omega) w9
        have HMD : Hid (∀ w9 : World, (binOp .quo 3 (.int .i64 (M7 : Int)) (.int .i64 8)).run Tryd.prog w9 = .ok (.int .i64 (M8 : Int)) w9) := Lib.hid fun w9 => by rw [hM8]; exact b_quo8 M7 (by omega) w9
        have HDZ : Hid (∀ w9 : World, (binOp .sub 3 (.int .i64 (LP : Int)) (.int .i64 (z : Int))).run Tryd.prog w9 = .ok (.int .i64 (DZ : Int)) w9) := Lib.hid fun w9 => by rw [hDZ]; exact b_subN LP z (by omega) (by omega) w9
        have HM8 : Hid (M8 = (n * W + 7) / 8 ∧ DZ = LP - z) := Lib.hid ⟨by rw [hM8, hM7, hMWe], hDZ⟩
        obtain ⟨dif, hdif⟩ : ∃ dif, (DZ != M8) = dif := ⟨_, rfl⟩
        have HDIF := Lib.hid hdif
        have HLPE := Lib.hid hLP
        have HMW := Lib.hid hMW
        -- p has something
        have h0p : 0 < p.length := by
          obtain ⟨k0, hk0, hq0⟩ := H.out.suf _ rfl
          rcases p with _ | ⟨p0, p1⟩
          · simp at hq0
          · simp
        obtain ⟨g, off, hA, hg, hcells⟩ : ∃ g off, A = some ⟨g, off, none⟩ ∧ g < w5.heap.size ∧ ∀ (j x : Nat), p[j]? = some x → w5.cell? ⟨g, off + j, none⟩ = some (.int .u8 (x : Int)) := by
          obtain ⟨-, g, off, e, hg, -⟩ := HR5.out.bytes 0 (p[0]'h0p) (List.getElem?_eq_getElem h0p)
          refine ⟨g, off, e, hg, fun j x hx => ?_⟩
          obtain ⟨-, g', off', e', -, hc⟩ := HR5.out.bytes j x hx
          rw [e] at e'; injection e' with e'; injection e' with e1 e2; subst e1; subst e2; exact hc
        subst hA
        have HC0 := Lib.hid c0
        have HG := Lib.hid hg
        have HCELLS := Lib.hid hcells
        clear hg hcells h0p hdif c0 hMWe hM7 hM8 hDZ hLP hMWb hMW
        have hh0 : Below w5.heap.size w5 w5.drew := (Below.refl _ _).drew
        refine wp_region_held_drew (S := fun w2 => Below w5.heap.size w5 w2) (by kernel_rfl) hh0 (fun hHeld => ?_)
        refine wpAnyH_take (i := 0) (v := .pointer (some ⟨m, 0, none⟩)) rfl (by kernel_rfl) (by kernel_rfl) (by kernel_rfl) (fun _ _ _ h => h) (Or.inl ⟨by rfl, fun _ _ => rfl⟩) hHeld ?_
        try dsimp only
        try simp only [Act.put, List.getElem_toArray, List.getElem_cons_zero, List.getElem_cons_succ, List.setIfInBounds_toArray, List.set_cons_zero, List.set_cons_succ]
        refine wpAnyH_take (i := 1) (v := .pointer (some ⟨m, 0, none⟩)) rfl (by kernel_rfl) (by kernel_rfl) (by kernel_rfl) (fun _ _ _ h => h) (Or.inl ⟨by rfl, fun w _ => by go_simp⟩) hHeld ?_
        try dsimp only
        try simp only [Act.put, List.getElem_toArray, List.getElem_cons_zero, List.getElem_cons_succ, List.setIfInBounds_toArray, List.set_cons_zero, List.set_cons_succ]
        refine wpAnyH_take (i := 2) (v := .pointer (some ⟨m, 1, none⟩)) rfl (by kernel_rfl) (by kernel_rfl) (by kernel_rfl) (fun _ _ _ h => h) (Or.inl ⟨by rfl, fun w _ => by go_simp⟩) hHeld ?_
        try dsimp only
        try simp only [Act.put, List.getElem_toArray, List.getElem_cons_zero, List.getElem_cons_succ, List.setIfInBounds_toArray, List.set_cons_zero, List.set_cons_succ]
        refine wpAnyH_take (i := 3) (v := .int .i64 (z : Int)) rfl (by kernel_rfl) (by kernel_rfl) (by kernel_rfl) (fun _ _ _ h => h) (Or.inl ⟨by rfl, fun w hw => by have hc : w.cell? ⟨m, 1, none⟩ = some (.int .i64 (z : Int)) := (hw.cell (p := ⟨m, 1, none⟩) HLM.out).trans HC1.out; go_simp⟩) hHeld ?_
        try dsimp only
        try simp only [Act.put, List.getElem_toArray, List.getElem_cons_zero, List.getElem_cons_succ, List.setIfInBounds_toArray, List.set_cons_zero, List.set_cons_succ]
        refine wpAnyH_take (i := 4) (v := .bool false) rfl (by kernel_rfl) (by kernel_rfl) (by kernel_rfl) (fun _ _ _ h => h) (yb_bin rfl .lss 3 3 (.tmp 46) (.const (.int .i64 0)) rfl _ _ _ rfl rfl (fun _ => rfl) (b_lss _ _ false (by simp))) hHeld ?_
        try dsimp only
        try simp only [Act.put, List.getElem_toArray, List.getElem_cons_zero, List.getElem_cons_succ, List.setIfInBounds_toArray, List.set_cons_zero, List.set_cons_succ]
        refine wpAnyH_take (i := 5) (v := .bool false) rfl (by kernel_rfl) (by kernel_rfl) (by kernel_rfl) (fun _ _ _ h => h) (Or.inl ⟨by rfl, fun _ _ => rfl⟩) hHeld ?_
        try dsimp only
        try simp only [Act.put, List.getElem_toArray, List.getElem_cons_zero, List.getElem_cons_succ, List.setIfInBounds_toArray, List.set_cons_zero, List.set_cons_succ]
        refine wpAnyH_take (i := 6) (v := .int .i64 (W : Int)) rfl (by kernel_rfl) (by kernel_rfl) (by kernel_rfl) (fun _ _ _ h => h) (Or.inl ⟨by rfl, fun _ _ => rfl⟩) hHeld ?_
        try dsimp only
        try simp only [Act.put, List.getElem_toArray, List.getElem_cons_zero, List.getElem_cons_succ, List.setIfInBounds_toArray, List.set_cons_zero, List.set_cons_succ]
        refine wpAnyH_take (i := 7) (v := .bool false) rfl (by kernel_rfl) (by kernel_rfl) (by kernel_rfl) (fun _ _ _ h => h) (yb_bin rfl .gtr 3 3 (.tmp 49) (.const (.int .i64 64)) rfl _ _ _ rfl rfl (fun _ => rfl) (b_gtr _ _ false HWB.out)) hHeld ?_
        try dsimp only
        try simp only [Act.put, List.getElem_toArray, List.getElem_cons_zero, List.getElem_cons_succ, List.setIfInBounds_toArray, List.set_cons_zero, List.set_cons_succ]
        refine wpAnyH_take (i := 8) (v := .bool false) rfl (by kernel_rfl) (by kernel_rfl) (by kernel_rfl) (fun _ _ _ h => h) (yb_pick rfl (.tmp 48) (.const (.bool true)) (.tmp 50) rfl false _ rfl rfl) hHeld ?_
        try dsimp only
        try simp only [Act.put, List.getElem_toArray, List.getElem_cons_zero, List.getElem_cons_succ, List.setIfInBounds_toArray, List.set_cons_zero, List.set_cons_succ]
        refine wpAnyH_take (i := 9) (v := .bool false) rfl (by kernel_rfl) (by kernel_rfl) (by kernel_rfl) (fun _ _ _ h => h) (Or.inl ⟨by rfl, fun _ _ => rfl⟩) hHeld ?_
        try dsimp only
        try simp only [Act.put, List.getElem_toArray, List.getElem_cons_zero, List.getElem_cons_succ, List.setIfInBounds_toArray, List.set_cons_zero, List.set_cons_succ]
        refine wpAnyH_take (i := 10) (v := .pointer (some ⟨m, 0, none⟩)) rfl (by kernel_rfl) (by kernel_rfl) (by kernel_rfl) (fun _ _ _ h => h) (Or.inl ⟨by rfl, fun _ _ => rfl⟩) hHeld ?_
        try dsimp only
        try simp only [Act.put, List.getElem_toArray, List.getElem_cons_zero, List.getElem_cons_succ, List.setIfInBounds_toArray, List.set_cons_zero, List.set_cons_succ]
        refine wpAnyH_take (i := 11) (v := .pointer (some ⟨m, 0, none⟩)) rfl (by kernel_rfl) (by kernel_rfl) (by kernel_rfl) (fun _ _ _ h => h) (Or.inl ⟨by rfl, fun w _ => by go_simp⟩) hHeld ?_
        try dsimp only
        try simp only [Act.put, List.getElem_toArray, List.getElem_cons_zero, List.getElem_cons_succ, List.setIfInBounds_toArray, List.set_cons_zero, List.set_cons_succ]
        refine wpAnyH_take (i := 12) (v := .pointer (some ⟨m, 0, none⟩)) rfl (by kernel_rfl) (by kernel_rfl) (by kernel_rfl) (fun _ _ _ h => h) (Or.inl ⟨by rfl, fun w _ => by go_simp⟩) hHeld ?_
        try dsimp only
        try simp only [Act.put, List.getElem_toArray, List.getElem_cons_zero, List.getElem_cons_succ, List.setIfInBounds_toArray, List.set_cons_zero, List.set_cons_succ]
        refine wpAnyH_take (i := 13) (v := .slice (some ⟨g, off, none⟩) LP C) rfl (by kernel_rfl) (by kernel_rfl) (by kernel_rfl) (fun _ _ _ h => h) (Or.inl ⟨by rfl, fun w hw => by have hc : w.cell? ⟨m, 0, none⟩ = some (.slice (some ⟨g, off, none⟩) LP C) := (hw.cell (p := ⟨m, 0, none⟩) HLM.out).trans HC0.out; go_simp⟩) hHeld ?_
        try dsimp only
        try simp only [Act.put, List.getElem_toArray, List.getElem_cons_zero, List.getElem_cons_succ, List.setIfInBounds_toArray, List.set_cons_zero, List.set_cons_succ]
        refine wpAnyH_take (i := 14) (v := .int .i64 (LP : Int)) rfl (by kernel_rfl) (by kernel_rfl) (by kernel_rfl) (fun _ _ _ h => h) (yb_lenb rfl (.tmp 56) rfl _ _ _ rfl) hHeld ?_
        try dsimp only
        try simp only [Act.put, List.getElem_toArray, List.getElem_cons_zero, List.getElem_cons_succ, List.setIfInBounds_toArray, List.set_cons_zero, List.set_cons_succ]
        refine wpAnyH_take (i := 15) (v := .pointer (some ⟨m, 0, none⟩)) rfl (by kernel_rfl) (by kernel_rfl) (by kernel_rfl) (fun _ _ _ h => h) (Or.inl ⟨by rfl, fun _ _ => rfl⟩) hHeld ?_
        try dsimp only
        try simp only [Act.put, List.getElem_toArray, List.getElem_cons_zero, List.getElem_cons_succ, List.setIfInBounds_toArray, List.set_cons_zero, List.set_cons_succ]
        refine wpAnyH_take (i := 16) (v := .pointer (some ⟨m, 0, none⟩)) rfl (by kernel_rfl) (by kernel_rfl) (by kernel_rfl) (fun _ _ _ h => h) (Or.inl ⟨by rfl, fun w _ => by go_simp⟩) hHeld ?_
        try dsimp only
        try simp only [Act.put, List.getElem_toArray, List.getElem_cons_zero, List.getElem_cons_succ, List.setIfInBounds_toArray, List.set_cons_zero, List.set_cons_succ]
        refine wpAnyH_take (i := 17) (v := .pointer (some ⟨m, 1, none⟩)) rfl (by kernel_rfl) (by kernel_rfl) (by kernel_rfl) (fun _ _ _ h => h) (Or.inl ⟨by rfl, fun w _ => by go_simp⟩) hHeld ?_
        try dsimp only
        try simp only [Act.put, List.getElem_toArray, List.getElem_cons_zero, List.getElem_cons_succ, List.setIfInBounds_toArray, List.set_cons_zero, List.set_cons_succ]
        refine wpAnyH_take (i := 18) (v := .int .i64 (z : Int)) rfl (by kernel_rfl) (by kernel_rfl) (by kernel_rfl) (fun _ _ _ h => h) (Or.inl ⟨by rfl, fun w hw => by have hc : w.cell? ⟨m, 1, none⟩ = some (.int .i64 (z : Int)) := (hw.cell (p := ⟨m, 1, none⟩) HLM.out).trans HC1.out; go_simp⟩) hHeld ?_
        try dsimp only
        try simp only [Act.put, List.getElem_toArray, List.getElem_cons_zero, List.getElem_cons_succ, List.setIfInBounds_toArray, List.set_cons_zero, List.set_cons_succ]
        refine wpAnyH_take (i := 19) (v := .int .i64 (DZ : Int)) rfl (by kernel_rfl) (by kernel_rfl) (by kernel_rfl) (fun _ _ _ h => h) (yb_bin rfl .sub 3 3 (.tmp 57) (.tmp 61) rfl _ _ _ rfl rfl (fun _ => rfl) HDZ.out) hHeld ?_
        try dsimp only
        try simp only [Act.put, List.getElem_toArray, List.getElem_cons_zero, List.getElem_cons_succ, List.setIfInBounds_toArray, List.set_cons_zero, List.set_cons_succ]
        refine wpAnyH_take (i := 20) (v := .int .i64 (n : Int)) rfl (by kernel_rfl) (by kernel_rfl) (by kernel_rfl) (fun _ _ _ h => h) (Or.inl ⟨by rfl, fun _ _ => rfl⟩) hHeld ?_
        try dsimp only
        try simp only [Act.put, List.getElem_toArray, List.getElem_cons_zero, List.getElem_cons_succ, List.setIfInBounds_toArray, List.set_cons_zero, List.set_cons_succ]
        refine wpAnyH_take (i := 21) (v := .int .i64 (W : Int)) rfl (by kernel_rfl) (by kernel_rfl) (by kernel_rfl) (fun _ _ _ h => h) (Or.inl ⟨by rfl, fun _ _ => rfl⟩) hHeld ?_
        try dsimp only
        try simp only [Act.put, List.getElem_toArray, List.getElem_cons_zero, List.getElem_cons_succ, List.setIfInBounds_toArray, List.set_cons_zero, List.set_cons_succ]
        refine wpAnyH_take (i := 22) (v := .int .i64 (MW : Int)) rfl (by kernel_rfl) (by kernel_rfl) (by kernel_rfl) (fun _ _ _ h => h) (yb_bin rfl .mul 3 3 (.tmp 63) (.tmp 64) rfl _ _ _ rfl rfl (fun _ => rfl) HMB.out) hHeld ?_
        try dsimp only
        try simp only [Act.put, List.getElem_toArray, List.getElem_cons_zero, List.getElem_cons_succ, List.setIfInBounds_toArray, List.set_cons_zero, List.set_cons_succ]
        refine wpAnyH_take (i := 23) (v := .int .i64 (M7 : Int)) rfl (by kernel_rfl) (by kernel_rfl) (by kernel_rfl) (fun _ _ _ h => h) (yb_bin rfl .add 3 3 (.tmp 65) (.const (.int .i64 7)) rfl _ _ _ rfl rfl (fun _ => rfl) HMC.out) hHeld ?_
        try dsimp only
        try simp only [Act.put, List.getElem_toArray, List.getElem_cons_zero, List.getElem_cons_succ, List.setIfInBounds_toArray, List.set_cons_zero, List.set_cons_succ]
        refine wpAnyH_take (i := 24) (v := .int .i64 (M8 : Int)) rfl (by kernel_rfl) (by kernel_rfl) (by kernel_rfl) (fun _ _ _ h => h) (yb_bin rfl .quo 3 3 (.tmp 66) (.const (.int .i64 8)) rfl _ _ _ rfl rfl (fun _ => rfl) HMD.out) hHeld ?_
        try dsimp only
        try simp only [Act.put, List.getElem_toArray, List.getElem_cons_zero, List.getElem_cons_succ, List.setIfInBounds_toArray, List.set_cons_zero, List.set_cons_succ]
        refine wpAnyH_take (i := 25) (v := .bool dif) rfl (by kernel_rfl) (by kernel_rfl) (by kernel_rfl) (fun _ _ _ h => h) (yb_bin rfl .neq 3 3 (.tmp 62) (.tmp 67) rfl _ _ _ rfl rfl (fun _ => rfl) (b_neqN DZ M8 dif HDIF.out)) hHeld ?_
        try dsimp only
        try simp only [Act.put, List.getElem_toArray, List.getElem_cons_zero, List.getElem_cons_succ, List.setIfInBounds_toArray, List.set_cons_zero, List.set_cons_succ]
        refine wpAnyH_take (i := 26) (v := .bool dif) rfl (by kernel_rfl) (by kernel_rfl) (by kernel_rfl) (fun _ _ _ h => h) (yb_pick rfl (.tmp 52) (.const (.bool true)) (.tmp 68) rfl false _ rfl rfl) hHeld ?_
        try dsimp only
        try simp only [Act.put, List.getElem_toArray, List.getElem_cons_zero, List.getElem_cons_succ, List.setIfInBounds_toArray, List.set_cons_zero, List.set_cons_succ]
        refine wpAnyH_done (by kernel_rfl) ?_ _
        clear hHeld hh0
        have HRD := Lib.hid HR5.out.drew
        have HKD := Lib.hid HKA.out.drew
        cases dif
        · have hK : r4.length = (n * W + 7) / 8 := by
            have := HDIF.out
            rw [bne_eq_false_iff_eq] at this; have := HZL.out; have := HM8.out; omega
          have hr4 := HR5.out.wf
          obtain ⟨V, hVe⟩ : ∃ V, V = vlb r4 := ⟨_, rfl⟩
          have hLEB : r4 = leb r4.length V := by rw [hVe]; exact (leb_vlb r4 hr4).symm
          have HV : Hid (V < 2 ^ (8 * r4.length)) := Lib.hid (by rw [hVe]; exact vlb_lt r4 hr4)
          obtain ⟨K, hKd⟩ : ∃ K, K = r4.length := ⟨_, rfl⟩
          rw [← hKd] at hK HV hLEB
          have HBYTE : Hid (∀ j, j < K → w5.cell? ⟨g, off + (z + j), none⟩ = some (.int .u8 ((V / 2 ^ (8 * j) % 256 : Nat) : Int))) := Lib.hid fun j hj => by
            refine HCELLS.out (z + j) _ ?_
            obtain ⟨k5, hk5, hs5⟩ := HR5.out.suf _ rfl
            have hz5 : k5 = z := by have := congrArg List.length hs5; rw [List.length_drop] at this; have := HZL.out; have := HLPE.out; omega
            have h6 := leb_get K V j hj
            rw [← hLEB, hs5, List.getElem?_drop, hz5] at h6
            exact h6
          have HRES : Hid (rpk n r = if V < 2 ^ (n * W) then some ((List.range n).map (pval W V mn), []) else none) := Lib.hid (by
            rw [HRP.out, rpk2, ← hK, hKd, List.take_length, List.drop_length, ← hVe]
            by_cases hv : V < 2 ^ (n * W)
            · rw [if_pos ⟨hW, Nat.le_refl _, hv⟩, if_pos hv]
            · rw [if_neg (fun h => hv h.2.2), if_neg hv])
          have hKb : K ≤ 32769 := by have := HMW.out; omega
          have HKK := Lib.hid hK
          have HKD2 := Lib.hid hKd
          clear hr4 hVe hLEB hK hKd HDIF
          have HST : Hid (R3 w m C (some ⟨g, off, none⟩) p r4 n W V mn (.slice none 0 0) (.int .i64 0) (.int .i64 0) w5.drew) := Lib.hid ⟨0, 0, none, 0, Nat.zero_le _, rfl, by rw [Nat.zero_mul], rfl, rfl, OwnI.nil _ _, HRD.out, HKD.out⟩
          go_wp2
          go_loopw [5, 14, 15] (fun u a v wr => R3 w m C (some ⟨g, off, none⟩) p r4 n W V mn u a v wr) (fun _ _ v _ => n - (intOf v).toNat)
          case atStart => exact HST.out
          case round =>
            obtain ⟨i, T0, A', cap', hi, rfl, hT0, rfl, rfl, ho, hr, hkp⟩ := hrel
            have HO := Lib.hid ho; have HR := Lib.hid hr; have HK := Lib.hid hkp; have HT0 := Lib.hid hT0
            clear ho hr hkp hT0 HST
            by_cases hin : i < n
            · have hTW : T0 + W ≤ n * W := by
                have : (i + 1) * W ≤ n * W := Nat.mul_le_mul_right _ (by omega)
                rw [Nat.add_mul, Nat.one_mul, ← HT0.out] at this; exact this
              obtain ⟨wo, hwo⟩ : ∃ wo, wo = wr := ⟨_, rfl⟩
              subst hwo
              have HST2 : Hid (R3i wo V T0 W m C (some ⟨g, off, none⟩) p r4 (.int .i64 (T0 : Int)) (.int .u64 0) (.int .i64 0) wo) := Lib.hid ⟨0, T0, 0, Nat.zero_le _, rfl, rfl, rfl, by rw [bits_zero], rfl, HR.out, Below.refl _ _⟩
              go_wp2
              go_loopw [14, 16, 17] (fun a x v wk => R3i wo V T0 W m C (some ⟨g, off, none⟩) p r4 a x v wk) (fun _ _ v _ => W - (intOf v).toNat)
              case atStart => exact HST2.out
              case round =>
                obtain ⟨k, T, X, hk, rfl, hT, rfl, hX, rfl, hr, hb⟩ := hrel
                have HRR := Lib.hid hr; have HBB := Lib.hid hb; have HX := Lib.hid hX; have HT := Lib.hid hT
                clear hr hb hX HST2
                have hTb : T ≤ 300000 := by have := HMW.out; omega
                by_cases hkW : k < W
                · have hTK : T < n * W := by omega
                  have hT8 : T / 8 < K := by have := HKK.out; omega
                  obtain ⟨b, hb⟩ : ∃ b, b = V / 2 ^ (8 * (T / 8)) % 256 := ⟨_, rfl⟩
                  have hb256 : b < 256 := by omega
                  have HBE := Lib.hid hb
                  have HLMR := Lib.hid HRR.out.lt
                  have HR0 : Hid (wr.cell? ⟨m, 0, none⟩ = some (.slice (some ⟨g, off, none⟩) LP C)) := Lib.hid (by have := HRR.out.c0; rw [← HLPE.out] at this; exact this)
                  have HR1 : Hid (wr.cell? ⟨m, 1, none⟩ = some (.int .i64 (z : Int))) := Lib.hid (by have := HRR.out.c1; rw [hz] at this; exact this)
                  have HTB : Hid (T ≤ 1000000) := Lib.hid (by omega)
                  have HZB : Hid (z + T / 8 ≤ 100000000) := Lib.hid (by have := HZL.out; omega)
                  have HZL2 : Hid (z + T / 8 < LP) := Lib.hid (by have := HZL.out; have := HKD2.out; omega)
                  have HGW : Hid (g < wr.heap.size) := Lib.hid (by
                    obtain ⟨-, g', off', e, hg', -⟩ := HRR.out.bytes 0 (p[0]'(by rw [← HLPE.out]; have := HZL2.out; omega)) (List.getElem?_eq_getElem _)
                    injection e with e; injection e with e1 e2; rw [e1]; exact hg')
                  have HCB : Hid (wr.cell? ⟨g, off + (z + T / 8), none⟩ = some (.int .u8 (b : Int))) := Lib.hid (by
                    have h7 := HBYTE.out (T / 8) hT8
                    rw [← hb] at h7
                    have hx : (z + T / 8) < p.length := by rw [← HLPE.out]; exact HZL2.out
                    obtain ⟨-, g', off', e, -, hc⟩ := HR5.out.bytes (z + T / 8) _ (List.getElem?_eq_getElem hx)
                    injection e with e; injection e with e1 e2; subst e1; subst e2
                    rw [h7] at hc
                    obtain ⟨-, g', off', e, -, hc2⟩ := HRR.out.bytes (z + T / 8) _ (List.getElem?_eq_getElem hx)
                    injection e with e; injection e with e1 e2; subst e1; subst e2
                    rw [hc2, ← hc])
                  have HB8 : Hid (b < 256) := Lib.hid hb256
                  have HT8 : Hid (T % 8 < 8) := Lib.hid (by omega)
                  have hbs : b / 2 ^ (T % 8) ≤ b := Nat.div_le_self _ _
                  have HBS : Hid (b / 2 ^ (T % 8) < 256) := Lib.hid (by omega)
                  have HB2 : Hid (b / 2 ^ (T % 8) % 2 < 256) := Lib.hid (by omega)
                  have HB22 : Hid (b / 2 ^ (T % 8) % 2 < 2) := Lib.hid (by omega)
                  have HK64 : Hid (k < 64) := Lib.hid (by omega)
                  have HXN : Hid (X + b / 2 ^ (T % 8) % 2 * 2 ^ k = bitsAt V T0 (k + 1)) := Lib.hid (by rw [bits_more, HX.out, HBE.out, bit_byte, HT.out])
                  have HXB : Hid (X + b / 2 ^ (T % 8) % 2 * 2 ^ k < 18446744073709551616) := Lib.hid (by
                    rw [HXN.out]
                    exact Nat.lt_of_lt_of_le (bitsAt_lt V T0 (k + 1)) (show 2 ^ (k + 1) ≤ 2 ^ 64 from Nat.pow_le_pow_right (by decide) (by omega)))
                  obtain ⟨X2, hX2⟩ : ∃ X2, X2 = X + b / 2 ^ (T % 8) % 2 * 2 ^ k := ⟨_, rfl⟩
                  have HA21 : Hid (∀ w9 : World, (binOp .add 33 (.int .u64 (X : Int)) (.int .u64 ((b / 2 ^ (T % 8) % 2 * 2 ^ k : Nat) : Int))).run Tryd.prog w9 = .ok (.int .u64 (X2 : Int)) w9) := Lib.hid fun w9 => by rw [hX2]; exact b_add64 _ _ HXB.out w9
                  have HX2 : Hid (X2 = bitsAt V T0 (k + 1)) := Lib.hid (hX2.trans HXN.out)
                  clear hb hbs hT8 hT hX2
                  go_upto_region 22 with fail
                  have hh0 : Below wr.heap.size wr wr.drew := (Below.refl _ _).drew
                  refine wp_region_held_drew (S := fun w2 => Below wr.heap.size wr w2) (by kernel_rfl) hh0 (fun hHeld => ?_)
                  refine wpAnyH_take (i := 0) (v := .int .u64 (X : Int)) rfl (by kernel_rfl) (by kernel_rfl) (by kernel_rfl) (fun _ _ _ h => h) (Or.inl ⟨by rfl, fun _ _ => rfl⟩) hHeld ?_
                  try dsimp only
                  try simp only [Act.put, List.getElem_toArray, List.getElem_cons_zero, List.getElem_cons_succ, List.setIfInBounds_toArray, List.set_cons_zero, List.set_cons_succ]
                  refine wpAnyH_take (i := 1) (v := .pointer (some ⟨m, 0, none⟩)) rfl (by kernel_rfl) (by kernel_rfl) (by kernel_rfl) (fun _ _ _ h => h) (Or.inl ⟨by rfl, fun _ _ => rfl⟩) hHeld ?_
                  try dsimp only
                  try simp only [Act.put, List.getElem_toArray, List.getElem_cons_zero, List.getElem_cons_succ, List.setIfInBounds_toArray, List.set_cons_zero, List.set_cons_succ]
                  refine wpAnyH_take (i := 2) (v := .pointer (some ⟨m, 0, none⟩)) rfl (by kernel_rfl) (by kernel_rfl) (by kernel_rfl) (fun _ _ _ h => h) (Or.inl ⟨by rfl, fun w _ => by go_simp⟩) hHeld ?_
                  try dsimp only
                  try simp only [Act.put, List.getElem_toArray, List.getElem_cons_zero, List.getElem_cons_succ, List.setIfInBounds_toArray, List.set_cons_zero, List.set_cons_succ]
                  refine wpAnyH_take (i := 3) (v := .pointer (some ⟨m, 0, none⟩)) rfl (by kernel_rfl) (by kernel_rfl) (by kernel_rfl) (fun _ _ _ h => h) (Or.inl ⟨by rfl, fun w _ => by go_simp⟩) hHeld ?_
                  try dsimp only
                  try simp only [Act.put, List.getElem_toArray, List.getElem_cons_zero, List.getElem_cons_succ, List.setIfInBounds_toArray, List.set_cons_zero, List.set_cons_succ]
                  refine wpAnyH_take (i := 4) (v := .slice (some ⟨g, off, none⟩) LP C) rfl (by kernel_rfl) (by kernel_rfl) (by kernel_rfl) (fun _ _ _ h => h) (Or.inl ⟨by rfl, fun w hw => by have hc : w.cell? ⟨m, 0, none⟩ = some (.slice (some ⟨g, off, none⟩) LP C) := (hw.cell (p := ⟨m, 0, none⟩) HLMR.out).trans HR0.out; go_simp⟩) hHeld ?_
                  try dsimp only
                  try simp only [Act.put, List.getElem_toArray, List.getElem_cons_zero, List.getElem_cons_succ, List.setIfInBounds_toArray, List.set_cons_zero, List.set_cons_succ]
                  refine wpAnyH_take (i := 5) (v := .pointer (some ⟨m, 0, none⟩)) rfl (by kernel_rfl) (by kernel_rfl) (by kernel_rfl) (fun _ _ _ h => h) (Or.inl ⟨by rfl, fun _ _ => rfl⟩) hHeld ?_
                  try dsimp only
                  try simp only [Act.put, List.getElem_toArray, List.getElem_cons_zero, List.getElem_cons_succ, List.setIfInBounds_toArray, List.set_cons_zero, List.set_cons_succ]
                  refine wpAnyH_take (i := 6) (v := .pointer (some ⟨m, 0, none⟩)) rfl (by kernel_rfl) (by kernel_rfl) (by kernel_rfl) (fun _ _ _ h => h) (Or.inl ⟨by rfl, fun w _ => by go_simp⟩) hHeld ?_
                  try dsimp only
                  try simp only [Act.put, List.getElem_toArray, List.getElem_cons_zero, List.getElem_cons_succ, List.setIfInBounds_toArray, List.set_cons_zero, List.set_cons_succ]
                  refine wpAnyH_take (i := 7) (v := .pointer (some ⟨m, 1, none⟩)) rfl (by kernel_rfl) (by kernel_rfl) (by kernel_rfl) (fun _ _ _ h => h) (Or.inl ⟨by rfl, fun w _ => by go_simp⟩) hHeld ?_
                  try dsimp only
                  try simp only [Act.put, List.getElem_toArray, List.getElem_cons_zero, List.getElem_cons_succ, List.setIfInBounds_toArray, List.set_cons_zero, List.set_cons_succ]
                  refine wpAnyH_take (i := 8) (v := .int .i64 (z : Int)) rfl (by kernel_rfl) (by kernel_rfl) (by kernel_rfl) (fun _ _ _ h => h) (Or.inl ⟨by rfl, fun w hw => by have hc : w.cell? ⟨m, 1, none⟩ = some (.int .i64 (z : Int)) := (hw.cell (p := ⟨m, 1, none⟩) HLMR.out).trans HR1.out; go_simp⟩) hHeld ?_
                  try dsimp only
                  try simp only [Act.put, List.getElem_toArray, List.getElem_cons_zero, List.getElem_cons_succ, List.setIfInBounds_toArray, List.set_cons_zero, List.set_cons_succ]
                  refine wpAnyH_take (i := 9) (v := .int .i64 (T : Int)) rfl (by kernel_rfl) (by kernel_rfl) (by kernel_rfl) (fun _ _ _ h => h) (Or.inl ⟨by rfl, fun _ _ => rfl⟩) hHeld ?_
                  try dsimp only
                  try simp only [Act.put, List.getElem_toArray, List.getElem_cons_zero, List.getElem_cons_succ, List.setIfInBounds_toArray, List.set_cons_zero, List.set_cons_succ]
                  refine wpAnyH_take (i := 10) (v := .int .i64 ((T / 8 : Nat) : Int)) rfl (by kernel_rfl) (by kernel_rfl) (by kernel_rfl) (fun _ _ _ h => h) (yb_bin rfl .quo 3 3 (.tmp 92) (.const (.int .i64 8)) rfl _ _ _ rfl rfl (fun _ => rfl) (b_quo8 T HTB.out)) hHeld ?_
                  try dsimp only
                  try simp only [Act.put, List.getElem_toArray, List.getElem_cons_zero, List.getElem_cons_succ, List.setIfInBounds_toArray, List.set_cons_zero, List.set_cons_succ]
                  refine wpAnyH_take (i := 11) (v := .int .i64 ((z + T / 8 : Nat) : Int)) rfl (by kernel_rfl) (by kernel_rfl) (by kernel_rfl) (fun _ _ _ h => h) (yb_bin rfl .add 3 3 (.tmp 91) (.tmp 93) rfl _ _ _ rfl rfl (fun _ => rfl) (b_addN z (T / 8) HZB.out)) hHeld ?_
                  try dsimp only
                  try simp only [Act.put, List.getElem_toArray, List.getElem_cons_zero, List.getElem_cons_succ, List.setIfInBounds_toArray, List.set_cons_zero, List.set_cons_succ]
                  refine wpAnyH_take (i := 12) (v := .pointer (some ⟨g, off + (z + T / 8), none⟩)) rfl (by kernel_rfl) (by kernel_rfl) (by kernel_rfl) (fun _ _ _ h => h) (yb_ixb rfl (.tmp 87) (.tmp 94) rfl g off LP C (z + T / 8) rfl rfl HZL2.out) hHeld ?_
                  try dsimp only
                  try simp only [Act.put, List.getElem_toArray, List.getElem_cons_zero, List.getElem_cons_succ, List.setIfInBounds_toArray, List.set_cons_zero, List.set_cons_succ]
                  refine wpAnyH_take (i := 13) (v := .int .u8 (b : Int)) rfl (by kernel_rfl) (by kernel_rfl) (by kernel_rfl) (fun _ _ _ h => h) (yb_ldb rfl (.tmp 95) rfl g (off + (z + T / 8)) rfl _ (fun w hw => (hw.cell (p := ⟨g, off + (z + T / 8), none⟩) HGW.out).trans HCB.out)) hHeld ?_
                  try dsimp only
                  try simp only [Act.put, List.getElem_toArray, List.getElem_cons_zero, List.getElem_cons_succ, List.setIfInBounds_toArray, List.set_cons_zero, List.set_cons_succ]
                  refine wpAnyH_take (i := 14) (v := .int .i64 (T : Int)) rfl (by kernel_rfl) (by kernel_rfl) (by kernel_rfl) (fun _ _ _ h => h) (Or.inl ⟨by rfl, fun _ _ => rfl⟩) hHeld ?_
                  try dsimp only
                  try simp only [Act.put, List.getElem_toArray, List.getElem_cons_zero, List.getElem_cons_succ, List.setIfInBounds_toArray, List.set_cons_zero, List.set_cons_succ]
                  refine wpAnyH_take (i := 15) (v := .int .i64 ((T % 8 : Nat) : Int)) rfl (by kernel_rfl) (by kernel_rfl) (by kernel_rfl) (fun _ _ _ h => h) (yb_bin rfl .rem 3 3 (.tmp 97) (.const (.int .i64 8)) rfl _ _ _ rfl rfl (fun _ => rfl) (b_rem8 T HTB.out)) hHeld ?_
                  try dsimp only
                  try simp only [Act.put, List.getElem_toArray, List.getElem_cons_zero, List.getElem_cons_succ, List.setIfInBounds_toArray, List.set_cons_zero, List.set_cons_succ]
                  refine wpAnyH_take (i := 16) (v := .int .u8 ((b / 2 ^ (T % 8) : Nat) : Int)) rfl (by kernel_rfl) (by kernel_rfl) (by kernel_rfl) (fun _ _ _ h => h) (yb_bin rfl .shr 5 3 (.tmp 96) (.tmp 98) rfl _ _ _ rfl rfl (fun _ => rfl) (b_shr8 b (T % 8) HB8.out HT8.out)) hHeld ?_
                  try dsimp only
                  try simp only [Act.put, List.getElem_toArray, List.getElem_cons_zero, List.getElem_cons_succ, List.setIfInBounds_toArray, List.set_cons_zero, List.set_cons_succ]
                  refine wpAnyH_take (i := 17) (v := .int .u8 ((b / 2 ^ (T % 8) % 2 : Nat) : Int)) rfl (by kernel_rfl) (by kernel_rfl) (by kernel_rfl) (fun _ _ _ h => h) (yb_bin rfl .rem 5 5 (.tmp 99) (.const (.int .u8 2)) rfl _ _ _ rfl rfl (fun _ => rfl) (b_rem2 (b / 2 ^ (T % 8)) HBS.out)) hHeld ?_
                  try dsimp only
                  try simp only [Act.put, List.getElem_toArray, List.getElem_cons_zero, List.getElem_cons_succ, List.setIfInBounds_toArray, List.set_cons_zero, List.set_cons_succ]
                  refine wpAnyH_take (i := 18) (v := .int .u64 ((b / 2 ^ (T % 8) % 2 : Nat) : Int)) rfl (by kernel_rfl) (by kernel_rfl) (by kernel_rfl) (fun _ _ _ h => h) (yb_cv rfl 5 33 (.tmp 100) rfl _ _ rfl (c_u8 _ HB2.out)) hHeld ?_
                  try dsimp only
                  try simp only [Act.put, List.getElem_toArray, List.getElem_cons_zero, List.getElem_cons_succ, List.setIfInBounds_toArray, List.set_cons_zero, List.set_cons_succ]
                  refine wpAnyH_take (i := 19) (v := .int .i64 (k : Int)) rfl (by kernel_rfl) (by kernel_rfl) (by kernel_rfl) (fun _ _ _ h => h) (Or.inl ⟨by rfl, fun _ _ => rfl⟩) hHeld ?_
                  try dsimp only
                  try simp only [Act.put, List.getElem_toArray, List.getElem_cons_zero, List.getElem_cons_succ, List.setIfInBounds_toArray, List.set_cons_zero, List.set_cons_succ]
                  refine wpAnyH_take (i := 20) (v := .int .u64 ((b / 2 ^ (T % 8) % 2 * 2 ^ k : Nat) : Int)) rfl (by kernel_rfl) (by kernel_rfl) (by kernel_rfl) (fun _ _ _ h => h) (yb_bin rfl .shl 33 3 (.tmp 101) (.tmp 102) rfl _ _ _ rfl rfl (fun _ => rfl) (b_shl64 _ k HB22.out HK64.out)) hHeld ?_
                  try dsimp only
                  try simp only [Act.put, List.getElem_toArray, List.getElem_cons_zero, List.getElem_cons_succ, List.setIfInBounds_toArray, List.set_cons_zero, List.set_cons_succ]
                  refine wpAnyH_take (i := 21) (v := .int .u64 (X2 : Int)) rfl (by kernel_rfl) (by kernel_rfl) (by kernel_rfl) (fun _ _ _ h => h) (yb_bin rfl .add 33 33 (.tmp 83) (.tmp 103) rfl _ _ _ rfl rfl (fun _ => rfl) HA21.out) hHeld ?_
                  try dsimp only
                  try simp only [Act.put, List.getElem_toArray, List.getElem_cons_zero, List.getElem_cons_succ, List.setIfInBounds_toArray, List.set_cons_zero, List.set_cons_succ]
                  refine wpAnyH_ready (rs := [22]) (by kernel_rfl) (by simp) (AllReadyH.cons rfl (fun K hK => ?_) AllReadyH.nil)
                  go_simp
                  refine hK.out _ _ hHeld (fun hHeld => ?_)
                  clear hK K
                  refine wpAnyH_done (by kernel_rfl) ?_ _
                  clear hHeld hh0
                  go_wp2
                  go_roundw
                  case rel => exact ⟨k + 1, T + 1, X2, by omega, by go_num, by have := HT.out; omega, by go_num, HX2.out, rfl, HRR.out.drew, HBB.out.drew⟩
                  case measure => simp [intOf]; omega
                · obtain rfl : k = W := by omega
                  obtain ⟨v, hv⟩ : ∃ v, v = pval k V mn i := ⟨_, rfl⟩
                  have HVW : Hid (Wf64 v) := Lib.hid (by rw [hv]; exact wrap64_wf' _)
                  have hvw : wrap64 (wrap64 (X : Int) + mn) = v := by
                    rw [hv, HX.out, HT0.out, Int.add_comm, ← i64_wrap ((bitsAt V (i * k) k : Nat) : Int)]; rfl
                  have HNX : Hid ((List.range i).map (pval k V mn) ++ [v] = (List.range (i + 1)).map (pval k V mn)) := Lib.hid (by rw [map_snoc, hv])
                  have HAX := Lib.hid (is_one wr v HVW.out)
                  have HKB : Hid (Kept (fun _ => False) wr (wr.alloc (.cells #[.int .i64 v] 2))) := Lib.hid ((Kept.refl _ _).alloc _)
                  have HO4 := Lib.hid (HO.out.keep HBB.out)
                  have HOX := Lib.hid (HO4.out.keep ((Below.refl wr.heap.size wr).alloc (Nat.le_refl _) (.cells #[.int .i64 v] 2)))
                  have hbs : w.heap.size ≤ (wr.alloc (.cells #[.int .i64 v] 2)).heap.size := Nat.le_trans HK.out.size (Nat.le_trans HBB.out.size HKB.out.size)
                  clear hv
                  go_wp2_with (refine wpList_append_is rfl (.tmp 107) (.tmp 112) rfl w.heap.size A' i cap' _ rfl HOX.out ⟨wr.heap.size, 0, none⟩ 1 1 [v] rfl rfl HAX.out (by omega) hbs ?_; intro A3 c3 w6 ho hg; have HO6 := Lib.hid ho; have HK6 : Hid (Kept (fun k => A'.map (·.block) = some k) (wr.alloc (.cells #[.int .i64 v] 2)) w6) := Lib.hid (Kept.of_grown hg); clear ho hg)
                  go_roundw
                  case rel =>
                    have hb := HO.out.base
                    have hm1 : ¬ A'.map (·.block) = some m := fun e => by have := hb m e; have := HLT.out; omega
                    have ho1 : Off (fun k => A'.map (·.block) = some k) (some ⟨g, off, none⟩) p := fun a ha h0 e => by have := hb _ e; have := HBLK.out a ha h0; omega
                    have hr5 : RRA w6 m (some ⟨g, off, none⟩) C p (some r4) := (HRR.out.keep HKB.out (fun e => e) (fun a _ _ e => e)).keep HK6.out hm1 ho1
                    have hk5 : Kept (Only m) w w6 := ((HK.out.trans (Kept.of_below HBB.out)).trans' HKB.out (fun i h => h.elim)).trans' HK6.out (fun i h => .inr (hb i h))
                    exact ⟨i + 1, T, A3, c3, by omega, by go_num, by rw [HT.out, HT0.out, Nat.add_mul, Nat.one_mul], congrArg (Value.int .i64) (by have := HT.out; omega), rfl, by rw [← HNX.out]; exact HO6.out, hr5, hk5⟩
                  case measure => simp [intOf]; omega
            · obtain rfl : i = n := by omega
              obtain ⟨wo, hwo⟩ : ∃ wo, wo = wr := ⟨_, rfl⟩
              subst hwo
              have hTn : T0 = i * W := HT0.out
              have HST2 : Hid (R3z wo V (i * W) (8 * K) m C (some ⟨g, off, none⟩) p r4 (.int .i64 (T0 : Int)) wo) := Lib.hid ⟨T0, by omega, by have := HKK.out; omega, rfl, by rw [hTn, Nat.sub_self, bits_zero], HR.out, Below.refl _ _⟩
              clear hTn
              go_wp2
              go_loopw [14] (fun a wk => R3z wo V (i * W) (8 * K) m C (some ⟨g, off, none⟩) p r4 a wk) (fun a _ => 8 * K - (intOf a).toNat)
              case atStart => exact HST2.out
              case round =>
                obtain ⟨T, hMT, hTE, rfl, hX, hr, hb⟩ := hrel
                have HRR := Lib.hid hr; have HBB := Lib.hid hb; have HX := Lib.hid hX
                clear hr hb hX HST2
                by_cases hT8 : T % 8 = 0
                · have ht8 : ((T : Int).tmod 8 != 0) = false := by rw [Int.tmod_eq_emod_of_nonneg (by omega), bne_eq_false_iff_eq]; omega
                  have ht8' : ((T : Int) % 8 != 0) = false := by rw [bne_eq_false_iff_eq]; omega
                  have hTK : T = 8 * K := by have := HKK.out; omega
                  have HVS : Hid (V < 2 ^ (i * W)) := Lib.hid (rest_zero HV.out HX.out hMT hTK)
                  have HE : Hid (allOf (rpk i r) = some ((List.range i).map (pval W V mn))) := Lib.hid (by rw [HRES.out, if_pos HVS.out]; rfl)
                  have c1 : wr.cell? ⟨m, 1, none⟩ = some (.int .i64 (z : Int)) := by have := HRR.out.c1; rw [hz] at this; exact this
                  have c0 : wr.cell? ⟨m, 0, none⟩ = some (.slice (some ⟨g, off, none⟩) LP C) := by have := HRR.out.c0; rw [← HLPE.out] at this; exact this
                  have f1 := HRR.out.fr 1
                  clear hT8
                  go_wp2
                  go_ret
                  rw [HE.out]
                  have hat : atR p (some []) = (LP : Int) := by rw [HLPE.out]; show (p.length : Int) - (([] : List Nat).length : Int) = _; rw [List.length_nil]; omega
                  have hkk : Kept (Only m) wr (wr.setCell ⟨m, 1, none⟩ (.int .i64 (LP : Int))) := (Kept.refl _ _).setCell _ _ (.inl rfl)
                  refine ⟨⟨A', i, cap', rfl, (HO.out.keep HBB.out).keptG hkk HLT.out⟩, ?_, (HK.out.trans (Kept.of_below HBB.out)).trans hkk⟩
                  have h := HRR.out.put (s' := some []) (fun q h => ⟨p.length, Nat.le_refl _, by injection h with h; rw [← h, List.drop_length]⟩)
                  rw [hat] at h; exact h
                · have ht8 : ((T : Int).tmod 8 != 0) = true := by rw [Int.tmod_eq_emod_of_nonneg (by omega), bne_iff_ne]; omega
                  have ht8' : ((T : Int) % 8 != 0) = true := by rw [bne_iff_ne]; omega
                  have hTK : T < 8 * K := by have := HKK.out; omega
                  have hT8' : T / 8 < K := by omega
                  obtain ⟨b, hb⟩ : ∃ b, b = V / 2 ^ (8 * (T / 8)) % 256 := ⟨_, rfl⟩
                  have hb256 : b < 256 := by omega
                  have HBE := Lib.hid hb
                  have HLMR := Lib.hid HRR.out.lt
                  have HR0 : Hid (wr.cell? ⟨m, 0, none⟩ = some (.slice (some ⟨g, off, none⟩) LP C)) := Lib.hid (by have := HRR.out.c0; rw [← HLPE.out] at this; exact this)
                  have HR1 : Hid (wr.cell? ⟨m, 1, none⟩ = some (.int .i64 (z : Int))) := Lib.hid (by have := HRR.out.c1; rw [hz] at this; exact this)
                  have hTb : T ≤ 300000 := by omega
                  have HTB : Hid (T ≤ 1000000) := Lib.hid (by omega)
                  have HZB : Hid (z + T / 8 ≤ 100000000) := Lib.hid (by have := HZL.out; omega)
                  have HZL2 : Hid (z + T / 8 < LP) := Lib.hid (by have := HZL.out; have := HKD2.out; omega)
                  have HGW : Hid (g < wr.heap.size) := Lib.hid (by
                    obtain ⟨-, g', off', e, hg', -⟩ := HRR.out.bytes 0 (p[0]'(by rw [← HLPE.out]; have := HZL2.out; omega)) (List.getElem?_eq_getElem _)
                    injection e with e; injection e with e1 e2; rw [e1]; exact hg')
                  have HCB : Hid (wr.cell? ⟨g, off + (z + T / 8), none⟩ = some (.int .u8 (b : Int))) := Lib.hid (by
                    have h7 := HBYTE.out (T / 8) hT8'
                    rw [← hb] at h7
                    have hx : (z + T / 8) < p.length := by rw [← HLPE.out]; exact HZL2.out
                    obtain ⟨-, g', off', e, -, hc⟩ := HR5.out.bytes (z + T / 8) _ (List.getElem?_eq_getElem hx)
                    injection e with e; injection e with e1 e2; subst e1; subst e2
                    rw [h7] at hc
                    obtain ⟨-, g', off', e, -, hc2⟩ := HRR.out.bytes (z + T / 8) _ (List.getElem?_eq_getElem hx)
                    injection e with e; injection e with e1 e2; subst e1; subst e2
                    rw [hc2, ← hc])
                  have HB8 : Hid (b < 256) := Lib.hid hb256
                  have HT8 : Hid (T % 8 < 8) := Lib.hid (by omega)
                  have hbs : b / 2 ^ (T % 8) ≤ b := Nat.div_le_self _ _
                  have HBS : Hid (b / 2 ^ (T % 8) < 256) := Lib.hid (by omega)
                  obtain ⟨one, hone⟩ : ∃ one, (b / 2 ^ (T % 8) % 2 == 1) = one := ⟨_, rfl⟩
                  have HONE := Lib.hid hone
                  have HBIT : Hid (b / 2 ^ (T % 8) % 2 = V / 2 ^ T % 2) := Lib.hid (by rw [hb, bit_byte])
                  clear hb hbs hT8 hT8' hone
                  go_upto_region 26 with fail
                  have hh0 : Below wr.heap.size wr wr.drew := (Below.refl _ _).drew
                  refine wp_region_held_drew (S := fun w2 => Below wr.heap.size wr w2) (by kernel_rfl) hh0 (fun hHeld => ?_)
                  refine wpAnyH_take (i := 0) (v := .pointer (some ⟨m, 0, none⟩)) rfl (by kernel_rfl) (by kernel_rfl) (by kernel_rfl) (fun _ _ _ h => h) (Or.inl ⟨by rfl, fun _ _ => rfl⟩) hHeld ?_
                  try dsimp only
                  try simp only [Act.put, List.getElem_toArray, List.getElem_cons_zero, List.getElem_cons_succ, List.setIfInBounds_toArray, List.set_cons_zero, List.set_cons_succ]
                  refine wpAnyH_take (i := 1) (v := .pointer (some ⟨m, 0, none⟩)) rfl (by kernel_rfl) (by kernel_rfl) (by kernel_rfl) (fun _ _ _ h => h) (Or.inl ⟨by rfl, fun w _ => by go_simp⟩) hHeld ?_
                  try dsimp only
                  try simp only [Act.put, List.getElem_toArray, List.getElem_cons_zero, List.getElem_cons_succ, List.setIfInBounds_toArray, List.set_cons_zero, List.set_cons_succ]
                  refine wpAnyH_take (i := 2) (v := .pointer (some ⟨m, 0, none⟩)) rfl (by kernel_rfl) (by kernel_rfl) (by kernel_rfl) (fun _ _ _ h => h) (Or.inl ⟨by rfl, fun w _ => by go_simp⟩) hHeld ?_
                  try dsimp only
                  try simp only [Act.put, List.getElem_toArray, List.getElem_cons_zero, List.getElem_cons_succ, List.setIfInBounds_toArray, List.set_cons_zero, List.set_cons_succ]
                  refine wpAnyH_take (i := 3) (v := .slice (some ⟨g, off, none⟩) LP C) rfl (by kernel_rfl) (by kernel_rfl) (by kernel_rfl) (fun _ _ _ h => h) (Or.inl ⟨by rfl, fun w hw => by have hc : w.cell? ⟨m, 0, none⟩ = some (.slice (some ⟨g, off, none⟩) LP C) := (hw.cell (p := ⟨m, 0, none⟩) HLMR.out).trans HR0.out; go_simp⟩) hHeld ?_
                  try dsimp only
                  try simp only [Act.put, List.getElem_toArray, List.getElem_cons_zero, List.getElem_cons_succ, List.setIfInBounds_toArray, List.set_cons_zero, List.set_cons_succ]
                  refine wpAnyH_take (i := 4) (v := .pointer (some ⟨m, 0, none⟩)) rfl (by kernel_rfl) (by kernel_rfl) (by kernel_rfl) (fun _ _ _ h => h) (Or.inl ⟨by rfl, fun _ _ => rfl⟩) hHeld ?_
                  try dsimp only
                  try simp only [Act.put, List.getElem_toArray, List.getElem_cons_zero, List.getElem_cons_succ, List.setIfInBounds_toArray, List.set_cons_zero, List.set_cons_succ]
                  refine wpAnyH_take (i := 5) (v := .pointer (some ⟨m, 0, none⟩)) rfl (by kernel_rfl) (by kernel_rfl) (by kernel_rfl) (fun _ _ _ h => h) (Or.inl ⟨by rfl, fun w _ => by go_simp⟩) hHeld ?_
                  try dsimp only
                  try simp only [Act.put, List.getElem_toArray, List.getElem_cons_zero, List.getElem_cons_succ, List.setIfInBounds_toArray, List.set_cons_zero, List.set_cons_succ]
                  refine wpAnyH_take (i := 6) (v := .pointer (some ⟨m, 1, none⟩)) rfl (by kernel_rfl) (by kernel_rfl) (by kernel_rfl) (fun _ _ _ h => h) (Or.inl ⟨by rfl, fun w _ => by go_simp⟩) hHeld ?_
                  try dsimp only
                  try simp only [Act.put, List.getElem_toArray, List.getElem_cons_zero, List.getElem_cons_succ, List.setIfInBounds_toArray, List.set_cons_zero, List.set_cons_succ]
                  refine wpAnyH_take (i := 7) (v := .int .i64 (z : Int)) rfl (by kernel_rfl) (by kernel_rfl) (by kernel_rfl) (fun _ _ _ h => h) (Or.inl ⟨by rfl, fun w hw => by have hc : w.cell? ⟨m, 1, none⟩ = some (.int .i64 (z : Int)) := (hw.cell (p := ⟨m, 1, none⟩) HLMR.out).trans HR1.out; go_simp⟩) hHeld ?_
                  try dsimp only
                  try simp only [Act.put, List.getElem_toArray, List.getElem_cons_zero, List.getElem_cons_succ, List.setIfInBounds_toArray, List.set_cons_zero, List.set_cons_succ]
                  refine wpAnyH_take (i := 8) (v := .int .i64 (T : Int)) rfl (by kernel_rfl) (by kernel_rfl) (by kernel_rfl) (fun _ _ _ h => h) (Or.inl ⟨by rfl, fun _ _ => rfl⟩) hHeld ?_
                  try dsimp only
                  try simp only [Act.put, List.getElem_toArray, List.getElem_cons_zero, List.getElem_cons_succ, List.setIfInBounds_toArray, List.set_cons_zero, List.set_cons_succ]
                  refine wpAnyH_take (i := 9) (v := .int .i64 ((T / 8 : Nat) : Int)) rfl (by kernel_rfl) (by kernel_rfl) (by kernel_rfl) (fun _ _ _ h => h) (yb_bin rfl .quo 3 3 (.tmp 125) (.const (.int .i64 8)) rfl _ _ _ rfl rfl (fun _ => rfl) (b_quo8 T HTB.out)) hHeld ?_
                  try dsimp only
                  try simp only [Act.put, List.getElem_toArray, List.getElem_cons_zero, List.getElem_cons_succ, List.setIfInBounds_toArray, List.set_cons_zero, List.set_cons_succ]
                  refine wpAnyH_take (i := 10) (v := .int .i64 ((z + T / 8 : Nat) : Int)) rfl (by kernel_rfl) (by kernel_rfl) (by kernel_rfl) (fun _ _ _ h => h) (yb_bin rfl .add 3 3 (.tmp 124) (.tmp 126) rfl _ _ _ rfl rfl (fun _ => rfl) (b_addN z (T / 8) HZB.out)) hHeld ?_
                  try dsimp only
                  try simp only [Act.put, List.getElem_toArray, List.getElem_cons_zero, List.getElem_cons_succ, List.setIfInBounds_toArray, List.set_cons_zero, List.set_cons_succ]
                  refine wpAnyH_take (i := 11) (v := .pointer (some ⟨g, off + (z + T / 8), none⟩)) rfl (by kernel_rfl) (by kernel_rfl) (by kernel_rfl) (fun _ _ _ h => h) (yb_ixb rfl (.tmp 120) (.tmp 127) rfl g off LP C (z + T / 8) rfl rfl HZL2.out) hHeld ?_
                  try dsimp only
                  try simp only [Act.put, List.getElem_toArray, List.getElem_cons_zero, List.getElem_cons_succ, List.setIfInBounds_toArray, List.set_cons_zero, List.set_cons_succ]
                  refine wpAnyH_take (i := 12) (v := .int .u8 (b : Int)) rfl (by kernel_rfl) (by kernel_rfl) (by kernel_rfl) (fun _ _ _ h => h) (yb_ldb rfl (.tmp 128) rfl g (off + (z + T / 8)) rfl _ (fun w hw => (hw.cell (p := ⟨g, off + (z + T / 8), none⟩) HGW.out).trans HCB.out)) hHeld ?_
                  try dsimp only
                  try simp only [Act.put, List.getElem_toArray, List.getElem_cons_zero, List.getElem_cons_succ, List.setIfInBounds_toArray, List.set_cons_zero, List.set_cons_succ]
                  refine wpAnyH_take (i := 13) (v := .int .i64 (T : Int)) rfl (by kernel_rfl) (by kernel_rfl) (by kernel_rfl) (fun _ _ _ h => h) (Or.inl ⟨by rfl, fun _ _ => rfl⟩) hHeld ?_
                  try dsimp only
                  try simp only [Act.put, List.getElem_toArray, List.getElem_cons_zero, List.getElem_cons_succ, List.setIfInBounds_toArray, List.set_cons_zero, List.set_cons_succ]
                  refine wpAnyH_take (i := 14) (v := .int .i64 ((T % 8 : Nat) : Int)) rfl (by kernel_rfl) (by kernel_rfl) (by kernel_rfl) (fun _ _ _ h => h) (yb_bin rfl .rem 3 3 (.tmp 130) (.const (.int .i64 8)) rfl _ _ _ rfl rfl (fun _ => rfl) (b_rem8 T HTB.out)) hHeld ?_
                  try dsimp only
                  try simp only [Act.put, List.getElem_toArray, List.getElem_cons_zero, List.getElem_cons_succ, List.setIfInBounds_toArray, List.set_cons_zero, List.set_cons_succ]
                  refine wpAnyH_take (i := 15) (v := .int .u8 ((b / 2 ^ (T % 8) : Nat) : Int)) rfl (by kernel_rfl) (by kernel_rfl) (by kernel_rfl) (fun _ _ _ h => h) (yb_bin rfl .shr 5 3 (.tmp 129) (.tmp 131) rfl _ _ _ rfl rfl (fun _ => rfl) (b_shr8 b (T % 8) HB8.out HT8.out)) hHeld ?_
                  try dsimp only
                  try simp only [Act.put, List.getElem_toArray, List.getElem_cons_zero, List.getElem_cons_succ, List.setIfInBounds_toArray, List.set_cons_zero, List.set_cons_succ]
                  refine wpAnyH_take (i := 16) (v := .int .u8 ((b / 2 ^ (T % 8) % 2 : Nat) : Int)) rfl (by kernel_rfl) (by kernel_rfl) (by kernel_rfl) (fun _ _ _ h => h) (yb_bin rfl .rem 5 5 (.tmp 132) (.const (.int .u8 2)) rfl _ _ _ rfl rfl (fun _ => rfl) (b_rem2 (b / 2 ^ (T % 8)) HBS.out)) hHeld ?_
                  try dsimp only
                  try simp only [Act.put, List.getElem_toArray, List.getElem_cons_zero, List.getElem_cons_succ, List.setIfInBounds_toArray, List.set_cons_zero, List.set_cons_succ]
                  refine wpAnyH_take (i := 17) (v := .bool one) rfl (by kernel_rfl) (by kernel_rfl) (by kernel_rfl) (fun _ _ _ h => h) (yb_bin rfl .eql 5 5 (.tmp 133) (.const (.int .u8 1)) rfl _ _ _ rfl rfl (fun _ => rfl) (b_eql1 _ one HONE.out)) hHeld ?_
                  try dsimp only
                  try simp only [Act.put, List.getElem_toArray, List.getElem_cons_zero, List.getElem_cons_succ, List.setIfInBounds_toArray, List.set_cons_zero, List.set_cons_succ]
                  refine wpAnyH_done (by kernel_rfl) ?_ _
                  clear hHeld hh0
                  cases one
                  · have HX2 : Hid (bitsAt V (i * W) (T + 1 - i * W) = 0) := Lib.hid (by
                      rw [show T + 1 - i * W = (T - i * W) + 1 by omega, bits_more, HX.out, show i * W + (T - i * W) = T by omega, ← HBIT.out]
                      have := HONE.out
                      rw [beq_eq_false_iff_ne] at this
                      have h2 : b / 2 ^ (T % 8) % 2 = 0 := by omega
                      rw [h2]; simp)
                    go_wp2
                    go_roundw
                    case rel => exact ⟨T + 1, by omega, by omega, by go_num, HX2.out, HRR.out.drew, HBB.out.drew⟩
                    case measure => simp [intOf]; omega
                  · have HVS : Hid (¬ V < 2 ^ (i * W)) := Lib.hid (rest_one (by rw [← HBIT.out]; have := HONE.out; rwa [beq_iff_eq] at this) hMT)
                    have HE : Hid (allOf (rpk i r) = none) := Lib.hid (by rw [HRES.out, if_neg HVS.out]; rfl)
                    have c1 : wr.cell? ⟨m, 1, none⟩ = some (.int .i64 (z : Int)) := HR1.out
                    have f1 := HRR.out.fr 1
                    go_wp2
                    go_ret
                    exact HNIL.out _ _ HRR.out.drew ((HK.out.trans (Kept.of_below HBB.out)).drew) HE.out
        · have HE : Hid (allOf (rpk n r) = none) := Lib.hid (by
            rw [HRP.out]
            have h1 : r4.length ≠ (n * W + 7) / 8 := by
              have := HDIF.out
              rw [bne_iff_ne] at this; have := HZL.out; have := HM8.out; omega
            by_cases h2 : W ≤ 64 ∧ (n * W + 7) / 8 ≤ r4.length ∧ vlb (r4.take ((n * W + 7) / 8)) < 2 ^ (n * W)
            · rw [rpk2_yes rfl h2]
              rcases h3 : r4.drop ((n * W + 7) / 8) with _ | ⟨y, ys⟩
              · have := congrArg List.length h3; rw [List.length_drop] at this; simp at this; omega
              · rfl
            · rw [rpk2_no rfl h2]; rfl)
          have c1 := HC1.out
          go_wp2
          go_ret
          exact HNIL.out _ _ HRD.out HKD.out HE.out
      · have HWB : Hid (decide ((64 : Int) < (W : Int)) = true) := Lib.hid (decide_eq_true (by omega))
        have HE : Hid (allOf (rpk n r) = none) := Lib.hid (by rw [HRP.out, rpk2_no rfl (by omega)]; rfl)
        have hh0 : Below w5.heap.size w5 w5.drew := (Below.refl _ _).drew
        refine wp_region_held_drew (S := fun w2 => Below w5.heap.size w5 w2) (by kernel_rfl) hh0 (fun hHeld => ?_)
        refine wpAnyH_take (i := 0) (v := .pointer (some ⟨m, 0, none⟩)) rfl (by kernel_rfl) (by kernel_rfl) (by kernel_rfl) (fun _ _ _ h => h) (Or.inl ⟨by rfl, fun _ _ => rfl⟩) hHeld ?_
        try dsimp only
        try simp only [Act.put, List.getElem_toArray, List.getElem_cons_zero, List.getElem_cons_succ, List.setIfInBounds_toArray, List.set_cons_zero, List.set_cons_succ]
        refine wpAnyH_take (i := 1) (v := .pointer (some ⟨m, 0, none⟩)) rfl (by kernel_rfl) (by kernel_rfl) (by kernel_rfl) (fun _ _ _ h => h) (Or.inl ⟨by rfl, fun w _ => by go_simp⟩) hHeld ?_
        try dsimp only
        try simp only [Act.put, List.getElem_toArray, List.getElem_cons_zero, List.getElem_cons_succ, List.setIfInBounds_toArray, List.set_cons_zero, List.set_cons_succ]
        refine wpAnyH_take (i := 2) (v := .pointer (some ⟨m, 1, none⟩)) rfl (by kernel_rfl) (by kernel_rfl) (by kernel_rfl) (fun _ _ _ h => h) (Or.inl ⟨by rfl, fun w _ => by go_simp⟩) hHeld ?_
        try dsimp only
        try simp only [Act.put, List.getElem_toArray, List.getElem_cons_zero, List.getElem_cons_succ, List.setIfInBounds_toArray, List.set_cons_zero, List.set_cons_succ]
        refine wpAnyH_take (i := 3) (v := .int .i64 (z : Int)) rfl (by kernel_rfl) (by kernel_rfl) (by kernel_rfl) (fun _ _ _ h => h) (Or.inl ⟨by rfl, fun w hw => by have hc : w.cell? ⟨m, 1, none⟩ = some (.int .i64 (z : Int)) := (hw.cell (p := ⟨m, 1, none⟩) HLM.out).trans HC1.out; go_simp⟩) hHeld ?_
        try dsimp only
        try simp only [Act.put, List.getElem_toArray, List.getElem_cons_zero, List.getElem_cons_succ, List.setIfInBounds_toArray, List.set_cons_zero, List.set_cons_succ]
        refine wpAnyH_take (i := 4) (v := .bool false) rfl (by kernel_rfl) (by kernel_rfl) (by kernel_rfl) (fun _ _ _ h => h) (yb_bin rfl .lss 3 3 (.tmp 46) (.const (.int .i64 0)) rfl _ _ _ rfl rfl (fun _ => rfl) (b_lss _ _ false (by simp))) hHeld ?_
        try dsimp only
        try simp only [Act.put, List.getElem_toArray, List.getElem_cons_zero, List.getElem_cons_succ, List.setIfInBounds_toArray, List.set_cons_zero, List.set_cons_succ]
        refine wpAnyH_take (i := 5) (v := .bool false) rfl (by kernel_rfl) (by kernel_rfl) (by kernel_rfl) (fun _ _ _ h => h) (Or.inl ⟨by rfl, fun _ _ => rfl⟩) hHeld ?_
        try dsimp only
        try simp only [Act.put, List.getElem_toArray, List.getElem_cons_zero, List.getElem_cons_succ, List.setIfInBounds_toArray, List.set_cons_zero, List.set_cons_succ]
        refine wpAnyH_take (i := 6) (v := .int .i64 (W : Int)) rfl (by kernel_rfl) (by kernel_rfl) (by kernel_rfl) (fun _ _ _ h => h) (Or.inl ⟨by rfl, fun _ _ => rfl⟩) hHeld ?_
        try dsimp only
        try simp only [Act.put, List.getElem_toArray, List.getElem_cons_zero, List.getElem_cons_succ, List.setIfInBounds_toArray, List.set_cons_zero, List.set_cons_succ]
        refine wpAnyH_take (i := 7) (v := .bool true) rfl (by kernel_rfl) (by kernel_rfl) (by kernel_rfl) (fun _ _ _ h => h) (yb_bin rfl .gtr 3 3 (.tmp 49) (.const (.int .i64 64)) rfl _ _ _ rfl rfl (fun _ => rfl) (b_gtr _ _ true HWB.out)) hHeld ?_
        try dsimp only
        try simp only [Act.put, List.getElem_toArray, List.getElem_cons_zero, List.getElem_cons_succ, List.setIfInBounds_toArray, List.set_cons_zero, List.set_cons_succ]
        refine wpAnyH_take (i := 8) (v := .bool true) rfl (by kernel_rfl) (by kernel_rfl) (by kernel_rfl) (fun _ _ _ h => h) (yb_pick rfl (.tmp 48) (.const (.bool true)) (.tmp 50) rfl false _ rfl rfl) hHeld ?_
        try dsimp only
        try simp only [Act.put, List.getElem_toArray, List.getElem_cons_zero, List.getElem_cons_succ, List.setIfInBounds_toArray, List.set_cons_zero, List.set_cons_succ]
        refine wpAnyH_take (i := 9) (v := .bool true) rfl (by kernel_rfl) (by kernel_rfl) (by kernel_rfl) (fun _ _ _ h => h) (Or.inl ⟨by rfl, fun _ _ => rfl⟩) hHeld ?_
        try dsimp only
        try simp only [Act.put, List.getElem_toArray, List.getElem_cons_zero, List.getElem_cons_succ, List.setIfInBounds_toArray, List.set_cons_zero, List.set_cons_succ]
        refine wpAnyH_take (i := 10) (v := undef) rfl (by kernel_rfl) (by kernel_rfl) (by kernel_rfl) (fun _ _ _ h => h) (Or.inr ⟨by rfl, rfl⟩) hHeld ?_
        try dsimp only
        try simp only [Act.put, List.getElem_toArray, List.getElem_cons_zero, List.getElem_cons_succ, List.setIfInBounds_toArray, List.set_cons_zero, List.set_cons_succ]
        refine wpAnyH_take (i := 11) (v := undef) rfl (by kernel_rfl) (by kernel_rfl) (by kernel_rfl) (fun _ _ _ h => h) (Or.inr ⟨by rfl, rfl⟩) hHeld ?_
        try dsimp only
        try simp only [Act.put, List.getElem_toArray, List.getElem_cons_zero, List.getElem_cons_succ, List.setIfInBounds_toArray, List.set_cons_zero, List.set_cons_succ]
        refine wpAnyH_take (i := 12) (v := undef) rfl (by kernel_rfl) (by kernel_rfl) (by kernel_rfl) (fun _ _ _ h => h) (Or.inr ⟨by rfl, rfl⟩) hHeld ?_
        try dsimp only
        try simp only [Act.put, List.getElem_toArray, List.getElem_cons_zero, List.getElem_cons_succ, List.setIfInBounds_toArray, List.set_cons_zero, List.set_cons_succ]
        refine wpAnyH_take (i := 13) (v := undef) rfl (by kernel_rfl) (by kernel_rfl) (by kernel_rfl) (fun _ _ _ h => h) (Or.inr ⟨by rfl, rfl⟩) hHeld ?_
        try dsimp only
        try simp only [Act.put, List.getElem_toArray, List.getElem_cons_zero, List.getElem_cons_succ, List.setIfInBounds_toArray, List.set_cons_zero, List.set_cons_succ]
        refine wpAnyH_take (i := 14) (v := undef) rfl (by kernel_rfl) (by kernel_rfl) (by kernel_rfl) (fun _ _ _ h => h) (Or.inr ⟨by rfl, rfl⟩) hHeld ?_
        try dsimp only
        try simp only [Act.put, List.getElem_toArray, List.getElem_cons_zero, List.getElem_cons_succ, List.setIfInBounds_toArray, List.set_cons_zero, List.set_cons_succ]
        refine wpAnyH_take (i := 15) (v := undef) rfl (by kernel_rfl) (by kernel_rfl) (by kernel_rfl) (fun _ _ _ h => h) (Or.inr ⟨by rfl, rfl⟩) hHeld ?_
        try dsimp only
        try simp only [Act.put, List.getElem_toArray, List.getElem_cons_zero, List.getElem_cons_succ, List.setIfInBounds_toArray, List.set_cons_zero, List.set_cons_succ]
        refine wpAnyH_take (i := 16) (v := undef) rfl (by kernel_rfl) (by kernel_rfl) (by kernel_rfl) (fun _ _ _ h => h) (Or.inr ⟨by rfl, rfl⟩) hHeld ?_
        try dsimp only
        try simp only [Act.put, List.getElem_toArray, List.getElem_cons_zero, List.getElem_cons_succ, List.setIfInBounds_toArray, List.set_cons_zero, List.set_cons_succ]
        refine wpAnyH_take (i := 17) (v := undef) rfl (by kernel_rfl) (by kernel_rfl) (by kernel_rfl) (fun _ _ _ h => h) (Or.inr ⟨by rfl, rfl⟩) hHeld ?_
        try dsimp only
        try simp only [Act.put, List.getElem_toArray, List.getElem_cons_zero, List.getElem_cons_succ, List.setIfInBounds_toArray, List.set_cons_zero, List.set_cons_succ]
        refine wpAnyH_take (i := 18) (v := undef) rfl (by kernel_rfl) (by kernel_rfl) (by kernel_rfl) (fun _ _ _ h => h) (Or.inr ⟨by rfl, rfl⟩) hHeld ?_
        try dsimp only
        try simp only [Act.put, List.getElem_toArray, List.getElem_cons_zero, List.getElem_cons_succ, List.setIfInBounds_toArray, List.set_cons_zero, List.set_cons_succ]
        refine wpAnyH_take (i := 19) (v := undef) rfl (by kernel_rfl) (by kernel_rfl) (by kernel_rfl) (fun _ _ _ h => h) (Or.inr ⟨by rfl, rfl⟩) hHeld ?_
        try dsimp only
        try simp only [Act.put, List.getElem_toArray, List.getElem_cons_zero, List.getElem_cons_succ, List.setIfInBounds_toArray, List.set_cons_zero, List.set_cons_succ]
        refine wpAnyH_take (i := 20) (v := undef) rfl (by kernel_rfl) (by kernel_rfl) (by kernel_rfl) (fun _ _ _ h => h) (Or.inr ⟨by rfl, rfl⟩) hHeld ?_
        try dsimp only
        try simp only [Act.put, List.getElem_toArray, List.getElem_cons_zero, List.getElem_cons_succ, List.setIfInBounds_toArray, List.set_cons_zero, List.set_cons_succ]
        refine wpAnyH_take (i := 21) (v := undef) rfl (by kernel_rfl) (by kernel_rfl) (by kernel_rfl) (fun _ _ _ h => h) (Or.inr ⟨by rfl, rfl⟩) hHeld ?_
        try dsimp only
        try simp only [Act.put, List.getElem_toArray, List.getElem_cons_zero, List.getElem_cons_succ, List.setIfInBounds_toArray, List.set_cons_zero, List.set_cons_succ]
        refine wpAnyH_take (i := 22) (v := undef) rfl (by kernel_rfl) (by kernel_rfl) (by kernel_rfl) (fun _ _ _ h => h) (Or.inr ⟨by rfl, rfl⟩) hHeld ?_
        try dsimp only
        try simp only [Act.put, List.getElem_toArray, List.getElem_cons_zero, List.getElem_cons_succ, List.setIfInBounds_toArray, List.set_cons_zero, List.set_cons_succ]
        refine wpAnyH_take (i := 23) (v := undef) rfl (by kernel_rfl) (by kernel_rfl) (by kernel_rfl) (fun _ _ _ h => h) (Or.inr ⟨by rfl, rfl⟩) hHeld ?_
        try dsimp only
        try simp only [Act.put, List.getElem_toArray, List.getElem_cons_zero, List.getElem_cons_succ, List.setIfInBounds_toArray, List.set_cons_zero, List.set_cons_succ]
        refine wpAnyH_take (i := 24) (v := undef) rfl (by kernel_rfl) (by kernel_rfl) (by kernel_rfl) (fun _ _ _ h => h) (Or.inr ⟨by rfl, rfl⟩) hHeld ?_
        try dsimp only
        try simp only [Act.put, List.getElem_toArray, List.getElem_cons_zero, List.getElem_cons_succ, List.setIfInBounds_toArray, List.set_cons_zero, List.set_cons_succ]
        refine wpAnyH_take (i := 25) (v := undef) rfl (by kernel_rfl) (by kernel_rfl) (by kernel_rfl) (fun _ _ _ h => h) (Or.inr ⟨by rfl, rfl⟩) hHeld ?_
        try dsimp only
        try simp only [Act.put, List.getElem_toArray, List.getElem_cons_zero, List.getElem_cons_succ, List.setIfInBounds_toArray, List.set_cons_zero, List.set_cons_succ]
        refine wpAnyH_take (i := 26) (v := .bool true) rfl (by kernel_rfl) (by kernel_rfl) (by kernel_rfl) (fun _ _ _ h => h) (yb_pick rfl (.tmp 52) (.const (.bool true)) (.tmp 68) rfl true _ rfl rfl) hHeld ?_
        try dsimp only
        try simp only [Act.put, List.getElem_toArray, List.getElem_cons_zero, List.getElem_cons_succ, List.setIfInBounds_toArray, List.set_cons_zero, List.set_cons_succ]
        refine wpAnyH_done (by kernel_rfl) ?_ _
        have c1 := HC1.out
        go_wp2
        go_ret
        exact HNIL.out _ _ HR5.out.drew HKA.out.drew HE.out
end Go.Proofs.YtpobfgokikfmbaaDoor

set_option linter.unusedSimpArgs false
set_option linter.unusedVariables false
set_option maxRecDepth 8000
namespace Go.Proofs.YtpobfgokikfmbaaDoor
open Go.RowKit Go.WideShapes Col
/-- How the document's ReadInts ends. -/
def RREnds (w : World) (o : Option (List Int)) (e : Ending) (w' : World) : Prop := match o with
  | some l => (∃ A' n' cap', e = .returned (.tuple #[.slice A' n' cap', .bool true]) ∧ OwnI w' w.heap.size A' n' cap' l) ∧ Below w.heap.size w w'
  | none => e = .returned (.tuple #[.slice none 0 0, .bool false]) ∧ Below w.heap.size w w'
theorem atR_whole (p : List Nat) : atR p (some p) = 0 := by show (p.length : Int) - (p.length : Int) = 0; omega
theorem atR_ne {p : List Nat} {s : Option (List Nat)} (h : s ≠ some []) : (atR p s != (p.length : Int)) = true := by
  rw [bne_iff_ne]
  rcases s with _ | _ | ⟨x, q⟩
  · show (-1 : Int) ≠ _; omega
  · exact (h rfl).elim
  · show (p.length : Int) - ((x :: q).length : Int) ≠ _; rw [List.length_cons]; omega
theorem rra_new {w : World} {A : Option Addr} {p : List Nat} {C : Nat} (hp : p.length ≤ 1000000) (hC : p.length ≤ C) (hC' : C ≤ maxLen) (HA : ByAt w A p) :
    RRA (w.alloc (.cells #[.slice A p.length C, .int .i64 0] 47)) w.heap.size A C p (some p) := by
  have hb : Below w.heap.size w (w.alloc (.cells #[.slice A p.length C, .int .i64 0] 47)) := (Below.refl w.heap.size w).alloc (Nat.le_refl _) _
  refine ⟨by rw [atR_whole]; exact heap_alloc_new' w _, hC, hC', HA.keep hb, fun q h => ⟨0, Nat.zero_le _, by injection h with h; rw [← h]; rfl⟩, fun a ha h0 e => ?_, hp⟩
  obtain ⟨-, g, off, e2, hg, -⟩ := HA 0 (p[0]'h0) (List.getElem?_eq_getElem h0)
  rw [ha] at e2; injection e2 with e2; rw [e2] at e; simp at e; omega
set_option maxHeartbeats 2000000 in
theorem refReadInts_any (A : Option Addr) (C : Nat) (p : List Nat) (n : Nat) (hn : Hid (n = p.length)) (hn4 : n ≤ 1000000) (hC : n ≤ C) (hC' : C ≤ maxLen) (w : World) (HA : Hid (ByAt w A p))
    (HINTS : Hid (∀ (m : Nat) (w : World), Hid (RRA w m A C p (some p)) → Calls Tryd.prog 39 #[.pointer (some ⟨m, 0, none⟩)] w (RIEnds w m C A p (riL p)))) :
    Calls Tryd.prog 15 #[.slice A n C] w (RREnds w (riL p)) := by
  have HR : Hid (RRA (w.alloc (.cells #[.slice A n C, .int .i64 0] 47)) w.heap.size A C p (some p)) := Lib.hid (by rw [hn.out]; exact rra_new (by have := hn.out; omega) (by have := hn.out; omega) hC' HA.out)
  have HB1 : Hid (Below w.heap.size w (w.alloc (.cells #[.slice A n C, .int .i64 0] 47))) := Lib.hid ((Below.refl w.heap.size w).alloc (Nat.le_refl _) _)
  have HI := Lib.hid (HINTS.out w.heap.size _ HR)
  have hpn : (p.length : Int) = (n : Int) := by have := hn.out; omega
  rcases ho : riL p with _ | l
  · rw [ho] at HI
    go_enter Tryd.func15, Tryd.ntmps15
    go_wp2_with (go_at_call 39; refine (HI.out).mono ?_; rintro e w2 ⟨A', n', cap', s', rfl, h1, h2, h3⟩; have c1 := h2.c1; have hne := atR_ne (p := p) h1; rw [hpn] at hne; have HB2 := Lib.hid (HB1.out.trans (h3.below (B := w.heap.size) (by simp) fun k hk => by have hk : k = w.heap.size := hk; omega)); clear h1 h2 h3)
    go_ret2
    exact ⟨rfl, HB2.out⟩
  · rw [ho] at HI
    have hnn : ((n : Int) != (n : Int)) = false := by simp
    go_enter Tryd.func15, Tryd.ntmps15
    go_wp2_with (go_at_call 39; refine (HI.out).mono ?_; rintro e w2 ⟨⟨A', n', cap', rfl, h1⟩, h2, h3⟩; have HOW := Lib.hid (h1.more (B' := w.heap.size) (by simp)); have c1 : w2.cell? ⟨w.heap.size, 1, none⟩ = some (.int .i64 (n : Int)) := (by have := h2.c1; rw [this]; have e : atR p (some []) = (n : Int) := (by show (p.length : Int) - (([] : List Nat).length : Int) = _; rw [List.length_nil]; omega); rw [e]); have HB2 := Lib.hid (HB1.out.trans (h3.below (B := w.heap.size) (by simp) fun k hk => by have hk : k = w.heap.size := hk; omega)); clear h1 h2 h3)
    go_ret2
    exact ⟨⟨A', n', cap', rfl, HOW.out⟩, HB2.out⟩
end Go.Proofs.YtpobfgokikfmbaaDoor
