/-
  Layer column: the law ColumnReads: walked.
-/
import Derived.Test.YtpobfgokikfmbaaQPtexts11
import Derived.Test.YtpobfgokikfmbaaQPtexts3
import Derived.Test.YtpobfgokikfmbaaQPtexts2
import Derived.Test.YtpobfgokikfmbaaQPtexts5
import Derived.ProofKit
import Derived.Laws.Cover2
import Derived.WideKeyArgs
import Derived.Carry
import Derived.Deep.Slices
import Derived.Test.YtpobfgokikfmbaaQPtexts1
import Derived.SliceStrings
import Derived.Test.YtpobfgokikfmbaaQPtexts9
set_option linter.unusedSimpArgs false
set_option linter.unusedVariables false
set_option maxRecDepth 100000
namespace Go.Proofs.Ytpobfgokikfmbaa
open Go.RowKit Go.WideShapes Col
set_option maxHeartbeats 2000000 in
theorem sameT_any (A B : Option Addr) (n c d : Nat) (l : List (List Nat)) (hn : Hid (n = l.length)) (hn9 : n ≤ 1000000) (W : World) (HA : Hid (TxAt W A l)) (HB : Hid (TxAt W B l)) :
    Calls Try.prog 24 #[.slice A n c, .slice B n d] W fun e w' => e = .returned (.bool true) ∧ Below W.heap.size W w' := by
  have hnn : ((n : Int) != (n : Int)) = false := by simp
  go_enter Try.func24, Try.ntmps24
  go_wp2
  go_loopw [5] (fun v wr => ∃ k : Nat, k ≤ n ∧ v = .int .i64 (k : Int) ∧ Below W.heap.size W wr) (fun v _ => n - (intOf v).toNat)
  case atStart => exact ⟨0, Nat.zero_le _, rfl, Below.refl _ _⟩
  case round =>
    obtain ⟨k, hk, rfl, hb⟩ := hrel
    have HBW := Lib.hid hb
    clear hb
    by_cases hlt : k < n
    · obtain ⟨x, hx⟩ : ∃ x, l[k]? = some x := ⟨l[k]'(by have := hn.out; omega), List.getElem?_eq_getElem _⟩
      obtain ⟨-, ga, oa, rfl, hga, hca⟩ := (HA.out.keep HBW.out) k x hx
      obtain ⟨-, gb, ob, rfl, hgb, hcb⟩ := (HB.out.keep HBW.out) k x hx
      have HGA := Lib.hid hga; have HGB := Lib.hid hgb; have HCA := Lib.hid hca; have HCB := Lib.hid hcb
      have hki : (k : Int) < (n : Int) := by omega
      have hxx : ((strB x).toList == (strB x).toList) = true := by simp
      clear hx hga hgb hca hcb
      go_upto_region 6 with fail
      refine wp_region_held_drew (S := fun w => Below wr.heap.size wr w) (by kernel_rfl) ((Below.refl _ _).drew) (fun hHeld => ?_)
      refine wpAnyH_take (i := 0) (v := .slice (some ⟨ga, oa, none⟩) n c) rfl (by kernel_rfl) (by kernel_rfl) (by kernel_rfl) (fun _ _ _ h => h) (Or.inl ⟨by rfl, fun _ _ => rfl⟩) hHeld ?_
      try dsimp only
      try simp only [Act.put, List.getElem_toArray, List.getElem_cons_zero, List.getElem_cons_succ, List.setIfInBounds_toArray, List.set_cons_zero, List.set_cons_succ]
      refine wpAnyH_take (i := 1) (v := .int .i64 (k : Int)) rfl (by kernel_rfl) (by kernel_rfl) (by kernel_rfl) (fun _ _ _ h => h) (Or.inl ⟨by rfl, fun _ _ => rfl⟩) hHeld ?_
      try dsimp only
      try simp only [Act.put, List.getElem_toArray, List.getElem_cons_zero, List.getElem_cons_succ, List.setIfInBounds_toArray, List.set_cons_zero, List.set_cons_succ]
      refine wpAnyH_take (i := 2) (v := .pointer (some ⟨ga, oa + k, none⟩)) rfl (by kernel_rfl) (by kernel_rfl) (by kernel_rfl) (fun _ _ _ h => h) (Or.inl ⟨by rfl, fun w _ => by first | (go_simp; done) | (go_simp; intro h; exfalso; omega)⟩) hHeld ?_
      try dsimp only
      try simp only [Act.put, List.getElem_toArray, List.getElem_cons_zero, List.getElem_cons_succ, List.setIfInBounds_toArray, List.set_cons_zero, List.set_cons_succ]
      refine wpAnyH_take (i := 3) (v := .string (strB x)) rfl (by kernel_rfl) (by kernel_rfl) (by kernel_rfl) (fun _ _ _ h => h) (Or.inl ⟨by rfl, fun w hw => by have hc : w.cell? ⟨ga, oa + k, none⟩ = some (.string (strB x)) := (hw.cell (p := ⟨ga, oa + k, none⟩) HGA.out).trans HCA.out; go_simp⟩) hHeld ?_
      try dsimp only
      try simp only [Act.put, List.getElem_toArray, List.getElem_cons_zero, List.getElem_cons_succ, List.setIfInBounds_toArray, List.set_cons_zero, List.set_cons_succ]
      refine wpAnyH_take (i := 4) (v := .slice (some ⟨gb, ob, none⟩) n d) rfl (by kernel_rfl) (by kernel_rfl) (by kernel_rfl) (fun _ _ _ h => h) (Or.inl ⟨by rfl, fun _ _ => rfl⟩) hHeld ?_
      try dsimp only
      try simp only [Act.put, List.getElem_toArray, List.getElem_cons_zero, List.getElem_cons_succ, List.setIfInBounds_toArray, List.set_cons_zero, List.set_cons_succ]
      refine wpAnyH_take (i := 5) (v := .int .i64 (k : Int)) rfl (by kernel_rfl) (by kernel_rfl) (by kernel_rfl) (fun _ _ _ h => h) (Or.inl ⟨by rfl, fun _ _ => rfl⟩) hHeld ?_
      try dsimp only
      try simp only [Act.put, List.getElem_toArray, List.getElem_cons_zero, List.getElem_cons_succ, List.setIfInBounds_toArray, List.set_cons_zero, List.set_cons_succ]
      refine wpAnyH_take (i := 6) (v := .pointer (some ⟨gb, ob + k, none⟩)) rfl (by kernel_rfl) (by kernel_rfl) (by kernel_rfl) (fun _ _ _ h => h) (Or.inl ⟨by rfl, fun w _ => by first | (go_simp; done) | (go_simp; intro h; exfalso; omega)⟩) hHeld ?_
      try dsimp only
      try simp only [Act.put, List.getElem_toArray, List.getElem_cons_zero, List.getElem_cons_succ, List.setIfInBounds_toArray, List.set_cons_zero, List.set_cons_succ]
      refine wpAnyH_take (i := 7) (v := .string (strB x)) rfl (by kernel_rfl) (by kernel_rfl) (by kernel_rfl) (fun _ _ _ h => h) (Or.inl ⟨by rfl, fun w hw => by have hc : w.cell? ⟨gb, ob + k, none⟩ = some (.string (strB x)) := (hw.cell (p := ⟨gb, ob + k, none⟩) HGB.out).trans HCB.out; go_simp⟩) hHeld ?_
      try dsimp only
      try simp only [Act.put, List.getElem_toArray, List.getElem_cons_zero, List.getElem_cons_succ, List.setIfInBounds_toArray, List.set_cons_zero, List.set_cons_succ]
      refine wpAnyH_ready (rs := [8]) (by kernel_rfl) (by simp) (AllReadyH.cons rfl (fun K hK => ?_) AllReadyH.nil)
      go_simp
      refine hK.out _ _ hHeld (fun hHeld => ?_)
      clear hK K
      try dsimp only
      try simp only [Act.put, List.getElem_toArray, List.getElem_cons_zero, List.getElem_cons_succ, List.setIfInBounds_toArray, List.set_cons_zero, List.set_cons_succ]
      refine wpAnyH_done (by kernel_rfl) ?_ _
      have HB9 := Lib.hid (below_to HBW.out hHeld)
      clear hHeld
      go_wp2
      go_roundw
      case rel => exact ⟨k + 1, by omega, by go_num, HB9.out⟩
      case measure => simp [intOf]; omega
    · obtain rfl : k = n := by omega
      go_wp2
      go_ret
      exact ⟨rfl, HBW.out⟩

def OkErr (b : Bool) (E : Int) : Prop := b = true ∧ E = 0 ∨ b = false ∧ E = 3
set_option maxHeartbeats 32000000 in
theorem columnReads_walk (A : Option Addr) (C np : Nat) (hnp : np ≤ 2000) (E1 E2 E3 : Int) (b1 b2 b3 : Bool) (h1 : OkErr b1 E1) (h2 : OkErr b2 E2) (h3 : OkErr b3 E3) (l1 : List Int) (l2 : List (List Nat)) (l3 : List Nat)
    (s1 : l1.length ≤ 1000000) (s2 : l2.length ≤ 1000000) (s3 : l3.length ≤ 1000000) (W : World)
    (I1 : Hid (∀ w : World, Below W.heap.size W w → Calls Try.prog 15 #[.slice A np C] w fun e w' => ∃ (A' : Option Addr) (n' c' : Nat), e = .returned (.tuple #[.slice A' n' c', .int .i64 E1]) ∧ n' = l1.length ∧ IsAt w' A' l1 ∧ Below w.heap.size w w'))
    (J1 : Hid (∀ w : World, Below W.heap.size W w → Calls Try.prog 18 #[.slice A np C] w fun e w' => ∃ (A' : Option Addr) (n' c' : Nat), e = .returned (.tuple #[.slice A' n' c', .bool b1]) ∧ n' = l1.length ∧ IsAt w' A' l1 ∧ Below w.heap.size w w'))
    (I2 : Hid (∀ w : World, Below W.heap.size W w → Calls Try.prog 19 #[.slice A np C] w fun e w' => ∃ (A' : Option Addr) (n' c' : Nat), e = .returned (.tuple #[.slice A' n' c', .int .i64 E2]) ∧ n' = l2.length ∧ TxAt w' A' l2 ∧ Below w.heap.size w w'))
    (J2 : Hid (∀ w : World, Below W.heap.size W w → Calls Try.prog 20 #[.slice A np C] w fun e w' => ∃ (A' : Option Addr) (n' c' : Nat), e = .returned (.tuple #[.slice A' n' c', .bool b2]) ∧ n' = l2.length ∧ TxAt w' A' l2 ∧ Below w.heap.size w w'))
    (I3 : Hid (∀ w : World, Below W.heap.size W w → Calls Try.prog 21 #[.slice A np C] w fun e w' => ∃ (A' : Option Addr) (n' c' : Nat), e = .returned (.tuple #[.slice A' n' c', .int .i64 E3]) ∧ n' = l3.length ∧ FlAt w' A' l3 ∧ Below w.heap.size w w'))
    (J3 : Hid (∀ w : World, Below W.heap.size W w → Calls Try.prog 22 #[.slice A np C] w fun e w' => ∃ (A' : Option Addr) (n' c' : Nat), e = .returned (.tuple #[.slice A' n' c', .bool b3]) ∧ n' = l3.length ∧ FlAt w' A' l3 ∧ Below w.heap.size w w')) :
    Calls Try.prog 4 #[.slice A np C] W fun e w' => e = .returned (.bool true) ∧ Below W.heap.size W w' := by
  have S1 := Lib.hid s1; have S2 := Lib.hid s2; have S3 := Lib.hid s3
  clear s1 s2 s3
  rcases h3 with ⟨rfl, rfl⟩ | ⟨rfl, rfl⟩
  · rcases h1 with ⟨rfl, rfl⟩ | ⟨rfl, rfl⟩ <;> rcases h2 with ⟨rfl, rfl⟩ | ⟨rfl, rfl⟩
    all_goals
      go_enter Try.func4, Try.ntmps4
      go_upto_region 11 with (first
        | (go_at_call 11; refine (awakeC_any _).mono ?_; rintro e w1 ⟨rfl, hb⟩; have B0 := Lib.hid hb; clear hb)
        | (go_at_call 15; refine (I1.out _ B0.out).mono ?_; rintro e w2 ⟨A1, m1, c1, rfl, hl, ha, hb⟩; have L1 := Lib.hid hl; have T1 := Lib.hid ha; have K1 := Lib.hid hb; have B1 := Lib.hid (below_to B0.out hb); clear hl ha hb)
        | (go_at_call 18; refine (J1.out _ B1.out).mono ?_; rintro e w3 ⟨A2, m2, c2, rfl, hl, ha, hb⟩; have L2 := Lib.hid hl; have T2 := Lib.hid ha; have K2 := Lib.hid hb; have B2 := Lib.hid (below_to B1.out hb); clear hl ha hb)
        | (go_at_call 19; refine (I2.out _ B2.out).mono ?_; rintro e w4 ⟨A3, m3, c3, rfl, hl, ha, hb⟩; have L3 := Lib.hid hl; have T3 := Lib.hid ha; have K3 := Lib.hid hb; have B3 := Lib.hid (below_to B2.out hb); clear hl ha hb)
        | (go_at_call 20; refine (J2.out _ B3.out).mono ?_; rintro e w5 ⟨A4, m4, c4, rfl, hl, ha, hb⟩; have L4 := Lib.hid hl; have T4 := Lib.hid ha; have K4 := Lib.hid hb; have B4 := Lib.hid (below_to B3.out hb); clear hl ha hb)
        | (go_at_call 21; refine (I3.out _ B4.out).mono ?_; rintro e w6 ⟨A5, m5, c5, rfl, hl, ha, hb⟩; have L5 := Lib.hid hl; have T5 := Lib.hid ha; have K5 := Lib.hid hb; have B5 := Lib.hid (below_to B4.out hb); clear hl ha hb)
        | (go_at_call 22; refine (J3.out _ B5.out).mono ?_; rintro e w7 ⟨A6, m6, c6, rfl, hl, ha, hb⟩; have L6 := Lib.hid hl; have T6 := Lib.hid ha; have K6 := Lib.hid hb; have B6 := Lib.hid (below_to B5.out hb); clear hl ha hb))
      have U1 := Lib.hid (T1.out.keep (below_to (below_to (below_to (below_to (K2.out) K3.out) K4.out) K5.out) K6.out))
      have U2 := Lib.hid (T2.out.keep (below_to (below_to (below_to (K3.out) K4.out) K5.out) K6.out))
      have U3 := Lib.hid (T3.out.keep (below_to (below_to (K4.out) K5.out) K6.out))
      have U4 := Lib.hid (T4.out.keep (below_to (K5.out) K6.out))
      have U5 := Lib.hid (T5.out.keep (K6.out))
      have U6 := T6
      have hm1 : m1 ≤ 1000000 := by rw [L1.out]; exact S1.out
      have hm3 : m3 ≤ 1000000 := by rw [L3.out]; exact S2.out
      have hm5 : m5 ≤ 1000000 := by rw [L5.out]; exact S3.out
      obtain rfl : m2 = m1 := L2.out.trans L1.out.symm
      obtain rfl : m4 = m3 := L4.out.trans L3.out.symm
      obtain rfl : m6 = m5 := L6.out.trans L5.out.symm
      clear L2 L4 L6 T1 T2 T3 T4 T5 T6 K1 K2 K3 K4 K5 K6 B0 B1 B2 B3 B4 B5
      have hnn : ((m6 : Int) != (m6 : Int)) = false := by simp
      obtain ⟨w0, hw0⟩ : ∃ w0, w0 = w7 := ⟨w7, rfl⟩
      subst hw0
      go_wp2
      go_loopw [15] (fun v wk => ∃ k : Nat, k ≤ m6 ∧ v = .int .i64 (k : Int) ∧ Below w0.heap.size w0 wk) (fun v _ => m6 - (intOf v).toNat)
      case atStart => exact ⟨0, Nat.zero_le _, rfl, Below.refl _ _⟩
      case round =>
        obtain ⟨k, hk, rfl, hbk⟩ := hrel
        have HBK := Lib.hid hbk
        clear hbk
        by_cases hlt : k < m6
        · obtain ⟨x, hx⟩ : ∃ x, l3[k]? = some x := ⟨l3[k]'(by have := L5.out; omega), List.getElem?_eq_getElem _⟩
          obtain ⟨hx64, ga, oa, rfl, hga, hca⟩ := (U5.out.keep HBK.out) k x hx
          obtain ⟨-, gb, ob, rfl, hgb, hcb⟩ := (U6.out.keep HBK.out) k x hx
          have HGA := Lib.hid hga; have HGB := Lib.hid hgb; have HCA := Lib.hid hca; have HCB := Lib.hid hcb
          have hki : (k : Int) < (m6 : Int) := by omega
          have HSM := Lib.hid fun w => refSame_any x x hx64 hx64 w
          have hcc : decide (Fl.canon x = Fl.canon x) = true := by simp
          clear hx hga hgb hca hcb
          go_upto_region 17 with fail
          refine wp_region_held_drew (S := fun w => Below wr.heap.size wr w) (by kernel_rfl) ((Below.refl _ _).drew) (fun hHeld => ?_)
          refine wpAnyH_take (i := 0) (v := .slice (some ⟨ga, oa, none⟩) m6 c5) rfl (by kernel_rfl) (by kernel_rfl) (by kernel_rfl) (fun _ _ _ h => h) (Or.inl ⟨by rfl, fun _ _ => rfl⟩) hHeld ?_
          try dsimp only
          try simp only [Act.put, List.getElem_toArray, List.getElem_cons_zero, List.getElem_cons_succ, List.setIfInBounds_toArray, List.set_cons_zero, List.set_cons_succ]
          refine wpAnyH_take (i := 1) (v := .int .i64 (k : Int)) rfl (by kernel_rfl) (by kernel_rfl) (by kernel_rfl) (fun _ _ _ h => h) (Or.inl ⟨by rfl, fun _ _ => rfl⟩) hHeld ?_
          try dsimp only
          try simp only [Act.put, List.getElem_toArray, List.getElem_cons_zero, List.getElem_cons_succ, List.setIfInBounds_toArray, List.set_cons_zero, List.set_cons_succ]
          refine wpAnyH_take (i := 2) (v := .pointer (some ⟨ga, oa + k, none⟩)) rfl (by kernel_rfl) (by kernel_rfl) (by kernel_rfl) (fun _ _ _ h => h) (Or.inl ⟨by rfl, fun w _ => by first | (go_simp; done) | (go_simp; intro h; exfalso; omega)⟩) hHeld ?_
          try dsimp only
          try simp only [Act.put, List.getElem_toArray, List.getElem_cons_zero, List.getElem_cons_succ, List.setIfInBounds_toArray, List.set_cons_zero, List.set_cons_succ]
          refine wpAnyH_take (i := 3) (v := .float .f64 x) rfl (by kernel_rfl) (by kernel_rfl) (by kernel_rfl) (fun _ _ _ h => h) (Or.inl ⟨by rfl, fun w hw => by have hc : w.cell? ⟨ga, oa + k, none⟩ = some (.float .f64 x) := (hw.cell (p := ⟨ga, oa + k, none⟩) HGA.out).trans HCA.out; go_simp⟩) hHeld ?_
          try dsimp only
          try simp only [Act.put, List.getElem_toArray, List.getElem_cons_zero, List.getElem_cons_succ, List.setIfInBounds_toArray, List.set_cons_zero, List.set_cons_succ]
          refine wpAnyH_take (i := 4) (v := .slice (some ⟨gb, ob, none⟩) m6 c6) rfl (by kernel_rfl) (by kernel_rfl) (by kernel_rfl) (fun _ _ _ h => h) (Or.inl ⟨by rfl, fun _ _ => rfl⟩) hHeld ?_
          try dsimp only
          try simp only [Act.put, List.getElem_toArray, List.getElem_cons_zero, List.getElem_cons_succ, List.setIfInBounds_toArray, List.set_cons_zero, List.set_cons_succ]
          refine wpAnyH_take (i := 5) (v := .int .i64 (k : Int)) rfl (by kernel_rfl) (by kernel_rfl) (by kernel_rfl) (fun _ _ _ h => h) (Or.inl ⟨by rfl, fun _ _ => rfl⟩) hHeld ?_
          try dsimp only
          try simp only [Act.put, List.getElem_toArray, List.getElem_cons_zero, List.getElem_cons_succ, List.setIfInBounds_toArray, List.set_cons_zero, List.set_cons_succ]
          refine wpAnyH_take (i := 6) (v := .pointer (some ⟨gb, ob + k, none⟩)) rfl (by kernel_rfl) (by kernel_rfl) (by kernel_rfl) (fun _ _ _ h => h) (Or.inl ⟨by rfl, fun w _ => by first | (go_simp; done) | (go_simp; intro h; exfalso; omega)⟩) hHeld ?_
          try dsimp only
          try simp only [Act.put, List.getElem_toArray, List.getElem_cons_zero, List.getElem_cons_succ, List.setIfInBounds_toArray, List.set_cons_zero, List.set_cons_succ]
          refine wpAnyH_take (i := 7) (v := .float .f64 x) rfl (by kernel_rfl) (by kernel_rfl) (by kernel_rfl) (fun _ _ _ h => h) (Or.inl ⟨by rfl, fun w hw => by have hc : w.cell? ⟨gb, ob + k, none⟩ = some (.float .f64 x) := (hw.cell (p := ⟨gb, ob + k, none⟩) HGB.out).trans HCB.out; go_simp⟩) hHeld ?_
          try dsimp only
          try simp only [Act.put, List.getElem_toArray, List.getElem_cons_zero, List.getElem_cons_succ, List.setIfInBounds_toArray, List.set_cons_zero, List.set_cons_succ]
          refine wpAnyH_ready (rs := [8]) (by kernel_rfl) (by simp) (AllReadyH.cons rfl (fun K hK => ?_) AllReadyH.nil)
          go_simp
          refine (HSM.out _).mono ?_
          rintro e w9 ⟨rfl, rfl⟩
          rw [hcc]
          refine hK.out _ _ hHeld (fun hHeld => ?_)
          clear hK K
          try dsimp only
          try simp only [Act.put, List.getElem_toArray, List.getElem_cons_zero, List.getElem_cons_succ, List.setIfInBounds_toArray, List.set_cons_zero, List.set_cons_succ]
          refine wpAnyH_take (i := 9) (v := .bool false) rfl (by kernel_rfl) (by kernel_rfl) (by kernel_rfl) (fun _ _ _ h => h) (Or.inl ⟨by rfl, fun w _ => by go_simp⟩) hHeld ?_
          try dsimp only
          try simp only [Act.put, List.getElem_toArray, List.getElem_cons_zero, List.getElem_cons_succ, List.setIfInBounds_toArray, List.set_cons_zero, List.set_cons_succ]
          refine wpAnyH_done (by kernel_rfl) ?_ _
          have HB9 := Lib.hid (below_to HBK.out hHeld)
          clear hHeld
          go_wp2
          go_roundw
          case rel => exact ⟨k + 1, by omega, by go_num, HB9.out⟩
          case measure => simp [intOf]; omega
        · obtain rfl : k = m6 := by omega
          have BX := Lib.hid (below_to B6.out HBK.out)
          have V1 := Lib.hid (U1.out.keep HBK.out); have V2 := Lib.hid (U2.out.keep HBK.out)
          have V3 := Lib.hid (U3.out.keep HBK.out); have V4 := Lib.hid (U4.out.keep HBK.out)
          go_wp2_with (first
            | (go_at_call 17; refine (sameI_any A1 A2 m2 c1 c2 l1 L1 hm1 _ V1 V2).mono ?_; rintro e w8 ⟨rfl, hb⟩; have X1 := Lib.hid hb; clear hb)
            | (go_at_call 24; refine (sameT_any A3 A4 m4 c3 c4 l2 L3 hm3 _ (Lib.hid (V3.out.keep X1.out)) (Lib.hid (V4.out.keep X1.out))).mono ?_; rintro e w9 ⟨rfl, hb⟩; have X2 := Lib.hid hb; clear hb))
          go_ret
          exact ⟨rfl, below_to (below_to BX.out X1.out) X2.out⟩
  · rcases h1 with ⟨rfl, rfl⟩ | ⟨rfl, rfl⟩ <;> rcases h2 with ⟨rfl, rfl⟩ | ⟨rfl, rfl⟩
    all_goals
      go_enter Try.func4, Try.ntmps4
      go_upto_region 11 with (first
        | (go_at_call 11; refine (awakeC_any _).mono ?_; rintro e w1 ⟨rfl, hb⟩; have B0 := Lib.hid hb; clear hb)
        | (go_at_call 15; refine (I1.out _ B0.out).mono ?_; rintro e w2 ⟨A1, m1, c1, rfl, hl, ha, hb⟩; have L1 := Lib.hid hl; have T1 := Lib.hid ha; have K1 := Lib.hid hb; have B1 := Lib.hid (below_to B0.out hb); clear hl ha hb)
        | (go_at_call 18; refine (J1.out _ B1.out).mono ?_; rintro e w3 ⟨A2, m2, c2, rfl, hl, ha, hb⟩; have L2 := Lib.hid hl; have T2 := Lib.hid ha; have K2 := Lib.hid hb; have B2 := Lib.hid (below_to B1.out hb); clear hl ha hb)
        | (go_at_call 19; refine (I2.out _ B2.out).mono ?_; rintro e w4 ⟨A3, m3, c3, rfl, hl, ha, hb⟩; have L3 := Lib.hid hl; have T3 := Lib.hid ha; have K3 := Lib.hid hb; have B3 := Lib.hid (below_to B2.out hb); clear hl ha hb)
        | (go_at_call 20; refine (J2.out _ B3.out).mono ?_; rintro e w5 ⟨A4, m4, c4, rfl, hl, ha, hb⟩; have L4 := Lib.hid hl; have T4 := Lib.hid ha; have K4 := Lib.hid hb; have B4 := Lib.hid (below_to B3.out hb); clear hl ha hb)
        | (go_at_call 21; refine (I3.out _ B4.out).mono ?_; rintro e w6 ⟨A5, m5, c5, rfl, hl, ha, hb⟩; have L5 := Lib.hid hl; have T5 := Lib.hid ha; have K5 := Lib.hid hb; have B5 := Lib.hid (below_to B4.out hb); clear hl ha hb)
        | (go_at_call 22; refine (J3.out _ B5.out).mono ?_; rintro e w7 ⟨A6, m6, c6, rfl, hl, ha, hb⟩; have L6 := Lib.hid hl; have T6 := Lib.hid ha; have K6 := Lib.hid hb; have B6 := Lib.hid (below_to B5.out hb); clear hl ha hb))
      have U1 := Lib.hid (T1.out.keep (below_to (below_to (below_to (below_to (K2.out) K3.out) K4.out) K5.out) K6.out))
      have U2 := Lib.hid (T2.out.keep (below_to (below_to (below_to (K3.out) K4.out) K5.out) K6.out))
      have U3 := Lib.hid (T3.out.keep (below_to (below_to (K4.out) K5.out) K6.out))
      have U4 := Lib.hid (T4.out.keep (below_to (K5.out) K6.out))
      have U5 := Lib.hid (T5.out.keep (K6.out))
      have U6 := T6
      have hm1 : m1 ≤ 1000000 := by rw [L1.out]; exact S1.out
      have hm3 : m3 ≤ 1000000 := by rw [L3.out]; exact S2.out
      have hm5 : m5 ≤ 1000000 := by rw [L5.out]; exact S3.out
      obtain rfl : m2 = m1 := L2.out.trans L1.out.symm
      obtain rfl : m4 = m3 := L4.out.trans L3.out.symm
      obtain rfl : m6 = m5 := L6.out.trans L5.out.symm
      clear L2 L4 L6 T1 T2 T3 T4 T5 T6 K1 K2 K3 K4 K5 K6 B0 B1 B2 B3 B4 B5
      have BX := B6
      have V1 := U1; have V2 := U2; have V3 := U3; have V4 := U4
      go_wp2_with (first
        | (go_at_call 17; refine (sameI_any A1 A2 m2 c1 c2 l1 L1 hm1 _ V1 V2).mono ?_; rintro e w8 ⟨rfl, hb⟩; have X1 := Lib.hid hb; clear hb)
        | (go_at_call 24; refine (sameT_any A3 A4 m4 c3 c4 l2 L3 hm3 _ (Lib.hid (V3.out.keep X1.out)) (Lib.hid (V4.out.keep X1.out))).mono ?_; rintro e w9 ⟨rfl, hb⟩; have X2 := Lib.hid hb; clear hb))
      go_ret
      exact ⟨rfl, below_to (below_to BX.out X1.out) X2.out⟩
end Go.Proofs.Ytpobfgokikfmbaa

set_option linter.unusedSimpArgs false
set_option linter.unusedVariables false
set_option maxRecDepth 8000
namespace Go.Proofs.Ytpobfgokikfmbaa
open Go.RowKit Go.WideShapes Col
theorem b_eqls (s : ByteArray) (w : World) : (binOp .eql 9 (.string s) (.string s)).run Try.prog w = .ok (.bool true) w := by
  simp [binOp, Op.stringOp]
theorem flat_le (ts : List (List Nat)) (h : ∀ s ∈ ts, s.length ≤ 32) : ((ts.map txL).flatten).length ≤ 42 * ts.length := by
  induction ts with
  | nil => exact Nat.le_refl _
  | cons a r ih =>
    have h1 := ih fun s hs => h s (by simp [hs])
    have h2 := h a (by simp)
    have h3 := ub10 (show a.length < 18446744073709551616 by omega)
    have h4 : (txL a).length = (ub a.length).length + a.length := by unfold txL; rw [List.length_append]
    rw [List.map_cons, List.flatten_cons, List.length_append, List.length_cons]
    omega
theorem textsL_le (l : List (List Nat)) (hw : ∀ x ∈ l, WfT x) (h32 : ∀ y ∈ l, y.length ≤ 32) (hn : l.length ≤ 4096) : (textsL l).length ≤ 2000000 := by
  have hu := uqL_len l
  have h1 := flat_le (uqL l) fun s hs => h32 s (((uqL_facts l hw).2 s).1 hs)
  have h2 := ub10 (show (uqL l).length < 18446744073709551616 by omega)
  have h3 := ints_few (l.map fun x => (plc (uqL l) x : Int)) (fun x hx => by obtain ⟨y, -, rfl⟩ := List.mem_map.1 hx; exact plc_wf (uqL l) (by omega) y) (by rw [List.length_map]; omega)
  unfold textsL
  rw [List.length_append, List.length_append]
  omega
set_option maxHeartbeats 8000000 in
theorem columnTexts_core (A0 : Option Addr) (l : List (List Nat)) (n c : Nat) (hn : Hid (n = l.length)) (hnc : n ≤ c) (hc : c ≤ 9223372036854775807) (W : World) (HA : Hid (TxAt W A0 l)) :
    Calls Try.prog 5 #[.slice A0 n c] W fun e w' => e = .returned (.bool true) ∧ Below W.heap.size W w' := by
  by_cases h100 : n ≤ 100
  · have HWF := Lib.hid HA.out.wf
    go_enter Try.func5, Try.ntmps5
    go_wp2_with (go_at_call 11; refine (awakeC_any _).mono ?_; rintro e w1 ⟨rfl, hb⟩; have HB1 := Lib.hid hb; clear hb)
    go_loopw [3] (fun v wr => ∃ j : Nat, j ≤ n ∧ v = .int .i64 (j : Int) ∧ (∀ y ∈ l.take j, y.length ≤ 32) ∧ Below W.heap.size W wr) (fun v _ => n - (intOf v).toNat)
    case atStart => exact ⟨0, Nat.zero_le _, rfl, (fun y hy => by rw [List.take_zero] at hy; cases hy), HB1.out⟩
    case round =>
      obtain ⟨j, hj, rfl, h32, hb⟩ := hrel
      have HS := Lib.hid h32; have HBR := Lib.hid hb
      clear h32 hb HB1
      by_cases hjn : j < n
      · have hji : (j : Int) < (n : Int) := by omega
        obtain ⟨x, hx⟩ : ∃ x, l[j]? = some x := ⟨l[j]'(by have := hn.out; omega), List.getElem?_eq_getElem _⟩
        obtain ⟨hxw, g, off, rfl, -, hcx⟩ := (HA.out.keep HBR.out) j x hx
        have HX := Lib.hid hx
        obtain ⟨q, hq⟩ : ∃ q, q = x.length := ⟨_, rfl⟩
        have HQ := Lib.hid hq
        have hsz : (strB x).size = q := by rw [strB_size, hq]
        clear hx hq
        by_cases h32 : 32 < q
        · have h32i : (32 : Int) < (q : Int) := by omega
          go_wp2
          go_ret
          exact ⟨rfl, HBR.out⟩
        · have h32i : ¬ (32 : Int) < (q : Int) := by omega
          go_wp2
          go_roundw
          case rel =>
            refine ⟨j + 1, by omega, by go_num, fun y hy => ?_, HBR.out⟩
            rw [List.take_add_one, HX.out, List.mem_append] at hy
            rcases hy with h | h
            · exact HS.out y h
            · simp at h; subst h; have := HQ.out; omega
          case measure => simp [intOf]; omega
      · obtain rfl : j = n := by omega
        have hji : ¬ (j : Int) < (j : Int) := by omega
        have HL32 : Hid (∀ y ∈ l, y.length ≤ 32) := Lib.hid fun y hy => HS.out y (by rw [List.take_of_length_le (by have := hn.out; omega)]; exact hy)
        have HRT : Hid (rTL (textsL l) = some l) := Lib.hid (by unfold rTL; rw [texts_back l HWF.out HL32.out (by have := hn.out; omega)])
        have HLN : Hid ((textsL l).length ≤ 2000000) := Lib.hid (textsL_le l HWF.out HL32.out (by have := hn.out; omega))
        clear HS
        go_upto_region 10 with (first
          | (go_at_call 25; refine (textsC_any A0 j c l hn (by omega) (Lib.hid fun y hy => Nat.le_trans (HL32.out y hy) (by decide)) _ (Lib.hid (HA.out.keep HBR.out))).mono ?_; rintro e w8 ⟨A8, n8, c8, rfl, h1, h2, h3⟩; have HO8 := Lib.hid h1; have HB8 := Lib.hid (below_to HBR.out h2); have HN8 := Lib.hid h1.len; have hRT := readTextsC_any A8 c8 (textsL l) n8 HN8 (by have := h1.len; have := HLN.out; omega) h1.caps.1 h1.caps.2 w8 (Lib.hid h1.byAt); rw [HRT.out] at hRT; have HRD := Lib.hid hRT; clear h1 h2 h3 hRT)
          | (go_at_call 19; (refine (HRD.out).mono ?_); rintro e w9 ⟨⟨L9, m9, rfl, hm9, h1⟩, h2⟩; obtain rfl : m9 = j := (by have e2 := hn.out; omega); have HO9 : Hid (TxAt w9 (some ⟨L9, 0, none⟩) l) := Lib.hid (TxAt.of_row l HWF.out h1 ⟨[], by simp⟩); have HBY9 := Lib.hid (HO8.out.byAt.keep h2); have HBV := Lib.hid (below_to HB8.out h2); clear h1 h2 hm9))
        have HREF := Lib.hid (refTexts_any A0 m9 c l hn hnc hc (by omega) (Lib.hid fun y hy => Nat.le_trans (HL32.out y hy) (by decide)) w9.drew (Lib.hid (HA.out.keep (below_to HBV.out ((Below.refl _ _).drew)))))
        refine wp_region_held_drew (S := fun w => Below w9.heap.size w9 w) (by kernel_rfl) ((Below.refl _ _).drew) (fun hHeld => ?_)
        refine wpAnyH_take (i := 0) (v := .slice A8 n8 c8) rfl (by kernel_rfl) (by kernel_rfl) (by kernel_rfl) (fun _ _ _ h => h) (Or.inl ⟨by rfl, fun _ _ => rfl⟩) hHeld ?_
        try dsimp only
        try simp only [Act.put, List.getElem_toArray, List.getElem_cons_zero, List.getElem_cons_succ, List.setIfInBounds_toArray, List.set_cons_zero, List.set_cons_succ]
        refine wpAnyH_take (i := 1) (v := .string (strB (textsL l))) rfl (by kernel_rfl) (by kernel_rfl) (by kernel_rfl) (fun _ _ _ h => h) (yb_conv rfl (.tmp 34) rfl _ _ rfl (fun w hw => conv_by n8 c8 (HBY9.out.keep hw) HN8.out)) hHeld ?_
        try dsimp only
        try simp only [Act.put, List.getElem_toArray, List.getElem_cons_zero, List.getElem_cons_succ, List.setIfInBounds_toArray, List.set_cons_zero, List.set_cons_succ]
        refine wpAnyH_take (i := 2) (v := .slice A0 m9 c) rfl (by kernel_rfl) (by kernel_rfl) (by kernel_rfl) (fun _ _ _ h => h) (Or.inl ⟨by rfl, fun _ _ => rfl⟩) hHeld ?_
        try dsimp only
        try simp only [Act.put, List.getElem_toArray, List.getElem_cons_zero, List.getElem_cons_succ, List.setIfInBounds_toArray, List.set_cons_zero, List.set_cons_succ]
        refine wpAnyH_ready (rs := [3]) (by kernel_rfl) (by simp) (AllReadyH.cons rfl (fun K hK => ?_) AllReadyH.nil)
        go_simp
        refine (HREF.out).mono ?_
        rintro e v1 ⟨A3, n3, c3, rfl, h1, h2, h3⟩; have hb3 := below_to ((Below.refl w9.heap.size w9).drew) h2; have HCV := Lib.hid (conv_by n3 c3 h1.byAt h1.len); clear h1 h2 h3
        refine hK.out _ _ hb3 (fun hHeld => ?_)
        clear hK K
        try dsimp only
        try simp only [Act.put, List.getElem_toArray, List.getElem_cons_zero, List.getElem_cons_succ, List.setIfInBounds_toArray, List.set_cons_zero, List.set_cons_succ]
        have hcv := HCV.out
        refine wpAnyH_ready (rs := [4]) (by kernel_rfl) (by simp) (AllReadyH.cons rfl (fun K hK => ?_) AllReadyH.nil)
        go_simp
        refine hK.out _ _ hb3 (fun hHeld => ?_)
        clear hK K
        try dsimp only
        try simp only [Act.put, List.getElem_toArray, List.getElem_cons_zero, List.getElem_cons_succ, List.setIfInBounds_toArray, List.set_cons_zero, List.set_cons_succ]
        refine wpAnyH_take (i := 5) (v := .bool true) rfl (by kernel_rfl) (by kernel_rfl) (by kernel_rfl) (fun _ _ _ h => h) (yb_bin rfl .eql 9 9 (.tmp 35) (.tmp 38) rfl _ _ _ rfl rfl (fun _ => rfl) (b_eqls _)) hHeld ?_
        try dsimp only
        try simp only [Act.put, List.getElem_toArray, List.getElem_cons_zero, List.getElem_cons_succ, List.setIfInBounds_toArray, List.set_cons_zero, List.set_cons_succ]
        refine wpAnyH_take (i := 6) (v := .bool true) rfl (by kernel_rfl) (by kernel_rfl) (by kernel_rfl) (fun _ _ _ h => h) (Or.inl ⟨by rfl, fun _ _ => rfl⟩) hHeld ?_
        try dsimp only
        try simp only [Act.put, List.getElem_toArray, List.getElem_cons_zero, List.getElem_cons_succ, List.setIfInBounds_toArray, List.set_cons_zero, List.set_cons_succ]
        refine wpAnyH_take (i := 7) (v := .int .i64 0) rfl (by kernel_rfl) (by kernel_rfl) (by kernel_rfl) (fun _ _ _ h => h) (Or.inl ⟨by rfl, fun _ _ => rfl⟩) hHeld ?_
        try dsimp only
        try simp only [Act.put, List.getElem_toArray, List.getElem_cons_zero, List.getElem_cons_succ, List.setIfInBounds_toArray, List.set_cons_zero, List.set_cons_succ]
        refine wpAnyH_take (i := 8) (v := .bool true) rfl (by kernel_rfl) (by kernel_rfl) (by kernel_rfl) (fun _ _ _ h => h) (Or.inl ⟨by rfl, fun w _ => by go_simp⟩) hHeld ?_
        try dsimp only
        try simp only [Act.put, List.getElem_toArray, List.getElem_cons_zero, List.getElem_cons_succ, List.setIfInBounds_toArray, List.set_cons_zero, List.set_cons_succ]
        refine wpAnyH_take (i := 9) (v := .bool true) rfl (by kernel_rfl) (by kernel_rfl) (by kernel_rfl) (fun _ _ _ h => h) (yb_pick rfl (.tmp 40) (.tmp 42) (.const (.bool false)) rfl true _ rfl rfl) hHeld ?_
        try dsimp only
        try simp only [Act.put, List.getElem_toArray, List.getElem_cons_zero, List.getElem_cons_succ, List.setIfInBounds_toArray, List.set_cons_zero, List.set_cons_succ]
        refine wpAnyH_take (i := 10) (v := .bool true) rfl (by kernel_rfl) (by kernel_rfl) (by kernel_rfl) (fun _ _ _ h => h) (Or.inl ⟨by rfl, fun _ _ => rfl⟩) hHeld ?_
        try dsimp only
        try simp only [Act.put, List.getElem_toArray, List.getElem_cons_zero, List.getElem_cons_succ, List.setIfInBounds_toArray, List.set_cons_zero, List.set_cons_succ]
        refine wpAnyH_take (i := 11) (v := .slice (some ⟨L9, 0, none⟩) m9 m9) rfl (by kernel_rfl) (by kernel_rfl) (by kernel_rfl) (fun _ _ _ h => h) (Or.inl ⟨by rfl, fun _ _ => rfl⟩) hHeld ?_
        try dsimp only
        try simp only [Act.put, List.getElem_toArray, List.getElem_cons_zero, List.getElem_cons_succ, List.setIfInBounds_toArray, List.set_cons_zero, List.set_cons_succ]
        refine wpAnyH_take (i := 12) (v := .slice A0 m9 c) rfl (by kernel_rfl) (by kernel_rfl) (by kernel_rfl) (fun _ _ _ h => h) (Or.inl ⟨by rfl, fun _ _ => rfl⟩) hHeld ?_
        try dsimp only
        try simp only [Act.put, List.getElem_toArray, List.getElem_cons_zero, List.getElem_cons_succ, List.setIfInBounds_toArray, List.set_cons_zero, List.set_cons_succ]
        have HSAME := Lib.hid (sameT_any (some ⟨L9, 0, none⟩) A0 m9 m9 c l hn (by omega) v1 (Lib.hid (HO9.out.keep hb3)) (Lib.hid (HA.out.keep (below_to HBV.out hb3))))
        refine wpAnyH_ready (rs := [13]) (by kernel_rfl) (by simp) (AllReadyH.cons rfl (fun K hK => ?_) AllReadyH.nil)
        go_simp
        refine (HSAME.out).mono ?_
        rintro e v2 ⟨rfl, hb5'⟩; have hb5 := below_to hb3 hb5'
        refine hK.out _ _ hb5 (fun hHeld => ?_)
        clear hK K
        try dsimp only
        try simp only [Act.put, List.getElem_toArray, List.getElem_cons_zero, List.getElem_cons_succ, List.setIfInBounds_toArray, List.set_cons_zero, List.set_cons_succ]
        refine wpAnyH_take (i := 14) (v := .bool true) rfl (by kernel_rfl) (by kernel_rfl) (by kernel_rfl) (fun _ _ _ h => h) (yb_pick rfl (.tmp 44) (.tmp 47) (.const (.bool false)) rfl true _ rfl rfl) hHeld ?_
        try dsimp only
        try simp only [Act.put, List.getElem_toArray, List.getElem_cons_zero, List.getElem_cons_succ, List.setIfInBounds_toArray, List.set_cons_zero, List.set_cons_succ]
        refine wpAnyH_take (i := 15) (v := .bool true) rfl (by kernel_rfl) (by kernel_rfl) (by kernel_rfl) (fun _ _ _ h => h) (Or.inl ⟨by rfl, fun _ _ => rfl⟩) hHeld ?_
        try dsimp only
        try simp only [Act.put, List.getElem_toArray, List.getElem_cons_zero, List.getElem_cons_succ, List.setIfInBounds_toArray, List.set_cons_zero, List.set_cons_succ]
        refine wpAnyH_done (by kernel_rfl) ?_ _
        have HB10 := Lib.hid (below_to HBV.out hb5)
        clear hHeld HREF
        go_wp2
        go_ret
        exact ⟨rfl, HB10.out⟩
  · go_enter Try.func5, Try.ntmps5
    go_wp2_with (go_at_call 11; refine (awakeC_any _).mono ?_; rintro e w1 ⟨rfl, hb⟩; first | (have HB2 := Lib.hid (below_to HB1.out hb); clear hb) | (have HB1 := Lib.hid hb; clear hb))
    go_ret
    exact ⟨rfl, HB2.out⟩
theorem columnTexts_any (A0 : Option Addr) (l : List (List Nat)) (n c : Nat) (hn : Hid (n = l.length)) (hnc : n ≤ c) (hc : c ≤ maxLen) (W : World) (HA : Hid (TxAt W A0 l)) :
    Calls Try.prog 5 #[.slice A0 n c] W fun e w' => e = .returned (.bool true) ∧ Below W.heap.size W w' :=
  columnTexts_core A0 l n c hn hnc hc W HA
end Go.Proofs.Ytpobfgokikfmbaa

set_option linter.unusedSimpArgs false
set_option linter.unusedVariables false
namespace Go.Proofs.Ytpobfgokikfmbaa
open Go.ChangeShapes Go.WideShapes Go.ChangeAt Go.RowKit

theorem Try.own : ownKnob Try.prog.godebug = none := by kernel_rfl
theorem Try.laidOut : laidOutB Try.prog = true := by kernel_rfl

section
variable {H : Type} {enc : TypeId × Value → H} {P : Program}

theorem trodAll_keep {W W' : World} {sp : Nat → Bool} (hl : laidOutB P = true) (hs : ∀ x : MemPlace, x.block < W.heap.size → W.sameAt W' x) : ∀ (ts : List TypeId) (vs : List Value) (ds : List (DataW H)) (ps : List MemPlace),
    (∀ t, t ∈ ts → P.readableRec t = true ∧ t < P.types.size) → DataW.TrodAll enc P W 0 (fun _ => true) true ts vs ds ps → (∀ x, x ∈ ps → x.block < W.heap.size) → (∀ x, x ∈ ps → sp x.block = true) →
    DataW.TrodAll enc P W' 0 sp true ts vs ds ps
  | [], [], [], _, _, h, _, _ => h
  | t :: ts, v :: vs, d :: ds, ps, hr, ⟨p, q, hd, hrest, he⟩, hlt, hsp => by
    subst he
    refine ⟨p, q, ?_, trodAll_keep hl hs ts vs ds q (fun t ht => hr t (by simp [ht])) hrest (fun x hx => hlt x (by simp [hx])) (fun x hx => hsp x (by simp [hx])), rfl⟩
    exact WideElems.Trod_stays hl (hr t (by simp)).1 (hr t (by simp)).2 hd (fun x hx => hs x (hlt x (by simp [hx]))) (fun x hx => hsp x (by simp [hx]))
  | [], [], _ :: _, _, _, h, _, _ => h.elim
  | [], _ :: _, _, _, _, h, _, _ => h.elim
  | _ :: _, [], _, _, _, h, _, _ => h.elim
  | _ :: _, _ :: _, [], _, _, h, _, _ => h.elim

theorem post_law {f : Func} {s : ChangeSpec} {W W' : World} {args : Array Value} {ds : List (DataW H)} {before : List MemPlace} {tb : TypeId} (hl : laidOutB P = true)
    (hv : s.vars = []) (hW : DataW.Whole enc P f.params.toList s.vars false W args.toList ds [] before)
    (hrec : ∀ t, t ∈ f.params.toList → P.readableRec t = true ∧ t < P.types.size)
    (hres : (s.fn H ds).results = [.lit (.bool true)]) (hargs : (s.fn H ds).args = ds) (hvs : (s.fn H ds).vars = [])
    (hrt : f.resultTypes = #[tb]) (htb : P.underlying tb = some .bool) (hb : Below W.heap.size W W') : s.post enc P f false true false false W args (.bool true) W' := by
  have hlt : ∀ x, x ∈ before → x.block < W.heap.size := fun x hx => hW.lt x hx
  have hW2 := hW
  obtain ⟨p, q, hA, hV, rfl, -, -⟩ := hW2
  have hq : q = [] := by rw [hv] at hV; exact hV
  subst hq
  refine ⟨ds, [], p ++ [], [], p, [], hW, ?_, ?_, ?_, hb.frame _, fun h => by cases h⟩
  · rw [List.append_nil, hres, hrt]
    exact trodAll_mk1 (shut_bool htb true)
  · rw [List.append_nil, hargs]
    exact trodAll_keep hl (fun x hx => hb.same hx) _ _ _ _ hrec hA (fun x hx => hlt x (by simp [hx])) (fun x hx => by simpa using hlt x (by simp [hx]))
  · rw [List.append_nil, hv, hvs]; rfl

/-- A slice of bytes that came in. -/
theorem open_bys {W : World} {t e : TypeId} {v : Value} {d : DataW H} {ps : List MemPlace} (ht : P.underlying t = some (.slice e)) (he : P.underlying e = some (.int .u8)) (hc : P.cellsOf e = 1)
    {b0 : Nat} {r : Reach} (hok : Value.okWide P W r b0 t v) (hd : DataW.Trod enc P W 0 (fun _ => true) true t v d ps) (hlt : ∀ x, x ∈ ps → x.block < W.heap.size) :
    ∃ (a : Option Addr) (l : List Nat) (cap : Nat), v = .slice a l.length cap ∧ l.length ≤ cap ∧ cap ≤ maxLen ∧ ByAt W a l := by
  obtain ⟨fuel, hf⟩ := hd
  obtain ⟨a, len, cap, rfl⟩ : ∃ a len cap, v = .slice a len cap := by
    simp only [Value.okWide, ht, Cell.okWide] at hok
    cases v <;> simp_all [Cell.ok]
  rcases Deep.open_slice1 ht hc hf with ⟨hcs, -⟩ | ⟨a', len', cap', m, n, V, D, Pl, hcs, -, hl, hm, hmm, hx, hcell⟩
  · simp [Value.cells] at hcs
    obtain ⟨rfl, rfl, rfl⟩ := hcs
    exact ⟨none, [], 0, rfl, Nat.le_refl _, by unfold maxLen; omega, fun k x hx => by simp at hx⟩
  · simp [Value.cells] at hcs
    obtain ⟨rfl, rfl, rfl⟩ := hcs
    simp only [if_true] at hmm
    subst hmm
    have hV : ∀ i, i < m → ∃ b : Nat, V i = .int .u8 (b : Int) ∧ b < 256 := fun i hi => by
      obtain ⟨b, h1, _, h2⟩ := DataW.trod_int he (hcell i hi).2
      have h3 : 0 ≤ b ∧ b ≤ 255 := by simpa [Lit.wf, IntKind.min, IntKind.max, IntKind.signed, IntKind.bits] using h2
      exact ⟨b.toNat, by rw [show ((b.toNat : Nat) : Int) = b by omega]; simpa using h1, by omega⟩
    let B : Nat → Nat := fun i => match V i with | .int _ b => b.toNat | _ => 0
    have hB : ∀ i, i < m → V i = .int .u8 (B i : Int) ∧ B i < 256 := fun i hi => by
      obtain ⟨b, h1, h2⟩ := hV i hi
      have : B i = b := by show (match V i with | .int _ b => b.toNat | _ => 0) = b; rw [h1]; simp
      rw [this]; exact ⟨h1, h2⟩
    refine ⟨some a', (List.range len).map B, m, by simp, by simpa using hl, hm, fun k x hx2 => ?_⟩
    have hk : k < len := by
      rcases Nat.lt_or_ge k len with h | h
      · exact h
      · rw [List.getElem?_eq_none (by simpa using h)] at hx2; cases hx2
    have hx3 : x = B k := by simp [hk] at hx2; exact hx2.symm
    subst hx3
    obtain ⟨b, off, spot⟩ := a'
    have hspot : spot = none := by simpa [Addr.add] using World.cell?_spot (hcell 0 (by omega)).1
    subst hspot
    refine ⟨(hB k (by omega)).2, b, off, rfl, ?_, ?_⟩
    · have hcl := (hcell 0 (by omega)).1
      have := block_lt_of_cell hcl
      simpa [Addr.add] using this
    · have h := (hcell k (by omega)).1
      rw [(hB k (by omega)).1] at h
      rw [Addr.add_lit] at h
      exact h
/-- A slice of whole numbers that came in. -/
theorem open_is {W : World} {t e : TypeId} {v : Value} {d : DataW H} {ps : List MemPlace} (ht : P.underlying t = some (.slice e)) (he : P.underlying e = some (.int .i64)) (hc : P.cellsOf e = 1)
    {b0 : Nat} {r : Reach} (hok : Value.okWide P W r b0 t v) (hd : DataW.Trod enc P W 0 (fun _ => true) true t v d ps) (hlt : ∀ x, x ∈ ps → x.block < W.heap.size) :
    ∃ (a : Option Addr) (l : List Int) (cap : Nat), v = .slice a l.length cap ∧ l.length ≤ cap ∧ cap ≤ maxLen ∧ IsAt W a l := by
  obtain ⟨fuel, hf⟩ := hd
  obtain ⟨a, len, cap, rfl⟩ : ∃ a len cap, v = .slice a len cap := by
    simp only [Value.okWide, ht, Cell.okWide] at hok
    cases v <;> simp_all [Cell.ok]
  rcases Deep.open_slice1 ht hc hf with ⟨hcs, -⟩ | ⟨a', len', cap', m, n, V, D, Pl, hcs, -, hl, hm, hmm, hx, hcell⟩
  · simp [Value.cells] at hcs
    obtain ⟨rfl, rfl, rfl⟩ := hcs
    exact ⟨none, [], 0, rfl, Nat.le_refl _, by unfold maxLen; omega, fun k x hx => by simp at hx⟩
  · simp [Value.cells] at hcs
    obtain ⟨rfl, rfl, rfl⟩ := hcs
    simp only [if_true] at hmm
    subst hmm
    have hV : ∀ i, i < m → ∃ b : Int, V i = .int .i64 b ∧ Wf64 b := fun i hi => by
      obtain ⟨b, h1, _, h2⟩ := DataW.trod_int he (hcell i hi).2
      have h3 : -9223372036854775808 ≤ b ∧ b ≤ 9223372036854775807 := by simpa [Lit.wf, IntKind.min, IntKind.max, IntKind.signed, IntKind.bits] using h2
      exact ⟨b, by simpa using h1, h3⟩
    let B : Nat → Int := fun i => match V i with | .int _ b => b | _ => 0
    have hB : ∀ i, i < m → V i = .int .i64 (B i) ∧ Wf64 (B i) := fun i hi => by
      obtain ⟨b, h1, h2⟩ := hV i hi
      have : B i = b := by show (match V i with | .int _ b => b | _ => 0) = b; rw [h1]
      rw [this]; exact ⟨h1, h2⟩
    refine ⟨some a', (List.range len).map B, m, by simp, by simpa using hl, hm, fun k x hx2 => ?_⟩
    have hk : k < len := by
      rcases Nat.lt_or_ge k len with h | h
      · exact h
      · rw [List.getElem?_eq_none (by simpa using h)] at hx2; cases hx2
    have hx3 : x = B k := by simp [hk] at hx2; exact hx2.symm
    subst hx3
    obtain ⟨b, off, spot⟩ := a'
    have hspot : spot = none := by simpa [Addr.add] using World.cell?_spot (hcell 0 (by omega)).1
    subst hspot
    refine ⟨(hB k (by omega)).2, b, off, rfl, ?_, ?_⟩
    · have hcl := (hcell 0 (by omega)).1
      have := block_lt_of_cell hcl
      simpa [Addr.add] using this
    · have h := (hcell k (by omega)).1
      rw [(hB k (by omega)).1] at h
      rw [Addr.add_lit] at h
      exact h
/-- A slice value that holds some bools, in a world. -/
def BlAt (w : World) (a : Option Addr) (l : List Bool) : Prop := ∀ (k : Nat) (x : Bool), l[k]? = some x → ∃ g off, a = some ⟨g, off, none⟩ ∧ g < w.heap.size ∧ w.cell? ⟨g, off + k, none⟩ = some (.bool x)
theorem BlAt.keep {w w' : World} {a : Option Addr} {l : List Bool} (h : BlAt w a l) (hb : Below w.heap.size w w') : BlAt w' a l := fun k x hx => by
  obtain ⟨g, off, h2, h3, h4⟩ := h k x hx
  exact ⟨g, off, h2, Nat.lt_of_lt_of_le h3 hb.size, (hb.cell (p := ⟨g, off + k, none⟩) h3).trans h4⟩
/-- A slice of bools that came in. -/
theorem open_bls {W : World} {t e : TypeId} {v : Value} {d : DataW H} {ps : List MemPlace} (ht : P.underlying t = some (.slice e)) (he : P.underlying e = some .bool) (hc : P.cellsOf e = 1)
    {b0 : Nat} {r : Reach} (hok : Value.okWide P W r b0 t v) (hd : DataW.Trod enc P W 0 (fun _ => true) true t v d ps) (hlt : ∀ x, x ∈ ps → x.block < W.heap.size) :
    ∃ (a : Option Addr) (l : List Bool) (cap : Nat), v = .slice a l.length cap ∧ l.length ≤ cap ∧ cap ≤ maxLen ∧ BlAt W a l := by
  obtain ⟨fuel, hf⟩ := hd
  obtain ⟨a, len, cap, rfl⟩ : ∃ a len cap, v = .slice a len cap := by
    simp only [Value.okWide, ht, Cell.okWide] at hok
    cases v <;> simp_all [Cell.ok]
  rcases Deep.open_slice1 ht hc hf with ⟨hcs, -⟩ | ⟨a', len', cap', m, n, V, D, Pl, hcs, -, hl, hm, hmm, hx, hcell⟩
  · simp [Value.cells] at hcs
    obtain ⟨rfl, rfl, rfl⟩ := hcs
    exact ⟨none, [], 0, rfl, Nat.le_refl _, by unfold maxLen; omega, fun k x hx => by simp at hx⟩
  · simp [Value.cells] at hcs
    obtain ⟨rfl, rfl, rfl⟩ := hcs
    simp only [if_true] at hmm
    subst hmm
    have hV : ∀ i, i < m → ∃ b : Bool, V i = .bool b := fun i hi => by
      obtain ⟨b, h1, -⟩ := DataW.trod_bool he (hcell i hi).2
      exact ⟨b, by simpa using h1⟩
    let B : Nat → Bool := fun i => match V i with | .bool b => b | _ => false
    have hB : ∀ i, i < m → V i = .bool (B i) := fun i hi => by
      obtain ⟨b, h1⟩ := hV i hi
      have : B i = b := by show (match V i with | .bool b => b | _ => false) = b; rw [h1]
      rw [this]; exact h1
    refine ⟨some a', (List.range len).map B, m, by simp, by simpa using hl, hm, fun k x hx2 => ?_⟩
    have hk : k < len := by
      rcases Nat.lt_or_ge k len with h | h
      · exact h
      · rw [List.getElem?_eq_none (by simpa using h)] at hx2; cases hx2
    have hx3 : x = B k := by simp [hk] at hx2; exact hx2.symm
    subst hx3
    obtain ⟨b, off, spot⟩ := a'
    have hspot : spot = none := by simpa [Addr.add] using World.cell?_spot (hcell 0 (by omega)).1
    subst hspot
    refine ⟨b, off, rfl, ?_, ?_⟩
    · have hcl := (hcell 0 (by omega)).1
      have := block_lt_of_cell hcl
      simpa [Addr.add] using this
    · have h := (hcell k (by omega)).1
      rw [hB k (by omega)] at h
      rw [Addr.add_lit] at h
      exact h
end
end Go.Proofs.Ytpobfgokikfmbaa

set_option linter.unusedSimpArgs false
set_option linter.unusedVariables false
namespace Go.Proofs.Ytpobfgokikfmbaa
open Go.ChangeShapes Go.WideShapes Go.ChangeAt Go.RowKit
section
variable {H : Type} {enc : TypeId × Value → H} {P : Program}
def txOf (s : ByteArray) : List Nat := s.data.toList.map UInt8.toNat
theorem txOf_wf (s : ByteArray) : WfT (txOf s) := fun c hc => by
  obtain ⟨u, -, rfl⟩ := List.mem_map.1 hc
  exact u.toNat_lt
theorem strB_txOf (s : ByteArray) : strB (txOf s) = s := by
  refine ByteArray.ext (Array.ext' ?_)
  unfold strB txOf
  rw [strOfNums_data, List.map_map, List.map_map]
  conv => rhs; rw [← List.map_id s.data.toList]
  exact List.map_congr_left fun u _ => by simp
theorem open_txs {W : World} {t e : TypeId} {v : Value} {d : DataW H} {ps : List MemPlace} (ht : P.underlying t = some (.slice e)) (he : P.underlying e = some .string) (hc : P.cellsOf e = 1)
    {b0 : Nat} {r : Reach} (hok : Value.okWide P W r b0 t v) (hd : DataW.Trod enc P W 0 (fun _ => true) true t v d ps) (hlt : ∀ x, x ∈ ps → x.block < W.heap.size) :
    ∃ (a : Option Addr) (l : List (List Nat)) (cap : Nat), v = .slice a l.length cap ∧ l.length ≤ cap ∧ cap ≤ maxLen ∧ TxAt W a l := by
  obtain ⟨fuel, hf⟩ := hd
  obtain ⟨a, len, cap, rfl⟩ : ∃ a len cap, v = .slice a len cap := by
    simp only [Value.okWide, ht, Cell.okWide] at hok
    cases v <;> simp_all [Cell.ok]
  rcases open_strings ht he hc hf with ⟨hcs, -⟩ | ⟨a', len', cap', ss, hcs, -, hl, hm, hlen, -, hcell, -⟩
  · simp [Value.cells] at hcs
    obtain ⟨rfl, rfl, rfl⟩ := hcs
    exact ⟨none, [], 0, rfl, Nat.le_refl _, by unfold maxLen; omega, fun k x hx => by simp at hx⟩
  · simp [Value.cells] at hcs
    obtain ⟨rfl, rfl, rfl⟩ := hcs
    simp only [if_true] at hlen
    have hll : ((ss.take len).map txOf).length = len := by rw [List.length_map, List.length_take]; omega
    refine ⟨some a', (ss.take len).map txOf, cap, by rw [hll], by rw [hll]; exact hl, hm, fun k x hx2 => ?_⟩
    rw [List.getElem?_map, List.getElem?_take] at hx2
    split at hx2
    · rename_i hk
      have hks : k < ss.length := by omega
      rw [List.getElem?_eq_getElem hks] at hx2
      simp at hx2
      subst hx2
      obtain ⟨b, off, spot⟩ := a'
      have hspot : spot = none := by simpa [Addr.add] using World.cell?_spot (hcell 0 (by omega))
      subst hspot
      refine ⟨txOf_wf _, b, off, rfl, ?_, ?_⟩
      · have := block_lt_of_cell (hcell 0 (by omega))
        simpa [Addr.add] using this
      · have h := hcell k hks
        rw [Addr.add_lit, List.getD_eq_getElem?_getD, List.getElem?_eq_getElem hks] at h
        rw [strB_txOf]
        exact h
    · simp at hx2
end
end Go.Proofs.Ytpobfgokikfmbaa
