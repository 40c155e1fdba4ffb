/-
  The law EventKeeps: walked.
-/
import Derived.Test.YtlboefkihahbeaaEq
import Derived.Laws.AppendOwnNone
import Derived.OwnWalk
set_option linter.unusedSimpArgs false
set_option linter.unusedVariables false
namespace Go.Proofs.Ytlboefkihahbeaa
open Go.RowKit Go.Sort

theorem own_slice {w : World} {B n : Nat} {v : Value} {xs : List Value} (h : w.ownsRow B 25 5 v n xs) : ∃ A cap, v = .slice A n cap := by
  rcases h.2 with ⟨e0, e1⟩ | ⟨g, cap', cur, e0, -⟩
  · exact ⟨none, 0, by rw [e0, e1]⟩
  · exact ⟨_, _, e0⟩
/-- A row that a call owns, of some events. -/
def RowAt (w : World) (g n : Nat) : Prop := ∃ cs : Array Value, w.heap[g]? = some (.cells cs 25 (0, 0)) ∧ n * 5 ≤ cs.size
theorem RowAt.cell {w : World} {g n : Nat} (h : RowAt w g n) (i : Nat) (hi : i < n * 5) : (∃ v, w.cell? ⟨g, i, none⟩ = some v) ∧ w.frozen? ⟨g, i, none⟩ = false := by
  obtain ⟨cs, h1, h2⟩ := h
  exact ⟨⟨cs[i]'(by omega), by rw [cell_of_row _ _ _ _ _ _ h1, Array.getElem?_eq_getElem (by omega)]⟩, frozen_of_row _ _ _ _ _ h1⟩
theorem RowAt.set {w : World} {g n i : Nat} {v : Value} (h : RowAt w g n) : RowAt (w.setCell ⟨g, i, none⟩ v) g n := by
  obtain ⟨cs, h1, h2⟩ := h
  exact ⟨cs.setIfInBounds i v, heap_setCell_same w g i cs _ v h1, by simpa using h2⟩
theorem own_row {w : World} {B n cap : Nat} {A : Option Addr} {l : List Ev} (h : OwnE w B A n cap l) (hn : 0 < n) : ∃ g, A = some ⟨g, 0, none⟩ ∧ B ≤ g ∧ RowAt w g n := by
  rcases h.2 with ⟨e0, e1⟩ | ⟨g, cap', cur, e0, hb, hg, hn', hm, hs, ht⟩
  · omega
  · injection e0 with a1 a2 a3
    exact ⟨g, a1, hb, cur, hg, by rw [hs]; exact Nat.mul_le_mul_right 5 hn'⟩
def KL (W : World) (n : Nat) (A : Option Addr) (v : Value) (wr : World) : Prop := ∃ k : Nat, k ≤ n ∧ v = .int .i64 k ∧ Below W.heap.size W wr ∧ (0 < n → ∃ g, A = some ⟨g, 0, none⟩ ∧ W.heap.size ≤ g ∧ RowAt wr g n)
set_option maxHeartbeats 4000000 in
theorem eventKeeps_core (a : Option Addr) (l : List Ev) (n c : Nat) (hn : Hid (n = l.length)) (hnc : n ≤ c) (hcm : c ≤ maxLen) (hnil : Hid (a = none → n = 0 ∧ c = 0)) (hsp : Hid (∀ x, a = some x → x.spot = none)) (hv : Hid (∀ x ∈ l, x.val < 18446744073709551616)) (W : World) (HA : Hid (EvAt W a l)) :
    Calls Try.prog 5 #[.slice a n c] W fun e w' => e = .returned (.bool true) ∧ Below W.heap.size W w' := by
  obtain ⟨i0, hi, hz0, hz1, hz2⟩ := info_parts infoEv
  by_cases hbig : 60 < n
  · have hg : (60 : Int) < (n : Int) := by omega
    have HB := Lib.hid (Below.refl W.heap.size W)
    go_enter Try.func5, Try.ntmps5
    go_wp2_with (go_at_call 6; refine (awake_any _).mono ?_; rintro e w1 ⟨rfl, hb⟩; replace HB := Lib.hid (below_to2 HB.out hb); clear hb)
    go_ret
    exact ⟨rfl, HB.out⟩
  · have hg : ¬ (60 : Int) < (n : Int) := by omega
    have hn60 : n ≤ 60 := by omega
    have APP : ∀ w1 : World, Below W.heap.size W w1 → ∀ (ops : Array Oper) (rest : List Oper) (o : Oper) (ac : Act) (Q : Exit → Act → World → Prop), o.guard = none → o.op = .call { callee := .builtin .append, args := #[.tmp 14, .tmp 15], argTypes := #[30, 30] } →
        ac.eval (.tmp 14) = .slice none 0 0 → ac.eval (.tmp 15) = .slice a n c →
        (∀ A cap w2, OwnE w2 w1.heap.size A n cap l → Below w1.heap.size w1 w2 → wpList Try.prog ops Q rest (ac.put o.dst (.slice A n cap)) w2) → wpList Try.prog ops Q (o :: rest) ac w1 := by
      intro w1 hb ops rest o ac Q hgd ho e14 e15 hk
      rcases a with _ | ⟨g, off, s⟩
      · obtain ⟨rfl, rfl⟩ := hnil.out rfl
        have hl : l = [] := List.eq_nil_of_length_eq_zero hn.out.symm
        refine wpList_append_own_none hgd (.tmp 14) (.tmp 15) 30 ho w1.heap.size 25 i0 5 Try.underlying30 hi (.slice none 0 0) 0 [] e14 (World.ownsRow_nil w1 _ _ 5) e15 ?_
        exact hk none 0 w1 (by rw [hl]; exact World.ownsRow_nil w1 _ _ 5) (Below.refl _ _)
      · obtain rfl : s = none := hsp.out _ rfl
        refine wpList_append_own w1 hgd (.tmp 14) (.tmp 15) 30 ho w1.heap.size 25 i0 _ 5 48 Try.underlying30 hi hz0 hz1 hz2 rfl (by decide) (.slice none 0 0) 0 [] e14 (World.ownsRow_nil w1 _ _ 5) ⟨g, off, none⟩ n c (evs l) e15 (by rw [evs_length, hn.out]) (fun j u hu => by
          obtain ⟨g', off', e, -, hc⟩ := (HA.out.keep hb) j u hu
          injection e with e; injection e with b1 b2; subst b1; subst b2
          rw [Addr.add_lit]; exact hc) (evs_one l) (by unfold maxLen; omega) (by omega) (Nat.le_refl _) ?_
        intro v' w2 hown hgr _
        rw [Nat.zero_add, List.nil_append] at hown
        obtain ⟨A, cap, rfl⟩ := own_slice hown
        exact hk A cap w2 hown ((Below.refl _ w1).grown hgr (Nat.le_refl _) (by intro k hk; cases hk))
    have HAPP := Lib.hid APP
    clear APP
    go_enter Try.func5, Try.ntmps5
    go_upto_region 6 with (first
      | (go_at_call 6; refine (awake_any _).mono ?_; rintro e w1 ⟨rfl, hb⟩; have HB1 := Lib.hid hb; clear hb)
      | (at_builtin; refine HAPP.out _ HB1.out _ _ _ _ _ rfl rfl rfl rfl ?_; intro A cap w2 hown hb; have HM := Lib.hid hown.at; have HB2 := Lib.hid (below_to2 HB1.out hb); clear hown hb)
      | (go_at_call 14; refine (sortE_any a n c l hn hnil.out hsp.out (by omega) _ (Lib.hid (HA.out.keep HB2.out))).mono ?_; rintro e w3 ⟨S, cs, rfl, ho, hb⟩; have HO := Lib.hid ho; have HB3 := Lib.hid hb; clear ho hb))
    have HKL : Hid (KL w2 n S (.int .i64 0) w3) := Lib.hid ⟨0, Nat.zero_le _, rfl, HB3.out, fun h => own_row HO.out h⟩
    clear HAPP hg
    go_wp2
    go_loopw [5] (fun v wr => KL w2 n S v wr) (fun v _ => n - (intOf v).toNat)
    case atStart => exact HKL.out
    case round =>
      obtain ⟨k, hk, rfl, hb, hrow⟩ := hrel
      have HB4 := Lib.hid hb
      have HROW := Lib.hid hrow
      clear hb hrow HKL HO
      by_cases hkn : k < n
      · obtain ⟨g, hS, hg2, hr⟩ := HROW.out (by omega)
        subst hS
        obtain ⟨⟨v, hcv⟩, hfv⟩ := hr.cell (k * 5 + 3) (by omega)
        have hz : (k : Int) < (n : Int) := by omega
        have HR2 := Lib.hid (hr.set (i := k * 5 + 3) (v := .string { data := #[120] }))
        clear hr
        go_wp2
        go_roundw
        case rel => exact ⟨k + 1, by omega, by go_num, HB4.out.setCell hg2 _, fun _ => ⟨g, rfl, hg2, HR2.out⟩⟩
        case measure => simp [intOf]; omega
      · have hz : ¬ ((k : Int) < (n : Int)) := by omega
        have HBW := Lib.hid (below_to2 HB2.out HB4.out)
        go_wp2_with (go_at_call 13; refine (sameAll_any a A n c cap l hn (by omega) hv _ (Lib.hid (HA.out.keep HBW.out)) (Lib.hid (HM.out.keep HB4.out))).mono ?_; rintro e w5 ⟨rfl, hb⟩; have HB5 := Lib.hid (below_to2 HBW.out hb); clear hb)
        go_ret
        exact ⟨rfl, HB5.out⟩
end Go.Proofs.Ytlboefkihahbeaa
