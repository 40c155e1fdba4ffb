/-
  The law EventSorts: walked.
-/
import Derived.Test.YtlboefkihahbeaaEt
import Derived.Test.YtlboefkihahbeaaEq
set_option linter.unusedSimpArgs false
set_option linter.unusedVariables false
namespace Go.Proofs.Ytlboefkihahbeaa
open Go.RowKit Go.Sort

theorem isort_mem (l : List Ev) (x : Ev) (h : x ∈ isort ltE l) : x ∈ l := by
  unfold isort at h
  rw [sm_mem] at h
  rcases h with h | h
  · cases h
  · exact h
set_option maxHeartbeats 4000000 in
theorem eventSorts_core (a : Option Addr) (l : List Ev) (n c : Nat) (hn : Hid (n = l.length)) (hnc : n ≤ c) (hcm : c ≤ maxLen) (hnil : Hid (a = none → n = 0 ∧ c = 0)) (hsp : Hid (∀ x, a = some x → x.spot = none)) (hv : Hid (∀ x ∈ l, x.val < 18446744073709551616)) (W : World) (HA : Hid (EvAt W a l)) :
    Calls Try.prog 4 #[.slice a n c] W fun e w' => e = .returned (.bool true) ∧ Below W.heap.size W w' := by
  by_cases hbig : 60 < n
  · have hg : (60 : Int) < (n : Int) := by omega
    have HB := Lib.hid (Below.refl W.heap.size W)
    go_enter Try.func4, Try.ntmps4
    go_wp2_with (go_at_call 6; refine (awake_any _).mono ?_; rintro e w1 ⟨rfl, hb⟩; replace HB := Lib.hid (below_to2 HB.out hb); clear hb)
    go_ret
    exact ⟨rfl, HB.out⟩
  · have hg : ¬ (60 : Int) < (n : Int) := by omega
    have hn60 : n ≤ 60 := by omega
    have hn9 : n ≤ 900 := by omega
    have hnk : n ≤ 1000 := by omega
    have HL : Hid (n = (isort ltE l).length) := Lib.hid (by rw [isort_length]; exact hn.out)
    have HV : Hid (∀ x ∈ isort ltE l, x.val < 18446744073709551616) := Lib.hid fun x hx => hv.out x (isort_mem l x hx)
    go_enter Try.func4, Try.ntmps4
    go_wp2_with (first
      | (go_at_call 6; refine (awake_any _).mono ?_; rintro e w1 ⟨rfl, hb⟩; have HB1 := Lib.hid hb; clear hb)
      | (go_at_call 14; refine (sortE_any a n c l hn hnil.out hsp.out hnk _ (Lib.hid (HA.out.keep HB1.out))).mono ?_; rintro e w3 ⟨S, cs, rfl, ho, hb⟩; have HO := Lib.hid ho; have HB3 := Lib.hid (below_to2 HB1.out hb); clear ho hb)
      | (go_at_call 15; refine (rsort_any a n c l hn hn9 _ (Lib.hid (HA.out.keep HB3.out))).mono ?_; rintro e w4 ⟨S2, c2, rfl, ho, hb⟩; have HO2 := Lib.hid ho; have HO1 := Lib.hid (HO.out.at.keep hb); have HB4 := Lib.hid (below_to2 HB3.out hb); clear ho hb)
      | (go_at_call 13; refine (sameAll_any S S2 n cs c2 (isort ltE l) HL hnk HV _ HO1 (Lib.hid HO2.out.at)).mono ?_; rintro e w5 ⟨rfl, hb⟩; have HB5 := Lib.hid (below_to2 HB4.out hb); clear hb))
    go_ret
    exact ⟨rfl, HB5.out⟩
end Go.Proofs.Ytlboefkihahbeaa
