/-
  Layer files: a name's form, whatever the name.
-/
import Derived.Test.YtafdhgofdocjhaaFd
set_option linter.unusedSimpArgs false
set_option linter.unusedVariables false
namespace Go.Proofs.Ytafdhgofdocjhaa
open Go.RowKit Go.WideShapes

def letK (x : Nat) : Bool := (decide (48 ≤ x) && decide (x ≤ 57)) || (decide (97 ≤ x) && decide (x ≤ 122)) || decide (x = 46)
set_option maxHeartbeats 1000000 in
theorem letter_any (x : Nat) (hx : x < 256) (w : World) : Calls Try.prog 49 #[.int .u8 x] w fun e w' => e = .returned (.bool (letK x)) ∧ w = w' := by
  have HL : Hid (letK x = letK x) := Lib.hid rfl
  obtain ⟨v, hv⟩ : ∃ v, letK x = v := ⟨_, rfl⟩
  have HV := Lib.hid hv
  rw [hv]
  have h : (x = 46) ∨ (x < 48 ∧ x ≠ 46) ∨ (48 ≤ x ∧ x ≤ 57) ∨ (57 < x ∧ x < 97) ∨ (97 ≤ x ∧ x ≤ 122) ∨ 122 < x := by omega
  clear hv HL
  rcases h with rfl | ⟨h1, h2⟩ | ⟨h1, h2⟩ | ⟨h1, h2⟩ | ⟨h1, h2⟩ | h1
  all_goals
    go_enter Try.func49, Try.ntmps49
    go_wp2
    go_ret
    refine ⟨?_, rfl⟩
    rw [← HV.out]
    refine congrArg (fun b => Ending.returned (.bool b)) ?_
    unfold letK
    first
      | rfl
      | (rw [Bool.eq_iff_iff]; simp; done)
      | (rw [Bool.eq_iff_iff]; simp; omega)
def formK (t : ByteArray) : Bool := decide (1 ≤ t.size) && decide (t.size ≤ 32) && t.data.toList.all (fun b => letK b.toNat)
set_option maxHeartbeats 4000000 in
theorem form_in (t : ByteArray) (n : Nat) (hn : Hid (n = t.size)) (h1 : 1 ≤ n) (h32 : n ≤ 32) (w : World) : Calls Try.prog 32 #[.string t] w fun e w' => e = .returned (.bool (t.data.toList.all (fun b => letK b.toNat))) ∧ w = w' := by
  have hs : t.size = n := hn.out.symm
  go_enter Try.func32, Try.ntmps32
  go_wp2
  go_loopw [14] (fun i wr => ∃ k : Nat, k ≤ n ∧ i = .int .i64 k ∧ w = wr ∧ Hid ((t.data.toList.take k).all (fun b => letK b.toNat) = true)) (fun i _ => n - (intOf i).toNat)
  case atStart => exact ⟨0, Nat.zero_le _, rfl, rfl, Lib.hid rfl⟩
  case round =>
    obtain ⟨k, hk, rfl, rfl, HK⟩ := hrel
    by_cases hkn : k < n
    · have hkt : k < t.size := by omega
      have H := letter_any t[k].toNat (UInt8.toNat_lt _) w
      have hl : t.data.toList[k]? = some t[k] := by rw [List.getElem?_eq_getElem (by simpa using hkt)]; rfl
      rcases hv : letK t[k].toNat with _ | _
      · have HA : Hid (t.data.toList.all (fun b => letK b.toNat) = false) := Lib.hid (by
          rw [List.all_eq_false]
          exact ⟨t[k], List.mem_of_getElem? hl, by rw [hv]; decide⟩)
        rw [hv] at H
        clear hv hl
        go_wp2_with (go_at_call 49; refine H.mono ?_; rintro e w' ⟨rfl, rfl⟩)
        go_ret
        exact ⟨by rw [HA.out]; rfl, rfl⟩
      · have HA : Hid ((t.data.toList.take (k + 1)).all (fun b => letK b.toNat) = true) := Lib.hid (by
          rw [List.take_add_one, hl, List.all_append, HK.out]; simp [hv])
        rw [hv] at H
        clear hv hl
        go_wp2_with (go_at_call 49; refine H.mono ?_; rintro e w' ⟨rfl, rfl⟩)
        go_roundw
        case rel => exact ⟨k + 1, by omega, by go_num, by trivial, HA⟩
        case measure => simp [intOf]; omega
    · have hkn' : k = n := by omega
      subst hkn'
      have HA : Hid (t.data.toList.all (fun b => letK b.toNat) = true) := Lib.hid (by
        have h := HK.out
        rwa [List.take_of_length_le (by simp; omega)] at h)
      go_wp2
      go_ret
      exact ⟨by rw [HA.out]; rfl, rfl⟩
set_option maxHeartbeats 1000000 in
theorem form_out (t : ByteArray) (n : Nat) (hn : Hid (n = t.size)) (h : n < 1 ∨ 32 < n) (w : World) : Calls Try.prog 32 #[.string t] w fun e w' => e = .returned (.bool false) ∧ w = w' := by
  have hs : t.size = n := hn.out.symm
  rcases h with h | h
  all_goals
    go_enter Try.func32, Try.ntmps32
    go_wp2
    go_ret
    exact ⟨rfl, rfl⟩
theorem form_any (t : ByteArray) (w : World) : Calls Try.prog 32 #[.string t] w fun e w' => e = .returned (.bool (formK t)) ∧ w = w' := by
  by_cases h1 : 1 ≤ t.size
  · by_cases h32 : t.size ≤ 32
    · refine (form_in t t.size (Lib.hid rfl) h1 h32 w).mono ?_
      rintro e w' ⟨rfl, rfl⟩
      exact ⟨by unfold formK; rw [decide_eq_true h1, decide_eq_true h32]; rfl, rfl⟩
    · refine (form_out t t.size (Lib.hid rfl) (by omega) w).mono ?_
      rintro e w' ⟨rfl, rfl⟩
      exact ⟨by unfold formK; rw [decide_eq_false h32]; simp, rfl⟩
  · refine (form_out t t.size (Lib.hid rfl) (by omega) w).mono ?_
    rintro e w' ⟨rfl, rfl⟩
    exact ⟨by unfold formK; rw [decide_eq_false h1]; simp, rfl⟩
end Go.Proofs.Ytafdhgofdocjhaa
