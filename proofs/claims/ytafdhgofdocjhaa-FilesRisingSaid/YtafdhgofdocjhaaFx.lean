/-
  Layer files: many files: find; Used.
-/
import Derived.Test.YtafdhgofdocjhaaFw
set_option linter.unusedSimpArgs false
set_option linter.unusedVariables false
namespace Go.Proofs.Ytafdhgofdocjhaa
open Go.RowKit Go.WideShapes

set_option maxHeartbeats 1000000 in
theorem search_nil (F : Option Addr) (fc : Nat) (t : ByteArray) (w : World) : Calls Try.prog 50 #[.slice F 0 fc, .string t, .func (.func 51) #[] #[]] w fun e w' => e = .returned (.tuple #[.int .i64 0, .bool false]) ∧ w = w' := by
  go_enter Try.func50, Try.ntmps50
  go_wp2
  refine wp_loop_rounds 1 ?_
  rw [rounds_succ]
  go_wp2
  go_ret2
  exact ⟨rfl, rfl⟩
set_option maxHeartbeats 1000000 in
theorem find_any (g f fc : Nat) (xs : List Fil) (t : ByteArray) (n : Nat) (hn : Hid (n = xs.length)) (h1000 : n ≤ 1000) (lo : Nat) (hlo : Hid (Place xs t lo)) (w : World) (k1 : w.cell? ⟨g, 1, none⟩ = some (.slice (some ⟨f, 0, none⟩) n fc)) (HF : Hid (FilesAt w f xs)) :
    Calls Try.prog 36 #[.pointer (some ⟨g, 0, none⟩), .string t] w fun e w' => e = .returned (.tuple #[.int .i64 lo, .bool (isAt xs t lo)]) ∧ Below w.heap.size w w' := by
  have H := Lib.hid (search_any f fc xs t n hn h1000 lo hlo w HF)
  clear hn hlo HF
  generalize isAt xs t lo = v at *
  go_enter Try.func36, Try.ntmps36
  go_wp2_with (go_at_call 50; refine H.out.mono ?_; rintro e w' ⟨rfl, hb⟩; have HB := Lib.hid hb; clear hb)
  go_ret2
  exact ⟨rfl, HB.out⟩
set_option maxHeartbeats 1000000 in
theorem find_nil (g : Nat) (F : Option Addr) (fc : Nat) (t : ByteArray) (w : World) (h1 : w.cell? ⟨g, 1, none⟩ = some (.slice F 0 fc)) : Calls Try.prog 36 #[.pointer (some ⟨g, 0, none⟩), .string t] w fun e w' => e = .returned (.tuple #[.int .i64 0, .bool false]) ∧ w = w' := by
  go_enter Try.func36, Try.ntmps36
  go_wp2_with (go_at_call 50; refine (search_nil _ _ _ _).mono ?_; rintro e w' ⟨rfl, rfl⟩)
  go_ret2
  exact ⟨rfl, rfl⟩
def sumN : List Fil → Nat
  | [] => 0
  | x :: r => x.l.length + sumN r
theorem sumN_append (a b : List Fil) : sumN (a ++ b) = sumN a + sumN b := by
  induction a with
  | nil => simp [sumN]
  | cons x r ih => simp only [List.cons_append, sumN, ih]; omega
theorem sumN_take (xs : List Fil) (k : Nat) (x : Fil) (h : xs[k]? = some x) : sumN (xs.take (k + 1)) = sumN (xs.take k) + x.l.length := by
  rw [List.take_add_one, h, sumN_append]; rfl
theorem sumN_le (xs : List Fil) (k : Nat) : sumN (xs.take k) ≤ sumN xs := by
  have h := congrArg sumN (List.take_append_drop k xs)
  rw [sumN_append] at h; omega
set_option maxHeartbeats 4000000 in
theorem used_any (g f fc : Nat) (xs : List Fil) (n : Nat) (hn : Hid (n = xs.length)) (h1000 : n ≤ 1000) (hs : sumN xs ≤ 1000000000) (W : World) (k1 : W.cell? ⟨g, 1, none⟩ = some (.slice (some ⟨f, 0, none⟩) n fc)) (HF : Hid (FilesAt W f xs)) :
    Calls Try.prog 28 #[.pointer (some ⟨g, 0, none⟩)] W fun e w' => e = .returned (.int .i64 (sumN xs : Nat)) ∧ Below W.heap.size W w' := by
  go_enter Try.func28, Try.ntmps28
  go_wp2
  go_loopw [3, 13] (fun s i wr => ∃ k : Nat, k ≤ n ∧ i = .int .i64 k ∧ s = .int .i64 (sumN (xs.take k) : Nat) ∧ Below W.heap.size W wr) (fun _ i _ => n - (intOf i).toNat)
  case atStart => exact ⟨0, Nat.zero_le _, rfl, rfl, Below.refl _ _⟩
  case round =>
    obtain ⟨k, hk, rfl, rfl, hb⟩ := hrel
    have HB := Lib.hid hb
    clear hb
    by_cases hkn : k < n
    · have hkl : k < xs.length := by have := hn.out; omega
      obtain ⟨x, hxe⟩ : ∃ x, xs[k]? = some x := ⟨xs[k], List.getElem?_eq_getElem hkl⟩
      obtain ⟨c0, c1, c2, c3⟩ := (HF.out.keep HB.out) _ x hxe
      have HT : Hid (sumN (xs.take (k + 1)) = sumN (xs.take k) + x.l.length) := Lib.hid (sumN_take xs k x hxe)
      have hle : sumN (xs.take k) + x.l.length ≤ 1000000000 := by have := sumN_le xs (k + 1); have := HT.out; omega
      generalize sumN (xs.take k) = S at *
      clear hxe
      go_wp2
      go_roundw
      case rel => exact ⟨k + 1, by omega, by go_num, by rw [HT.out]; go_num, HB.out.alloc (by have := HB.out.size; omega) _⟩
      case measure => simp [intOf]; omega
    · have hkn' : k = n := by omega
      subst hkn'
      have HT : Hid (sumN (xs.take k) = sumN xs) := Lib.hid (by rw [List.take_of_length_le (by have := hn.out; omega)])
      generalize sumN (xs.take k) = S at *
      go_wp2
      go_ret
      exact ⟨by rw [HT.out]; rfl, HB.out⟩
end Go.Proofs.Ytafdhgofdocjhaa
