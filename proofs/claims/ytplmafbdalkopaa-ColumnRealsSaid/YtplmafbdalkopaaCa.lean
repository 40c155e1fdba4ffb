/-
  Layer column: Ints; the example.
-/
import Derived.Test.YtplmafbdalkopaaCs
set_option linter.unusedSimpArgs false
set_option linter.unusedVariables false
set_option maxRecDepth 8000
namespace Go.Proofs.Ytplmafbdalkopaa
open Go.RowKit Go.WideShapes Col
namespace Col
/-- The shorter one, and of two the first. -/
def pickL (best : List Nat) (p : List Nat) : List Nat := if p.length < best.length then p else best
def bestL (k : Nat) (l : List Int) : List Nat := match k with
  | 0 => asL 0 l
  | k + 1 => pickL (bestL k l) (asL (k + 1) l)
def intsL (l : List Int) : List Nat := bestL 3 l
end Col
def RI (W : World) (l : List Int) (u v : Value) (wr : World) : Prop := ∃ (k : Nat) (A : Option Addr) (n cap : Nat), k ≤ 3 ∧ v = .int .u8 ((k + 1 : Nat) : Int) ∧ u = .slice A n cap ∧ OwnS wr W.heap.size A n cap (bestL k l) ∧ Below W.heap.size W wr
set_option maxHeartbeats 2000000 in
theorem ints_any (b : Option Addr) (m c : Nat) (l : List Int) (hm : Hid (m = l.length)) (hmc : m ≤ c) (hc : c ≤ 9223372036854775807) (hm1 : m ≤ 900000) (W : World) (HL : Hid (IsAt W b l)) :
    Calls Try.prog 11 #[.slice b m c] W (Puts W.heap.size W (intsL l)) := by
  have HA := Lib.hid fun way hway w hl => as_any way hway b m c l hm hmc hc hm1 w hl
  have HWF : Hid (∀ x ∈ l, Wf64 x) := Lib.hid HL.out.wf
  have HA0 : Hid (Calls Try.prog 13 #[.int .u8 0, .slice b m c] W (Puts W.heap.size W (asL 0 l))) := Lib.hid (HA.out 0 (by decide) W HL)
  go_enter Try.func11, Try.ntmps11
  go_wp2_with (go_at_call 13; (with_reducible refine (HA0.out).mono ?_); rintro e w1 ⟨A1, n1, c1, rfl, h1, h2, h3⟩; have HO1 := Lib.hid h1; have HB1 := Lib.hid h2; clear h1 h2 h3)
  go_loopw [3, 4] (fun u v wr => RI W l u v wr) (fun _ v _ => 4 - (intOf v).toNat)
  case atStart => exact ⟨0, A1, n1, c1, by decide, rfl, rfl, HO1.out, HB1.out⟩
  case round =>
    obtain ⟨k, A, n, cap, hk, rfl, rfl, ho, hb⟩ := hrel
    have HO := Lib.hid ho; have HB := Lib.hid hb
    clear ho hb HA0
    have hk4 : k = 0 ∨ k = 1 ∨ k = 2 ∨ k = 3 := by omega
    by_cases h3 : k = 3
    · subst h3
      go_wp2
      go_ret
      exact ⟨A, n, cap, rfl, HO.out, HB.out, HB.out.size⟩
    · obtain ⟨K, hK⟩ : ∃ K, K = k + 1 := ⟨_, rfl⟩
      have HK := Lib.hid hK
      have hK4 : K < 4 := by omega
      have hK3 : K ≤ 3 := by omega
      rw [← hK]
      clear hK hk hk4 h3
      have HAK := Lib.hid (HA.out K hK4 wr (Lib.hid (HL.out.keep HB.out)))
      have HNL := Lib.hid HO.out.len
      go_upto_region 6 with (go_at_call 13; (with_reducible refine (HAK.out).mono ?_); rintro e w2 ⟨A2, n2, c2, rfl, h1, h2, h3⟩; have HO2 := Lib.hid (h1.more HB.out.size); have HB2 := Lib.hid (below_to HB.out h2); have HOK := Lib.hid (HO.out.keep h2); clear h1 h2 h3)
      have HN2 := Lib.hid HO2.out.len
      by_cases hlt : n2 < n
      · have HS : Hid (bestL K l = asL K l) := Lib.hid (by rw [HK.out]; unfold bestL pickL; rw [if_pos (by have := HNL.out; have := HN2.out; rw [← HK.out]; omega)])
        go_wp2
        go_roundw
        case rel => exact ⟨K, A2, n2, c2, hK3, by go_num, rfl, by rw [HS.out]; exact HO2.out, HB2.out⟩
        case measure => have := HK.out; simp [intOf]; omega
      · have HS : Hid (bestL K l = bestL k l) := Lib.hid (by rw [HK.out]; unfold bestL; unfold pickL; rw [if_neg (by have := HNL.out; have := HN2.out; rw [← HK.out]; omega)]; cases k <;> rfl)
        go_wp2
        go_roundw
        case rel => exact ⟨K, A, n, cap, hK3, by go_num, rfl, by rw [HS.out]; exact HOK.out, HB2.out⟩
        case measure => have := HK.out; simp [intOf]; omega
theorem ints_777 : intsL [7, 7, 7] = [2, 3, 14, 2] := by decide +kernel
end Go.Proofs.Ytplmafbdalkopaa
