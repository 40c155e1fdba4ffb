/-
  The law FilesArms: walked.
-/
import Derived.Test.YteolpfomhiijgaaFk
import Derived.Test.YteolpfomhiijgaaFv
import Derived.Test.YteolpfomhiijgaaFq
set_option linter.unusedSimpArgs false
set_option linter.unusedVariables false
namespace Go.Proofs.Yteolpfomhiijgaa
open Go.RowKit Go.WideShapes

/-- Behind J rounds: the store, and whether the power is on. -/
structure AS (W : World) (g K J : Nat) (off : Bool) (f fcap : Nat) (r : List Value) (A : Option Addr) (cap : Nat) (l : List Nat) (du : Nat) (w : World) : Prop where
  s : S1 W g 5000 off ((K - J : Nat) : Int) ((J : Int) + 1) f fcap r A cap l du w
  le : l.length ≤ J + 1
  du : du ≤ l.length
  on : off = decide (J = K)
def AJ (W : World) (g K J : Nat) (w : World) : Prop := ∃ off f fcap r A cap l du, AS W g K J off f fcap r A cap l du w

set_option maxRecDepth 4000 in
set_option maxHeartbeats 4000000 in
theorem filesArms_core (n : Nat) (hn : n < 256) (b : Option Addr) (l : List Nat) (lb cb : Nat) (hlb : Hid (lb = l.length)) (W : World) (HA : Hid (ByAt W b l)) :
    Calls Try.prog 5 #[.int .u8 n, .slice b lb cb] W fun e w' => e = .returned (.bool true) ∧ Below W.heap.size W w' := by
  have kc := fun (w : World) (C : Array Value) (n c : Nat) => Lib.run_convert_bytes_const (P := Try.prog) w 32 5 C n c Try.underlying32 Try.underlying5
  obtain ⟨K, hK, hK1, hK2⟩ : ∃ K : Nat, (1 + (n : Int) % 10) = (K : Int) ∧ 1 ≤ K ∧ K ≤ 10 := ⟨1 + n % 10, by omega, by omega, by omega⟩
  go_enter Try.func5, Try.ntmps5
  go_wp2_with (first
    | (go_at_call 10; refine (awake_any _).mono ?_; rintro e w1 ⟨rfl, hb⟩; have HB1 := Lib.hid hb; clear hb)
    | (go_at_call 11; refine (new_any 5000 (by decide) _).mono ?_; rintro e w2 ⟨g, rfl, hgn, h0⟩; have HS0 := Lib.hid h0; have HGN := Lib.hid hgn; clear h0 hgn)
    | (go_at_call 13; refine (append_0 (e := 0) _ (s0_alloc HS0 _) op_none (Lib.hid (by decide)) (Lib.hid (by decide)) _ 1 1 [120] (Lib.hid rfl) (by_new _ [120] (by decide) _ rfl _) (by decide) (by decide)).mono ?_; rintro x w3 ⟨rfl, f1, fcap1, r1, A1, cap1, h1⟩; have HS1 := Lib.hid h1; clear h1 HS0)
    | (go_at_call 21; refine (arm_1 (K : Int) (by omega) _ HS1).mono ?_; rintro x w4 ⟨rfl, h1⟩; have HS2 := Lib.hid h1; clear h1 HS1))
  clear kc hK
  go_loopw [8] (fun i wr => ∃ J : Nat, J ≤ K ∧ i = .int .i64 ((J : Int) + 1) ∧ AJ w1 g K J wr) (fun i _ => (K + 1) - (intOf i).toNat)
  case atStart => exact ⟨0, Nat.zero_le _, rfl, false, f1, fcap1, r1, A1, cap1, [120], 0, HS2.out, by decide, by decide, by simp; omega⟩
  case round =>
    obtain ⟨J, hJ, rfl, off, f, fcap, r, A, cap, m, du, has⟩ := hrel
    have HAS := Lib.hid has
    have hon := has.on
    clear has HS2
    have HAw : Hid (ByAt wr b l) := Lib.hid (HA.out.keep (below_gb HB1.out HAS.out.s.below (Nat.le_trans HB1.out.size HGN.out)))
    by_cases hlt : J < K
    · have hoff : off = false := by rw [hon]; simp; omega
      subst hoff; clear hon
      have HS : Hid (S1 w1 g 5000 false ((K : Int) - J) ((J : Int) + 1) f fcap r A cap m du wr) := Lib.hid (by have h := HAS.out.s; rwa [show ((K - J : Nat) : Int) = (K : Int) - J by omega] at h)
      have hmJ : m.length ≤ J + 1 := HAS.out.le
      have t0 : ((J : Int) + 1 ≤ (K : Int)) := by omega
      by_cases hl : J < lb
      · have hkl : J < l.length := by have := hlb.out; omega
        obtain ⟨hx, bg, ofs, rfl, hg, hc0⟩ := HAw.out J l[J] (List.getElem?_eq_getElem hkl)
        generalize l[J] = x at *
        have t1 : ((J : Int) + 1 ≤ (lb : Int)) := by omega
        have kc := fun (w : World) (C : Array Value) (n c : Nat) => Lib.run_convert_bytes_const (P := Try.prog) w 32 5 C n c Try.underlying32 Try.underlying5
        by_cases hlast : J + 1 = K
        · have t2 : ¬ ((J : Int) + 1 < (K : Int)) := by omega
          have HOP : Hid (Op1 ((K : Int) - J) 9 0 true) := Lib.hid ⟨.inr (.inr ⟨by omega, rfl, rfl, rfl⟩)⟩
          have h3 : (x : Int) % 3 = 0 ∨ (x : Int) % 3 = 1 ∨ (x : Int) % 3 = 2 := by omega
          rcases h3 with h3 | h3 | h3
          ·
            go_wp2_with (first | (go_at_call 13; refine (append_1 (e := 9) (armed' := 0) (off' := true) _ (s1_alloc HS _) HOP (Lib.hid (by omega)) (Lib.hid (by omega)) _ 1 1 [121] (Lib.hid rfl) (by_new _ [121] (by decide) _ rfl _) (by decide) (by omega) (by omega) (by decide)).mono ?_; rintro x w5 ⟨rfl, A2, cap2, h1⟩; have HS5 := Lib.hid h1; clear h1) | (go_at_call 30; refine (on_1 true _ HS5.out.g2).mono ?_; rintro x w6 ⟨rfl, rfl⟩))
            go_roundw
            case rel => exact ⟨J + 1, by omega, by go_num, true, f, fcap, r, A2, cap2, m ++ [121], du, (by have h := HS5.out; rwa [show (0 : Int) = ((K - (J + 1) : Nat) : Int) by omega, show (J : Int) + 1 + 1 = ((J + 1 : Nat) : Int) + 1 by omega] at h), (by rw [List.length_append]; have := HAS.out.le; simp; omega), (by rw [List.length_append]; have := HAS.out.du; omega), by simp; try omega⟩
            case measure => simp [intOf]; omega
          ·
            go_wp2_with (first | (go_at_call 15; refine (sync_bad _ HS HOP (Lib.hid (by omega)) (Lib.hid (by omega))).mono ?_; rintro x w5 ⟨rfl, h1⟩; have HS5 := Lib.hid h1; clear h1) | (go_at_call 30; refine (on_1 true _ HS5.out.g2).mono ?_; rintro x w6 ⟨rfl, rfl⟩))
            go_roundw
            case rel => exact ⟨J + 1, by omega, by go_num, true, f, fcap, r, A, cap, m, du, (by have h := HS5.out; rwa [show (0 : Int) = ((K - (J + 1) : Nat) : Int) by omega, show (J : Int) + 1 + 1 = ((J + 1 : Nat) : Int) + 1 by omega] at h), (by have := HAS.out.le; omega), HAS.out.du, by simp; try omega⟩
            case measure => simp [intOf]; omega
          ·
            go_wp2_with (first | (go_at_call 17; refine (rename_bad _ HS HOP (Lib.hid (by omega)) (Lib.hid (by omega))).mono ?_; rintro x w5 ⟨rfl, h1⟩; have HS5 := Lib.hid h1; clear h1) | (go_at_call 30; refine (on_1 true _ HS5.out.g2).mono ?_; rintro x w6 ⟨rfl, rfl⟩))
            go_roundw
            case rel => exact ⟨J + 1, by omega, by go_num, true, f, fcap, r, A, cap, m, du, (by have h := HS5.out; rwa [show (0 : Int) = ((K - (J + 1) : Nat) : Int) by omega, show (J : Int) + 1 + 1 = ((J + 1 : Nat) : Int) + 1 by omega] at h), (by have := HAS.out.le; omega), HAS.out.du, by simp; try omega⟩
            case measure => simp [intOf]; omega
        · have t2 : (J : Int) + 1 < (K : Int) := by omega
          have HOP : Hid (Op1 ((K : Int) - J) 0 (((K : Int) - J) - 1) false) := Lib.hid ⟨.inr (.inl ⟨by omega, rfl, rfl, rfl⟩)⟩
          have h3 : (x : Int) % 3 = 0 ∨ (x : Int) % 3 = 1 ∨ (x : Int) % 3 = 2 := by omega
          rcases h3 with h3 | h3 | h3
          ·
            go_wp2_with (first | (go_at_call 13; refine (append_1 (e := 0) (armed' := ((K : Int) - J) - 1) (off' := false) _ (s1_alloc HS _) HOP (Lib.hid (by omega)) (Lib.hid (by omega)) _ 1 1 [121] (Lib.hid rfl) (by_new _ [121] (by decide) _ rfl _) (by decide) (by omega) (by omega) (by decide)).mono ?_; rintro x w5 ⟨rfl, A2, cap2, h1⟩; have HS5 := Lib.hid h1; clear h1) | (go_at_call 30; refine (on_1 false _ HS5.out.g2).mono ?_; rintro x w6 ⟨rfl, rfl⟩))
            go_roundw
            case rel => exact ⟨J + 1, by omega, by go_num, false, f, fcap, r, A2, cap2, m ++ [121], du, (by have h := HS5.out; rwa [show ((K : Int) - J) - 1 = ((K - (J + 1) : Nat) : Int) by omega, show (J : Int) + 1 + 1 = ((J + 1 : Nat) : Int) + 1 by omega] at h), (by rw [List.length_append]; have := HAS.out.le; simp; omega), (by rw [List.length_append]; have := HAS.out.du; omega), by simp; try omega⟩
            case measure => simp [intOf]; omega
          ·
            go_wp2_with (first | (go_at_call 15; refine (sync_ok _ HS HOP (Lib.hid (by omega)) (Lib.hid (by omega))).mono ?_; rintro x w5 ⟨rfl, h1⟩; have HS5 := Lib.hid h1; clear h1) | (go_at_call 30; refine (on_1 false _ HS5.out.g2).mono ?_; rintro x w6 ⟨rfl, rfl⟩))
            go_roundw
            case rel => exact ⟨J + 1, by omega, by go_num, false, f, fcap, r, A, cap, m, m.length, (by have h := HS5.out; rwa [show ((K : Int) - J) - 1 = ((K - (J + 1) : Nat) : Int) by omega, show (J : Int) + 1 + 1 = ((J + 1 : Nat) : Int) + 1 by omega] at h), (by have := HAS.out.le; omega), (Nat.le_refl _), by simp; try omega⟩
            case measure => simp [intOf]; omega
          ·
            go_wp2_with (first | (go_at_call 17; refine (rename_ok _ HS HOP (Lib.hid (by omega)) (Lib.hid (by omega))).mono ?_; rintro x w5 ⟨rfl, f', fcap', r', h1⟩; have HS5 := Lib.hid h1; clear h1) | (go_at_call 30; refine (on_1 false _ HS5.out.g2).mono ?_; rintro x w6 ⟨rfl, rfl⟩))
            go_roundw
            case rel => exact ⟨J + 1, by omega, by go_num, false, f', fcap', r', A, cap, m, du, (by have h := HS5.out; rwa [show ((K : Int) - J) - 1 = ((K - (J + 1) : Nat) : Int) by omega, show (J : Int) + 1 + 1 = ((J + 1 : Nat) : Int) + 1 by omega] at h), (by have := HAS.out.le; omega), HAS.out.du, by simp; try omega⟩
            case measure => simp [intOf]; omega
      · have t1 : ¬ ((J : Int) + 1 ≤ (lb : Int)) := by omega
        have kc := fun (w : World) (C : Array Value) (n c : Nat) => Lib.run_convert_bytes_const (P := Try.prog) w 32 5 C n c Try.underlying32 Try.underlying5
        by_cases hlast : J + 1 = K
        · have t2 : ¬ ((J : Int) + 1 < (K : Int)) := by omega
          have HOP : Hid (Op1 ((K : Int) - J) 9 0 true) := Lib.hid ⟨.inr (.inr ⟨by omega, rfl, rfl, rfl⟩)⟩
          go_wp2_with (first | (go_at_call 13; refine (append_1 (e := 9) (armed' := 0) (off' := true) _ (s1_alloc HS _) HOP (Lib.hid (by omega)) (Lib.hid (by omega)) _ 1 1 [121] (Lib.hid rfl) (by_new _ [121] (by decide) _ rfl _) (by decide) (by omega) (by omega) (by decide)).mono ?_; rintro x w5 ⟨rfl, A2, cap2, h1⟩; have HS5 := Lib.hid h1; clear h1) | (go_at_call 30; refine (on_1 true _ HS5.out.g2).mono ?_; rintro x w6 ⟨rfl, rfl⟩))
          go_roundw
          case rel => exact ⟨J + 1, by omega, by go_num, true, f, fcap, r, A2, cap2, m ++ [121], du, (by have h := HS5.out; rwa [show (0 : Int) = ((K - (J + 1) : Nat) : Int) by omega, show (J : Int) + 1 + 1 = ((J + 1 : Nat) : Int) + 1 by omega] at h), (by rw [List.length_append]; have := HAS.out.le; simp; omega), (by rw [List.length_append]; have := HAS.out.du; omega), by simp; try omega⟩
          case measure => simp [intOf]; omega
        · have t2 : (J : Int) + 1 < (K : Int) := by omega
          have HOP : Hid (Op1 ((K : Int) - J) 0 (((K : Int) - J) - 1) false) := Lib.hid ⟨.inr (.inl ⟨by omega, rfl, rfl, rfl⟩)⟩
          go_wp2_with (first | (go_at_call 13; refine (append_1 (e := 0) (armed' := ((K : Int) - J) - 1) (off' := false) _ (s1_alloc HS _) HOP (Lib.hid (by omega)) (Lib.hid (by omega)) _ 1 1 [121] (Lib.hid rfl) (by_new _ [121] (by decide) _ rfl _) (by decide) (by omega) (by omega) (by decide)).mono ?_; rintro x w5 ⟨rfl, A2, cap2, h1⟩; have HS5 := Lib.hid h1; clear h1) | (go_at_call 30; refine (on_1 false _ HS5.out.g2).mono ?_; rintro x w6 ⟨rfl, rfl⟩))
          go_roundw
          case rel => exact ⟨J + 1, by omega, by go_num, false, f, fcap, r, A2, cap2, m ++ [121], du, (by have h := HS5.out; rwa [show ((K : Int) - J) - 1 = ((K - (J + 1) : Nat) : Int) by omega, show (J : Int) + 1 + 1 = ((J + 1 : Nat) : Int) + 1 by omega] at h), (by rw [List.length_append]; have := HAS.out.le; simp; omega), (by rw [List.length_append]; have := HAS.out.du; omega), by simp; try omega⟩
          case measure => simp [intOf]; omega
    · have hJK : J = K := by omega
      subst hJK
      have hoff : off = true := by rw [hon]; simp
      subst hoff; clear hon
      have HS := Lib.hid HAS.out.s
      have t0 : ¬ ((J : Int) + 1 ≤ (J : Int)) := by omega
      go_wp2_with (first
        | (go_at_call 25; refine (read_off g _ HS.out.g2).mono ?_; rintro x w5 ⟨rfl, hb⟩; have HS1 := Lib.hid (HS.out.next hb); clear hb)
        | (go_at_call 13; refine (append_off none 0 0 _ HS1.out.g2).mono ?_; rintro x w6 ⟨rfl, hb⟩; have HS2 := Lib.hid (HS1.out.next hb); clear hb)
        | (go_at_call 15; refine (sync_off _ HS2.out.g2).mono ?_; rintro x w7 ⟨rfl, hb⟩; have HS3 := Lib.hid (HS2.out.next hb); clear hb)
        | (go_at_call 19; refine (delete_off _ HS3.out.g2).mono ?_; rintro x w8 ⟨rfl, hb⟩; have HS4 := Lib.hid (HS3.out.next hb); clear hb)
        | (go_at_call 17; refine (rename_off _ HS4.out.g2).mono ?_; rintro x w9 ⟨rfl, hb⟩; have HS5 := Lib.hid (HS4.out.next hb); clear hb)
        | (go_at_call 23; refine (restart_nil du HAS.out.du (by have := HAS.out.le; omega) _ HS5).mono ?_; rintro x w10 ⟨rfl, hb⟩; have HS6 := Lib.hid hb; clear hb)
        | (go_at_call 30; refine (on_1 false _ HS6.out.g2).mono ?_; rintro x w11 ⟨rfl, rfl⟩))
      go_ret
      exact ⟨rfl, below_gb HB1.out HS6.out.below (Nat.le_trans HB1.out.size HGN.out)⟩
theorem filesArms_any (n : Nat) (hn : n < 256) (b : Option Addr) (l : List Nat) (lb cb : Nat) (hlb : Hid (lb = l.length)) (_ : lb ≤ cb) (_ : cb ≤ maxLen) (W : World) (HA : Hid (ByAt W b l)) :
    Calls Try.prog 5 #[.int .u8 n, .slice b lb cb] W fun e w' => e = .returned (.bool true) ∧ Below W.heap.size W w' :=
  filesArms_core n hn b l lb cb hlb W HA
end Go.Proofs.Yteolpfomhiijgaa
