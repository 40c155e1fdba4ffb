/-
  Layer mark: the contract of Lay.
-/
import Derived.Test.YtgoibcolehcgcaaKj
import Derived.Outline
import Derived.Deep.CutBlock
set_option linter.unusedSimpArgs false
set_option linter.unusedVariables false
set_option maxRecDepth 8000
namespace Go.Proofs.Ytgoibcolehcgcaa
open Go.RowKit Go.WideShapes Mk Col
/-- What the rounds of Lay hold. -/
structure LY (W1 : World) (n : Nat) (G : Nat → Option Int) (k : Nat) (A : Option Addr) (m cap : Nat) (w : World) : Prop where
  own : OwnS w W1.heap.size A m cap (ub n ++ pcs G k)
  below : Below W1.heap.size W1 w
theorem u64_of (n : Nat) (h : n ≤ 8) : IntKind.u64.wrap (n : Int) = (n : Int) := by rw [IntKind.wrap_u64]; omega
theorem LY.len {W1 w : World} {n k m cap : Nat} {G : Nat → Option Int} {A : Option Addr} (h : LY W1 n G k A m cap w) (hG : MWf G) (h8 : n ≤ 8) (hk : k ≤ n) : m ≤ 1000 := by
  have h1 := h.own.len
  rw [List.length_append] at h1
  have h2 := pcs_len hG k
  have h3 := ub_len 0 n (by omega)
  omega
set_option maxHeartbeats 4000000 in
theorem layM_nil (n : Nat) (h8 : n ≤ 8) (G : Nat → Option Int) (hG : Hid (MWf G)) (W : World) :
    Calls Try.prog 17 #[.slice none 0 0, .agg (MC (n : Int) G)] W fun e w' => ∃ A m cap, e = .returned (.slice A m cap) ∧ OwnS w' W.heap.size A m cap (mkB n G) ∧ Below W.heap.size W w' := by
  have h0 := MC_n (n : Int) G
  have hw := u64_of n h8
  obtain ⟨W1, hW1⟩ : ∃ W1, W1 = W.alloc (.cells (MC (n : Int) G) 28) := ⟨_, rfl⟩
  have HWB : Hid (Below W.heap.size W W1) := Lib.hid (by rw [hW1]; exact (Below.refl _ _).alloc (Nat.le_refl _) _)
  have HR1 : Hid (W1.heap[W.heap.size]? = some (.cells (MC (n : Int) G) 28 (0, 0))) := Lib.hid (by rw [hW1]; exact heap_alloc_new' W _)
  have HE := Lib.hid hW1
  clear hW1
  go_enter Try.func17, Try.ntmps17
  go_upto_region 2 with (go_at_call 24; rw [← HE.out]; (with_reducible refine (putU_any W1.heap.size none 0 0 [] n (by omega) _ (Lib.hid (OwnS.nil _ _)) (by omega) (Nat.le_refl _)).mono ?_); rintro e w1 ⟨A1, m1, c1, rfl, ho, hb, hz⟩; have HO1 := Lib.hid ho; have HB1 := Lib.hid hb; clear ho hb hz)
  have c1' : w1.cell? ⟨W.heap.size, 0, none⟩ = some (.int .i64 (n : Int)) := by rw [cell_of_row _ _ _ _ _ _ (row_keep HR1.out HB1.out), MC_n]
  have HY : Hid (LY W1 n G 0 A1 m1 c1 w1) := Lib.hid ⟨by
    have := HO1.out
    rw [List.nil_append] at this
    rw [pcs_zero, List.append_nil]
    exact this, HB1.out⟩
  clear HO1 HB1
  go_wp2_with fail
  go_loopw [0, 15] (fun p i wr => ∃ k : Nat, k ≤ n ∧ i = .int .i64 (k : Int) ∧ ∃ A m cap, p = .slice A m cap ∧ Hid (LY W1 n G k A m cap wr)) (fun _ i _ => n - (intOf i).toNat)
  case atStart => exact ⟨0, by omega, rfl, A1, m1, c1, rfl, HY⟩
  case round =>
    obtain ⟨k, hk, rfl, A, m, cap, rfl, HY⟩ := hrel
    have HML := Lib.hid (HY.out.len hG.out h8 hk)
    by_cases hlt : k < n
    · have HRR := Lib.hid (row_keep HR1.out HY.out.below)
      rcases hg : G k with _ | t
      · have HG := Lib.hid hg
        clear hg
        go_wp2_with (first
          | (refine wpList_load_row rfl 28 (.tmp 3) rfl W.heap.size rfl _ (MC (n : Int) G) (0, 0) _ HRR.out uM rfl (iM _ _) ?_)
          | (go_at_call 11; (with_reducible refine (ofM_in (n : Int) k G (by omega) (by omega) _).mono ?_); rintro e w3 ⟨rfl, hb⟩; rw [HG.out]; have HB4 := Lib.hid ((HY.out.below.trans (hb.mono HY.out.below.size)).alloc (Nat.le_trans HY.out.below.size hb.size) (.cells #[.int .u8 ((0 : Nat) : Int)] 5)); have HO3 := Lib.hid (HY.out.own.keep (hb.alloc hb.size (.cells #[.int .u8 ((0 : Nat) : Int)] 5))); have HN3 := Lib.hid (by_one w3 0 (by omega)); clear hb)
          | (refine wpList_append_by rfl (.tmp 26) (.tmp 27) rfl W1.heap.size A m cap _ rfl HO3.out (some ⟨w3.heap.size, 0, none⟩) 1 1 [0] rfl rfl HN3.out (by have := HML.out; omega) HB4.out.size ?_; intro A2 cap2 w2 ho2 hg2 hr2; have HF := Lib.hid ho2; have HB5 := Lib.hid (HB4.out.grown hg2 HB4.out.size HO3.out.base); clear ho2 hg2 hr2))
        have HY2 : Hid (LY W1 n G (k + 1) A2 (m + 1) cap2 w2) := Lib.hid ⟨by
          have := HF.out
          rw [List.append_assoc, ← pcs_none HG.out] at this
          exact this, HB5.out⟩
        go_roundw
        case rel => exact ⟨k + 1, by omega, by go_num, A2, m + 1, cap2, rfl, HY2⟩
        case measure => simp [intOf]; omega
      · have HG := Lib.hid hg
        have HT := Lib.hid (hG.out k t hg)
        clear hg
        go_wp2_with (first
          | (refine wpList_load_row rfl 28 (.tmp 3) rfl W.heap.size rfl _ (MC (n : Int) G) (0, 0) _ HRR.out uM rfl (iM _ _) ?_)
          | (go_at_call 11; (with_reducible refine (ofM_in (n : Int) k G (by omega) (by omega) _).mono ?_); rintro e w3 ⟨rfl, hb⟩; rw [HG.out]; have HB4 := Lib.hid ((HY.out.below.trans (hb.mono HY.out.below.size)).alloc (Nat.le_trans HY.out.below.size hb.size) (.cells #[.int .u8 ((1 : Nat) : Int)] 5)); have HO3 := Lib.hid (HY.out.own.keep (hb.alloc hb.size (.cells #[.int .u8 ((1 : Nat) : Int)] 5))); have HN3 := Lib.hid (by_one w3 1 (by omega)); clear hb)
          | (refine wpList_append_by rfl (.tmp 29) (.tmp 30) rfl W1.heap.size A m cap _ rfl HO3.out (some ⟨w3.heap.size, 0, none⟩) 1 1 [1] rfl rfl HN3.out (by have := HML.out; omega) HB4.out.size ?_; intro A2 cap2 w2 ho2 hg2 hr2; have HF := Lib.hid ho2; have HB5 := Lib.hid (HB4.out.grown hg2 HB4.out.size HO3.out.base); clear ho2 hg2 hr2)
          | (go_at_call 25; (with_reducible refine (putI_any W1.heap.size A2 (m + 1) cap2 _ t HT _ HF (by have := HML.out; omega) HB5.out.size).mono ?_); rintro e w6 ⟨A6, m6, c6, rfl, ho, hb, hz⟩; have HO6 := Lib.hid ho; have HB6 := Lib.hid (HB5.out.trans hb); clear ho hb hz))
        have HY2 : Hid (LY W1 n G (k + 1) A6 m6 c6 w6) := Lib.hid ⟨by
          have := HO6.out
          rw [List.append_assoc, List.append_assoc] at this
          rw [pcs_some HG.out]
          exact this, HB6.out⟩
        go_roundw
        case rel => exact ⟨k + 1, by omega, by go_num, A6, m6, c6, rfl, HY2⟩
        case measure => simp [intOf]; omega
    · obtain rfl : k = n := by omega
      go_wp2
      go_ret
      exact ⟨A, m, cap, rfl, HY.out.own.more HWB.out.size, HWB.out.trans (HY.out.below.mono HWB.out.size)⟩
end Go.Proofs.Ytgoibcolehcgcaa
