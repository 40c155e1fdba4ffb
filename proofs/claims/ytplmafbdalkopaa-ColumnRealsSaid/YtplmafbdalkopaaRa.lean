/-
  Layer column: the document's own Uint, Int, width.
-/
import Derived.Test.YtplmafbdalkopaaLw
set_option linter.unusedSimpArgs false
set_option linter.unusedVariables false
set_option maxRecDepth 8000
namespace Go.Proofs.Ytplmafbdalkopaa
open Go.RowKit Go.WideShapes Col
theorem Puts.at {B : Nat} {w w' : World} {l : List Nat} {e : Ending} (h : Puts B w l e w') : ∃ A n cap, e = .returned (.slice A n cap) ∧ Hid (OwnS w' B A n cap l) ∧ Hid (Below B w w') ∧ n = l.length := by
  obtain ⟨A, n, cap, he, ho, hb, -⟩ := h
  exact ⟨A, n, cap, he, ho, hb, ho.len⟩
set_option maxHeartbeats 2000000 in
theorem refU_any (n : Nat) : n < 18446744073709551616 → ∀ w : World, Calls Try.prog 46 #[.int .u64 (n : Int)] w (Puts w.heap.size w (ub n)) := by
  induction n using Nat.strongRecOn with
  | ind n ih =>
    intro hn w
    by_cases h : n < 128
    · have hw8 : IntKind.u8.wrap (n : Int) = (n : Int) := by rw [IntKind.wrap_u8]; omega
      have HO : Hid (OwnS (w.alloc (.cells #[.int .u8 (n : Int)] 5)) w.heap.size (some ⟨w.heap.size, 0, none⟩) 1 1 [n]) := Lib.hid (OwnS.of_row (cs := [.int .u8 (n : Int)]) (heap_alloc_new' w _) rfl (by decide) rfl rfl (Nat.le_refl _) (fun x hx => by simp at hx; omega))
      have HB : Hid (Below w.heap.size w (w.alloc (.cells #[.int .u8 (n : Int)] 5))) := Lib.hid ((Below.refl _ _).alloc (Nat.le_refl _) _)
      clear ih
      go_enter Try.func46, Try.ntmps46
      go_wp2
      go_ret
      exact ⟨_, 1, 1, rfl, by rw [ub_lt h]; exact HO.out, HB.out, HB.out.size⟩
    · obtain ⟨m, hm⟩ : ∃ m, m = n % 128 := ⟨_, rfl⟩
      obtain ⟨q, hq⟩ : ∃ q, q = n / 128 := ⟨_, rfl⟩
      obtain ⟨c, hc⟩ : ∃ c, c = m + 128 := ⟨_, rfl⟩
      have hmi : (n : Int) % 128 = (m : Int) := by omega
      have hmi2 : (n : Int).tmod 128 = (m : Int) := by rw [Int.tmod_eq_emod_of_nonneg (by omega)]; exact hmi
      have hqi : (n : Int) / 128 = (q : Int) := by omega
      have hqi2 : (n : Int).tdiv 128 = (q : Int) := by rw [Int.tdiv_eq_ediv_of_nonneg (by omega)]; exact hqi
      have hci : (m : Int) + 128 = (c : Int) := by omega
      have hc256 : c < 256 := by omega
      have hw8 : IntKind.u8.wrap (c : Int) = (c : Int) := by rw [IntKind.wrap_u8]; omega
      have hm128 : m < 128 := by omega
      have HUB : Hid (ub n = [c] ++ ub q) := Lib.hid (by rw [ub_ge (by omega), ← hm, ← hc, ← hq]; rfl)
      have HQ10 := Lib.hid (ub10 (show q < 18446744073709551616 by omega))
      have HI := Lib.hid (ih q (by omega) (by omega))
      have HO : Hid (OwnS (w.alloc (.cells #[.int .u8 (c : Int)] 5)) w.heap.size (some ⟨w.heap.size, 0, none⟩) 1 1 [c]) := Lib.hid (OwnS.of_row (cs := [.int .u8 (c : Int)]) (heap_alloc_new' w _) rfl (by decide) rfl rfl (Nat.le_refl _) (fun x hx => by simp at hx; omega))
      have HB : Hid (Below w.heap.size w (w.alloc (.cells #[.int .u8 (c : Int)] 5))) := Lib.hid ((Below.refl _ _).alloc (Nat.le_refl _) _)
      clear ih hm hq hc
      go_enter Try.func46, Try.ntmps46
      go_wp2_with (first
        | (go_at_call 46; refine (HI.out _).mono ?_; rintro e w2 hp; obtain ⟨A2, n2, c2, rfl, HO2, HB2, hn2⟩ := hp.at; have HN2 := Lib.hid hn2; have hn10 : n2 ≤ 10 := (by have := HQ10.out; omega); have HO3 := Lib.hid (HO.out.keep HB2.out); have HB3 := Lib.hid (below_to HB.out HB2.out); clear hp hn2)
        | (refine wpList_append_by rfl (.tmp 14) (.tmp 17) rfl w.heap.size (some ⟨w.heap.size, 0, none⟩) 1 1 [c] rfl HO3.out A2 n2 c2 (ub q) rfl HN2.out HO2.out.byAt (by omega) HB3.out.size ?_; intro A4 c4 w4 ho4 hg4 hr4; have HO4 := Lib.hid ho4; have HB4 := Lib.hid (HB3.out.grown hg4 HB3.out.size HO3.out.base); clear ho4 hg4 hr4))
      go_ret
      exact ⟨A4, _, c4, rfl, by rw [HUB.out]; exact HO4.out, HB4.out, HB4.out.size⟩
set_option maxHeartbeats 2000000 in
theorem refI_any (x : Int) (hx : Hid (Wf64 x)) (w : World) : Calls Try.prog 47 #[.int .i64 x] w (Puts w.heap.size w (ub (zz x))) := by
  have hz := zz_lt hx.out
  obtain ⟨h1, h2⟩ := hx.out
  obtain ⟨z, hzz⟩ : ∃ z, z = zz x := ⟨_, rfl⟩
  rw [← hzz] at hz
  have HZ := Lib.hid hzz
  have HU := Lib.hid (refU_any z hz)
  by_cases h : x < 0
  · have e : zz x = (-2 * x - 1).toNat := if_pos h
    obtain ⟨y, hy⟩ : ∃ y : Int, y = -(x + 1) := ⟨_, rfl⟩
    have hyi : -(x + 1) = y := hy.symm
    have hy1 : 0 ≤ y ∧ y ≤ 9223372036854775807 := by omega
    have hyw : IntKind.u64.wrap y = y := by rw [IntKind.wrap_u64]; omega
    have hzi : y * 2 + 1 = (z : Int) := by omega
    have hzi2 : 2 * y + 1 = (z : Int) := by omega
    clear hzz hy
    go_enter Try.func47, Try.ntmps47
    go_wp2_with (go_at_call 46; refine (HU.out _).mono ?_; rintro e w2 hp; obtain ⟨A2, n2, c2, rfl, HO2, HB2, hn2⟩ := hp.at; clear hp hn2)
    go_ret
    exact ⟨A2, n2, c2, rfl, by rw [← HZ.out]; exact HO2.out, HB2.out, HB2.out.size⟩
  · have e : zz x = (2 * x).toNat := if_neg h
    have hxw : IntKind.u64.wrap x = x := by rw [IntKind.wrap_u64]; omega
    have hzi : x * 2 = (z : Int) := by omega
    have hzi2 : 2 * x = (z : Int) := by omega
    clear hzz
    go_enter Try.func47, Try.ntmps47
    go_wp2_with (go_at_call 46; refine (HU.out _).mono ?_; rintro e w2 hp; obtain ⟨A2, n2, c2, rfl, HO2, HB2, hn2⟩ := hp.at; clear hp hn2)
    go_ret
    exact ⟨A2, n2, c2, rfl, by rw [← HZ.out]; exact HO2.out, HB2.out, HB2.out.size⟩
theorem bitLen_two (n : Nat) (h : 0 < n) : bitLen n = bitLen (n / 2) + 1 := by
  by_cases h2 : n / 2 = 0
  · have : n = 1 := by omega
    subst this; decide
  · have := bitLen_shift n 1 (by simpa using h2)
    rw [this]; simp; omega
set_option maxHeartbeats 1000000 in
theorem width_any (n : Nat) (hn : n < 18446744073709551616) (w : World) : Calls Try.prog 48 #[.int .u64 (n : Int)] w fun e w' => e = .returned (.int .i64 (bitLen n : Nat)) ∧ w = w' := by
  have hb64 : bitLen n ≤ 64 := by
    have hs := (bitLen_spec n).2
    by_cases h0 : n = 0
    · subst h0; decide
    · have h5 : 2 ^ (bitLen n - 1) < 2 ^ 64 := by have := hs h0; omega
      have := (Nat.pow_lt_pow_iff_right (by decide)).1 h5
      omega
  go_enter Try.func48, Try.ntmps48
  go_wp2
  go_loopw [0, 3] (fun u v wr => ∃ (m k : Nat), u = .int .u64 (m : Int) ∧ v = .int .i64 (k : Int) ∧ m ≤ n ∧ k + bitLen m = bitLen n ∧ w = wr) (fun u _ _ => (intOf u).toNat)
  case atStart => exact ⟨n, 0, rfl, rfl, Nat.le_refl _, by omega, rfl⟩
  case round =>
    obtain ⟨m, k, rfl, rfl, hm, hk, rfl⟩ := hrel
    have HK := Lib.hid hk
    have hk64 : k ≤ 64 := by omega
    clear hk
    by_cases h0 : m = 0
    · subst h0
      have HE : Hid (bitLen n = k) := Lib.hid (by have := HK.out; rw [show bitLen 0 = 0 by decide] at this; omega)
      go_wp2
      go_ret
      exact ⟨by rw [HE.out]; rfl, rfl⟩
    · obtain ⟨q, hq⟩ : ∃ q, q = m / 2 := ⟨_, rfl⟩
      have hqi : (m : Int) / 2 = (q : Int) := by omega
      have hqi2 : (m : Int).tdiv 2 = (q : Int) := by rw [Int.tdiv_eq_ediv_of_nonneg (by omega)]; exact hqi
      have HE : Hid (k + 1 + bitLen q = bitLen n) := Lib.hid (by have := HK.out; rw [bitLen_two m (by omega), ← hq] at this; omega)
      have hqm : q < m := by omega
      have hm0 : (0 : Int) < (m : Int) := by omega
      clear hq
      go_wp2
      go_roundw
      case rel => exact ⟨q, k + 1, rfl, by go_num, by omega, HE.out, by trivial⟩
      case measure => simp [intOf]; omega
end Go.Proofs.Ytplmafbdalkopaa
