/-
  The law ColumnPacked: walked.
-/
import Derived.Test.YtplmafbdalkopaaLw
set_option linter.unusedSimpArgs false
set_option linter.unusedVariables false
set_option maxRecDepth 8000
namespace Go.Proofs.Ytplmafbdalkopaa
open Go.RowKit Go.WideShapes Col
def pkIn (lo : Int) (l : List Nat) : List Int := l.map fun b => lo + ((b % 8 : Nat) : Int)
theorem pkIn_snoc (lo : Int) (l : List Nat) (k b : Nat) (h : l[k]? = some b) : pkIn lo (l.take (k + 1)) = pkIn lo (l.take k) ++ [lo + ((b % 8 : Nat) : Int)] := by
  unfold pkIn; rw [List.take_add_one, h]; simp
theorem pkIn_wid {lo : Int} {l : List Nat} (h : 0 < l.length) : wid (pkIn lo l) ≤ 3 := by
  have hmem : ∀ x ∈ pkIn lo l, lo ≤ x ∧ x ≤ lo + 7 := fun x hx => by
    obtain ⟨b, -, rfl⟩ := List.mem_map.1 hx
    have : b % 8 < 8 := Nat.mod_lt _ (by decide)
    omega
  have hne : 0 < (pkIn lo l).length := by unfold pkIn; rw [List.length_map]; exact h
  have hmn : lo ≤ mnL (pkIn lo l) := by
    have : ∀ (m : List Int) (a : Int), lo ≤ a → (∀ x ∈ m, lo ≤ x) → lo ≤ m.foldl min a := fun m => by
      induction m with
      | nil => intro a ha _; exact ha
      | cons y m ih => intro a ha hm; exact ih _ (by have := hm y (List.mem_cons_self ..); omega) fun x hx => hm x (List.mem_cons_of_mem _ hx)
    refine this _ _ ?_ fun x hx => (hmem x hx).1
    rcases hl : pkIn lo l with _ | ⟨y, m⟩
    · rw [hl] at hne; cases hne
    · exact (hmem y (by rw [hl]; exact List.mem_cons_self ..)).1
  have hmx : mxL (pkIn lo l) ≤ lo + 7 := by
    have : ∀ (m : List Int) (a : Int), a ≤ lo + 7 → (∀ x ∈ m, x ≤ lo + 7) → m.foldl max a ≤ lo + 7 := fun m => by
      induction m with
      | nil => intro a ha _; exact ha
      | cons y m ih => intro a ha hm; exact ih _ (by have := hm y (List.mem_cons_self ..); omega) fun x hx => hm x (List.mem_cons_of_mem _ hx)
    refine this _ _ ?_ fun x hx => (hmem x hx).2
    rcases hl : pkIn lo l with _ | ⟨y, m⟩
    · rw [hl] at hne; cases hne
    · exact (hmem y (by rw [hl]; exact List.mem_cons_self ..)).2
  have h7 : (mxL (pkIn lo l) - mnL (pkIn lo l)).toNat ≤ 7 := by omega
  unfold wid
  have hs := (bitLen_spec (mxL (pkIn lo l) - mnL (pkIn lo l)).toNat).2
  by_cases h0 : (mxL (pkIn lo l) - mnL (pkIn lo l)).toNat = 0
  · rw [h0]; decide
  · have h1 := hs h0
    have h5 : 2 ^ (bitLen (mxL (pkIn lo l) - mnL (pkIn lo l)).toNat - 1) < 2 ^ 3 := by omega
    have := (Nat.pow_lt_pow_iff_right (by decide)).1 h5
    omega
theorem pk_short {lo : Int} {l : List Nat} (h : 0 < l.length) (h2 : l.length ≤ 200) (hwf : ∀ x ∈ pkIn lo l, Wf64 x) : (asL 3 (pkIn lo l)).length ≤ 15 + (3 * l.length + 7) / 8 := by
  have hl : (pkIn lo l).length = l.length := List.length_map ..
  have h1 := zz10 (mnL_wf hwf)
  have h3 := pkIn_wid (lo := lo) h
  have h4 : (ub (pkIn lo l).length).length ≤ 2 := ub_len 1 _ (by omega)
  have h5 : (pkIn lo l).length * wid (pkIn lo l) ≤ (pkIn lo l).length * 3 := Nat.mul_le_mul_left _ h3
  unfold asL
  rw [if_neg (by decide), if_neg (by decide), if_neg (by decide), lpk_some (by omega)]
  simp only [List.length_append, List.length_cons, List.length_nil, leb_length]
  omega
def RPK (W : World) (lo : Int) (l : List Nat) (n : Nat) (u v : Value) (wr : World) : Prop := ∃ (k : Nat) (A : Option Addr) (cap : Nat), k ≤ n ∧ v = .int .i64 (k : Int) ∧ u = .slice A k cap ∧ OwnI wr W.heap.size A k cap (pkIn lo (l.take k)) ∧ Below W.heap.size W wr
set_option maxHeartbeats 4000000 in
theorem columnPacked_core (low : Int) (hlow : -9223372036854775808 ≤ low ∧ low ≤ 9223372036854775807) (b : Option Addr) (l : List Nat) (n c : Nat) (hn : Hid (n = l.length)) (hnc : n ≤ c) (hc : c ≤ 9223372036854775807) (W : World) (HA : Hid (ByAt W b l)) :
    Calls Try.prog 8 #[.int .i64 low, .slice b n c] W fun e w' => e = .returned (.bool true) ∧ Below W.heap.size W w' := by
  obtain ⟨hlow1, hlow2⟩ := hlow
  by_cases h200 : n ≤ 200
  · by_cases h0 : n = 0
    · subst h0
      go_enter Try.func8, Try.ntmps8
      go_wp2_with (go_at_call 10; refine (awakeC_any _).mono ?_; rintro e w1 ⟨rfl, hb⟩; first | (have HB2 := Lib.hid (below_to HB1.out hb); clear hb) | (have HB1 := Lib.hid hb; clear hb))
      go_ret
      exact ⟨rfl, HB2.out⟩
    · have hz0 : ((n : Int) == 0) = false := by rw [beq_eq_false_iff_ne]; omega
      obtain ⟨lo, hlo⟩ : ∃ lo, lo = low.tdiv 2 := ⟨_, rfl⟩
      have hlo1 : -4611686018427387904 ≤ lo ∧ lo ≤ 4611686018427387904 := by
        rw [hlo]
        rcases Int.le_total 0 low with h | h
        · rw [Int.tdiv_eq_ediv_of_nonneg h]; omega
        · have e : low.tdiv 2 = -((-low).tdiv 2) := by rw [Int.neg_tdiv, Int.neg_neg]
          rw [e, Int.tdiv_eq_ediv_of_nonneg (by omega)]; omega
      have HLO := Lib.hid hlo
      have hlo2 : low.tdiv 2 = lo := hlo.symm
      clear hlo
      go_enter Try.func8, Try.ntmps8
      go_wp2_with (go_at_call 10; refine (awakeC_any _).mono ?_; rintro e w1 ⟨rfl, hb⟩; have HB1 := Lib.hid hb; clear hb)
      have HST : Hid (RPK W lo l n (.slice none 0 0) (.int .i64 0) w1) := Lib.hid ⟨0, none, 0, Nat.zero_le _, rfl, rfl, OwnI.nil _ _, HB1.out⟩
      go_loopw [5, 6] (fun u v wr => RPK W lo l n u v wr) (fun _ v _ => n - (intOf v).toNat)
      case atStart => exact HST.out
      case round =>
        obtain ⟨k, A, cap, hk, rfl, rfl, ho, hb⟩ := hrel
        have HO := Lib.hid ho; have HB := Lib.hid hb
        clear ho hb HST
        by_cases hlt : k < n
        · obtain ⟨x, hx⟩ : ∃ x, l[k]? = some x := ⟨l[k]'(by have := hn.out; omega), List.getElem?_eq_getElem _⟩
          obtain ⟨hx256, g, off, rfl, -, hcx⟩ := (HA.out.keep HB.out) k x hx
          have HSN := Lib.hid (pkIn_snoc lo l k x hx)
          obtain ⟨m, hm⟩ : ∃ m, m = x % 8 := ⟨_, rfl⟩
          have hmi : (x : Int) % 8 = (m : Int) := by omega
          have hm8 : m < 8 := by omega
          obtain ⟨y, hy⟩ : ∃ y, y = lo + (m : Int) := ⟨_, rfl⟩
          rw [← hm, ← hy] at HSN
          have hyi : lo + (m : Int) = y := hy.symm
          have HWY : Hid (Wf64 y) := Lib.hid (by unfold Wf64; omega)
          have HAX := Lib.hid (is_one wr y HWY.out)
          have HOX := Lib.hid (HO.out.keep ((Below.refl _ _).alloc (Nat.le_refl _) (.cells #[.int .i64 y] 2)))
          have HBB := Lib.hid ((Below.refl wr.heap.size wr).alloc (Nat.le_refl _) (.cells #[.int .i64 y] 2))
          have hbs : W.heap.size ≤ (wr.alloc (.cells #[.int .i64 y] 2)).heap.size := Nat.le_trans HB.out.size HBB.out.size
          have hb2 := Lib.hid HO.out.base
          clear hx hm hy
          go_wp2_with (refine wpList_append_is rfl (.tmp 29) (.tmp 39) rfl W.heap.size A k cap _ rfl HOX.out ⟨wr.heap.size, 0, none⟩ 1 1 [y] rfl rfl HAX.out (by omega) hbs ?_; intro A3 c3 w4 ho hg; have HO4 := Lib.hid ho; have HB4 : Hid (Below W.heap.size W w4) := Lib.hid ((below_to HB.out HBB.out).grown hg hbs hb2.out); clear ho hg)
          go_roundw
          case rel => exact ⟨k + 1, A3, c3, by omega, by go_num, rfl, by rw [HSN.out]; exact HO4.out, HB4.out⟩
          case measure => simp [intOf]; omega
        · obtain rfl : k = n := by omega
          have HT : Hid (l.take k = l) := Lib.hid (List.take_of_length_le (by have := hn.out; omega))
          rw [HT.out] at HO
          have HWF := Lib.hid HO.out.2
          obtain ⟨ms, hms⟩ : ∃ ms, ms = pkIn lo l := ⟨_, rfl⟩
          have HLEN : Hid (k = ms.length) := Lib.hid (by rw [hms, hn.out]; exact (List.length_map ..).symm)
          have HSH : Hid ((asL 3 ms).length ≤ 15 + (3 * k + 7) / 8) := Lib.hid (by rw [hms, hn.out]; exact pk_short (by have := hn.out; omega) (by have := hn.out; omega) HWF.out)
          have HBACK : Hid (riL (asL 3 ms) = some ms) := Lib.hid (asr_back 3 (by decide) ms (by rw [hms]; exact HWF.out) (by have := HLEN.out; omega))
          rw [← hms] at HO HWF
          clear hms
          obtain ⟨hkc, hcm⟩ := HO.out.caps
          have HAS := Lib.hid (as_any 3 (by decide) A k cap ms HLEN hkc hcm (by omega) wr (Lib.hid HO.out.isAt))
          have HA20 := Lib.hid (asL_len 3 ms HWF.out (by have := HLEN.out; omega))
          obtain ⟨q3, hq3⟩ : ∃ q3, q3 = (3 * k + 7) / 8 := ⟨_, rfl⟩
          have hq3i : ((3 : Int) * (k : Int) + 7) / 8 = (q3 : Int) := by omega
          have hq3i2 : ((3 : Int) * (k : Int) + 7).tdiv 8 = (q3 : Int) := by rw [Int.tdiv_eq_ediv_of_nonneg (by omega)]; exact hq3i
          have hq3b : q3 ≤ 100 := by omega
          rw [← hq3] at HSH
          clear hq3
          go_wp2_with (first
            | (go_at_call 13; (refine (HAS.out).mono ?_); rintro e w2 ⟨A2, n2, c2, rfl, h1, h2, h3⟩; have HO2 := Lib.hid h1; have HB2 := Lib.hid (below_to HB.out h2); have HOM := Lib.hid (HO.out.keep h2); have hn2 : n2 ≤ 15 + q3 := (by have e1 := h1.len; have e2 := HSH.out; omega); have hn2i : (n2 : Int) ≤ 15 + (q3 : Int) := (by omega); have hRI := readIntsC_any A2 c2 (asL 3 ms) n2 (Lib.hid h1.len) (by omega) h1.caps.1 h1.caps.2 w2 (Lib.hid h1.byAt); rw [HBACK.out] at hRI; have HRI := Lib.hid hRI; clear h1 h2 h3 hRI)
            | (go_at_call 14; (refine (HRI.out).mono ?_); rintro e w3 ⟨⟨A4, n4, c4, rfl, h1⟩, h2⟩; obtain rfl : n4 = k := (by have e1 := h1.len; have e2 := HLEN.out; omega); have HO4 := Lib.hid h1; have HB3 := Lib.hid (below_to HB2.out h2); have HOM3 := Lib.hid (HOM.out.keep h2); clear h1 h2)
            | (go_at_call 16; (refine (sameI_any A4 A n4 c4 cap ms HLEN (by omega) _ (Lib.hid HO4.out.isAt) (Lib.hid HOM3.out.isAt)).mono ?_); rintro e w5 ⟨rfl, hb⟩; have HB5 := Lib.hid (below_to HB3.out hb); clear hb))
          go_ret
          exact ⟨rfl, HB5.out⟩
  · go_enter Try.func8, Try.ntmps8
    go_wp2_with (go_at_call 10; refine (awakeC_any _).mono ?_; rintro e w1 ⟨rfl, hb⟩; first | (have HB2 := Lib.hid (below_to HB1.out hb); clear hb) | (have HB1 := Lib.hid hb; clear hb))
    go_ret
    exact ⟨rfl, HB2.out⟩
theorem columnPacked_any (low : Int) (hlow : -9223372036854775808 ≤ low ∧ low ≤ 9223372036854775807) (b : Option Addr) (l : List Nat) (n c : Nat) (hn : Hid (n = l.length)) (hnc : n ≤ c) (hc : c ≤ maxLen) (W : World) (HA : Hid (ByAt W b l)) :
    Calls Try.prog 8 #[.int .i64 low, .slice b n c] W fun e w' => e = .returned (.bool true) ∧ Below W.heap.size W w' :=
  columnPacked_core low hlow b l n c hn hnc hc W HA
end Go.Proofs.Ytplmafbdalkopaa
