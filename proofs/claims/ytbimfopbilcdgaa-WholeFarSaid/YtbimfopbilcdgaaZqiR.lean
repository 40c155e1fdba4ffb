/-
  Layer whole: the document's windows of a time in memory (r11.down, r11.Of of windows that are no sessions).
-/
import Derived.Test.YtbimfopbilcdgaaZqgR
import Derived.Test.YtbimfopbilcdgaaZyQ
set_option linter.unusedSimpArgs false
set_option linter.unusedVariables false
set_option maxRecDepth 8000
namespace Go.Proofs.Ytbimfopbilcdgaa
open Go.RowKit Go.Sort Sm

theorem tdiv_near (t n : Int) (h : 1 ≤ n) : t.tdiv n = t / n ∨ t.tdiv n = t / n + 1 := by
  rw [Int.tdiv_eq_ediv]
  split
  · left; omega
  · right; rw [Int.sign_eq_one_of_pos (by omega)]
set_option maxHeartbeats 400000 in
theorem down_any (t n : Int) (h1 : 1 ≤ n) (h2 : n ≤ 1073741824) (t1 : -4398046511104 ≤ t) (t2 : t ≤ 4398046511104) (w : World) :
    Calls Try.prog 121 #[.int .i64 t, .int .i64 n] w fun e w' => e = .returned (.int .i64 (t - t % n)) ∧ w = w' := by
  have a1 := Int.emod_nonneg t (b := n) (by omega)
  have a2 := Int.emod_lt_of_pos t (b := n) (by omega)
  have a3 := Int.mul_ediv_add_emod t n
  have a4 := tdiv_near t n h1
  obtain ⟨f, hf⟩ : ∃ f, f = t / n := ⟨_, rfl⟩
  rw [← hf] at a3 a4
  have e1 : f * n = t - t % n := by rw [Int.mul_comm]; omega
  have e2 : (f + 1) * n = f * n + n := by rw [Int.add_mul, Int.one_mul]
  have f1 : -4398046511104 ≤ f := by
    rw [hf]; exact (Int.le_ediv_iff_mul_le (by omega)).2 (Int.le_trans (by
      have h5 := Int.mul_le_mul_of_nonneg_left h1 (show (0 : Int) ≤ 4398046511104 by omega)
      omega) t1)
  have f2 : f ≤ 4398046511104 := by
    rw [hf]
    rcases Int.lt_or_le t 0 with h | h
    · have := Int.ediv_neg_of_neg_of_pos h (show 0 < n by omega); omega
    · exact Int.le_trans (Int.ediv_le_self _ h) t2
  have b1 : -4398046511104 ≤ t.tdiv n := by omega
  have b2 : t.tdiv n ≤ 4398046511105 := by omega
  have b3 : n ≠ 0 := by omega
  have m1 : -4400000000000 ≤ f * n := by omega
  have m2 : f * n ≤ t := by omega
  have m3 : t < (f + 1) * n := by omega
  have m4 : (f + 1) * n ≤ 4400000000000 := by omega
  have HE := Lib.hid e1
  have HTD := Lib.hid a4
  clear hf a1 a2 a3 a4 e1 e2
  go_enter Try.func121, Try.ntmps121
  go_wp2
  go_loopw [5] (fun q wr => (q = .int .i64 f ∨ q = .int .i64 (f + 1)) ∧ wr = w) (fun q _ => (intOf q - f).toNat)
  case atStart => exact ⟨by rcases HTD.out with h | h <;> rw [h] <;> simp, rfl⟩
  case round =>
    obtain ⟨hq, rfl⟩ := hrel
    rcases hq with rfl | rfl
    · go_wp2
      go_ret
      exact ⟨ret_eq (by rw [HE.out]; rfl), rfl⟩
    · go_wp2
      go_roundw
      case rel => exact ⟨.inl (by go_num), trivial⟩
      case measure => (simp [intOf]; try omega)
/-- Of eighteen windows those that lie so many steps ahead, or more. -/
def dPart (c : Cf) (t : Int) (k : Nat) : List Wd := (((List.range 18).drop k).reverse.filter (okW c t)).map (c.w t)
theorem dPart_end (c : Cf) (t : Int) : dPart c t 18 = [] := rfl
theorem dPart_all (c : Cf) (t : Int) : dPart c t 0 = dOf c t 18 := rfl
theorem dPart_step (c : Cf) (t : Int) (k : Nat) (hk : k < 18) : dPart c t k = dPart c t (k + 1) ++ (if okW c t k = true then [c.w t k] else []) := by
  unfold dPart
  have e : (List.range 18).drop k = k :: (List.range 18).drop (k + 1) := by
    rw [List.drop_eq_getElem_cons (by simpa using hk)]; simp
  rw [e, List.reverse_cons, List.filter_append, List.map_append]
  congr 1
  by_cases h : okW c t k = true
  · rw [if_pos h, List.filter_cons_of_pos h]; rfl
  · rw [if_neg h, List.filter_cons_of_neg h]; rfl
theorem ownWn_new {w : World} {B g : Nat} {x : Wd} (hB : B ≤ g) (hrow : w.heap[g]? = some (.cells #[.int .i64 x.s, .int .i64 x.e] 84 (0, 0))) : OwnWn w B (some ⟨g, 0, none⟩) 1 1 [x] :=
  ⟨rfl, .inr ⟨g, 1, _, rfl, hB, hrow, Nat.le_refl _, by unfold maxLen; omega, rfl, rfl⟩⟩
set_option maxHeartbeats 1000000 in
theorem rOf_tum (c : Cf) (h : c.Ok) (hk : c.kind = 0) (t : Int) (t1 : -4398046511104 ≤ t) (t2 : t ≤ 4398046511104) (w : World) : Calls Try.prog 93 #[c.v, .int .i64 t] w (WnRet w (wOf c t)) := by
  have b2 := h.size1
  have b3 := h.size2
  have HD := Lib.hid fun w => down_any t c.size b2 b3 t1 t2 w
  have HW : Hid (wOf c t = [⟨t - t % c.size, t - t % c.size + c.size⟩]) := Lib.hid (by
    rw [wOf_tum h hk]; unfold Cf.a Cf.st; rw [if_neg (by omega), if_neg (by omega)])
  have a1 := Int.emod_nonneg t (b := c.size) (by omega)
  have a2 := Int.emod_lt_of_pos t (b := c.size) (by omega)
  obtain ⟨a, ha⟩ : ∃ a, a = t - t % c.size := ⟨_, rfl⟩
  rw [← ha] at HD HW
  have l1 : -4400000000000 ≤ a := by omega
  have l2 : a ≤ t := by omega
  generalize wOf c t = L at *
  have HB0 : Hid (Below w.heap.size w (cfW w c)) := Lib.hid ((Below.refl _ _).alloc (Nat.le_refl _) _)
  clear ha a1 a2
  obtain ⟨kind, size, step, late, skew, parts, cut⟩ := c
  simp only at *
  subst hk
  clear h
  go_enter Try.func93, Try.ntmps93
  go_wp2_with (go_at_call 121; with_reducible refine (HD.out _).mono ?_; rintro e w1 ⟨rfl, rfl⟩)
  go_ret
  exact ⟨_, _, _, rfl, by rw [HW.out]; rfl, by rw [HW.out]; exact ownWn_new (x := ⟨a, a + size⟩) (by simp) (zheap_new' _ _ _ (by simp)), HB0.out.alloc (by simp) _⟩
set_option maxHeartbeats 2000000 in
theorem rOf_sli (c : Cf) (h : c.Ok) (hk : c.kind = 1) (t : Int) (t1 : -4398046511104 ≤ t) (t2 : t ≤ 4398046511104) (w : World) : Calls Try.prog 93 #[c.v, .int .i64 t] w (WnRet w (wOf c t)) := by
  have b2 := h.size1
  have b3 := h.size2
  have b4 := h.step1 hk
  have p1 : 1 ≤ c.step := b4.1
  have p2 : c.step ≤ 1073741824 := by omega
  have hst : c.st = c.step := by unfold Cf.st; rw [if_pos hk]
  have hca : c.a t = t - t % c.step := by unfold Cf.a; rw [if_neg (by omega), hst]
  have HD := Lib.hid fun w => down_any t c.step p1 p2 t1 t2 w
  have HW : Hid (dPart c t 0 = wOf c t) := Lib.hid ((dPart_all c t).trans (dOf_is h t))
  have HS := Lib.hid (dPart_step c t)
  have HE := Lib.hid (dPart_end c t)
  have HOK : Hid (∀ i : Nat, okW c t i = decide (t < t - t % c.step - (i : Int) * c.step + c.size)) := Lib.hid fun i => by
    unfold okW Cf.w
    rw [hca, hst]
    have h3 : (0 : Int) ≤ (i : Int) * c.step := Int.mul_nonneg (by omega) (by omega)
    have h4 := Int.emod_nonneg t (b := c.step) (by omega)
    rw [decide_eq_true (show t - t % c.step - (i : Int) * c.step ≤ t by omega), Bool.true_and]
  have HCW : Hid (∀ i : Nat, c.w t i = ⟨t - t % c.step - (i : Int) * c.step, t - t % c.step - (i : Int) * c.step + c.size⟩) := Lib.hid fun i => by unfold Cf.w; rw [hca, hst]
  have HMB : Hid (∀ i : Nat, i < 18 → 0 ≤ (i : Int) * c.step ∧ (i : Int) * c.step ≤ 19327352832) := Lib.hid fun i hi => ⟨Int.mul_nonneg (by omega) (by omega), by
    have h5 : (i : Int) * c.step ≤ 18 * c.step := Int.mul_le_mul_of_nonneg_right (by omega) (by omega)
    omega⟩
  have a1 := Int.emod_nonneg t (b := c.step) (by omega)
  have a2 := Int.emod_lt_of_pos t (b := c.step) (by omega)
  obtain ⟨a, ha⟩ : ∃ a, a = t - t % c.step := ⟨_, rfl⟩
  rw [← ha] at HD HOK HCW
  have l1 : -4400000000000 ≤ a := by omega
  have l2 : a ≤ t := by omega
  generalize wOf c t = L at *
  have HB0 : Hid (Below w.heap.size w (cfW w c)) := Lib.hid ((Below.refl _ _).alloc (Nat.le_refl _) _)
  obtain ⟨dP, hdP⟩ : ∃ f, f = dPart c t := ⟨_, rfl⟩
  rw [← hdP] at HW HS HE
  clear ha a1 a2 hca hst h b4 hdP
  obtain ⟨cw, hcw⟩ : ∃ f, f = c.w t := ⟨_, rfl⟩
  obtain ⟨ok, hok⟩ : ∃ f, f = okW c t := ⟨_, rfl⟩
  rw [← hok] at HS HOK
  rw [← hcw] at HS HCW
  clear hok hcw
  have HQ : Hid (∀ w', Below (w.heap.size + 1) (cfW w c) w' → ∀ (j : Nat) (v : Value), (#[.int .u8 (c.kind : Int), .int .i64 c.size, .int .i64 c.step, .int .i64 c.late, .int .i64 c.skew, .int .i64 c.parts, .int .u64 (c.cut : Int)] : Array Value)[j]? = some v → w'.cell? ⟨w.heap.size, j, none⟩ = some v) := Lib.hid fun w' hb j v hv => cf_cell w c hb j v hv
  obtain ⟨wc, hwc⟩ : ∃ q, q = cfW w c := ⟨_, rfl⟩
  have hwz : wc.heap.size = w.heap.size + 1 := by rw [hwc]; simp
  rw [← hwc] at HB0 HQ
  obtain ⟨kind, size, step, late, skew, parts, cut⟩ := c
  simp only at *
  subst hk
  go_enter Try.func93, Try.ntmps93
  go_wp2_with (go_at_call 121; with_reducible refine (HD.out _).mono ?_; rintro e w1 ⟨rfl, rfl⟩)
  go_loopw [5, 8] (fun l i wr => ∃ (k n cap : Nat) (A : Option Addr), k ≤ 18 ∧ i = .int .i64 ((k : Int) - 1) ∧ n ≤ 18 - k ∧ l = .slice A n cap ∧ n ≤ cap ∧ cap ≤ maxLen ∧ (A = none → cap = 0) ∧ OwnWn wr (w.heap.size + 1) A n cap (dP k) ∧ Below (w.heap.size + 1) wc wr) (fun _ i _ => (intOf i + 1).toNat)
  case atStart => exact ⟨18, 0, 0, none, Nat.le_refl _, rfl, Nat.zero_le _, rfl, Nat.le_refl _, Nat.zero_le _, fun _ => rfl, by rw [HE.out]; exact OwnWn.nil _ _, by rw [hwc]; exact Below.refl _ _⟩
  case round =>
    obtain ⟨k, n, cap, A, hk, rfl, hn, rfl, hc1, hc2, hc3, ho, hb⟩ := hrel
    have HO := Lib.hid ho
    have HB := Lib.hid hb
    have HC := Lib.hid (And.intro hc1 (And.intro hc2 hc3))
    have q1 := HQ.out _ hb 1 _ rfl
    have q2 := HQ.out _ hb 2 _ rfl
    clear ho hb hc1 hc2 hc3
    rcases k with _ | j
    · go_wp2
      go_ret
      exact ⟨A, n, cap, rfl, by rw [HO.out.len, HW.out], by rw [← HW.out]; exact HO.out.less (Nat.le_succ _), HB0.out.trans (HB.out.mono (Nat.le_succ _))⟩
    · have hj : j < 18 := by omega
      have hji : ((j + 1 : Nat) : Int) - 1 = (j : Int) := by omega
      rw [hji]
      have hm := HMB.out j hj
      have HSj := Lib.hid (HS.out j hj)
      have HOKj := Lib.hid (HOK.out j)
      have HCWj := Lib.hid (HCW.out j)
      obtain ⟨m, hme⟩ : ∃ m : Int, m = (j : Int) * step := ⟨_, rfl⟩
      rw [← hme] at hm HOKj HCWj
      have m1 := hm.1
      have m2 := hm.2
      have hme' := hme.symm
      clear hm hme
      obtain ⟨x, hx⟩ : ∃ x, x = a - m := ⟨_, rfl⟩
      rw [← hx] at HOKj HCWj
      have hx' := hx.symm
      have x1 : x ≤ t := by omega
      have x2 : -5000000000000 ≤ x := by omega
      clear hx
      by_cases hlt : t < x + size
      · have HDP : Hid (dP j = dP (j + 1) ++ [⟨x, x + size⟩]) := Lib.hid (by rw [HSj.out, HOKj.out, if_pos (decide_eq_true hlt), HCWj.out])
        go_wp2_with (at_builtin; refine wpList_append_wn rfl _ _ rfl (w.heap.size + 1) A n cap (dP (j + 1)) rfl (HO.out.below ((Below.refl _ _).alloc (Nat.le_refl _) _) (fun g' off' e => (HO.out.lt g' off' e).1)) (some ⟨wr.heap.size, 0, none⟩) 1 1 [⟨x, x + size⟩] rfl rfl (wn_new wr _ [⟨x, x + size⟩] _ rfl _ rfl) (fun h => by cases h) (n + 1) rfl (by omega) (by have h9 := HB.out.size; rw [hwz] at h9; simp; omega) ?_; intro A3 c3 w3 ho3 hc31 hc32 hc33 hb3 hg3 hl3; have HO3 := Lib.hid ho3; have HC3 := Lib.hid (And.intro hc31 (And.intro hc32 hc33)); have HB3 := Lib.hid ((HB.out.alloc (by have h9 := HB.out.size; rw [hwz] at h9; omega) _).trans hb3); clear ho3 hc31 hc32 hc33 hb3 hg3 hl3)
        go_roundw
        case rel => exact ⟨j, n + 1, c3, A3, by omega, by go_num, by omega, rfl, HC3.out.1, HC3.out.2.1, HC3.out.2.2, by rw [HDP.out]; exact HO3.out, HB3.out⟩
        case measure => (simp [intOf]; try omega)
      · have HDP : Hid (dP j = dP (j + 1)) := Lib.hid (by rw [HSj.out, HOKj.out, if_neg (by simp; omega), List.append_nil])
        go_wp2
        go_roundw
        case rel => exact ⟨j, n, cap, A, by omega, by go_num, by omega, rfl, HC.out.1, HC.out.2.1, HC.out.2.2, by rw [HDP.out]; exact HO.out, HB.out⟩
        case measure => (simp [intOf]; try omega)
end Go.Proofs.Ytbimfopbilcdgaa
