/-
  The law PageTurned: bits that are turned within 32 are told.
-/
import Derived.Test.YtamdonglbdmckaaDoorGn
set_option linter.unusedSimpArgs false
set_option linter.unusedVariables false
namespace Go.Proofs.YtamdonglbdmckaaDoor
open Go.RowKit

namespace Pg
/-- A bit is turned. -/
def fl (l : List Nat) (j : Nat) : List Nat := l.set (j / 8) (l.getD (j / 8) 0 ^^^ 2 ^ (j % 8))
theorem fl_len (l : List Nat) (j : Nat) : (fl l j).length = l.length := List.length_set
theorem two_lt (j : Nat) : 2 ^ (j % 8) < 256 := by
  have h : j % 8 < 8 := Nat.mod_lt _ (by decide)
  have : 2 ^ (j % 8) ≤ 2 ^ 7 := Nat.pow_le_pow_right (by decide) (by omega)
  omega
theorem fl_lt (l : List Nat) (j : Nat) (hl : ∀ x ∈ l, x < 256) (hj : j / 8 < l.length) : ∀ x ∈ fl l j, x < 256 := by
  intro x hx
  rcases List.mem_or_eq_of_mem_set hx with h | h
  · exact hl x h
  · rw [h]
    refine Nat.xor_lt_two_pow (n := 8) ?_ (two_lt j)
    rw [List.getD_eq_getElem?_getD, List.getElem?_eq_getElem hj]
    exact hl _ (List.getElem_mem hj)
theorem val_set : ∀ (l : List Nat) (i d : Nat), (∀ x ∈ l, x < 256) → i < l.length → d < 256 → val (l.set i (l.getD i 0 ^^^ d)) = val l ^^^ 256 ^ i * d
  | [], i, d, _, h, _ => by simp at h
  | b :: l, 0, d, hl, _, hd => by
    have hb := hl b (by simp)
    show val ((b ^^^ d) :: l) = _
    rw [val_cons_xor _ _ (Nat.xor_lt_two_pow (n := 8) hb hd), val_cons_xor b l hb]
    simp only [Nat.pow_zero, Nat.one_mul]
    rw [Nat.xor_assoc, Nat.xor_comm d, ← Nat.xor_assoc]
  | b :: l, i + 1, d, hl, h, hd => by
    have hb := hl b (by simp)
    have ih := val_set l i d (fun x hx => hl x (by simp [hx])) (by simpa using h) hd
    show val (b :: l.set i (l.getD i 0 ^^^ d)) = _
    rw [val_cons_xor _ _ hb, val_cons_xor b l hb, ih, Nat.xor_assoc]
    congr 1
    apply Nat.eq_of_testBit_eq
    intro k
    have e1 : 256 * (val l ^^^ 256 ^ i * d) = 2 ^ 8 * (val l ^^^ 256 ^ i * d) := rfl
    have e2 : 256 * val l = 2 ^ 8 * val l := rfl
    have e3 : 256 ^ (i + 1) * d = 2 ^ 8 * (256 ^ i * d) := by rw [Nat.pow_succ, Nat.mul_comm (256 ^ i) 256, Nat.mul_assoc]
    rw [e1, e2, e3, Nat.testBit_xor, Nat.testBit_two_pow_mul, Nat.testBit_two_pow_mul, Nat.testBit_two_pow_mul, Nat.testBit_xor]
    cases decide (k ≥ 8) <;> simp
theorem val_fl (l : List Nat) (j : Nat) (hl : ∀ x ∈ l, x < 256) (hj : j / 8 < l.length) : val (fl l j) = val l ^^^ 2 ^ j := by
  unfold fl
  rw [val_set l (j / 8) _ hl hj (two_lt j)]
  congr 1
  rw [show (256 : Nat) = 2 ^ 8 by rfl, ← Nat.pow_mul, ← Nat.pow_add]
  congr 1
  omega
/-- The first bits of a pattern are turned, from a place on. -/
def tl (l : List Nat) (s p : Nat) : Nat → List Nat
  | 0 => l
  | i + 1 => if p / 2 ^ i % 2 = 1 then fl (tl l s p i) (s + i) else tl l s p i
theorem tl_succ (l : List Nat) (s p i : Nat) : tl l s p (i + 1) = if p / 2 ^ i % 2 = 1 then fl (tl l s p i) (s + i) else tl l s p i := rfl
theorem tl_len (l : List Nat) (s p : Nat) : ∀ i, (tl l s p i).length = l.length
  | 0 => rfl
  | i + 1 => by unfold tl; split; rw [fl_len]; exact tl_len l s p i; exact tl_len l s p i
theorem tl_lt (l : List Nat) (s p : Nat) (hl : ∀ x ∈ l, x < 256) : ∀ i, s + i ≤ 8 * l.length → ∀ x ∈ tl l s p i, x < 256
  | 0, _ => hl
  | i + 1, h => by
    unfold tl; split
    · exact fl_lt _ _ (tl_lt l s p hl i (by omega)) (by rw [tl_len]; omega)
    · exact tl_lt l s p hl i (by omega)
theorem mod_snoc (p i : Nat) : p % 2 ^ (i + 1) = 2 ^ i * (p / 2 ^ i % 2) + p % 2 ^ i := by
  rw [Nat.pow_succ, Nat.mod_mul]; omega
theorem mod_snoc_xor (p i : Nat) : p % 2 ^ (i + 1) = p % 2 ^ i ^^^ 2 ^ i * (p / 2 ^ i % 2) := by
  have h := split_xor i (p % 2 ^ (i + 1))
  have hlt : p % 2 ^ i < 2 ^ i := Nat.mod_lt _ (Nat.two_pow_pos i)
  have h1 : p % 2 ^ (i + 1) / 2 ^ i = p / 2 ^ i % 2 := by
    rw [mod_snoc, Nat.mul_add_div (Nat.two_pow_pos i), Nat.div_eq_of_lt hlt, Nat.add_zero]
  have h2 : p % 2 ^ (i + 1) % 2 ^ i = p % 2 ^ i := by rw [mod_snoc, Nat.mul_add_mod, Nat.mod_eq_of_lt hlt]
  rw [h1, h2] at h
  rw [h]; exact Nat.xor_comm _ _
theorem mul_xor_pow (s x y : Nat) : 2 ^ s * (x ^^^ y) = 2 ^ s * x ^^^ 2 ^ s * y := by
  apply Nat.eq_of_testBit_eq
  intro k
  rw [Nat.testBit_xor, Nat.testBit_two_pow_mul, Nat.testBit_two_pow_mul, Nat.testBit_two_pow_mul, Nat.testBit_xor]
  cases decide (k ≥ s) <;> simp
theorem val_tl (l : List Nat) (s p : Nat) (hl : ∀ x ∈ l, x < 256) : ∀ i, s + i ≤ 8 * l.length → val (tl l s p i) = val l ^^^ 2 ^ s * (p % 2 ^ i)
  | 0, _ => by simp [tl, Nat.mod_one]
  | i + 1, h => by
    have ih := val_tl l s p hl i (by omega)
    rw [mod_snoc_xor, mul_xor_pow, ← Nat.xor_assoc, ← ih, tl_succ]
    split
    · rename_i hb
      rw [val_fl _ _ (tl_lt l s p hl i (by omega)) (by rw [tl_len]; omega), hb, Nat.mul_one, ← Nat.pow_add]
    · rename_i hb
      rw [show p / 2 ^ i % 2 = 0 by omega, Nat.mul_zero, Nat.mul_zero, Nat.xor_zero]
theorem val_inj : ∀ (l m : List Nat), (∀ x ∈ l, x < 256) → (∀ x ∈ m, x < 256) → l.length = m.length → val l = val m → l = m
  | [], [], _, _, _, _ => rfl
  | [], _ :: _, _, _, h, _ => by simp at h
  | _ :: _, [], _, _, h, _ => by simp at h
  | a :: l, b :: m, hl, hm, hn, hv => by
    have ha := hl a (by simp)
    have hb := hm b (by simp)
    have hv' : a + 256 * val l = b + 256 * val m := hv
    have e1 : a = b := by omega
    have e2 : val l = val m := by omega
    rw [e1, val_inj l m (fun x hx => hl x (by simp [hx])) (fun x hx => hm x (by simp [hx])) (by simpa using hn) e2]
theorem val_take : ∀ (l : List Nat) (k : Nat), (∀ x ∈ l, x < 256) → val (l.take k) = val l % 256 ^ k
  | [], k, _ => by simp [val]
  | b :: l, 0, _ => by simp [val, Nat.mod_one]
  | b :: l, k + 1, hl => by
    have hb := hl b (by simp)
    have ih := val_take l k (fun x hx => hl x (by simp [hx]))
    show b + 256 * val (l.take k) = (b + 256 * val l) % 256 ^ (k + 1)
    rw [ih, Nat.pow_succ, Nat.mul_comm (256 ^ k) 256, Nat.mod_mul, show (b + 256 * val l) % 256 = b by omega, show (b + 256 * val l) / 256 = val l by omega]
/-- What a page in which bits were turned is. -/
theorem turned_err (kind : Nat) (body : List Nat) (hk : kind < 256) (hb : ∀ x ∈ body, x < 256) (hm : body.length ≤ 1048576) (s p J : Nat) (hs : 32 ≤ s) (hJ : J ≤ 32) (h : s + J ≤ 8 * (lay kind body).length) :
    errAt (tl (lay kind body) s p J) 0 = if p % 2 ^ J = 0 then 0 else 4 := by
  have hl := lay_lt kind body hk hb
  have hv := val_tl (lay kind body) s p hl J h
  have hn := tl_len (lay kind body) s p J
  have ht := tl_lt (lay kind body) s p hl J h
  have hlen := lay_len kind body
  obtain ⟨e1, e2, -, -⟩ := errOf_lay kind body [] hk hb hm
  rw [List.append_nil] at e1 e2
  by_cases hq : p % 2 ^ J = 0
  · rw [hq, Nat.mul_zero, Nat.xor_zero] at hv
    rw [val_inj _ _ ht hl hn hv, if_pos hq]
    unfold errAt
    rw [if_neg (by omega)]; exact e1
  · rw [if_neg hq]
    have hqlt : p % 2 ^ J < 4294967296 := by
      have h1 : p % 2 ^ J < 2 ^ J := Nat.mod_lt _ (Nat.two_pow_pos J)
      have h2 : 2 ^ J ≤ 2 ^ 32 := Nat.pow_le_pow_right (by decide) hJ
      omega
    have hne := turned_ne (lay kind body) (tl (lay kind body) s p J) (p % 2 ^ J) s hl ht hn hv (by omega) hqlt hq
    have hsz : sz (tl (lay kind body) s p J) = body.length := by
      rw [← e2]; unfold sz
      rw [val_take _ 4 ht, val_take _ 4 hl, hv]
      obtain ⟨d, hd⟩ : ∃ d, s = 32 + d := ⟨s - 32, by omega⟩
      have hz : 2 ^ s * (p % 2 ^ J) = 2 ^ 32 * (2 ^ d * (p % 2 ^ J)) := by rw [hd, Nat.pow_add, Nat.mul_assoc]
      rw [hz, show (256 : Nat) ^ 4 = 2 ^ 32 by decide]
      apply Nat.eq_of_testBit_eq
      intro k
      rw [Nat.testBit_mod_two_pow, Nat.testBit_mod_two_pow, Nat.testBit_xor, Nat.testBit_two_pow_mul]
      by_cases hk : k < 32
      · simp [hk, show ¬ 32 ≤ k by omega]
      · simp [hk]
    unfold errAt
    rw [if_neg (by omega)]
    show errOf (tl (lay kind body) s p J) = 4
    unfold errOf
    rw [hsz, hn, hlen, if_neg (by omega), if_neg (by omega), if_neg (by omega), if_neg]
    have w1 := (whole_iff (front kind body) (four (sum (front kind body))) (front_lt kind body hk hb) (four_lt _) rfl).1 (val_four _ (sum_lt (front_lt kind body hk hb)))
    intro hbad
    have hsplit : (tl (lay kind body) s p J).take (5 + body.length) ++ ((tl (lay kind body) s p J).drop (5 + body.length)).take 4 = tl (lay kind body) s p J := by
      rw [List.take_of_length_le (l := (tl (lay kind body) s p J).drop (5 + body.length)) (by rw [List.length_drop, hn, hlen]; omega), List.take_append_drop]
    have w2 := (whole_iff ((tl (lay kind body) s p J).take (5 + body.length)) (((tl (lay kind body) s p J).drop (5 + body.length)).take 4) (fun x hx => ht x (List.mem_of_mem_take hx)) (fun x hx => ht x (List.mem_of_mem_drop (List.mem_of_mem_take hx))) (by rw [List.length_take, List.length_drop, hn, hlen]; omega)).1 hbad
    rw [hsplit] at w2
    exact hne (w2.trans w1.symm)
end Pg

/-- Was a bit turned? -/
def trn (p i : Nat) : Bool := decide (p % 2 ^ i ≠ 0)
theorem trn_zero (p : Nat) : trn p 0 = false := by unfold trn; simp [Nat.mod_one]
theorem trn_one (p i : Nat) (h : p / 2 ^ i % 2 = 1) : trn p (i + 1) = true := by
  unfold trn
  rw [Pg.mod_snoc, h]
  have := Nat.two_pow_pos i
  rw [decide_eq_true_eq]; omega
theorem trn_none (p i : Nat) (h : p / 2 ^ i % 2 = 0) : trn p (i + 1) = trn p i := by
  unfold trn
  rw [Pg.mod_snoc, h, Nat.mul_zero, Nat.zero_add]
theorem Roomy.drew {w : World} {B g n cap : Nat} {cs : List Value} {l : List Nat} (h : Roomy w B g n cap cs l) : Roomy w.drew B g n cap cs l := ⟨h.row, h.size, h.cap, h.first, h.base, h.lt⟩
/-- What stands in the world behind some rounds. -/
def Tw (B g N cap : Nat) (L : List Nat) (s p j : Nat) (w0 wr : World) : Prop := ∃ cs, Roomy wr B g N cap cs (Pg.tl L s p j) ∧ Below B w0 wr
theorem bit_and (p j : Nat) (hp : p < 4294967296) : bits .and .u32 ((p : Int) / 2 ^ j) 1 = ((p / 2 ^ j % 2 : Nat) : Int) := by
  have hl : p / 2 ^ j < 4294967296 := Nat.lt_of_le_of_lt (Nat.div_le_self _ _) hp
  have h := u32_and_nat (p / 2 ^ j) 1 hl (by decide)
  rw [nat_mask1] at h
  rw [← h]
  congr 1

theorem pageTurned_out (kind : Nat) (b : Option Addr) (m c a p : Nat) (hL : 2000 < m) (W : World) (HG : Hid (HalvesAt W)) :
    Calls Tryd.prog 6 #[.int .u8 (kind : Int), .slice b m c, .int .u16 (a : Int), .int .u32 (p : Int)] W fun e w' => e = .returned (.bool true) ∧ Below W.heap.size W w' := by
  go_enter Tryd.func6, Tryd.ntmps6
  go_wp2_with (go_at_call 9; refine (awake_any _ HG).mono ?_; rintro e w1 ⟨rfl, hb⟩; have HB := Lib.hid hb; clear hb; have HG1 := HalvesAt.at HG HB.out)
  go_wp2_with (go_at_call 9; refine (awake_any _ HG1).mono ?_; rintro e w2 ⟨rfl, hb⟩; have HB2 := Lib.hid hb; clear hb)
  go_ret
  exact ⟨ret_eq rfl, below_to HB.out HB2.out⟩

set_option maxHeartbeats 4000000 in
theorem pageTurned_in (kind : Nat) (hk : kind < 256) (b : Option Addr) (m c a p : Nat) (body : List Nat) (ha : a < 65536) (hp : p < 4294967296) (h3 : ¬ 2000 < m) (hm : Hid (m = body.length)) (hc : m ≤ c) (hl : c ≤ maxLen) (W : World) (HA : Hid (ByAt W b body)) (HG : Hid (HalvesAt W)) (hW : 0 < W.heap.size)
    (K : Nat) (hKe : (a : Int) % (8 * (5 + (m : Int) + 4) - 32) = (K : Int)) (hK : 32 + K < 8 * (5 + m + 4)) :
    Calls Tryd.prog 6 #[.int .u8 (kind : Int), .slice b m c, .int .u16 (a : Int), .int .u32 (p : Int)] W fun e w' => e = .returned (.bool true) ∧ Below W.heap.size W w' := by
  have HO0 : ∀ w : World, Hid (OwnS w w.heap.size none 0 0 []) := fun w => Lib.hid (OwnS.nil w _)
  have g0 : (0 : Int) < 8 * (5 + (m : Int) + 4) - 32 := by omega
  go_enter Tryd.func6, Tryd.ntmps6
  go_wp2_with (go_at_call 9; refine (awake_any _ HG).mono ?_; rintro e w1 ⟨rfl, hb⟩; have HB := Lib.hid hb; clear hb; have HG1 := HalvesAt.at HG HB.out; have HA1 := ByAt.at HA HB.out; have hW1 := Nat.lt_of_lt_of_le hW HB.out.size)
  go_wp2_with (go_at_call 12; refine (lay_any none 0 0 [] kind b m c body w1.heap.size w1 (HO0 w1) hm (by omega) hk HA1 HG1 (Nat.le_refl _) hW1).mono ?_; rintro e w2 ⟨A2, cap2, rfl, hO, hb⟩; obtain ⟨g, cs, rfl, hR⟩ := hO.row (by omega); have HR := Lib.hid hR; have HB2 := Lib.hid hb; clear hb hO hR)
  rw [hKe]
  clear hKe
  go_loopw [11, 12] (fun t i wr => ∃ j : Nat, j ≤ 32 ∧ 32 + K + j ≤ 8 * (5 + m + 4) ∧ i = .int .i64 j ∧ t = .bool (trn p j) ∧ Tw w1.heap.size g (0 + 5 + m + 4) cap2 (Pg.lay kind body) (32 + K) p j w1 wr) (fun _ i _ => 32 - (intOf i).toNat)
  case atStart => exact ⟨0, by omega, by omega, rfl, by rw [trn_zero], cs, HR.out, HB2.out⟩
  case round =>
    obtain ⟨j, hj, hjN, rfl, rfl, hT⟩ := hrel
    have HT := Lib.hid hT
    clear hT
    by_cases h32 : j < 32
    · by_cases hN : 32 + K + j < 8 * (5 + m + 4)
      · have eb := bit_and p j hp
        by_cases hbit : p / 2 ^ j % 2 = 1
        · have HT1 := Lib.hid (trn_one p j hbit)
          have hbi : ((p / 2 ^ j % 2 : Nat) : Int) = 1 := by rw [hbit]; rfl
          rw [hbi] at eb
          clear hbi
          obtain ⟨csj, hRj, hBj⟩ := HT.out
          obtain ⟨T, hTn⟩ : ∃ T, T = 32 + K + j := ⟨_, rfl⟩
          have hTe : (32 : Int) + (K : Int) + (j : Int) = (T : Int) := by omega
          have hqN : T / 8 < (Pg.tl (Pg.lay kind body) (32 + K) p j).length := by rw [Pg.tl_len, Pg.lay_len, ← hm.out]; omega
          obtain ⟨hcell, hfree⟩ := hRj.cell (T / 8) _ (List.getElem?_eq_getElem hqN) (by omega)
          have hx := hRj.lt _ (List.getElem_mem hqN)
          have HX : Hid ((Pg.tl (Pg.lay kind body) (32 + K) p j).getD (T / 8) 0 = (Pg.tl (Pg.lay kind body) (32 + K) p j)[T / 8]) := Lib.hid (by rw [List.getD_eq_getElem?_getD, List.getElem?_eq_getElem hqN]; rfl)
          generalize (Pg.tl (Pg.lay kind body) (32 + K) p j)[T / 8] = x at *
          have q0 : (0 : Int) ≤ (T : Int) / 8 := by omega
          have q1 : (T : Int) / 8 < 5 + (m : Int) + 4 := by omega
          have q2 : ((T : Int) / 8).toNat = T / 8 := by omega
          have HRj := Lib.hid hRj
          have HBj := Lib.hid hBj
          have HTn := Lib.hid hTn
          have p2 : (2 : Int) ^ ((T : Int) % 8).toNat = ((2 ^ (T % 8) : Nat) : Int) := by rw [show ((T : Int) % 8).toNat = T % 8 by omega]; push_cast; rfl
          have hd := Pg.two_lt T
          clear hRj hBj hTn hqN
          have ex : bits .xor .u8 (x : Int) (2 ^ (T % 8) % 256) = ((x ^^^ 2 ^ (T % 8) : Nat) : Int) := by
            rw [← u8_xor_nat x (2 ^ (T % 8)) hx hd]
            congr 1
            have e : (2 : Int) ^ (T % 8) = ((2 ^ (T % 8) : Nat) : Int) := by push_cast; rfl
            rw [e]
            generalize 2 ^ (T % 8) = d at *
            omega
          have HF : Hid (Pg.tl (Pg.lay kind body) (32 + K) p (j + 1) = (Pg.tl (Pg.lay kind body) (32 + K) p j).set (T / 8) (x ^^^ 2 ^ (T % 8))) := Lib.hid (by
            rw [Pg.tl_succ, if_pos hbit, ← HTn.out]; unfold Pg.fl; rw [HX.out])
          have hx2 : x ^^^ 2 ^ (T % 8) < 256 := Nat.xor_lt_two_pow (n := 8) hx hd
          go_wp2
          go_region
          go_wp2
          go_roundw
          case rel => exact ⟨j + 1, by omega, by omega, by go_num, by rw [HT1.out], _, by rw [HF.out]; exact (HRj.out.set (T / 8) _ hx2).drew, (HBj.out.setCell HRj.out.base _).drew⟩
          case measure => simp [intOf]; omega
        · have hb0 : p / 2 ^ j % 2 = 0 := by omega
          have HT0 := Lib.hid (trn_none p j hb0)
          have hbi : ((p / 2 ^ j % 2 : Nat) : Int) = 0 := by rw [hb0]; rfl
          rw [hbi] at eb
          clear hbi
          have HF : Hid (Pg.tl (Pg.lay kind body) (32 + K) p (j + 1) = Pg.tl (Pg.lay kind body) (32 + K) p j) := Lib.hid (by rw [Pg.tl_succ, if_neg hbit])
          go_wp2
          go_roundw
          case rel => exact ⟨j + 1, by omega, by omega, by go_num, by rw [HT0.out], by unfold Tw; rw [HF.out]; exact HT.out⟩
          case measure => simp [intOf]; omega
      · have hfin := Lib.hid (Pg.turned_err kind body hk HA.out.lt (by rw [← hm.out]; omega) (32 + K) p j (by omega) (by omega) (by rw [Pg.lay_len, ← hm.out]; omega))
        obtain ⟨csj, hRj, hBj⟩ := HT.out
        have hL : Hid (5 + m + 4 = (Pg.tl (Pg.lay kind body) (32 + K) p j).length) := Lib.hid (by rw [Pg.tl_len, Pg.lay_len, ← hm.out]; omega)
        have HO := Lib.hid (hRj.own (by rw [← hL.out]; try omega))
        have HAj := Lib.hid HO.out.byAt
        have hcap := HO.out.caps.2
        have hcc : 5 + m + 4 ≤ cap2 := by have := HO.out.caps.1; omega
        have HGj := HalvesAt.at HG1 hBj
        have HBj := Lib.hid hBj
        clear hRj hBj
        generalize Pg.tl (Pg.lay kind body) (32 + K) p j = Lj at *
        by_cases hq : p % 2 ^ j = 0
        all_goals
          first
          | (have hE : ((Pg.errAt Lj 0 : Nat) : Int) = 0 := by rw [hfin.out, if_pos hq]; rfl
             have ht : trn p j = false := by unfold trn; simp [hq])
          | (have hE : ((Pg.errAt Lj 0 : Nat) : Int) = 4 := by rw [hfin.out, if_neg hq]; rfl
             have ht : trn p j = true := by unfold trn; simp [hq])
          clear hq
          go_wp2_with (go_at_call 14; refine (read_any (some ⟨g, 0, none⟩) Lj (5 + m + 4) cap2 0 hL hcc hcap _ HAj HGj).mono ?_; rintro e w5 ⟨A5, C5, rfl, hA, hc1, hc2, hb⟩; have HB5 := Lib.hid hb; clear hA hb hc1 hc2)
          go_ret
          exact ⟨ret_eq rfl, below_to (below_to HB.out HBj.out) HB5.out⟩
    · have hfin := Lib.hid (Pg.turned_err kind body hk HA.out.lt (by rw [← hm.out]; omega) (32 + K) p j (by omega) (by omega) (by rw [Pg.lay_len, ← hm.out]; omega))
      obtain ⟨csj, hRj, hBj⟩ := HT.out
      have hL : Hid (5 + m + 4 = (Pg.tl (Pg.lay kind body) (32 + K) p j).length) := Lib.hid (by rw [Pg.tl_len, Pg.lay_len, ← hm.out]; omega)
      have HO := Lib.hid (hRj.own (by rw [← hL.out]; try omega))
      have HAj := Lib.hid HO.out.byAt
      have hcap := HO.out.caps.2
      have hcc : 5 + m + 4 ≤ cap2 := by have := HO.out.caps.1; omega
      have HGj := HalvesAt.at HG1 hBj
      have HBj := Lib.hid hBj
      clear hRj hBj
      generalize Pg.tl (Pg.lay kind body) (32 + K) p j = Lj at *
      by_cases hq : p % 2 ^ j = 0
      all_goals
        first
        | (have hE : ((Pg.errAt Lj 0 : Nat) : Int) = 0 := by rw [hfin.out, if_pos hq]; rfl
           have ht : trn p j = false := by unfold trn; simp [hq])
        | (have hE : ((Pg.errAt Lj 0 : Nat) : Int) = 4 := by rw [hfin.out, if_neg hq]; rfl
           have ht : trn p j = true := by unfold trn; simp [hq])
        clear hq
        go_wp2_with (go_at_call 14; refine (read_any (some ⟨g, 0, none⟩) Lj (5 + m + 4) cap2 0 hL hcc hcap _ HAj HGj).mono ?_; rintro e w5 ⟨A5, C5, rfl, hA, hc1, hc2, hb⟩; have HB5 := Lib.hid hb; clear hA hb hc1 hc2)
        go_ret
        exact ⟨ret_eq rfl, below_to (below_to HB.out HBj.out) HB5.out⟩

theorem pageTurned_any (kind : Nat) (hk : kind < 256) (b : Option Addr) (body : List Nat) (m c : Nat) (hm : Hid (m = body.length)) (hc : m ≤ c) (hl : c ≤ maxLen) (a : Nat) (ha : a < 65536) (p : Nat) (hp : p < 4294967296) (W : World) (HA : Hid (ByAt W b body)) (HG : Hid (HalvesAt W)) :
    Calls Tryd.prog 6 #[.int .u8 (kind : Int), .slice b m c, .int .u16 (a : Int), .int .u32 (p : Int)] W fun e w' => e = .returned (.bool true) ∧ Below W.heap.size W w' := by
  by_cases h : 2000 < m
  · exact pageTurned_out kind b m c a p h W HG
  · have hlt : a % (8 * (5 + m + 4) - 32) < 8 * (5 + m + 4) - 32 := Nat.mod_lt _ (by omega)
    exact pageTurned_in kind hk b m c a p body ha hp h hm hc hl W HA HG (World.block_lt_of_cell? W _ (HG.out 0 (by decide))) (a % (8 * (5 + m + 4) - 32)) (by rw [Int.natCast_emod]; congr 1; omega) (by omega)
end Go.Proofs.YtamdonglbdmckaaDoor
