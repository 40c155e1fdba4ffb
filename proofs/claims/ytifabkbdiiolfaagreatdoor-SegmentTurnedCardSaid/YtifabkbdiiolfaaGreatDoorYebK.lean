/-
  Layer segment: a segment in which bits were turned: plain.
-/
import Derived.Test.YtifabkbdiiolfaaGreatDoorByK
import Derived.Test.YtifabkbdiiolfaaGreatDoorGnK
import Derived.Test.YtifabkbdiiolfaaGreatDoorYzrK
set_option linter.unusedSimpArgs false
set_option linter.unusedVariables false
set_option maxRecDepth 8000
namespace Go.Proofs.YtifabkbdiiolfaaGreatDoor
open Go.RowKit
namespace Pg
/-- A bit is turned. -/
def fl (l : List Nat) (j : Nat) : List Nat := l.set (j / 8) (l.getD (j / 8) 0 ^^^ 2 ^ (j % 8))
theorem fl_len (l : List Nat) (j : Nat) : (fl l j).length = l.length := List.length_set
theorem two_lt (j : Nat) : 2 ^ (j % 8) < 256 := by
 have h : j % 8 < 8 := Nat.mod_lt _ (by decide)
 have : 2 ^ (j % 8) ≤ 2 ^ 7 := Nat.pow_le_pow_right (by decide) (by omega)
 omega
theorem fl_lt (l : List Nat) (j : Nat) (hl : ∀ x ∈ l, x < 256) (hj : j / 8 < l.length) : ∀ x ∈ fl l j, x < 256 := by
 intro x hx
 rcases List.mem_or_eq_of_mem_set hx with h | h
 ·exact hl x h
 ·rw [h]
  refine Nat.xor_lt_two_pow (n := 8) ?_ (two_lt j)
  rw [List.getD_eq_getElem?_getD, List.getElem?_eq_getElem hj]
  exact hl _ (List.getElem_mem hj)
theorem val_set : ∀ (l : List Nat) (i d : Nat), (∀ x ∈ l, x < 256) → i < l.length → d < 256 → val (l.set i (l.getD i 0 ^^^ d)) = val l ^^^ 256 ^ i * d
 | [], i, d, _, h, _ => by simp at h
 | b :: l, 0, d, hl, _, hd => by
  have hb := hl b (by simp)
  show val ((b ^^^ d) :: l) = _
  rw [val_cons_xor _ _ (Nat.xor_lt_two_pow (n := 8) hb hd), val_cons_xor b l hb]
  simp only [Nat.pow_zero, Nat.one_mul]
  rw [Nat.xor_assoc, Nat.xor_comm d, ← Nat.xor_assoc]
 | b :: l, i + 1, d, hl, h, hd => by
  have hb := hl b (by simp)
  have ih := val_set l i d (fun x hx => hl x (by simp [hx])) (by simpa using h) hd
  show val (b :: l.set i (l.getD i 0 ^^^ d)) = _
  rw [val_cons_xor _ _ hb, val_cons_xor b l hb, ih, Nat.xor_assoc]
  congr 1
  apply Nat.eq_of_testBit_eq
  intro k
  have e1 : 256 * (val l ^^^ 256 ^ i * d) = 2 ^ 8 * (val l ^^^ 256 ^ i * d) := rfl
  have e2 : 256 * val l = 2 ^ 8 * val l := rfl
  have e3 : 256 ^ (i + 1) * d = 2 ^ 8 * (256 ^ i * d) := by rw [Nat.pow_succ, Nat.mul_comm (256 ^ i) 256, Nat.mul_assoc]
  rw [e1, e2, e3, Nat.testBit_xor, Nat.testBit_two_pow_mul, Nat.testBit_two_pow_mul, Nat.testBit_two_pow_mul, Nat.testBit_xor]
  cases decide (k ≥ 8) <;> simp
theorem val_fl (l : List Nat) (j : Nat) (hl : ∀ x ∈ l, x < 256) (hj : j / 8 < l.length) : val (fl l j) = val l ^^^ 2 ^ j := by
 unfold fl
 rw [val_set l (j / 8) _ hl hj (two_lt j)]
 congr 1
 rw [show (256 : Nat) = 2 ^ 8 by rfl, ← Nat.pow_mul, ← Nat.pow_add]
 congr 1
 omega
/-- The first bits of a pattern are turned, from a place on. -/
def tl (l : List Nat) (s p : Nat) : Nat → List Nat
 | 0 => l
 | i + 1 => if p / 2 ^ i % 2 = 1 then fl (tl l s p i) (s + i) else tl l s p i
theorem tl_succ (l : List Nat) (s p i : Nat) : tl l s p (i + 1) = if p / 2 ^ i % 2 = 1 then fl (tl l s p i) (s + i) else tl l s p i := rfl
theorem tl_len (l : List Nat) (s p : Nat) : ∀ i, (tl l s p i).length = l.length
 | 0 => rfl
 | i + 1 => by unfold tl; split; rw [fl_len]; exact tl_len l s p i; exact tl_len l s p i
theorem tl_lt (l : List Nat) (s p : Nat) (hl : ∀ x ∈ l, x < 256) : ∀ i, s + i ≤ 8 * l.length → ∀ x ∈ tl l s p i, x < 256
 | 0, _ => hl
 | i + 1, h => by
  unfold tl; split
  ·exact fl_lt _ _ (tl_lt l s p hl i (by omega)) (by rw [tl_len]; omega)
  ·exact tl_lt l s p hl i (by omega)
theorem mod_snoc (p i : Nat) : p % 2 ^ (i + 1) = 2 ^ i * (p / 2 ^ i % 2) + p % 2 ^ i := by
 rw [Nat.pow_succ, Nat.mod_mul]; omega
theorem mod_snoc_xor (p i : Nat) : p % 2 ^ (i + 1) = p % 2 ^ i ^^^ 2 ^ i * (p / 2 ^ i % 2) := by
 have h := split_xor i (p % 2 ^ (i + 1))
 have hlt : p % 2 ^ i < 2 ^ i := Nat.mod_lt _ (Nat.two_pow_pos i)
 have h1 : p % 2 ^ (i + 1) / 2 ^ i = p / 2 ^ i % 2 := by
  rw [mod_snoc, Nat.mul_add_div (Nat.two_pow_pos i), Nat.div_eq_of_lt hlt, Nat.add_zero]
 have h2 : p % 2 ^ (i + 1) % 2 ^ i = p % 2 ^ i := by rw [mod_snoc, Nat.mul_add_mod, Nat.mod_eq_of_lt hlt]
 rw [h1, h2] at h
 rw [h]; exact Nat.xor_comm _ _
theorem mul_xor_pow (s x y : Nat) : 2 ^ s * (x ^^^ y) = 2 ^ s * x ^^^ 2 ^ s * y := by
 apply Nat.eq_of_testBit_eq
 intro k
 rw [Nat.testBit_xor, Nat.testBit_two_pow_mul, Nat.testBit_two_pow_mul, Nat.testBit_two_pow_mul, Nat.testBit_xor]
 cases decide (k ≥ s) <;> simp
theorem val_tl (l : List Nat) (s p : Nat) (hl : ∀ x ∈ l, x < 256) : ∀ i, s + i ≤ 8 * l.length → val (tl l s p i) = val l ^^^ 2 ^ s * (p % 2 ^ i)
 | 0, _ => by simp [tl, Nat.mod_one]
 | i + 1, h => by
  have ih := val_tl l s p hl i (by omega)
  rw [mod_snoc_xor, mul_xor_pow, ← Nat.xor_assoc, ← ih, tl_succ]
  split
  ·rename_i hb
   rw [val_fl _ _ (tl_lt l s p hl i (by omega)) (by rw [tl_len]; omega), hb, Nat.mul_one, ← Nat.pow_add]
  ·rename_i hb
   rw [show p / 2 ^ i % 2 = 0 by omega, Nat.mul_zero, Nat.mul_zero, Nat.xor_zero]
theorem val_inj : ∀ (l m : List Nat), (∀ x ∈ l, x < 256) → (∀ x ∈ m, x < 256) → l.length = m.length → val l = val m → l = m
 | [], [], _, _, _, _ => rfl
 | [], _ :: _, _, _, h, _ => by simp at h
 | _ :: _, [], _, _, h, _ => by simp at h
 | a :: l, b :: m, hl, hm, hn, hv => by
  have ha := hl a (by simp)
  have hb := hm b (by simp)
  have hv' : a + 256 * val l = b + 256 * val m := hv
  have e1 : a = b := by omega
  have e2 : val l = val m := by omega
  rw [e1, val_inj l m (fun x hx => hl x (by simp [hx])) (fun x hx => hm x (by simp [hx])) (by simpa using hn) e2]
theorem val_take : ∀ (l : List Nat) (k : Nat), (∀ x ∈ l, x < 256) → val (l.take k) = val l % 256 ^ k
 | [], k, _ => by simp [val]
 | b :: l, 0, _ => by simp [val, Nat.mod_one]
 | b :: l, k + 1, hl => by
  have hb := hl b (by simp)
  have ih := val_take l k (fun x hx => hl x (by simp [hx]))
  show b + 256 * val (l.take k) = (b + 256 * val l) % 256 ^ (k + 1)
  rw [ih, Nat.pow_succ, Nat.mul_comm (256 ^ k) 256, Nat.mod_mul, show (b + 256 * val l) % 256 = b by omega, show (b + 256 * val l) / 256 = val l by omega]
end Pg
/-- Was a bit turned? -/
def trn (p i : Nat) : Bool := decide (p % 2 ^ i ≠ 0)
theorem trn_zero (p : Nat) : trn p 0 = false := by unfold trn; simp [Nat.mod_one]
theorem trn_one (p i : Nat) (h : p / 2 ^ i % 2 = 1) : trn p (i + 1) = true := by
 unfold trn
 rw [Pg.mod_snoc, h]
 have := Nat.two_pow_pos i
 rw [decide_eq_true_eq]; omega
theorem trn_none (p i : Nat) (h : p / 2 ^ i % 2 = 0) : trn p (i + 1) = trn p i := by
 unfold trn
 rw [Pg.mod_snoc, h, Nat.mul_zero, Nat.zero_add]
/-- What stands in the world behind some rounds. -/
def Tw (B g N cap : Nat) (L : List Nat) (s p j : Nat) (w0 wr : World) : Prop := ∃ cs, Roomy wr B g N cap cs (Pg.tl L s p j) ∧ Below B w0 wr
theorem bit_and (p j : Nat) (hp : p < 4294967296) : bits .and .u32 ((p : Int) / 2 ^ j) 1 = ((p / 2 ^ j % 2 : Nat) : Int) := by
 have hl : p / 2 ^ j < 4294967296 := Nat.lt_of_le_of_lt (Nat.div_le_self _ _) hp
 have h := u32_and_nat (p / 2 ^ j) 1 hl (by decide)
 rw [nat_mask1] at h
 rw [← h]
 congr 1
end Go.Proofs.YtifabkbdiiolfaaGreatDoor

namespace Go.Proofs.YtifabkbdiiolfaaGreatDoor
open Go.RowKit Go.WideShapes
/-- Bytes of which some bits within 32 were turned, or none. -/
def Near (L L' : List Nat) : Prop := L'.length = L.length ∧ (∀ x ∈ L', x < 256) ∧ ∃ s q, q < 4294967296 ∧ s ≤ 8 * L.length ∧ Pg.val L' = Pg.val L ^^^ 2 ^ s * q
theorem val_dropN : ∀ (l : List Nat) (k : Nat), (∀ x ∈ l, x < 256) → Pg.val (l.drop k) = Pg.val l / 256 ^ k
 | [], k, _ => by simp [Pg.val]
 | b :: l, 0, _ => by simp
 | b :: l, k + 1, hl => by
  have hb := hl b (by simp)
  have ih := val_dropN l k (fun x hx => hl x (by simp [hx]))
  show Pg.val (l.drop k) = (b + 256 * Pg.val l) / 256 ^ (k + 1)
  rw [ih, Nat.pow_succ, Nat.mul_comm (256 ^ k) 256, ← Nat.div_div_eq_div_mul, show (b + 256 * Pg.val l) / 256 = Pg.val l by omega]
theorem p256 (n : Nat) : (256 : Nat) ^ n = 2 ^ (8 * n) := by rw [Nat.pow_mul]
theorem win_div (k m j : Nat) (hm : m < 4294967296) : ∃ s q, q < 4294967296 ∧ 2 ^ k * m / 2 ^ j = 2 ^ s * q ∧ s ≤ k - j := by
 by_cases h : j ≤ k
 ·obtain ⟨d, rfl⟩ : ∃ d, k = j + d := ⟨k - j, by omega⟩
  refine ⟨d, m, hm, ?_, by omega⟩
  rw [Nat.pow_add, Nat.mul_assoc, Nat.mul_div_cancel_left _ (Nat.two_pow_pos j)]
 ·obtain ⟨d, rfl⟩ : ∃ d, j = k + d := ⟨j - k, by omega⟩
  refine ⟨0, m / 2 ^ d, Nat.lt_of_le_of_lt (Nat.div_le_self _ _) hm, ?_, by omega⟩
  rw [Nat.pow_zero, Nat.one_mul, Nat.pow_add, Nat.mul_div_mul_left _ _ (Nat.two_pow_pos k)]
theorem win_mod (k m j : Nat) (hm : m < 4294967296) : ∃ s q, q < 4294967296 ∧ 2 ^ k * m % 2 ^ j = 2 ^ s * q ∧ s ≤ j := by
 by_cases h : j ≤ k
 ·obtain ⟨d, rfl⟩ : ∃ d, k = j + d := ⟨k - j, by omega⟩
  exact ⟨0, 0, by decide, by rw [Nat.pow_add, Nat.mul_assoc, Nat.mul_mod_right], by omega⟩
 ·obtain ⟨d, rfl⟩ : ∃ d, j = k + d := ⟨j - k, by omega⟩
  refine ⟨k, m % 2 ^ d, Nat.lt_of_le_of_lt (Nat.mod_le _ _) hm, ?_, by omega⟩
  rw [Nat.pow_add, Nat.mul_mod_mul_left]
theorem xor_div (x y j : Nat) : (x ^^^ y) / 2 ^ j = x / 2 ^ j ^^^ y / 2 ^ j := by
 rw [← Nat.shiftRight_eq_div_pow, ← Nat.shiftRight_eq_div_pow, ← Nat.shiftRight_eq_div_pow, Nat.shiftRight_xor_distrib]
theorem xor_mod2 (x y j : Nat) : (x ^^^ y) % 2 ^ j = x % 2 ^ j ^^^ y % 2 ^ j := Nat.xor_mod_two_pow
theorem Near.drop {L L' : List Nat} (h : Near L L') (hl : ∀ x ∈ L, x < 256) (n : Nat) (hn : n ≤ L.length) : Near (L.drop n) (L'.drop n) := by
 obtain ⟨h1, h2, k, m, hm, hk, hv⟩ := h
 obtain ⟨s, q, hq, he, hs⟩ := win_div k m (8 * n) hm
 refine ⟨by rw [List.length_drop, List.length_drop, h1], fun x hx => h2 x (List.mem_of_mem_drop hx), s, q, hq, by rw [List.length_drop]; omega, ?_⟩
 rw [val_dropN L' n h2, val_dropN L n hl, hv, p256, xor_div, he]
theorem Near.take {L L' : List Nat} (h : Near L L') (hl : ∀ x ∈ L, x < 256) (n : Nat) (hn : n ≤ L.length) : Near (L.take n) (L'.take n) := by
 obtain ⟨h1, h2, k, m, hm, hk, hv⟩ := h
 obtain ⟨s, q, hq, he, hs⟩ := win_mod k m (8 * n) hm
 refine ⟨by rw [List.length_take, List.length_take, h1], fun x hx => h2 x (List.mem_of_mem_take hx), s, q, hq, by rw [List.length_take, Nat.min_eq_left hn]; exact hs, ?_⟩
 rw [Pg.val_take L' n h2, Pg.val_take L n hl, hv, p256, xor_mod2, he]
/-- A page in which bits were turned is none, or has another length. -/
theorem Near.page {kind : Nat} {body X : List Nat} (h : Near (Pg.lay kind body) X) (hne : X ≠ Pg.lay kind body) (hk : kind < 256) (hb : ∀ x ∈ body, x < 256) (hm : body.length ≤ 1048576) (r : List Nat) :
  Pg.errOf (X ++ r) ≠ 0 ∨ Pg.sz (X ++ r) ≠ body.length := by
 obtain ⟨h1, h2, s, q, hq, hs, hv⟩ := h
 have hl := Pg.lay_lt kind body hk hb
 have hlen := Pg.lay_len kind body
 by_cases hsz : Pg.sz (X ++ r) = body.length
 ·refine .inl ?_
  intro h0
  have hq0 : q ≠ 0 := by
   rintro rfl
   rw [Nat.mul_zero, Nat.xor_zero] at hv
   exact hne (Pg.val_inj _ _ h2 hl h1 hv)
  have hn := Pg.turned_ne (Pg.lay kind body) X q s hl h2 h1 hv hs hq hq0
  have hxl : X.length = 9 + body.length := by rw [h1, hlen]
  unfold Pg.errOf at h0
  rw [hsz] at h0
  have hll : (X ++ r).length = 9 + body.length + r.length := by rw [List.length_append, hxl]
  rw [if_neg (by omega), if_neg (by omega), if_neg (by omega)] at h0
  by_cases hbad : Pg.val (((X ++ r).drop (5 + body.length)).take 4) = Pg.sum ((X ++ r).take (5 + body.length))
  ·have e1 : (X ++ r).take (5 + body.length) = X.take (5 + body.length) := List.take_append_of_le_length (by omega)
   have e2 : ((X ++ r).drop (5 + body.length)).take 4 = X.drop (5 + body.length) := by
    rw [List.drop_append_of_le_length (by omega), List.take_append_of_le_length (by rw [List.length_drop]; omega), List.take_of_length_le (by rw [List.length_drop]; omega)]
   rw [e1, e2] at hbad
   have w1 := (Pg.whole_iff (Pg.front kind body) (Pg.four (Pg.sum (Pg.front kind body))) (Pg.front_lt kind body hk hb) (Pg.four_lt _) rfl).1 (Pg.val_four _ (Pg.sum_lt (Pg.front_lt kind body hk hb)))
   have w2 := (Pg.whole_iff (X.take (5 + body.length)) (X.drop (5 + body.length)) (fun x hx => h2 x (List.mem_of_mem_take hx)) (fun x hx => h2 x (List.mem_of_mem_drop hx)) (by rw [List.length_drop]; omega)).1 hbad
   rw [List.take_append_drop] at w2
   exact hn (w2.trans w1.symm)
  ·rw [if_neg hbad] at h0; exact absurd h0 (by decide)
 ·exact .inr hsz
theorem errAt_drop (Q : List Nat) (n : Nat) (hn : n ≤ Q.length) : Pg.errAt Q (n : Int) = Pg.errOf (Q.drop n) := by
 unfold Pg.errAt
 rw [if_neg (by omega)]; rfl
/-- .. and so where it is read among others. -/
theorem Near.read {kind : Nat} {body X r Q : List Nat} (h : Near (Pg.lay kind body) X) (hne : X ≠ Pg.lay kind body) (hk : kind < 256) (hb : ∀ x ∈ body, x < 256) (hm : body.length ≤ 1048576) (n : Nat) (hn : n ≤ Q.length) (hQ : Q.drop n = X ++ r) :
  Pg.errAt Q (n : Int) ≠ 0 ∨ (Pg.errAt Q (n : Int) = 0 ∧ Pg.endAt Q (n : Int) ≠ (n : Int) + 9 + (body.length : Int)) := by
 rcases h.page hne hk hb hm r with h1 | h1
 ·left; rw [errAt_drop Q n hn, hQ]; exact h1
 ·by_cases h0 : Pg.errAt Q (n : Int) = 0
  ·refine .inr ⟨h0, ?_⟩
   unfold Pg.endAt
   rw [if_pos h0, show ((n : Int)).toNat = n from rfl, hQ]
   omega
  ·exact .inl h0
end Go.Proofs.YtifabkbdiiolfaaGreatDoor

namespace Go.Proofs.YtifabkbdiiolfaaGreatDoor
open Go.RowKit Go.WideShapes Col
theorem drop_at' (Q : List Nat) (n : Nat) (hn : n ≤ Q.length) : Pg.errAt Q (n : Int) = Pg.errOf (Q.drop n) ∧ Pg.kindAt Q (n : Int) = (if Pg.errOf (Q.drop n) = 0 then (Q.drop n).getD 4 0 else 0) ∧ Pg.bodyAt Q (n : Int) = (if Pg.errOf (Q.drop n) = 0 then ((Q.drop n).drop 5).take (Pg.sz (Q.drop n)) else []) ∧ Pg.endAt Q (n : Int) = (if Pg.errOf (Q.drop n) = 0 then (n : Int) + 9 + Pg.sz (Q.drop n) else 0) := by
 have h := errAt_drop Q n hn
 refine ⟨h, ?_, ?_, ?_⟩
 ·unfold Pg.kindAt; rw [h]; rfl
 ·unfold Pg.bodyAt; rw [h]; rfl
 ·unfold Pg.endAt; rw [h]; rfl
theorem openP_same {P Q : List Nat} (hl : Q.length = P.length) (n : Nat) (h13 : n + 13 ≤ P.length) (hd : Q.drop n = P.drop n) (hft : ftOf P = n) : openP Q = openP P := by
 have hla : lastP Q = lastP P := by
  unfold lastP
  obtain ⟨d, hdd⟩ : ∃ d, P.length - 13 = n + d := ⟨P.length - 13 - n, by omega⟩
  rw [hl, hdd, ← List.drop_drop, ← List.drop_drop, hd]
 have hfq : ftOf Q = n := by unfold ftOf at *; rw [hla]; exact hft
 obtain ⟨a1, a2, a3, a4⟩ := drop_at' Q n (by omega)
 obtain ⟨b1, b2, b3, b4⟩ := drop_at' P n (by omega)
 rw [hd] at a1 a2 a3 a4
 unfold openP bodyS
 rw [hla, hfq, hft, hl, a1, a2, a3, a4, b1, b2, b3, b4]
theorem seg_turned (ps : Nat) (hp8 : ps ≤ 8) (M : List Ev) (h0 : 0 < M.length) (h9 : M.length ≤ 900) (hfin : ∀ x ∈ M, FineE x) (hb : ∀ x ∈ segB ps M, x < 256) (o : (Nat × List Ck)) (hop : openP (segB ps M) = some (o, (segPg M).length)) (Q : List Nat) (hQ : Near (segB ps M) Q) (hne : Q ≠ segB ps M) :
  openP Q = none ∨ (openP Q = some (o, (segPg M).length) ∧ ∃ i, i < segN M ∧ (∀ j, j < i → ∃ q tl, Q = q ++ (Pg.lay 101 (evY (pcs M j)) ++ tl) ∧ q.length = ahead M j) ∧
   (Pg.errAt Q (ahead M i : Int) ≠ 0 ∨ (Pg.errAt Q (ahead M i : Int) = 0 ∧ Pg.endAt Q (ahead M i : Int) ≠ (ahead M (i + 1) : Int)))) := by
 have hN : segN M ≤ 15 := by unfold segN; omega
 have hlen := wrS_len M h0 hfin (chP (segN M))
 rw [chP_len] at hlen
 obtain ⟨n, hn⟩ : ∃ n, n = (segPg M).length := ⟨_, rfl⟩
 have hn9 : n ≤ 9281 * 15 := by rw [hn]; have : (segPg M).length ≤ 9281 * segN M := hlen.1; omega
 have hok : ∀ x ∈ segCk M, CkOk x := wrS_ok M h0 hfin _ (by rw [chP_len]; omega)
 obtain ⟨FB, hFB⟩ : ∃ FB, FB = footB ps (segCk M) := ⟨_, rfl⟩
 have hfl : FB.length ≤ 3000 := by
  have h1 := cksB_len hok
  have h2 := segCk_len M
  have h3 := nsB_len (ns := [ps, (segCk M).length]) (fun x hx => by simp only [List.mem_cons, List.not_mem_nil, or_false] at hx; omega)
  have h4 : [ps, (segCk M).length].length = 2 := rfl
  rw [hFB]
  unfold footB
  rw [List.length_append]
  omega
 have hseg : segB ps M = segPg M ++ (Pg.lay 102 FB ++ Pg.lay 116 (Pg.four n)) := by unfold segB; rw [hFB, hn, List.append_assoc]
 have hFBl : ∀ x ∈ FB, x < 256 := fun x hx => hb x (by
  rw [hseg]
  refine List.mem_append_right _ (List.mem_append_left _ ?_)
  unfold Pg.lay Pg.front
  simp [hx])
 have hl4 : (Pg.four n).length = 4 := rfl
 have hll : (Pg.lay 116 (Pg.four n)).length = 13 := by rw [Pg.lay_len]; rfl
 have hfll : (Pg.lay 102 FB).length = 9 + FB.length := Pg.lay_len _ _
 have hPl : (segB ps M).length = n + (9 + FB.length) + 13 := by rw [hseg, List.length_append, List.length_append, hll, hfll, ← hn]; omega
 have hQl : Q.length = (segB ps M).length := hQ.1
 have hFd : (segB ps M).drop n = Pg.lay 102 FB ++ Pg.lay 116 (Pg.four n) := by rw [hseg, hn, List.drop_left]
 have hTd : (segB ps M).drop (n + (9 + FB.length)) = Pg.lay 116 (Pg.four n) := by rw [← List.drop_drop, hFd, ← hfll, List.drop_left]
 obtain ⟨Qt, hQt⟩ : ∃ Qt, Qt = Q.drop (n + (9 + FB.length)) := ⟨_, rfl⟩
 obtain ⟨Qf, hQf⟩ : ∃ Qf, Qf = (Q.drop n).take (9 + FB.length) := ⟨_, rfl⟩
 have hNT : Near (Pg.lay 116 (Pg.four n)) Qt := by
  have h := hQ.drop hb (n + (9 + FB.length)) (by omega)
  rw [hTd, ← hQt] at h; exact h
 have hNF : Near (Pg.lay 102 FB) Qf := by
  have h := (hQ.drop hb n (by omega)).take (fun x hx => hb x (List.mem_of_mem_drop hx)) (9 + FB.length) (by rw [List.length_drop]; omega)
  rw [hFd, ← hfll, List.take_left, hfll, ← hQf] at h; exact h
 have hQn : Q.drop n = Qf ++ Qt := by rw [hQf, hQt, ← List.drop_drop, List.take_append_drop]
 have hlast : lastP Q = Qt := by
  unfold lastP
  rw [hQl, hPl, hQt, Nat.add_sub_cancel]
 obtain ⟨r1, r2, r3, r4⟩ := Pg.read_lay [] 116 (Pg.four n) [] 0 rfl (by decide) (Pg.four_lt n) (by rw [hl4]; omega)
 rw [List.append_nil, List.nil_append] at r1 r2 r3 r4
 have ho : Pg.oneErr (Pg.lay 116 (Pg.four n)) 116 = 0 := by
  unfold Pg.oneErr
  rw [if_neg (by rw [r1]; exact fun h => h rfl), if_pos ⟨r2, by rw [r4, hll, hl4]; rfl⟩]
 have hbo : Pg.oneBody (Pg.lay 116 (Pg.four n)) 116 = Pg.four n := by unfold Pg.oneBody; rw [if_pos ho, r3]
 by_cases hT : Qt = Pg.lay 116 (Pg.four n)
 ·have hft : ftOf Q = n := by unfold ftOf; rw [hlast, hT, hbo]; exact Pg.val_four n (by omega)
  by_cases hF : Qf = Pg.lay 102 FB
  ·have hdq : Q.drop n = (segB ps M).drop n := by rw [hQn, hFd, hF, hT]
   have hlp : lastP (segB ps M) = Pg.lay 116 (Pg.four n) := by
    unfold lastP
    rw [hPl, Nat.add_sub_cancel]; exact hTd
   have hfp : ftOf (segB ps M) = n := by unfold ftOf; rw [hlp, hbo]; exact Pg.val_four n (by omega)
   refine .inr ⟨by rw [openP_same hQl n (by omega) hdq hfp]; exact hop, ?_⟩
   have hfirst : ∀ k, k ≤ segN M → Q.take (ahead M k) = (segB ps M).take (ahead M k) ∨ ∃ i, i < k ∧ Q.take (ahead M i) = (segB ps M).take (ahead M i) ∧ Q.take (ahead M (i + 1)) ≠ (segB ps M).take (ahead M (i + 1)) := by
    intro k
    induction k with
    | zero => exact fun _ => .inl (by rw [show ahead M 0 = 0 from rfl]; rfl)
    | succ k ih =>
     intro hk
     rcases ih (by omega) with h | ⟨i, hi, h1, h2⟩
     ·by_cases he : Q.take (ahead M (k + 1)) = (segB ps M).take (ahead M (k + 1))
      ·exact .inl he
      ·exact .inr ⟨k, by omega, h, he⟩
     ·exact .inr ⟨i, by omega, h1, h2⟩
   rcases hfirst (segN M) (Nat.le_refl _) with h | ⟨i, hi, h1, h2⟩
   ·rw [show ahead M (segN M) = n from hn.symm] at h
    exact absurd (by rw [← List.take_append_drop n Q, h, hdq, List.take_append_drop]) hne
   ·have hcut : ∀ j, j ≤ i → j < segN M → ∃ tl, (segB ps M).drop (ahead M j) = Pg.lay 101 (evY (pcs M j)) ++ tl := fun j _ hj => by
     obtain ⟨q, tl, e1, e2⟩ := seg_at ps M j hj
     exact ⟨tl, by rw [e1, ← e2, List.drop_left]⟩
    have hle : ∀ j, (Pg.lay 101 (evY (pcs M j))).length = 9 + (evY (pcs M j)).length := fun j => Pg.lay_len _ _
    have hal : ahead M (i + 1) ≤ (segB ps M).length := by
     by_cases he : i + 1 = segN M
     ·rw [he, show ahead M (segN M) = n from hn.symm]; omega
     ·have h3 := ahead_lt M (show i + 1 < segN M by omega)
      have h4 : ahead M (segN M) = n := hn.symm
      omega
    refine ⟨i, hi, fun j hj => ?_, ?_⟩
    ·obtain ⟨tl, ht⟩ := hcut j (by omega) (by omega)
     have hs := ahead_succ M j
     have haj : ahead M (j + 1) ≤ ahead M i := by
      by_cases he : j + 1 = i
      ·rw [he]; exact Nat.le_refl _
      ·exact Nat.le_of_lt (ahead_lt M (by omega))
     have e1 : Q.take (ahead M (j + 1)) = (segB ps M).take (ahead M (j + 1)) := by
      have := congrArg (List.take (ahead M (j + 1))) h1
      rwa [List.take_take, List.take_take, Nat.min_eq_left haj] at this
     have e2 : (Q.drop (ahead M j)).take (9 + (evY (pcs M j)).length) = Pg.lay 101 (evY (pcs M j)) := by
      have := congrArg (List.drop (ahead M j)) e1
      rw [List.drop_take, List.drop_take, hs, Nat.add_sub_cancel_left, ht, ← hle j, List.take_left] at this
      rwa [hle j] at this
     refine ⟨Q.take (ahead M j), (Q.drop (ahead M j)).drop (9 + (evY (pcs M j)).length), ?_, ?_⟩
     ·rw [← e2, List.take_append_drop, List.take_append_drop]
     ·rw [List.length_take]
      have := ahead_succ M i
      omega
    ·obtain ⟨tl, ht⟩ := hcut i (Nat.le_refl _) hi
     have hs := ahead_succ M i
     have hey : ∀ x ∈ evY (pcs M i), x < 256 := fun x hx => hb x (List.mem_of_mem_drop (i := ahead M i) (by
      rw [ht]
      refine List.mem_append_left _ ?_
      unfold Pg.lay Pg.front
      simp [hx]))
     have hyl := evY_le (pcs M i) (fun x hx => hfin x (pcs_mem hx)) (by rw [pcs_len h0]; exact (lnC_facts h0).2.1)
     have hNX : Near (Pg.lay 101 (evY (pcs M i))) ((Q.drop (ahead M i)).take (9 + (evY (pcs M i)).length)) := by
      have h := (hQ.drop hb (ahead M i) (by omega)).take (fun x hx => hb x (List.mem_of_mem_drop hx)) (9 + (evY (pcs M i)).length) (by rw [List.length_drop]; omega)
      rw [ht, ← hle i, List.take_left, hle i] at h; exact h
     have hX : (Q.drop (ahead M i)).take (9 + (evY (pcs M i)).length) ≠ Pg.lay 101 (evY (pcs M i)) := by
      intro he
      apply h2
      have e1 : ∀ L : List Nat, L.take (ahead M i + (9 + (evY (pcs M i)).length)) = L.take (ahead M i) ++ (L.drop (ahead M i)).take (9 + (evY (pcs M i)).length) := fun L => List.take_add
      rw [hs, e1 Q, e1 (segB ps M), h1, he, ht, ← hle i, List.take_left]
     have hr := hNX.read hX (by decide) hey (by omega) (ahead M i) (by omega) (Q := Q) (r := (Q.drop (ahead M i)).drop (9 + (evY (pcs M i)).length)) (by rw [List.take_append_drop])
     rw [hs]
     rcases hr with hr | ⟨hr, hr2⟩
     ·exact .inl hr
     ·refine .inr ⟨hr, fun he => hr2 (by rw [he]; omega)⟩
  ·refine .inl ?_
   have hr := hNF.read hF (by decide) hFBl (by omega) n (by omega) hQn
   unfold openP
   rw [if_neg (by omega), hlast, hT, if_neg (fun h => h ho), hft, if_neg (by omega)]
   rcases hr with hr | ⟨hr, hr2⟩
   ·rw [if_pos hr]
   ·rw [if_neg (fun h => h hr), if_neg (fun h => hr2 (by rw [h.2, hQl, hPl]; omega))]
 ·refine .inl ?_
  have hr := hNT.page hT (by decide) (Pg.four_lt n) (by rw [hl4]; omega) []
  have hQtl : Qt.length = 13 := by rw [hNT.1, hll]
  unfold openP
  rw [if_neg (by omega), hlast]
  by_cases h1 : Pg.oneErr Qt 116 = 0
  ·exfalso
   have hq := one_layS Qt 116 hNT.2.1 h1
   obtain ⟨hbl, hbl2⟩ := oneBody_ltS Qt 116 hNT.2.1
   have hb4 : (Pg.oneBody Qt 116).length = 4 := by
    have := congrArg List.length hq
    rw [Pg.lay_len, hQtl] at this; omega
   obtain ⟨g1, g2, -, -⟩ := Pg.errOf_lay 116 (Pg.oneBody Qt 116) [] (by decide) hbl (by omega)
   rw [← hq] at g1 g2
   rcases hr with hr | hr
   ·exact hr g1
   ·exact hr (by rw [g2, hb4, hl4])
  ·rw [if_pos h1]
end Go.Proofs.YtifabkbdiiolfaaGreatDoor
