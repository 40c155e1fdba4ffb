/-
  Layer column: the reader's Uint, Int, Text.
-/
import Derived.Test.YtifabkbdiiolfaaDoorCgK
set_option linter.unusedSimpArgs false
set_option linter.unusedVariables false
set_option maxRecDepth 8000
namespace Go.Proofs.YtifabkbdiiolfaaDoor
open Go.RowKit Go.WideShapes Col
namespace Col
/-- The next number, at most that. -/
def uP (most : Nat) (q : List Nat) : Option (Nat × List Nat) := (grp 0 q).bind fun p => if p.1 ≤ most then some p else none
theorem uP_some {most n : Nat} {q r : List Nat} (h : uP most q = some (n, r)) : grp 0 q = some (n, r) ∧ n ≤ most := by
 unfold uP at h
 rcases hg : grp 0 q with _ | p
 ·rw [hg] at h; cases h
 ·rw [hg] at h; simp only [Option.bind_some] at h
  split at h
  ·injection h with h; subst h; exact ⟨rfl, by assumption⟩
  ·cases h
theorem uP_none {most : Nat} {q : List Nat} (h : uP most q = none) : grp 0 q = none ∨ ∃ n r, grp 0 q = some (n, r) ∧ most < n := by
 unfold uP at h
 rcases hg : grp 0 q with _ | ⟨n, r⟩
 ·exact .inl rfl
 ·rw [hg] at h; simp only [Option.bind_some] at h
  split at h
  ·cases h
  ·exact .inr ⟨n, r, rfl, by omega⟩
/-- A number with its sign. -/
def uz (n : Nat) : Int := if n % 2 = 1 then -((n / 2 : Nat) : Int) - 1 else ((n / 2 : Nat) : Int)
def zP (q : List Nat) : Option (Int × List Nat) := (grp 0 q).map fun p => (uz p.1, p.2)
def tP (most : Nat) (q : List Nat) : Option (List Nat × List Nat) := (uP most q).bind fun p => if p.1 ≤ p.2.length then some (p.2.take p.1, p.2.drop p.1) else none
theorem tP_some {most : Nat} {q s r : List Nat} (h : tP most q = some (s, r)) : ∃ n q', uP most q = some (n, q') ∧ n ≤ q'.length ∧ s = q'.take n ∧ r = q'.drop n := by
 unfold tP at h
 rcases hg : uP most q with _ | ⟨n, q'⟩
 ·rw [hg] at h; cases h
 ·rw [hg] at h; simp only [Option.bind_some] at h
  split at h
  ·injection h with h; injection h with h1 h2; exact ⟨n, q', rfl, by assumption, h1.symm, h2.symm⟩
  ·cases h
theorem tP_none {most : Nat} {q : List Nat} (h : tP most q = none) : uP most q = none ∨ ∃ n q', uP most q = some (n, q') ∧ q'.length < n := by
 unfold tP at h
 rcases hg : uP most q with _ | ⟨n, q'⟩
 ·exact .inl rfl
 ·rw [hg] at h; simp only [Option.bind_some] at h
  split at h
  ·cases h
  ·exact .inr ⟨n, q', rfl, by omega⟩
theorem zP_some {x : Int} {q r : List Nat} (h : zP q = some (x, r)) : ∃ n, grp 0 q = some (n, r) ∧ uz n = x := by
 unfold zP at h
 rcases hg : grp 0 q with _ | ⟨n, r'⟩
 ·rw [hg] at h; cases h
 ·rw [hg] at h; injection h with h; injection h with h1 h2; subst h2; exact ⟨n, rfl, h1⟩
theorem zP_none {q : List Nat} (h : zP q = none) : grp 0 q = none := by
 unfold zP at h
 rcases hg : grp 0 q with _ | p
 ·rfl
 ·rw [hg] at h; cases h
end Col
theorem Rd.lt {w : World} {g : Nat} {q : List Nat} (h : Rd w g q) : ∀ x ∈ q, x < 256 := by obtain ⟨A, C, h⟩ := h; exact h.bytes.lt
theorem grp_u64 {q r : List Nat} {n : Nat} (h : grp 0 q = some (n, r)) (hq : ∀ x ∈ q, x < 256) : n < 18446744073709551616 := by
 have := (grp_lt q 0 n r h).2.1 hq; simpa using this
theorem Yes.trans {g : Nat} {w w1 w' : World} {v : Value} {r : List Nat} {e : Ending} (HK : Hid (Kept (Only g) w w1)) (h : Yes g w1 v r e w') : Yes g w v r e w' := ⟨h.1, h.2.1, HK.out.trans h.2.2⟩
set_option maxHeartbeats 1000000 in
theorem uint_yes (g most n : Nat) (q r : List Nat) (hq : Hid (uP most q = some (n, r))) (hql : q.length ≤ 9223372036854775807) (w : World) (H : Hid (Rd w g q)) :
  Calls Tryd.prog 48 #[.pointer (some ⟨g, 0, none⟩), .int .u64 (most : Int)] w (Yes g w (.int .u64 (n : Int)) r) := by
 obtain ⟨A, C, h⟩ := H.out
 have HA := Lib.hid h
 obtain ⟨h1, h2⟩ := uP_some hq.out
 have H1 := Lib.hid h1
 clear h h1
 go_enter Tryd.func48, Tryd.ntmps48
 go_wp2_with (first
  | (go_at_call 61; refine (mayRead_yes g C A _ _ HA).mono ?_; rintro e w1 ⟨rfl, rfl⟩)
  | (go_at_call 62; (with_reducible refine (groups_yes g q r n H1 hql _ H).mono ?_); rintro e w1 hy; obtain ⟨rfl, HR1, HK1⟩ := Yes.rd hy; clear hy)
  | (go_at_call 49; (with_reducible refine (check_true _ _).mono ?_); rintro e w2 ⟨rfl, rfl⟩))
 go_ret
 exact ⟨rfl, HR1.out, HK1.out⟩
set_option maxHeartbeats 1000000 in
theorem uint_no (g most : Nat) (q : List Nat) (hq : Hid (uP most q = none)) (L : Nat) (HL : Hid (L = q.length)) (hql : L ≤ 1099511627776) (w : World) (H : Hid (Rd w g q)) :
  Calls Tryd.prog 48 #[.pointer (some ⟨g, 0, none⟩), .int .u64 (most : Int)] w (No g w) := by
 obtain ⟨A, C, h⟩ := H.out
 have HA := Lib.hid h
 have hB := Lib.hid h.bytes.lt
 clear h
 have hql2 : q.length ≤ 9223372036854775807 := by rw [← HL.out]; omega
 rcases uP_none hq.out with h1 | ⟨n, r, h1, h2⟩
 ·have H1 := Lib.hid h1
  clear h1
  go_enter Tryd.func48, Tryd.ntmps48
  go_wp2_with (first
   | (go_at_call 61; refine (mayRead_yes g C A _ _ HA).mono ?_; rintro e w1 ⟨rfl, rfl⟩)
   | (go_at_call 62; (with_reducible refine (groups_no g q H1 L HL hql _ H).mono ?_); rintro e w1 ⟨rfl, h1, h2⟩))
  exact ⟨rfl, rfl, h1, h2⟩
 ·have hn := grp_u64 h1 hB.out
  have H1 := Lib.hid h1
  have hd : ¬ n ≤ most := by omega
  have hd2 : decide (n ≤ most) = false := by simpa using h2
  clear h1
  go_enter Tryd.func48, Tryd.ntmps48
  go_wp2_with (first
   | (go_at_call 61; refine (mayRead_yes g C A _ _ HA).mono ?_; rintro e w1 ⟨rfl, rfl⟩)
   | (go_at_call 62; (with_reducible refine (groups_yes g q r n H1 hql2 _ H).mono ?_); rintro e w1 hy; obtain ⟨rfl, HR1, HK1⟩ := Yes.rd hy; clear hy)
   | (go_at_call 49; obtain ⟨A1, C1, hR⟩ := HR1.out; (with_reducible refine (check_false g C1 A1 r _ (Lib.hid hR)).mono ?_); rintro e w2 ⟨rfl, h1, h2⟩))
  exact ⟨rfl, no_end HK1 h1 h2⟩
theorem xor0_i64 (m : Nat) (h : m < 9223372036854775808) : bits BinOp.xor IntKind.i64 (m : Int) 0 = (m : Int) := by
 have h1 : (BitVec.ofInt 64 (m : Int)).toNat = m := by
  rw [BitVec.ofInt_natCast, BitVec.toNat_ofNat]; exact Nat.mod_eq_of_lt (by omega)
 have h0 : BitVec.ofInt 64 0 = 0#64 := by decide
 show IntKind.i64.wrap ((BitVec.ofInt 64 (m : Int) ^^^ BitVec.ofInt 64 0).toNat : Int) = _
 rw [h0, BitVec.xor_zero, h1, IntKind.wrap_i64]; omega
theorem xor1_i64 (m : Nat) (h : m < 9223372036854775808) : bits BinOp.xor IntKind.i64 (m : Int) (-1) = -(m : Int) - 1 := by
 have h1 : (BitVec.ofInt 64 (m : Int)).toNat = m := by
  rw [BitVec.ofInt_natCast, BitVec.toNat_ofNat]; exact Nat.mod_eq_of_lt (by omega)
 have h0 : BitVec.ofInt 64 (-1) = BitVec.allOnes 64 := by decide
 show IntKind.i64.wrap ((BitVec.ofInt 64 (m : Int) ^^^ BitVec.ofInt 64 (-1)).toNat : Int) = _
 rw [h0, BitVec.xor_allOnes, BitVec.toNat_not, h1, IntKind.wrap_i64]; omega
theorem ret_i64 {k : IntKind} {a b : Int} (h : a = b) : Ending.returned (.int k a) = .returned (.int k b) := by rw [h]
theorem and1 (n : Nat) (h : n < 18446744073709551616) : bits BinOp.and IntKind.u64 (n : Int) 1 = ((n % 2 : Nat) : Int) := by
 have := bits_and_u64_nat n 1 h (by decide)
 rw [Nat.and_one_is_mod] at this
 exact this
set_option maxHeartbeats 1000000 in
theorem int_yes (g : Nat) (x : Int) (q r : List Nat) (hq : Hid (zP q = some (x, r))) (hql : q.length ≤ 9223372036854775807) (w : World) (H : Hid (Rd w g q)) :
  Calls Tryd.prog 63 #[.pointer (some ⟨g, 0, none⟩)] w (Yes g w (.int .i64 x) r) := by
 obtain ⟨n, h1, hx⟩ := zP_some hq.out
 have hn := grp_u64 h1 H.out.lt
 have HU : Hid (uP 18446744073709551615 q = some (n, r)) := Lib.hid (by unfold uP; rw [h1]; simp; omega)
 have a1 := and1 n hn
 clear h1
 rcases Nat.mod_two_eq_zero_or_one n with h2 | h2
 ·rw [h2] at a1
  have HX : Hid (x = ((n / 2 : Nat) : Int)) := Lib.hid (by rw [← hx]; unfold uz; rw [if_neg (by omega)])
  clear hx h2
  go_enter Tryd.func63, Tryd.ntmps63
  go_wp2_with (go_at_call 48; (refine (uint_yes g 18446744073709551615 n q r HU hql _ H).mono ?_); rintro e w1 hy; obtain ⟨rfl, HR1, HK1⟩ := Yes.rd hy; clear hy)
  go_ret
  exact ⟨ret_i64 ((xor0_i64 (n / 2) (by omega)).trans HX.out.symm), HR1.out, HK1.out⟩
 ·rw [h2] at a1
  have HX : Hid (x = -((n / 2 : Nat) : Int) - 1) := Lib.hid (by rw [← hx]; unfold uz; rw [if_pos h2])
  clear hx h2
  go_enter Tryd.func63, Tryd.ntmps63
  go_wp2_with (go_at_call 48; (refine (uint_yes g 18446744073709551615 n q r HU hql _ H).mono ?_); rintro e w1 hy; obtain ⟨rfl, HR1, HK1⟩ := Yes.rd hy; clear hy)
  go_ret
  exact ⟨ret_i64 ((xor1_i64 (n / 2) (by omega)).trans HX.out.symm), HR1.out, HK1.out⟩
set_option maxHeartbeats 1000000 in
theorem int_no (g : Nat) (q : List Nat) (hq : Hid (zP q = none)) (L : Nat) (HL : Hid (L = q.length)) (hql : L ≤ 1099511627776) (w : World) (H : Hid (Rd w g q)) :
  Calls Tryd.prog 63 #[.pointer (some ⟨g, 0, none⟩)] w (No g w) := by
 have HU : Hid (uP 18446744073709551615 q = none) := Lib.hid (by unfold uP; rw [zP_none hq.out]; rfl)
 go_enter Tryd.func63, Tryd.ntmps63
 go_wp2_with (go_at_call 48; (refine (uint_no g 18446744073709551615 q HU L HL hql _ H).mono ?_); rintro e w1 ⟨rfl, h1, h2⟩)
 exact ⟨rfl, rfl, h1, h2⟩
theorem off_kept {g n : Nat} {w w' : World} {A : Option Addr} {q : List Nat} (h : ByAt w A q) (ho : Off (Only g) A q) (hk : Kept (Only g) w w') : Hid (ByAt w' A q) := h.kept hk ho
set_option maxHeartbeats 1000000 in
theorem text_yes (g most : Nat) (hm : most < 9223372036854775808) (q s r : List Nat) (hq : Hid (tP most q = some (s, r))) (hql : q.length ≤ 9223372036854775807) (w : World) (H : Hid (Rd w g q)) :
  Calls Tryd.prog 64 #[.pointer (some ⟨g, 0, none⟩), .int .i64 (most : Int)] w (Yes g w (.string (strB s)) r) := by
 obtain ⟨n, q', h1, h2, h3, h4⟩ := tP_some hq.out
 obtain ⟨A, C, h⟩ := H.out
 have HA := Lib.hid h
 have HU := Lib.hid h1
 have H3 := Lib.hid h3
 have H4 := Lib.hid h4
 have H2 := Lib.hid h2
 clear h h1 h3 h4 h2
 have hn := Lib.hid (grp_u64 (uP_some HU.out).1 H.out.lt)
 go_enter Tryd.func64, Tryd.ntmps64
 go_wp2_with (first
  | (go_at_call 61; refine (mayRead_yes g C A _ _ HA).mono ?_; rintro e w1 ⟨rfl, rfl⟩)
  | (go_at_call 49; (with_reducible refine (check_true _ _).mono ?_); rintro e w2 ⟨rfl, rfl⟩)
  | (go_at_call 48; (with_reducible refine (uint_yes g most n q q' HU hql _ H).mono ?_); rintro e w1 hy; obtain ⟨rfl, HR1, HK1⟩ := Yes.rd hy; clear hy)
  | (go_at_call 77; obtain ⟨A1, C1, hR⟩ := HR1.out; (with_reducible refine (take_yes g C1 A1 q' n q'.length (Lib.hid rfl) H2.out _ (Lib.hid hR)).mono ?_); rintro e w2 ⟨A2, C2, rfl, a1, a2, a3, a4, a5, a6, a7⟩; clear a7; have HB := off_kept (n := 0) a3 a4 a6; have h5 := conv_at n C2 HB (Below.refl _ _) (by rw [List.length_take]; have := H2.out; omega); have HR2 := Lib.hid a5; have HK2 := Lib.hid a6; clear a1 a2 a3 a4 a5 a6 hR))
 go_ret
 exact ⟨by rw [H3.out]; rfl, by rw [H4.out]; exact HR2.out, HK1.out.trans HK2.out⟩
set_option maxHeartbeats 1000000 in
theorem text_no (g most : Nat) (hm : most < 9223372036854775808) (q : List Nat) (hq : Hid (tP most q = none)) (L : Nat) (HL : Hid (L = q.length)) (hql : L ≤ 1099511627776) (w : World) (H : Hid (Rd w g q)) :
  Calls Tryd.prog 64 #[.pointer (some ⟨g, 0, none⟩), .int .i64 (most : Int)] w (No g w) := by
 obtain ⟨A, C, h⟩ := H.out
 have HA := Lib.hid h
 clear h
 have hql2 : q.length ≤ 9223372036854775807 := by rw [← HL.out]; omega
 rcases tP_none hq.out with h1 | ⟨n, q', h1, h2⟩
 ·have HU := Lib.hid h1
  clear h1
  go_enter Tryd.func64, Tryd.ntmps64
  go_wp2_with (first
   | (go_at_call 61; refine (mayRead_yes g C A _ _ HA).mono ?_; rintro e w1 ⟨rfl, rfl⟩)
   | (go_at_call 49; (with_reducible refine (check_true _ _).mono ?_); rintro e w2 ⟨rfl, rfl⟩)
   | (go_at_call 48; (with_reducible refine (uint_no g most q HU L HL hql _ H).mono ?_); rintro e w1 ⟨rfl, h1, h2⟩))
  exact ⟨rfl, rfl, h1, h2⟩
 ·have HU := Lib.hid h1
  have H2 := Lib.hid h2
  clear h1 h2
  have hn := Lib.hid (grp_u64 (uP_some HU.out).1 H.out.lt)
  go_enter Tryd.func64, Tryd.ntmps64
  go_wp2_with (first
   | (go_at_call 61; refine (mayRead_yes g C A _ _ HA).mono ?_; rintro e w1 ⟨rfl, rfl⟩)
   | (go_at_call 49; (with_reducible refine (check_true _ _).mono ?_); rintro e w2 ⟨rfl, rfl⟩)
   | (go_at_call 48; (with_reducible refine (uint_yes g most n q q' HU hql2 _ H).mono ?_); rintro e w1 hy; obtain ⟨rfl, HR1, HK1⟩ := Yes.rd hy; clear hy)
   | (go_at_call 77; obtain ⟨A1, C1, hR⟩ := HR1.out; (with_reducible refine (take_no g C1 A1 q' n q'.length (Lib.hid rfl) H2.out _ (Lib.hid hR)).mono ?_); rintro e w2 ⟨rfl, h1, h2⟩))
  exact ⟨rfl, no_end HK1 h1 h2⟩
end Go.Proofs.YtifabkbdiiolfaaDoor
