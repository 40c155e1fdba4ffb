/-
  Layer column: the least and the greatest, how many bits, numbers packed.
-/
import Derived.Test.YtjldamkmdkaiiaaGreatDoorCvK
import Derived.Lib.Tables
import Derived.Laws.MathBits
import Derived.Outline
import Derived.OwnWalk
import Derived.Test.YtjldamkmdkaiiaaGreatDoorTkK
set_option linter.unusedSimpArgs false
set_option linter.unusedVariables false
set_option maxRecDepth 8000
namespace Go.Proofs.YtjldamkmdkaiiaaGreatDoor
open Go.RowKit Go.WideShapes Col
namespace Col
def leb : Nat → Nat → List Nat
 | 0, _ => []
 | k + 1, n => n % 256 :: leb k (n / 256)
theorem leb_length : ∀ (k n : Nat), (leb k n).length = k
 | 0, _ => rfl
 | k + 1, n => by rw [leb, List.length_cons, leb_length k]
theorem leb_lt : ∀ (k n : Nat), ∀ x ∈ leb k n, x < 256
 | 0, _, x, h => by cases h
 | k + 1, n, x, h => by
  rcases List.mem_cons.1 h with rfl | h
  ·exact Nat.mod_lt _ (by decide)
  ·exact leb_lt k _ x h
theorem leb_get : ∀ (k n i : Nat), i < k → (leb k n)[i]? = some (n / 2 ^ (8 * i) % 256)
 | k + 1, n, 0, _ => by rw [leb]; simp
 | k + 1, n, i + 1, h => by
  rw [leb, List.getElem?_cons_succ, leb_get k (n / 256) i (by omega), Nat.div_div_eq_div_mul, show 8 * (i + 1) = 8 + 8 * i by omega, Nat.pow_add]
theorem leb_zero : ∀ k, leb k 0 = List.replicate k 0
 | 0 => rfl
 | k + 1 => by rw [leb, Nat.zero_div, leb_zero k]; rfl
theorem leb_ext {k : Nat} {l : List Nat} {n : Nat} (hl : l.length = k) (h : ∀ i, i < k → l[i]? = some (n / 2 ^ (8 * i) % 256)) : l = leb k n := by
 apply List.ext_getElem?
 intro i
 by_cases hi : i < k
 ·rw [h i hi, leb_get k n i hi]
 ·rw [List.getElem?_eq_none (by omega), List.getElem?_eq_none (by rw [leb_length]; omega)]
theorem byte_step (a at' d : Nat) (ha : a < 2 ^ at') (i s : Nat) (hi : at' = 8 * i + s) (hs : s < 8) :
  a / 2 ^ (8 * i) % 256 < 2 ^ s ∧ (a + d % 2 ^ (8 - s) * 2 ^ at') / 2 ^ (8 * i) % 256 = a / 2 ^ (8 * i) % 256 + d * 2 ^ s % 256 ∧ a + d % 2 ^ (8 - s) * 2 ^ at' < 2 ^ (8 * (i + 1)) ∧
  (∀ j, j < i → (a + d % 2 ^ (8 - s) * 2 ^ at') / 2 ^ (8 * j) % 256 = a / 2 ^ (8 * j) % 256) ∧ (∀ j, i < j → (a + d % 2 ^ (8 - s) * 2 ^ at') / 2 ^ (8 * j) % 256 = a / 2 ^ (8 * j) % 256) := by
 have hp : 2 ^ at' = 2 ^ (8 * i) * 2 ^ s := by rw [hi, Nat.pow_add]
 have hP : 0 < 2 ^ (8 * i) := Nat.two_pow_pos _
 have hS : 0 < 2 ^ s := Nat.two_pow_pos _
 have h8 : 2 ^ s * 2 ^ (8 - s) = 256 := by rw [← Nat.pow_add, show s + (8 - s) = 8 by omega]
 have hq : a / 2 ^ (8 * i) < 2 ^ s := by rw [Nat.div_lt_iff_lt_mul hP, Nat.mul_comm, ← hp]; exact ha
 have h256 : 2 ^ s ≤ 256 := by rw [← h8]; exact Nat.le_mul_of_pos_right _ (Nat.two_pow_pos _)
 have hR : d % 2 ^ (8 - s) < 2 ^ (8 - s) := Nat.mod_lt _ (Nat.two_pow_pos _)
 have hd : d * 2 ^ s % 256 = d % 2 ^ (8 - s) * 2 ^ s := by
  rw [← h8, Nat.mul_comm d, Nat.mul_mod_mul_left, Nat.mul_comm]
 generalize d % 2 ^ (8 - s) = R at *
 have hsum : (a + R * 2 ^ at') / 2 ^ (8 * i) = a / 2 ^ (8 * i) + R * 2 ^ s := by
  rw [hp, show R * (2 ^ (8 * i) * 2 ^ s) = 2 ^ (8 * i) * (R * 2 ^ s) by rw [Nat.mul_left_comm]]
  exact Nat.add_mul_div_left _ _ hP
 have hlt : a / 2 ^ (8 * i) + R * 2 ^ s < 256 := by
  have h1 : (R + 1) * 2 ^ s ≤ 2 ^ (8 - s) * 2 ^ s := Nat.mul_le_mul_right _ hR
  rw [Nat.add_mul, Nat.one_mul, Nat.mul_comm (2 ^ (8 - s)), h8] at h1
  omega
 have hbig : a + R * 2 ^ at' < 2 ^ (8 * (i + 1)) := by
  have h1 := (Nat.div_lt_iff_lt_mul hP).1 (show (a + R * 2 ^ at') / 2 ^ (8 * i) < 2 ^ 8 by rw [hsum]; exact hlt)
  rw [show 8 * (i + 1) = 8 + 8 * i by omega, Nat.pow_add]; exact h1
 refine ⟨by rw [Nat.mod_eq_of_lt (by omega)]; exact hq, ?_, hbig, fun j hj => ?_, fun j hj => ?_⟩
 ·rw [hsum, hd, Nat.mod_eq_of_lt hlt, Nat.mod_eq_of_lt (by omega : a / 2 ^ (8 * i) < 256)]
 ·obtain ⟨k, rfl⟩ : ∃ k, i = j + 1 + k := ⟨i - j - 1, by omega⟩
  have e : R * 2 ^ at' = 2 ^ (8 * j) * (256 * (2 ^ (8 * k) * (R * 2 ^ s))) := by
   rw [hp, show 8 * (j + 1 + k) = 8 * j + (8 + 8 * k) by omega, Nat.pow_add, Nat.pow_add, show (256 : Nat) = 2 ^ 8 from rfl]
   simp only [Nat.mul_comm, Nat.mul_left_comm, Nat.mul_assoc]
  rw [e, Nat.add_mul_div_left _ _ (Nat.two_pow_pos _), Nat.add_mul_mod_self_left]
 ·have h1 : 2 ^ (8 * (i + 1)) ≤ 2 ^ (8 * j) := Nat.pow_le_pow_right (by decide) (by omega)
  rw [Nat.div_eq_of_lt (by omega), Nat.div_eq_of_lt (by have : a ≤ a + R * 2 ^ at' := Nat.le_add_right _ _; omega)]
theorem leb_set (K a at' d : Nat) (ha : a < 2 ^ at') (i s : Nat) (hi : at' = 8 * i + s) (hs : s < 8) (hK : i < K) :
  (leb K a).set i (a / 2 ^ (8 * i) % 256 + d * 2 ^ s % 256) = leb K (a + d % 2 ^ (8 - s) * 2 ^ at') := by
 obtain ⟨-, h2, -, h4, h5⟩ := byte_step a at' d ha i s hi hs
 refine leb_ext (by rw [List.length_set, leb_length]) fun j hj => ?_
 rw [List.getElem?_set]
 by_cases e : i = j
 ·subst e
  rw [if_pos rfl, if_pos (by rw [leb_length]; omega), h2]
 ·rw [if_neg e, leb_get K a j hj]
  rcases Nat.lt_or_gt_of_ne e with h | h
  ·rw [h5 j h]
  ·rw [h4 j h]
theorem split_d (d s : Nat) (hs : s < 8) : d = d % 2 ^ (8 - s) + 2 ^ (8 - s) * (d / 2 ^ (8 - s)) := (Nat.mod_add_div _ _).symm
theorem or_u8 (s b x : Nat) (hs : s < 8) (hb : b < 2 ^ s) (hx : x < 256) (hm : x % 2 ^ s = 0) : bits BinOp.or IntKind.u8 (b : Int) (x : Int) = ((b + x : Nat) : Int) := by
 have hb2 : b < 256 := Nat.lt_of_lt_of_le hb (by
  have : 2 ^ s ≤ 2 ^ 8 := Nat.pow_le_pow_right (by decide) (by omega)
  exact this)
 have h1 : ∀ n : Nat, n < 256 → (BitVec.ofInt 8 (n : Int)).toNat = n := fun n hn => by
  rw [BitVec.ofInt_natCast, BitVec.toNat_ofNat]; exact Nat.mod_eq_of_lt hn
 show IntKind.u8.wrap ((BitVec.ofInt 8 (b : Int) ||| BitVec.ofInt 8 (x : Int)).toNat : Int) = _
 rw [BitVec.toNat_or, h1 b hb2, h1 x hx]
 obtain ⟨q, rfl⟩ : ∃ q, x = 2 ^ s * q := ⟨x / 2 ^ s, by have := Nat.mod_add_div x (2 ^ s); omega⟩
 have e : b ||| 2 ^ s * q = 2 ^ s * q + b := by rw [Nat.or_comm, Nat.two_pow_add_eq_or_of_lt hb]
 rw [e, IntKind.wrap_u8]
 have hbx : 2 ^ s * q + b < 256 := by
  have hqp : q * 2 ^ s < 256 := by rw [Nat.mul_comm]; exact hx
  have hdv : 2 ^ s * 2 ^ (8 - s) = 256 := by rw [← Nat.pow_add, show s + (8 - s) = 8 by omega]
  have hq1 : q < 2 ^ (8 - s) := Nat.lt_of_mul_lt_mul_left (a := 2 ^ s) (by rw [hdv]; exact hx)
  have : 2 ^ s * (q + 1) ≤ 2 ^ s * 2 ^ (8 - s) := Nat.mul_le_mul_left _ hq1
  rw [hdv, Nat.mul_add] at this; omega
 omega
theorem shl_u8 (d s : Nat) (hs : s < 8) : IntKind.u8.wrap (IntKind.u64.wrap ((d : Int) * 2 ^ s)) = ((d * 2 ^ s % 256 : Nat) : Int) := by
 rw [wrap_shl, IntKind.wrap_u8]; omega
theorem mod_dvd (d s : Nat) (hs : s < 8) : d * 2 ^ s % 256 % 2 ^ s = 0 := by
 have h8 : 2 ^ s * 2 ^ (8 - s) = 256 := by rw [← Nat.pow_add, show s + (8 - s) = 8 by omega]
 rw [← h8, Nat.mul_comm d, Nat.mul_mod_mul_left, Nat.mul_mod_right]
end Col
def RowB (w : World) (g : Nat) (l : List Nat) : Prop := w.heap[g]? = some (.cells (bys l).toArray 5 (0, 0))
section
variable {w : World} {g : Nat} {l : List Nat}
theorem RowB.cell (h : RowB w g l) (i x : Nat) (hx : l[i]? = some x) : w.cell? ⟨g, i, none⟩ = some (.int .u8 (x : Int)) := by
 rw [cell_of_row _ _ _ _ _ _ h, List.getElem?_toArray]; unfold bys; rw [List.getElem?_map, hx]; rfl
theorem RowB.fr (h : RowB w g l) (i : Nat) : w.frozen? ⟨g, i, none⟩ = false := row_frozen h i
theorem RowB.drew (h : RowB w g l) : RowB w.drew g l := h
theorem RowB.set (h : RowB w g l) (i x : Nat) (hi : i < l.length) : RowB (w.setCell ⟨g, i, none⟩ (.int .u8 (x : Int))) g (l.set i x) := by
 unfold RowB at *
 rw [World.setCell]
 simp only [Array.getElem?_modify, if_pos, h, Option.map_some]
 have e : (bys l).toArray.setIfInBounds i (.int .u8 (x : Int)) = (bys (l.set i x)).toArray := by
  unfold bys; rw [List.map_set]; simp; rfl
 simp [e]
theorem RowB.keep {w' : World} {S : Nat → Prop} (h : RowB w g l) (hk : Kept S w w') (hg : ¬ S g) : RowB w' g l := hk.heap h hg
end
def PB (g K T : Nat) (w0 : World) (p q : Value) (wr : World) : Prop := ∃ a d at' : Nat, p = .int .i64 (at' : Int) ∧ q = .int .u64 (d : Int) ∧ d < 18446744073709551616 ∧ a < 2 ^ at' ∧ a + d * 2 ^ at' = T ∧ at' < 1099511627776 + 8 ∧ RowB wr g (leb K a) ∧ Kept (Only g) w0 wr
set_option maxHeartbeats 4000000 in
theorem putBits_any (g K a at0 d0 : Nat) (ha : a < 2 ^ at0) (hd : d0 < 18446744073709551616) (hK8 : 8 * K < 1099511627776) (hat : at0 < 1099511627776) (hT : Hid (a + d0 * 2 ^ at0 < 2 ^ (8 * K))) (w : World) (H : Hid (RowB w g (leb K a))) :
  Calls Tryz.prog 151 #[.slice (some ⟨g, 0, none⟩) K K, .int .i64 (at0 : Int), .int .u64 (d0 : Int)] w fun e w' => e = .returned (.tuple #[]) ∧ RowB w' g (leb K (a + d0 * 2 ^ at0)) ∧ Kept (Only g) w w' := by
 have HPB : Hid (PB g K (a + d0 * 2 ^ at0) w (.int .i64 (at0 : Int)) (.int .u64 (d0 : Int)) w) := Lib.hid ⟨a, d0, at0, rfl, rfl, hd, ha, rfl, by omega, H.out, Kept.refl _ _⟩
 obtain ⟨T, hTT⟩ : ∃ T, T = a + d0 * 2 ^ at0 := ⟨_, rfl⟩
 rw [← hTT] at hT HPB ⊢
 clear H ha hTT hd
 go_enter Tryz.func151, Tryz.ntmps151
 go_wp2
 go_loopw [1, 2] (fun p q wr => PB g K T w p q wr) (fun _ q _ => (intOf q).toNat)
 case atStart => exact HPB.out
 case round =>
  obtain ⟨a, d, at', rfl, rfl, hd, ha, hT2, hlt, hrow, hkp⟩ := hrel
  have HA := Lib.hid ha; have HT2 := Lib.hid hT2; have HR := Lib.hid hrow; have HK := Lib.hid hkp
  clear ha hT2 hrow hkp HPB
  by_cases hd0 : d = 0
  ·subst hd0
   go_wp2
   refine bodyPost_end (results_none rfl _ _ _) rfl ⟨rfl, ?_, HK.out⟩
   have := HT2.out; rw [Nat.zero_mul, Nat.add_zero] at this; rw [← this]; exact HR.out
  ·have hz : ((d : Int) != 0) = true := by rw [bne_iff_ne]; omega
   obtain ⟨i, hi⟩ : ∃ i, i = at' / 8 := ⟨_, rfl⟩
   obtain ⟨s, hs⟩ : ∃ s, s = at' % 8 := ⟨_, rfl⟩
   have hs8 : s < 8 := by omega
   have his : at' = 8 * i + s := by omega
   have hqi : (at' : Int) / 8 = (i : Int) := by omega
   have hqs : (at' : Int) % 8 = (s : Int) := by omega
   have hqi2 : (at' : Int).tdiv 8 = (i : Int) := by rw [Int.tdiv_eq_ediv_of_nonneg (by omega)]; exact hqi
   have hqs2 : (at' : Int).tmod 8 = (s : Int) := by rw [Int.tmod_eq_emod_of_nonneg (by omega)]; exact hqs
   have hiK : i < K := by
    have h1 : 2 ^ at' ≤ T := by
     rw [← HT2.out]
     have : 1 * 2 ^ at' ≤ d * 2 ^ at' := Nat.mul_le_mul_right _ (by omega)
     omega
    have h2 : 2 ^ at' < 2 ^ (8 * K) := Nat.lt_of_le_of_lt h1 hT.out
    have h3 : at' < 8 * K := (Nat.pow_lt_pow_iff_right (by decide)).1 h2
    omega
   have hiKi : (i : Int) < (K : Int) := by omega
   obtain ⟨h1, h2, h3, -, -⟩ := byte_step a at' d HA.out i s his hs8
   obtain ⟨b, hb⟩ : ∃ b, b = a / 2 ^ (8 * i) % 256 := ⟨_, rfl⟩
   obtain ⟨x, hx⟩ : ∃ x, x = d * 2 ^ s % 256 := ⟨_, rfl⟩
   have HC : Hid (wr.cell? ⟨g, i, none⟩ = some (.int .u8 (b : Int))) := Lib.hid (HR.out.cell i b (by rw [hb]; exact leb_get K a i hiK))
   have HF : Hid (wr.frozen? ⟨g, i, none⟩ = false) := Lib.hid (HR.out.fr i)
   have HX : Hid (IntKind.u8.wrap (IntKind.u64.wrap ((d : Int) * 2 ^ s)) = (x : Int)) := Lib.hid (by rw [hx]; exact shl_u8 d s hs8)
   have HOR : Hid (bits BinOp.or IntKind.u8 (b : Int) (x : Int) = (b : Int) + (x : Int)) := Lib.hid (by rw [← Int.natCast_add]; exact or_u8 s b x hs8 (by rw [hb]; exact h1) (by rw [hx]; exact Nat.mod_lt _ (by decide)) (by rw [hx]; exact mod_dvd d s hs8))
   have HRS : Hid (RowB ((wr.setCell ⟨g, i, none⟩ (.int .u8 ((b : Int) + (x : Int)))).drew) g (leb K (a + d % 2 ^ (8 - s) * 2 ^ at'))) := Lib.hid (by
    rw [← leb_set K a at' d HA.out i s his hs8 hiK, ← hb, ← hx]; exact HR.out.set i (b + x) (by rw [leb_length]; exact hiK))
   have HKS : Hid (Kept (Only g) w ((wr.setCell ⟨g, i, none⟩ (.int .u8 ((b : Int) + (x : Int)))).drew)) := Lib.hid (HK.out.setCell _ _ (.inl rfl)).drew
   obtain ⟨a2, ha2⟩ : ∃ a2, a2 = a + d % 2 ^ (8 - s) * 2 ^ at' := ⟨_, rfl⟩
   obtain ⟨d2, hd2⟩ : ∃ d2, d2 = d / 2 ^ (8 - s) := ⟨_, rfl⟩
   obtain ⟨t, ht⟩ : ∃ t, t = 8 - s := ⟨_, rfl⟩
   have HT3 : Hid (a2 + d2 * 2 ^ (at' + t) = T) := Lib.hid (by
    rw [← HT2.out, ha2, hd2, ht, Nat.pow_add, Nat.add_assoc]
    congr 1
    have e := split_d d s hs8
    have : d * 2 ^ at' = (d % 2 ^ (8 - s) + 2 ^ (8 - s) * (d / 2 ^ (8 - s))) * 2 ^ at' := by rw [← e]
    rw [this, Nat.add_mul]
    congr 1
    simp only [Nat.mul_comm, Nat.mul_left_comm, Nat.mul_assoc])
   have HA3 : Hid (a2 < 2 ^ (at' + t)) := Lib.hid (by rw [ha2, ht]; rw [show at' + (8 - s) = 8 * (i + 1) by omega]; exact h3)
   have hd3 : d2 < d := by rw [hd2]; exact Nat.div_lt_self (by omega) (Nat.one_lt_two_pow (by omega))
   have HD2 : Hid ((d : Int) / 2 ^ t = (d2 : Int)) := Lib.hid (by rw [hd2, ht, Int.natCast_ediv, Int.natCast_pow]; rfl)
   rw [← ha2] at HRS
   have ht8 : t ≤ 8 := by omega
   have hti : (8 : Int) - (s : Int) = (t : Int) := by omega
   have hs64 : (s : Int) < 64 := by omega
   have HIS := Lib.hid his
   clear his
   clear h1 h2 h3 hb hx ha2 hd2 ht hi hs hd0
   go_upto_region 1 with fail
   refine wp_region_held_drew (S := fun _ => True) (by kernel_rfl) trivial (fun hHeld => ?_)
   refine tkm 0 (.slice (some ⟨g, 0, none⟩) K K) rfl hHeld ?_
   try simp only [qz]
   refine tkm 1 (.int .i64 (at' : Int)) rfl hHeld ?_
   try simp only [qz]
   refine tk 2 (.int .i64 (i : Int)) rfl (Or.inl ⟨by rfl, fun w _ => by first | (go_simp; done) | (go_simp; rw [IntKind.wrap_i64]; omega)⟩) hHeld ?_
   try simp only [qz]
   refine tk 3 (.pointer (some ⟨g, i, none⟩)) rfl (Or.inl ⟨by rfl, fun w _ => by go_simp; try (intro h; exfalso; omega)⟩) hHeld ?_
   try simp only [qz]
   refine tkm 5 (.int .u64 (d : Int)) rfl hHeld ?_
   try simp only [qz]
   refine tkm 6 (.int .i64 (at' : Int)) rfl hHeld ?_
   try simp only [qz]
   refine tks 7 (.int .i64 (s : Int)) rfl hHeld ?_
   try simp only [qz]
   refine tks 8 (.int .u64 (IntKind.u64.wrap ((d : Int) * 2 ^ s))) rfl hHeld ?_
   try simp only [qz]
   refine tk 9 (.int .u8 (x : Int)) rfl (Or.inl ⟨by rfl, fun w _ => by first | (go_simp; exact HX.out) | (have hh := HX.out; go_simp)⟩) hHeld ?_
   try simp only [qz]
   have c9 : (wr.drew).cell? ⟨g, i, none⟩ = some (.int .u8 (b : Int)) := HC.out
   have f9 : (wr.drew).frozen? ⟨g, i, none⟩ = false := HF.out
   refine rd1 4 rfl (fun K hK => ?_)
   go_simp
   refine hK.out _ _ hHeld (fun hHeld => ?_)
   clear hK K
   try simp only [qz]
   have hor := HOR.out
   refine rd1 10 rfl (fun K hK => ?_)
   go_simp
   refine hK.out _ _ hHeld (fun hHeld => ?_)
   clear hK K
   try simp only [qz]
   refine tk 11 (.pointer (some ⟨g, i, none⟩)) rfl (Or.inl ⟨by rfl, fun w _ => by go_simp; try (intro h; exfalso; omega)⟩) hHeld ?_
   try simp only [qz]
   refine rd1 12 rfl (fun K hK => ?_)
   go_simp
   refine hK.out _ _ hHeld (fun hHeld => ?_)
   clear hK K
   try simp only [qz]
   refine wpAnyH_done (by kernel_rfl) ?_ _
   generalize (World.setCell wr _ _).drew = w9 at *
   have hdd := HD2.out
   go_wp2
   go_roundw
   case rel => exact ⟨a2, d2, at' + t, by go_num, rfl, by omega, HA3.out, HT3.out, by omega, HRS.out, HKS.out⟩
   case measure => simp [intOf]; omega
theorem ret_eqC {v v' : Value} (h : v = v') : Ending.returned v = Ending.returned v' := by rw [h]
theorem len_byteC (y : Nat) (_hy : y < 256) (p : y < Lib.len8tab.size) : ((Lib.len8tab[y]'p).toNat : Int) = (bitLen y : Nat) := by
 have h := len8tab_get y (by exact p)
 exact congrArg Int.ofNat h
theorem len_atC (x y : Int) (k : Nat) (K : Int) (hK : K = (k : Nat)) (hk : k ≤ 56) (h0 : 0 ≤ y) (h1 : y < 256) (e : y.toNat = x.toNat / 2 ^ k) (hy : y ≠ 0) (p : y.toNat < Lib.len8tab.size) :
  wrap64 (K + wrap64 ((Lib.len8tab[y.toNat]'p).toNat : Int)) = (bitLen x.toNat : Nat) := by
 rw [len_byteC _ (by omega) p]
 have h8 := bitLen_le8 y.toNat (by omega)
 have hs := bitLen_shift x.toNat k (by rw [← e]; omega)
 rw [← e] at hs
 unfold wrap64
 omega
theorem len_lowC (x : Int) (h0 : 0 ≤ x) (h1 : x < 256) (p : x.toNat < Lib.len8tab.size) : wrap64 (wrap64 ((Lib.len8tab[x.toNat]'p).toNat : Int)) = (bitLen x.toNat : Nat) := by
 rw [len_byteC _ (by omega) p]
 have h8 := bitLen_le8 x.toNat (by omega)
 unfold wrap64
 omega
set_option maxHeartbeats 1000000 in
set_option maxRecDepth 100000 in
theorem lenC_int (x : Int) (h0 : 0 ≤ x) (h1 : x ≤ 18446744073709551615) (w : World) :
  Calls Tryz.prog 148 #[.int .u64 x] w fun e w' => e = .returned (.int .i64 (bitLen x.toNat : Nat)) ∧ w = w' := by
 have hsz := Lib.len8tab_size
 go_enter Tryz.func148, Tryz.ntmps148
 go_wp2
 all_goals (go_ret; refine ⟨ret_eqC (congrArg (Value.int IntKind.i64) ?_), rfl⟩)
 ·exact len_atC x _ 56 56 rfl (by omega) (by omega) (by omega) (by show _ = x.toNat / 72057594037927936; omega) (by omega) _
 ·exact len_atC x _ 48 48 rfl (by omega) (by omega) (by omega) (by show _ = x.toNat / 281474976710656; omega) (by omega) _
 ·exact len_atC x _ 40 40 rfl (by omega) (by omega) (by omega) (by show _ = x.toNat / 1099511627776; omega) (by omega) _
 ·exact len_atC x _ 32 32 rfl (by omega) (by omega) (by omega) (by show _ = x.toNat / 4294967296; omega) (by omega) _
 ·exact len_atC x _ 24 24 rfl (by omega) (by omega) (by omega) (by show _ = x.toNat / 16777216; omega) (by omega) _
 ·exact len_atC x _ 16 16 rfl (by omega) (by omega) (by omega) (by show _ = x.toNat / 65536; omega) (by omega) _
 ·exact len_atC x _ 8 8 rfl (by omega) (by omega) (by omega) (by show _ = x.toNat / 256; omega) (by omega) _
 ·have h := len_lowC x (by omega) (by omega) (by rw [hsz]; omega)
  exact h
theorem lenC_any (x : Nat) (hx : x < 18446744073709551616) (w : World) :
  Calls Tryz.prog 148 #[.int .u64 x] w fun e w' => e = .returned (.int .i64 (bitLen x : Nat)) ∧ w = w' := by
 have h := lenC_int (x : Int) (by omega) (by omega) w
 rwa [Int.toNat_natCast] at h
namespace Col
def mnL (l : List Int) : Int := l.foldl min (l.headD 0)
def mxL (l : List Int) : Int := l.foldl max (l.headD 0)
theorem fmin_le : ∀ (l : List Int) (a : Int), l.foldl min a ≤ a ∧ ∀ x ∈ l, l.foldl min a ≤ x
 | [], a => ⟨Int.le_refl _, fun x h => by cases h⟩
 | y :: l, a => by
  obtain ⟨h1, h2⟩ := fmin_le l (min a y)
  refine ⟨by rw [List.foldl_cons]; omega, fun x hx => ?_⟩
  rw [List.foldl_cons]
  rcases List.mem_cons.1 hx with rfl | hx
  ·omega
  ·exact h2 x hx
theorem fmax_ge : ∀ (l : List Int) (a : Int), a ≤ l.foldl max a ∧ ∀ x ∈ l, x ≤ l.foldl max a
 | [], a => ⟨Int.le_refl _, fun x h => by cases h⟩
 | y :: l, a => by
  obtain ⟨h1, h2⟩ := fmax_ge l (max a y)
  refine ⟨by rw [List.foldl_cons]; omega, fun x hx => ?_⟩
  rw [List.foldl_cons]
  rcases List.mem_cons.1 hx with rfl | hx
  ·omega
  ·exact h2 x hx
theorem fmin_wf : ∀ (l : List Int) (a : Int), Wf64 a → (∀ x ∈ l, Wf64 x) → Wf64 (l.foldl min a)
 | [], a, h, _ => h
 | y :: l, a, h, hl => by
  rw [List.foldl_cons]
  refine fmin_wf l _ ?_ fun x hx => hl x (List.mem_cons_of_mem _ hx)
  have := hl y (List.mem_cons_self ..)
  unfold Wf64 at *; omega
theorem fmax_wf : ∀ (l : List Int) (a : Int), Wf64 a → (∀ x ∈ l, Wf64 x) → Wf64 (l.foldl max a)
 | [], a, h, _ => h
 | y :: l, a, h, hl => by
  rw [List.foldl_cons]
  refine fmax_wf l _ ?_ fun x hx => hl x (List.mem_cons_of_mem _ hx)
  have := hl y (List.mem_cons_self ..)
  unfold Wf64 at *; omega
theorem head_wf {l : List Int} (h : ∀ x ∈ l, Wf64 x) : Wf64 (l.headD 0) := by
 cases l with
 | nil => exact ⟨by simp, by simp⟩
 | cons x l => exact h x (List.mem_cons_self ..)
theorem mnL_wf {l : List Int} (h : ∀ x ∈ l, Wf64 x) : Wf64 (mnL l) := fmin_wf l _ (head_wf h) h
theorem mxL_wf {l : List Int} (h : ∀ x ∈ l, Wf64 x) : Wf64 (mxL l) := fmax_wf l _ (head_wf h) h
theorem fold_snoc (f : Int → Int → Int) (a : Int) (l : List Int) (k : Nat) (x : Int) (h : l[k]? = some x) : (l.take (k + 1)).foldl f a = f ((l.take k).foldl f a) x := by
 rw [List.take_add_one, h]; simp
theorem head_get {l : List Int} {x : Int} (h : l[0]? = some x) : l.headD 0 = x := by
 cases l with
 | nil => simp at h
 | cons y l => simpa using h
end Col
def MR (w : World) (l : List Int) (f : Int → Int → Int) (p q : Value) (wr : World) : Prop := ∃ (k : Nat), 1 ≤ k ∧ k ≤ l.length ∧ q = .int .i64 (k : Int) ∧ p = .int .i64 ((l.take k).foldl f (l.headD 0)) ∧ w = wr
set_option maxHeartbeats 1000000 in
theorem minI_any (b : Option Addr) (m c : Nat) (l : List Int) (hm : Hid (m = l.length)) (h0 : 0 < m) (hmc : m ≤ 1000000) (w : World) (HL : Hid (IsAt w b l)) :
  Calls Tryz.prog 147 #[.slice b m c] w fun e w' => e = .returned (.int .i64 (mnL l)) ∧ w = w' := by
 obtain ⟨x, hx⟩ : ∃ x, l[0]? = some x := ⟨l[0]'(by have := hm.out; omega), List.getElem?_eq_getElem _⟩
 obtain ⟨hwf, g, off, rfl, hc⟩ := int_cell HL.out 0 x hx
 rw [Nat.add_zero] at hc
 have HX := Lib.hid hx
 have HH := Lib.hid (head_get hx)
 clear hx hwf
 go_enter Tryz.func147, Tryz.ntmps147
 go_wp2
 go_loopw [3, 4] (fun p q wr => MR w l min p q wr) (fun _ q _ => m - (intOf q).toNat)
 case atStart => exact ⟨1, Nat.le_refl _, by have := hm.out; omega, rfl, by rw [fold_snoc min _ l 0 x HX.out, HH.out]; simp, rfl⟩
 case round =>
  obtain ⟨k, hk1, hkl, rfl, rfl, rfl⟩ := hrel
  have HK : Hid (k ≤ l.length) := Lib.hid hkl
  have hkm : k ≤ m := by have := hm.out; omega
  have HA : Hid (mnL l = (l.take m).foldl min (l.headD 0)) := Lib.hid (by rw [List.take_of_length_le (by have := hm.out; omega)]; rfl)
  by_cases hlt : k < m
  ·obtain ⟨y, hy⟩ : ∃ y, l[k]? = some y := ⟨l[k]'(by have := hm.out; omega), List.getElem?_eq_getElem _⟩
   have hcy : w.cell? ⟨g, off + k, none⟩ = some (.int .i64 y) := by
    obtain ⟨-, g', off', e, hcy⟩ := int_cell HL.out k y hy
    injection e with e; injection e with e1 e2; subst e1; subst e2
    exact hcy
   have HS := Lib.hid (fold_snoc min (l.headD 0) l k y hy)
   obtain ⟨z, hz⟩ : ∃ z, z = (l.take k).foldl min (l.headD 0) := ⟨_, rfl⟩
   rw [← hz] at HS ⊢
   clear hz hy hkl
   go_wp2
   go_roundw
   case rel => exact ⟨k + 1, by omega, by have := hm.out; omega, by go_num, by (first | (rw [HS.out]; done) | (rw [HS.out]; congr 1; split <;> omega)), rfl⟩
   case measure => simp [intOf]; omega
  ·obtain rfl : k = m := by omega
   clear hkl
   obtain ⟨z, hz⟩ : ∃ z, z = (l.take k).foldl min (l.headD 0) := ⟨_, rfl⟩
   rw [← hz] at HA ⊢
   clear hz
   go_wp2
   go_ret
   exact ⟨by rw [HA.out]; rfl, rfl⟩
set_option maxHeartbeats 1000000 in
theorem maxI_any (b : Option Addr) (m c : Nat) (l : List Int) (hm : Hid (m = l.length)) (h0 : 0 < m) (hmc : m ≤ 1000000) (w : World) (HL : Hid (IsAt w b l)) :
  Calls Tryz.prog 149 #[.slice b m c] w fun e w' => e = .returned (.int .i64 (mxL l)) ∧ w = w' := by
 obtain ⟨x, hx⟩ : ∃ x, l[0]? = some x := ⟨l[0]'(by have := hm.out; omega), List.getElem?_eq_getElem _⟩
 obtain ⟨hwf, g, off, rfl, hc⟩ := int_cell HL.out 0 x hx
 rw [Nat.add_zero] at hc
 have HX := Lib.hid hx
 have HH := Lib.hid (head_get hx)
 clear hx hwf
 go_enter Tryz.func149, Tryz.ntmps149
 go_wp2
 go_loopw [3, 4] (fun p q wr => MR w l max p q wr) (fun _ q _ => m - (intOf q).toNat)
 case atStart => exact ⟨1, Nat.le_refl _, by have := hm.out; omega, rfl, by rw [fold_snoc max _ l 0 x HX.out, HH.out]; simp, rfl⟩
 case round =>
  obtain ⟨k, hk1, hkl, rfl, rfl, rfl⟩ := hrel
  have HK : Hid (k ≤ l.length) := Lib.hid hkl
  have hkm : k ≤ m := by have := hm.out; omega
  have HA : Hid (mxL l = (l.take m).foldl max (l.headD 0)) := Lib.hid (by rw [List.take_of_length_le (by have := hm.out; omega)]; rfl)
  by_cases hlt : k < m
  ·obtain ⟨y, hy⟩ : ∃ y, l[k]? = some y := ⟨l[k]'(by have := hm.out; omega), List.getElem?_eq_getElem _⟩
   have hcy : w.cell? ⟨g, off + k, none⟩ = some (.int .i64 y) := by
    obtain ⟨-, g', off', e, hcy⟩ := int_cell HL.out k y hy
    injection e with e; injection e with e1 e2; subst e1; subst e2
    exact hcy
   have HS := Lib.hid (fold_snoc max (l.headD 0) l k y hy)
   obtain ⟨z, hz⟩ : ∃ z, z = (l.take k).foldl max (l.headD 0) := ⟨_, rfl⟩
   rw [← hz] at HS ⊢
   clear hz hy hkl
   go_wp2
   go_roundw
   case rel => exact ⟨k + 1, by omega, by have := hm.out; omega, by go_num, by (first | (rw [HS.out]; done) | (rw [HS.out]; congr 1; split <;> omega)), rfl⟩
   case measure => simp [intOf]; omega
  ·obtain rfl : k = m := by omega
   clear hkl
   obtain ⟨z, hz⟩ : ∃ z, z = (l.take k).foldl max (l.headD 0) := ⟨_, rfl⟩
   rw [← hz] at HA ⊢
   clear hz
   go_wp2
   go_ret
   exact ⟨by rw [HA.out]; rfl, rfl⟩
set_option maxHeartbeats 1000000 in
theorem byteCount_any (n : Nat) (hn : n < 1099511627776) (w : World) : Calls Tryz.prog 150 #[.int .i64 (n : Int)] w fun e w' => e = .returned (.int .i64 (((n + 7) / 8 : Nat) : Int)) ∧ w = w' := by
 obtain ⟨q, hq⟩ : ∃ q : Nat, q = (n + 7) / 8 := ⟨_, rfl⟩
 have hq2 : ((n : Int) + 7).tdiv 8 = (q : Int) := by rw [Int.tdiv_eq_ediv_of_nonneg (by omega)]; omega
 have hq3 : ((n : Int) + 7) / 8 = (q : Int) := by omega
 rw [← hq]
 have HQ := Lib.hid hq
 clear hq
 go_enter Tryz.func150, Tryz.ntmps150
 go_wp2
 go_ret
 exact ⟨rfl, rfl⟩
end Go.Proofs.YtjldamkmdkaiiaaGreatDoor
