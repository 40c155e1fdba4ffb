/-
  Layer column: the document's own As: packed in bits.
-/
import Derived.Test.YtifabkbdiiolfaaDoorRbK
set_option linter.unusedSimpArgs false
set_option linter.unusedVariables false
set_option maxRecDepth 20000
namespace Go.Proofs.YtifabkbdiiolfaaDoor
open Go.RowKit Go.WideShapes Col
namespace Col
theorem leb_snoc : ∀ (k V : Nat), leb (k + 1) V = leb k V ++ [V / 2 ^ (8 * k) % 256]
 | 0, V => by simp [leb]
 | k + 1, V => by
  rw [leb, leb_snoc k (V / 256), leb, List.cons_append, Nat.div_div_eq_div_mul, show 8 * (k + 1) = 8 + 8 * k by omega, Nat.pow_add]
theorem bit_at {V W i k d : Nat} (h : bitsAt V (i * W) W = d) (hk : k < W) : V / 2 ^ (i * W + k) % 2 = d / 2 ^ k % 2 := by
 subst h
 unfold bitsAt
 rw [Nat.pow_add, ← Nat.div_div_eq_div_mul]
 generalize V / 2 ^ (i * W) = X
 obtain ⟨j, rfl⟩ : ∃ j, W = k + (j + 1) := ⟨W - k - 1, by omega⟩
 rw [Nat.pow_add, Nat.mod_mul_right_div_self, Nat.pow_succ, Nat.mul_comm (2 ^ j) 2, Nat.mod_mul_right_mod]
theorem cur_step {V T j n cur bit : Nat} (hT : T = 8 * j + n) (hc : cur = V / 2 ^ (8 * j) % 2 ^ n) (hb : bit = V / 2 ^ T % 2) : cur + bit * 2 ^ n = V / 2 ^ (8 * j) % 2 ^ (n + 1) := by
 subst hc; subst hb; subst hT
 rw [Nat.pow_succ, Nat.mod_mul, Nat.pow_add, ← Nat.div_div_eq_div_mul, Nat.mul_comm (2 ^ n)]
theorem wid_of {l : List Int} {w : Nat} (h0 : 0 < l.length) (h1 : ∀ x ∈ l, dig (mnL l) x < 2 ^ w) (h2 : w = 0 ∨ ∃ x ∈ l, 2 ^ (w - 1) ≤ dig (mnL l) x) : w = wid l := by
 have hmem : ∀ (m : List Int) (a : Int), m.foldl max a = a ∨ m.foldl max a ∈ m := fun m => by
  induction m with
  | nil => intro a; exact .inl rfl
  | cons y m ih =>
   intro a
   rw [List.foldl_cons]
   rcases ih (max a y) with h | h
   ·rw [h]
    by_cases hay : a ≤ y
    ·right; rw [show max a y = y by omega]; exact List.mem_cons_self ..
    ·left; omega
   ·exact .inr (List.mem_cons_of_mem _ h)
 have hmx : mxL l ∈ l := by
  rcases l with _ | ⟨y, m⟩
  ·cases h0
  ·rcases hmem (y :: m) y with h | h
   ·unfold mxL; simp only [List.headD_cons]; rw [h]; exact List.mem_cons_self ..
   ·exact h
 have hD := h1 _ hmx
 have hs := bitLen_spec (mxL l - mnL l).toNat
 have e : (mxL l - mnL l).toNat = dig (mnL l) (mxL l) := rfl
 rw [e] at hs
 unfold wid; rw [e]
 generalize hDD : dig (mnL l) (mxL l) = D at *
 apply Nat.le_antisymm
 ·rcases h2 with h2 | ⟨x, hx, h2⟩
  ·omega
  ·by_cases hw : w = 0
   ·omega
   ·have h3 : dig (mnL l) x ≤ D := by rw [← hDD]; have := mx_ge hx; unfold dig; omega
    have h4 : 2 ^ (w - 1) < 2 ^ bitLen D := by have := hs.1; omega
    have := (Nat.pow_lt_pow_iff_right (by decide)).1 h4
    omega
 ·by_cases h0 : D = 0
  ·rw [h0]; simp [bitLen]
  ·have h4 : 2 ^ (bitLen D - 1) < 2 ^ w := by have := hs.2 h0; omega
   have := (Nat.pow_lt_pow_iff_right (by decide)).1 h4
   omega
end Col
def RQ1 (W : World) (l : List Int) (m : Nat) (u v : Value) (wr : World) : Prop := ∃ (k : Nat) (z : Int), k ≤ m ∧ v = .int .i64 (k : Int) ∧ u = .int .i64 z ∧ z = (l.take k).foldl min (l.headD 0) ∧ W = wr
def RQ2 (W : World) (l : List Int) (m : Nat) (u v : Value) (wr : World) : Prop := ∃ (k w : Nat), k ≤ m ∧ v = .int .i64 (k : Int) ∧ u = .int .i64 (w : Int) ∧ w ≤ 64 ∧ (∀ (i : Nat) (x : Int), i < k → l[i]? = some x → dig (mnL l) x < 2 ^ w) ∧ (w = 0 ∨ ∃ (i : Nat) (x : Int), i < k ∧ l[i]? = some x ∧ 2 ^ (w - 1) ≤ dig (mnL l) x) ∧ W = wr
/-- So many bits are told. -/
def RQ3 (W : World) (pre : List Nat) (V T top : Nat) (u c n : Value) (wr : World) : Prop := ∃ (j s cur : Nat), T = 8 * j + s ∧ s < 8 ∧ cur = V / 2 ^ (8 * j) % 2 ^ s ∧ c = .int .u8 (cur : Int) ∧ n = .int .i64 (s : Int) ∧ PB2 W u (pre ++ leb j V) (top + j) wr
set_option maxHeartbeats 4000000 in
theorem refAs3_any (b : Option Addr) (m c : Nat) (l : List Int) (hm : Hid (m = l.length)) (hmc : m ≤ c) (hc : c ≤ 9223372036854775807) (hm1 : m ≤ 5000) (W : World) (HL : Hid (IsAt W b l)) :
  Calls Tryd.prog 59 #[.int .u8 3, .slice b m c] W (Puts W.heap.size W (asL 3 l)) := by
 have hwfl := HL.out.wf
 have HWF := Lib.hid hwfl
 clear hwfl
 have hmw : IntKind.u64.wrap (m : Int) = (m : Int) := by rw [IntKind.wrap_u64]; omega
 have HU := Lib.hid (refU_any m (by omega))
 have HU10 := Lib.hid (ub10 (show m < 18446744073709551616 by omega))
 have HO0 : Hid (OwnS (W.alloc (.cells #[.int .u8 3] 5)) W.heap.size (some ⟨W.heap.size, 0, none⟩) 1 1 [3]) := Lib.hid (OwnS.of_row (cs := [.int .u8 3]) (heap_alloc_new' W _) rfl (by decide) rfl rfl (Nat.le_refl _) (fun x hx => by simp at hx; omega))
 have HB0 : Hid (Below W.heap.size W (W.alloc (.cells #[.int .u8 3] 5))) := Lib.hid ((Below.refl _ _).alloc (Nat.le_refl _) _)
 have HRES : Hid (asL 3 l = ([3] ++ ub m) ++ lpk l) := Lib.hid (by rw [hm.out]; rfl)
 go_enter Tryd.func59, Tryd.ntmps59
 go_upto_region 28 with (first
  | (go_at_call 17; refine (HU.out _).mono ?_; rintro e w2 hp; obtain ⟨A2, n2, c2, rfl, HO2, HB2, hn2⟩ := hp.at; have HN2 := Lib.hid hn2; have hn10 : n2 ≤ 10 := (by have := HU10.out; omega); have HO3 := Lib.hid (HO0.out.keep HB2.out); have HB3 := Lib.hid (below_to HB0.out HB2.out); clear hp hn2)
  | (refine wpList_append_by rfl (.tmp 22) (.tmp 26) rfl W.heap.size (some ⟨W.heap.size, 0, none⟩) 1 1 [3] rfl HO3.out A2 n2 c2 (ub m) rfl HN2.out HO2.out.byAt (by omega) HB3.out.size ?_; intro A4 c4 w4 ho4 hg4 hr4; have HO4 := Lib.hid ho4; have HB4 := Lib.hid (HB3.out.grown hg4 HB3.out.size HO3.out.base); have hn4 : 1 + n2 ≤ 20 := (by omega); clear ho4 hg4 hr4))
 obtain ⟨N4, hN4⟩ : ∃ N4, N4 = 1 + n2 := ⟨_, rfl⟩
 obtain ⟨pre, hpre⟩ : ∃ pre, pre = [3] ++ ub m := ⟨_, rfl⟩
 rw [← hN4] at HO4 hn4 ⊢
 rw [← hpre] at HO4 HRES
 clear hN4 hpre HO3 HB3 HO0 HB0 HO2 HB2 HU HN2 hn10
 by_cases h0 : m = 0
 ·have hl : l = [] := List.eq_nil_of_length_eq_zero (by have := hm.out; omega)
  have HR : Hid (asL 3 l = pre) := Lib.hid (by rw [HRES.out, hl, lpk_nil, List.append_nil])
  subst h0
  go_wp2
  go_ret
  exact ⟨A4, N4, c4, rfl, by rw [HR.out]; exact HO4.out, HB4.out, HB4.out.size⟩
 ·have hz0 : ((m : Int) == 0) = false := by rw [beq_eq_false_iff_ne]; omega
  have hm0 : (0 : Int) < (m : Int) := by omega
  obtain ⟨x0, hx0⟩ : ∃ x0, l[0]? = some x0 := ⟨l[0]'(by have := hm.out; omega), List.getElem?_eq_getElem _⟩
  obtain ⟨hwx0, g, off, rfl, hg, hc0⟩ := HL.out 0 x0 hx0
  have HG := Lib.hid hg
  have HCELL : Hid (∀ (wr : World), Below W.heap.size W wr → ∀ (i : Nat) (x : Int), l[i]? = some x → wr.cell? ⟨g, off + i, none⟩ = some (.int .i64 x)) := Lib.hid fun wr hb i x hx => by
   obtain ⟨-, g', off', e, hcz⟩ := int_cell (HL.out.keep hb) i x hx
   injection e with e; injection e with e1 e2; subst e1; subst e2
   exact hcz
  have hcx0 := HCELL.out w4 HB4.out 0 x0 hx0
  rw [Nat.add_zero] at hcx0
  have HH := Lib.hid (head_get hx0)
  have HX0 := Lib.hid hx0
  clear hx0 hwx0 hg hc0 h0
  go_wp2
  clear hcx0
  go_loopw [11, 12] (fun u v wr => RQ1 w4 l m u v wr) (fun _ v _ => m - (intOf v).toNat)
  case atStart => exact ⟨0, x0, Nat.zero_le _, rfl, rfl, HH.out.symm, rfl⟩
  case round =>
   obtain ⟨k, z, hk, rfl, rfl, hz, rfl⟩ := hrel
   have HZ0 := Lib.hid hz
   clear hz
   by_cases hlt : k < m
   ·obtain ⟨x, hx⟩ : ∃ x, l[k]? = some x := ⟨l[k]'(by have := hm.out; omega), List.getElem?_eq_getElem _⟩
    have hcx := HCELL.out w4 HB4.out k x hx
    have HSN := Lib.hid (fold_snoc min (l.headD 0) l k x hx)
    rw [← HZ0.out] at HSN
    clear hx
    by_cases hxz : x < z
    ·go_wp2
     go_roundw
     case rel => exact ⟨k + 1, x, by omega, by go_num, rfl, by rw [HSN.out]; omega, by trivial⟩
     case measure => simp [intOf]; omega
    ·go_wp2
     go_roundw
     case rel => exact ⟨k + 1, z, by omega, by go_num, rfl, by rw [HSN.out]; omega, by trivial⟩
     case measure => simp [intOf]; omega
   ·obtain rfl : k = m := by omega
    have HMN : Hid (z = mnL l) := Lib.hid (by rw [HZ0.out, List.take_of_length_le (by have := hm.out; omega)]; rfl)
    have HMW : Hid (Wf64 z) := Lib.hid (by rw [HMN.out]; exact mnL_wf HWF.out)
    have HDX : Hid (∀ (i : Nat) (x : Int), l[i]? = some x → IntKind.u64.wrap (wrap64 (x - z)) = ((dig z x : Nat) : Int) ∧ dig z x < 18446744073709551616) := Lib.hid fun i x hx => dig_u64 (by rw [HMN.out]; exact mn_le (List.mem_of_getElem? hx)) HMW.out (HWF.out x (List.mem_of_getElem? hx))
    clear HZ0
    go_wp2
    go_loopw [13, 14] (fun u v wr => RQ2 w4 l k u v wr) (fun _ v _ => k - (intOf v).toNat)
    case atStart => exact ⟨0, 0, Nat.zero_le _, rfl, rfl, by decide, fun i x h => by omega, .inl rfl, rfl⟩
    case round =>
     obtain ⟨i, w, hi, rfl, rfl, hw64, hall, hone, rfl⟩ := hrel
     have HALL := Lib.hid hall; have HONE := Lib.hid hone
     clear hall hone
     by_cases hlt2 : i < k
     ·obtain ⟨x, hx⟩ : ∃ x, l[i]? = some x := ⟨l[i]'(by have := hm.out; omega), List.getElem?_eq_getElem _⟩
      have hcx := HCELL.out w4 HB4.out i x hx
      obtain ⟨hd1, hd2⟩ := HDX.out i x hx
      obtain ⟨d, hd⟩ : ∃ d, d = dig z x := ⟨_, rfl⟩
      rw [← hd] at hd1 hd2
      have HD : Hid (dig (mnL l) x = d) := Lib.hid (by rw [← HMN.out, hd])
      have hsp := bitLen_spec d
      obtain ⟨b, hb⟩ : ∃ b, b = bitLen d := ⟨_, rfl⟩
      rw [← hb] at hsp
      have HSP := Lib.hid hsp
      have HD0 : Hid (0 < b → d ≠ 0) := Lib.hid fun h e => by rw [hb, e] at h; exact absurd h (by decide)
      have hb64 : b ≤ 64 := by
       by_cases h0 : d = 0
       ·rw [hb, h0]; decide
       ·have h5 : 2 ^ (b - 1) < 2 ^ 64 := by have := hsp.2 h0; omega
        have := (Nat.pow_lt_pow_iff_right (by decide)).1 h5
        omega
      have hWD := width_any d hd2
      rw [← hb] at hWD
      have HWD := Lib.hid hWD
      have HX := Lib.hid hx
      clear hx hd hb hWD hsp
      have HPW : Hid (∀ a c : Nat, a ≤ c → 2 ^ a ≤ 2 ^ c) := Lib.hid fun a c h => Nat.pow_le_pow_right (by decide) h
      by_cases hbw : w < b
      ·have hbwi : (w : Int) < (b : Int) := by omega
       have HA2 : Hid (∀ (i' : Nat) (x' : Int), i' < i + 1 → l[i']? = some x' → dig (mnL l) x' < 2 ^ b) := Lib.hid fun i' x' h1 h2 => by
        by_cases e : i' = i
        ·subst e; have := HX.out; rw [h2] at this; injection this with this; subst this; rw [HD.out]; exact HSP.out.1
        ·exact Nat.lt_of_lt_of_le (HALL.out i' x' (by omega) h2) (HPW.out _ _ (by omega))
       have HO2 : Hid (b = 0 ∨ ∃ (i' : Nat) (x' : Int), i' < i + 1 ∧ l[i']? = some x' ∧ 2 ^ (b - 1) ≤ dig (mnL l) x') := Lib.hid (.inr ⟨i, x, by omega, HX.out, by rw [HD.out]; exact HSP.out.2 (HD0.out (by omega))⟩)
       go_wp2_with (go_at_call 75; refine (HWD.out _).mono ?_; rintro e w5 ⟨rfl, rfl⟩)
       go_roundw
       case rel => exact ⟨i + 1, b, by omega, by go_num, rfl, hb64, HA2.out, HO2.out, by trivial⟩
       case measure => simp [intOf]; omega
      ·have hbwi : ¬ (w : Int) < (b : Int) := by omega
       have HA2 : Hid (∀ (i' : Nat) (x' : Int), i' < i + 1 → l[i']? = some x' → dig (mnL l) x' < 2 ^ w) := Lib.hid fun i' x' h1 h2 => by
        by_cases e : i' = i
        ·subst e; have := HX.out; rw [h2] at this; injection this with this; subst this; rw [HD.out]; exact Nat.lt_of_lt_of_le HSP.out.1 (HPW.out _ _ (by omega))
        ·exact HALL.out i' x' (by omega) h2
       have HO2 : Hid (w = 0 ∨ ∃ (i' : Nat) (x' : Int), i' < i + 1 ∧ l[i']? = some x' ∧ 2 ^ (w - 1) ≤ dig (mnL l) x') := Lib.hid (by
        rcases HONE.out with h | ⟨i', x', h1, h2, h3⟩
        ·exact .inl h
        ·exact .inr ⟨i', x', by omega, h2, h3⟩)
       go_wp2_with (go_at_call 75; refine (HWD.out _).mono ?_; rintro e w5 ⟨rfl, rfl⟩)
       go_roundw
       case rel => exact ⟨i + 1, w, by omega, by go_num, rfl, hw64, HA2.out, HO2.out, by trivial⟩
       case measure => simp [intOf]; omega
     ·obtain rfl : i = k := by omega
      have HWE : Hid (w = wid l) := Lib.hid (wid_of (by have := hm.out; omega) (fun x hx => by
       obtain ⟨j, hj⟩ := List.getElem?_of_mem hx
       exact HALL.out j x (by have := (List.getElem?_eq_some_iff.1 hj).1; have := hm.out; omega) hj) (by
       rcases HONE.out with h | ⟨i', x', h1, h2, h3⟩
       ·exact .inl h
       ·exact .inr ⟨x', List.mem_of_getElem? h2, h3⟩))
      clear HALL HONE
      obtain ⟨ds, hds⟩ : ∃ ds, ds = digs l := ⟨_, rfl⟩
      obtain ⟨V, hV⟩ : ∃ V, V = pk w ds := ⟨_, rfl⟩
      have HDS : Hid (∀ (j : Nat) (x : Int), l[j]? = some x → ds[j]? = some (dig z x)) := Lib.hid fun j x hx => by rw [hds]; unfold digs; rw [List.getElem?_map, hx, HMN.out]; rfl
      have HDL : Hid (∀ d ∈ ds, d < 2 ^ w) := Lib.hid (by rw [hds, HWE.out]; exact dig_lt)
      have HVL : Hid (V < 2 ^ (i * w)) := Lib.hid (by
       have h := pk_lt w ds HDL.out
       have e : ds.length = i := by rw [hds, hm.out]; exact List.length_map ..
       rw [e, Nat.mul_comm, ← hV] at h; exact h)
      have HPG : Hid (∀ (j d : Nat), ds[j]? = some d → bitsAt V (j * w) w = d) := Lib.hid fun j d hd => by rw [hV]; exact pk_get w ds j d hd HDL.out
      have HR3 : Hid (lpk l = ub (zz z) ++ ([w] ++ leb ((i * w + 7) / 8) V)) := Lib.hid (by rw [lpk_some (by have := hm.out; omega), hV, HWE.out, HMN.out, hds, hm.out])
      have HZ := Lib.hid (zz10 HMW.out)
      have hw8 : IntKind.u8.wrap (w : Int) = (w : Int) := by rw [IntKind.wrap_u8]; omega
      have hw256 : w < 256 := by omega
      clear hds hV HX0 HH
      go_wp2_with (first
       | (go_at_call 18; refine (refI_any z HMW _).mono ?_; rintro e w2 hp; obtain ⟨A2, n2, c2, rfl, HO2, HB2, hn2⟩ := hp.at; have HN2 := Lib.hid hn2; have hn10 : n2 ≤ 10 := (by have := HZ.out; omega); have HOP := Lib.hid (HO4.out.keep HB2.out); have HBP := Lib.hid (below_to HB4.out HB2.out); clear hp hn2)
       | (refine wpList_append_by rfl (.tmp 149) (.tmp 151) rfl W.heap.size A4 N4 c4 _ rfl HOP.out A2 n2 c2 (ub (zz z)) rfl HN2.out HO2.out.byAt (by omega) HBP.out.size ?_; intro A5 c5 w5 ho hg hr; have HO5 := Lib.hid ho; have HB5 := Lib.hid (HBP.out.grown hg HBP.out.size HOP.out.base); clear ho hg hr; have HO6 := Lib.hid (HO5.out.keep ((Below.refl _ _).alloc (Nat.le_refl _) (.cells #[.int .u8 (w : Int)] 5))); have HB6 := Lib.hid (below_to HB5.out ((Below.refl _ _).alloc (Nat.le_refl _) (.cells #[.int .u8 (w : Int)] 5))); have HWB := Lib.hid (by_one w5 w hw256))
       | (refine wpList_append_by rfl (.tmp 153) (.tmp 156) rfl W.heap.size A5 (N4 + n2) c5 _ rfl HO6.out (some ⟨w5.heap.size, 0, none⟩) 1 1 [w] rfl rfl HWB.out (by omega) HB6.out.size ?_; intro A7 c7 w7 ho hg hr; have HO7 := Lib.hid ho; have HB7 := Lib.hid (HB6.out.grown hg HB6.out.size HO6.out.base); clear ho hg hr))
      obtain ⟨top, htop⟩ : ∃ top, top = N4 + n2 + 1 := ⟨_, rfl⟩
      have htop40 : top ≤ 40 := by omega
      obtain ⟨pre2, hpre2⟩ : ∃ pre2, pre2 = pre ++ ub (zz z) ++ [w] := ⟨_, rfl⟩
      have HRES2 : Hid (asL 3 l = pre2 ++ leb ((i * w + 7) / 8) V) := Lib.hid (by rw [HRES.out, HR3.out, hpre2]; simp only [List.append_assoc])
      rw [← hpre2] at HO7
      have HST : Hid (RQ3 W pre2 V 0 top (.slice A7 (N4 + n2 + 1) c7) (.int .u8 0) (.int .i64 0) w7) := Lib.hid ⟨0, 0, 0, rfl, by decide, by simp [Nat.mod_one], rfl, rfl, A7, N4 + n2 + 1, c7, rfl, by omega, by simpa [leb] using HO7.out, HB7.out⟩
      clear HO4 HB4 HOP HBP HO5 HB5 HO6 HB6 HO7 HWB htop hpre2 HRES HR3 HO2 HB2 HN2 hn10
      go_loopw [5, 16, 17, 18] (fun u c n v wr => ∃ q : Nat, q ≤ i ∧ v = .int .i64 (q : Int) ∧ RQ3 W pre2 V (q * w) top u c n wr) (fun _ _ _ v _ => i - (intOf v).toNat)
      case atStart => exact ⟨0, Nat.zero_le _, rfl, by rw [Nat.zero_mul]; exact HST.out⟩
      case round =>
       obtain ⟨q, hq, rfl, hrq⟩ := hrel
       have HRQ := Lib.hid hrq
       clear hrq HST
       by_cases hqi : q < i
       ·obtain ⟨x, hx⟩ : ∃ x, l[q]? = some x := ⟨l[q]'(by have := hm.out; omega), List.getElem?_eq_getElem _⟩
        obtain ⟨hd1, hd2⟩ := HDX.out q x hx
        have HXQ := Lib.hid hx
        have HDQ := Lib.hid (HPG.out q _ (HDS.out q x hx))
        obtain ⟨d, hd⟩ : ∃ d, d = dig z x := ⟨_, rfl⟩
        rw [← hd] at hd1 hd2 HDQ
        clear hx hd
        obtain ⟨T0, hT0⟩ : ∃ T0, T0 = q * w := ⟨_, rfl⟩
        have hT0b : T0 + w ≤ 320000 := by
         have : (q + 1) * w ≤ 5000 * 64 := Nat.mul_le_mul (by omega) hw64
         rw [Nat.add_mul, Nat.one_mul] at this; omega
        rw [← hT0] at HRQ
        have HT0 := Lib.hid hT0
        clear hT0
        go_wp2
        go_loopw [5, 16, 17, 19] (fun u c n v wr => ∃ t : Nat, t ≤ w ∧ v = .int .i64 (t : Int) ∧ RQ3 W pre2 V (T0 + t) top u c n wr) (fun _ _ _ v _ => w - (intOf v).toNat)
        case atStart => exact ⟨0, Nat.zero_le _, rfl, HRQ.out⟩
        case round =>
         obtain ⟨t, ht, rfl, j, s, cur, hT, hs8, hcur, rfl, rfl, A, n, cap, rfl, hn, ho, hb⟩ := hrel
         have HO := Lib.hid ho; have HB := Lib.hid hb; have HT := Lib.hid hT; have HCU := Lib.hid hcur
         have hjb : j ≤ 40000 := by omega
         clear ho hb hT hcur HRQ
         by_cases htw : t < w
         ·have hcx := HCELL.out wr HB.out q x HXQ.out
          obtain ⟨y, hy⟩ : ∃ y, y = d / 2 ^ t := ⟨_, rfl⟩
          have hshr : (d : Int) / 2 ^ t = (y : Int) := by rw [hy, Int.natCast_ediv, Int.natCast_pow]; rfl
          obtain ⟨bit, hbit⟩ : ∃ bit, bit = y % 2 := ⟨_, rfl⟩
          have hbi : (y : Int) % 2 = (bit : Int) := by omega
          have hbi2 : (y : Int).tmod 2 = (bit : Int) := by rw [Int.tmod_eq_emod_of_nonneg (by omega)]; exact hbi
          have hb2 : bit < 2 := by omega
          have hbw : IntKind.u8.wrap (bit : Int) = (bit : Int) := by rw [IntKind.wrap_u8]; omega
          have HBIT : Hid (bit = V / 2 ^ (T0 + t) % 2) := Lib.hid (by rw [HT0.out, bit_at HDQ.out htw, ← hy, hbit])
          obtain ⟨qq, hqq⟩ : ∃ qq, qq = bit * 2 ^ s := ⟨_, rfl⟩
          have hps : 2 ^ s ≤ 128 := by
           have : 2 ^ s ≤ 2 ^ 7 := Nat.pow_le_pow_right (by decide) (by omega)
           exact this
          have hqb : qq ≤ 128 := by
           rw [hqq]
           have : bit * 2 ^ s ≤ 1 * 2 ^ s := Nat.mul_le_mul_right _ (by omega)
           omega
          have hqi2 : IntKind.u8.wrap ((bit : Int) * 2 ^ s) = (qq : Int) := by
           have e : (bit : Int) * 2 ^ s = (qq : Int) := by rw [hqq, Int.natCast_mul, Int.natCast_pow]; rfl
           rw [e, IntKind.wrap_u8]; omega
          obtain ⟨cur2, hcur2⟩ : ∃ cur2, cur2 = cur + qq := ⟨_, rfl⟩
          have HC2 : Hid (cur2 = V / 2 ^ (8 * j) % 2 ^ (s + 1)) := Lib.hid (by rw [hcur2, hqq]; exact cur_step HT.out HCU.out HBIT.out)
          have hc256 : cur2 < 256 := by
           rw [HC2.out]
           refine Nat.lt_of_lt_of_le (Nat.mod_lt _ (Nat.two_pow_pos _)) ?_
           have : 2 ^ (s + 1) ≤ 2 ^ 8 := Nat.pow_le_pow_right (by decide) (by omega)
           exact this
          have hci : (cur : Int) + (qq : Int) = (cur2 : Int) := by omega
          have ht64 : (t : Int) < 64 := by omega
          have hs64 : (s : Int) < 8 := by omega
          have hcu : cur < 256 := by omega
          clear hy hbit hqq hcur2 hps
          by_cases h7 : s = 7
          ·have h8 : ((s : Int) + 1 == 8) = true := by rw [beq_iff_eq]; omega
           have H7 := Lib.hid h7
           have HX8 := Lib.hid (by_one wr cur2 hc256)
           have HBA := Lib.hid ((Below.refl wr.heap.size wr).alloc (Nat.le_refl _) (.cells #[.int .u8 (cur2 : Int)] 5))
           have HOA := Lib.hid (HO.out.keep HBA.out)
           have HBB := Lib.hid (below_to HB.out HBA.out)
           have HLB : Hid (pre2 ++ leb j V ++ [cur2] = pre2 ++ leb (j + 1) V) := Lib.hid (by rw [leb_snoc, HC2.out, H7.out, List.append_assoc])
           clear h7
           go_wp2_with (refine wpList_append_by rfl (.tmp 188) (.tmp 190) rfl W.heap.size A n cap _ rfl HOA.out (some ⟨wr.heap.size, 0, none⟩) 1 1 [cur2] rfl rfl HX8.out (by omega) HBB.out.size ?_; intro A9 c9 w9 ho hg hr; have HO9 := Lib.hid ho; have HB9 := Lib.hid (HBB.out.grown hg HBB.out.size HOA.out.base); clear ho hg hr)
           go_roundw
           case rel => exact ⟨t + 1, by omega, by go_num, j + 1, 0, 0, by have := HT.out; have := H7.out; omega, by decide, by simp [Nat.mod_one], rfl, rfl, A9, _, c9, rfl, by omega, by rw [← HLB.out]; exact HO9.out, HB9.out⟩
           case measure => simp [intOf]; omega
          ·have h8 : ((s : Int) + 1 == 8) = false := by rw [beq_eq_false_iff_ne]; omega
           have hs7 : s + 1 < 8 := by omega
           clear h7
           go_wp2
           go_roundw
           case rel => exact ⟨t + 1, by omega, by go_num, j, s + 1, cur2, by have := HT.out; omega, hs7, HC2.out, rfl, by go_num, A, n, cap, rfl, hn, HO.out, HB.out⟩
           case measure => simp [intOf]; omega
         ·obtain rfl : t = w := by omega
          go_wp2
          go_roundw
          case rel => exact ⟨q + 1, by omega, by go_num, j, s, cur, by rw [Nat.add_mul, Nat.one_mul, ← HT0.out]; exact HT.out, hs8, HCU.out, rfl, rfl, A, n, cap, rfl, hn, HO.out, HB.out⟩
          case measure => simp [intOf]; omega
       ·obtain rfl : q = i := by omega
        obtain ⟨j, s, cur, hT, hs8, hcur, rfl, rfl, A, n, cap, rfl, hn, ho, hb⟩ := HRQ.out
        have HO := Lib.hid ho; have HB := Lib.hid hb
        have hjb : j ≤ 40000 := by
         have : q * w ≤ 5000 * 64 := Nat.mul_le_mul (by omega) hw64
         omega
        by_cases hs0 : s = 0
        ·have HE : Hid (asL 3 l = pre2 ++ leb j V) := Lib.hid (by rw [HRES2.out, show (q * w + 7) / 8 = j by omega])
         subst hs0
         clear ho hb hT hcur
         go_wp2
         go_ret
         exact ⟨A, n, cap, rfl, by rw [HE.out]; exact HO.out, HB.out, HB.out.size⟩
        ·have HE : Hid (asL 3 l = pre2 ++ leb j V ++ [cur]) := Lib.hid (by
          have h1 : V / 2 ^ (8 * j) < 2 ^ s := by rw [Nat.div_lt_iff_lt_mul (Nat.two_pow_pos _), ← Nat.pow_add, Nat.add_comm, ← hT]; exact HVL.out
          have h2 : 2 ^ s ≤ 2 ^ 8 := Nat.pow_le_pow_right (by decide) (by omega)
          have h3 : cur = V / 2 ^ (8 * j) % 256 := by rw [hcur, Nat.mod_eq_of_lt h1, Nat.mod_eq_of_lt (Nat.lt_of_lt_of_le h1 h2)]
          rw [HRES2.out, show (q * w + 7) / 8 = j + 1 by omega, leb_snoc, ← h3, List.append_assoc])
         have hc256 : cur < 256 := by
          rw [hcur]
          refine Nat.lt_of_lt_of_le (Nat.mod_lt _ (Nat.two_pow_pos _)) ?_
          have : 2 ^ s ≤ 2 ^ 8 := Nat.pow_le_pow_right (by decide) (by omega)
          exact this
         have hs0i : (0 : Int) < (s : Int) := by omega
         have HX8 := Lib.hid (by_one wr cur hc256)
         have HBA := Lib.hid ((Below.refl wr.heap.size wr).alloc (Nat.le_refl _) (.cells #[.int .u8 (cur : Int)] 5))
         have HOA := Lib.hid (HO.out.keep HBA.out)
         have HBB := Lib.hid (below_to HB.out HBA.out)
         clear ho hb hT hcur hs0
         go_wp2_with (refine wpList_append_by rfl (.tmp 194) (.tmp 196) rfl W.heap.size A n cap _ rfl HOA.out (some ⟨wr.heap.size, 0, none⟩) 1 1 [cur] rfl rfl HX8.out (by omega) HBB.out.size ?_; intro A9 c9 w9 ho hg hr; have HO9 := Lib.hid ho; have HB9 := Lib.hid (HBB.out.grown hg HBB.out.size HOA.out.base); clear ho hg hr)
         go_ret
         exact ⟨A9, _, c9, rfl, by rw [HE.out]; exact HO9.out, HB9.out, HB9.out.size⟩
end Go.Proofs.YtifabkbdiiolfaaDoor
