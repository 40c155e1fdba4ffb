/-
  Layer column: the document's own As: packed in bits.
-/
import Derived.Test.YtpobfgokikfmbaaGreatDoorQPbak4
import Derived.Test.YtpobfgokikfmbaaGreatDoorQPbak0
set_option linter.unusedSimpArgs false
set_option linter.unusedVariables false
set_option maxRecDepth 20000
namespace Go.Proofs.YtpobfgokikfmbaaGreatDoor
open Go.RowKit Go.WideShapes Col
namespace Col
theorem leb_snoc : ∀ (k V : Nat), leb (k + 1) V = leb k V ++ [V / 2 ^ (8 * k) % 256]
  | 0, V => by simp [leb]
  | k + 1, V => by
    rw [leb, leb_snoc k (V / 256), leb, List.cons_append, Nat.div_div_eq_div_mul, show 8 * (k + 1) = 8 + 8 * k by omega, Nat.pow_add]
theorem bit_at {V W i k d : Nat} (h : bitsAt V (i * W) W = d) (hk : k < W) : V / 2 ^ (i * W + k) % 2 = d / 2 ^ k % 2 := by
  subst h
  unfold bitsAt
  rw [Nat.pow_add, ← Nat.div_div_eq_div_mul]
  generalize V / 2 ^ (i * W) = X
  obtain ⟨j, rfl⟩ : ∃ j, W = k + (j + 1) := ⟨W - k - 1, by omega⟩
  rw [Nat.pow_add, Nat.mod_mul_right_div_self, Nat.pow_succ, Nat.mul_comm (2 ^ j) 2, Nat.mod_mul_right_mod]
theorem cur_step {V T j n cur bit : Nat} (hT : T = 8 * j + n) (hc : cur = V / 2 ^ (8 * j) % 2 ^ n) (hb : bit = V / 2 ^ T % 2) : cur + bit * 2 ^ n = V / 2 ^ (8 * j) % 2 ^ (n + 1) := by
  subst hc; subst hb; subst hT
  rw [Nat.pow_succ, Nat.mod_mul, Nat.pow_add, ← Nat.div_div_eq_div_mul, Nat.mul_comm (2 ^ n)]
theorem wid_of {l : List Int} {w : Nat} (h0 : 0 < l.length) (h1 : ∀ x ∈ l, dig (mnL l) x < 2 ^ w) (h2 : w = 0 ∨ ∃ x ∈ l, 2 ^ (w - 1) ≤ dig (mnL l) x) : w = wid l := by
  have hmem : ∀ (m : List Int) (a : Int), m.foldl max a = a ∨ m.foldl max a ∈ m := fun m => by
    induction m with
    | nil => intro a; exact .inl rfl
    | cons y m ih =>
      intro a
      rw [List.foldl_cons]
      rcases ih (max a y) with h | h
      · rw [h]
        by_cases hay : a ≤ y
        · right; rw [show max a y = y by omega]; exact List.mem_cons_self ..
        · left; omega
      · exact .inr (List.mem_cons_of_mem _ h)
  have hmx : mxL l ∈ l := by
    rcases l with _ | ⟨y, m⟩
    · cases h0
    · rcases hmem (y :: m) y with h | h
      · unfold mxL; simp only [List.headD_cons]; rw [h]; exact List.mem_cons_self ..
      · exact h
  have hD := h1 _ hmx
  have hs := bitLen_spec (mxL l - mnL l).toNat
  have e : (mxL l - mnL l).toNat = dig (mnL l) (mxL l) := rfl
  rw [e] at hs
  unfold wid; rw [e]
  generalize hDD : dig (mnL l) (mxL l) = D at *
  apply Nat.le_antisymm
  · rcases h2 with h2 | ⟨x, hx, h2⟩
    · omega
    · by_cases hw : w = 0
      · omega
      · have h3 : dig (mnL l) x ≤ D := by rw [← hDD]; have := mx_ge hx; unfold dig; omega
        have h4 : 2 ^ (w - 1) < 2 ^ bitLen D := by have := hs.1; omega
        have := (Nat.pow_lt_pow_iff_right (by decide)).1 h4
        omega
  · by_cases h0 : D = 0
    · rw [h0]; simp [bitLen]
    · have h4 : 2 ^ (bitLen D - 1) < 2 ^ w := by have := hs.2 h0; omega
      have := (Nat.pow_lt_pow_iff_right (by decide)).1 h4
      omega
end Col
def RQ1 (W : World) (l : List Int) (m : Nat) (u v : Value) (wr : World) : Prop := ∃ (k : Nat) (z : Int), k ≤ m ∧ v = .int .i64 (k : Int) ∧ u = .int .i64 z ∧ z = (l.take k).foldl min (l.headD 0) ∧ W = wr
def RQ2 (W : World) (l : List Int) (m : Nat) (u v : Value) (wr : World) : Prop := ∃ (k w : Nat), k ≤ m ∧ v = .int .i64 (k : Int) ∧ u = .int .i64 (w : Int) ∧ w ≤ 64 ∧ (∀ (i : Nat) (x : Int), i < k → l[i]? = some x → dig (mnL l) x < 2 ^ w) ∧ (w = 0 ∨ ∃ (i : Nat) (x : Int), i < k ∧ l[i]? = some x ∧ 2 ^ (w - 1) ≤ dig (mnL l) x) ∧ W = wr
/-- So many bits are told. -/
def RQ3 (W : World) (pre : List Nat) (V T top : Nat) (u c n : Value) (wr : World) : Prop := ∃ (j s cur : Nat), T = 8 * j + s ∧ s < 8 ∧ cur = V / 2 ^ (8 * j) % 2 ^ s ∧ c = .int .u8 (cur : Int) ∧ n = .int .i64 (s : Int) ∧ PB2 W u (pre ++ leb j V) (top + j) wr
set_option maxHeartbeats 4000000 in
theorem refAs3_any (b : Option Addr) (m c : Nat) (l : List Int) (hm : Hid (m = l.length)) (hmc : m ≤ c) (hc : c ≤ 9223372036854775807) (hm1 : m ≤ 5000) (W : World) (HL : Hid (IsAt W b l)) :
    Calls Tryz.prog 54 #[.int .u8 3, .slice b m c] W (Puts W.heap.size W (asL 3 l)) := by
  have hwfl := HL.out.wf
  have HWF := Lib.hid hwfl
  clear hwfl
  have hmw : IntKind.u64.wrap (m : Int) = (m : Int) := by rw [IntKind.wrap_u64]; omega
  have HU := Lib.hid (refU_any m (by omega))
  have HU10 := Lib.hid (ub10 (show m < 18446744073709551616 by omega))
  have HO0 : Hid (OwnS (W.alloc (.cells #[.int .u8 3] 5)) W.heap.size (some ⟨W.heap.size, 0, none⟩) 1 1 [3]) := Lib.hid (OwnS.of_row (cs := [.int .u8 3]) (heap_alloc_new' W _) rfl (by decide) rfl rfl (Nat.le_refl _) (fun x hx => by simp at hx; omega))
  have HB0 : Hid (Below W.heap.size W (W.alloc (.cells #[.int .u8 3] 5))) := Lib.hid ((Below.refl _ _).alloc (Nat.le_refl _) _)
  have HRES : Hid (asL 3 l = ([3] ++ ub m) ++ lpk l) := Lib.hid (by rw [hm.out]; rfl)
  go_enter Tryz.func54, Tryz.ntmps54
  go_upto_region 28 with (first
    | (go_at_call 53; refine (HU.out _).mono ?_; rintro e w2 hp; obtain ⟨A2, n2, c2, rfl, HO2, HB2, hn2⟩ := hp.at; have HN2 := Lib.hid hn2; have hn10 : n2 ≤ 10 := (by have := HU10.out; omega); have HO3 := Lib.hid (HO0.out.keep HB2.out); have HB3 := Lib.hid (below_to HB0.out HB2.out); clear hp hn2)
    | (refine wpList_append_by rfl (.tmp 22) (.tmp 26) rfl W.heap.size (some ⟨W.heap.size, 0, none⟩) 1 1 [3] rfl HO3.out A2 n2 c2 (ub m) rfl HN2.out HO2.out.byAt (by omega) HB3.out.size ?_; intro A4 c4 w4 ho4 hg4 hr4; have HO4 := Lib.hid ho4; have HB4 := Lib.hid (HB3.out.grown hg4 HB3.out.size HO3.out.base); have hn4 : 1 + n2 ≤ 20 := (by omega); clear ho4 hg4 hr4))
  obtain ⟨N4, hN4⟩ : ∃ N4, N4 = 1 + n2 := ⟨_, rfl⟩
  obtain ⟨pre, hpre⟩ : ∃ pre, pre = [3] ++ ub m := ⟨_, rfl⟩
  rw [← hN4] at HO4 hn4 ⊢
  rw [← hpre] at HO4 HRES
  clear hN4 hpre HO3 HB3 HO0 HB0 HO2 HB2 HU HN2 hn10
  by_cases h0 : m = 0
  · have hl : l = [] := List.eq_nil_of_length_eq_zero (by have := hm.out; omega)
    have HR : Hid (asL 3 l = pre) := Lib.hid (by rw [HRES.out, hl, lpk_nil, List.append_nil])
    subst h0
    go_wp2
    go_ret
    exact ⟨A4, N4, c4, rfl, by rw [HR.out]; exact HO4.out, HB4.out, HB4.out.size⟩
  · have hz0 : ((m : Int) == 0) = false := by rw [beq_eq_false_iff_ne]; omega
    have hm0 : (0 : Int) < (m : Int) := by omega
    obtain ⟨x0, hx0⟩ : ∃ x0, l[0]? = some x0 := ⟨l[0]'(by have := hm.out; omega), List.getElem?_eq_getElem _⟩
    obtain ⟨hwx0, g, off, rfl, hg, hc0⟩ := HL.out 0 x0 hx0
    have HG := Lib.hid hg
    have HCELL : Hid (∀ (wr : World), Below W.heap.size W wr → ∀ (i : Nat) (x : Int), l[i]? = some x → wr.cell? ⟨g, off + i, none⟩ = some (.int .i64 x)) := Lib.hid fun wr hb i x hx => by
      obtain ⟨-, g', off', e, hcz⟩ := int_cell (HL.out.keep hb) i x hx
      injection e with e; injection e with e1 e2; subst e1; subst e2
      exact hcz
    have hcx0 := HCELL.out w4 HB4.out 0 x0 hx0
    rw [Nat.add_zero] at hcx0
    have HH := Lib.hid (head_get hx0)
    have HX0 := Lib.hid hx0
    clear hx0 hwx0 hg hc0 h0
    go_wp2
    clear hcx0
    go_loopw [11, 12] (fun u v wr => RQ1 w4 l m u v wr) (fun _ v _ => m - (intOf v).toNat)
    case atStart => exact ⟨0, x0, Nat.zero_le _, rfl, rfl, HH.out.symm, rfl⟩
    case round =>
      obtain ⟨k, z, hk, rfl, rfl, hz, rfl⟩ := hrel
      have HZ0 := Lib.hid hz
      clear hz
      by_cases hlt : k < m
      · obtain ⟨x, hx⟩ : ∃ x, l[k]? = some x := ⟨l[k]'(by have := hm.out; omega), List.getElem?_eq_getElem _⟩
        have hcx := HCELL.out w4 HB4.out k x hx
        have HSN := Lib.hid (fold_snoc min (l.headD 0) l k x hx)
        rw [← HZ0.out] at HSN
        clear hx
        by_cases hxz : x < z
        · go_wp2
          go_roundw
          case rel => exact ⟨k + 1, x, by omega, by go_num, rfl, by rw [HSN.out]; omega, by trivial⟩
          case measure => simp [intOf]; omega
        · go_wp2
          go_roundw
          case rel => exact ⟨k + 1, z, by omega, by go_num, rfl, by rw [HSN.out]; omega, by trivial⟩
          case measure => simp [intOf]; omega
      · obtain rfl : k = m := by omega
        have HMN : Hid (z = mnL l) := Lib.hid (by rw [HZ0.out, List.take_of_length_le (by have := hm.out; omega)]; rfl)
        have HMW : Hid (Wf64 z) := Lib.hid (by rw [HMN.out]; exact mnL_wf HWF.out)
        have HDX : Hid (∀ (i : Nat) (x : Int), l[i]? = some x → IntKind.u64.wrap (wrap64 (x - z)) = ((dig z x : Nat) : Int) ∧ dig z x < 18446744073709551616) := Lib.hid fun i x hx => dig_u64 (by rw [HMN.out]; exact mn_le (List.mem_of_getElem? hx)) HMW.out (HWF.out x (List.mem_of_getElem? hx))
        clear HZ0
        go_wp2
        go_loopw [13, 14] (fun u v wr => RQ2 w4 l k u v wr) (fun _ v _ => k - (intOf v).toNat)
        case atStart => exact ⟨0, 0, Nat.zero_le _, rfl, rfl, by decide, fun i x h => by omega, .inl rfl, rfl⟩
        case round =>
          obtain ⟨i, w, hi, rfl, rfl, hw64, hall, hone, rfl⟩ := hrel
          have HALL := Lib.hid hall; have HONE := Lib.hid hone
          clear hall hone
          by_cases hlt2 : i < k
          · obtain ⟨x, hx⟩ : ∃ x, l[i]? = some x := ⟨l[i]'(by have := hm.out; omega), List.getElem?_eq_getElem _⟩
            have hcx := HCELL.out w4 HB4.out i x hx
            obtain ⟨hd1, hd2⟩ := HDX.out i x hx
            obtain ⟨d, hd⟩ : ∃ d, d = dig z x := ⟨_, rfl⟩
            rw [← hd] at hd1 hd2
            have HD : Hid (dig (mnL l) x = d) := Lib.hid (by rw [← HMN.out, hd])
            have hsp := bitLen_spec d
            obtain ⟨b, hb⟩ : ∃ b, b = bitLen d := ⟨_, rfl⟩
            rw [← hb] at hsp
            have HSP := Lib.hid hsp
            have HD0 : Hid (0 < b → d ≠ 0) := Lib.hid fun h e => by rw [hb, e] at h; exact absurd h (by decide)
            have hb64 : b ≤ 64 := by
              by_cases h0 : d = 0
              · rw [hb, h0]; decide
              · have h5 : 2 ^ (b - 1) < 2 ^ 64 := by have := hsp.2 h0; omega
                have := (Nat.pow_lt_pow_iff_right (by decide)).1 h5
                omega
            have hWD := width_any d hd2
            rw [← hb] at hWD
            have HWD := Lib.hid hWD
            have HX := Lib.hid hx
            clear hx hd hb hWD hsp
            have HPW : Hid (∀ a c : Nat, a ≤ c → 2 ^ a ≤ 2 ^ c) := Lib.hid fun a c h => Nat.pow_le_pow_right (by decide) h
            by_cases hbw : w < b
            · have hbwi : (w : Int) < (b : Int) := by omega
              have HA2 : Hid (∀ (i' : Nat) (x' : Int), i' < i + 1 → l[i']? = some x' → dig (mnL l) x' < 2 ^ b) := Lib.hid fun i' x' h1 h2 => by
                by_cases e : i' = i
                · subst e; have := HX.out; rw [h2] at this; injection this with this; subst this; rw [HD.out]; exact HSP.out.1
                · exact Nat.lt_of_lt_of_le (HALL.out i' x' (by omega) h2) (HPW.out _ _ (by omega))
              have HO2 : Hid (b = 0 ∨ ∃ (i' : Nat) (x' : Int), i' < i + 1 ∧ l[i']? = some x' ∧ 2 ^ (b - 1) ≤ dig (mnL l) x') := Lib.hid (.inr ⟨i, x, by omega, HX.out, by rw [HD.out]; exact HSP.out.2 (HD0.out (by omega))⟩)
              go_wp2_with (go_at_call 83; refine (HWD.out _).mono ?_; rintro e w5 ⟨rfl, rfl⟩)
              go_roundw
              case rel => exact ⟨i + 1, b, by omega, by go_num, rfl, hb64, HA2.out, HO2.out, by trivial⟩
              case measure => simp [intOf]; omega
            · have hbwi : ¬ (w : Int) < (b : Int) := by omega
              have HA2 : Hid (∀ (i' : Nat) (x' : Int), i' < i + 1 → l[i']? = some x' → dig (mnL l) x' < 2 ^ w) := Lib.hid fun i' x' h1 h2 => by
                by_cases e : i' = i
                · subst e; have := HX.out; rw [h2] at this; injection this with this; subst this; rw [HD.out]; exact Nat.lt_of_lt_of_le HSP.out.1 (HPW.out _ _ (by omega))
                · exact HALL.out i' x' (by omega) h2
              have HO2 : Hid (w = 0 ∨ ∃ (i' : Nat) (x' : Int), i' < i + 1 ∧ l[i']? = some x' ∧ 2 ^ (w - 1) ≤ dig (mnL l) x') := Lib.hid (by
                rcases HONE.out with h | ⟨i', x', h1, h2, h3⟩
                · exact .inl h
                · exact .inr ⟨i', x', by omega, h2, h3⟩)
              go_wp2_with (go_at_call 83; refine (HWD.out _).mono ?_; rintro e w5 ⟨rfl, rfl⟩)
              go_roundw
              case rel => exact ⟨i + 1, w, by omega, by go_num, rfl, hw64, HA2.out, HO2.out, by trivial⟩
              case measure => simp [intOf]; omega
          · obtain rfl : i = k := by omega
            have HWE : Hid (w = wid l) := Lib.hid (wid_of (by have := hm.out; omega) (fun x hx => by
              obtain ⟨j, hj⟩ := List.getElem?_of_mem hx
              exact HALL.out j x (by have := (List.getElem?_eq_some_iff.1 hj).1; have := hm.out; omega) hj) (by
              rcases HONE.out with h | ⟨i', x', h1, h2, h3⟩
              · exact .inl h
              · exact .inr ⟨x', List.mem_of_getElem? h2, h3⟩))
            clear HALL HONE
            obtain ⟨ds, hds⟩ : ∃ ds, ds = digs l := ⟨_, rfl⟩
            obtain ⟨V, hV⟩ : ∃ V, V = pk w ds := ⟨_, rfl⟩
            have HDS : Hid (∀ (j : Nat) (x : Int), l[j]? = some x → ds[j]? = some (dig z x)) := Lib.hid fun j x hx => by rw [hds]; unfold digs; rw [List.getElem?_map, hx, HMN.out]; rfl
            have HDL : Hid (∀ d ∈ ds, d < 2 ^ w) := Lib.hid (by rw [hds, HWE.out]; exact dig_lt)
            have HVL : Hid (V < 2 ^ (i * w)) := Lib.hid (by
              have h := pk_lt w ds HDL.out
              have e : ds.length = i := by rw [hds, hm.out]; exact List.length_map ..
              rw [e, Nat.mul_comm, ← hV] at h; exact h)
            have HPG : Hid (∀ (j d : Nat), ds[j]? = some d → bitsAt V (j * w) w = d) := Lib.hid fun j d hd => by rw [hV]; exact pk_get w ds j d hd HDL.out
            have HR3 : Hid (lpk l = ub (zz z) ++ ([w] ++ leb ((i * w + 7) / 8) V)) := Lib.hid (by rw [lpk_some (by have := hm.out; omega), hV, HWE.out, HMN.out, hds, hm.out])
            have HZ := Lib.hid (zz10 HMW.out)
            have hw8 : IntKind.u8.wrap (w : Int) = (w : Int) := by rw [IntKind.wrap_u8]; omega
            have hw256 : w < 256 := by omega
            clear hds hV HX0 HH
            go_wp2_with (first
              | (go_at_call 82; refine (refI_any z HMW _).mono ?_; rintro e w2 hp; obtain ⟨A2, n2, c2, rfl, HO2, HB2, hn2⟩ := hp.at; have HN2 := Lib.hid hn2; have hn10 : n2 ≤ 10 := (by have := HZ.out; omega); have HOP := Lib.hid (HO4.out.keep HB2.out); have HBP := Lib.hid (below_to HB4.out HB2.out); clear hp hn2)
              | (refine wpList_append_by rfl (.tmp 149) (.tmp 151) rfl W.heap.size A4 N4 c4 _ rfl HOP.out A2 n2 c2 (ub (zz z)) rfl HN2.out HO2.out.byAt (by omega) HBP.out.size ?_; intro A5 c5 w5 ho hg hr; have HO5 := Lib.hid ho; have HB5 := Lib.hid (HBP.out.grown hg HBP.out.size HOP.out.base); clear ho hg hr; have HO6 := Lib.hid (HO5.out.keep ((Below.refl _ _).alloc (Nat.le_refl _) (.cells #[.int .u8 (w : Int)] 5))); have HB6 := Lib.hid (below_to HB5.out ((Below.refl _ _).alloc (Nat.le_refl _) (.cells #[.int .u8 (w : Int)] 5))); have HWB := Lib.hid (by_one w5 w hw256))
              | (refine wpList_append_by rfl (.tmp 153) (.tmp 156) rfl W.heap.size A5 (N4 + n2) c5 _ rfl HO6.out (some ⟨w5.heap.size, 0, none⟩) 1 1 [w] rfl rfl HWB.out (by omega) HB6.out.size ?_; intro A7 c7 w7 ho hg hr; have HO7 := Lib.hid ho; have HB7 := Lib.hid (HB6.out.grown hg HB6.out.size HO6.out.base); clear ho hg hr))
            obtain ⟨top, htop⟩ : ∃ top, top = N4 + n2 + 1 := ⟨_, rfl⟩
            have htop40 : top ≤ 40 := by omega
            obtain ⟨pre2, hpre2⟩ : ∃ pre2, pre2 = pre ++ ub (zz z) ++ [w] := ⟨_, rfl⟩
            have HRES2 : Hid (asL 3 l = pre2 ++ leb ((i * w + 7) / 8) V) := Lib.hid (by rw [HRES.out, HR3.out, hpre2]; simp only [List.append_assoc])
            rw [← hpre2] at HO7
            have HST : Hid (RQ3 W pre2 V 0 top (.slice A7 (N4 + n2 + 1) c7) (.int .u8 0) (.int .i64 0) w7) := Lib.hid ⟨0, 0, 0, rfl, by decide, by simp [Nat.mod_one], rfl, rfl, A7, N4 + n2 + 1, c7, rfl, by omega, by simpa [leb] using HO7.out, HB7.out⟩
            clear HO4 HB4 HOP HBP HO5 HB5 HO6 HB6 HO7 HWB htop hpre2 HRES HR3 HO2 HB2 HN2 hn10
            go_loopw [5, 16, 17, 18] (fun u c n v wr => ∃ q : Nat, q ≤ i ∧ v = .int .i64 (q : Int) ∧ RQ3 W pre2 V (q * w) top u c n wr) (fun _ _ _ v _ => i - (intOf v).toNat)
            case atStart => exact ⟨0, Nat.zero_le _, rfl, by rw [Nat.zero_mul]; exact HST.out⟩
            case round =>
              obtain ⟨q, hq, rfl, hrq⟩ := hrel
              have HRQ := Lib.hid hrq
              clear hrq HST
              by_cases hqi : q < i
              · obtain ⟨x, hx⟩ : ∃ x, l[q]? = some x := ⟨l[q]'(by have := hm.out; omega), List.getElem?_eq_getElem _⟩
                obtain ⟨hd1, hd2⟩ := HDX.out q x hx
                have HXQ := Lib.hid hx
                have HDQ := Lib.hid (HPG.out q _ (HDS.out q x hx))
                obtain ⟨d, hd⟩ : ∃ d, d = dig z x := ⟨_, rfl⟩
                rw [← hd] at hd1 hd2 HDQ
                clear hx hd
                obtain ⟨T0, hT0⟩ : ∃ T0, T0 = q * w := ⟨_, rfl⟩
                have hT0b : T0 + w ≤ 320000 := by
                  have : (q + 1) * w ≤ 5000 * 64 := Nat.mul_le_mul (by omega) hw64
                  rw [Nat.add_mul, Nat.one_mul] at this; omega
                rw [← hT0] at HRQ
                have HT0 := Lib.hid hT0
                clear hT0
                go_wp2
                go_loopw [5, 16, 17, 19] (fun u c n v wr => ∃ t : Nat, t ≤ w ∧ v = .int .i64 (t : Int) ∧ RQ3 W pre2 V (T0 + t) top u c n wr) (fun _ _ _ v _ => w - (intOf v).toNat)
                case atStart => exact ⟨0, Nat.zero_le _, rfl, HRQ.out⟩
                case round =>
                  obtain ⟨t, ht, rfl, j, s, cur, hT, hs8, hcur, rfl, rfl, A, n, cap, rfl, hn, ho, hb⟩ := hrel
                  have HO := Lib.hid ho; have HB := Lib.hid hb; have HT := Lib.hid hT; have HCU := Lib.hid hcur
                  have hjb : j ≤ 40000 := by omega
                  clear ho hb hT hcur HRQ
                  by_cases htw : t < w
                  · have hcx := HCELL.out wr HB.out q x HXQ.out
                    obtain ⟨y, hy⟩ : ∃ y, y = d / 2 ^ t := ⟨_, rfl⟩
                    have hshr : (d : Int) / 2 ^ t = (y : Int) := by rw [hy, Int.natCast_ediv, Int.natCast_pow]; rfl
                    obtain ⟨bit, hbit⟩ : ∃ bit, bit = y % 2 := ⟨_, rfl⟩
                    have hbi : (y : Int) % 2 = (bit : Int) := by omega
                    have hbi2 : (y : Int).tmod 2 = (bit : Int) := by rw [Int.tmod_eq_emod_of_nonneg (by omega)]; exact hbi
                    have hb2 : bit < 2 := by omega
                    have hbw : IntKind.u8.wrap (bit : Int) = (bit : Int) := by rw [IntKind.wrap_u8]; omega
                    have HBIT : Hid (bit = V / 2 ^ (T0 + t) % 2) := Lib.hid (by rw [HT0.out, bit_at HDQ.out htw, ← hy, hbit])
                    obtain ⟨qq, hqq⟩ : ∃ qq, qq = bit * 2 ^ s := ⟨_, rfl⟩
                    have hps : 2 ^ s ≤ 128 := by
                      have : 2 ^ s ≤ 2 ^ 7 := Nat.pow_le_pow_right (by decide) (by omega)
                      exact this
                    have hqb : qq ≤ 128 := by
                      rw [hqq]
                      have : bit * 2 ^ s ≤ 1 * 2 ^ s := Nat.mul_le_mul_right _ (by omega)
                      omega
                    have hqi2 : IntKind.u8.wrap ((bit : Int) * 2 ^ s) = (qq : Int) := by
                      have e : (bit : Int) * 2 ^ s = (qq : Int) := by rw [hqq, Int.natCast_mul, Int.natCast_pow]; rfl
                      rw [e, IntKind.wrap_u8]; omega
                    obtain ⟨cur2, hcur2⟩ : ∃ cur2, cur2 = cur + qq := ⟨_, rfl⟩
                    have HC2 : Hid (cur2 = V / 2 ^ (8 * j) % 2 ^ (s + 1)) := Lib.hid (by rw [hcur2, hqq]; exact cur_step HT.out HCU.out HBIT.out)
                    have hc256 : cur2 < 256 := by
                      rw [HC2.out]
                      refine Nat.lt_of_lt_of_le (Nat.mod_lt _ (Nat.two_pow_pos _)) ?_
                      have : 2 ^ (s + 1) ≤ 2 ^ 8 := Nat.pow_le_pow_right (by decide) (by omega)
                      exact this
                    have hci : (cur : Int) + (qq : Int) = (cur2 : Int) := by omega
                    have ht64 : (t : Int) < 64 := by omega
                    have hs64 : (s : Int) < 8 := by omega
                    have hcu : cur < 256 := by omega
                    clear hy hbit hqq hcur2 hps
                    by_cases h7 : s = 7
                    · have h8 : ((s : Int) + 1 == 8) = true := by rw [beq_iff_eq]; omega
                      have H7 := Lib.hid h7
                      have HX8 := Lib.hid (by_one wr cur2 hc256)
                      have HBA := Lib.hid ((Below.refl wr.heap.size wr).alloc (Nat.le_refl _) (.cells #[.int .u8 (cur2 : Int)] 5))
                      have HOA := Lib.hid (HO.out.keep HBA.out)
                      have HBB := Lib.hid (below_to HB.out HBA.out)
                      have HLB : Hid (pre2 ++ leb j V ++ [cur2] = pre2 ++ leb (j + 1) V) := Lib.hid (by rw [leb_snoc, HC2.out, H7.out, List.append_assoc])
                      clear h7
                      go_wp2_with (refine wpList_append_by rfl (.tmp 188) (.tmp 190) rfl W.heap.size A n cap _ rfl HOA.out (some ⟨wr.heap.size, 0, none⟩) 1 1 [cur2] rfl rfl HX8.out (by omega) HBB.out.size ?_; intro A9 c9 w9 ho hg hr; have HO9 := Lib.hid ho; have HB9 := Lib.hid (HBB.out.grown hg HBB.out.size HOA.out.base); clear ho hg hr)
                      go_roundw
                      case rel => exact ⟨t + 1, by omega, by go_num, j + 1, 0, 0, by have := HT.out; have := H7.out; omega, by decide, by simp [Nat.mod_one], rfl, rfl, A9, _, c9, rfl, by omega, by rw [← HLB.out]; exact HO9.out, HB9.out⟩
                      case measure => simp [intOf]; omega
                    · have h8 : ((s : Int) + 1 == 8) = false := by rw [beq_eq_false_iff_ne]; omega
                      have hs7 : s + 1 < 8 := by omega
                      clear h7
                      go_wp2
                      go_roundw
                      case rel => exact ⟨t + 1, by omega, by go_num, j, s + 1, cur2, by have := HT.out; omega, hs7, HC2.out, rfl, by go_num, A, n, cap, rfl, hn, HO.out, HB.out⟩
                      case measure => simp [intOf]; omega
                  · obtain rfl : t = w := by omega
                    go_wp2
                    go_roundw
                    case rel => exact ⟨q + 1, by omega, by go_num, j, s, cur, by rw [Nat.add_mul, Nat.one_mul, ← HT0.out]; exact HT.out, hs8, HCU.out, rfl, rfl, A, n, cap, rfl, hn, HO.out, HB.out⟩
                    case measure => simp [intOf]; omega
              · obtain rfl : q = i := by omega
                obtain ⟨j, s, cur, hT, hs8, hcur, rfl, rfl, A, n, cap, rfl, hn, ho, hb⟩ := HRQ.out
                have HO := Lib.hid ho; have HB := Lib.hid hb
                have hjb : j ≤ 40000 := by
                  have : q * w ≤ 5000 * 64 := Nat.mul_le_mul (by omega) hw64
                  omega
                by_cases hs0 : s = 0
                · have HE : Hid (asL 3 l = pre2 ++ leb j V) := Lib.hid (by rw [HRES2.out, show (q * w + 7) / 8 = j by omega])
                  subst hs0
                  clear ho hb hT hcur
                  go_wp2
                  go_ret
                  exact ⟨A, n, cap, rfl, by rw [HE.out]; exact HO.out, HB.out, HB.out.size⟩
                · have HE : Hid (asL 3 l = pre2 ++ leb j V ++ [cur]) := Lib.hid (by
                    have h1 : V / 2 ^ (8 * j) < 2 ^ s := by rw [Nat.div_lt_iff_lt_mul (Nat.two_pow_pos _), ← Nat.pow_add, Nat.add_comm, ← hT]; exact HVL.out
                    have h2 : 2 ^ s ≤ 2 ^ 8 := Nat.pow_le_pow_right (by decide) (by omega)
                    have h3 : cur = V / 2 ^ (8 * j) % 256 := by rw [hcur, Nat.mod_eq_of_lt h1, Nat.mod_eq_of_lt (Nat.lt_of_lt_of_le h1 h2)]
                    rw [HRES2.out, show (q * w + 7) / 8 = j + 1 by omega, leb_snoc, ← h3, List.append_assoc])
                  have hc256 : cur < 256 := by
                    rw [hcur]
                    refine Nat.lt_of_lt_of_le (Nat.mod_lt _ (Nat.two_pow_pos _)) ?_
                    have : 2 ^ s ≤ 2 ^ 8 := Nat.pow_le_pow_right (by decide) (by omega)
                    exact this
                  have hs0i : (0 : Int) < (s : Int) := by omega
                  have HX8 := Lib.hid (by_one wr cur hc256)
                  have HBA := Lib.hid ((Below.refl wr.heap.size wr).alloc (Nat.le_refl _) (.cells #[.int .u8 (cur : Int)] 5))
                  have HOA := Lib.hid (HO.out.keep HBA.out)
                  have HBB := Lib.hid (below_to HB.out HBA.out)
                  clear ho hb hT hcur hs0
                  go_wp2_with (refine wpList_append_by rfl (.tmp 194) (.tmp 196) rfl W.heap.size A n cap _ rfl HOA.out (some ⟨wr.heap.size, 0, none⟩) 1 1 [cur] rfl rfl HX8.out (by omega) HBB.out.size ?_; intro A9 c9 w9 ho hg hr; have HO9 := Lib.hid ho; have HB9 := Lib.hid (HBB.out.grown hg HBB.out.size HOA.out.base); clear ho hg hr)
                  go_ret
                  exact ⟨A9, _, c9, rfl, by rw [HE.out]; exact HO9.out, HB9.out, HB9.out.size⟩
end Go.Proofs.YtpobfgokikfmbaaGreatDoor

set_option linter.unusedSimpArgs false
set_option linter.unusedVariables false
set_option maxRecDepth 8000
namespace Go.Proofs.YtpobfgokikfmbaaGreatDoor
open Go.RowKit Go.WideShapes Col
theorem refAs_any (way : Nat) (hw : way < 4) (b : Option Addr) (m c : Nat) (l : List Int) (hm : Hid (m = l.length)) (hmc : m ≤ c) (hc : c ≤ 9223372036854775807) (hm1 : m ≤ 5000) (W : World) (HL : Hid (IsAt W b l)) :
    Calls Tryz.prog 54 #[.int .u8 (way : Int), .slice b m c] W (Puts W.heap.size W (asL way l)) := by
  have h : way = 0 ∨ way = 1 ∨ way = 2 ∨ way = 3 := by omega
  rcases h with rfl | rfl | rfl | rfl
  · exact refAs0_any b m c l hm hmc hc hm1 W HL
  · exact refAs1_any b m c l hm hmc hc hm1 W HL
  · exact refAs2_any b m c l hm hmc hc hm1 W HL
  · exact refAs3_any b m c l hm hmc hc hm1 W HL
set_option maxHeartbeats 2000000 in
theorem refInts_any (b : Option Addr) (m c : Nat) (l : List Int) (hm : Hid (m = l.length)) (hmc : m ≤ c) (hc : c ≤ 9223372036854775807) (hm1 : m ≤ 5000) (W : World) (HL : Hid (IsAt W b l)) :
    Calls Tryz.prog 23 #[.slice b m c] W (Puts W.heap.size W (intsL l)) := by
  have HA := Lib.hid fun way hway w hl => refAs_any way hway b m c l hm hmc hc hm1 w hl
  have HWF : Hid (∀ x ∈ l, Wf64 x) := Lib.hid HL.out.wf
  have HA0 : Hid (Calls Tryz.prog 54 #[.int .u8 0, .slice b m c] W (Puts W.heap.size W (asL 0 l))) := Lib.hid (HA.out 0 (by decide) W HL)
  go_enter Tryz.func23, Tryz.ntmps23
  go_wp2_with (go_at_call 54; (with_reducible refine (HA0.out).mono ?_); rintro e w1 ⟨A1, n1, c1, rfl, h1, h2, h3⟩; have HO1 := Lib.hid h1; have HB1 := Lib.hid h2; clear h1 h2 h3)
  go_loopw [3, 4] (fun u v wr => RI W l u v wr) (fun _ v _ => 4 - (intOf v).toNat)
  case atStart => exact ⟨0, A1, n1, c1, by decide, rfl, rfl, HO1.out, HB1.out⟩
  case round =>
    obtain ⟨k, A, n, cap, hk, rfl, rfl, ho, hb⟩ := hrel
    have HO := Lib.hid ho; have HB := Lib.hid hb
    clear ho hb HA0
    by_cases h3 : k = 3
    · subst h3
      go_wp2
      go_ret
      exact ⟨A, n, cap, rfl, HO.out, HB.out, HB.out.size⟩
    · obtain ⟨K, hK⟩ : ∃ K, K = k + 1 := ⟨_, rfl⟩
      have HK := Lib.hid hK
      have hK4 : K < 4 := by omega
      have hK3 : K ≤ 3 := by omega
      rw [← hK]
      clear hK hk h3
      have HAK := Lib.hid (HA.out K hK4 wr (Lib.hid (HL.out.keep HB.out)))
      have HNL := Lib.hid HO.out.len
      go_upto_region 6 with (go_at_call 54; (with_reducible refine (HAK.out).mono ?_); rintro e w2 ⟨A2, n2, c2, rfl, h1, h2, h3⟩; have HO2 := Lib.hid (h1.more HB.out.size); have HB2 := Lib.hid (below_to HB.out h2); have HOK := Lib.hid (HO.out.keep h2); clear h1 h2 h3)
      have HN2 := Lib.hid HO2.out.len
      by_cases hlt : n2 < n
      · have HS : Hid (bestL K l = asL K l) := Lib.hid (by rw [HK.out]; unfold bestL pickL; rw [if_pos (by have := HNL.out; have := HN2.out; rw [← HK.out]; omega)])
        go_wp2
        go_roundw
        case rel => exact ⟨K, A2, n2, c2, hK3, by go_num, rfl, by rw [HS.out]; exact HO2.out, HB2.out⟩
        case measure => have := HK.out; simp [intOf]; omega
      · have HS : Hid (bestL K l = bestL k l) := Lib.hid (by rw [HK.out]; unfold bestL; unfold pickL; rw [if_neg (by have := HNL.out; have := HN2.out; rw [← HK.out]; omega)]; cases k <;> rfl)
        go_wp2
        go_roundw
        case rel => exact ⟨K, A, n, cap, hK3, by go_num, rfl, by rw [HS.out]; exact HOK.out, HB2.out⟩
        case measure => have := HK.out; simp [intOf]; omega
end Go.Proofs.YtpobfgokikfmbaaGreatDoor

set_option linter.unusedSimpArgs false
set_option linter.unusedVariables false
set_option maxRecDepth 8000
namespace Go.Proofs.YtpobfgokikfmbaaGreatDoor
open Go.RowKit Go.WideShapes Col
theorem yb_conv {ops : Array Oper} {S : World → Prop} {op : Oper} {a : Act} (hw : Region.wanted op (yielded ops a.tmps) = true) (x : Operand) (ho : op.op = .convert 22 9 x) (v u : Value) (hx : a.eval x = v)
    (h : ∀ w, S w → (convert 22 9 v).run Tryz.prog w = .ok u w) : YieldsIf Tryz.prog ops S op u a :=
  .inl ⟨hw, fun w hw' => by
    unfold execOp
    simp only [ho, hx, Sem.run_bind, Sem.run_pure, h w hw', Result.andThen_ok]⟩
theorem yb_lenb {ops : Array Oper} {S : World → Prop} {op : Oper} {a : Act} (hw : Region.wanted op (yielded ops a.tmps) = true) (x : Operand) (ho : op.op = .call { callee := .builtin .len, args := #[x], argTypes := #[22] }) (A : Option Addr) (n c : Nat) (hx : a.eval x = .slice A n c) : YieldsIf Tryz.prog ops S op (.int .i64 (n : Int)) a :=
  .inl ⟨hw, fun w _ => by
    unfold execOp
    simp only [ho, resolve, invoke, builtin, Sem.run_bind, Sem.run_pure, Result.andThen_ok, List.map_toArray, List.map_cons, List.map_nil, hx]
    rfl⟩
theorem b_neqs (s : ByteArray) (w : World) : (binOp .neq 9 (.string s) (.string s)).run Tryz.prog w = .ok (.bool false) w := by
  simp [binOp, Op.stringOp]
end Go.Proofs.YtpobfgokikfmbaaGreatDoor

set_option linter.unusedSimpArgs false
set_option linter.unusedVariables false
set_option maxRecDepth 8000
namespace Go.Proofs.YtpobfgokikfmbaaGreatDoor
open Go.RowKit Go.WideShapes Col
/-- Where the document's reader stands: below 0 behind a fault. -/
def atR (p : List Nat) : Option (List Nat) → Int
  | none => -1
  | some q => (p.length : Int) - (q.length : Int)
section
variable {w w' : World} {m C : Nat} {A : Option Addr} {p : List Nat} {s s' : Option (List Nat)}
end
/-- The next byte of the document's reader, and what is left. -/
def byteS : Option (List Nat) → Nat × Option (List Nat)
  | some (b :: q) => (b, some q)
  | _ => (0, none)
theorem drop_next {p q : List Nat} {b k : Nat} (h : b :: q = p.drop k) : k < p.length ∧ p[k]? = some b ∧ q = p.drop (k + 1) := by
  have hk : k < p.length := by
    rcases Nat.lt_or_ge k p.length with h1 | h1
    · exact h1
    · rw [List.drop_of_length_le h1] at h; cases h
  rw [List.drop_eq_getElem_cons hk] at h
  injection h with h1 h2
  exact ⟨hk, by rw [List.getElem?_eq_getElem hk, h1], h2⟩
end Go.Proofs.YtpobfgokikfmbaaGreatDoor

set_option linter.unusedSimpArgs false
set_option linter.unusedVariables false
set_option maxRecDepth 8000
namespace Go.Proofs.YtpobfgokikfmbaaGreatDoor
open Go.RowKit Go.WideShapes Col
def uintS (most : Nat) : Option (List Nat) → Nat × Option (List Nat)
  | none => (0, none)
  | some q => match uP most q with
    | some (n, r) => (n, some r)
    | none => (0, none)
theorem uintS_some {most n : Nat} {q r : List Nat} (h : uP most q = some (n, r)) : uintS most (some q) = (n, some r) := by simp [uintS, h]
theorem uintS_none {most : Nat} {q : List Nat} (h : uP most q = none) : uintS most (some q) = (0, none) := by simp [uintS, h]
theorem uP_of_none {most : Nat} {q : List Nat} (h : grp 0 q = none) : uP most q = none := by unfold uP; rw [h]; rfl
theorem uP_of_big {most n : Nat} {q r : List Nat} (h : grp 0 q = some (n, r)) (h2 : most < n) : uP most q = none := by unfold uP; rw [h]; simp; omega
theorem uP_of_ok {most n : Nat} {q r : List Nat} (h : grp 0 q = some (n, r)) (h2 : n ≤ most) : uP most q = some (n, r) := by unfold uP; rw [h]; simp [h2]
def intS : Option (List Nat) → Int × Option (List Nat)
  | none => (0, none)
  | some q => match zP q with
    | some (x, r) => (x, some r)
    | none => (0, none)
theorem intS_some {x : Int} {q r : List Nat} (h : zP q = some (x, r)) : intS (some q) = (x, some r) := by simp [intS, h]
theorem intS_none {q : List Nat} (h : zP q = none) : intS (some q) = (0, none) := by simp [intS, h]
end Go.Proofs.YtpobfgokikfmbaaGreatDoor

set_option linter.unusedSimpArgs false
set_option linter.unusedVariables false
set_option maxRecDepth 8000
namespace Go.Proofs.YtpobfgokikfmbaaGreatDoor
open Go.RowKit Go.WideShapes Col
def textS (most : Nat) : Option (List Nat) → List Nat × Option (List Nat)
  | none => ([], none)
  | some q => match tP most q with
    | some (t, r) => (t, some r)
    | none => ([], none)
theorem textS_some {most : Nat} {q r t : List Nat} (h : tP most q = some (t, r)) : textS most (some q) = (t, some r) := by simp [textS, h]
theorem textS_none {most : Nat} {q : List Nat} (h : tP most q = none) : textS most (some q) = ([], none) := by simp [textS, h]
theorem tP_of_none {most : Nat} {q : List Nat} (h : uP most q = none) : tP most q = none := by unfold tP; rw [h]; rfl
theorem tP_of_big {most n : Nat} {q r : List Nat} (h : uP most q = some (n, r)) (h2 : r.length < n) : tP most q = none := by unfold tP; rw [h]; simp; omega
theorem tP_of_ok {most n : Nat} {q r : List Nat} (h : uP most q = some (n, r)) (h2 : n ≤ r.length) : tP most q = some (r.take n, r.drop n) := by unfold tP; rw [h]; simp [h2]
theorem str_nil : strB [] = { data := #[] } := by rfl
end Go.Proofs.YtpobfgokikfmbaaGreatDoor

set_option linter.unusedSimpArgs false
set_option linter.unusedVariables false
set_option maxRecDepth 8000
namespace Go.Proofs.YtpobfgokikfmbaaGreatDoor
open Go.RowKit Go.WideShapes Col
def allOf (o : Option (List Int × List Nat)) : Option (List Int) := match o with
  | some (l, []) => some l
  | _ => none
end Go.Proofs.YtpobfgokikfmbaaGreatDoor

set_option linter.unusedSimpArgs false
set_option linter.unusedVariables false
set_option maxRecDepth 8000
namespace Go.Proofs.YtpobfgokikfmbaaGreatDoor
open Go.RowKit Go.WideShapes Col
theorem wrapW (x : Int) : Wf64 (IntKind.i64.wrap x) := by unfold Wf64; rw [IntKind.wrap_i64]; omega
end Go.Proofs.YtpobfgokikfmbaaGreatDoor

set_option linter.unusedSimpArgs false
set_option linter.unusedVariables false
set_option maxRecDepth 8000
namespace Go.Proofs.YtpobfgokikfmbaaGreatDoor
open Go.RowKit Go.WideShapes Col
end Go.Proofs.YtpobfgokikfmbaaGreatDoor

set_option linter.unusedSimpArgs false
set_option linter.unusedVariables false
set_option maxRecDepth 8000
namespace Go.Proofs.YtpobfgokikfmbaaGreatDoor
open Go.RowKit Go.WideShapes Col
end Go.Proofs.YtpobfgokikfmbaaGreatDoor

set_option linter.unusedSimpArgs false
set_option linter.unusedVariables false
set_option maxRecDepth 8000
namespace Go.Proofs.YtpobfgokikfmbaaGreatDoor
open Go.RowKit Go.WideShapes Col
theorem b_quo8 (T : Nat) (hT : T ≤ 1000000) (w : World) : (binOp .quo 3 (.int .i64 (T : Int)) (.int .i64 8)).run Tryz.prog w = .ok (.int .i64 ((T / 8 : Nat) : Int)) w := by
  have e : IntKind.i64.wrap ((T : Int).tdiv 8) = ((T / 8 : Nat) : Int) := by rw [IntKind.wrap_i64, Int.tdiv_eq_ediv_of_nonneg (by omega)]; omega
  rw [← e]; rfl
theorem b_rem8 (T : Nat) (hT : T ≤ 1000000) (w : World) : (binOp .rem 3 (.int .i64 (T : Int)) (.int .i64 8)).run Tryz.prog w = .ok (.int .i64 ((T % 8 : Nat) : Int)) w := by
  have e : (T : Int).tmod 8 = ((T % 8 : Nat) : Int) := by rw [Int.tmod_eq_emod_of_nonneg (by omega)]; omega
  rw [← e]; rfl
theorem b_addN (a b : Nat) (h : a + b ≤ 100000000) (w : World) : (binOp .add 3 (.int .i64 (a : Int)) (.int .i64 (b : Int))).run Tryz.prog w = .ok (.int .i64 ((a + b : Nat) : Int)) w := by
  have e : IntKind.i64.wrap ((a : Int) + (b : Int)) = ((a + b : Nat) : Int) := by rw [IntKind.wrap_i64]; omega
  rw [← e]; rfl
theorem b_subN (a b : Nat) (h : b ≤ a) (h2 : a ≤ 100000000) (w : World) : (binOp .sub 3 (.int .i64 (a : Int)) (.int .i64 (b : Int))).run Tryz.prog w = .ok (.int .i64 ((a - b : Nat) : Int)) w := by
  have e : IntKind.i64.wrap ((a : Int) - (b : Int)) = ((a - b : Nat) : Int) := by rw [IntKind.wrap_i64]; omega
  rw [← e]; rfl
theorem b_mulN (a b : Nat) (h : a * b ≤ 100000000) (w : World) : (binOp .mul 3 (.int .i64 (a : Int)) (.int .i64 (b : Int))).run Tryz.prog w = .ok (.int .i64 ((a * b : Nat) : Int)) w := by
  have e : IntKind.i64.wrap ((a : Int) * (b : Int)) = ((a * b : Nat) : Int) := by rw [IntKind.wrap_i64, ← Int.natCast_mul]; omega
  rw [← e]; rfl
theorem b_neqN (a b : Nat) (c : Bool) (h : (a != b) = c) (w : World) : (binOp .neq 3 (.int .i64 (a : Int)) (.int .i64 (b : Int))).run Tryz.prog w = .ok (.bool c) w := by
  subst h
  have e : (a != b) = ((a : Int) != (b : Int)) := by rw [Bool.eq_iff_iff, bne_iff_ne, bne_iff_ne]; omega
  rw [e]; first | rfl | go_simp
theorem b_shr8 (b s : Nat) (hb : b < 256) (hs : s < 8) (w : World) : (binOp .shr 5 (.int .u8 (b : Int)) (.int .i64 (s : Int))).run Tryz.prog w = .ok (.int .u8 ((b / 2 ^ s : Nat) : Int)) w := by
  have h1 : (s : Int) < 8 := by omega
  rw [← shr_u8 b s hb hs]
  go_simp
theorem b_rem2 (x : Nat) (hx : x < 256) (w : World) : (binOp .rem 5 (.int .u8 (x : Int)) (.int .u8 2)).run Tryz.prog w = .ok (.int .u8 ((x % 2 : Nat) : Int)) w := by
  have e : (x : Int).tmod 2 = ((x % 2 : Nat) : Int) := by rw [Int.tmod_eq_emod_of_nonneg (by omega)]; omega
  rw [← e]; rfl
theorem b_shl64 (b k : Nat) (hb : b < 2) (hk : k < 64) (w : World) : (binOp .shl 35 (.int .u64 (b : Int)) (.int .i64 (k : Int))).run Tryz.prog w = .ok (.int .u64 ((b * 2 ^ k : Nat) : Int)) w := by
  have h1 : (k : Int) < 64 := by omega
  have h2 : b * 2 ^ k < 18446744073709551616 := by
    have h3 : 2 ^ k ≤ 2 ^ 63 := Nat.pow_le_pow_right (by decide) (by omega)
    have h4 : b * 2 ^ k ≤ 1 * 2 ^ k := Nat.mul_le_mul_right _ (by omega)
    omega
  have e : IntKind.u64.wrap ((b : Int) * 2 ^ k) = ((b * 2 ^ k : Nat) : Int) := by
    have e1 : (b : Int) * 2 ^ k = ((b * 2 ^ k : Nat) : Int) := by rw [Int.natCast_mul, Int.natCast_pow]; rfl
    rw [e1, IntKind.wrap_u64]; omega
  go_simp
theorem b_add64 (a b : Nat) (h : a + b < 18446744073709551616) (w : World) : (binOp .add 35 (.int .u64 (a : Int)) (.int .u64 (b : Int))).run Tryz.prog w = .ok (.int .u64 ((a + b : Nat) : Int)) w := by
  have e : IntKind.u64.wrap ((a : Int) + (b : Int)) = ((a + b : Nat) : Int) := by rw [IntKind.wrap_u64]; omega
  rw [← e]; rfl
theorem b_eql1 (x : Nat) (c : Bool) (h : (x == 1) = c) (w : World) : (binOp .eql 5 (.int .u8 (x : Int)) (.int .u8 1)).run Tryz.prog w = .ok (.bool c) w := by
  subst h
  have e : (x == 1) = ((x : Int) == 1) := by rw [Bool.eq_iff_iff, beq_iff_eq, beq_iff_eq]; omega
  rw [e]; first | rfl | go_simp
theorem c_u8 (x : Nat) (hx : x < 256) (w : World) : (convert 5 35 (.int .u8 (x : Int))).run Tryz.prog w = .ok (.int .u64 (x : Int)) w := by
  have e : IntKind.u64.wrap (x : Int) = (x : Int) := by rw [IntKind.wrap_u64]; omega
  go_simp
theorem yb_cv {ops : Array Oper} {S : World → Prop} {op : Oper} {a : Act} (hw : Region.wanted op (yielded ops a.tmps) = true) (f t : TypeId) (x : Operand) (ho : op.op = .convert f t x) (v u : Value) (hx : a.eval x = v)
    (h : ∀ w, (convert f t v).run Tryz.prog w = .ok u w) : YieldsIf Tryz.prog ops S op u a :=
  .inl ⟨hw, fun w hw' => by
    unfold execOp
    simp only [ho, hx, Sem.run_bind, Sem.run_pure, h w, Result.andThen_ok]⟩
theorem yb_ixb {ops : Array Oper} {S : World → Prop} {op : Oper} {a : Act} (hw : Region.wanted op (yielded ops a.tmps) = true) (x y : Operand) (ho : op.op = .indexAddr 22 x y) (g off m c k : Nat) (hx : a.eval x = .slice (some ⟨g, off, none⟩) m c) (hy : a.eval y = .int .i64 (k : Int)) (h : k < m) : YieldsIf Tryz.prog ops S op (.pointer (some ⟨g, off + k, none⟩)) a :=
  .inl ⟨hw, fun w _ => by
    unfold execOp
    have e : (Instr.indexAt 22 (.slice (some ⟨g, off, none⟩) m c) (.int .i64 (k : Int))).run Tryz.prog w = .ok (.pointer (some ⟨g, off + k, none⟩)) w := by
      have h1 : (k : Int) < (m : Int) := by omega
      first | (go_simp; done) | (go_simp; intro h; exfalso; omega)
    simp only [ho, hx, hy, Sem.run_bind, Sem.run_pure, Result.andThen_ok, e]⟩
theorem lv_u8 (w : World) (g j : Nat) (v : Value) (h : w.cell? ⟨g, j, none⟩ = some v) : (loadVar 5 ⟨g, j, none⟩).run Tryz.prog w = .ok v w := by
  go_simp
theorem yb_ldb {ops : Array Oper} {S : World → Prop} {op : Oper} {a : Act} (hw : Region.wanted op (yielded ops a.tmps) = true) (x : Operand) (ho : op.op = .load 5 x) (g j : Nat) (hx : a.eval x = .pointer (some ⟨g, j, none⟩)) (v : Value)
    (hS : ∀ w, S w → w.cell? ⟨g, j, none⟩ = some v) : YieldsIf Tryz.prog ops S op v a :=
  .inl ⟨hw, fun w hw' => by
    unfold execOp
    simp only [ho, hx, Instr.loadAt, Instr.sureAddr, Sem.run_bind, Sem.run_pure, Result.andThen_ok, lv_u8 w g j v (hS w hw')]⟩
end Go.Proofs.YtpobfgokikfmbaaGreatDoor

set_option linter.unusedSimpArgs false
set_option linter.unusedVariables false
set_option maxRecDepth 8000
namespace Go.Proofs.YtpobfgokikfmbaaGreatDoor
open Go.RowKit Go.WideShapes Col
namespace Col
theorem bits_zero (V a : Nat) : bitsAt V a 0 = 0 := by unfold bitsAt; rw [Nat.pow_zero, Nat.mod_one]
theorem bits_more (V a k : Nat) : bitsAt V a (k + 1) = bitsAt V a k + V / 2 ^ (a + k) % 2 * 2 ^ k := by
  unfold bitsAt
  rw [Nat.pow_succ, Nat.mod_mul, Nat.pow_add, ← Nat.div_div_eq_div_mul, Nat.mul_comm]
theorem bit_byte (V T : Nat) : V / 2 ^ (8 * (T / 8)) % 256 / 2 ^ (T % 8) % 2 = V / 2 ^ T % 2 := by
  have h8 : (256 : Nat) = 2 ^ (T % 8) * 2 ^ (8 - T % 8) := by rw [← Nat.pow_add, show T % 8 + (8 - T % 8) = 8 by omega]
  rw [h8, Nat.mod_mul_right_div_self, Nat.div_div_eq_div_mul, ← Nat.pow_add, show 8 * (T / 8) + T % 8 = T by omega]
  have : (2 : Nat) ^ (8 - T % 8) = 2 * 2 ^ (8 - T % 8 - 1) := by rw [Nat.mul_comm, ← Nat.pow_succ]; congr 1; omega
  rw [this, Nat.mod_mul_right_mod]
theorem map_snoc (W V : Nat) (mn : Int) (i : Nat) : (List.range (i + 1)).map (pval W V mn) = (List.range i).map (pval W V mn) ++ [pval W V mn i] := by rw [List.range_succ, List.map_append]; rfl
/-- What is behind the bits that are used. -/
theorem rest_zero {V M T E : Nat} (hV : V < 2 ^ E) (h : bitsAt V M (T - M) = 0) (hM : M ≤ T) (hT : T = E) : V < 2 ^ M := by
  subst hT
  unfold bitsAt at h
  have h1 : V / 2 ^ M < 2 ^ (T - M) := by rw [Nat.div_lt_iff_lt_mul (Nat.two_pow_pos _), ← Nat.pow_add, show T - M + M = T by omega]; exact hV
  rw [Nat.mod_eq_of_lt h1] at h
  have := Nat.div_eq_zero_iff.1 h
  have h2 := Nat.two_pow_pos M
  omega
theorem rest_one {V M T : Nat} (h : V / 2 ^ T % 2 = 1) (hM : M ≤ T) : ¬ V < 2 ^ M := fun h2 => by
  have h3 : V < 2 ^ T := Nat.lt_of_lt_of_le h2 (Nat.pow_le_pow_right (by decide) hM)
  rw [Nat.div_eq_of_lt h3] at h; cases h
end Col
theorem b_gtr (x y : Int) (b : Bool) (h : decide (y < x) = b) (w : World) : (binOp .gtr 3 (.int .i64 x) (.int .i64 y)).run Tryz.prog w = .ok (.bool b) w := by
  subst h; rfl
end Go.Proofs.YtpobfgokikfmbaaGreatDoor

set_option linter.unusedSimpArgs false
set_option linter.unusedVariables false
set_option maxRecDepth 8000
namespace Go.Proofs.YtpobfgokikfmbaaGreatDoor
open Go.RowKit Go.WideShapes Col
/-- How the document's ReadInts ends. -/
def RREnds (w : World) (o : Option (List Int)) (e : Ending) (w' : World) : Prop := match o with
  | some l => (∃ A' n' cap', e = .returned (.tuple #[.slice A' n' cap', .bool true]) ∧ OwnI w' w.heap.size A' n' cap' l) ∧ Below w.heap.size w w'
  | none => e = .returned (.tuple #[.slice none 0 0, .bool false]) ∧ Below w.heap.size w w'
theorem atR_whole (p : List Nat) : atR p (some p) = 0 := by show (p.length : Int) - (p.length : Int) = 0; omega
theorem atR_ne {p : List Nat} {s : Option (List Nat)} (h : s ≠ some []) : (atR p s != (p.length : Int)) = true := by
  rw [bne_iff_ne]
  rcases s with _ | _ | ⟨x, q⟩
  · show (-1 : Int) ≠ _; omega
  · exact (h rfl).elim
  · show (p.length : Int) - ((x :: q).length : Int) ≠ _; rw [List.length_cons]; omega
end Go.Proofs.YtpobfgokikfmbaaGreatDoor

set_option linter.unusedSimpArgs false
set_option linter.unusedVariables false
set_option maxRecDepth 8000
namespace Go.Proofs.YtpobfgokikfmbaaGreatDoor
open Go.RowKit Go.WideShapes Col
/-- A slice value that holds some words, in a world. -/
def FlAt (w : World) (a : Option Addr) (l : List Nat) : Prop := ∀ (k x : Nat), l[k]? = some x → x < 18446744073709551616 ∧ ∃ g off, a = some ⟨g, off, none⟩ ∧ g < w.heap.size ∧ w.cell? ⟨g, off + k, none⟩ = some (.float .f64 x)
theorem FlAt.keep {w w' : World} {a : Option Addr} {l : List Nat} (h : FlAt w a l) (hb : Below w.heap.size w w') : FlAt w' a l := fun k x hx => by
  obtain ⟨h1, g, off, h2, h3, h4⟩ := h k x hx
  exact ⟨h1, g, off, h2, Nat.lt_of_lt_of_le h3 hb.size, (hb.cell (p := ⟨g, off + k, none⟩) h3).trans h4⟩
def fvs (l : List Nat) : List Value := l.map fun x => .float .f64 x
/-- A row of numbers with a point that is all of a slice. -/
def RowF (w : World) (g : Nat) (l : List Nat) : Prop := w.heap[g]? = some (.cells (fvs l).toArray 36 (0, 0))
section
variable {w : World} {g : Nat} {l : List Nat}
theorem RowF.fr (h : RowF w g l) (i : Nat) : w.frozen? ⟨g, i, none⟩ = false := row_frozen h i
theorem RowF.cell (h : RowF w g l) (i x : Nat) (hx : l[i]? = some x) : w.cell? ⟨g, i, none⟩ = some (.float .f64 x) := by
  rw [cell_of_row _ _ _ _ _ _ h, List.getElem?_toArray]; unfold fvs; rw [List.getElem?_map, hx]; rfl
theorem RowF.at (h : RowF w g l) (i : Nat) (hi : i < l.length) : ∃ u, w.cell? ⟨g, i, none⟩ = some u := ⟨_, h.cell i _ (List.getElem?_eq_getElem hi)⟩
theorem RowF.set (h : RowF w g l) (i x : Nat) : RowF (w.setCell ⟨g, i, none⟩ (.float .f64 x)) g (l.set i x) := by
  unfold RowF at *
  rw [World.setCell]
  simp only [Array.getElem?_modify, if_pos, h, Option.map_some]
  have e : (fvs l).toArray.setIfInBounds i (.float .f64 x) = (fvs (l.set i x)).toArray := by
    unfold fvs; rw [List.map_set]; simp
  simp [e]
theorem RowF.keep {S : Nat → Prop} {w' : World} (h : RowF w g l) (hk : Kept S w w') (hg : ¬ S g) : RowF w' g l := hk.heap h hg
theorem RowF.isAt (h : RowF w g l) (hl : ∀ x ∈ l, x < 18446744073709551616) : FlAt w (some ⟨g, 0, none⟩) l := fun k x hx => ⟨hl x (List.mem_of_getElem? hx), g, 0, rfl, (Array.getElem?_eq_some_iff.1 h).1, by rw [Nat.zero_add]; exact h.cell k x hx⟩
end
theorem infoF64 : (Tryz.prog.info? 36).map (fun i => (i.zero, i.size, i.bytes)) = some (some (.float .f64 0), 1, 8) := by kernel_rfl
theorem rowF_zeros {w : World} {B g q : Nat} (h : w.ownsRow B 36 1 (.slice (some ⟨g, 0, none⟩) q q) q (madeCells (Value.float .f64 0).cells (q * 1)).toList) : RowF w g (List.replicate q 0) := by
  have e : fvs (List.replicate q 0) = List.replicate q (.float .f64 0) := by unfold fvs; rw [List.map_replicate]
  rw [Nat.mul_one, show (Value.float .f64 0).cells = #[.float .f64 0] from rfl, toList_madeCells_one, ← e] at h
  rcases h.2 with ⟨h1, h2⟩ | ⟨g', cap', cur, h1, hb, hrow, -, -, hs, ht⟩
  · cases h1
  · cases h1
    unfold RowF
    rw [hrow]
    have hc : cur = (fvs (List.replicate q 0)).toArray := by
      apply Array.ext'
      rw [← ht, Nat.mul_one, List.take_of_length_le (by rw [Array.length_toList, hs]; omega)]
    rw [hc]
theorem run_store_flC (w : World) (a : Addr) (y : Nat) (u : Value) (hc : w.cell? a = some u) (hf : w.frozen? a = false) : (store a (.float .f64 y)).run Tryz.prog w = .ok () (w.setCell a (.float .f64 y)) := by
  rw [run_store Tryz.prog w a _ _ rfl]
  simp [stored, hc, hf]
/-- A number's bits as a number with a sign. -/
def rwI (b : Nat) : Int := IntKind.i64.wrap ((Fl.canon b : Nat) : Int)
theorem rwI_wf (b : Nat) : Wf64 (rwI b) := by unfold rwI Wf64; rw [IntKind.wrap_i64]; omega
def u64N (x : Int) : Nat := (IntKind.u64.wrap x).toNat
theorem u64N_eq (x : Int) : IntKind.u64.wrap x = ((u64N x : Nat) : Int) ∧ u64N x < 18446744073709551616 := by
  unfold u64N; rw [IntKind.wrap_u64]; omega
theorem u64N_rw (b : Nat) (hb : b < 18446744073709551616) : u64N (rwI b) = Fl.canon b := by
  have := Fl.canon_lt b hb
  unfold u64N rwI; rw [IntKind.wrap_u64, IntKind.wrap_i64]; omega
theorem rw_snoc (l : List Nat) (k b : Nat) (h : l[k]? = some b) : (l.map rwI).take (k + 1) = (l.map rwI).take k ++ [rwI b] := by
  rw [List.take_add_one, List.getElem?_map, h]; rfl
set_option maxHeartbeats 2000000 in
theorem reals_any (b : Option Addr) (n c : Nat) (l : List Nat) (hn : Hid (n = l.length)) (hn1 : n ≤ 4096) (W : World) (HL : Hid (FlAt W b l)) :
    Calls Tryz.prog 16 #[.slice b n c] W (Puts W.heap.size W (intsL (l.map rwI))) := by
  obtain ⟨iu, hiu, hz0, hz1, hz2⟩ := info_parts infoI64'
  have hzb : iu.bytes * n ≤ 281474976710656 := by rw [hz2]; omega
  have hnm : n ≤ maxLen := by unfold maxLen; omega
  have HLEN : Hid ((l.map rwI).length = n) := Lib.hid (by rw [List.length_map]; exact hn.out.symm)
  go_enter Tryz.func16, Tryz.ntmps16
  go_wp2_with (refine wpList_make_full _ rfl (.tmp 7) (.tmp 7) 40 rfl W.heap.size 2 iu (.int .i64 0) 1 Tryz.underlying40 hiu hz0 hz1 .i64 .i64 _ _ n rfl rfl rfl rfl hzb hnm (Nat.le_refl _) ?_; intro w1 own hgr; have HRI := Lib.hid (rowI_zeros own); have HB1 : Hid (Below W.heap.size W w1) := Lib.hid ((Below.refl _ W).grown hgr (Nat.le_refl _) (by intro k hk; cases hk)); clear own hgr)
  obtain ⟨L, hL⟩ : ∃ L, L = W.heap.size := ⟨_, rfl⟩
  rw [← hL] at HRI ⊢
  have HLE := Lib.hid hL
  clear hL
  go_loopw [11] (fun v wr => ∃ k : Nat, k ≤ n ∧ v = .int .i64 (k : Int) ∧ RowI wr L ((l.map rwI).take k ++ List.replicate (n - k) 0) ∧ Below L W wr) (fun v _ => n - (intOf v).toNat)
  case atStart => exact ⟨0, Nat.zero_le _, rfl, by simpa using HRI.out, by rw [HLE.out]; exact HB1.out⟩
  case round =>
    obtain ⟨k, hk, rfl, hrow, hb⟩ := hrel
    have HROW := Lib.hid hrow; have HB : Hid (Below W.heap.size W wr) := Lib.hid (HLE.out ▸ hb)
    clear hrow hb HRI HB1
    by_cases hlt : k < n
    · obtain ⟨x, hx⟩ : ∃ x, l[k]? = some x := ⟨l[k]'(by have := hn.out; omega), List.getElem?_eq_getElem _⟩
      obtain ⟨hx64, g, off, rfl, -, hcx⟩ := (HL.out.keep HB.out) k x hx
      have HSN := Lib.hid (rw_snoc l k x hx)
      have HBI := Lib.hid (bits_any x hx64)
      have f2 := HROW.out.fr k
      obtain ⟨u2, c2⟩ := HROW.out.at k (by rw [List.length_append, List.length_replicate, List.length_take]; have := HLEN.out; omega)
      have HSET := Lib.hid (fill_set ((l.map rwI).take k) n k (by rw [List.length_take]; have := HLEN.out; omega) hlt (rwI x))
      obtain ⟨y, hy⟩ : ∃ y, y = Fl.canon x := ⟨_, rfl⟩
      rw [← hy] at HBI
      have hyw : IntKind.i64.wrap (y : Int) = rwI x := by rw [hy]; rfl
      clear hx hy
      go_wp2_with (go_at_call 37; refine (HBI.out _).mono ?_; rintro e w2 ⟨rfl, rfl⟩)
      go_roundw
      case rel => exact ⟨k + 1, by omega, by go_num, by rw [HSN.out, ← HSET.out]; exact HROW.out.set k (rwI x), by rw [HLE.out]; exact HB.out.setCell (Nat.le_refl _) _⟩
      case measure => simp [intOf]; omega
    · obtain rfl : k = n := by omega
      have hr := HROW.out
      rw [Nat.sub_self, List.replicate_zero, List.append_nil, List.take_of_length_le (by have := HLEN.out; omega)] at hr
      have HO := Lib.hid (hr.own (B := L) (Nat.le_refl _) (fun x hx => by obtain ⟨y, -, rfl⟩ := List.mem_map.1 hx; exact rwI_wf y) (by rw [HLEN.out]; exact hnm))
      rw [HLEN.out] at HO
      have HI := Lib.hid (ints_any (some ⟨L, 0, none⟩) k k (l.map rwI) (Lib.hid HLEN.out.symm) (Nat.le_refl _) (by omega) (by omega) wr (Lib.hid HO.out.isAt))
      clear hr
      go_wp2_with (go_at_call 14; (with_reducible refine (HI.out).mono ?_); rintro e w2 ⟨A2, n2, c2, rfl, h1, h2, h3⟩; have HO2 := Lib.hid (h1.more HB.out.size); have HB2 := Lib.hid (below_to HB.out h2); clear h1 h2 h3)
      go_ret
      exact ⟨A2, n2, c2, rfl, HO2.out, HB2.out, HB2.out.size⟩
def RRF (W : World) (l : List Nat) (n : Nat) (u v : Value) (wr : World) : Prop := ∃ (k : Nat) (A : Option Addr) (cap : Nat), k ≤ n ∧ v = .int .i64 (k : Int) ∧ u = .slice A k cap ∧ OwnI wr W.heap.size A k cap ((l.map rwI).take k) ∧ Below W.heap.size W wr
set_option maxHeartbeats 2000000 in
theorem refReals_any (b : Option Addr) (n c : Nat) (l : List Nat) (hn : Hid (n = l.length)) (hn1 : n ≤ 4096) (W : World) (HL : Hid (FlAt W b l)) :
    Calls Tryz.prog 25 #[.slice b n c] W (Puts W.heap.size W (intsL (l.map rwI))) := by
  have HLEN : Hid ((l.map rwI).length = n) := Lib.hid (by rw [List.length_map]; exact hn.out.symm)
  go_enter Tryz.func25, Tryz.ntmps25
  go_wp2
  go_loopw [3, 4] (fun u v wr => RRF W l n u v wr) (fun _ v _ => n - (intOf v).toNat)
  case atStart => exact ⟨0, none, 0, Nat.zero_le _, rfl, rfl, OwnI.nil _ _, Below.refl _ _⟩
  case round =>
    obtain ⟨k, A, cap, hk, rfl, rfl, ho, hb⟩ := hrel
    have HO := Lib.hid ho; have HB := Lib.hid hb
    have hb2 := Lib.hid ho.base
    clear ho hb
    by_cases hlt : k < n
    · obtain ⟨x, hx⟩ : ∃ x, l[k]? = some x := ⟨l[k]'(by have := hn.out; omega), List.getElem?_eq_getElem _⟩
      obtain ⟨hx64, g, off, rfl, -, hcx⟩ := (HL.out.keep HB.out) k x hx
      have HSN := Lib.hid (rw_snoc l k x hx)
      have HBI := Lib.hid (refBits_any x hx64)
      obtain ⟨y, hy⟩ : ∃ y, y = Fl.canon x := ⟨_, rfl⟩
      rw [← hy] at HBI
      obtain ⟨z, hz⟩ : ∃ z, z = rwI x := ⟨_, rfl⟩
      have hyw : IntKind.i64.wrap (y : Int) = z := by rw [hy, hz]; rfl
      rw [← hz] at HSN
      have HWZ : Hid (Wf64 z) := Lib.hid (by rw [hz]; exact rwI_wf x)
      have HAX := Lib.hid (is_one wr z HWZ.out)
      have HBB := Lib.hid ((Below.refl wr.heap.size wr).alloc (Nat.le_refl _) (.cells #[.int .i64 z] 2))
      have HOX := Lib.hid (HO.out.keep HBB.out)
      have hbs : W.heap.size ≤ (wr.alloc (.cells #[.int .i64 z] 2)).heap.size := Nat.le_trans HB.out.size HBB.out.size
      clear hx hy hz
      go_wp2_with (first
        | (go_at_call 55; refine (HBI.out _).mono ?_; rintro e w2 ⟨rfl, rfl⟩)
        | (refine wpList_append_is rfl (.tmp 11) (.tmp 18) rfl W.heap.size A k cap _ rfl HOX.out ⟨wr.heap.size, 0, none⟩ 1 1 [z] rfl rfl HAX.out (by omega) hbs ?_; intro A3 c3 w4 ho hg; have HO4 := Lib.hid ho; have HB4 : Hid (Below W.heap.size W w4) := Lib.hid ((below_to HB.out HBB.out).grown hg hbs hb2.out); clear ho hg))
      go_roundw
      case rel => exact ⟨k + 1, A3, c3, by omega, by go_num, rfl, by rw [HSN.out]; exact HO4.out, HB4.out⟩
      case measure => simp [intOf]; omega
    · obtain rfl : k = n := by omega
      rw [List.take_of_length_le (by have := HLEN.out; omega)] at HO
      obtain ⟨hkc, hcm⟩ := HO.out.caps
      have HI := Lib.hid (refInts_any A k cap (l.map rwI) (Lib.hid HLEN.out.symm) hkc hcm (by omega) wr (Lib.hid HO.out.isAt))
      go_wp2_with (go_at_call 23; (with_reducible refine (HI.out).mono ?_); rintro e w2 ⟨A2, n2, c2, rfl, h1, h2, h3⟩; have HO2 := Lib.hid (h1.more HB.out.size); have HB2 := Lib.hid (below_to HB.out h2); clear h1 h2 h3)
      go_ret
      exact ⟨A2, n2, c2, rfl, HO2.out, HB2.out, HB2.out.size⟩
end Go.Proofs.YtpobfgokikfmbaaGreatDoor

set_option linter.unusedSimpArgs false
set_option linter.unusedVariables false
set_option maxRecDepth 8000
namespace Go.Proofs.YtpobfgokikfmbaaGreatDoor
open Go.RowKit Go.WideShapes Col
theorem IsAt.kept {S : Nat → Prop} {w w' : World} {a : Option Addr} {l : List Int} (h : IsAt w a l) (hk : Kept S w w') (ho : ∀ b, a = some b → ¬ S b.block) : IsAt w' a l := fun k x hx => by
  obtain ⟨h1, g, off, h2, h3, h4⟩ := h k x hx
  have e := ho _ h2
  exact ⟨h1, g, off, h2, Nat.lt_of_lt_of_le h3 hk.size, (hk.cell (p := ⟨g, off + k, none⟩) h3 e).trans h4⟩
theorem OwnI.ltI {w : World} {B n cap : Nat} {A : Option Addr} {l : List Int} (h : OwnI w B A n cap l) (k : Nat) (hk : A.map (·.block) = some k) : k < w.heap.size := by
  rcases h.1.2 with ⟨h1, _⟩ | ⟨a, cap', cur, h1, hb, hrow, -⟩
  · injection h1 with e1 e2 e3; rw [e1] at hk; cases hk
  · injection h1 with e1 e2 e3; rw [e1] at hk; simp at hk; subst hk; exact (Array.getElem?_eq_some_iff.1 hrow).1
theorem un_snoc (xs : List Int) (k : Nat) (x : Int) (h : xs[k]? = some x) : (xs.map u64N).take (k + 1) = (xs.map u64N).take k ++ [u64N x] := by
  rw [List.take_add_one, List.getElem?_map, h]; rfl
theorem fill_setN (xs : List Nat) (n k : Nat) (hx : xs.length = k) (hk : k < n) (x : Nat) : (xs ++ List.replicate (n - k) 0).set k x = (xs ++ [x]) ++ List.replicate (n - (k + 1)) 0 := by
  obtain ⟨m, rfl⟩ : ∃ m, n = k + 1 + m := ⟨n - k - 1, by omega⟩
  rw [show k + 1 + m - k = m + 1 by omega, show k + 1 + m - (k + 1) = m by omega, List.replicate_succ, List.set_append_right _ _ (by omega), hx, Nat.sub_self, List.set_cons_zero, List.append_assoc]; rfl
theorem fillN_at (xs : List Nat) (n k : Nat) (hx : xs.length = k) (x : Nat) : ((xs ++ [x]) ++ List.replicate (n - (k + 1)) 0)[k]? = some x := by
  rw [List.append_assoc, List.getElem?_append_right (by omega), hx, Nat.sub_self]; rfl
set_option maxHeartbeats 4000000 in
theorem readReals_yes (g : Nat) (q : List Nat) (w : World) (H : Hid (RdM g q w)) (xs : List Int) (r : List Nat) (ho : Hid (rI q = some (xs, r))) (hok : Hid (∀ x ∈ xs, Fl.canon (u64N x) = u64N x)) (n : Nat) (hn : Hid (n = xs.length)) (hn1 : n ≤ 4096) :
    Calls Tryz.prog 80 #[.pointer (some ⟨g, 0, none⟩)] w fun e w' => ∃ L, e = .returned (.slice (some ⟨L, 0, none⟩) n n) ∧ w.heap.size ≤ L ∧ RowF w' L (xs.map u64N) ∧ RdM g r w' ∧ Kept (Only g) w w' := by
  obtain ⟨iu, hiu, hz0, hz1, hz2⟩ := info_parts infoF64
  have hzb : iu.bytes * n ≤ 281474976710656 := by rw [hz2]; omega
  have hnm : n ≤ maxLen := by unfold maxLen; omega
  have HI := Lib.hid (readInts_any g q w H)
  have hgl := H.out.1.glt
  have HLEN : Hid ((xs.map u64N).length = n) := Lib.hid (by rw [List.length_map]; exact hn.out.symm)
  go_enter Tryz.func80, Tryz.ntmps80
  go_wp2_with (first
    | (go_at_call 76; go_loud (refine (HI.out).mono ?_; intro e w2 h8; rw [ho.out] at h8; have h8 : (∃ A n' cap, e = .returned (.slice A n' cap) ∧ OwnI w2 w.heap.size A n' cap xs) ∧ RdM g r w2 ∧ Kept (Only g) w w2 := h8; obtain ⟨⟨A, n', cap, rfl, h3⟩, h4, h5⟩ := h8; obtain rfl : n' = n := (by have e1 := h3.len; have e2 := hn.out; omega); have HOW := Lib.hid h3; have HRD := Lib.hid h4; have HK := Lib.hid h5; clear h3 h4 h5))
    | (refine wpList_make_full _ rfl (.tmp 10) (.tmp 10) 42 rfl w2.heap.size 36 iu (.float .f64 0) 1 Tryz.underlying42 hiu hz0 hz1 .i64 .i64 _ _ n' rfl rfl rfl rfl hzb hnm (Nat.le_refl _) ?_; intro w3 own hgr; have HRF := Lib.hid (rowF_zeros own); have HB3 : Hid (Below w2.heap.size w2 w3) := Lib.hid ((Below.refl _ w2).grown hgr (Nat.le_refl _) (by intro k hk; cases hk)); clear own hgr))
  obtain ⟨L, hL⟩ : ∃ L, L = w2.heap.size := ⟨_, rfl⟩
  rw [← hL] at HRF ⊢
  have hwL : w.heap.size ≤ L := by rw [hL]; exact HK.out.size
  have HRD3 : Hid (RdM g r w3) := Lib.hid (HRD.out.high (S := fun _ => False) (Kept.of_below HB3.out) fun k e => e.elim)
  have HIS3 : Hid (IsAt w3 A xs) := Lib.hid (HOW.out.isAt.keep HB3.out)
  have HAL : Hid (∀ b, A = some b → b.block ≠ L) := Lib.hid fun b e => by have := HOW.out.ltI b.block (by rw [e]; rfl); omega
  have HK3 : Hid (Kept (Only g) w w3) := Lib.hid (HK.out.trans (Kept.of_below HB3.out))
  clear hL HOW HRD HK HB3 HI
  go_loopw [14] (fun v wr => ∃ k : Nat, k ≤ n' ∧ v = .int .i64 (k : Int) ∧ RowF wr L ((xs.map u64N).take k ++ List.replicate (n' - k) 0) ∧ RdM g r wr ∧ Kept (fun j => j = L) w3 wr) (fun v _ => n' - (intOf v).toNat)
  case atStart => exact ⟨0, Nat.zero_le _, rfl, by simpa using HRF.out, HRD3.out, Kept.refl _ _⟩
  case round =>
    obtain ⟨k, hk, rfl, hrow, hrd, hkp⟩ := hrel
    have HROW := Lib.hid hrow; have HRD := Lib.hid hrd; have HKL := Lib.hid hkp
    clear hrow hrd hkp HRF
    by_cases hlt : k < n'
    · obtain ⟨x, hx⟩ : ∃ x, xs[k]? = some x := ⟨xs[k]'(by have := hn.out; omega), List.getElem?_eq_getElem _⟩
      obtain ⟨-, ga, oa, rfl, hga, hca⟩ := (HIS3.out.kept HKL.out (fun b e h => HAL.out b e h)) k x hx
      have HGA := Lib.hid hga; have HCA := Lib.hid hca
      have HNE : Hid (ga ≠ L) := Lib.hid (HAL.out _ rfl)
      obtain ⟨hu1, hu2⟩ := u64N_eq x
      have HSN := Lib.hid (un_snoc xs k x hx)
      have hcan := hok.out x (List.mem_of_getElem? hx)
      obtain ⟨u, hu⟩ : ∃ u, u = u64N x := ⟨_, rfl⟩
      rw [← hu] at hu1 hu2 hcan HSN
      have hOF := of_any u hu2
      rw [hcan] at hOF
      have HOF := Lib.hid hOF
      have hBI := bits_any u hu2
      rw [hcan] at hBI
      have HBI := Lib.hid hBI
      have f2 := HROW.out.fr k
      obtain ⟨u2, c2⟩ := HROW.out.at k (by rw [List.length_append, List.length_replicate, List.length_take]; have := HLEN.out; omega)
      have HSET := Lib.hid (fill_setN ((xs.map u64N).take k) n' k (by rw [List.length_take]; have := HLEN.out; omega) hlt u)
      have HAT := Lib.hid (fillN_at ((xs.map u64N).take k) n' k (by rw [List.length_take]; have := HLEN.out; omega) u)
      have s1 := run_store_flC wr ⟨L, k, none⟩ u u2 c2 f2
      have HR2 : Hid (RowF (wr.setCell ⟨L, k, none⟩ (.float .f64 u)) L ((xs.map u64N).take (k + 1) ++ List.replicate (n' - (k + 1)) 0)) := Lib.hid (by rw [HSN.out, ← HSET.out]; exact HROW.out.set k u)
      have HK2 : Hid (Kept (fun j => j = L) wr (wr.setCell ⟨L, k, none⟩ (.float .f64 u))) := Lib.hid ((Kept.refl _ _).setCell _ _ (.inl rfl))
      have HRD2 : Hid (RdM g r (wr.setCell ⟨L, k, none⟩ (.float .f64 u))) := Lib.hid (HRD.out.high HK2.out fun j hj => by have hj : j = L := hj; omega)
      clear hx hu hcan hOF hBI hga
      go_upto_region 7 with (go_at_call 120; refine (HOF.out _).mono ?_; rintro e w9 ⟨rfl, rfl⟩)
      clear s1 c2 f2 hca
      generalize wr.setCell ⟨L, k, none⟩ (.float .f64 u) = w4 at *
      have c4 : w4.cell? ⟨L, k, none⟩ = some (.float .f64 u) := HR2.out.cell k u (by rw [HSN.out]; exact HAT.out)
      have huu : ((u : Int) == (u : Int)) = true := by simp
      go_wp2_with (first
        | (go_at_call 37; refine (HBI.out _).mono ?_; rintro e w9 ⟨rfl, rfl⟩)
        | (go_at_call 51; (with_reducible refine (check_true _ _).mono ?_); rintro e w9 ⟨rfl, rfl⟩))
      go_roundw
      case rel => exact ⟨k + 1, by omega, by go_num, HR2.out, HRD2.out, HKL.out.trans HK2.out⟩
      case measure => simp [intOf]; omega
    · obtain rfl : k = n' := by omega
      go_wp2
      go_ret
      have hr := HROW.out
      rw [Nat.sub_self, List.replicate_zero, List.append_nil, List.take_of_length_le (by have := HLEN.out; omega)] at hr
      exact ⟨L, rfl, hwL, hr, HRD.out, HK3.out.trans' HKL.out fun j hj => .inr (by have hj : j = L := hj; omega)⟩
/-- What the list's cell holds behind the reading. -/
def RdLF (us : List Nat) (n cl B : Nat) (b : Bool) (w : World) : Prop := b = true ∧ ∃ L, w.heap[cl]? = some (.cells #[.slice (some ⟨L, 0, none⟩) n n] 42 (0, 0)) ∧ RowF w L us ∧ B ≤ L
theorem off_slice' {w : World} {cl y z : Nat} {A x : Option Addr} {q : List Nat} {ty : TypeId} (h : ByAt w A q) (hr : w.heap[cl]? = some (.cells #[.slice x y z] ty (0, 0))) : Off (fun k => k = cl) A q := off_slice h hr
set_option maxHeartbeats 2000000 in
theorem listFnF_yes (g bf cl : Nat) (q : List Nat) (hql : q.length ≤ 1099511627776) (xs : List Int) (ho : Hid (rI q = some (xs, []))) (hok : Hid (∀ x ∈ xs, Fl.canon (u64N x) = u64N x)) (n : Nat) (hn : Hid (n = xs.length)) (hn1 : n ≤ 4096) (w : World) (HR : Hid (Rd w g q)) (Hf : Hid (w.heap[bf]? = some (.cells #[.func (.func 80) #[] #[]] 108 (0, 0)))) (Hc : Hid (w.heap[cl]? = some (.cells #[.slice none 0 0] 42 (0, 0)))) (h1 : cl < g) (h2 : bf < g) :
    Calls Tryz.prog 119 #[.pointer (some ⟨g, 0, none⟩), .pointer (some ⟨bf, 0, none⟩), .pointer (some ⟨cl, 0, none⟩)] w (Tried g (fun k => k = cl) (RdLF (xs.map u64N) n cl (g + 1)) w) := by
  have hc : w.cell? ⟨bf, 0, none⟩ = some (.func (.func 80) #[] #[]) := by rw [cell_of_row _ _ _ _ _ _ Hf.out]; rfl
  have HI := Lib.hid (readReals_yes g q w (Lib.hid ⟨HR.out, hql⟩) xs [] ho hok n hn hn1)
  have hgl := HR.out.glt
  go_enter Tryz.func119, Tryz.ntmps119
  go_wp2_with (go_at_call 80; refine (HI.out).mono ?_; rintro e w3 ⟨L, rfl, hL, hrf, hrd, hk⟩; have HRF := Lib.hid hrf; have HRD := Lib.hid hrd; have HK := Lib.hid hk; have hrow := hk.heap Hc.out (fun e => by have e : cl = g := e; omega); have c3 : w3.cell? ⟨cl, 0, none⟩ = some (.slice none 0 0) := (by rw [cell_of_row _ _ _ _ _ _ hrow]; rfl); have f3 : w3.frozen? ⟨cl, 0, none⟩ = false := row_frozen hrow 0; have HROW := Lib.hid hrow; clear hrf hrd hk hrow)
  have hk : Kept (fun k => k = cl) w3 (w3.setCell ⟨cl, 0, none⟩ (.slice (some ⟨L, 0, none⟩) n n)) := (Kept.refl _ _).setCell _ _ (.inl rfl)
  have hrow2 : (w3.setCell ⟨cl, 0, none⟩ (.slice (some ⟨L, 0, none⟩) n n)).heap[cl]? = some (.cells #[.slice (some ⟨L, 0, none⟩) n n] 42 (0, 0)) := by
    have := HROW.out; rw [World.setCell]; simp [Array.getElem?_modify, this]
  have hkk : Kept (fun k => k = cl ∨ k = g) w (w3.setCell ⟨cl, 0, none⟩ (.slice (some ⟨L, 0, none⟩) n n)) := (HK.out.mono fun k hk => .inl (.inr hk)).setCell _ _ (.inl (.inl rfl))
  refine bodyPost_end (results_none rfl _ _ _) rfl ⟨hkk, .inl ⟨[], rfl, HRD.out.1.high' hk (fun k hk => by have hk : k = cl := hk; omega) (fun A C h => off_slice h.bytes HROW.out), rfl, L, hrow2, HRF.out.keep hk (fun e => by have e : L = cl := e; omega), by omega⟩⟩
set_option maxHeartbeats 2000000 in
theorem readRealsC_yes (A : Option Addr) (C : Nat) (q : List Nat) (m : Nat) (hm : Hid (m = q.length)) (hm4 : m ≤ 1099511627776) (hC : m ≤ C) (hC' : C ≤ maxLen) (xs : List Int) (ho : Hid (rI q = some (xs, []))) (hok : Hid (∀ x ∈ xs, Fl.canon (u64N x) = u64N x)) (n : Nat) (hn : Hid (n = xs.length)) (hn1 : n ≤ 4096) (w : World) (HA : Hid (ByAt w A q)) :
    Calls Tryz.prog 50 #[.slice A m C] w fun e w' => ∃ L, e = .returned (.tuple #[.slice (some ⟨L, 0, none⟩) n n, .int .i64 0]) ∧ RowF w' L (xs.map u64N) ∧ Below w.heap.size w w' := by
  have hin : Calls Tryz.prog 79 #[.slice A m C, .func (.func 80) #[] #[]] w fun e w' => ∃ L, e = .returned (.tuple #[.slice (some ⟨L, 0, none⟩) n n, .int .i64 0]) ∧ RowF w' L (xs.map u64N) ∧ Below w.heap.size w w' := by
    obtain ⟨bf, w1, hbf, hw1, hrow1, hb1, hbf1⟩ := alloc_pt w (.func (.func 80) #[] #[]) 108
    obtain ⟨cl, w2, hcl, hw2, hrow2, hb2, hcl2⟩ := alloc_pt w1 (.slice none 0 0) 42
    have HW : Hid ((w.alloc (.cells #[.func (.func 80) #[] #[]] 108)).alloc (.cells #[.slice none 0 0] 42) = w2) := Lib.hid (by rw [hw2, hw1])
    have hsz : w1.heap.size = w.heap.size + 1 := by rw [hw1]; simp
    have HBF := Lib.hid hbf; have HCL : Hid (cl = w.heap.size + 1) := Lib.hid (by rw [hcl, hsz])
    have HB2 : Hid (Below w.heap.size w w2) := Lib.hid (below_to hb1 hb2)
    have hrf2 := (Kept.of_below (S := fun _ => False) hb2).heap hrow1 fun e => e
    have ht := try_any 119 #[] #[.pointer (some ⟨bf, 0, none⟩), .pointer (some ⟨cl, 0, none⟩)] A C q m hm hC hC' w2 (Lib.hid (HA.out.keep HB2.out)) (fun k => k = cl) (fun k hk => by have hk : k = cl := hk; omega)
      (fun g => RdLF (xs.map u64N) n cl (g + 1)) (RdLF (xs.map u64N) n cl w2.heap.size) (fun g b v2 v3 hg h hk => by
        obtain ⟨hb, L, hrow, hrf, hl⟩ := h
        exact ⟨hb, L, hk.heap hrow fun e => by have e : cl = g := e; omega, hrf.keep hk (fun e => by have e : L = g := e; omega), by omega⟩)
      (fun g v1 hg hr hb => listFnF_yes g bf cl q (by rw [← hm.out]; exact hm4) xs ho hok n hn hn1 v1 (Lib.hid hr) (Lib.hid ((Kept.of_below (S := fun _ => False) hb).heap hrf2 fun e => e)) (Lib.hid ((Kept.of_below (S := fun _ => False) hb).heap hrow2 fun e => e)) (by omega) (by omega))
      (fun _ _ => by first | rfl | kernel_rfl)
    have HT := Lib.hid ht
    clear ht hbf hw1 hrow1 hb1 hcl hw2 hrow2 hb2 hrf2 hbf1
    go_enter Tryz.func79, Tryz.ntmps79
    go_upto_region 2 with fail
    have e1 : w.heap.size = bf := HBF.out.symm
    have e2 : w.heap.size + 1 = cl := HCL.out.symm
    have hx : ∀ w3 : World, Kept (fun k => k = cl) w2 w3 → Below w.heap.size w w3 := fun w3 hk => HB2.out.trans (hk.below (B := w.heap.size) (by omega) fun k hk => by have hk : k = cl := hk; omega)
    have HX := Lib.hid hx
    clear hx
    rw [HW.out, e2, e1]
    clear e1 e2
    go_wp2_with (go_at_call 19; (with_reducible refine (HT.out).mono ?_); rintro e w3 ⟨b, rfl, ⟨rfl, L, hrow9, hrf9, hl9⟩, hk⟩; have HB3 := Lib.hid (HX.out w3 hk); have HRF := Lib.hid hrf9; have c9c : w3.cell? ⟨cl, 0, none⟩ = some (.slice (some ⟨L, 0, none⟩) n n) := (by rw [cell_of_row _ _ _ _ _ _ hrow9]; rfl); clear hk hrow9 hrf9)
    go_ret2
    exact ⟨L, rfl, HRF.out, HB3.out⟩
  have HT := Lib.hid hin
  clear hin
  go_enter Tryz.func50, Tryz.ntmps50
  go_wp2_with (go_at_call 79; (with_reducible refine (HT.out).mono ?_); rintro e w3 ⟨L, rfl, hrf, hb⟩; have HB := Lib.hid hb; have HRF := Lib.hid hrf; clear hb hrf)
  go_ret2
  exact ⟨L, rfl, HRF.out, HB.out⟩
end Go.Proofs.YtpobfgokikfmbaaGreatDoor

set_option linter.unusedSimpArgs false
set_option linter.unusedVariables false
set_option maxRecDepth 8000
namespace Go.Proofs.YtpobfgokikfmbaaGreatDoor
open Go.RowKit Go.WideShapes Col
namespace Col
theorem rruns_len : ∀ (m : Nat) (q : List Nat) (xs : List Int) (r : List Nat), rruns m q = some (xs, r) → xs.length = m := by
  intro m
  induction m using Nat.strongRecOn with
  | _ m ih =>
    intro q xs r h
    rcases m with _ | m
    · rw [rruns_zero] at h; injection h with h; injection h with h1 h2; rw [← h1]; rfl
    · rcases hz : zP q with _ | ⟨x, r1⟩
      · rw [rruns_no1 hz] at h; cases h
      · rcases hu : uP m r1 with _ | ⟨k, r2⟩
        · rw [rruns_no2 hz hu] at h; cases h
        · have hk : k ≤ m := (uP_some hu).2
          rw [rruns_yes hz hu] at h
          rcases hr : rruns (m - k) r2 with _ | ⟨ys, r3⟩
          · rw [hr] at h; cases h
          · have := ih (m - k) (by omega) r2 ys r3 hr
            rw [hr] at h; injection h with h; injection h with h1 h2
            rw [← h1]; simp; omega
theorem rdDelta_len {n : Nat} {q r : List Nat} {xs : List Int} (h : rdDelta n q = some (xs, r)) : xs.length = n := by
  unfold rdDelta at h
  rcases ho : runS dstep n (0, q) with _ | ⟨ys, s⟩
  · rw [ho] at h; cases h
  · rw [ho] at h; injection h with h; injection h with h1 h2; rw [← h1]; exact runS_len ho
theorem rpk_len {n : Nat} {q r : List Nat} {xs : List Int} (h : rpk n q = some (xs, r)) : xs.length = n := by
  by_cases h0 : n = 0
  · unfold rpk at h; rw [if_pos h0] at h; injection h with h; injection h with h1 h2; rw [← h1, h0]; rfl
  · rcases hz : zP q with _ | ⟨mn, r1⟩
    · unfold rpk at h; rw [if_neg h0, hz] at h; cases h
    · rw [rpk_of h0 hz] at h
      rcases r1 with _ | ⟨W, r2⟩
      · cases h
      · by_cases hc : W ≤ 64 ∧ (n * W + 7) / 8 ≤ r2.length ∧ vlb (r2.take ((n * W + 7) / 8)) < 2 ^ (n * W)
        · rw [rpk2_yes rfl hc] at h; injection h with h; injection h with h1 h2; rw [← h1]; simp
        · rw [rpk2_no rfl hc] at h; cases h
theorem rI_len {q r : List Nat} {xs : List Int} (h : rI q = some (xs, r)) : xs.length ≤ 4096 := by
  rcases q with _ | ⟨way, q⟩
  · cases h
  · rcases hu : uP 4096 q with _ | ⟨n, s⟩
    · rw [rI_no hu] at h; cases h
    · have hn : n ≤ 4096 := (uP_some hu).2
      rw [rI_yes hu] at h
      unfold rW at h
      split at h
      · rw [runS_len h]; exact hn
      · split at h
        · rw [rdDelta_len h]; exact hn
        · split at h
          · rw [rruns_len _ _ _ _ h]; exact hn
          · split at h
            · rw [rpk_len h]; exact hn
            · cases h
/-- Is each of some numbers the one form of a number with a point? -/
def okF (xs : List Int) : Bool := xs.all fun x => decide (Fl.canon (u64N x) = u64N x)
theorem okF_take {xs : List Int} {k : Nat} {x : Int} (h : okF (xs.take k) = true) (hx : xs[k]? = some x) (hc : Fl.canon (u64N x) = u64N x) : okF (xs.take (k + 1)) = true := by
  rw [List.take_add_one, hx]; unfold okF at *; simp [h, hc]
theorem okF_no {xs : List Int} {k : Nat} {x : Int} (hx : xs[k]? = some x) (hc : ¬ Fl.canon (u64N x) = u64N x) : okF xs = false := by
  unfold okF
  rw [List.all_eq_false]
  exact ⟨x, List.mem_of_getElem? hx, by simpa using hc⟩
/-- Numbers with a point read: the words, and the rest. -/
def rF (q : List Nat) : Option (List Nat × List Nat) := match rI q with
  | some p => if okF p.1 then some (p.1.map u64N, p.2) else none
  | none => none
theorem rF_no {q : List Nat} (h : rI q = none) : rF q = none := by unfold rF; rw [h]
theorem rF_bad {q r : List Nat} {xs : List Int} (h : rI q = some (xs, r)) (hb : okF xs = false) : rF q = none := by unfold rF; rw [h]; simp [hb]
theorem rF_yes {q r : List Nat} {xs : List Int} (h : rI q = some (xs, r)) (hb : okF xs = true) : rF q = some (xs.map u64N, r) := by unfold rF; rw [h]; simp [hb]
end Col
/-- How a reading of numbers with a point ends. -/
def FEnds (g : Nat) (o : Option (List Nat × List Nat)) (w : World) (e : Ending) (w' : World) : Prop := match o with
  | some p => ∃ L n, e = .returned (.slice (some ⟨L, 0, none⟩) n n) ∧ n = p.1.length ∧ w.heap.size ≤ L ∧ RowF w' L p.1 ∧ RdM g p.2 w' ∧ Kept (Only g) w w'
  | none => e = .panicked [gu g] ∧ Gone w' g ∧ Kept (Only g) w w'
theorem RowF.stay {S : Nat → Prop} {w w' : World} {g : Nat} {l : List Nat} (h : RowF w g l) (hk : Kept S w w') (hg : ¬ S g) : RowF w' g l := hk.heap h hg
set_option maxHeartbeats 4000000 in
theorem readReals_some (g : Nat) (q : List Nat) (w : World) (H : Hid (RdM g q w)) (xs : List Int) (r : List Nat) (ho : Hid (rI q = some (xs, r))) (n : Nat) (hn : Hid (n = xs.length)) (hn1 : n ≤ 4096) :
    Calls Tryz.prog 80 #[.pointer (some ⟨g, 0, none⟩)] w (FEnds g (rF q) w) := by
  obtain ⟨iu, hiu, hz0, hz1, hz2⟩ := info_parts infoF64
  have hzb : iu.bytes * n ≤ 281474976710656 := by rw [hz2]; omega
  have hnm : n ≤ maxLen := by unfold maxLen; omega
  have HI := Lib.hid (readInts_any g q w H)
  have hgl := H.out.1.glt
  have HLEN : Hid ((xs.map u64N).length = n) := Lib.hid (by rw [List.length_map]; exact hn.out.symm)
  go_enter Tryz.func80, Tryz.ntmps80
  go_wp2_with (first
    | (go_at_call 76; go_loud (refine (HI.out).mono ?_; intro e w2 h8; rw [ho.out] at h8; have h8 : (∃ A n' cap, e = .returned (.slice A n' cap) ∧ OwnI w2 w.heap.size A n' cap xs) ∧ RdM g r w2 ∧ Kept (Only g) w w2 := h8; obtain ⟨⟨A, n', cap, rfl, h3⟩, h4, h5⟩ := h8; obtain rfl : n' = n := (by have e1 := h3.len; have e2 := hn.out; omega); have HOW := Lib.hid h3; have HRD := Lib.hid h4; have HK := Lib.hid h5; clear h3 h4 h5))
    | (refine wpList_make_full _ rfl (.tmp 10) (.tmp 10) 42 rfl w2.heap.size 36 iu (.float .f64 0) 1 Tryz.underlying42 hiu hz0 hz1 .i64 .i64 _ _ n' rfl rfl rfl rfl hzb hnm (Nat.le_refl _) ?_; intro w3 own hgr; have HRF := Lib.hid (rowF_zeros own); have HB3 : Hid (Below w2.heap.size w2 w3) := Lib.hid ((Below.refl _ w2).grown hgr (Nat.le_refl _) (by intro k hk; cases hk)); clear own hgr))
  obtain ⟨L, hL⟩ : ∃ L, L = w2.heap.size := ⟨_, rfl⟩
  rw [← hL] at HRF ⊢
  have hwL : w.heap.size ≤ L := by rw [hL]; exact HK.out.size
  have HRD3 : Hid (RdM g r w3) := Lib.hid (HRD.out.high (S := fun _ => False) (Kept.of_below HB3.out) fun k e => e.elim)
  have HIS3 : Hid (IsAt w3 A xs) := Lib.hid (HOW.out.isAt.keep HB3.out)
  have HAL : Hid (∀ b, A = some b → b.block ≠ L) := Lib.hid fun b e => by have := HOW.out.ltI b.block (by rw [e]; rfl); omega
  have HK3 : Hid (Kept (Only g) w w3) := Lib.hid (HK.out.trans (Kept.of_below HB3.out))
  clear hL HOW HRD HK HB3 HI
  go_loopw [14] (fun v wr => ∃ k : Nat, k ≤ n' ∧ v = .int .i64 (k : Int) ∧ RowF wr L ((xs.map u64N).take k ++ List.replicate (n' - k) 0) ∧ RdM g r wr ∧ Kept (fun j => j = L) w3 wr ∧ okF (xs.take k) = true) (fun v _ => n' - (intOf v).toNat)
  case atStart => exact ⟨0, Nat.zero_le _, rfl, by simpa using HRF.out, HRD3.out, Kept.refl _ _, by rw [List.take_zero]; rfl⟩
  case round =>
    obtain ⟨k, hk, rfl, hrow, hrd, hkp, hokk⟩ := hrel
    have HOKK := Lib.hid hokk
    clear hokk
    have HROW := Lib.hid hrow; have HRD := Lib.hid hrd; have HKL := Lib.hid hkp
    clear hrow hrd hkp HRF
    by_cases hlt : k < n'
    · obtain ⟨x, hx⟩ : ∃ x, xs[k]? = some x := ⟨xs[k]'(by have := hn.out; omega), List.getElem?_eq_getElem _⟩
      obtain ⟨-, ga, oa, rfl, hga, hca⟩ := (HIS3.out.kept HKL.out (fun b e h => HAL.out b e h)) k x hx
      have HGA := Lib.hid hga; have HCA := Lib.hid hca
      have HNE : Hid (ga ≠ L) := Lib.hid (HAL.out _ rfl)
      obtain ⟨hu1, hu2⟩ := u64N_eq x
      have HSN := Lib.hid (un_snoc xs k x hx)
      by_cases hcan : Fl.canon (u64N x) = u64N x
      · have HOK1 := Lib.hid (okF_take HOKK.out hx hcan)
        obtain ⟨u, hu⟩ : ∃ u, u = u64N x := ⟨_, rfl⟩
        rw [← hu] at hu1 hu2 hcan HSN
        have hOF := of_any u hu2
        rw [hcan] at hOF
        have HOF := Lib.hid hOF
        have hBI := bits_any u hu2
        rw [hcan] at hBI
        have HBI := Lib.hid hBI
        have f2 := HROW.out.fr k
        obtain ⟨u2, c2⟩ := HROW.out.at k (by rw [List.length_append, List.length_replicate, List.length_take]; have := HLEN.out; omega)
        have HSET := Lib.hid (fill_setN ((xs.map u64N).take k) n' k (by rw [List.length_take]; have := HLEN.out; omega) hlt u)
        have HAT := Lib.hid (fillN_at ((xs.map u64N).take k) n' k (by rw [List.length_take]; have := HLEN.out; omega) u)
        have s1 := run_store_flC wr ⟨L, k, none⟩ u u2 c2 f2
        have HR2 : Hid (RowF (wr.setCell ⟨L, k, none⟩ (.float .f64 u)) L ((xs.map u64N).take (k + 1) ++ List.replicate (n' - (k + 1)) 0)) := Lib.hid (by rw [HSN.out, ← HSET.out]; exact HROW.out.set k u)
        have HK2 : Hid (Kept (fun j => j = L) wr (wr.setCell ⟨L, k, none⟩ (.float .f64 u))) := Lib.hid ((Kept.refl _ _).setCell _ _ (.inl rfl))
        have HRD2 : Hid (RdM g r (wr.setCell ⟨L, k, none⟩ (.float .f64 u))) := Lib.hid (HRD.out.high HK2.out fun j hj => by have hj : j = L := hj; omega)
        clear hx hu hcan hOF hBI hga
        go_upto_region 7 with (go_at_call 120; refine (HOF.out _).mono ?_; rintro e w9 ⟨rfl, rfl⟩)
        clear s1 c2 f2 hca
        generalize wr.setCell ⟨L, k, none⟩ (.float .f64 u) = w4 at *
        have c4 : w4.cell? ⟨L, k, none⟩ = some (.float .f64 u) := HR2.out.cell k u (by rw [HSN.out]; exact HAT.out)
        have huu : ((u : Int) == (u : Int)) = true := by simp
        go_wp2_with (first
          | (go_at_call 37; refine (HBI.out _).mono ?_; rintro e w9 ⟨rfl, rfl⟩)
          | (go_at_call 51; (with_reducible refine (check_true _ _).mono ?_); rintro e w9 ⟨rfl, rfl⟩))
        go_roundw
        case rel => exact ⟨k + 1, by omega, by go_num, HR2.out, HRD2.out, HKL.out.trans HK2.out, HOK1.out⟩
        case measure => simp [intOf]; omega
      · have HNO := Lib.hid (rF_bad ho.out (okF_no hx hcan))
        have hcl := Fl.canon_lt (u64N x) hu2
        have hcc := Fl.canon_canon (u64N x)
        obtain ⟨v, hv⟩ : ∃ v, v = u64N x := ⟨_, rfl⟩
        rw [← hv] at hu1 hu2 hcan hcl hcc
        obtain ⟨u, hu⟩ : ∃ u, u = Fl.canon v := ⟨_, rfl⟩
        rw [← hu] at hcan hcl hcc
        have hOF := of_any v hu2
        rw [← hu] at hOF
        have HOF := Lib.hid hOF
        have hBI := bits_any u hcl
        rw [hcc] at hBI
        have HBI := Lib.hid hBI
        have f2 := HROW.out.fr k
        obtain ⟨u2, c2⟩ := HROW.out.at k (by rw [List.length_append, List.length_replicate, List.length_take]; have := HLEN.out; omega)
        have HSET := Lib.hid (fill_setN ((xs.map u64N).take k) n' k (by rw [List.length_take]; have := HLEN.out; omega) hlt u)
        have HAT := Lib.hid (fillN_at ((xs.map u64N).take k) n' k (by rw [List.length_take]; have := HLEN.out; omega) u)
        have s1 := run_store_flC wr ⟨L, k, none⟩ u u2 c2 f2
        have HR2 : Hid (RowF (wr.setCell ⟨L, k, none⟩ (.float .f64 u)) L (((xs.map u64N).take k ++ [u]) ++ List.replicate (n' - (k + 1)) 0)) := Lib.hid (by rw [← HSET.out]; exact HROW.out.set k u)
        have HK2 : Hid (Kept (fun j => j = L) wr (wr.setCell ⟨L, k, none⟩ (.float .f64 u))) := Lib.hid ((Kept.refl _ _).setCell _ _ (.inl rfl))
        have HRD2 : Hid (RdM g r (wr.setCell ⟨L, k, none⟩ (.float .f64 u))) := Lib.hid (HRD.out.high HK2.out fun j hj => by have hj : j = L := hj; omega)
        clear hx hu hv hcl hcc hOF hBI hga
        go_upto_region 7 with (go_at_call 120; refine (HOF.out _).mono ?_; rintro e w9 ⟨rfl, rfl⟩)
        clear s1 c2 f2 hca
        generalize wr.setCell ⟨L, k, none⟩ (.float .f64 u) = w4 at *
        have c4 : w4.cell? ⟨L, k, none⟩ = some (.float .f64 u) := HR2.out.cell k u HAT.out
        have huu : ((u : Int) == (v : Int)) = false := by simpa using (show ¬ (u : Int) = (v : Int) by omega)
        obtain ⟨A9, C9, hRA⟩ := HRD2.out.1
        have HCF := Lib.hid (check_false g C9 A9 r w4 (Lib.hid hRA))
        clear hRA
        go_wp2_with (first
          | (go_at_call 37; refine (HBI.out _).mono ?_; rintro e w9 ⟨rfl, rfl⟩)
          | (go_at_call 51; (with_reducible refine (HCF.out).mono ?_); rintro e w9 ⟨rfl, h8, h9⟩))
        rw [HNO.out]
        exact ⟨rfl, rfl, h8, (HK3.out.trans' (HKL.out.trans HK2.out) fun j hj => .inr (by have hj : j = L := hj; omega)).trans h9⟩
    · obtain rfl : k = n' := by omega
      go_wp2
      go_ret
      have hr := HROW.out
      rw [Nat.sub_self, List.replicate_zero, List.append_nil, List.take_of_length_le (by have := HLEN.out; omega)] at hr
      rw [rF_yes ho.out (by have := HOKK.out; rwa [List.take_of_length_le (by have := hn.out; omega)] at this)]
      exact ⟨L, k, rfl, HLEN.out.symm, hwL, hr, HRD.out, HK3.out.trans' HKL.out fun j hj => .inr (by have hj : j = L := hj; omega)⟩
theorem readReals_any (g : Nat) (q : List Nat) (w : World) (H : Hid (RdM g q w)) :
    Calls Tryz.prog 80 #[.pointer (some ⟨g, 0, none⟩)] w (FEnds g (rF q) w) := by
  rcases ho : rI q with _ | ⟨xs, r⟩
  · have HO := Lib.hid ho
    clear ho
    have HI := Lib.hid (readInts_any g q w H)
    go_enter Tryz.func80, Tryz.ntmps80
    go_wp2_with (go_at_call 76; refine (HI.out).mono ?_; intro e w2 h8; rw [HO.out] at h8; obtain ⟨rfl, h1, h2⟩ := h8)
    rw [rF_no HO.out]
    exact ⟨rfl, rfl, h1, h2⟩
  · exact readReals_some g q w H xs r (Lib.hid ho) xs.length (Lib.hid rfl) (rI_len ho)
end Go.Proofs.YtpobfgokikfmbaaGreatDoor
