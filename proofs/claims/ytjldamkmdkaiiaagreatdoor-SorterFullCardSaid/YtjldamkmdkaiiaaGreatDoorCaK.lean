/-
  Layer column: Ints; the example.
-/
import Derived.Test.YtjldamkmdkaiiaaGreatDoorClK
set_option linter.unusedSimpArgs false
set_option linter.unusedVariables false
set_option maxRecDepth 8000
namespace Go.Proofs.YtjldamkmdkaiiaaGreatDoor
open Go.RowKit Go.WideShapes Col
namespace Col
def pk (W : Nat) : List Nat → Nat
 | [] => 0
 | d :: r => d + 2 ^ W * pk W r
theorem pk_app (W : Nat) : ∀ (l m : List Nat), pk W (l ++ m) = pk W l + 2 ^ (W * l.length) * pk W m
 | [], m => by simp [pk]
 | d :: l, m => by
  have ih := pk_app W l m
  have e : 2 ^ (W * (l.length + 1)) = 2 ^ W * 2 ^ (W * l.length) := by rw [Nat.mul_add, Nat.mul_one, Nat.add_comm, Nat.pow_add]
  rw [List.cons_append, pk, pk, ih, List.length_cons, e, Nat.mul_add, Nat.mul_assoc, Nat.add_assoc]
theorem pk_snoc (W : Nat) (l : List Nat) (k d : Nat) (h : l[k]? = some d) : pk W (l.take (k + 1)) = pk W (l.take k) + d * 2 ^ (k * W) := by
 have hk := (List.getElem?_eq_some_iff.1 h).1
 rw [List.take_add_one, h, pk_app, List.length_take, Nat.min_eq_left (by omega)]
 simp [pk, Nat.mul_comm]
theorem pk_lt (W : Nat) : ∀ (l : List Nat), (∀ d ∈ l, d < 2 ^ W) → pk W l < 2 ^ (W * l.length)
 | [], _ => by simp [pk]
 | d :: l, h => by
  have h1 := h d (List.mem_cons_self ..)
  have h2 := pk_lt W l fun x hx => h x (List.mem_cons_of_mem _ hx)
  rw [pk, List.length_cons, Nat.mul_add, Nat.mul_one, Nat.add_comm (W * l.length), Nat.pow_add]
  have h3 : 2 ^ W * (pk W l + 1) ≤ 2 ^ W * 2 ^ (W * l.length) := Nat.mul_le_mul_left _ h2
  rw [Nat.mul_add] at h3
  omega
theorem pk_take_lt (W : Nat) (l : List Nat) (k : Nat) (hk : k ≤ l.length) (h : ∀ d ∈ l, d < 2 ^ W) : pk W (l.take k) < 2 ^ (k * W) := by
 have := pk_lt W (l.take k) fun d hd => h d (List.mem_of_mem_take hd)
 rwa [List.length_take, Nat.min_eq_left hk, Nat.mul_comm] at this
def dig (mn x : Int) : Nat := (x - mn).toNat
def wid (l : List Int) : Nat := bitLen (mxL l - mnL l).toNat
def digs (l : List Int) : List Nat := l.map (dig (mnL l))
def lpk (l : List Int) : List Nat := if l = [] then [] else ub (zz (mnL l)) ++ ([wid l] ++ leb ((l.length * wid l + 7) / 8) (pk (wid l) (digs l)))
theorem lpk_nil : lpk [] = [] := rfl
theorem lpk_some {l : List Int} (h : 0 < l.length) : lpk l = ub (zz (mnL l)) ++ ([wid l] ++ leb ((l.length * wid l + 7) / 8) (pk (wid l) (digs l))) := by
 unfold lpk; rw [if_neg (by intro e; rw [e] at h; cases h)]
theorem mn_le {l : List Int} {x : Int} (h : x ∈ l) : mnL l ≤ x := (fmin_le l _).2 x h
theorem mx_ge {l : List Int} {x : Int} (h : x ∈ l) : x ≤ mxL l := (fmax_ge l _).2 x h
theorem mn_mx (l : List Int) : mnL l ≤ mxL l := by
 have h1 := (fmin_le l (l.headD 0)).1; have h2 := (fmax_ge l (l.headD 0)).1
 unfold mnL mxL; omega
theorem dig_lt {l : List Int} : ∀ d ∈ digs l, d < 2 ^ wid l := fun d hd => by
 obtain ⟨x, hx, rfl⟩ := List.mem_map.1 hd
 have h1 := mn_le hx; have h2 := mx_ge hx
 have h3 := (bitLen_spec (mxL l - mnL l).toNat).1
 unfold dig wid
 exact Nat.lt_of_le_of_lt (by omega) h3
theorem wid_le {l : List Int} (h : ∀ x ∈ l, Wf64 x) : wid l ≤ 64 := by
 have h1 := mnL_wf h; have h2 := mxL_wf h; have h3 := mn_mx l
 unfold Wf64 at h1 h2
 have hs := bitLen_spec (mxL l - mnL l).toNat
 unfold wid
 by_cases h0 : (mxL l - mnL l).toNat = 0
 ·rw [h0]; decide
 ·have h4 := hs.2 h0
  have h5 : 2 ^ (bitLen (mxL l - mnL l).toNat - 1) < 2 ^ 64 := by omega
  have := (Nat.pow_lt_pow_iff_right (by decide)).1 h5
  omega
theorem dig_u64 {mn x : Int} (h : mn ≤ x) (h1 : Wf64 mn) (h2 : Wf64 x) : IntKind.u64.wrap (wrap64 (x - mn)) = ((dig mn x : Nat) : Int) ∧ dig mn x < 18446744073709551616 := by
 unfold Wf64 at h1 h2
 unfold dig
 refine ⟨?_, by omega⟩
 rw [IntKind.wrap_u64]; unfold wrap64; omega
end Col
theorem OwnS.ltC {w : World} {B n cap : Nat} {A : Option Addr} {l : List Nat} (h : OwnS w B A n cap l) (k : Nat) (hk : A.map (·.block) = some k) : k < w.heap.size := by
 rcases h.1.2 with ⟨h1, _⟩ | ⟨a, cap', cur, h1, hb, hrow, -⟩
 ·injection h1 with e1 e2 e3; rw [e1] at hk; cases hk
 ·injection h1 with e1 e2 e3; rw [e1] at hk; simp at hk; subst hk; exact (Array.getElem?_eq_some_iff.1 hrow).1
theorem OwnS.keptG {w w' : World} {B n cap g : Nat} {A : Option Addr} {l : List Nat} (h : OwnS w B A n cap l) (hk : Kept (Only g) w w') (hne : ∀ k, A.map (·.block) = some k → k ≠ g) : OwnS w' B A n cap l :=
 ⟨h.1.kept (row := some g) ⟨hk.os, hk.tape, hk.output, hk.size, fun k hk' hn => hk.block k hk' (fun e => hn (by rw [show k = g from e]))⟩ (by
  rcases A with _ | a
  ·simp [Value.ownBlock]
  ·have := hne a.block rfl
   simp [Value.ownBlock]; intro e; exact this (by first | exact e | exact e.symm)), h.2⟩
theorem infoByteC : (Tryz.prog.info? 5).map (fun i => (i.zero, i.size, i.bytes)) = some (some (.int .u8 0), 1, 1) := by kernel_rfl
theorem rowB_zeros {w : World} {B g q : Nat} (h : w.ownsRow B 5 1 (.slice (some ⟨g, 0, none⟩) q q) q (madeCells (Value.int .u8 0).cells (q * 1)).toList) : RowB w g (leb q 0) := by
 rw [leb_zero]
 have e : bys (List.replicate q 0) = List.replicate q (.int .u8 0) := by unfold bys; rw [List.map_replicate]; rfl
 rw [Nat.mul_one, show (Value.int .u8 0).cells = #[.int .u8 0] from rfl, toList_madeCells_one, ← e] at h
 rcases h.2 with ⟨h1, h2⟩ | ⟨g', cap', cur, h1, hb, hrow, -, -, hs, ht⟩
 ·cases h1
 ·cases h1
  unfold RowB
  rw [hrow]
  have hc : cur = (bys (List.replicate q 0)).toArray := by
   apply Array.ext'
   rw [← ht, Nat.mul_one, List.take_of_length_le (by rw [Array.length_toList, hs]; omega)]
  rw [hc]
def PL (g K W : Nat) (ds : List Nat) (m : Nat) (w4 : World) (v : Value) (wr : World) : Prop := ∃ i : Nat, i ≤ m ∧ v = .int .i64 (i : Int) ∧ RowB wr g (leb K (pk W (ds.take i))) ∧ Kept (Only g) w4 wr
set_option maxHeartbeats 4000000 in
theorem layPacked_any (B : Nat) (A : Option Addr) (n cap : Nat) (p : List Nat) (b : Option Addr) (m c : Nat) (l : List Int) (hm : Hid (m = l.length)) (hn : n ≤ 1000000) (hm1 : m ≤ 1000000) (W0 : World) (HL0 : Hid (IsAt W0 b l)) (hB : B = W0.heap.size) (w : World) (HW0 : Hid (Below B W0 w)) (H : Hid (OwnS w B A n cap p)) :
  Calls Tryz.prog 125 #[.slice A n cap, .slice b m c] w (Puts B w (p ++ lpk l)) := by
 have HBB := Lib.hid hB
 have hBw : B ≤ w.heap.size := by rw [hB]; exact HW0.out.size
 have HL : Hid (IsAt w b l) := Lib.hid (HL0.out.keep (HBB.out ▸ HW0.out))
 clear hB
 by_cases h0 : m = 0
 ·have hl : l = [] := List.eq_nil_of_length_eq_zero (by have := hm.out; omega)
  subst hl
  subst h0
  go_enter Tryz.func125, Tryz.ntmps125
  go_wp2
  go_ret
  exact ⟨A, n, cap, rfl, by rw [lpk_nil, List.append_nil]; exact H.out, Below.refl _ _, Nat.le_refl _⟩
 ·have hwf := HL.out.wf
  have HWF := Lib.hid hwf
  obtain ⟨iu, hiu, hz0, hz1, hz2⟩ := info_parts infoByteC
  obtain ⟨mn, hmn⟩ : ∃ mn, mn = mnL l := ⟨_, rfl⟩
  obtain ⟨mx, hmx⟩ : ∃ mx, mx = mxL l := ⟨_, rfl⟩
  have HMNW : Hid (Wf64 mn) := Lib.hid (hmn ▸ mnL_wf hwf)
  have HMX : Hid (mn ≤ mx ∧ Wf64 mx) := Lib.hid ⟨by rw [hmn, hmx]; exact mn_mx l, hmx ▸ mxL_wf hwf⟩
  obtain ⟨D, hD⟩ : ∃ D, D = dig mn mx := ⟨_, rfl⟩
  obtain ⟨hDu, hD64⟩ := dig_u64 HMX.out.1 HMNW.out HMX.out.2
  rw [← hD] at hDu hD64
  obtain ⟨W, hW⟩ : ∃ W, W = wid l := ⟨_, rfl⟩
  have HWD : Hid (bitLen D = W) := Lib.hid (by rw [hW, hD, hmn, hmx]; rfl)
  have hW64 : W ≤ 64 := by rw [hW]; exact wid_le hwf
  obtain ⟨ds, hds⟩ : ∃ ds, ds = digs l := ⟨_, rfl⟩
  have HDS : Hid (∀ d ∈ ds, d < 2 ^ W) := Lib.hid (by rw [hds, hW]; exact dig_lt)
  have HDL : Hid (ds.length = m) := Lib.hid (by rw [hds, hm.out]; exact List.length_map ..)
  have HDX : Hid (∀ (i : Nat) (x : Int), l[i]? = some x → ds[i]? = some (dig mn x) ∧ IntKind.u64.wrap (wrap64 (x - mn)) = ((dig mn x : Nat) : Int) ∧ dig mn x < 18446744073709551616) := Lib.hid fun i x hx => by
   refine ⟨by rw [hds]; unfold digs; rw [List.getElem?_map, hx, hmn]; rfl, dig_u64 (by rw [hmn]; exact mn_le (List.mem_of_getElem? hx)) HMNW.out (hwf x (List.mem_of_getElem? hx))⟩
  obtain ⟨MW, hMW⟩ : ∃ MW, MW = m * W := ⟨_, rfl⟩
  have hMWb : MW ≤ 64000000 := by
   have : m * W ≤ 1000000 * 64 := Nat.mul_le_mul hm1 hW64
   omega
  have hMWi : (m : Int) * (W : Int) = (MW : Int) := by rw [hMW]; exact (Int.natCast_mul m W).symm
  obtain ⟨K, hK⟩ : ∃ K, K = (MW + 7) / 8 := ⟨_, rfl⟩
  have hKb : K ≤ 8000001 := by omega
  have HK8 : Hid (MW ≤ 8 * K) := Lib.hid (by omega)
  have HRES : Hid (lpk l = ub (zz mn) ++ ([W] ++ leb K (pk W ds))) := Lib.hid (by
   rw [lpk_some (by have := hm.out; omega), hK, hMW, hm.out, hW, hmn, hds])
  have HMN := Lib.hid (show mnL l = mn from hmn.symm)
  have HMXE := Lib.hid (show mxL l = mx from hmx.symm)
  have HZ := Lib.hid (zz10 HMNW.out)
  have HKK : Hid ((MW + 7) / 8 = K) := Lib.hid hK.symm
  have HMWE := Lib.hid hMW
  have hw8 : IntKind.u8.wrap (W : Int) = (W : Int) := by rw [IntKind.wrap_u8]; omega
  have hW256 : W < 256 := by omega
  have hm0 : 0 < m := by omega
  have hzb : iu.bytes * K ≤ 281474976710656 := by rw [hz2]; omega
  have hKm : K ≤ maxLen := by unfold maxLen; omega
  have h0' : ((m : Int) == 0) = false := by rw [beq_eq_false_iff_ne]; omega
  have HMIN := Lib.hid (minI_any b m c l hm hm0 hm1)
  have HMAX := Lib.hid (maxI_any b m c l hm hm0 hm1)
  have hLEN := lenC_any D hD64
  rw [HWD.out] at hLEN
  have HLEN := Lib.hid hLEN
  have hBC := byteCount_any MW (by omega)
  rw [HKK.out] at hBC
  have HBC := Lib.hid hBC
  have HPI := Lib.hid (putI_any B A n cap p mn HMNW w H (by omega) hBw)
  clear hwf hmn hmx hD hW hds hMW hK h0 hLEN hBC
  go_enter Tryz.func125, Tryz.ntmps125
  go_wp2_with (first
   | (go_at_call 147; refine (HMIN.out _ HL).mono ?_; rw [HMN.out]; rintro e w1 ⟨rfl, rfl⟩)
   | (go_at_call 149; refine (HMAX.out _ HL).mono ?_; rw [HMXE.out]; rintro e w1 ⟨rfl, rfl⟩)
   | (go_at_call 148; refine (HLEN.out _).mono ?_; rintro e w1 ⟨rfl, rfl⟩)
   | (go_at_call 150; refine (HBC.out _).mono ?_; rintro e w1 ⟨rfl, rfl⟩)
   | (go_at_call 146; (with_reducible refine (HPI.out).mono ?_); rintro e w1 ⟨A1, n1, c1, rfl, h1, h2, h3⟩; have HO1 := Lib.hid (h1.keep ((Below.refl _ _).alloc (Nat.le_refl _) (.cells #[.int .u8 (W : Int)] 5))); have HB1 := Lib.hid (h2.alloc (Nat.le_trans hBw h3) (.cells #[.int .u8 (W : Int)] 5)); have hn1 : n1 ≤ n + 10 := (by have e1 := h1.len; have e2 := H.out.len; have e3 := HZ.out; rw [List.length_append] at e1; omega); have HBW := Lib.hid (by_one w1 W hW256); have hbs1 : B ≤ (w1.alloc (.cells #[.int .u8 (W : Int)] 5)).heap.size := (by simp; omega); clear h1 h2 h3)
   | (refine wpList_append_by rfl (.tmp 24) (.tmp 27) rfl B A1 n1 c1 _ rfl HO1.out (some ⟨w1.heap.size, 0, none⟩) 1 1 [W] rfl rfl HBW.out (by omega) hbs1 ?_; intro A2 c2 w2 ho2 hg2 hr2; have HO2 := Lib.hid ho2; have HB2 := Lib.hid (HB1.out.grown hg2 hbs1 HO1.out.base); clear ho2 hg2 hr2)
   | (refine wpList_make_full _ rfl (.tmp 33) (.tmp 33) 32 rfl w2.heap.size 5 iu (.int .u8 0) 1 Tryz.underlying32 hiu hz0 hz1 .i64 .i64 _ _ K rfl rfl rfl rfl hzb hKm (Nat.le_refl _) ?_; intro w3 own hgr; have HRB := Lib.hid (rowB_zeros own); have HB3 : Hid (Below w2.heap.size w2 w3) := Lib.hid ((Below.refl _ w2).grown hgr (Nat.le_refl _) (by intro k hk; cases hk)); clear own hgr))
  obtain ⟨g, hg⟩ : ∃ g, g = w2.heap.size := ⟨_, rfl⟩
  have hBg : B ≤ g := by rw [hg]; exact Nat.le_trans hBw HB2.out.size
  rw [← hg] at HRB ⊢
  have HO3 := Lib.hid (HO2.out.keep HB3.out)
  have HNE : Hid (∀ k, A2.map (·.block) = some k → k ≠ g) := Lib.hid fun k hk => by have := HO2.out.ltC k hk; omega
  have HBA : Hid (Below B w w3) := Lib.hid (HB2.out.trans (HB3.out.mono (by omega)))
  have HG3 : Hid (g < w3.heap.size) := Lib.hid (Array.getElem?_eq_some_iff.1 HRB.out).1
  have HST : Hid (PL g K W ds m w3 (.int .i64 0) w3) := Lib.hid ⟨0, Nat.zero_le _, rfl, by rw [List.take_zero]; exact HRB.out, Kept.refl _ _⟩
  clear HRB HBW HB1 HB2 HO1 HO2 HPI hg HMIN HMAX HLEN HBC HMXE HMX
  go_loopw [37] (fun v wr => PL g K W ds m w3 v wr) (fun v _ => m - (intOf v).toNat)
  case atStart => exact HST.out
  case round =>
   obtain ⟨i, him, rfl, hrow, hk⟩ := hrel
   have HR := Lib.hid hrow; have HK := Lib.hid hk
   clear hrow hk HST
   by_cases hlt : i < m
   ·obtain ⟨x, hx⟩ : ∃ x, l[i]? = some x := ⟨l[i]'(by have := hm.out; omega), List.getElem?_eq_getElem _⟩
    obtain ⟨hwfx, g', off, rfl, hg', hc⟩ := HL0.out i x hx
    have hg3 : g' < w3.heap.size := Nat.lt_of_lt_of_le hg' (Nat.le_trans HW0.out.size HBA.out.size)
    have hne : ¬ g' = g := by have := HBB.out; omega
    have hcx : wr.cell? ⟨g', off + i, none⟩ = some (.int .i64 x) := (HK.out.cell (p := ⟨g', off + i, none⟩) hg3 hne).trans (((HBB.out ▸ (HW0.out.trans HBA.out) : Below W0.heap.size W0 w3).cell (p := ⟨g', off + i, none⟩) hg').trans hc)
    clear hg3 hne
    obtain ⟨hd1, hd2, hd3⟩ := HDX.out i x hx
    obtain ⟨d, hd⟩ : ∃ d, d = dig mn x := ⟨_, rfl⟩
    rw [← hd] at hd1 hd2 hd3
    have HD1 := Lib.hid hd1
    obtain ⟨at', hat⟩ : ∃ at', at' = i * W := ⟨_, rfl⟩
    have hati : (i : Int) * (W : Int) = (at' : Int) := by rw [hat]; exact (Int.natCast_mul i W).symm
    have hatb : at' ≤ 64000000 := by
     have : i * W ≤ 1000000 * 64 := Nat.mul_le_mul (by omega) hW64
     omega
    have HLT := Lib.hid (pk_take_lt W ds i (by have := HDL.out; omega) HDS.out)
    have HSN := Lib.hid (pk_snoc W ds i d hd1)
    have HT : Hid (pk W (ds.take i) + d * 2 ^ at' < 2 ^ (8 * K)) := Lib.hid (by
     have h1 := pk_take_lt W ds (i + 1) (by have := HDL.out; omega) HDS.out
     rw [pk_snoc W ds i d hd1, ← hat] at h1
     refine Nat.lt_of_lt_of_le h1 (Nat.pow_le_pow_right (by decide) ?_)
     have h2 : (i + 1) * W ≤ m * W := Nat.mul_le_mul_right _ (by omega)
     have := HK8.out; have := HMWE.out; omega)
    rw [← hat] at HLT HSN
    have HPB := Lib.hid (putBits_any g K (pk W (ds.take i)) at' d HLT.out hd3 (by omega) (by omega) HT wr HR)
    clear hx hwfx hg' hc hd1 hd hat HT HLT
    go_wp2_with (go_at_call 151; (with_reducible refine (HPB.out).mono ?_); rintro e w9 ⟨rfl, h1, h2⟩; have HR9 := Lib.hid h1; have HK9 := Lib.hid h2; clear h1 h2)
    go_roundw
    case rel => exact ⟨i + 1, by omega, by go_num, by rw [HSN.out]; exact HR9.out, HK.out.trans HK9.out⟩
    case measure => simp [intOf]; omega
   ·obtain rfl : i = m := by omega
    have HFB : Hid (ByAt wr (some ⟨g, 0, none⟩) (leb K (pk W ds))) := Lib.hid (by
     have h := HR.out
     rw [List.take_of_length_le (by have := HDL.out; omega)] at h
     exact ByAt.of_row _ (leb_lt _ _) h ⟨[], by simp⟩)
    have HO9 := Lib.hid (HO3.out.keptG HK.out HNE.out)
    have HBF : Hid (Below B w wr) := Lib.hid (HBA.out.trans (HK.out.below (B := B) (Nat.le_trans hBg (Nat.le_of_lt HG3.out)) (fun k hk => by have hk : k = g := hk; omega)))
    have hbs9 : B ≤ wr.heap.size := Nat.le_trans hBw HBF.out.size
    have HLL := Lib.hid (leb_length K (pk W ds))
    go_wp2_with (refine wpList_append_by rfl (.tmp 52) (.tmp 53) rfl B A2 (n1 + 1) c2 _ rfl HO9.out (some ⟨g, 0, none⟩) K K _ rfl HLL.out.symm HFB.out (by omega) hbs9 ?_; intro A4 c4 w4 ho4 hg4 hr4; have HO4 := Lib.hid ho4; have HB4 := Lib.hid (HBF.out.grown hg4 hbs9 HO9.out.base); clear ho4 hg4 hr4)
    go_ret
    exact ⟨A4, _, c4, rfl, by rw [HRES.out]; have := HO4.out; simpa only [List.append_assoc] using this, HB4.out, HB4.out.size⟩
namespace Col
def asL (way : Nat) (l : List Int) : List Nat := [way] ++ ub l.length ++ (if way = 0 then lpl l else if way = 1 then lde 0 l else if way = 2 then lru l else lpk l)
theorem lpl_len : ∀ l : List Int, (∀ x ∈ l, Wf64 x) → (lpl l).length ≤ 10 * l.length
 | [], _ => Nat.le_refl _
 | x :: l, h => by
  have h1 := zz10 (h x (List.mem_cons_self ..))
  have h2 := lpl_len l fun y hy => h y (List.mem_cons_of_mem _ hy)
  unfold lpl at *
  rw [List.flatMap_cons, List.length_append, List.length_cons]; omega
theorem lde_len : ∀ (l : List Int) (p : Int), (lde p l).length ≤ 10 * l.length
 | [], _ => Nat.le_refl _
 | x :: l, p => by
  have h1 := zz10 (sub64_wf x p)
  have h2 := lde_len l x
  rw [lde, List.length_append, List.length_cons]; omega
theorem lru_len (n : Nat) : ∀ l : List Int, l.length ≤ n → l.length ≤ 1000000 → (∀ x ∈ l, Wf64 x) → (lru l).length ≤ 20 * l.length := by
 induction n with
 | zero => intro l h _ _; rw [List.eq_nil_of_length_eq_zero (by omega : l.length = 0), lru_nil]; simp
 | succ n ih =>
  intro l h h1 h2
  rcases l with _ | ⟨x, l⟩
  ·rw [lru_nil]; simp
  ·rw [lru]
   have hr := runN_le x l
   have h3 := ih (l.drop (runN x l)) (by rw [List.length_drop]; simp at h; omega) (by rw [List.length_drop]; simp at h1; omega) fun y hy => h2 y (List.mem_cons_of_mem _ (List.mem_of_mem_drop hy))
   have h4 := zz10 (h2 x (List.mem_cons_self ..))
   have h5 : (ub (runN x l)).length ≤ 10 := ub10 (by simp at h1; omega)
   rw [List.length_drop] at h3
   rw [List.length_append, List.length_append, List.length_cons]; omega
theorem lpk_len (l : List Int) (h : ∀ x ∈ l, Wf64 x) : (lpk l).length ≤ 12 + 8 * l.length := by
 by_cases h0 : 0 < l.length
 ·rw [lpk_some h0, List.length_append, List.length_append, leb_length]
  have h1 := zz10 (mnL_wf h)
  have h2 := wid_le h
  have h3 : l.length * wid l ≤ l.length * 64 := Nat.mul_le_mul_left _ h2
  simp only [List.length_cons, List.length_nil]; omega
 ·rw [List.eq_nil_of_length_eq_zero (by omega : l.length = 0), lpk_nil]; simp
theorem asL_len (way : Nat) (l : List Int) (h : ∀ x ∈ l, Wf64 x) (hl : l.length ≤ 1000000) : (asL way l).length ≤ 23 + 20 * l.length := by
 have h1 : (ub l.length).length ≤ 10 := ub10 (by omega)
 unfold asL
 rw [List.length_append, List.length_append]
 have h2 := lpl_len l h; have h3 := lde_len l 0; have h4 := lru_len _ l (Nat.le_refl _) hl h; have h5 := lpk_len l h
 simp only [List.length_cons, List.length_nil]
 split
 ·omega
 ·split
  ·omega
  ·split <;> omega
end Col
set_option maxHeartbeats 2000000 in
theorem as_any (way : Nat) (hway : way < 4) (b : Option Addr) (m c : Nat) (l : List Int) (hm : Hid (m = l.length)) (hmc : m ≤ c) (hc : c ≤ 9223372036854775807) (hm1 : m ≤ 900000) (w : World) (HL : Hid (IsAt w b l)) :
  Calls Tryz.prog 94 #[.int .u8 (way : Int), .slice b m c] w (Puts w.heap.size w (asL way l)) := by
 obtain ⟨B, hB⟩ : ∃ B, B = w.heap.size := ⟨_, rfl⟩
 rw [← hB]
 have HBB := Lib.hid hB
 obtain ⟨w1, hw1⟩ : ∃ w1, w1 = w.alloc (.cells #[.int .u8 (way : Int)] 5) := ⟨_, rfl⟩
 have HA : Hid (w.alloc (.cells #[.int .u8 (way : Int)] 5) = w1) := Lib.hid hw1.symm
 have HB1 : Hid (Below B w w1) := Lib.hid (by rw [hw1]; exact (Below.refl _ _).alloc (by omega) _)
 have HO : Hid (OwnS w1 B (some ⟨B, 0, none⟩) 1 1 [way]) := Lib.hid (OwnS.of_row (cs := [.int .u8 (way : Int)]) (by rw [hw1, hB]; exact heap_alloc_new' w _) rfl (by decide) rfl rfl (Nat.le_refl _) (fun x hx => by simp at hx; omega))
 have hu := ub10 (show m < 18446744073709551616 by omega)
 have HU := Lib.hid hu
 have HM := Lib.hid hm.out
 have hmw : IntKind.u64.wrap (m : Int) = (m : Int) := by rw [IntKind.wrap_u64]; omega
 have HPU := Lib.hid (putU_any B _ 1 1 [way] m (by omega) w1 HO (by omega) (by have := HB1.out.size; omega))
 clear hu hB hw1
 have hway4 : way = 0 ∨ way = 1 ∨ way = 2 ∨ way = 3 := by omega
 rcases hway4 with rfl | rfl | rfl | rfl
 all_goals
  go_enter Tryz.func94, Tryz.ntmps94
  go_wp2_with (first
   | (go_at_call 93; have e := HA.out; (first | rw [← HBB.out, e] | (change World.alloc w (.cells #[.int .u8 0] 5) = w1 at e; rw [← HBB.out, e]) | (change World.alloc w (.cells #[.int .u8 1] 5) = w1 at e; rw [← HBB.out, e]) | (change World.alloc w (.cells #[.int .u8 2] 5) = w1 at e; rw [← HBB.out, e]) | (change World.alloc w (.cells #[.int .u8 3] 5) = w1 at e; rw [← HBB.out, e])); clear e; refine (HPU.out).mono ?_; rintro e w2 ⟨A2, n2, c2, rfl, h1, h2, h3⟩; have HO2 := Lib.hid h1; have HB2 := Lib.hid (HB1.out.trans h2); have hn2 : n2 ≤ 11 := (by have e1 := h1.len; have e2 := HU.out; simp at e1; omega); clear h1 h2 h3)
   | (go_at_call 122; refine (layPlain_any B A2 n2 c2 _ b m c l HM (by omega) (by omega) w HL HBB.out _ HB2 HO2).mono ?_; rintro e w3 ⟨A3, n3, c3, rfl, h1, h2, h3⟩; have HO3 := Lib.hid h1; have HB3 := Lib.hid (HB2.out.trans h2); clear h1 h2 h3)
   | (go_at_call 123; refine (layDelta_any B A2 n2 c2 _ b m c l HM (by omega) (by omega) w HL HBB.out _ HB2 HO2).mono ?_; rintro e w3 ⟨A3, n3, c3, rfl, h1, h2, h3⟩; have HO3 := Lib.hid h1; have HB3 := Lib.hid (HB2.out.trans h2); clear h1 h2 h3)
   | (go_at_call 124; refine (layRuns_any B A2 n2 c2 _ b m c l HM hmc hc (by omega) (by omega) w HL HBB.out _ HB2 HO2).mono ?_; rintro e w3 ⟨A3, n3, c3, rfl, h1, h2, h3⟩; have HO3 := Lib.hid h1; have HB3 := Lib.hid (HB2.out.trans h2); clear h1 h2 h3)
   | (go_at_call 125; refine (layPacked_any B A2 n2 c2 _ b m c l HM (by omega) (by omega) w HL HBB.out _ HB2 HO2).mono ?_; rintro e w3 ⟨A3, n3, c3, rfl, h1, h2, h3⟩; have HO3 := Lib.hid h1; have HB3 := Lib.hid (HB2.out.trans h2); clear h1 h2 h3))
  go_ret
  exact ⟨A3, n3, c3, rfl, by have := HO3.out; rw [HM.out] at this; exact this, HB3.out, HB3.out.size⟩
namespace Col
def pickL (best : List Nat) (p : List Nat) : List Nat := if p.length < best.length then p else best
def bestL (k : Nat) (l : List Int) : List Nat := match k with
 | 0 => asL 0 l
 | k + 1 => pickL (bestL k l) (asL (k + 1) l)
def intsL (l : List Int) : List Nat := bestL 3 l
end Col
def RI (W : World) (l : List Int) (u v : Value) (wr : World) : Prop := ∃ (k : Nat) (A : Option Addr) (n cap : Nat), k ≤ 3 ∧ v = .int .u8 ((k + 1 : Nat) : Int) ∧ u = .slice A n cap ∧ OwnS wr W.heap.size A n cap (bestL k l) ∧ Below W.heap.size W wr
set_option maxHeartbeats 2000000 in
theorem ints_any (b : Option Addr) (m c : Nat) (l : List Int) (hm : Hid (m = l.length)) (hmc : m ≤ c) (hc : c ≤ 9223372036854775807) (hm1 : m ≤ 900000) (W : World) (HL : Hid (IsAt W b l)) :
  Calls Tryz.prog 78 #[.slice b m c] W (Puts W.heap.size W (intsL l)) := by
 have HA := Lib.hid fun way hway w hl => as_any way hway b m c l hm hmc hc hm1 w hl
 have HWF : Hid (∀ x ∈ l, Wf64 x) := Lib.hid HL.out.wf
 have HA0 : Hid (Calls Tryz.prog 94 #[.int .u8 0, .slice b m c] W (Puts W.heap.size W (asL 0 l))) := Lib.hid (HA.out 0 (by decide) W HL)
 go_enter Tryz.func78, Tryz.ntmps78
 go_wp2_with (go_at_call 94; (with_reducible refine (HA0.out).mono ?_); rintro e w1 ⟨A1, n1, c1, rfl, h1, h2, h3⟩; have HO1 := Lib.hid h1; have HB1 := Lib.hid h2; clear h1 h2 h3)
 go_loopw [3, 4] (fun u v wr => RI W l u v wr) (fun _ v _ => 4 - (intOf v).toNat)
 case atStart => exact ⟨0, A1, n1, c1, by decide, rfl, rfl, HO1.out, HB1.out⟩
 case round =>
  obtain ⟨k, A, n, cap, hk, rfl, rfl, ho, hb⟩ := hrel
  have HO := Lib.hid ho; have HB := Lib.hid hb
  clear ho hb HA0
  have hk4 : k = 0 ∨ k = 1 ∨ k = 2 ∨ k = 3 := by omega
  by_cases h3 : k = 3
  ·subst h3
   go_wp2
   go_ret
   exact ⟨A, n, cap, rfl, HO.out, HB.out, HB.out.size⟩
  ·obtain ⟨K, hK⟩ : ∃ K, K = k + 1 := ⟨_, rfl⟩
   have HK := Lib.hid hK
   have hK4 : K < 4 := by omega
   have hK3 : K ≤ 3 := by omega
   rw [← hK]
   clear hK hk hk4 h3
   have HAK := Lib.hid (HA.out K hK4 wr (Lib.hid (HL.out.keep HB.out)))
   have HNL := Lib.hid HO.out.len
   go_upto_region 6 with (go_at_call 94; (with_reducible refine (HAK.out).mono ?_); rintro e w2 ⟨A2, n2, c2, rfl, h1, h2, h3⟩; have HO2 := Lib.hid (h1.more HB.out.size); have HB2 := Lib.hid (below_to HB.out h2); have HOK := Lib.hid (HO.out.keep h2); clear h1 h2 h3)
   have HN2 := Lib.hid HO2.out.len
   by_cases hlt : n2 < n
   ·have HS : Hid (bestL K l = asL K l) := Lib.hid (by rw [HK.out]; unfold bestL pickL; rw [if_pos (by have := HNL.out; have := HN2.out; rw [← HK.out]; omega)])
    go_wp2
    go_roundw
    case rel => exact ⟨K, A2, n2, c2, hK3, by go_num, rfl, by rw [HS.out]; exact HO2.out, HB2.out⟩
    case measure => have := HK.out; simp [intOf]; omega
   ·have HS : Hid (bestL K l = bestL k l) := Lib.hid (by rw [HK.out]; unfold bestL; unfold pickL; rw [if_neg (by have := HNL.out; have := HN2.out; rw [← HK.out]; omega)]; cases k <;> rfl)
    go_wp2
    go_roundw
    case rel => exact ⟨K, A, n, cap, hK3, by go_num, rfl, by rw [HS.out]; exact HOK.out, HB2.out⟩
    case measure => have := HK.out; simp [intOf]; omega
end Go.Proofs.YtjldamkmdkaiiaaGreatDoor
