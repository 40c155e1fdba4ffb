/-
  Layer column: Texts of any texts.
-/
import Derived.Shelf.Slices.In.SortNone
import Derived.Sort.OwnSorted
import Derived.Sort.EveryDepth
import Derived.Lib.OwnBridge
import Derived.Lib.RowBridge
import Derived.Test.YtifabkbdiiolfaaDoorUjK
import Derived.Test.YtifabkbdiiolfaaDoorUdK
import Derived.Test.YtifabkbdiiolfaaDoorCdK
set_option linter.unusedSimpArgs false
set_option linter.unusedVariables false
set_option maxRecDepth 8000
namespace Go.Proofs.YtifabkbdiiolfaaDoor
open Go.RowKit Go.Sort Go.WideShapes Col
/-- A text's bytes as the shelf has them, and back. -/
def tb (x : List Nat) : List UInt8 := (strB x).data.toList
def nb (z : List UInt8) : List Nat := z.map UInt8.toNat
theorem nb_wf (z : List UInt8) : WfT (nb z) := fun c hc => by
 obtain ⟨u, -, rfl⟩ := List.mem_map.1 hc
 exact u.toNat_lt
theorem tb_nb (z : List UInt8) : tb (nb z) = z := by
 unfold tb nb strB
 rw [strOfNums_data, List.map_map, List.map_map]
 conv => rhs; rw [← List.map_id z]
 refine List.map_congr_left fun u _ => ?_
 simp
theorem tb_inj {x y : List Nat} (hx : WfT x) (hy : WfT y) (h : tb x = tb y) : x = y := by
 refine strB_inj hx hy ?_
 exact ByteArray.ext (Array.ext' h)
theorem nb_tb {x : List Nat} (hx : WfT x) : nb (tb x) = x := tb_inj (nb_wf _) hx (tb_nb _)
theorem tvs_tb (l : List (List Nat)) : (l.map tb).map encStr = tvs l := by
 have h := Go.Lib.map_encStr (l.map strB)
 simp only [List.map_map] at h
 unfold tvs
 rw [List.map_map]
 exact h
theorem tvs_nb (zs : List (List UInt8)) : tvs (zs.map nb) = zs.map encStr := by
 have e : (zs.map nb).map tb = zs := by
  rw [List.map_map]
  conv => rhs; rw [← List.map_id zs]
  exact List.map_congr_left fun z _ => tb_nb z
 rw [← tvs_tb, e]
def srtZ (zs : List (List UInt8)) : List (List UInt8) := zs.mergeSort fun x y => decide (x ≤ y)
theorem srtZ_len (zs : List (List UInt8)) : (srtZ zs).length = zs.length := List.length_mergeSort zs
/-- Those that there are, rising. -/
def uqZ (l : List (List Nat)) : List (List Nat) := (Go.Lib.compact (srtZ (l.map tb))).map nb
theorem rise_of {zs : List (List UInt8)} (h : zs.Pairwise (· < ·)) : Rise (zs.map nb) := by
 unfold Rise
 rw [List.pairwise_map]
 refine h.imp fun {a b} hab => ?_
 rw [tls_dec, decide_eq_true_eq, Lib.toList_data, Lib.toList_data]
 have ea := tb_nb a
 have eb := tb_nb b
 unfold tb at ea eb
 rw [ea, eb]
 exact hab
theorem uqZ_eq (l : List (List Nat)) (hw : ∀ x ∈ l, WfT x) : uqZ l = uqL l := by
 obtain ⟨hr, hm⟩ := uqL_facts l hw
 have hs : (srtZ (l.map tb)).Pairwise (· ≤ ·) := by
  have h := List.pairwise_mergeSort (le := fun x y : List UInt8 => decide (x ≤ y)) (fun a b c h1 h2 => by
   rw [decide_eq_true_eq] at h1 h2 ⊢
   exact List.le_trans h1 h2) (fun a b => by
   rw [Bool.or_eq_true, decide_eq_true_eq, decide_eq_true_eq]
   exact List.le_total a b) (l.map tb)
  exact h.imp fun {a b} hab => of_decide_eq_true hab
 obtain ⟨h1, h2⟩ := com_facts _ hs _ (Nat.le_refl _)
 refine rise_ext (rise_of h1) hr fun y => ?_
 rw [hm]
 unfold uqZ
 rw [List.mem_map]
 constructor
 ·rintro ⟨z, hz, rfl⟩
  have h3 := (h2 z).1 hz
  rw [List.take_length] at h3
  have h4 := (List.mergeSort_perm (l.map tb) _).mem_iff.1 h3
  obtain ⟨x, hx, rfl⟩ := List.mem_map.1 h4
  rw [nb_tb (hw x hx)]; exact hx
 ·intro hy
  refine ⟨tb y, (h2 _).2 ?_, nb_tb (hw y hy)⟩
  rw [List.take_length]
  exact (List.mergeSort_perm (l.map tb) _).mem_iff.2 (List.mem_map.2 ⟨y, hy, rfl⟩)
theorem sort_txs (B g n c : Nat) (l : List (List Nat)) (hn5 : n ≤ 5000) (w : World) (H : Hid (OwnX w B (some ⟨g, 0, none⟩) n c l)) (hB : B ≤ w.heap.size) :
  Calls Tryd.prog 55 #[.slice (some ⟨g, 0, none⟩) n c] w fun e w' => e = .returned (.tuple #[]) ∧ OwnX w' B (some ⟨g, 0, none⟩) n c ((srtZ (l.map tb)).map nb) ∧ Below B w w' := by
 obtain ⟨hown, hwf⟩ := H.out
 rw [← tvs_tb] at hown
 obtain ⟨g', cap, he, hbg, hgl, hnc, hcm, hlen, hH⟩ := Go.Lib.holds_of_ownsRow hown (by simp)
 cases he
 have h : Calls Tryd.prog (sorT_ren.f 190) _ w _ := calls_of_every_depth fun D => AnyS.slices_Sort_string_alone sorT D g 0 c (l.map tb) w hH hgl (by omega)
 rw [hlen] at h
 change Calls Tryd.prog 55 _ _ _ at h
 refine h.mono fun e w' ⟨he, nn, os, hw⟩ => ⟨he, ⟨?_, fun x hx => ?_⟩, ?_⟩
 ·rcases hown.2 with ⟨e0, _⟩ | ⟨g', cap', cur, e0, hb, hrow, h1, h2, h3, h4⟩
  ·cases e0
  ·cases e0
   have h5 := ownsRow_sorted (n := nn) (os := os) (ts := srtZ (l.map tb)) (ss := l.map tb) (srtZ_len _) hb hrow (by rw [hlen]; exact h1) h2 h3
   rw [hlen] at h5
   rw [tvs_nb, hw]
   exact h5
 ·obtain ⟨z, -, rfl⟩ := List.mem_map.1 hx
  exact nb_wf z
 ·rw [hw]
  exact (Below.refl B w).grown (grownBy_sorted _) hB (fun k hk => by injection hk with hk; omega)
theorem compact_txs (B g n c : Nat) (zs : List (List UInt8)) (hn5 : n ≤ 5000) (w : World) (H : Hid (OwnX w B (some ⟨g, 0, none⟩) n c (zs.map nb))) :
  Calls Tryd.prog 56 #[.slice (some ⟨g, 0, none⟩) n c] w fun e w' => e = .returned (.slice (some ⟨g, 0, none⟩) (Go.Lib.compact zs).length c) ∧ OwnX w' B (some ⟨g, 0, none⟩) (Go.Lib.compact zs).length c ((Go.Lib.compact zs).map nb) ∧ Below B w w' := by
 obtain ⟨hown, hwf⟩ := H.out
 rw [tvs_nb] at hown
 obtain ⟨g', cap, he, hbg, hgl, hnc, hcm, hlen, hH⟩ := Go.Lib.holds_of_ownsRow hown (by simp)
 cases he
 have hle := Go.Lib.compact_length_le zs
 have h : Calls Tryd.prog (comT_ren.f 194) _ w _ := calls_of_every_depth fun D => AnyS.slices_Compact_string_in comT D g 0 c zs w hH (by omega) (by omega)
 rw [hlen] at h
 change Calls Tryd.prog 56 _ _ _ at h
 refine h.mono fun e w' ⟨he, q, hw⟩ => ⟨he, ⟨?_, fun x hx => ?_⟩, ?_⟩
 ·have hc := Go.Lib.ownsRow_putRow (q := q) (k := (Go.Lib.compact zs).length) (ys := Go.Lib.compact zs ++ List.replicate (n - (Go.Lib.compact zs).length) []) hown (by rw [List.length_append, List.length_replicate]; omega) (by omega)
  rw [List.take_left] at hc
  rw [tvs_nb, hw]
  exact hc
 ·obtain ⟨z, -, rfl⟩ := List.mem_map.1 hx
  exact nb_wf z
 ·rw [hw]
  exact Go.Lib.below_putRow (Below.refl B w) hbg
theorem clone_zeroX (a : Addr) (c : Nat) (w : World) :
  Calls Tryd.prog 54 #[.slice (some a) 0 c] w fun e w' => ∃ A1 c1, e = .returned (.slice A1 0 c1) ∧ OwnX w' w.heap.size A1 0 c1 [] ∧ Below w.heap.size w w' := by
 have q22 : ∀ w : World, (binOp .eql 69 (.slice (some a) 0 c) (.slice none 0 0)).run Tryd.prog w = .ok (.bool false) w := fun w => Lib.run_eql_slice_nil w _ _ (some a) 0 c 0 0 Tryd.underlying69
 have hO : OwnX (w.alloc (.cells #[] 9)) w.heap.size (some ⟨w.heap.size, 0, none⟩) 0 0 [] := ⟨⟨rfl, .inr ⟨w.heap.size, 0, #[], rfl, Nat.le_refl _, heap_alloc_new' w _, Nat.le_refl _, Nat.zero_le _, rfl, rfl⟩⟩, fun x hx => by cases hx⟩
 have HB0 := (Below.refl w.heap.size w).alloc (Nat.le_refl _) (.cells #[] 9)
 have hsz : w.heap.size ≤ (w.alloc (.cells #[] 9)).heap.size := HB0.size
 go_enter Tryd.func54, Tryd.ntmps54
 go_wp2
 go_ret
 exact ⟨_, _, rfl, hO, HB0⟩
/-- Of any texts, none of them too. -/
theorem clone_anyX (A0 : Option Addr) (n c : Nat) (l : List (List Nat)) (hn : Hid (n = l.length)) (hb : n ≤ 5000) (w : World) (H : Hid (TxAt w A0 l)) :
  Calls Tryd.prog 54 #[.slice A0 n c] w fun e w' => ∃ A1 c1, e = .returned (.slice A1 n c1) ∧ OwnX w' w.heap.size A1 n c1 l ∧ Below w.heap.size w w' := by
 rcases A0 with _ | a
 ·have hl : l = [] := by
   rcases l with _ | ⟨x, r⟩
   ·rfl
   ·obtain ⟨-, g, off, e, -⟩ := H.out 0 x rfl; cases e
  subst hl
  have h0 : n = 0 := hn.out
  subst h0
  have h := AnyE.slices_Clone_nil cloT 0 c w
  change Calls Tryd.prog 54 _ _ _ at h
  exact h.mono fun e w' ⟨he, hw⟩ => ⟨none, 0, he, OwnX.nil _ _, by rw [hw]; exact Below.refl _ _⟩
 ·by_cases h0 : 0 < n
  ·obtain ⟨g, off, e, -, -⟩ := H.out.spot (by have := hn.out; omega)
   cases e
   exact (clone_txs g off n c l hn hb w H h0).mono fun e w' ⟨rb, cr, he, _, ho, hbl⟩ => ⟨_, _, he, ho, hbl⟩
  ·have h0 : n = 0 := by omega
   subst h0
   have hl : l = [] := List.eq_nil_of_length_eq_zero hn.out.symm
   subst hl
   exact clone_zeroX a c w
theorem sort_anyX (B : Nat) (A : Option Addr) (n c : Nat) (l : List (List Nat)) (hn5 : n ≤ 5000) (w : World) (H : Hid (OwnX w B A n c l)) (hB : B ≤ w.heap.size) :
  Calls Tryd.prog 55 #[.slice A n c] w fun e w' => e = .returned (.tuple #[]) ∧ OwnX w' B A n c ((srtZ (l.map tb)).map nb) ∧ Below B w w' := by
 rcases H.out.1.2 with ⟨e0, h0⟩ | ⟨g, cap', cur, e0, hb, hrow, h1, h2, h3, h4⟩
 ·cases e0
  have hl : l = [] := List.eq_nil_of_length_eq_zero H.out.len.symm
  subst hl
  have h : Calls Tryd.prog (sorT_ren.f 190) _ w _ := calls_of_every_depth fun D => AnyS.slices_Sort_string_none_alone sorT D none 0 w
  change Calls Tryd.prog 55 _ _ _ at h
  have e0 : srtZ [] = [] := List.eq_nil_of_length_eq_zero (srtZ_len [])
  rw [List.map_nil, e0]
  exact h.mono fun e w' ⟨he, hw⟩ => ⟨he, by rw [hw]; exact OwnX.nil _ _, by rw [hw]; exact Below.refl _ _⟩
 ·cases e0
  exact sort_txs B g n c l hn5 w H hB
theorem compact_anyX (B : Nat) (A : Option Addr) (n c : Nat) (zs : List (List UInt8)) (hn5 : n ≤ 5000) (w : World) (H : Hid (OwnX w B A n c (zs.map nb))) :
  Calls Tryd.prog 56 #[.slice A n c] w fun e w' => ∃ A1 m, e = .returned (.slice A1 m c) ∧ OwnX w' B A1 m c ((Go.Lib.compact zs).map nb) ∧ Below B w w' := by
 rcases H.out.1.2 with ⟨e0, h0⟩ | ⟨g, cap', cur, e0, hb, hrow, h1, h2, h3, h4⟩
 ·cases e0
  have hl : zs = [] := by
   have := H.out.len
   rw [List.length_map] at this
   exact List.eq_nil_of_length_eq_zero this.symm
  subst hl
  have h : Calls Tryd.prog (comT_ren.f 194) _ w _ := calls_of_every_depth fun D => AnyS.slices_Compact_string_empty_in comT D none 0 w
  change Calls Tryd.prog 56 _ _ _ at h
  exact h.mono fun e w' ⟨he, hw⟩ => ⟨none, 0, he, by rw [hw]; exact OwnX.nil _ _, by rw [hw]; exact Below.refl _ _⟩
 ·cases e0
  exact (compact_txs B g n c zs hn5 w H).mono fun e w' ⟨he, ho, hb⟩ => ⟨_, _, he, ho, hb⟩
end Go.Proofs.YtifabkbdiiolfaaDoor

namespace Go.Proofs.YtifabkbdiiolfaaDoor
open Go.RowKit Go.Sort Go.WideShapes Col
theorem flat_snoc (m : Nat) (all : List (List Nat)) (j : Nat) (s : List Nat) (h : all[j]? = some s) : ub m ++ ((all.take j).map txL).flatten ++ txL s = ub m ++ ((all.take (j + 1)).map txL).flatten := by
 rw [List.take_add_one, h]
 simp
theorem plc_wf (all : List (List Nat)) (hn : all.length ≤ 5000) (x : List Nat) : Wf64 (plc all x : Int) := by
 have := plc_le all x
 exact ⟨by omega, by omega⟩
theorem plc_snoc (all l : List (List Nat)) (k : Nat) (x : List Nat) (h : l[k]? = some x) : (l.map fun x => (plc all x : Int)).take (k + 1) = (l.map fun x => (plc all x : Int)).take k ++ [(plc all x : Int)] := by
 rw [List.take_add_one, List.getElem?_map, h]; rfl
set_option maxHeartbeats 8000000 in
theorem textsC_any (A0 : Option Addr) (n c : Nat) (l : List (List Nat)) (hn : Hid (n = l.length)) (hn5 : n ≤ 4096) (hl1 : Hid (∀ y ∈ l, y.length ≤ 1000000)) (W : World) (HL : Hid (TxAt W A0 l)) :
  Calls Tryd.prog 33 #[.slice A0 n c] W (Puts W.heap.size W (textsL l)) := by
 obtain ⟨iu, hiu, hz0, hz1, hz2⟩ := info_parts infoI64'
 have hzb : iu.bytes * n ≤ 281474976710656 := by rw [hz2]; omega
 have hnm : n ≤ maxLen := by unfold maxLen; omega
 have HWT : Hid (∀ y ∈ l, WfT y) := Lib.hid HL.out.wf
 have HEQ : Hid ((Go.Lib.compact (srtZ (l.map tb))).map nb = uqL l) := Lib.hid (uqZ_eq l HWT.out)
 obtain ⟨ur, hum⟩ := uqL_facts l HWT.out
 have HUR := Lib.hid ur; have HUM := Lib.hid hum
 have HUN : Hid ((uqL l).length ≤ 4096) := Lib.hid (Nat.le_trans (uqL_len l) (by have := hn.out; omega))
 have HUW : Hid (∀ y ∈ uqL l, WfT y ∧ y.length ≤ 1000000) := Lib.hid fun y hy => ⟨uqL_wf HWT.out y hy, hl1.out y ((HUM.out y).1 hy)⟩
 obtain ⟨all, hall⟩ : ∃ all, all = uqL l := ⟨_, rfl⟩
 have HXT : Hid (textsL l = ub all.length ++ (all.map txL).flatten ++ intsL (l.map fun x => (plc all x : Int))) := Lib.hid (by rw [hall]; rfl)
 rw [← hall] at HEQ HUR HUM HUN HUW
 clear hall ur hum
 go_enter Tryd.func33, Tryd.ntmps33
 go_wp2_with (first
  | (go_at_call 54; refine (clone_anyX A0 n c l hn (by omega) _ HL).mono ?_; rintro e w1 ⟨A1, c1, rfl, ho, hb⟩; have HO1 := Lib.hid ho; have HB1 := Lib.hid hb; clear ho hb)
  | (go_at_call 55; refine (sort_anyX W.heap.size A1 n c1 l (by omega) _ HO1 HB1.out.size).mono ?_; rintro e w2 ⟨rfl, ho, hb⟩; have HO2 := Lib.hid ho; have HB2 := Lib.hid (HB1.out.trans hb); clear ho hb)
  | (go_at_call 56; refine (compact_anyX W.heap.size A1 n c1 (srtZ (l.map tb)) (by omega) _ HO2).mono ?_; rintro e w3 ⟨Au, m, rfl, ho, hb⟩; rw [HEQ.out] at ho; have HOX := Lib.hid ho; have HB3 := Lib.hid (HB2.out.trans hb); have HML := Lib.hid ho.len; have hm4 : m ≤ 4096 := (by have := HML.out; have := HUN.out; omega); have hmw : IntKind.u64.wrap (m : Int) = (m : Int) := (by rw [IntKind.wrap_u64]; omega); clear ho hb)
  | (go_at_call 52; refine (putU_any w3.heap.size none 0 0 [] m (by omega) _ (Lib.hid (OwnS.nil _ _)) (by omega) (Nat.le_refl _)).mono ?_; rintro e w4 ⟨Ap, Np, cp, rfl, ho, hb, -⟩; rw [List.nil_append] at ho; have HP := Lib.hid ho; have HB4 := Lib.hid hb; clear ho hb))
 have HST3 : Hid (TX3 w3 all m (.slice Ap Np cp) (.int .i64 0) w4) := Lib.hid ⟨0, Np, Ap, cp, Nat.zero_le _, rfl, rfl, by have := HP.out.len; have := ub10 (show m < 18446744073709551616 by omega); omega, by show OwnS w4 w3.heap.size Ap Np cp (ub m ++ ([] : List (List Nat)).flatten); rw [List.flatten_nil, List.append_nil]; exact HP.out, HB4.out⟩
 clear HO1 HO2 HB1 HB2 HP HB4 HEQ
 go_loopw [4, 24] (fun up v wr => TX3 w3 all m up v wr) (fun _ v _ => m - (intOf v).toNat)
 case atStart => exact HST3.out
 case round =>
  obtain ⟨j, N, Ap, cp, hj, rfl, rfl, hN, hop, hbp⟩ := hrel
  have HOP := Lib.hid hop; have HBP := Lib.hid hbp
  clear hop hbp HST3
  by_cases hjm : j < m
  ·have hji : (j : Int) < (m : Int) := by omega
   obtain ⟨s, hs⟩ : ∃ s, all[j]? = some s := ⟨_, List.getElem?_eq_getElem (by have := HML.out; omega)⟩
   have HS := Lib.hid hs
   have HSW := Lib.hid (HUW.out s (List.mem_of_getElem? hs))
   obtain ⟨ga, oa, hA, hga, hca⟩ := HOX.out.isAt.spot (by have := HML.out; omega)
   subst hA
   have hcs := (HBP.out.cell (p := ⟨ga, oa + j, none⟩) hga).trans (hca j s hs)
   have HT := Lib.hid (putT_any w3.heap.size Ap N cp _ s HSW.out.1 HSW.out.2 wr HOP (by omega) HBP.out.size)
   have HTL : Hid ((txL s).length ≤ 1000010) := Lib.hid (by unfold txL; rw [List.length_append]; have := HSW.out.2; have := ub10 (show s.length < 18446744073709551616 by omega); omega)
   clear hs hga hca
   go_wp2_with (go_at_call 31; (with_reducible refine (HT.out).mono ?_); rintro e w5 ⟨A5, n5, c5, rfl, ho, hb, -⟩; have HO5 := Lib.hid ho; have HB5 := Lib.hid hb; clear ho hb)
   go_roundw
   case rel =>
    have h5 := HO5.out
    rw [flat_snoc m all j s HS.out] at h5
    refine ⟨j + 1, n5, A5, c5, by omega, by go_num, rfl, ?_, h5, HBP.out.trans HB5.out⟩
    have e1 := HO5.out.len
    have e2 := HOP.out.len
    rw [List.length_append] at e1
    have := HTL.out
    omega
   case measure => simp [intOf]; omega
  ·obtain rfl : j = m := by omega
   have HTK : Hid (all.take j = all) := Lib.hid (List.take_of_length_le (by have := HML.out; omega))
   rw [HTK.out] at HOP
   obtain ⟨wa, hwa⟩ : ∃ wa, wa = wr := ⟨_, rfl⟩
   have HWA : Hid (Below W.heap.size W wr) := Lib.hid (below_to HB3.out HBP.out)
   have HLEN : Hid ((l.map fun x => (plc all x : Int)).length = n) := Lib.hid (by rw [List.length_map]; exact hn.out.symm)
   go_wp2_with (refine wpList_make_full _ rfl (.tmp 33) (.tmp 33) 68 rfl wr.heap.size 2 iu (.int .i64 0) 1 Tryd.underlying68 hiu hz0 hz1 .i64 .i64 _ _ n rfl rfl rfl rfl hzb hnm (Nat.le_refl _) ?_; intro w6 own hgr; have HRI := Lib.hid (rowI_zeros own); have HB6 : Hid (Below wr.heap.size wr w6) := Lib.hid ((Below.refl _ wr).grown hgr (Nat.le_refl _) (by intro k hk; cases hk)); clear own hgr)
   rw [← hwa] at HRI HB6 HOP HBP HWA ⊢
   clear hwa
   obtain ⟨L, hL⟩ : ∃ L, L = wa.heap.size := ⟨_, rfl⟩
   rw [← hL] at HRI ⊢
   have HLE := Lib.hid hL
   clear hL
   go_loopw [37] (fun v wr => ∃ k : Nat, k ≤ n ∧ v = .int .i64 (k : Int) ∧ RowI wr L ((l.map fun x => (plc all x : Int)).take k ++ List.replicate (n - k) 0) ∧ Below L wa wr) (fun v _ => n - (intOf v).toNat)
   case atStart => exact ⟨0, Nat.zero_le _, rfl, by simpa using HRI.out, by rw [HLE.out]; exact HB6.out⟩
   case round =>
    obtain ⟨k, hk, rfl, hrow, hb⟩ := hrel
    have HROW := Lib.hid hrow; have HB : Hid (Below wa.heap.size wa wr) := Lib.hid (HLE.out ▸ hb)
    clear hrow hb HRI HB6
    have HBW : Hid (Below W.heap.size W wr) := Lib.hid (below_to HWA.out HB.out)
    by_cases hlt : k < n
    ·have hki : (k : Int) < (n : Int) := by omega
     obtain ⟨x, hx⟩ : ∃ x, l[k]? = some x := ⟨l[k]'(by have := hn.out; omega), List.getElem?_eq_getElem _⟩
     have hxm : x ∈ all := (HUM.out x).2 (List.mem_of_getElem? hx)
     obtain ⟨hxw, g, off, rfl, -, hcx⟩ := (HL.out.keep HBW.out) k x hx
     have HSN := Lib.hid (plc_snoc all l k x hx)
     have hox := HOX.out.keep (HBP.out.trans (HB.out.mono HBP.out.size))
     obtain ⟨ga, oa, hA, hga, hca⟩ := hox.isAt.spot (List.length_pos_of_mem hxm)
     subst hA
     have HBN := Lib.hid (bin_any ga oa j c1 all HML.out (by omega) HUR.out x hxm wr hox.isAt)
     have f2 := HROW.out.fr k
     obtain ⟨u2, c2⟩ := HROW.out.at k (by rw [List.length_append, List.length_replicate, List.length_take]; have := HLEN.out; omega)
     have HSET := Lib.hid (fill_set ((l.map fun x => (plc all x : Int)).take k) n k (by rw [List.length_take]; have := HLEN.out; omega) hlt (plc all x : Int))
     clear hx hxm hga hca hox
     go_wp2_with (go_at_call 57; refine (HBN.out).mono ?_; rintro e w7 ⟨rfl, hb⟩; have HB7 := Lib.hid hb; have HR7 : Hid (RowI w7 L _) := Lib.hid (HROW.out.keep (Kept.of_below (S := fun _ => False) hb) (fun h => h)); have f7 := HR7.out.fr k; obtain ⟨u7, c7⟩ := HR7.out.at k (by rw [List.length_append, List.length_replicate, List.length_take]; have := HLEN.out; omega); clear hb)
     go_roundw
     case rel => exact ⟨k + 1, by omega, by go_num, by rw [HSN.out, ← HSET.out]; exact HR7.out.set k (plc all x : Int), by rw [HLE.out]; exact (below_to HB.out HB7.out).setCell (Nat.le_refl _) _⟩
     case measure => simp [intOf]; omega
    ·obtain rfl : k = n := by omega
     have hki : ¬ (k : Int) < (k : Int) := by omega
     have hr := HROW.out
     rw [Nat.sub_self, List.replicate_zero, List.append_nil, List.take_of_length_le (by have := HLEN.out; omega)] at hr
     have HIW : Hid (∀ x ∈ (l.map fun x => (plc all x : Int)), Wf64 x) := Lib.hid (fun x hx => by obtain ⟨y, -, rfl⟩ := List.mem_map.1 hx; exact plc_wf all (by have := HML.out; omega) y)
     have HO := Lib.hid (hr.own (B := L) (Nat.le_refl _) HIW.out (by rw [HLEN.out]; exact hnm))
     rw [HLEN.out] at HO
     have HI := Lib.hid (ints_any (some ⟨L, 0, none⟩) k k (l.map fun x => (plc all x : Int)) (Lib.hid HLEN.out.symm) (Nat.le_refl _) (by omega) (by omega) wr (Lib.hid HO.out.isAt))
     have HIF : Hid ((intsL (l.map fun x => (plc all x : Int))).length ≤ 1000000) := Lib.hid (ints_few _ HIW.out (by rw [HLEN.out]; omega))
     have HPr := Lib.hid (HOP.out.keep HB.out)
     have hb3 : w3.heap.size ≤ wr.heap.size := Nat.le_trans HBP.out.size HB.out.size
     clear hr
     go_wp2_with (first
      | (go_at_call 32; (with_reducible refine (HI.out).mono ?_); rintro e w8 ⟨A8, n8, c8, rfl, h1, h2, h3⟩; have HO8 := Lib.hid h1; have HB8 := Lib.hid h2; have HP8 := Lib.hid (HPr.out.keep h2); have hn8 : n8 ≤ 1000000 := (by have := h1.len; have := HIF.out; omega); have hb8 : w3.heap.size ≤ w8.heap.size := (Nat.le_trans hb3 h3); clear h1 h2 h3)
      | (refine wpList_append_by rfl (.tmp 53) (.tmp 55) rfl w3.heap.size Ap N cp _ rfl HP8.out A8 n8 c8 (intsL (l.map fun x => (plc all x : Int))) rfl HO8.out.len HO8.out.byAt (by omega) hb8 ?_; intro A9 c9 w9 ho hg hr9; have HO9 := Lib.hid ho; have HB9 := Lib.hid (((HBP.out.trans (HB.out.mono HBP.out.size)).trans (HB8.out.mono hb3)).grown hg hb8 HP8.out.base); clear ho hg hr9))
     go_ret
     rw [HXT.out, ← HML.out]
     have hBW := below_to HB3.out HB9.out
     exact ⟨A9, _, c9, rfl, HO9.out.more HB3.out.size, hBW, hBW.size⟩
end Go.Proofs.YtifabkbdiiolfaaDoor
