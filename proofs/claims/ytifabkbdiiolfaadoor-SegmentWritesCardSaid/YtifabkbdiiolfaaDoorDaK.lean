/-
  Layer column: lists of numbers with a point: Reals, the document's own, readReals where all goes well.
-/
import Derived.Test.YtifabkbdiiolfaaDoorRcK
import Derived.Test.YtifabkbdiiolfaaDoorEjK
set_option linter.unusedSimpArgs false
set_option linter.unusedVariables false
set_option maxRecDepth 8000
namespace Go.Proofs.YtifabkbdiiolfaaDoor
open Go.RowKit Go.WideShapes Col
theorem refAs_any (way : Nat) (hw : way < 4) (b : Option Addr) (m c : Nat) (l : List Int) (hm : Hid (m = l.length)) (hmc : m ≤ c) (hc : c ≤ 9223372036854775807) (hm1 : m ≤ 5000) (W : World) (HL : Hid (IsAt W b l)) :
  Calls Tryd.prog 59 #[.int .u8 (way : Int), .slice b m c] W (Puts W.heap.size W (asL way l)) := by
 have h : way = 0 ∨ way = 1 ∨ way = 2 ∨ way = 3 := by omega
 rcases h with rfl | rfl | rfl | rfl
 ·exact refAs0_any b m c l hm hmc hc hm1 W HL
 ·exact refAs1_any b m c l hm hmc hc hm1 W HL
 ·exact refAs2_any b m c l hm hmc hc hm1 W HL
 ·exact refAs3_any b m c l hm hmc hc hm1 W HL
set_option maxHeartbeats 2000000 in
theorem refInts_any (b : Option Addr) (m c : Nat) (l : List Int) (hm : Hid (m = l.length)) (hmc : m ≤ c) (hc : c ≤ 9223372036854775807) (hm1 : m ≤ 5000) (W : World) (HL : Hid (IsAt W b l)) :
  Calls Tryd.prog 40 #[.slice b m c] W (Puts W.heap.size W (intsL l)) := by
 have HA := Lib.hid fun way hway w hl => refAs_any way hway b m c l hm hmc hc hm1 w hl
 have HWF : Hid (∀ x ∈ l, Wf64 x) := Lib.hid HL.out.wf
 have HA0 : Hid (Calls Tryd.prog 59 #[.int .u8 0, .slice b m c] W (Puts W.heap.size W (asL 0 l))) := Lib.hid (HA.out 0 (by decide) W HL)
 go_enter Tryd.func40, Tryd.ntmps40
 go_wp2_with (go_at_call 59; (with_reducible refine (HA0.out).mono ?_); rintro e w1 ⟨A1, n1, c1, rfl, h1, h2, h3⟩; have HO1 := Lib.hid h1; have HB1 := Lib.hid h2; clear h1 h2 h3)
 go_loopw [3, 4] (fun u v wr => RI W l u v wr) (fun _ v _ => 4 - (intOf v).toNat)
 case atStart => exact ⟨0, A1, n1, c1, by decide, rfl, rfl, HO1.out, HB1.out⟩
 case round =>
  obtain ⟨k, A, n, cap, hk, rfl, rfl, ho, hb⟩ := hrel
  have HO := Lib.hid ho; have HB := Lib.hid hb
  clear ho hb HA0
  by_cases h3 : k = 3
  ·subst h3
   go_wp2
   go_ret
   exact ⟨A, n, cap, rfl, HO.out, HB.out, HB.out.size⟩
  ·obtain ⟨K, hK⟩ : ∃ K, K = k + 1 := ⟨_, rfl⟩
   have HK := Lib.hid hK
   have hK4 : K < 4 := by omega
   have hK3 : K ≤ 3 := by omega
   rw [← hK]
   clear hK hk h3
   have HAK := Lib.hid (HA.out K hK4 wr (Lib.hid (HL.out.keep HB.out)))
   have HNL := Lib.hid HO.out.len
   go_upto_region 6 with (go_at_call 59; (with_reducible refine (HAK.out).mono ?_); rintro e w2 ⟨A2, n2, c2, rfl, h1, h2, h3⟩; have HO2 := Lib.hid (h1.more HB.out.size); have HB2 := Lib.hid (below_to HB.out h2); have HOK := Lib.hid (HO.out.keep h2); clear h1 h2 h3)
   have HN2 := Lib.hid HO2.out.len
   by_cases hlt : n2 < n
   ·have HS : Hid (bestL K l = asL K l) := Lib.hid (by rw [HK.out]; unfold bestL pickL; rw [if_pos (by have := HNL.out; have := HN2.out; rw [← HK.out]; omega)])
    go_wp2
    go_roundw
    case rel => exact ⟨K, A2, n2, c2, hK3, by go_num, rfl, by rw [HS.out]; exact HO2.out, HB2.out⟩
    case measure => have := HK.out; simp [intOf]; omega
   ·have HS : Hid (bestL K l = bestL k l) := Lib.hid (by rw [HK.out]; unfold bestL; unfold pickL; rw [if_neg (by have := HNL.out; have := HN2.out; rw [← HK.out]; omega)]; cases k <;> rfl)
    go_wp2
    go_roundw
    case rel => exact ⟨K, A, n, cap, hK3, by go_num, rfl, by rw [HS.out]; exact HOK.out, HB2.out⟩
    case measure => have := HK.out; simp [intOf]; omega
end Go.Proofs.YtifabkbdiiolfaaDoor

namespace Go.Proofs.YtifabkbdiiolfaaDoor
open Go.RowKit Go.WideShapes Col
namespace Col
theorem map_snoc (W V : Nat) (mn : Int) (i : Nat) : (List.range (i + 1)).map (pval W V mn) = (List.range i).map (pval W V mn) ++ [pval W V mn i] := by rw [List.range_succ, List.map_append]; rfl
end Col
end Go.Proofs.YtifabkbdiiolfaaDoor

namespace Go.Proofs.YtifabkbdiiolfaaDoor
open Go.RowKit Go.WideShapes Col
/-- A slice value that holds some words, in a world. -/
def FlAt (w : World) (a : Option Addr) (l : List Nat) : Prop := ∀ (k x : Nat), l[k]? = some x → x < 18446744073709551616 ∧ ∃ g off, a = some ⟨g, off, none⟩ ∧ g < w.heap.size ∧ w.cell? ⟨g, off + k, none⟩ = some (.float .f64 x)
theorem FlAt.keep {w w' : World} {a : Option Addr} {l : List Nat} (h : FlAt w a l) (hb : Below w.heap.size w w') : FlAt w' a l := fun k x hx => by
 obtain ⟨h1, g, off, h2, h3, h4⟩ := h k x hx
 exact ⟨h1, g, off, h2, Nat.lt_of_lt_of_le h3 hb.size, (hb.cell (p := ⟨g, off + k, none⟩) h3).trans h4⟩
def fvs (l : List Nat) : List Value := l.map fun x => .float .f64 x
/-- A row of numbers with a point that is all of a slice. -/
def RowF (w : World) (g : Nat) (l : List Nat) : Prop := w.heap[g]? = some (.cells (fvs l).toArray 32 (0, 0))
section
variable {w : World} {g : Nat} {l : List Nat}
theorem RowF.fr (h : RowF w g l) (i : Nat) : w.frozen? ⟨g, i, none⟩ = false := row_frozen h i
theorem RowF.cell (h : RowF w g l) (i x : Nat) (hx : l[i]? = some x) : w.cell? ⟨g, i, none⟩ = some (.float .f64 x) := by
 rw [cell_of_row _ _ _ _ _ _ h, List.getElem?_toArray]; unfold fvs; rw [List.getElem?_map, hx]; rfl
theorem RowF.at (h : RowF w g l) (i : Nat) (hi : i < l.length) : ∃ u, w.cell? ⟨g, i, none⟩ = some u := ⟨_, h.cell i _ (List.getElem?_eq_getElem hi)⟩
theorem RowF.set (h : RowF w g l) (i x : Nat) : RowF (w.setCell ⟨g, i, none⟩ (.float .f64 x)) g (l.set i x) := by
 unfold RowF at *
 rw [World.setCell]
 simp only [Array.getElem?_modify, if_pos, h, Option.map_some]
 have e : (fvs l).toArray.setIfInBounds i (.float .f64 x) = (fvs (l.set i x)).toArray := by
  unfold fvs; rw [List.map_set]; simp
 simp [e]
theorem RowF.keep {S : Nat → Prop} {w' : World} (h : RowF w g l) (hk : Kept S w w') (hg : ¬ S g) : RowF w' g l := hk.heap h hg
theorem RowF.isAt (h : RowF w g l) (hl : ∀ x ∈ l, x < 18446744073709551616) : FlAt w (some ⟨g, 0, none⟩) l := fun k x hx => ⟨hl x (List.mem_of_getElem? hx), g, 0, rfl, (Array.getElem?_eq_some_iff.1 h).1, by rw [Nat.zero_add]; exact h.cell k x hx⟩
end
theorem infoF64 : (Tryd.prog.info? 32).map (fun i => (i.zero, i.size, i.bytes)) = some (some (.float .f64 0), 1, 8) := by kernel_rfl
theorem rowF_zeros {w : World} {B g q : Nat} (h : w.ownsRow B 32 1 (.slice (some ⟨g, 0, none⟩) q q) q (madeCells (Value.float .f64 0).cells (q * 1)).toList) : RowF w g (List.replicate q 0) := by
 have e : fvs (List.replicate q 0) = List.replicate q (.float .f64 0) := by unfold fvs; rw [List.map_replicate]
 rw [Nat.mul_one, show (Value.float .f64 0).cells = #[.float .f64 0] from rfl, toList_madeCells_one, ← e] at h
 rcases h.2 with ⟨h1, h2⟩ | ⟨g', cap', cur, h1, hb, hrow, -, -, hs, ht⟩
 ·cases h1
 ·cases h1
  unfold RowF
  rw [hrow]
  have hc : cur = (fvs (List.replicate q 0)).toArray := by
   apply Array.ext'
   rw [← ht, Nat.mul_one, List.take_of_length_le (by rw [Array.length_toList, hs]; omega)]
  rw [hc]
theorem run_store_flC (w : World) (a : Addr) (y : Nat) (u : Value) (hc : w.cell? a = some u) (hf : w.frozen? a = false) : (store a (.float .f64 y)).run Tryd.prog w = .ok () (w.setCell a (.float .f64 y)) := by
 rw [run_store Tryd.prog w a _ _ rfl]
 simp [stored, hc, hf]
/-- A number's bits as a number with a sign. -/
def rwI (b : Nat) : Int := IntKind.i64.wrap ((Fl.canon b : Nat) : Int)
theorem rwI_wf (b : Nat) : Wf64 (rwI b) := by unfold rwI Wf64; rw [IntKind.wrap_i64]; omega
def u64N (x : Int) : Nat := (IntKind.u64.wrap x).toNat
theorem rw_snoc (l : List Nat) (k b : Nat) (h : l[k]? = some b) : (l.map rwI).take (k + 1) = (l.map rwI).take k ++ [rwI b] := by
 rw [List.take_add_one, List.getElem?_map, h]; rfl
set_option maxHeartbeats 2000000 in
theorem reals_any (b : Option Addr) (n c : Nat) (l : List Nat) (hn : Hid (n = l.length)) (hn1 : n ≤ 4096) (W : World) (HL : Hid (FlAt W b l)) :
  Calls Tryd.prog 34 #[.slice b n c] W (Puts W.heap.size W (intsL (l.map rwI))) := by
 obtain ⟨iu, hiu, hz0, hz1, hz2⟩ := info_parts infoI64'
 have hzb : iu.bytes * n ≤ 281474976710656 := by rw [hz2]; omega
 have hnm : n ≤ maxLen := by unfold maxLen; omega
 have HLEN : Hid ((l.map rwI).length = n) := Lib.hid (by rw [List.length_map]; exact hn.out.symm)
 go_enter Tryd.func34, Tryd.ntmps34
 go_wp2_with (refine wpList_make_full _ rfl (.tmp 7) (.tmp 7) 68 rfl W.heap.size 2 iu (.int .i64 0) 1 Tryd.underlying68 hiu hz0 hz1 .i64 .i64 _ _ n rfl rfl rfl rfl hzb hnm (Nat.le_refl _) ?_; intro w1 own hgr; have HRI := Lib.hid (rowI_zeros own); have HB1 : Hid (Below W.heap.size W w1) := Lib.hid ((Below.refl _ W).grown hgr (Nat.le_refl _) (by intro k hk; cases hk)); clear own hgr)
 obtain ⟨L, hL⟩ : ∃ L, L = W.heap.size := ⟨_, rfl⟩
 rw [← hL] at HRI ⊢
 have HLE := Lib.hid hL
 clear hL
 go_loopw [11] (fun v wr => ∃ k : Nat, k ≤ n ∧ v = .int .i64 (k : Int) ∧ RowI wr L ((l.map rwI).take k ++ List.replicate (n - k) 0) ∧ Below L W wr) (fun v _ => n - (intOf v).toNat)
 case atStart => exact ⟨0, Nat.zero_le _, rfl, by simpa using HRI.out, by rw [HLE.out]; exact HB1.out⟩
 case round =>
  obtain ⟨k, hk, rfl, hrow, hb⟩ := hrel
  have HROW := Lib.hid hrow; have HB : Hid (Below W.heap.size W wr) := Lib.hid (HLE.out ▸ hb)
  clear hrow hb HRI HB1
  by_cases hlt : k < n
  ·obtain ⟨x, hx⟩ : ∃ x, l[k]? = some x := ⟨l[k]'(by have := hn.out; omega), List.getElem?_eq_getElem _⟩
   obtain ⟨hx64, g, off, rfl, -, hcx⟩ := (HL.out.keep HB.out) k x hx
   have HSN := Lib.hid (rw_snoc l k x hx)
   have HBI := Lib.hid (bits_any x hx64)
   have f2 := HROW.out.fr k
   obtain ⟨u2, c2⟩ := HROW.out.at k (by rw [List.length_append, List.length_replicate, List.length_take]; have := HLEN.out; omega)
   have HSET := Lib.hid (fill_set ((l.map rwI).take k) n k (by rw [List.length_take]; have := HLEN.out; omega) hlt (rwI x))
   obtain ⟨y, hy⟩ : ∃ y, y = Fl.canon x := ⟨_, rfl⟩
   rw [← hy] at HBI
   have hyw : IntKind.i64.wrap (y : Int) = rwI x := by rw [hy]; rfl
   clear hx hy
   go_wp2_with (go_at_call 58; refine (HBI.out _).mono ?_; rintro e w2 ⟨rfl, rfl⟩)
   go_roundw
   case rel => exact ⟨k + 1, by omega, by go_num, by rw [HSN.out, ← HSET.out]; exact HROW.out.set k (rwI x), by rw [HLE.out]; exact HB.out.setCell (Nat.le_refl _) _⟩
   case measure => simp [intOf]; omega
  ·obtain rfl : k = n := by omega
   have hr := HROW.out
   rw [Nat.sub_self, List.replicate_zero, List.append_nil, List.take_of_length_le (by have := HLEN.out; omega)] at hr
   have HO := Lib.hid (hr.own (B := L) (Nat.le_refl _) (fun x hx => by obtain ⟨y, -, rfl⟩ := List.mem_map.1 hx; exact rwI_wf y) (by rw [HLEN.out]; exact hnm))
   rw [HLEN.out] at HO
   have HI := Lib.hid (ints_any (some ⟨L, 0, none⟩) k k (l.map rwI) (Lib.hid HLEN.out.symm) (Nat.le_refl _) (by omega) (by omega) wr (Lib.hid HO.out.isAt))
   clear hr
   go_wp2_with (go_at_call 32; (with_reducible refine (HI.out).mono ?_); rintro e w2 ⟨A2, n2, c2, rfl, h1, h2, h3⟩; have HO2 := Lib.hid (h1.more HB.out.size); have HB2 := Lib.hid (below_to HB.out h2); clear h1 h2 h3)
   go_ret
   exact ⟨A2, n2, c2, rfl, HO2.out, HB2.out, HB2.out.size⟩
def RRF (W : World) (l : List Nat) (n : Nat) (u v : Value) (wr : World) : Prop := ∃ (k : Nat) (A : Option Addr) (cap : Nat), k ≤ n ∧ v = .int .i64 (k : Int) ∧ u = .slice A k cap ∧ OwnI wr W.heap.size A k cap ((l.map rwI).take k) ∧ Below W.heap.size W wr
set_option maxHeartbeats 2000000 in
theorem refReals_any (b : Option Addr) (n c : Nat) (l : List Nat) (hn : Hid (n = l.length)) (hn1 : n ≤ 4096) (W : World) (HL : Hid (FlAt W b l)) :
  Calls Tryd.prog 42 #[.slice b n c] W (Puts W.heap.size W (intsL (l.map rwI))) := by
 have HLEN : Hid ((l.map rwI).length = n) := Lib.hid (by rw [List.length_map]; exact hn.out.symm)
 go_enter Tryd.func42, Tryd.ntmps42
 go_wp2
 go_loopw [3, 4] (fun u v wr => RRF W l n u v wr) (fun _ v _ => n - (intOf v).toNat)
 case atStart => exact ⟨0, none, 0, Nat.zero_le _, rfl, rfl, OwnI.nil _ _, Below.refl _ _⟩
 case round =>
  obtain ⟨k, A, cap, hk, rfl, rfl, ho, hb⟩ := hrel
  have HO := Lib.hid ho; have HB := Lib.hid hb
  have hb2 := Lib.hid ho.base
  clear ho hb
  by_cases hlt : k < n
  ·obtain ⟨x, hx⟩ : ∃ x, l[k]? = some x := ⟨l[k]'(by have := hn.out; omega), List.getElem?_eq_getElem _⟩
   obtain ⟨hx64, g, off, rfl, -, hcx⟩ := (HL.out.keep HB.out) k x hx
   have HSN := Lib.hid (rw_snoc l k x hx)
   have HBI := Lib.hid (refBits_any x hx64)
   obtain ⟨y, hy⟩ : ∃ y, y = Fl.canon x := ⟨_, rfl⟩
   rw [← hy] at HBI
   obtain ⟨z, hz⟩ : ∃ z, z = rwI x := ⟨_, rfl⟩
   have hyw : IntKind.i64.wrap (y : Int) = z := by rw [hy, hz]; rfl
   rw [← hz] at HSN
   have HWZ : Hid (Wf64 z) := Lib.hid (by rw [hz]; exact rwI_wf x)
   have HAX := Lib.hid (is_one wr z HWZ.out)
   have HBB := Lib.hid ((Below.refl wr.heap.size wr).alloc (Nat.le_refl _) (.cells #[.int .i64 z] 2))
   have HOX := Lib.hid (HO.out.keep HBB.out)
   have hbs : W.heap.size ≤ (wr.alloc (.cells #[.int .i64 z] 2)).heap.size := Nat.le_trans HB.out.size HBB.out.size
   clear hx hy hz
   go_wp2_with (first
    | (go_at_call 60; refine (HBI.out _).mono ?_; rintro e w2 ⟨rfl, rfl⟩)
    | (refine wpList_append_is rfl (.tmp 11) (.tmp 18) rfl W.heap.size A k cap _ rfl HOX.out ⟨wr.heap.size, 0, none⟩ 1 1 [z] rfl rfl HAX.out (by omega) hbs ?_; intro A3 c3 w4 ho hg; have HO4 := Lib.hid ho; have HB4 : Hid (Below W.heap.size W w4) := Lib.hid ((below_to HB.out HBB.out).grown hg hbs hb2.out); clear ho hg))
   go_roundw
   case rel => exact ⟨k + 1, A3, c3, by omega, by go_num, rfl, by rw [HSN.out]; exact HO4.out, HB4.out⟩
   case measure => simp [intOf]; omega
  ·obtain rfl : k = n := by omega
   rw [List.take_of_length_le (by have := HLEN.out; omega)] at HO
   obtain ⟨hkc, hcm⟩ := HO.out.caps
   have HI := Lib.hid (refInts_any A k cap (l.map rwI) (Lib.hid HLEN.out.symm) hkc hcm (by omega) wr (Lib.hid HO.out.isAt))
   go_wp2_with (go_at_call 40; (with_reducible refine (HI.out).mono ?_); rintro e w2 ⟨A2, n2, c2, rfl, h1, h2, h3⟩; have HO2 := Lib.hid (h1.more HB.out.size); have HB2 := Lib.hid (below_to HB.out h2); clear h1 h2 h3)
   go_ret
   exact ⟨A2, n2, c2, rfl, HO2.out, HB2.out, HB2.out.size⟩
end Go.Proofs.YtifabkbdiiolfaaDoor
