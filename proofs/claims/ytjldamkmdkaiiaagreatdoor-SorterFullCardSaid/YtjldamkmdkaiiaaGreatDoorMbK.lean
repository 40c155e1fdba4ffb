/-
  Layer merge: the tree of losers in memory; who is ahead.
-/
import Derived.Test.YtjldamkmdkaiiaaGreatDoorMaK
import Derived.Test.YtjldamkmdkaiiaaGreatDoorEtK
import Derived.Test.YtjldamkmdkaiiaaGreatDoorTkK
set_option linter.unusedSimpArgs false
set_option linter.unusedVariables false
set_option maxRecDepth 8000
namespace Go.Proofs.YtjldamkmdkaiiaaGreatDoor
open Go.RowKit Go.Sort
abbrev ltM : Ev → Ev → Bool := ltOf evCmp
theorem ltM_less (x y : Ev) : ltM x y = lessB x y := rfl
def rsF (Rs : List (List Ev)) : Nat → List Ev := fun j => Rs.getD j []
theorem rsF_some {Rs : List (List Ev)} {j : Nat} {l : List Ev} (h : Rs[j]? = some l) : rsF Rs j = l := by unfold rsF; rw [List.getD_eq_getElem?_getD, h]; rfl
def RowZ (w : World) (g n : Nat) (ty : TypeId) : Prop := ∃ cs : Array Value, w.heap[g]? = some (.cells cs ty (0, 0)) ∧ n ≤ cs.size
theorem RowZ.fr {w : World} {g n : Nat} {ty : TypeId} (h : RowZ w g n ty) (i : Nat) : w.frozen? ⟨g, i, none⟩ = false := by
 obtain ⟨cs, h1, -⟩ := h; exact frozen_of_row _ _ _ _ _ h1
theorem RowZ.lt {w : World} {g n : Nat} {ty : TypeId} (h : RowZ w g n ty) : g < w.heap.size := by
 obtain ⟨cs, h1, -⟩ := h; exact (Array.getElem?_eq_some_iff.1 h1).1
theorem RowZ.get {w : World} {g n : Nat} {ty : TypeId} (h : RowZ w g n ty) (i : Nat) (hi : i < n) : ∃ v, w.cell? ⟨g, i, none⟩ = some v := by
 obtain ⟨cs, h1, h2⟩ := h
 exact ⟨cs[i]'(by omega), by rw [cell_of_row _ _ _ _ _ _ h1, Array.getElem?_eq_getElem (by omega)]⟩
theorem RowZ.of {w w' : World} {g n : Nat} {ty : TypeId} (h : RowZ w g n ty) (hk : w'.heap[g]? = w.heap[g]?) : RowZ w' g n ty := by
 obtain ⟨cs, h1, h2⟩ := h; exact ⟨cs, hk.trans h1, h2⟩
theorem RowZ.set {w : World} {g n i b : Nat} {v : Value} {ty : TypeId} (h : RowZ w g n ty) : RowZ (w.setCell ⟨b, i, none⟩ v) g n ty := by
 obtain ⟨cs, h1, h2⟩ := h
 by_cases e : b = g
 ·subst e; exact ⟨cs.setIfInBounds i v, heap_setCell_same w b i cs _ v h1, by simpa using h2⟩
 ·exact ⟨cs, by rw [Below.heap_setCell _ _ _ _ (fun h => e h.symm)]; exact h1, h2⟩
structure TreeM (w : World) (B t rb lb n cr cl win : Nat) (L : Nat → Nat) (Rs : List (List Ev)) : Prop where
 row : w.heap[t]? = some (.cells #[.slice (some ⟨rb, 0, none⟩) n cr, .int .i64 (win : Int), .slice (some ⟨lb, 0, none⟩) n cl] 157 (0, 0))
 rrow : RowZ w rb n 22
 lrow : RowZ w lb n 3
 runs : ∀ j l, Rs[j]? = some l → ∃ A c, w.cell? ⟨rb, j, none⟩ = some (.slice A l.length c) ∧ l.length ≤ c ∧ c ≤ maxLen ∧ (A = none → c = 0) ∧ EvAt w A l ∧ (∀ a, A = some a → 0 < l.length → a.block < B)
 los : ∀ j, j < n → w.cell? ⟨lb, j, none⟩ = some (.int .i64 (L j : Int))
 len : n = Rs.length
 pos : 0 < n
 few : n ≤ 16
 small : ∀ l ∈ Rs, l.length ≤ 1000
 caps : n ≤ cr ∧ cr ≤ maxLen ∧ n ≤ cl ∧ cl ≤ maxLen
 bt : B ≤ t
 br : B ≤ rb
 bl : B ≤ lb
 tr : t ≠ rb
 tl : t ≠ lb
 rl : rb ≠ lb
section
variable {w w' : World} {B t rb lb n cr cl win : Nat} {L : Nat → Nat} {Rs : List (List Ev)}
theorem TreeM.lt (h : TreeM w B t rb lb n cr cl win L Rs) : t < w.heap.size := (Array.getElem?_eq_some_iff.1 h.row).1
theorem TreeM.c0 (h : TreeM w B t rb lb n cr cl win L Rs) : w.cell? ⟨t, 0, none⟩ = some (.slice (some ⟨rb, 0, none⟩) n cr) := by rw [cell_of_row _ _ _ _ _ _ h.row]; rfl
theorem TreeM.c1 (h : TreeM w B t rb lb n cr cl win L Rs) : w.cell? ⟨t, 1, none⟩ = some (.int .i64 (win : Int)) := by rw [cell_of_row _ _ _ _ _ _ h.row]; rfl
theorem TreeM.c2 (h : TreeM w B t rb lb n cr cl win L Rs) : w.cell? ⟨t, 2, none⟩ = some (.slice (some ⟨lb, 0, none⟩) n cl) := by rw [cell_of_row _ _ _ _ _ _ h.row]; rfl
theorem TreeM.fr (h : TreeM w B t rb lb n cr cl win L Rs) (i : Nat) : w.frozen? ⟨t, i, none⟩ = false := frozen_of_row _ _ _ _ _ h.row
theorem TreeM.at (h : TreeM w B t rb lb n cr cl win L Rs) {a : Nat} (ha : a < n) : ∃ l, Rs[a]? = some l ∧ rsF Rs a = l := ⟨Rs[a]'(by have := h.len; omega), List.getElem?_eq_getElem _, rsF_some (List.getElem?_eq_getElem _)⟩
theorem TreeM.below (h : TreeM w B t rb lb n cr cl win L Rs) (hb : Below w.heap.size w w') : TreeM w' B t rb lb n cr cl win L Rs where
 row := (hb.block _ h.lt).trans h.row
 rrow := h.rrow.of (hb.block _ h.rrow.lt)
 lrow := h.lrow.of (hb.block _ h.lrow.lt)
 runs := fun j l hj => by
  obtain ⟨A, c, h1, h2, h3, h4, h5, h6⟩ := h.runs j l hj
  exact ⟨A, c, (hb.cell (p := ⟨rb, j, none⟩) h.rrow.lt).trans h1, h2, h3, h4, h5.keep hb, h6⟩
 los := fun j hj => (hb.cell (p := ⟨lb, j, none⟩) h.lrow.lt).trans (h.los j hj)
 len := h.len
 pos := h.pos
 few := h.few
 small := h.small
 caps := h.caps
 bt := h.bt
 br := h.br
 bl := h.bl
 tr := h.tr
 tl := h.tl
 rl := h.rl
end
set_option maxHeartbeats 4000000 in
theorem ahead_any (B t rb lb n cr cl win : Nat) (L : Nat → Nat) (Rs : List (List Ev)) (a b : Nat) (ha : a < n) (hb : b < n) (w : World) (HT : Hid (TreeM w B t rb lb n cr cl win L Rs)) :
  Calls Tryz.prog 137 #[.pointer (some ⟨t, 0, none⟩), .int .i64 (a : Int), .int .i64 (b : Int)] w fun e w' => e = .returned (.bool (ah ltM (rsF Rs) a b)) ∧ Below w.heap.size w w' := by
 obtain ⟨l1, hl1, hf1⟩ := HT.out.at ha
 obtain ⟨l2, hl2, hf2⟩ := HT.out.at hb
 obtain ⟨A1, k1, hc1, hk1, hm1, hz1, he1, -⟩ := HT.out.runs a l1 hl1
 obtain ⟨A2, k2, hc2, hk2, hm2, hz2, he2, -⟩ := HT.out.runs b l2 hl2
 obtain ⟨n1, hn1⟩ : ∃ n1, n1 = l1.length := ⟨_, rfl⟩
 obtain ⟨n2, hn2⟩ : ∃ n2, n2 = l2.length := ⟨_, rfl⟩
 rw [← hn1] at hc1 hk1
 rw [← hn2] at hc2 hk2
 have HC1 := Lib.hid hc1; have HC2 := Lib.hid hc2; have HE1 := Lib.hid he1; have HE2 := Lib.hid he2
 have HN1 := Lib.hid hn1; have HN2 := Lib.hid hn2
 have HRES : Hid (ah ltM (rsF Rs) a b = ahd ltM l1 l2 (decide (a < b))) := Lib.hid (by unfold ah; rw [hf1, hf2])
 obtain ⟨res, hres⟩ : ∃ res, res = ah ltM (rsF Rs) a b := ⟨_, rfl⟩
 rw [← hres] at HRES ⊢
 have hcr := HT.out.caps.1
 have hcr2 := HT.out.caps.2.1
 have hn16 := HT.out.few
 unfold maxLen at hcr2 hm1 hm2
 have hsm1 : n1 ≤ 1000 := by rw [hn1]; exact HT.out.small l1 (List.mem_of_getElem? hl1)
 have hsm2 : n2 ≤ 1000 := by rw [hn2]; exact HT.out.small l2 (List.mem_of_getElem? hl2)
 have hai : (a : Int) < (n : Int) := by omega
 have hbi : (b : Int) < (n : Int) := by omega
 clear hl1 hl2 hf1 hf2 hc1 hc2 he1 he2 hn1 hn2 hres hz1 hz2
 go_enter Tryz.func137, Tryz.ntmps137
 go_upto_region 1 with fail
 have hh0 : Below w.heap.size w w.drew := (Below.refl _ _).drew
 refine wp_region_held_drew (S := fun w2 => Below w.heap.size w w2) (by kernel_rfl) hh0 (fun hHeld => ?_)
 refine tkm 0 (.pointer (some ⟨t, 0, none⟩)) rfl hHeld ?_
 try simp only [qz]
 refine tks 1 (.pointer (some ⟨t, 0, none⟩)) rfl hHeld ?_
 try simp only [qz]
 refine tks 2 (.pointer (some ⟨t, 0, none⟩)) rfl hHeld ?_
 try simp only [qz]
 refine tk 3 (.slice (some ⟨rb, 0, none⟩) n cr) rfl (Or.inl ⟨by rfl, fun w hw => by have hc : w.cell? ⟨t, 0, none⟩ = some (.slice (some ⟨rb, 0, none⟩) n cr) := (hw.cell (p := ⟨t, 0, none⟩) HT.out.lt).trans HT.out.c0; go_simp⟩) hHeld ?_
 try simp only [qz]
 refine tkm 4 (.int .i64 (a : Nat)) rfl hHeld ?_
 try simp only [qz]
 refine tks 5 (.pointer (some ⟨rb, a, none⟩)) rfl hHeld ?_
 try simp only [qz]
 refine tk 6 (.slice A1 n1 k1) rfl (Or.inl ⟨by rfl, fun w hw => by have hc : w.cell? ⟨rb, a, none⟩ = some (.slice A1 n1 k1) := (hw.cell (p := ⟨rb, a, none⟩) HT.out.rrow.lt).trans HC1.out; go_simp⟩) hHeld ?_
 try simp only [qz]
 refine tkm 7 (.pointer (some ⟨t, 0, none⟩)) rfl hHeld ?_
 try simp only [qz]
 refine tks 8 (.pointer (some ⟨t, 0, none⟩)) rfl hHeld ?_
 try simp only [qz]
 refine tks 9 (.pointer (some ⟨t, 0, none⟩)) rfl hHeld ?_
 try simp only [qz]
 refine tk 10 (.slice (some ⟨rb, 0, none⟩) n cr) rfl (Or.inl ⟨by rfl, fun w hw => by have hc : w.cell? ⟨t, 0, none⟩ = some (.slice (some ⟨rb, 0, none⟩) n cr) := (hw.cell (p := ⟨t, 0, none⟩) HT.out.lt).trans HT.out.c0; go_simp⟩) hHeld ?_
 try simp only [qz]
 refine tkm 11 (.int .i64 (b : Nat)) rfl hHeld ?_
 try simp only [qz]
 refine tks 12 (.pointer (some ⟨rb, b, none⟩)) rfl hHeld ?_
 try simp only [qz]
 refine tk 13 (.slice A2 n2 k2) rfl (Or.inl ⟨by rfl, fun w hw => by have hc : w.cell? ⟨rb, b, none⟩ = some (.slice A2 n2 k2) := (hw.cell (p := ⟨rb, b, none⟩) HT.out.rrow.lt).trans HC2.out; go_simp⟩) hHeld ?_
 try simp only [qz]
 refine tkm 14 (.slice A1 n1 k1) rfl hHeld ?_
 try simp only [qz]
 refine rd1 15 rfl (fun K hK => ?_)
 go_simp
 refine hK.out _ _ hHeld (fun hHeld => ?_)
 clear hK K
 refine wpAnyH_done (by kernel_rfl) ?_ _
 have HB1 := Lib.hid hHeld
 clear hHeld hh0
 rcases l1 with _ | ⟨x, r1⟩
 ·have h10 : n1 = 0 := HN1.out
  subst h10
  have hz : ((0 : Int) == 0) = true := rfl
  go_wp2
  go_ret
  exact ⟨ret_eq (by rw [HRES.out]; rfl), HB1.out⟩
 ·have hp1 : 0 < n1 := by have := HN1.out; rw [List.length_cons] at this; omega
  have hq1 : ((n1 : Int) == 0) = false := by rw [beq_eq_false_iff_ne]; omega
  have hi1 : (0 : Int) < (n1 : Int) := by omega
  rcases l2 with _ | ⟨y, r2⟩
  ·have h20 : n2 = 0 := HN2.out
   subst h20
   go_wp2
   go_ret
   exact ⟨ret_eq (by rw [HRES.out]; rfl), HB1.out⟩
  ·have hp2 : 0 < n2 := by have := HN2.out; rw [List.length_cons] at this; omega
   have hq2 : ((n2 : Int) == 0) = false := by rw [beq_eq_false_iff_ne]; omega
   have hi2 : (0 : Int) < (n2 : Int) := by omega
   obtain ⟨g1, o1, rfl, hg1, hr1⟩ := evr HE1.out 0 x rfl
   obtain ⟨g2, o2, rfl, hg2, hr2⟩ := evr HE2.out 0 y rfl
   rw [Nat.zero_mul, Nat.add_zero] at hr1 hr2
   have HR1 : Hid (∀ w2, Below w.heap.size w w2 → w2.rangeAt g1 o1 x.cells) := Lib.hid fun w2 h => rkeep hr1 hg1 h
   have HR2 : Hid (∀ w2, Below w.heap.size w w2 → w2.rangeAt g2 o2 y.cells) := Lib.hid fun w2 h => rkeep hr2 hg2 h
   clear hg1 hg2 hr1 hr2
   have hres2 : res = (lessB x y || (decide (a < b) && !lessB y x)) := HRES.out
   clear HRES
   have HRES := Lib.hid hres2
   clear hres2
   obtain ⟨xy, hxy⟩ : ∃ xy, lessB x y = xy := ⟨_, rfl⟩
   obtain ⟨yx, hyx⟩ : ∃ yx, lessB y x = yx := ⟨_, rfl⟩
   rw [hxy, hyx] at HRES
   have HL := Lib.hid hxy; have HY := Lib.hid hyx
   clear hxy hyx
   go_upto_region 4 with fail
   have hh0 := HB1.out.drew
   refine wp_region_held_drew (S := fun w2 => Below w.heap.size w w2) (by kernel_rfl) hh0 (fun hHeld => ?_)
   refine tkm 0 (.slice (some ⟨g1, o1, none⟩) n1 k1) rfl hHeld ?_
   try simp only [qz]
   refine tks 1 (.pointer (some ⟨g1, o1, none⟩)) rfl hHeld ?_
   try simp only [qz]
   refine tk 2 (.agg x.cells.toArray) rfl (yieldsIf_load_mid rfl 51 (.tmp 35) rfl g1 o1 rfl x.cells _ (fun w hw => HR1.out w hw) uEvent rfl (iEvent x)) hHeld ?_
   try simp only [qz]
   refine tkm 3 (.slice (some ⟨g2, o2, none⟩) n2 k2) rfl hHeld ?_
   try simp only [qz]
   refine tks 4 (.pointer (some ⟨g2, o2, none⟩)) rfl hHeld ?_
   try simp only [qz]
   refine tk 5 (.agg y.cells.toArray) rfl (yieldsIf_load_mid rfl 51 (.tmp 38) rfl g2 o2 rfl y.cells _ (fun w hw => HR2.out w hw) uEvent rfl (iEvent y)) hHeld ?_
   try simp only [qz]
   refine rd1 6 rfl (fun K hK => ?_)
   go_simp
   refine (evLess_any x y _).mono ?_
   rintro e w9 ⟨rfl, hb9⟩
   rw [HL.out]
   refine hK.out _ _ (bto hHeld hb9) (fun hHeld => ?_)
   clear hK K
   refine wpAnyH_done (by kernel_rfl) ?_ _
   have HB2 := Lib.hid hHeld
   clear hHeld hh0
   cases xy
   ·by_cases hab : a < b
    ·have habi : (a : Int) < (b : Int) := by omega
     go_upto_region 6 with fail
     have hh0 := HB2.out.drew
     refine wp_region_held_drew (S := fun w2 => Below w.heap.size w w2) (by kernel_rfl) hh0 (fun hHeld => ?_)
     refine tkm 0 (.int .i64 (a : Nat)) rfl hHeld ?_
     try simp only [qz]
     refine tkm 1 (.int .i64 (b : Nat)) rfl hHeld ?_
     try simp only [qz]
     refine tk 2 (.bool true) rfl (Or.inl ⟨by rfl, fun w _ => by go_simp; try omega⟩) hHeld ?_
     try simp only [qz]
     refine tkm 3 (.bool true) rfl hHeld ?_
     try simp only [qz]
     refine tkm 4 (.slice (some ⟨g2, o2, none⟩) n2 k2) rfl hHeld ?_
     try simp only [qz]
     refine tks 5 (.pointer (some ⟨g2, o2, none⟩)) rfl hHeld ?_
     try simp only [qz]
     refine tk 6 (.agg y.cells.toArray) rfl (yieldsIf_load_mid rfl 51 (.tmp 46) rfl g2 o2 rfl y.cells _ (fun w hw => HR2.out w hw) uEvent rfl (iEvent y)) hHeld ?_
     try simp only [qz]
     refine tkm 7 (.slice (some ⟨g1, o1, none⟩) n1 k1) rfl hHeld ?_
     try simp only [qz]
     refine tks 8 (.pointer (some ⟨g1, o1, none⟩)) rfl hHeld ?_
     try simp only [qz]
     refine tk 9 (.agg x.cells.toArray) rfl (yieldsIf_load_mid rfl 51 (.tmp 49) rfl g1 o1 rfl x.cells _ (fun w hw => HR1.out w hw) uEvent rfl (iEvent x)) hHeld ?_
     try simp only [qz]
     refine rd1 10 rfl (fun K hK => ?_)
     rw [if_pos (by rfl)]
     go_simp
     refine (evLess_any y x _).mono ?_
     rintro e w8 ⟨rfl, hb8⟩
     rw [HY.out]
     refine hK.out _ _ (bto hHeld hb8) (fun hHeld => ?_)
     clear hK K
     try simp only [qz]
     refine rd1 11 rfl (fun K hK => ?_)
     go_simp
     refine hK.out _ _ hHeld (fun hHeld => ?_)
     clear hK K
     try simp only [qz]
     refine rd1 12 rfl (fun K hK => ?_)
     go_simp
     refine hK.out _ _ hHeld (fun hHeld => ?_)
     clear hK K
     try simp only [qz]
     refine rd1 13 rfl (fun K hK => ?_)
     go_simp
     refine hK.out _ _ hHeld (fun hHeld => ?_)
     clear hK K
     refine wpAnyH_done (by kernel_rfl) ?_ _
     go_wp2
     go_ret
     exact ⟨ret_eq (by rw [HRES.out, decide_eq_true hab]; rfl), hHeld⟩
    ·have habi : ¬ (a : Int) < (b : Int) := by omega
     go_upto_region 6 with fail
     have hh0 := HB2.out.drew
     refine wp_region_held_drew (S := fun w2 => Below w.heap.size w w2) (by kernel_rfl) hh0 (fun hHeld => ?_)
     refine tkm 0 (.int .i64 (a : Nat)) rfl hHeld ?_
     try simp only [qz]
     refine tkm 1 (.int .i64 (b : Nat)) rfl hHeld ?_
     try simp only [qz]
     refine tk 2 (.bool false) rfl (Or.inl ⟨by rfl, fun w _ => by go_simp; try omega⟩) hHeld ?_
     try simp only [qz]
     refine tkm 3 (.bool false) rfl hHeld ?_
     try simp only [qz]
     refine tk 4 undef rfl (Or.inr ⟨by rfl, rfl⟩) hHeld ?_
     try simp only [qz]
     refine tk 5 undef rfl (Or.inr ⟨by rfl, rfl⟩) hHeld ?_
     try simp only [qz]
     refine tk 6 undef rfl (Or.inr ⟨by rfl, rfl⟩) hHeld ?_
     try simp only [qz]
     refine tk 7 undef rfl (Or.inr ⟨by rfl, rfl⟩) hHeld ?_
     try simp only [qz]
     refine tk 8 undef rfl (Or.inr ⟨by rfl, rfl⟩) hHeld ?_
     try simp only [qz]
     refine tk 9 undef rfl (Or.inr ⟨by rfl, rfl⟩) hHeld ?_
     try simp only [qz]
     refine tk 10 undef rfl (Or.inr ⟨by rfl, rfl⟩) hHeld ?_
     try simp only [qz]
     refine tk 11 undef rfl (Or.inr ⟨by rfl, rfl⟩) hHeld ?_
     try simp only [qz]
     refine tks 12 (.bool false) rfl hHeld ?_
     try simp only [qz]
     refine rd1 13 rfl (fun K hK => ?_)
     go_simp
     refine hK.out _ _ hHeld (fun hHeld => ?_)
     clear hK K
     refine wpAnyH_done (by kernel_rfl) ?_ _
     go_wp2
     go_ret
     exact ⟨ret_eq (by rw [HRES.out, decide_eq_false hab]; rfl), hHeld⟩
   ·go_wp2
    go_ret
    exact ⟨ret_eq (by rw [HRES.out]; rfl), HB2.out⟩
end Go.Proofs.YtjldamkmdkaiiaaGreatDoor
