/-
  Layer segment: does a chunk stand behind those that are read: (*Segment).follows.
-/
import Derived.Test.YtifabkbdiiolfaaDoorYqK
import Derived.Test.YtifabkbdiiolfaaDoorYnK
open List renaming getElem_toArray → qz0, getElem_cons_zero → qz1, getElem_cons_succ → qz2, setIfInBounds_toArray → qz3, set_cons_zero → qz4, set_cons_succ → qz5
set_option linter.unusedSimpArgs false
set_option linter.unusedVariables false
set_option maxRecDepth 8000
namespace Go.Proofs.YtifabkbdiiolfaaDoor
open Go.RowKit Go.WideShapes Col
theorem flw_some {m : List Ck} {n q : Nat} {x c : Ck} (hn : n = m.length) (hq : n = q + 1) (hx : m[q]? = some x) : flw m c = (decide (x.pl < c.pl) && decide (c.oa = x.ob + 1)) := by
 unfold flw
 rw [List.getLast?_eq_getElem?, show m.length - 1 = q by omega, hx]
theorem flw_none {m : List Ck} {n : Nat} {c : Ck} (hn : n = m.length) (h0 : n = 0) : flw m c = decide (c.pl = 0) := by
 obtain rfl : m = [] := List.eq_nil_of_length_eq_zero (by omega)
 rfl
set_option maxHeartbeats 4000000 in
theorem follows_any (bs p foot : Nat) (vb : Value) (A : Option Addr) (n cap : Nat) (m : List Ck) (hn : Hid (n = m.length)) (hn9 : n ≤ 1000000) (hnc : n ≤ cap) (hcm : cap ≤ maxLen) (c : Ck) (hoa : Hid (∀ x ∈ m, x.ob ≤ 1099511627775)) (w : World)
  (HSG : Hid (w.heap[bs]? = some (.cells #[vb, .int .i64 (p : Int), .slice A n cap, .int .i64 (foot : Int)] 60 (0, 0)))) (HC : Hid (CkAt w A m)) :
  Calls Tryd.prog 51 #[.pointer (some ⟨bs, 0, none⟩), .agg #[.int .i64 (c.rows : Int), .int .i64 (c.pl : Int), .int .u64 (c.oa : Int), .int .u64 (c.ob : Int), .int .i64 c.ta, .int .i64 c.tz, .string c.ka, .string c.kz]] w fun e w' => e = .returned (.bool (flw m c)) ∧ Below w.heap.size w w' := by
 have HB0 : Hid (Below w.heap.size w (w.alloc (.cells #[.int .i64 (c.rows : Int), .int .i64 (c.pl : Int), .int .u64 (c.oa : Int), .int .u64 (c.ob : Int), .int .i64 c.ta, .int .i64 c.tz, .string c.ka, .string c.kz] 41))) := Lib.hid ((Below.refl _ _).alloc (Nat.le_refl _) _)
 have HC3 : Hid ((w.alloc (.cells #[.int .i64 (c.rows : Int), .int .i64 (c.pl : Int), .int .u64 (c.oa : Int), .int .u64 (c.ob : Int), .int .i64 c.ta, .int .i64 c.tz, .string c.ka, .string c.kz] 41)).heap[w.heap.size]? = some (.cells #[.int .i64 (c.rows : Int), .int .i64 (c.pl : Int), .int .u64 (c.oa : Int), .int .u64 (c.ob : Int), .int .i64 c.ta, .int .i64 c.tz, .string c.ka, .string c.kz] 41 (0, 0))) := Lib.hid (heap_alloc_new' w _)
 have HSG1 : Hid ((w.alloc (.cells #[.int .i64 (c.rows : Int), .int .i64 (c.pl : Int), .int .u64 (c.oa : Int), .int .u64 (c.ob : Int), .int .i64 c.ta, .int .i64 c.tz, .string c.ka, .string c.kz] 41)).heap[bs]? = some (.cells #[vb, .int .i64 (p : Int), .slice A n cap, .int .i64 (foot : Int)] 60 (0, 0))) := Lib.hid (row_keepS HSG.out HB0.out)
 have c2 : (w.alloc (.cells #[.int .i64 (c.rows : Int), .int .i64 (c.pl : Int), .int .u64 (c.oa : Int), .int .u64 (c.ob : Int), .int .i64 c.ta, .int .i64 c.tz, .string c.ka, .string c.kz] 41)).cell? ⟨bs, 2, none⟩ = some (.slice A n cap) := by rw [cell_of_row _ _ _ _ _ _ HSG1.out]; rfl
 by_cases h0 : n = 0
 ·have c31 : (w.alloc (.cells #[.int .i64 (c.rows : Int), .int .i64 (c.pl : Int), .int .u64 (c.oa : Int), .int .u64 (c.ob : Int), .int .i64 c.ta, .int .i64 c.tz, .string c.ka, .string c.kz] 41)).cell? ⟨w.heap.size, 1, none⟩ = some (.int .i64 (c.pl : Int)) := by rw [cell_of_row _ _ _ _ _ _ HC3.out]; rfl
  have HF := Lib.hid (flw_none (c := c) hn.out h0)
  have HZ : Hid (decide ((c.pl : Int) = 0) = decide (c.pl = 0)) := Lib.hid (by simp)
  rw [HF.out, ← HZ.out]
  have h0i : ((n : Int) == 0) = true := by subst h0; rfl
  go_enter Tryd.func51, Tryd.ntmps51
  go_wp2
  go_ret
  exact ⟨by first | rfl | (congr 2; simp; done) | (simp [beq_iff_eq]; done), HB0.out⟩
 ·obtain ⟨q, hq⟩ : ∃ q, n = q + 1 := ⟨n - 1, by omega⟩
  obtain ⟨x, hx⟩ : ∃ x, m[q]? = some x := ⟨_, List.getElem?_eq_getElem (by have := hn.out; omega)⟩
  obtain ⟨gc, off, rfl, hgc, hrg⟩ := ckr HC.out q x hx
  have HF := Lib.hid (flw_some (c := c) hn.out hq hx)
  have HXO : Hid (x.ob ≤ 1099511627775) := Lib.hid (hoa.out x (List.mem_of_getElem? hx))
  have h0i : ((n : Int) == 0) = false := by rw [beq_eq_false_iff_ne]; omega
  have HQ : Hid ((n : Int) - 1 = (q : Int) ∧ IntKind.i64.wrap (q : Int) = (q : Int) ∧ (q : Int) < (n : Int)) := Lib.hid ⟨by omega, by rw [IntKind.wrap_i64]; omega, by omega⟩
  have HRG : Hid (∀ v, Below (w.alloc (.cells #[.int .i64 (c.rows : Int), .int .i64 (c.pl : Int), .int .u64 (c.oa : Int), .int .u64 (c.ob : Int), .int .i64 c.ta, .int .i64 c.tz, .string c.ka, .string c.kz] 41)).heap.size (w.alloc (.cells #[.int .i64 (c.rows : Int), .int .i64 (c.pl : Int), .int .u64 (c.oa : Int), .int .u64 (c.ob : Int), .int .i64 c.ta, .int .i64 c.tz, .string c.ka, .string c.kz] 41)) v → v.rangeAt gc (off + q * 8) [.int .i64 (x.rows : Int), .int .i64 (x.pl : Int), .int .u64 (x.oa : Int), .int .u64 (x.ob : Int), .int .i64 x.ta, .int .i64 x.tz, .string x.ka, .string x.kz]) := Lib.hid fun v hb j u hu => (hb.cell (p := ⟨gc, off + q * 8 + j, none⟩) (Nat.lt_of_lt_of_le hgc HB0.out.size)).trans ((HB0.out.cell (p := ⟨gc, off + q * 8 + j, none⟩) hgc).trans (hrg j u hu))
  clear hx hrg h0 hq hoa
  obtain ⟨v1, hv1⟩ : ∃ v1, v1 = w.alloc (.cells #[.int .i64 (c.rows : Int), .int .i64 (c.pl : Int), .int .u64 (c.oa : Int), .int .u64 (c.ob : Int), .int .i64 c.ta, .int .i64 c.tz, .string c.ka, .string c.kz] 41) := ⟨_, rfl⟩
  rw [← hv1] at HB0 HC3 HSG1 HRG c2
  have HV1 := Lib.hid hv1
  obtain ⟨b3, hb3⟩ : ∃ b3, b3 = w.heap.size := ⟨_, rfl⟩
  have HB3 := Lib.hid hb3
  clear hv1 hb3
  have HOB : Hid (IntKind.u64.wrap ((x.ob : Int) + 1) = ((x.ob + 1 : Nat) : Int)) := Lib.hid (by have := HXO.out; rw [IntKind.wrap_u64]; omega)
  go_enter Tryd.func51, Tryd.ntmps51
  go_upto_region 1 with fail
  rw [← HV1.out, ← HB3.out]
  rw [← HB3.out] at HC3
  go_upto_region 3 with fail
  refine wp_region_held_drew (S := Below v1.heap.size v1) (by kernel_rfl) (Below.refl _ _).drew (fun hHeld => ?_)
  refine wpAnyH_take (i := 0) (v := .pointer (some ⟨bs, 0, none⟩)) rfl (by kernel_rfl) (by kernel_rfl) (by kernel_rfl) (fun _ _ _ h => h) (Or.inl ⟨by rfl, fun _ _ => rfl⟩) hHeld ?_
  try dsimp only
  try simp only [Act.put, qz0, qz1, qz2, qz3, qz4, qz5]
  refine wpAnyH_take (i := 1) (v := .pointer (some ⟨bs, 0, none⟩)) rfl (by kernel_rfl) (by kernel_rfl) (by kernel_rfl) (fun _ _ _ h => h) (Or.inl ⟨by rfl, fun w _ => by go_simp⟩) hHeld ?_
  try dsimp only
  try simp only [Act.put, qz0, qz1, qz2, qz3, qz4, qz5]
  refine wpAnyH_take (i := 2) (v := .pointer (some ⟨bs, 2, none⟩)) rfl (by kernel_rfl) (by kernel_rfl) (by kernel_rfl) (fun _ _ _ h => h) (Or.inl ⟨by rfl, fun w _ => by go_simp⟩) hHeld ?_
  try dsimp only
  try simp only [Act.put, qz0, qz1, qz2, qz3, qz4, qz5]
  refine wpAnyH_take (i := 3) (v := .slice (some ⟨gc, off, none⟩) n cap) rfl (by kernel_rfl) (by kernel_rfl) (by kernel_rfl) (fun _ _ _ h => h) (ylS lv_cksS rfl (.tmp 17) rfl bs 2 rfl _ (fun w hw => by rw [cell_of_row _ _ _ _ _ _ (row_keepS HSG1.out hw)]; rfl)) hHeld ?_
  try dsimp only
  try simp only [Act.put, qz0, qz1, qz2, qz3, qz4, qz5]
  refine wpAnyH_take (i := 4) (v := .pointer (some ⟨bs, 0, none⟩)) rfl (by kernel_rfl) (by kernel_rfl) (by kernel_rfl) (fun _ _ _ h => h) (Or.inl ⟨by rfl, fun _ _ => rfl⟩) hHeld ?_
  try dsimp only
  try simp only [Act.put, qz0, qz1, qz2, qz3, qz4, qz5]
  refine wpAnyH_take (i := 5) (v := .pointer (some ⟨bs, 0, none⟩)) rfl (by kernel_rfl) (by kernel_rfl) (by kernel_rfl) (fun _ _ _ h => h) (Or.inl ⟨by rfl, fun w _ => by go_simp⟩) hHeld ?_
  try dsimp only
  try simp only [Act.put, qz0, qz1, qz2, qz3, qz4, qz5]
  refine wpAnyH_take (i := 6) (v := .pointer (some ⟨bs, 2, none⟩)) rfl (by kernel_rfl) (by kernel_rfl) (by kernel_rfl) (fun _ _ _ h => h) (Or.inl ⟨by rfl, fun w _ => by go_simp⟩) hHeld ?_
  try dsimp only
  try simp only [Act.put, qz0, qz1, qz2, qz3, qz4, qz5]
  refine wpAnyH_take (i := 7) (v := .slice (some ⟨gc, off, none⟩) n cap) rfl (by kernel_rfl) (by kernel_rfl) (by kernel_rfl) (fun _ _ _ h => h) (ylS lv_cksS rfl (.tmp 21) rfl bs 2 rfl _ (fun w hw => by rw [cell_of_row _ _ _ _ _ _ (row_keepS HSG1.out hw)]; rfl)) hHeld ?_
  try dsimp only
  try simp only [Act.put, qz0, qz1, qz2, qz3, qz4, qz5]
  refine wpAnyH_take (i := 8) (v := .int .i64 (n : Int)) rfl (by kernel_rfl) (by kernel_rfl) (by kernel_rfl) (fun _ _ _ h => h) (Or.inl ⟨by rfl, fun w _ => by go_simp⟩) hHeld ?_
  try dsimp only
  try simp only [Act.put, qz0, qz1, qz2, qz3, qz4, qz5]
  refine wpAnyH_take (i := 9) (v := .int .i64 (q : Int)) rfl (by kernel_rfl) (by kernel_rfl) (by kernel_rfl) (fun _ _ _ h => h) (Or.inl ⟨by rfl, fun w _ => by have h9 := HQ.out.1; have h8 := HQ.out.2.1; go_simp⟩) hHeld ?_
  try dsimp only
  try simp only [Act.put, qz0, qz1, qz2, qz3, qz4, qz5]
  refine wpAnyH_take (i := 10) (v := .pointer (some ⟨gc, off + q * 8, none⟩)) rfl (by kernel_rfl) (by kernel_rfl) (by kernel_rfl) (fun _ _ _ h => h) (Or.inl ⟨by rfl, fun w _ => by have h9 := HQ.out.2.2; go_simp⟩) hHeld ?_
  try dsimp only
  try simp only [Act.put, qz0, qz1, qz2, qz3, qz4, qz5]
  refine wpAnyH_take (i := 11) (v := .agg #[.int .i64 (x.rows : Int), .int .i64 (x.pl : Int), .int .u64 (x.oa : Int), .int .u64 (x.ob : Int), .int .i64 x.ta, .int .i64 x.tz, .string x.ka, .string x.kz]) rfl (by kernel_rfl) (by kernel_rfl) (by kernel_rfl) (fun _ _ _ h => h) (yieldsIf_load_mid rfl 41 (.tmp 25) rfl gc (off + q * 8) rfl [.int .i64 (x.rows : Int), .int .i64 (x.pl : Int), .int .u64 (x.oa : Int), .int .u64 (x.ob : Int), .int .i64 x.ta, .int .i64 x.tz, .string x.ka, .string x.kz] _ (fun w hw => HRG.out w hw) uCk rfl (iCk x)) hHeld ?_
  try dsimp only
  try simp only [Act.put, qz0, qz1, qz2, qz3, qz4, qz5]
  refine wpAnyH_ready (rs := [12]) (by kernel_rfl) (by simp) (AllReadyH.cons rfl (fun K hK => ?_) AllReadyH.nil)
  go_simp
  refine hK.out _ _ (hHeld.alloc (Nat.le_refl _) _) (fun hHeld => ?_)
  clear hK K
  try dsimp only
  try simp only [Act.put, qz0, qz1, qz2, qz3, qz4, qz5]
  refine wpAnyH_ready (rs := [13]) (by kernel_rfl) (by simp) (AllReadyH.cons rfl (fun K hK => ?_) AllReadyH.nil)
  rw [if_pos (by rfl)]
  refine wp_store_row 41 (.tmp 5) (.tmp 26) rfl v1.heap.size #[.int .i64 (x.rows : Int), .int .i64 (x.pl : Int), .int .u64 (x.oa : Int), .int .u64 (x.ob : Int), .int .i64 x.ta, .int .i64 x.tz, .string x.ka, .string x.kz] rfl rfl _ _ (heap_alloc_new' v1.drew _) (iCkS x) (sizeCkS x) (oneCkS x) ?_
  have hb5 := below_setRowS hHeld (Nat.le_refl v1.heap.size) #[.int .i64 (x.rows : Int), .int .i64 (x.pl : Int), .int .u64 (x.oa : Int), .int .u64 (x.ob : Int), .int .i64 x.ta, .int .i64 x.tz, .string x.ka, .string x.kz]
  have hr5 : ((v1.alloc (.cells #[.int .i64 0, .int .i64 0, .int .u64 0, .int .u64 0, .int .i64 0, .int .i64 0, .string { data := #[] }, .string { data := #[] }] 41)).drew.setRow v1.heap.size #[.int .i64 (x.rows : Int), .int .i64 (x.pl : Int), .int .u64 (x.oa : Int), .int .u64 (x.ob : Int), .int .i64 x.ta, .int .i64 x.tz, .string x.ka, .string x.kz]).heap[v1.heap.size]? = some (.cells #[.int .i64 (x.rows : Int), .int .i64 (x.pl : Int), .int .u64 (x.oa : Int), .int .u64 (x.ob : Int), .int .i64 x.ta, .int .i64 x.tz, .string x.ka, .string x.kz] 41 (0, 0)) := setRow_heap _ _ _ #[.int .i64 (x.rows : Int), .int .i64 (x.pl : Int), .int .u64 (x.oa : Int), .int .u64 (x.ob : Int), .int .i64 x.ta, .int .i64 x.tz, .string x.ka, .string x.kz] _ _ (heap_alloc_new' v1 (.cells #[.int .i64 0, .int .i64 0, .int .u64 0, .int .u64 0, .int .i64 0, .int .i64 0, .string { data := #[] }, .string { data := #[] }] 41))
  refine hK.out _ _ hb5 (fun hHeld => ?_)
  clear hK K
  refine wpAnyH_done (by kernel_rfl) ?_ _
  clear hHeld
  have HB5 := Lib.hid hb5
  have HR5 := Lib.hid hr5
  clear hb5 hr5
  obtain ⟨v5, hv5⟩ : ∃ v5, v5 = ((v1.alloc (.cells #[.int .i64 0, .int .i64 0, .int .u64 0, .int .u64 0, .int .i64 0, .int .i64 0, .string { data := #[] }, .string { data := #[] }] 41)).drew.setRow v1.heap.size #[.int .i64 (x.rows : Int), .int .i64 (x.pl : Int), .int .u64 (x.oa : Int), .int .u64 (x.ob : Int), .int .i64 x.ta, .int .i64 x.tz, .string x.ka, .string x.kz]) := ⟨_, rfl⟩
  rw [← hv5] at HB5 HR5 ⊢
  clear hv5
  have c31 : v5.cell? ⟨b3, 1, none⟩ = some (.int .i64 (c.pl : Int)) := by rw [cell_of_row _ _ _ _ _ _ (row_keepS HC3.out HB5.out)]; rfl
  have c32 : v5.cell? ⟨b3, 2, none⟩ = some (.int .u64 (c.oa : Int)) := by rw [cell_of_row _ _ _ _ _ _ (row_keepS HC3.out HB5.out)]; rfl
  have c51 : v5.cell? ⟨v1.heap.size, 1, none⟩ = some (.int .i64 (x.pl : Int)) := by rw [cell_of_row _ _ _ _ _ _ HR5.out]; rfl
  have c53 : v5.cell? ⟨v1.heap.size, 3, none⟩ = some (.int .u64 (x.ob : Int)) := by rw [cell_of_row _ _ _ _ _ _ HR5.out]; rfl
  have HBE : Hid (Below w.heap.size w v5) := Lib.hid (below_to HB0.out HB5.out)
  clear c2 h0i
  by_cases h1 : x.pl < c.pl
  ·have h1i : (x.pl : Int) < (c.pl : Int) := by omega
   obtain ⟨y, hy⟩ : ∃ y, y = x.ob + 1 := ⟨_, rfl⟩
   have h9 := HOB.out
   rw [← hy] at h9 HF
   by_cases h2 : c.oa = y
   ·have h2i : (c.oa : Int) = (y : Int) := by omega
    have HR : Hid ((decide (x.pl < c.pl) && decide (c.oa = y)) = true) := Lib.hid (by simp [h1, h2])
    clear h1 h2 hy
    go_wp2
    go_ret
    exact ⟨by rw [HF.out, HR.out]; rfl, HBE.out⟩
   ·have h2i : ((c.oa : Int) == (y : Int)) = false := by rw [beq_eq_false_iff_ne]; omega
    have HR : Hid ((decide (x.pl < c.pl) && decide (c.oa = y)) = false) := Lib.hid (by simp [h2])
    clear h1 h2 hy
    go_wp2
    go_ret
    exact ⟨by rw [HF.out, HR.out]; rfl, HBE.out⟩
  ·have h1i : ¬ ((x.pl : Int) < (c.pl : Int)) := by omega
   have HR : Hid ((decide (x.pl < c.pl) && decide (c.oa = x.ob + 1)) = false) := Lib.hid (by simp [h1])
   clear h1
   go_wp2
   go_ret
   exact ⟨by rw [HF.out, HR.out]; rfl, HBE.out⟩
end Go.Proofs.YtifabkbdiiolfaaDoor
