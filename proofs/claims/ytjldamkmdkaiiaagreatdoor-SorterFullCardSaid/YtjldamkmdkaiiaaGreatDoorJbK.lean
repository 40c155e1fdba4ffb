/-
  Layer event: readColumn of a column's bytes.
-/
import Derived.Deep.MidRow
import Derived.Deep.WholeRow
import Derived.Test.YtjldamkmdkaiiaaGreatDoorEfK
import Derived.Test.YtjldamkmdkaiiaaGreatDoorVbK
import Derived.Test.YtjldamkmdkaiiaaGreatDoorDaK
import Derived.Test.YtjldamkmdkaiiaaGreatDoorTeK
import Derived.Test.YtjldamkmdkaiiaaGreatDoorGyK
import Derived.Test.YtjldamkmdkaiiaaGreatDoorUeK
set_option linter.unusedSimpArgs false
set_option linter.unusedVariables false
set_option maxRecDepth 8000
namespace Go.Proofs.YtjldamkmdkaiiaaGreatDoor
open Go.RowKit Go.Sort Go.WideShapes Col
theorem uEvB : Tryz.prog.underlying 51 = some (.struct (Tryz.prog.fieldsOf 51)) := by kernel_rfl
theorem iEvB (x : Ev) : (Tryz.prog.info? 51).map (·.size) = some x.cells.length := by rw [cells_len]; kernel_rfl
theorem sizeEvB (x : Ev) : (#[Value.int .u64 0, .int .i64 0, .int .i64 0, .string { data := #[] }, .float .f64 0] : Array Value).size = x.cells.toArray.size := rfl
theorem oneEvB (x : Ev) : x.cells.toArray.all (·.oneCell') = true := by unfold Ev.cells; simp [Value.oneCell']
theorem evrB {w : World} {A : Option Addr} {l : List Ev} (h : EvAt w A l) (i : Nat) (x : Ev) (hx : l[i]? = some x) : ∃ g off, A = some ⟨g, off, none⟩ ∧ g < w.heap.size ∧ w.rangeAt g (off + i * 5) x.cells := by
 have h0 : (evs l)[i * 5 + 0]? = x.cells[0]? := by rw [evs_get l i 0 (by decide), hx]; rfl
 obtain ⟨g, off, e, hg, -⟩ := h (i * 5 + 0) (.int .u64 (x.off : Int)) (by rw [h0]; rfl)
 refine ⟨g, off, e, hg, fun j v hv => ?_⟩
 have hj : j < 5 := (List.getElem?_eq_some_iff.1 hv).1
 have h1 : (evs l)[i * 5 + j]? = some v := by rw [evs_get l i j hj, hx]; exact hv
 obtain ⟨g', off', e', -, hc⟩ := h _ _ h1
 rw [e] at e'; injection e' with e'; injection e' with b1 b2; subst b1; subst b2
 rw [Nat.add_assoc]; exact hc
structure FineE (x : Ev) : Prop where
 off : x.off < 1099511627776
 part : 0 ≤ x.part ∧ x.part < 8
 time : -1099511627776 ≤ x.time ∧ x.time ≤ 1099511627776
 key : x.key.size ≤ 32
 val : x.val < 18446744073709551616
def oI (x : Ev) : Int := (x.off : Int)
def kL (x : Ev) : List Nat := nb x.key.data.toList
theorem kL_wf (x : Ev) : WfT (kL x) := nb_wf _
theorem kL_strB (x : Ev) : strB (kL x) = x.key := by
 have h := tb_nb x.key.data.toList
 unfold tb at h
 exact ByteArray.ext (Array.ext' h)
theorem kL_len (x : Ev) : (kL x).length = x.key.size := by
 unfold kL nb; rw [List.length_map]; rfl
def evY (l : List Ev) : List Nat := (((txL (intsL (l.map oI)) ++ txL (intsL (l.map Ev.part))) ++ txL (intsL (l.map Ev.time))) ++ txL (textsL (l.map kL))) ++ txL (intsL ((l.map Ev.val).map rwI))
theorem map_snoc {α : Type} (f : Ev → α) (l : List Ev) (k : Nat) (x : Ev) (h : l[k]? = some x) : (l.map f).take (k + 1) = (l.map f).take k ++ [f x] := by
 rw [List.take_add_one, List.getElem?_map, h]; rfl
theorem kept_cellB (w : World) (g i : Nat) (u : Value) : Kept (fun j => j = g) w (w.setCell ⟨g, i, none⟩ u) := (Kept.refl _ _).setCell _ _ (.inl rfl)
structure EvL (w0 : World) (a b c d e : Nat) (o p t : List Int) (ky : List (List Nat)) (v : List Nat) (wr : World) : Prop where
 r1 : RowI wr a o
 r2 : RowI wr b p
 r3 : RowI wr c t
 r4 : RowT wr d ky
 r5 : RowF wr e v
 lt : w0.heap.size ≤ a ∧ a < b ∧ b < c ∧ c < d ∧ d < e ∧ e < wr.heap.size
 below : Below w0.heap.size w0 wr
section
variable {w0 wr w2 : World} {a b c d e : Nat} {o p t : List Int} {ky : List (List Nat)} {v : List Nat}
theorem EvL.keep (H : EvL w0 a b c d e o p t ky v wr) (hb : Below wr.heap.size wr w2) : EvL w0 a b c d e o p t ky v w2 :=
 have K : Kept (fun _ => False) wr w2 := Kept.of_below hb
 ⟨H.r1.keep K (fun h => h), H.r2.keep K (fun h => h), H.r3.keep K (fun h => h), H.r4.keep K (fun h => h), H.r5.keep K (fun h => h), ⟨H.lt.1, H.lt.2.1, H.lt.2.2.1, H.lt.2.2.2.1, H.lt.2.2.2.2.1, Nat.lt_of_lt_of_le H.lt.2.2.2.2.2 hb.size⟩, below_to H.below hb⟩
theorem EvL.set1 (H : EvL w0 a b c d e o p t ky v wr) (k : Nat) (x : Int) : EvL w0 a b c d e (o.set k x) p t ky v (wr.setCell ⟨a, k, none⟩ (.int .i64 x)) :=
 ⟨H.r1.set k x, H.r2.keep (kept_cellB wr a k _) (fun h => by have := H.lt; omega), H.r3.keep (kept_cellB wr a k _) (fun h => by have := H.lt; omega), H.r4.keep (kept_cellB wr a k _) (fun h => by have := H.lt; omega), H.r5.keep (kept_cellB wr a k _) (fun h => by have := H.lt; omega), by rw [setCell_size]; exact H.lt, H.below.setCell (by have := H.lt; show w0.heap.size ≤ a; omega) _⟩
theorem EvL.set2 (H : EvL w0 a b c d e o p t ky v wr) (k : Nat) (x : Int) : EvL w0 a b c d e o (p.set k x) t ky v (wr.setCell ⟨b, k, none⟩ (.int .i64 x)) :=
 ⟨H.r1.keep (kept_cellB wr b k _) (fun h => by have := H.lt; omega), H.r2.set k x, H.r3.keep (kept_cellB wr b k _) (fun h => by have := H.lt; omega), H.r4.keep (kept_cellB wr b k _) (fun h => by have := H.lt; omega), H.r5.keep (kept_cellB wr b k _) (fun h => by have := H.lt; omega), by rw [setCell_size]; exact H.lt, H.below.setCell (by have := H.lt; show w0.heap.size ≤ b; omega) _⟩
theorem EvL.set3 (H : EvL w0 a b c d e o p t ky v wr) (k : Nat) (x : Int) : EvL w0 a b c d e o p (t.set k x) ky v (wr.setCell ⟨c, k, none⟩ (.int .i64 x)) :=
 ⟨H.r1.keep (kept_cellB wr c k _) (fun h => by have := H.lt; omega), H.r2.keep (kept_cellB wr c k _) (fun h => by have := H.lt; omega), H.r3.set k x, H.r4.keep (kept_cellB wr c k _) (fun h => by have := H.lt; omega), H.r5.keep (kept_cellB wr c k _) (fun h => by have := H.lt; omega), by rw [setCell_size]; exact H.lt, H.below.setCell (by have := H.lt; show w0.heap.size ≤ c; omega) _⟩
theorem EvL.set4 (H : EvL w0 a b c d e o p t ky v wr) (k : Nat) (x : List Nat) : EvL w0 a b c d e o p t (ky.set k x) v (wr.setCell ⟨d, k, none⟩ (.string (strB x))) :=
 ⟨H.r1.keep (kept_cellB wr d k _) (fun h => by have := H.lt; omega), H.r2.keep (kept_cellB wr d k _) (fun h => by have := H.lt; omega), H.r3.keep (kept_cellB wr d k _) (fun h => by have := H.lt; omega), H.r4.set k x, H.r5.keep (kept_cellB wr d k _) (fun h => by have := H.lt; omega), by rw [setCell_size]; exact H.lt, H.below.setCell (by have := H.lt; show w0.heap.size ≤ d; omega) _⟩
theorem EvL.set5 (H : EvL w0 a b c d e o p t ky v wr) (k : Nat) (x : Nat) : EvL w0 a b c d e o p t ky (v.set k x) (wr.setCell ⟨e, k, none⟩ (.float .f64 x)) :=
 ⟨H.r1.keep (kept_cellB wr e k _) (fun h => by have := H.lt; omega), H.r2.keep (kept_cellB wr e k _) (fun h => by have := H.lt; omega), H.r3.keep (kept_cellB wr e k _) (fun h => by have := H.lt; omega), H.r4.keep (kept_cellB wr e k _) (fun h => by have := H.lt; omega), H.r5.set k x, by rw [setCell_size]; exact H.lt, H.below.setCell (by have := H.lt; show w0.heap.size ≤ e; omega) _⟩
end
theorem EvRow.c {w : World} {g : Nat} {x : Ev} (h : w.heap[g]? = some (.cells x.cells.toArray 51 (0, 0))) (j : Nat) (v : Value) (hv : x.cells[j]? = some v) : w.cell? ⟨g, j, none⟩ = some v := by
 rw [cell_of_row w g j _ _ _ h, List.getElem?_toArray]; exact hv
theorem oI_wf {l : List Ev} (h : ∀ x ∈ l, FineE x) : ∀ y ∈ l.map oI, Wf64 y := fun y hy => by
 obtain ⟨x, hx, rfl⟩ := List.mem_map.1 hy
 have := (h x hx).off
 unfold Wf64 oI
 omega
theorem part_wf {l : List Ev} (h : ∀ x ∈ l, FineE x) : ∀ y ∈ l.map Ev.part, Wf64 y := fun y hy => by
 obtain ⟨x, hx, rfl⟩ := List.mem_map.1 hy
 have := (h x hx).part
 unfold Wf64
 omega
theorem time_wf {l : List Ev} (h : ∀ x ∈ l, FineE x) : ∀ y ∈ l.map Ev.time, Wf64 y := fun y hy => by
 obtain ⟨x, hx, rfl⟩ := List.mem_map.1 hy
 have := (h x hx).time
 unfold Wf64
 omega
theorem val_lt {l : List Ev} (h : ∀ x ∈ l, FineE x) : ∀ y ∈ l.map Ev.val, y < 18446744073709551616 := fun y hy => by
 obtain ⟨x, hx, rfl⟩ := List.mem_map.1 hy
 exact (h x hx).val
theorem kL_all {l : List Ev} (h : ∀ x ∈ l, FineE x) : ∀ y ∈ l.map kL, WfT y ∧ y.length ≤ 32 := fun y hy => by
 obtain ⟨x, hx, rfl⟩ := List.mem_map.1 hy
 exact ⟨kL_wf x, by rw [kL_len]; exact (h x hx).key⟩
theorem ints_lin (l : List Int) (hw : ∀ y ∈ l, Wf64 y) (hn : l.length ≤ 320) : (intsL l).length ≤ 23 + 20 * l.length := by
 have h1 := best_le 3 l 0 (by omega)
 have h2 := asL_len 0 l hw (by omega)
 unfold intsL
 omega
theorem ints_60 (l : List Int) (hw : ∀ y ∈ l, Wf64 y) (hn : l.length ≤ 320) : (intsL l).length ≤ 6423 := by
 have := ints_lin l hw hn; omega
theorem flatB_le (ts : List (List Nat)) (h : ∀ s ∈ ts, s.length ≤ 32) : ((ts.map txL).flatten).length ≤ 42 * ts.length := by
 induction ts with
 | nil => exact Nat.le_refl _
 | cons a r ih =>
  have h1 := ih fun s hs => h s (by simp [hs])
  have h2 := h a (by simp)
  have h3 := ub10 (show a.length < 18446744073709551616 by omega)
  have h4 : (txL a).length = (ub a.length).length + a.length := by unfold txL; rw [List.length_append]
  rw [List.map_cons, List.flatten_cons, List.length_append, List.length_cons]
  omega
theorem texts_lin (l : List (List Nat)) (hw : ∀ x ∈ l, WfT x) (h32 : ∀ y ∈ l, y.length ≤ 32) (hn : l.length ≤ 320) : (textsL l).length ≤ 38 + 62 * l.length := by
 have hu := uqL_len l
 have h1 := flatB_le (uqL l) fun s hs => h32 s (((uqL_facts l hw).2 s).1 hs)
 have h2 := ub10 (show (uqL l).length < 18446744073709551616 by omega)
 have h3 := ints_lin (l.map fun x => (plc (uqL l) x : Int)) (fun x hx => by obtain ⟨y, -, rfl⟩ := List.mem_map.1 hx; exact plc_wf (uqL l) (by omega) y) (by rw [List.length_map]; omega)
 rw [List.length_map] at h3
 unfold textsL
 rw [List.length_append, List.length_append]
 omega
theorem texts_60 (l : List (List Nat)) (hw : ∀ x ∈ l, WfT x) (h32 : ∀ y ∈ l, y.length ≤ 32) (hn : l.length ≤ 320) : (textsL l).length ≤ 19878 := by
 have := texts_lin l hw h32 hn; omega
theorem txL_le (D : List Nat) (m : Nat) (hm : m ≤ 1000000) (h : D.length ≤ m) : (txL D).length ≤ m + 10 := by
 have h3 := ub10 (show D.length < 18446744073709551616 by omega)
 unfold txL; rw [List.length_append]; omega
theorem ints_row (wr : World) (L n : Nat) (l : List Int) (hn : n = l.length) (h6 : n ≤ 320) (hw : ∀ y ∈ l, Wf64 y) (hr : RowI wr L l) (w' : World) (hb : Below wr.heap.size wr w') :
  Calls Tryz.prog 78 #[.slice (some ⟨L, 0, none⟩) n n] w' (Puts w'.heap.size w' (intsL l)) := by
 have ho := hr.own (B := 0) (Nat.zero_le _) hw (by unfold maxLen; omega)
 rw [← hn] at ho
 exact ints_any (some ⟨L, 0, none⟩) n n l (Lib.hid hn) (Nat.le_refl _) (by omega) (by omega) w' (Lib.hid (ho.isAt.keep hb))
theorem halves_keep {B : Nat} {W w : World} (hGB : 2 < B) (hBw : B ≤ W.heap.size) (h : HalvesAt W) (hb : Below W.heap.size W w) : HalvesAt w := fun i hi => (hb.cell (p := ⟨2, i, none⟩) (Nat.lt_of_lt_of_le hGB hBw)).trans (h i hi)
set_option maxHeartbeats 16000000 in
theorem evLay_any (B : Nat) (A : Option Addr) (np cap0 : Nat) (q : List Nat) (b : Option Addr) (n c : Nat) (l : List Ev) (hn : Hid (n = l.length)) (hn6 : n ≤ 320) (hnp : np ≤ 900000) (hfin : Hid (∀ x ∈ l, FineE x)) (W : World) (HQ : Hid (OwnS W B A np cap0 q)) (HE : Hid (EvAt W b l)) (HG : Hid (HalvesAt W)) (hBw : B ≤ W.heap.size) (hGB : 2 < B) :
  Calls Tryz.prog 67 #[.slice A np cap0, .slice b n c] W (RetL W B (np + 5 + (evY l).length + 4) (q ++ Pg.lay 101 (evY l))) := by
 obtain ⟨iu, hiu, iuz0, iuz1, iuz2⟩ := info_parts infoI64'
 obtain ⟨js, hjs, jsz0, jsz1, jsz2⟩ := info_parts infoStr
 obtain ⟨jf, hjf, jfz0, jfz1, jfz2⟩ := info_parts infoF64
 have iub : iu.bytes * n ≤ 281474976710656 := by rw [iuz2]; omega
 have jsb : js.bytes * n ≤ 281474976710656 := by rw [jsz2]; omega
 have jfb : jf.bytes * n ≤ 281474976710656 := by rw [jfz2]; omega
 have hnm : n ≤ maxLen := by unfold maxLen; omega
 go_enter Tryz.func67, Tryz.ntmps67
 go_wp2_with (first
  | (refine wpList_make_full _ rfl (.tmp 14) (.tmp 14) 119 rfl W.heap.size 2 iu (.int .i64 0) 1 Tryz.underlying119 hiu iuz0 iuz1 .i64 .i64 _ _ n rfl rfl rfl rfl iub hnm (Nat.le_refl _) ?_; intro w1 own hgr; have HR1 := Lib.hid (rowI_zeros own); have HG1 : Hid (Below W.heap.size W w1) := Lib.hid ((Below.refl _ W).grown hgr (Nat.le_refl _) (by intro k hk; cases hk)); clear own hgr)
  | (refine wpList_make_full _ rfl (.tmp 17) (.tmp 17) 119 rfl w1.heap.size 2 iu (.int .i64 0) 1 Tryz.underlying119 hiu iuz0 iuz1 .i64 .i64 _ _ n rfl rfl rfl rfl iub hnm (Nat.le_refl _) ?_; intro w2 own hgr; have HR2 := Lib.hid (rowI_zeros own); have HG2 : Hid (Below w1.heap.size w1 w2) := Lib.hid ((Below.refl _ w1).grown hgr (Nat.le_refl _) (by intro k hk; cases hk)); clear own hgr)
  | (refine wpList_make_full _ rfl (.tmp 20) (.tmp 20) 119 rfl w2.heap.size 2 iu (.int .i64 0) 1 Tryz.underlying119 hiu iuz0 iuz1 .i64 .i64 _ _ n rfl rfl rfl rfl iub hnm (Nat.le_refl _) ?_; intro w3 own hgr; have HR3 := Lib.hid (rowI_zeros own); have HG3 : Hid (Below w2.heap.size w2 w3) := Lib.hid ((Below.refl _ w2).grown hgr (Nat.le_refl _) (by intro k hk; cases hk)); clear own hgr)
  | (refine wpList_make_full _ rfl (.tmp 23) (.tmp 23) 37 rfl w3.heap.size 9 js (.string { data := #[] }) 1 Tryz.underlying37 hjs jsz0 jsz1 .i64 .i64 _ _ n rfl rfl rfl rfl jsb hnm (Nat.le_refl _) ?_; intro w4 own hgr; have HR4 := Lib.hid (rowT_zeros own); have HG4 : Hid (Below w3.heap.size w3 w4) := Lib.hid ((Below.refl _ w3).grown hgr (Nat.le_refl _) (by intro k hk; cases hk)); clear own hgr)
  | (refine wpList_make_full _ rfl (.tmp 26) (.tmp 26) 120 rfl w4.heap.size 49 jf (.float .f64 0) 1 Tryz.underlying120 hjf jfz0 jfz1 .i64 .i64 _ _ n rfl rfl rfl rfl jfb hnm (Nat.le_refl _) ?_; intro w5 own hgr; have HR5 := Lib.hid (rowF_zeros own); have HG5 : Hid (Below w4.heap.size w4 w5) := Lib.hid ((Below.refl _ w4).grown hgr (Nat.le_refl _) (by intro k hk; cases hk)); clear own hgr))
 have HL : Hid (EvL W W.heap.size w1.heap.size w2.heap.size w3.heap.size w4.heap.size (List.replicate n 0) (List.replicate n 0) (List.replicate n 0) (List.replicate n []) (List.replicate n 0) w5) := Lib.hid (by
  have k (u v : World) (h : Below u.heap.size u v) : Kept (fun _ => False) u v := Kept.of_below h
  have l1 := (Array.getElem?_eq_some_iff.1 HR1.out).1
  have l2 := (Array.getElem?_eq_some_iff.1 HR2.out).1
  have l3 := (Array.getElem?_eq_some_iff.1 HR3.out).1
  have l4 := (Array.getElem?_eq_some_iff.1 HR4.out).1
  have l5 := (Array.getElem?_eq_some_iff.1 HR5.out).1
  have b15 := below_to (below_to (below_to HG2.out HG3.out) HG4.out) HG5.out
  have b25 := below_to (below_to HG3.out HG4.out) HG5.out
  have b35 := below_to HG4.out HG5.out
  exact ⟨HR1.out.keep (k _ _ b15) (fun h => h), HR2.out.keep (k _ _ b25) (fun h => h), HR3.out.keep (k _ _ b35) (fun h => h), HR4.out.keep (k _ _ HG5.out) (fun h => h), HR5.out, ⟨Nat.le_refl _, l1, l2, l3, l4, l5⟩, below_to HG1.out b15⟩)
 generalize w1.heap.size = L2 at *
 generalize w2.heap.size = L3 at *
 generalize w3.heap.size = L4 at *
 generalize w4.heap.size = L5 at *
 obtain ⟨L1, hL1⟩ : ∃ L1, L1 = W.heap.size := ⟨_, rfl⟩
 rw [← hL1] at HL ⊢
 clear HR1 HR2 HR3 HR4 HR5 HG1 HG2 HG3 HG4 HG5 hL1
 go_loopw [30] (fun v wr => ∃ k : Nat, k ≤ n ∧ v = .int .i64 (k : Int) ∧ EvL W L1 L2 L3 L4 L5 ((l.map oI).take k ++ List.replicate (n - k) 0) ((l.map Ev.part).take k ++ List.replicate (n - k) 0) ((l.map Ev.time).take k ++ List.replicate (n - k) 0) ((l.map kL).take k ++ List.replicate (n - k) []) ((l.map Ev.val).take k ++ List.replicate (n - k) 0) wr) (fun v _ => n - (intOf v).toNat)
 case atStart => exact ⟨0, Nat.zero_le _, rfl, by simpa using HL.out⟩
 case round =>
  obtain ⟨k, hk, rfl, hl⟩ := hrel
  have HK := Lib.hid hl
  clear hl HL
  by_cases hlt : k < n
  ·have hki : (k : Int) < (n : Int) := by omega
   obtain ⟨x, hx⟩ : ∃ x, l[k]? = some x := ⟨_, List.getElem?_eq_getElem (by have := hn.out; omega)⟩
   have HF := Lib.hid (hfin.out x (List.mem_of_getElem? hx))
   obtain ⟨g, off, rfl, hg, hr⟩ := evrB (HE.out.keep HK.out.below) k x hx
   have HR := Lib.hid hr
   have S1 := Lib.hid (map_snoc oI l k x hx)
   have T1 := Lib.hid (fill_set ((l.map oI).take k) n k (by rw [List.length_take, List.length_map]; have := hn.out; omega) hlt (oI x))
   have S2 := Lib.hid (map_snoc Ev.part l k x hx)
   have T2 := Lib.hid (fill_set ((l.map Ev.part).take k) n k (by rw [List.length_take, List.length_map]; have := hn.out; omega) hlt (x.part))
   have S3 := Lib.hid (map_snoc Ev.time l k x hx)
   have T3 := Lib.hid (fill_set ((l.map Ev.time).take k) n k (by rw [List.length_take, List.length_map]; have := hn.out; omega) hlt (x.time))
   have S4 := Lib.hid (map_snoc kL l k x hx)
   have T4 := Lib.hid (fill_setT ((l.map kL).take k) n k (by rw [List.length_take, List.length_map]; have := hn.out; omega) hlt (kL x))
   have S5 := Lib.hid (map_snoc Ev.val l k x hx)
   have T5 := Lib.hid (fill_setN ((l.map Ev.val).take k) n k (by rw [List.length_take, List.length_map]; have := hn.out; omega) hlt (x.val))
   have hlen : ∀ (f : Ev → Int), k < ((l.map f).take k ++ List.replicate (n - k) 0).length := fun f => by rw [List.length_append, List.length_replicate, List.length_take, List.length_map]; have := hn.out; omega
   have hlenT : k < ((l.map kL).take k ++ List.replicate (n - k) []).length := by rw [List.length_append, List.length_replicate, List.length_take, List.length_map]; have := hn.out; omega
   have hlenF : k < ((l.map Ev.val).take k ++ List.replicate (n - k) 0).length := by rw [List.length_append, List.length_replicate, List.length_take, List.length_map]; have := hn.out; omega
   have HLI := Lib.hid hlen; have HLT := Lib.hid hlenT; have HLF := Lib.hid hlenF
   have how : IntKind.i64.wrap (x.off : Int) = oI x := by rw [IntKind.wrap_i64]; have := HF.out.off; unfold oI; omega
   clear hx hr hlen hlenT hlenF
   go_upto_region 9 with (first
    | (refine wpList_load_mid rfl 51 (.tmp 33) rfl g (off + k * 5) rfl x.cells _ HR.out uEvB rfl (iEvB x) ?_)
    | (refine wpList_store_row rfl 51 (.tmp 11) (.tmp 34) rfl wr.heap.size x.cells.toArray rfl rfl _ _ (heap_alloc_new' _ _) (by rw [List.size_toArray]; exact iEvB x) (sizeEvB x) (oneEvB x) ?_; rw [World.setRow_alloc_new]))
   have HEV := Lib.hid (heap_alloc_new' wr (.cells x.cells.toArray 51))
   have HB0 := Lib.hid ((Below.refl wr.heap.size wr).alloc (Nat.le_refl _) (.cells x.cells.toArray 51))
   have HK0 := Lib.hid (HK.out.keep HB0.out)
   have HE5 : Hid (L5 < wr.heap.size) := Lib.hid HK.out.lt.2.2.2.2.2
   obtain ⟨bE, hbE⟩ : ∃ bE, bE = wr.heap.size := ⟨_, rfl⟩
   rw [← hbE] at HEV HE5 ⊢
   generalize wr.alloc _ = x0 at *
   clear HB0 HR hbE
   have f := HK0.out.r1.fr k
   obtain ⟨u, cu⟩ := HK0.out.r1.at k (HLI.out oI)
   have ce := EvRow.c HEV.out 0 (.int .u64 (x.off : Int)) rfl
   go_upto_region 10 with fail
   have HK1 := Lib.hid (HK0.out.set1 k (oI x))
   have HEV2 := Lib.hid ((kept_cellB x0 L1 k (.int .i64 (oI x))).heap HEV.out (fun h => by have := HK0.out.lt; have := HE5.out; omega))
   clear HEV f cu ce HK0
   generalize x0.setCell _ _ = x1 at *
   have HEV := HEV2
   clear HEV2
   have f := HK1.out.r2.fr k
   obtain ⟨u, cu⟩ := HK1.out.r2.at k (HLI.out Ev.part)
   have ce := EvRow.c HEV.out 1 (.int .i64 x.part) rfl
   go_upto_region 11 with fail
   have HK2 := Lib.hid (HK1.out.set2 k (x.part))
   have HEV2 := Lib.hid ((kept_cellB x1 L2 k (.int .i64 x.part)).heap HEV.out (fun h => by have := HK1.out.lt; have := HE5.out; omega))
   clear HEV f cu ce HK1
   generalize x1.setCell _ _ = x2 at *
   have HEV := HEV2
   clear HEV2
   have f := HK2.out.r3.fr k
   obtain ⟨u, cu⟩ := HK2.out.r3.at k (HLI.out Ev.time)
   have ce := EvRow.c HEV.out 2 (.int .i64 x.time) rfl
   go_upto_region 12 with fail
   have HK3 := Lib.hid (HK2.out.set3 k (x.time))
   have HEV2 := Lib.hid ((kept_cellB x2 L3 k (.int .i64 x.time)).heap HEV.out (fun h => by have := HK2.out.lt; have := HE5.out; omega))
   clear HEV f cu ce HK2
   generalize x2.setCell _ _ = x3 at *
   have HEV := HEV2
   clear HEV2
   have f := HK3.out.r4.fr k
   obtain ⟨u, cu⟩ := HK3.out.r4.at k HLT.out
   have ce := EvRow.c HEV.out 3 (.string x.key) rfl
   go_upto_region 13 with fail
   have h4 := HK3.out.set4 k (kL x)
   rw [kL_strB] at h4
   have HK4 := Lib.hid h4
   clear h4
   have HEV2 := Lib.hid ((kept_cellB x3 L4 k (.string x.key)).heap HEV.out (fun h => by have := HK3.out.lt; have := HE5.out; omega))
   clear HEV f cu ce HK3
   generalize x3.setCell _ _ = x4 at *
   have HEV := HEV2
   clear HEV2
   have f := HK4.out.r5.fr k
   obtain ⟨u, cu⟩ := HK4.out.r5.at k HLF.out
   have ce := EvRow.c HEV.out 4 (.float .f64 x.val) rfl
   have hst := run_store_flC x4 ⟨L5, k, none⟩ x.val u cu f
   go_wp2_with fail
   go_roundw
   case rel =>
    refine ⟨k + 1, by omega, by go_num, ?_⟩
    rw [S1.out, S2.out, S3.out, S4.out, S5.out, ← T1.out, ← T2.out, ← T3.out, ← T4.out, ← T5.out]
    exact HK4.out.set5 k x.val
   case measure => simp [intOf]; omega
  ·obtain rfl : k = n := by omega
   have hki : ¬ (k : Int) < (k : Int) := by omega
   have hln : ∀ (f : Ev → Int), (l.map f).take k ++ List.replicate (k - k) 0 = l.map f := fun f => by
    rw [Nat.sub_self, List.replicate_zero, List.append_nil, List.take_of_length_le (by rw [List.length_map]; have := hn.out; omega)]
   have hlT : (l.map kL).take k ++ List.replicate (k - k) [] = l.map kL := by
    rw [Nat.sub_self, List.replicate_zero, List.append_nil, List.take_of_length_le (by rw [List.length_map]; have := hn.out; omega)]
   have hlF : (l.map Ev.val).take k ++ List.replicate (k - k) 0 = l.map Ev.val := by
    rw [Nat.sub_self, List.replicate_zero, List.append_nil, List.take_of_length_le (by rw [List.length_map]; have := hn.out; omega)]
   rw [hln oI, hln Ev.part, hln Ev.time, hlT, hlF] at HK
   have HI1 := Lib.hid (ints_row wr L1 k (l.map oI) (by rw [List.length_map]; exact hn.out) hn6 (oI_wf hfin.out) HK.out.r1)
   have HI2 := Lib.hid (ints_row wr L2 k (l.map Ev.part) (by rw [List.length_map]; exact hn.out) hn6 (part_wf hfin.out) HK.out.r2)
   have HI3 := Lib.hid (ints_row wr L3 k (l.map Ev.time) (by rw [List.length_map]; exact hn.out) hn6 (time_wf hfin.out) HK.out.r3)
   have HKW : Hid (∀ y ∈ l.map kL, WfT y ∧ y.length ≤ 32) := Lib.hid (kL_all hfin.out)
   have HI4 : Hid (∀ w', Below wr.heap.size wr w' → Calls Tryz.prog 79 #[.slice (some ⟨L4, 0, none⟩) k k] w' (Puts w'.heap.size w' (textsL (l.map kL)))) := Lib.hid fun w' hb => textsC_any (some ⟨L4, 0, none⟩) k k (l.map kL) (Lib.hid (by rw [List.length_map]; exact hn.out)) (by omega) (Lib.hid fun y hy => Nat.le_trans (HKW.out y hy).2 (by decide)) w' (Lib.hid ((TxAt.of_row _ (fun y hy => (HKW.out y hy).1) HK.out.r4 ⟨[], by simp⟩).keep hb))
   have HI5 : Hid (∀ w', Below wr.heap.size wr w' → Calls Tryz.prog 80 #[.slice (some ⟨L5, 0, none⟩) k k] w' (Puts w'.heap.size w' (intsL ((l.map Ev.val).map rwI)))) := Lib.hid fun w' hb => reals_any (some ⟨L5, 0, none⟩) k k (l.map Ev.val) (Lib.hid (by rw [List.length_map]; exact hn.out)) (by omega) w' (Lib.hid ((HK.out.r5.isAt (val_lt hfin.out)).keep hb))
   have z1 := ints_60 (l.map oI) (oI_wf hfin.out) (by rw [List.length_map]; have := hn.out; omega)
   have z2 := ints_60 (l.map Ev.part) (part_wf hfin.out) (by rw [List.length_map]; have := hn.out; omega)
   have z3 := ints_60 (l.map Ev.time) (time_wf hfin.out) (by rw [List.length_map]; have := hn.out; omega)
   have z4 := texts_60 (l.map kL) (fun y hy => (HKW.out y hy).1) (fun y hy => (HKW.out y hy).2) (by rw [List.length_map]; have := hn.out; omega)
   have z5 := ints_60 ((l.map Ev.val).map rwI) (fun y hy => by obtain ⟨u, -, rfl⟩ := List.mem_map.1 hy; exact rwI_wf u) (by rw [List.length_map, List.length_map]; have := hn.out; omega)
   have HEV : Hid (evY l = (((txL (intsL (l.map oI)) ++ txL (intsL (l.map Ev.part))) ++ txL (intsL (l.map Ev.time))) ++ txL (textsL (l.map kL))) ++ txL (intsL ((l.map Ev.val).map rwI))) := Lib.hid rfl
   have HWW := Lib.hid HK.out.below
   generalize intsL (l.map oI) = D1 at *
   generalize intsL (l.map Ev.part) = D2 at *
   generalize intsL (l.map Ev.time) = D3 at *
   generalize textsL (l.map kL) = D4 at *
   generalize intsL ((l.map Ev.val).map rwI) = D5 at *
   have Z1 := Lib.hid (txL_le D1 6423 (by omega) z1); have Z2 := Lib.hid (txL_le D2 6423 (by omega) z2); have Z3 := Lib.hid (txL_le D3 6423 (by omega) z3); have Z4 := Lib.hid (txL_le D4 19878 (by omega) z4); have Z5 := Lib.hid (txL_le D5 6423 (by omega) z5)
   have Y1 := Lib.hid z1; have Y2 := Lib.hid z2; have Y3 := Lib.hid z3; have Y4 := Lib.hid z4; have Y5 := Lib.hid z5
   clear hln hlT hlF HKW z1 z2 z3 z4 z5
   go_wp2_with (first
    | (go_at_call 78; (with_reducible refine (HI1.out wr (Below.refl _ _)).mono ?_); rintro e v1 ⟨A1, n1, c1, rfl, h1, h2, h3⟩; have B1 : Hid (Below wr.heap.size wr v1) := Lib.hid (below_to (Below.refl _ _) h2); have hcv := conv_by n1 c1 h1.byAt h1.len; have W1 : Hid (WfT D1) := Lib.hid h1.byAt.lt; have hbz : v1.heap.size ≤ v1.heap.size := Nat.le_refl _; clear h1 h2 h3)
    | (go_at_call 77; (with_reducible refine (putT_any v1.heap.size none 0 0 [] D1 W1.out (by have := Y1.out; omega) v1 (Lib.hid (OwnS.nil _ _)) (by omega) hbz).mono ?_); rintro e v2 ⟨A2, n2, c2, rfl, h1, h2, h3⟩; rw [List.nil_append] at h1; have P2 := Lib.hid h1; have hn2 : n2 ≤ 6433 := (by have := h1.len; have := Z1.out; omega); have B2 : Hid (Below wr.heap.size wr v2) := Lib.hid (below_to B1.out h2); have hbz : v1.heap.size ≤ v2.heap.size := Nat.le_trans hbz h3; clear h1 h2 h3 hcv)
    | (go_at_call 78; (with_reducible refine (HI2.out v2 B2.out).mono ?_); rintro e v3 ⟨A3, n3, c3, rfl, h1, h2, h3⟩; have B3 : Hid (Below wr.heap.size wr v3) := Lib.hid (below_to B2.out h2); have hcv := conv_by n3 c3 h1.byAt h1.len; have W2 : Hid (WfT D2) := Lib.hid h1.byAt.lt; have P3 := Lib.hid (P2.out.keep h2); have hbz : v1.heap.size ≤ v3.heap.size := Nat.le_trans hbz h3; clear h1 h2 h3)
    | (go_at_call 77; (with_reducible refine (putT_any v1.heap.size A2 n2 c2 (txL D1) D2 W2.out (by have := Y2.out; omega) v3 P3 (by omega) hbz).mono ?_); rintro e v4 ⟨A4, n4, c4, rfl, h1, h2, h3⟩; have P4 := Lib.hid h1; have hn4 : n4 ≤ 12866 := (by have e1 := h1.len; have e2 := P3.out.len; rw [List.length_append] at e1; have := Z2.out; omega); have B4 : Hid (Below wr.heap.size wr v4) := Lib.hid (B3.out.trans (h2.mono (Nat.le_trans B1.out.size (Nat.le_refl _)))); have hbz : v1.heap.size ≤ v4.heap.size := Nat.le_trans hbz h3; clear h1 h2 h3 hcv)
    | (go_at_call 78; (with_reducible refine (HI3.out v4 B4.out).mono ?_); rintro e v5 ⟨A5, n5, c5, rfl, h1, h2, h3⟩; have B5 : Hid (Below wr.heap.size wr v5) := Lib.hid (below_to B4.out h2); have hcv := conv_by n5 c5 h1.byAt h1.len; have W3 : Hid (WfT D3) := Lib.hid h1.byAt.lt; have P5 := Lib.hid (P4.out.keep h2); have hbz : v1.heap.size ≤ v5.heap.size := Nat.le_trans hbz h3; clear h1 h2 h3)
    | (go_at_call 77; (with_reducible refine (putT_any v1.heap.size A4 n4 c4 (txL D1 ++ txL D2) D3 W3.out (by have := Y3.out; omega) v5 P5 (by omega) hbz).mono ?_); rintro e v6 ⟨A6, n6, c6, rfl, h1, h2, h3⟩; have P6 := Lib.hid h1; have hn6 : n6 ≤ 19299 := (by have e1 := h1.len; have e2 := P5.out.len; rw [List.length_append] at e1; have := Z3.out; omega); have B6 : Hid (Below wr.heap.size wr v6) := Lib.hid (B5.out.trans (h2.mono (Nat.le_trans B1.out.size (Nat.le_refl _)))); have hbz : v1.heap.size ≤ v6.heap.size := Nat.le_trans hbz h3; clear h1 h2 h3 hcv)
    | (go_at_call 79; (with_reducible refine (HI4.out v6 B6.out).mono ?_); rintro e v7 ⟨A7, n7, c7, rfl, h1, h2, h3⟩; have B7 : Hid (Below wr.heap.size wr v7) := Lib.hid (below_to B6.out h2); have hcv := conv_by n7 c7 h1.byAt h1.len; have W4 : Hid (WfT D4) := Lib.hid h1.byAt.lt; have P7 := Lib.hid (P6.out.keep h2); have hbz : v1.heap.size ≤ v7.heap.size := Nat.le_trans hbz h3; clear h1 h2 h3)
    | (go_at_call 77; (with_reducible refine (putT_any v1.heap.size A6 n6 c6 ((txL D1 ++ txL D2) ++ txL D3) D4 W4.out (by have := Y4.out; omega) v7 P7 (by omega) hbz).mono ?_); rintro e v8 ⟨A8, n8, c8, rfl, h1, h2, h3⟩; have P8 := Lib.hid h1; have hn8 : n8 ≤ 39187 := (by have e1 := h1.len; have e2 := P7.out.len; rw [List.length_append] at e1; have := Z4.out; omega); have B8 : Hid (Below wr.heap.size wr v8) := Lib.hid (B7.out.trans (h2.mono (Nat.le_trans B1.out.size (Nat.le_refl _)))); have hbz : v1.heap.size ≤ v8.heap.size := Nat.le_trans hbz h3; clear h1 h2 h3 hcv)
    | (go_at_call 80; (with_reducible refine (HI5.out v8 B8.out).mono ?_); rintro e v9 ⟨A9, n9, c9, rfl, h1, h2, h3⟩; have B9 : Hid (Below wr.heap.size wr v9) := Lib.hid (below_to B8.out h2); have hcv := conv_by n9 c9 h1.byAt h1.len; have W5 : Hid (WfT D5) := Lib.hid h1.byAt.lt; have P9 := Lib.hid (P8.out.keep h2); have hbz : v1.heap.size ≤ v9.heap.size := Nat.le_trans hbz h3; clear h1 h2 h3)
    | (go_at_call 77; (with_reducible refine (putT_any v1.heap.size A8 n8 c8 (((txL D1 ++ txL D2) ++ txL D3) ++ txL D4) D5 W5.out (by have := Y5.out; omega) v9 P9 (by omega) hbz).mono ?_); rintro e v10 ⟨A10, n10, c10, rfl, h1, h2, h3⟩; have P10 := Lib.hid h1; have hn10 : n10 ≤ 45620 := (by have e1 := h1.len; have e2 := P9.out.len; rw [List.length_append] at e1; have := Z5.out; omega); have B10 : Hid (Below wr.heap.size wr v10) := Lib.hid (B9.out.trans (h2.mono (Nat.le_trans B1.out.size (Nat.le_refl _)))); have hbz : v1.heap.size ≤ v10.heap.size := Nat.le_trans hbz h3; clear h1 h2 h3 hcv)
    | (go_at_call 81; have hly := (lay_any A np cap0 q 101 A10 n10 c10 ((((txL D1 ++ txL D2) ++ txL D3) ++ txL D4) ++ txL D5) B v10 (Lib.hid (HQ.out.keep (below_to HWW.out B10.out))) (Lib.hid P10.out.len) (by omega) (by decide) (Lib.hid P10.out.byAt) (Lib.hid (halves_keep hGB hBw HG.out (below_to HWW.out B10.out))) (Nat.le_trans hBw (Nat.le_trans HWW.out.size B10.out.size)) hGB); rw [show ((101 : Nat) : Int) = 101 from rfl] at hly; (with_reducible refine hly.mono ?_); rintro e vz ⟨Az, cz, rfl, ho, hb⟩; have HOz := Lib.hid ho; have HBz := Lib.hid hb; clear ho hb))
   go_ret
   have hz := HOz.out
   rw [← HEV.out, show n10 = (evY l).length by rw [HEV.out]; exact P10.out.len] at hz
   exact ⟨Az, cz, by rw [← show n10 = (evY l).length by rw [HEV.out]; exact P10.out.len]; rfl, hz, ((below_to HWW.out B10.out).mono hBw).trans HBz.out⟩
theorem conv_sbY (s : List Nat) (hs : WfT s) (h1 : s.length ≤ 1000000) (n : Nat) (hn : n = s.length) (w : World) : ∃ (w' : World) (C : Nat), (convert 9 32 (.string (strB s))).run Tryz.prog w = .ok (.slice (some ⟨w.heap.size, 0, none⟩) n C) w' ∧ ByAt w' (some ⟨w.heap.size, 0, none⟩) s ∧ Below w.heap.size w w' ∧ n ≤ C ∧ C ≤ maxLen := by
 have h := Go.Lib.run_convert_string_bytes w 9 32 5 (strB s) Tryz.underlying9 Tryz.underlying32 Tryz.underlying5
 obtain ⟨w', C, h1', h2, h3⟩ := conv_sb s hs n hn w
 have e := h.symm.trans h1'
 injection e with e1 e2
 injection e1 with e3 e4 e5
 exact ⟨w', C, h1', h2, h3, by rw [← e5, ← e4]; exact grownCap_ge _ _ _ _, by rw [← e5]; exact grownCap_le_maxLen _ _ _ _ (by rw [strB_size]; unfold maxLen; omega)⟩
theorem tP_backY {most : Nat} (s : List Nat) (h : s.length ≤ most) (hl : s.length < 18446744073709551616) (r : List Nat) : tP most (txL s ++ r) = some (s, r) := by
 unfold tP txL
 rw [List.append_assoc, uP_back h hl]
 simp
theorem Rd.highY {w w' : World} {g : Nat} {q : List Nat} {S : Nat → Prop} (h : Rd w g q) (hk : Kept S w w') (hS : ∀ k, S k → g < k) : Rd w' g q := by
 obtain ⟨A, C, h⟩ := h
 exact ⟨A, C, h.keep hk (fun e => by have := hS _ e; omega) (fun a ha h0 e => by have := hS _ e; have := h.low a ha h0; omega)⟩
def ColY (P : Option Addr → Nat → Nat → World → Prop) (g : Nat) (r : List Nat) (w : World) (e : Ending) (w' : World) : Prop := ∃ A n c, e = .returned (.slice A n c) ∧ P A n c w' ∧ Rd w' g r ∧ Kept (Only g) w w'
set_option maxHeartbeats 4000000 in
theorem rcol_int64 (P : Option Addr → Nat → Nat → World → Prop) (D : List Nat) (hD : WfT D) (hDl : D.length ≤ 1000000) (HRD : Hid (∀ A C w, D.length ≤ C → C ≤ maxLen → ByAt w A D → Calls Tryz.prog 116 #[.slice A D.length C] w fun e w' => ∃ A' n' c', e = .returned (.tuple #[.slice A' n' c', .int .i64 0]) ∧ P A' n' c' w' ∧ Below w.heap.size w w'))
  (g : Nat) (r : List Nat) (hql : (txL D ++ r).length ≤ 1099511627776) (w : World) (H : Hid (Rd w g (txL D ++ r))) :
  Calls Tryz.prog 115 #[.pointer (some ⟨g, 0, none⟩), .func (.func 116) #[] #[]] w (ColY P g r w) := by
 have HT : Hid (tP 1048576 (txL D ++ r) = some (D, r)) := Lib.hid (tP_backY D (by omega) (by omega) r)
 obtain ⟨n, hn⟩ : ∃ n, n = D.length := ⟨_, rfl⟩
 have HCV := Lib.hid fun (w : World) => conv_sbY D hD hDl n hn w
 rw [← hn] at HRD
 have hent : ∀ (args : Array Value) (w : World), (callFunc 116 args).run Tryz.prog w = .ok (.enter 116 args) w := fun _ _ => by first | rfl | kernel_rfl
 clear hn hD hDl
 go_enter Tryz.func115, Tryz.ntmps115
 go_wp2_with (first
  | (go_at_call 138; refine (text_yes g 1048576 (by decide) _ D r HT (by omega) _ H).mono ?_; rintro e w1 hy; obtain ⟨rfl, HR1, HK1⟩ := Yes.rd hy; clear hy; obtain ⟨w2, C2, hcv, hby, hb2, hC2, hM2⟩ := HCV.out w1; have HBY := Lib.hid hby; have HB2 := Lib.hid hb2; clear hby hb2)
  | (refine (HRD.out _ C2 _ hC2 hM2 HBY.out).mono ?_; rintro e w3 ⟨A3, n3, c3, rfl, hp, hb3⟩; have HP := Lib.hid hp; have HB3 := Lib.hid (below_to HB2.out hb3); clear hcv hp hb3)
  | (go_at_call 121; (with_reducible refine (check_true _ _).mono ?_); rintro e w9 ⟨rfl, rfl⟩))
 go_ret
 exact ⟨A3, n3, c3, rfl, HP.out, HR1.out.highY (S := fun _ => False) (Kept.of_below HB3.out) (fun _ h => h.elim), HK1.out.trans (Kept.of_below HB3.out)⟩
set_option maxHeartbeats 4000000 in
theorem rcol_string (P : Option Addr → Nat → Nat → World → Prop) (D : List Nat) (hD : WfT D) (hDl : D.length ≤ 1000000) (HRD : Hid (∀ A C w, D.length ≤ C → C ≤ maxLen → ByAt w A D → Calls Tryz.prog 118 #[.slice A D.length C] w fun e w' => ∃ A' n' c', e = .returned (.tuple #[.slice A' n' c', .int .i64 0]) ∧ P A' n' c' w' ∧ Below w.heap.size w w'))
  (g : Nat) (r : List Nat) (hql : (txL D ++ r).length ≤ 1099511627776) (w : World) (H : Hid (Rd w g (txL D ++ r))) :
  Calls Tryz.prog 117 #[.pointer (some ⟨g, 0, none⟩), .func (.func 118) #[] #[]] w (ColY P g r w) := by
 have HT : Hid (tP 1048576 (txL D ++ r) = some (D, r)) := Lib.hid (tP_backY D (by omega) (by omega) r)
 obtain ⟨n, hn⟩ : ∃ n, n = D.length := ⟨_, rfl⟩
 have HCV := Lib.hid fun (w : World) => conv_sbY D hD hDl n hn w
 rw [← hn] at HRD
 have hent : ∀ (args : Array Value) (w : World), (callFunc 118 args).run Tryz.prog w = .ok (.enter 118 args) w := fun _ _ => by first | rfl | kernel_rfl
 clear hn hD hDl
 go_enter Tryz.func117, Tryz.ntmps117
 go_wp2_with (first
  | (go_at_call 138; refine (text_yes g 1048576 (by decide) _ D r HT (by omega) _ H).mono ?_; rintro e w1 hy; obtain ⟨rfl, HR1, HK1⟩ := Yes.rd hy; clear hy; obtain ⟨w2, C2, hcv, hby, hb2, hC2, hM2⟩ := HCV.out w1; have HBY := Lib.hid hby; have HB2 := Lib.hid hb2; clear hby hb2)
  | (refine (HRD.out _ C2 _ hC2 hM2 HBY.out).mono ?_; rintro e w3 ⟨A3, n3, c3, rfl, hp, hb3⟩; have HP := Lib.hid hp; have HB3 := Lib.hid (below_to HB2.out hb3); clear hcv hp hb3)
  | (go_at_call 121; (with_reducible refine (check_true _ _).mono ?_); rintro e w9 ⟨rfl, rfl⟩))
 go_ret
 exact ⟨A3, n3, c3, rfl, HP.out, HR1.out.highY (S := fun _ => False) (Kept.of_below HB3.out) (fun _ h => h.elim), HK1.out.trans (Kept.of_below HB3.out)⟩
set_option maxHeartbeats 4000000 in
theorem rcol_float64 (P : Option Addr → Nat → Nat → World → Prop) (D : List Nat) (hD : WfT D) (hDl : D.length ≤ 1000000) (HRD : Hid (∀ A C w, D.length ≤ C → C ≤ maxLen → ByAt w A D → Calls Tryz.prog 120 #[.slice A D.length C] w fun e w' => ∃ A' n' c', e = .returned (.tuple #[.slice A' n' c', .int .i64 0]) ∧ P A' n' c' w' ∧ Below w.heap.size w w'))
  (g : Nat) (r : List Nat) (hql : (txL D ++ r).length ≤ 1099511627776) (w : World) (H : Hid (Rd w g (txL D ++ r))) :
  Calls Tryz.prog 119 #[.pointer (some ⟨g, 0, none⟩), .func (.func 120) #[] #[]] w (ColY P g r w) := by
 have HT : Hid (tP 1048576 (txL D ++ r) = some (D, r)) := Lib.hid (tP_backY D (by omega) (by omega) r)
 obtain ⟨n, hn⟩ : ∃ n, n = D.length := ⟨_, rfl⟩
 have HCV := Lib.hid fun (w : World) => conv_sbY D hD hDl n hn w
 rw [← hn] at HRD
 have hent : ∀ (args : Array Value) (w : World), (callFunc 120 args).run Tryz.prog w = .ok (.enter 120 args) w := fun _ _ => by first | rfl | kernel_rfl
 clear hn hD hDl
 go_enter Tryz.func119, Tryz.ntmps119
 go_wp2_with (first
  | (go_at_call 138; refine (text_yes g 1048576 (by decide) _ D r HT (by omega) _ H).mono ?_; rintro e w1 hy; obtain ⟨rfl, HR1, HK1⟩ := Yes.rd hy; clear hy; obtain ⟨w2, C2, hcv, hby, hb2, hC2, hM2⟩ := HCV.out w1; have HBY := Lib.hid hby; have HB2 := Lib.hid hb2; clear hby hb2)
  | (refine (HRD.out _ C2 _ hC2 hM2 HBY.out).mono ?_; rintro e w3 ⟨A3, n3, c3, rfl, hp, hb3⟩; have HP := Lib.hid hp; have HB3 := Lib.hid (below_to HB2.out hb3); clear hcv hp hb3)
  | (go_at_call 121; (with_reducible refine (check_true _ _).mono ?_); rintro e w9 ⟨rfl, rfl⟩))
 go_ret
 exact ⟨A3, n3, c3, rfl, HP.out, HR1.out.highY (S := fun _ => False) (Kept.of_below HB3.out) (fun _ h => h.elim), HK1.out.trans (Kept.of_below HB3.out)⟩
theorem IsAt.keptY {S : Nat → Prop} {w w' : World} {a : Option Addr} {l : List Int} (h : IsAt w a l) (hk : Kept S w w') (ho : ∀ b, a = some b → ¬ S b.block) : IsAt w' a l := h.kept hk ho
theorem TxAt.keptY {S : Nat → Prop} {w w' : World} {a : Option Addr} {l : List (List Nat)} (h : TxAt w a l) (hk : Kept S w w') (ho : ∀ b, a = some b → ¬ S b.block) : TxAt w' a l := fun k x hx => by
 obtain ⟨h1, g, off, h2, h3, h4⟩ := h k x hx
 exact ⟨h1, g, off, h2, Nat.lt_of_lt_of_le h3 hk.size, (hk.cell (p := ⟨g, off + k, none⟩) h3 (fun e => ho ⟨g, off, none⟩ h2 e)).trans h4⟩
theorem FlAt.keptY {S : Nat → Prop} {w w' : World} {a : Option Addr} {l : List Nat} (h : FlAt w a l) (hk : Kept S w w') (ho : ∀ b, a = some b → ¬ S b.block) : FlAt w' a l := fun k x hx => by
 obtain ⟨h1, g, off, h2, h3, h4⟩ := h k x hx
 exact ⟨h1, g, off, h2, Nat.lt_of_lt_of_le h3 hk.size, (hk.cell (p := ⟨g, off + k, none⟩) h3 (fun e => ho ⟨g, off, none⟩ h2 e)).trans h4⟩
theorem no_rd {w : World} {g L : Nat} {q : List Nat} {cs : Array Value} {t : TypeId} {fr : Nat × Nat} (h : Rd w g q) (hr : w.heap[L]? = some (.cells cs t fr)) (ht : t ≠ 160) : L ≠ g := fun e => by
 obtain ⟨A, C, h⟩ := h
 have h1 := h.row
 rw [← e, hr] at h1
 injection h1 with h1
 injection h1 with h2 h3
 exact ht h3
def PI (l : List Int) (A : Option Addr) (n c : Nat) (w : World) : Prop := n = l.length ∧ n ≤ c ∧ c ≤ maxLen ∧ IsAt w A l ∧ ∀ b, A = some b → ∃ cs fr, w.heap[b.block]? = some (.cells cs 2 fr)
def PT (l : List (List Nat)) (A : Option Addr) (n c : Nat) (w : World) : Prop := n = l.length ∧ n ≤ c ∧ TxAt w A l ∧ ∀ b, A = some b → ∃ cs fr, w.heap[b.block]? = some (.cells cs 9 fr)
def PF (l : List Nat) (A : Option Addr) (n c : Nat) (w : World) : Prop := n = l.length ∧ n ≤ c ∧ FlAt w A l ∧ ∀ b, A = some b → ∃ cs fr, w.heap[b.block]? = some (.cells cs 49 fr)
section
variable {S : Nat → Prop} {w w' : World} {A : Option Addr} {n c g : Nat} {q : List Nat}
theorem PI.off {l : List Int} (h : PI l A n c w) (hr : Rd w g q) : ∀ b, A = some b → b.block ≠ g := fun b hb => by
 obtain ⟨cs, fr, h1⟩ := h.2.2.2.2 b hb
 exact no_rd hr h1 (by decide)
theorem PT.off {l : List (List Nat)} (h : PT l A n c w) (hr : Rd w g q) : ∀ b, A = some b → b.block ≠ g := fun b hb => by
 obtain ⟨cs, fr, h1⟩ := h.2.2.2 b hb
 exact no_rd hr h1 (by decide)
theorem PF.off {l : List Nat} (h : PF l A n c w) (hr : Rd w g q) : ∀ b, A = some b → b.block ≠ g := fun b hb => by
 obtain ⟨cs, fr, h1⟩ := h.2.2.2 b hb
 exact no_rd hr h1 (by decide)
theorem PI.kept {l : List Int} (h : PI l A n c w) (hk : Kept S w w') (ho : ∀ b, A = some b → ¬ S b.block) : PI l A n c w' := ⟨h.1, h.2.1, h.2.2.1, h.2.2.2.1.keptY hk ho, fun b hb => by
 obtain ⟨cs, fr, h1⟩ := h.2.2.2.2 b hb
 exact ⟨cs, fr, hk.heap h1 (ho b hb)⟩⟩
theorem PT.kept {l : List (List Nat)} (h : PT l A n c w) (hk : Kept S w w') (ho : ∀ b, A = some b → ¬ S b.block) : PT l A n c w' := ⟨h.1, h.2.1, h.2.2.1.keptY hk ho, fun b hb => by
 obtain ⟨cs, fr, h1⟩ := h.2.2.2 b hb
 exact ⟨cs, fr, hk.heap h1 (ho b hb)⟩⟩
theorem PF.kept {l : List Nat} (h : PF l A n c w) (hk : Kept S w w') (ho : ∀ b, A = some b → ¬ S b.block) : PF l A n c w' := ⟨h.1, h.2.1, h.2.2.1.keptY hk ho, fun b hb => by
 obtain ⟨cs, fr, h1⟩ := h.2.2.2 b hb
 exact ⟨cs, fr, hk.heap h1 (ho b hb)⟩⟩
end
theorem readI_yes (l : List Int) (hw : ∀ y ∈ l, Wf64 y) (hn : l.length ≤ 320) (A : Option Addr) (C : Nat) (w : World) (hC : (intsL l).length ≤ C) (hC' : C ≤ maxLen) (HA : ByAt w A (intsL l)) :
  Calls Tryz.prog 116 #[.slice A (intsL l).length C] w fun e w' => ∃ A' n' c', e = .returned (.tuple #[.slice A' n' c', .int .i64 0]) ∧ PI l A' n' c' w' ∧ Below w.heap.size w w' := by
 have h := readIntsC_any A C (intsL l) (intsL l).length (Lib.hid rfl) (by have := ints_60 l hw hn; omega) hC hC' w (Lib.hid HA)
 rw [riL_some (ints_back l hw (by omega))] at h
 refine h.mono fun e w' h1 => ?_
 obtain ⟨⟨A6, n6, c6, he, ho⟩, hb⟩ := h1
 refine ⟨A6, n6, c6, he, ⟨ho.len, ho.caps.1, ho.caps.2, ho.isAt, fun b hb2 => ?_⟩, hb⟩
 rcases ho.1.2 with ⟨h1, h2⟩ | ⟨g, cap', cur, h1, hb', hrow, _⟩
 ·cases h1; cases hb2
 ·cases h1; injection hb2 with hb2; subst hb2; exact ⟨_, _, hrow⟩
theorem readT_yes (l : List (List Nat)) (hw : ∀ x ∈ l, WfT x) (h32 : ∀ y ∈ l, y.length ≤ 32) (hn : l.length ≤ 320) (A : Option Addr) (C : Nat) (w : World) (hC : (textsL l).length ≤ C) (hC' : C ≤ maxLen) (HA : ByAt w A (textsL l)) :
  Calls Tryz.prog 118 #[.slice A (textsL l).length C] w fun e w' => ∃ A' n' c', e = .returned (.tuple #[.slice A' n' c', .int .i64 0]) ∧ PT l A' n' c' w' ∧ Below w.heap.size w w' := by
 have h := readTextsC_any A C (textsL l) (textsL l).length (Lib.hid rfl) (by have := texts_60 l hw h32 hn; omega) hC hC' w (Lib.hid HA)
 rw [rTL_some (texts_back l hw h32 (by omega))] at h
 refine h.mono fun e w' h1 => ?_
 obtain ⟨⟨L, n, he, hnl, hr⟩, hb⟩ := h1
 exact ⟨_, n, n, he, ⟨hnl, Nat.le_refl _, TxAt.of_row l hw hr ⟨[], by simp⟩, fun b hb2 => by injection hb2 with hb2; subst hb2; exact ⟨_, _, hr⟩⟩, hb⟩
theorem readF_yes (vs : List Nat) (hv : ∀ y ∈ vs, y < 18446744073709551616) (hn : vs.length ≤ 320) (A : Option Addr) (C : Nat) (w : World) (hC : (intsL (vs.map rwI)).length ≤ C) (hC' : C ≤ maxLen) (HA : ByAt w A (intsL (vs.map rwI))) :
  Calls Tryz.prog 120 #[.slice A (intsL (vs.map rwI)).length C] w fun e w' => ∃ A' n' c', e = .returned (.tuple #[.slice A' n' c', .int .i64 0]) ∧ PF (vs.map Fl.canon) A' n' c' w' ∧ Below w.heap.size w w' := by
 have hwf : ∀ y ∈ vs.map rwI, Wf64 y := fun y hy => by obtain ⟨u, -, rfl⟩ := List.mem_map.1 hy; exact rwI_wf u
 have hl : (vs.map rwI).length ≤ 320 := by rw [List.length_map]; exact hn
 have hmap : (vs.map rwI).map u64N = vs.map Fl.canon := by
  rw [List.map_map]
  exact List.map_congr_left fun y hy => u64N_rw y (hv y hy)
 have h := readRealsC_yes A C (intsL (vs.map rwI)) _ (Lib.hid rfl) (by have := ints_60 _ hwf hl; omega) hC hC' (vs.map rwI) (Lib.hid (ints_back _ hwf (by omega))) (Lib.hid fun y hy => by
  obtain ⟨u, hu, rfl⟩ := List.mem_map.1 hy
  rw [u64N_rw u (hv u hu), Fl.canon_canon]) (vs.map rwI).length (Lib.hid rfl) (by omega) w (Lib.hid HA)
 rw [hmap] at h
 refine h.mono fun e w' ⟨L, he, hr, hb⟩ => ?_
 exact ⟨_, _, _, he, ⟨by rw [List.length_map, List.length_map], Nat.le_refl _, hr.isAt (fun y hy => by obtain ⟨u, hu, rfl⟩ := List.mem_map.1 hy; exact Fl.canon_lt u (hv u hu)), fun b hb2 => by injection hb2 with hb2; subst hb2; exact ⟨_, _, hr⟩⟩, hb⟩
end Go.Proofs.YtjldamkmdkaiiaaGreatDoor
