/-
  Layer event: Lay: events as a page.
-/
import Derived.Deep.MidRow
import Derived.Deep.WholeRow
import Derived.Test.YtifabkbdiiolfaaDoorEjK
import Derived.Test.YtifabkbdiiolfaaDoorVbK
import Derived.Test.YtifabkbdiiolfaaDoorDaK
import Derived.Test.YtifabkbdiiolfaaDoorTeK
import Derived.Test.YtifabkbdiiolfaaDoorGyK
set_option linter.unusedSimpArgs false
set_option linter.unusedVariables false
set_option maxRecDepth 8000
namespace Go.Proofs.YtifabkbdiiolfaaDoor
open Go.RowKit Go.Sort Go.WideShapes Col
theorem uEvB : Tryd.prog.underlying 34 = some (.struct (Tryd.prog.fieldsOf 34)) := by kernel_rfl
theorem iEvB (x : Ev) : (Tryd.prog.info? 34).map (·.size) = some x.cells.length := by rw [cells_len]; kernel_rfl
theorem sizeEvB (x : Ev) : (#[Value.int .u64 0, .int .i64 0, .int .i64 0, .string { data := #[] }, .float .f64 0] : Array Value).size = x.cells.toArray.size := rfl
theorem oneEvB (x : Ev) : x.cells.toArray.all (·.oneCell') = true := by unfold Ev.cells; simp [Value.oneCell']
theorem evrB {w : World} {A : Option Addr} {l : List Ev} (h : EvAt w A l) (i : Nat) (x : Ev) (hx : l[i]? = some x) : ∃ g off, A = some ⟨g, off, none⟩ ∧ g < w.heap.size ∧ w.rangeAt g (off + i * 5) x.cells := by
 have h0 : (evs l)[i * 5 + 0]? = x.cells[0]? := by rw [evs_get l i 0 (by decide), hx]; rfl
 obtain ⟨g, off, e, hg, -⟩ := h (i * 5 + 0) (.int .u64 (x.off : Int)) (by rw [h0]; rfl)
 refine ⟨g, off, e, hg, fun j v hv => ?_⟩
 have hj : j < 5 := (List.getElem?_eq_some_iff.1 hv).1
 have h1 : (evs l)[i * 5 + j]? = some v := by rw [evs_get l i j hj, hx]; exact hv
 obtain ⟨g', off', e', -, hc⟩ := h _ _ h1
 rw [e] at e'; injection e' with e'; injection e' with b1 b2; subst b1; subst b2
 rw [Nat.add_assoc]; exact hc
/-- Events with the form of a log of 8 partitions. -/
structure FineE (x : Ev) : Prop where
 off : x.off < 1099511627776
 part : 0 ≤ x.part ∧ x.part < 8
 time : -1099511627776 ≤ x.time ∧ x.time ≤ 1099511627776
 key : x.key.size ≤ 32
 val : x.val < 18446744073709551616
def oI (x : Ev) : Int := (x.off : Int)
/-- A key's bytes. -/
def kL (x : Ev) : List Nat := nb x.key.data.toList
theorem kL_wf (x : Ev) : WfT (kL x) := nb_wf _
theorem kL_strB (x : Ev) : strB (kL x) = x.key := by
 have h := tb_nb x.key.data.toList
 unfold tb at h
 exact ByteArray.ext (Array.ext' h)
theorem kL_len (x : Ev) : (kL x).length = x.key.size := by
 unfold kL nb; rw [List.length_map]; rfl
/-- The columns of some events. -/
def evY (l : List Ev) : List Nat := (((txL (intsL (l.map oI)) ++ txL (intsL (l.map Ev.part))) ++ txL (intsL (l.map Ev.time))) ++ txL (textsL (l.map kL))) ++ txL (intsL ((l.map Ev.val).map rwI))
theorem map_snoc {α : Type} (f : Ev → α) (l : List Ev) (k : Nat) (x : Ev) (h : l[k]? = some x) : (l.map f).take (k + 1) = (l.map f).take k ++ [f x] := by
 rw [List.take_add_one, List.getElem?_map, h]; rfl
theorem kept_cellB (w : World) (g i : Nat) (u : Value) : Kept (fun j => j = g) w (w.setCell ⟨g, i, none⟩ u) := (Kept.refl _ _).setCell _ _ (.inl rfl)
/-- The five rows while they are filled. -/
structure EvL (w0 : World) (a b c d e : Nat) (o p t : List Int) (ky : List (List Nat)) (v : List Nat) (wr : World) : Prop where
 r1 : RowI wr a o
 r2 : RowI wr b p
 r3 : RowI wr c t
 r4 : RowT wr d ky
 r5 : RowF wr e v
 lt : w0.heap.size ≤ a ∧ a < b ∧ b < c ∧ c < d ∧ d < e ∧ e < wr.heap.size
 below : Below w0.heap.size w0 wr
section
variable {w0 wr w2 : World} {a b c d e : Nat} {o p t : List Int} {ky : List (List Nat)} {v : List Nat}
theorem EvL.keep (H : EvL w0 a b c d e o p t ky v wr) (hb : Below wr.heap.size wr w2) : EvL w0 a b c d e o p t ky v w2 :=
 have K : Kept (fun _ => False) wr w2 := Kept.of_below hb
 ⟨H.r1.keep K (fun h => h), H.r2.keep K (fun h => h), H.r3.keep K (fun h => h), H.r4.keep K (fun h => h), H.r5.keep K (fun h => h), ⟨H.lt.1, H.lt.2.1, H.lt.2.2.1, H.lt.2.2.2.1, H.lt.2.2.2.2.1, Nat.lt_of_lt_of_le H.lt.2.2.2.2.2 hb.size⟩, below_to H.below hb⟩
theorem EvL.set1 (H : EvL w0 a b c d e o p t ky v wr) (k : Nat) (x : Int) : EvL w0 a b c d e (o.set k x) p t ky v (wr.setCell ⟨a, k, none⟩ (.int .i64 x)) :=
 ⟨H.r1.set k x, H.r2.keep (kept_cellB wr a k _) (fun h => by have := H.lt; omega), H.r3.keep (kept_cellB wr a k _) (fun h => by have := H.lt; omega), H.r4.keep (kept_cellB wr a k _) (fun h => by have := H.lt; omega), H.r5.keep (kept_cellB wr a k _) (fun h => by have := H.lt; omega), by rw [setCell_size]; exact H.lt, H.below.setCell (by have := H.lt; show w0.heap.size ≤ a; omega) _⟩
theorem EvL.set2 (H : EvL w0 a b c d e o p t ky v wr) (k : Nat) (x : Int) : EvL w0 a b c d e o (p.set k x) t ky v (wr.setCell ⟨b, k, none⟩ (.int .i64 x)) :=
 ⟨H.r1.keep (kept_cellB wr b k _) (fun h => by have := H.lt; omega), H.r2.set k x, H.r3.keep (kept_cellB wr b k _) (fun h => by have := H.lt; omega), H.r4.keep (kept_cellB wr b k _) (fun h => by have := H.lt; omega), H.r5.keep (kept_cellB wr b k _) (fun h => by have := H.lt; omega), by rw [setCell_size]; exact H.lt, H.below.setCell (by have := H.lt; show w0.heap.size ≤ b; omega) _⟩
theorem EvL.set3 (H : EvL w0 a b c d e o p t ky v wr) (k : Nat) (x : Int) : EvL w0 a b c d e o p (t.set k x) ky v (wr.setCell ⟨c, k, none⟩ (.int .i64 x)) :=
 ⟨H.r1.keep (kept_cellB wr c k _) (fun h => by have := H.lt; omega), H.r2.keep (kept_cellB wr c k _) (fun h => by have := H.lt; omega), H.r3.set k x, H.r4.keep (kept_cellB wr c k _) (fun h => by have := H.lt; omega), H.r5.keep (kept_cellB wr c k _) (fun h => by have := H.lt; omega), by rw [setCell_size]; exact H.lt, H.below.setCell (by have := H.lt; show w0.heap.size ≤ c; omega) _⟩
theorem EvL.set4 (H : EvL w0 a b c d e o p t ky v wr) (k : Nat) (x : List Nat) : EvL w0 a b c d e o p t (ky.set k x) v (wr.setCell ⟨d, k, none⟩ (.string (strB x))) :=
 ⟨H.r1.keep (kept_cellB wr d k _) (fun h => by have := H.lt; omega), H.r2.keep (kept_cellB wr d k _) (fun h => by have := H.lt; omega), H.r3.keep (kept_cellB wr d k _) (fun h => by have := H.lt; omega), H.r4.set k x, H.r5.keep (kept_cellB wr d k _) (fun h => by have := H.lt; omega), by rw [setCell_size]; exact H.lt, H.below.setCell (by have := H.lt; show w0.heap.size ≤ d; omega) _⟩
theorem EvL.set5 (H : EvL w0 a b c d e o p t ky v wr) (k : Nat) (x : Nat) : EvL w0 a b c d e o p t ky (v.set k x) (wr.setCell ⟨e, k, none⟩ (.float .f64 x)) :=
 ⟨H.r1.keep (kept_cellB wr e k _) (fun h => by have := H.lt; omega), H.r2.keep (kept_cellB wr e k _) (fun h => by have := H.lt; omega), H.r3.keep (kept_cellB wr e k _) (fun h => by have := H.lt; omega), H.r4.keep (kept_cellB wr e k _) (fun h => by have := H.lt; omega), H.r5.set k x, by rw [setCell_size]; exact H.lt, H.below.setCell (by have := H.lt; show w0.heap.size ≤ e; omega) _⟩
end
theorem EvRow.c {w : World} {g : Nat} {x : Ev} (h : w.heap[g]? = some (.cells x.cells.toArray 34 (0, 0))) (j : Nat) (v : Value) (hv : x.cells[j]? = some v) : w.cell? ⟨g, j, none⟩ = some v := by
 rw [cell_of_row w g j _ _ _ h, List.getElem?_toArray]; exact hv
theorem oI_wf {l : List Ev} (h : ∀ x ∈ l, FineE x) : ∀ y ∈ l.map oI, Wf64 y := fun y hy => by
 obtain ⟨x, hx, rfl⟩ := List.mem_map.1 hy
 have := (h x hx).off
 unfold Wf64 oI
 omega
theorem part_wf {l : List Ev} (h : ∀ x ∈ l, FineE x) : ∀ y ∈ l.map Ev.part, Wf64 y := fun y hy => by
 obtain ⟨x, hx, rfl⟩ := List.mem_map.1 hy
 have := (h x hx).part
 unfold Wf64
 omega
theorem time_wf {l : List Ev} (h : ∀ x ∈ l, FineE x) : ∀ y ∈ l.map Ev.time, Wf64 y := fun y hy => by
 obtain ⟨x, hx, rfl⟩ := List.mem_map.1 hy
 have := (h x hx).time
 unfold Wf64
 omega
theorem val_lt {l : List Ev} (h : ∀ x ∈ l, FineE x) : ∀ y ∈ l.map Ev.val, y < 18446744073709551616 := fun y hy => by
 obtain ⟨x, hx, rfl⟩ := List.mem_map.1 hy
 exact (h x hx).val
theorem kL_all {l : List Ev} (h : ∀ x ∈ l, FineE x) : ∀ y ∈ l.map kL, WfT y ∧ y.length ≤ 32 := fun y hy => by
 obtain ⟨x, hx, rfl⟩ := List.mem_map.1 hy
 exact ⟨kL_wf x, by rw [kL_len]; exact (h x hx).key⟩
theorem ints_60 (l : List Int) (hw : ∀ y ∈ l, Wf64 y) (hn : l.length ≤ 64) : (intsL l).length ≤ 1303 := by
 have h1 := best_le 3 l 0 (by omega)
 have h2 := asL_len 0 l hw (by omega)
 unfold intsL
 omega
theorem flatB_le (ts : List (List Nat)) (h : ∀ s ∈ ts, s.length ≤ 32) : ((ts.map txL).flatten).length ≤ 42 * ts.length := by
 induction ts with
 | nil => exact Nat.le_refl _
 | cons a r ih =>
  have h1 := ih fun s hs => h s (by simp [hs])
  have h2 := h a (by simp)
  have h3 := ub10 (show a.length < 18446744073709551616 by omega)
  have h4 : (txL a).length = (ub a.length).length + a.length := by unfold txL; rw [List.length_append]
  rw [List.map_cons, List.flatten_cons, List.length_append, List.length_cons]
  omega
theorem texts_60 (l : List (List Nat)) (hw : ∀ x ∈ l, WfT x) (h32 : ∀ y ∈ l, y.length ≤ 32) (hn : l.length ≤ 64) : (textsL l).length ≤ 4010 := by
 have hu := uqL_len l
 have h1 := flatB_le (uqL l) fun s hs => h32 s (((uqL_facts l hw).2 s).1 hs)
 have h2 := ub10 (show (uqL l).length < 18446744073709551616 by omega)
 have h3 := ints_60 (l.map fun x => (plc (uqL l) x : Int)) (fun x hx => by obtain ⟨y, -, rfl⟩ := List.mem_map.1 hx; exact plc_wf (uqL l) (by omega) y) (by rw [List.length_map]; omega)
 unfold textsL
 rw [List.length_append, List.length_append]
 omega
theorem txL_le (D : List Nat) (m : Nat) (hm : m ≤ 1000000) (h : D.length ≤ m) : (txL D).length ≤ m + 10 := by
 have h3 := ub10 (show D.length < 18446744073709551616 by omega)
 unfold txL; rw [List.length_append]; omega
theorem ints_row (wr : World) (L n : Nat) (l : List Int) (hn : n = l.length) (h6 : n ≤ 64) (hw : ∀ y ∈ l, Wf64 y) (hr : RowI wr L l) (w' : World) (hb : Below wr.heap.size wr w') :
  Calls Tryd.prog 32 #[.slice (some ⟨L, 0, none⟩) n n] w' (Puts w'.heap.size w' (intsL l)) := by
 have ho := hr.own (B := 0) (Nat.zero_le _) hw (by unfold maxLen; omega)
 rw [← hn] at ho
 exact ints_any (some ⟨L, 0, none⟩) n n l (Lib.hid hn) (Nat.le_refl _) (by omega) (by omega) w' (Lib.hid (ho.isAt.keep hb))
theorem halves_keep {B : Nat} {W w : World} (hGB : 0 < B) (hBw : B ≤ W.heap.size) (h : HalvesAt W) (hb : Below W.heap.size W w) : HalvesAt w := fun i hi => (hb.cell (p := ⟨0, i, none⟩) (Nat.lt_of_lt_of_le hGB hBw)).trans (h i hi)
end Go.Proofs.YtifabkbdiiolfaaDoor
