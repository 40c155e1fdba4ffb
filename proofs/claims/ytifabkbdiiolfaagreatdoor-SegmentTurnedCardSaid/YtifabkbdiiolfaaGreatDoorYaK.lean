/-
  Layer segment: chunks as rows of cells; what is told of events, plain.
-/
import Derived.Deep.MidRow
import Derived.Deep.WholeRow
import Derived.Test.YtifabkbdiiolfaaGreatDoorPoK
import Derived.Test.YtifabkbdiiolfaaGreatDoorVbK
import Derived.Test.YtifabkbdiiolfaaGreatDoorDbK
import Derived.Test.YtifabkbdiiolfaaGreatDoorGnK
set_option linter.unusedSimpArgs false
set_option linter.unusedVariables false
set_option maxRecDepth 8000
namespace Go.Proofs.YtifabkbdiiolfaaGreatDoor
open Go.RowKit Go.Sort Go.WideShapes Col
theorem uEvB : Tryz.prog.underlying 45 = some (.struct (Tryz.prog.fieldsOf 45)) := by kernel_rfl
theorem iEvB (x : Ev) : (Tryz.prog.info? 45).map (·.size) = some x.cells.length := by rw [cells_len]; kernel_rfl
theorem sizeEvB (x : Ev) : (#[Value.int .u64 0, .int .i64 0, .int .i64 0, .string { data := #[] }, .float .f64 0] : Array Value).size = x.cells.toArray.size := rfl
theorem oneEvB (x : Ev) : x.cells.toArray.all (·.oneCell') = true := by unfold Ev.cells; simp [Value.oneCell']
theorem evrB {w : World} {A : Option Addr} {l : List Ev} (h : EvAt w A l) (i : Nat) (x : Ev) (hx : l[i]? = some x) : ∃ g off, A = some ⟨g, off, none⟩ ∧ g < w.heap.size ∧ w.rangeAt g (off + i * 5) x.cells := by
 have h0 : (evs l)[i * 5 + 0]? = x.cells[0]? := by rw [evs_get l i 0 (by decide), hx]; rfl
 obtain ⟨g, off, e, hg, -⟩ := h (i * 5 + 0) (.int .u64 (x.off : Int)) (by rw [h0]; rfl)
 refine ⟨g, off, e, hg, fun j v hv => ?_⟩
 have hj : j < 5 := (List.getElem?_eq_some_iff.1 hv).1
 have h1 : (evs l)[i * 5 + j]? = some v := by rw [evs_get l i j hj, hx]; exact hv
 obtain ⟨g', off', e', -, hc⟩ := h _ _ h1
 rw [e] at e'; injection e' with e'; injection e' with b1 b2; subst b1; subst b2
 rw [Nat.add_assoc]; exact hc
/-- Events with the form of a log of 8 partitions. -/
structure FineE (x : Ev) : Prop where
 off : x.off < 1099511627776
 part : 0 ≤ x.part ∧ x.part < 8
 time : -1099511627776 ≤ x.time ∧ x.time ≤ 1099511627776
 key : x.key.size ≤ 32
 val : x.val < 18446744073709551616
def oI (x : Ev) : Int := (x.off : Int)
/-- A key's bytes. -/
def kL (x : Ev) : List Nat := nb x.key.data.toList
theorem kL_wf (x : Ev) : WfT (kL x) := nb_wf _
theorem kL_strB (x : Ev) : strB (kL x) = x.key := by
 have h := tb_nb x.key.data.toList
 unfold tb at h
 exact ByteArray.ext (Array.ext' h)
theorem kL_len (x : Ev) : (kL x).length = x.key.size := by
 unfold kL nb; rw [List.length_map]; rfl
/-- The columns of some events. -/
def evY (l : List Ev) : List Nat := (((txL (intsL (l.map oI)) ++ txL (intsL (l.map Ev.part))) ++ txL (intsL (l.map Ev.time))) ++ txL (textsL (l.map kL))) ++ txL (intsL ((l.map Ev.val).map rwI))
theorem map_snoc {α : Type} (f : Ev → α) (l : List Ev) (k : Nat) (x : Ev) (h : l[k]? = some x) : (l.map f).take (k + 1) = (l.map f).take k ++ [f x] := by
 rw [List.take_add_one, List.getElem?_map, h]; rfl
theorem kept_cellB (w : World) (g i : Nat) (u : Value) : Kept (fun j => j = g) w (w.setCell ⟨g, i, none⟩ u) := (Kept.refl _ _).setCell _ _ (.inl rfl)
/-- The five rows while they are filled. -/
structure EvL (w0 : World) (a b c d e : Nat) (o p t : List Int) (ky : List (List Nat)) (v : List Nat) (wr : World) : Prop where
 r1 : RowI wr a o
 r2 : RowI wr b p
 r3 : RowI wr c t
 r4 : RowT wr d ky
 r5 : RowF wr e v
 lt : w0.heap.size ≤ a ∧ a < b ∧ b < c ∧ c < d ∧ d < e ∧ e < wr.heap.size
 below : Below w0.heap.size w0 wr
section
variable {w0 wr w2 : World} {a b c d e : Nat} {o p t : List Int} {ky : List (List Nat)} {v : List Nat}
theorem EvL.keep (H : EvL w0 a b c d e o p t ky v wr) (hb : Below wr.heap.size wr w2) : EvL w0 a b c d e o p t ky v w2 :=
 have K : Kept (fun _ => False) wr w2 := Kept.of_below hb
 ⟨H.r1.keep K (fun h => h), H.r2.keep K (fun h => h), H.r3.keep K (fun h => h), H.r4.keep K (fun h => h), H.r5.keep K (fun h => h), ⟨H.lt.1, H.lt.2.1, H.lt.2.2.1, H.lt.2.2.2.1, H.lt.2.2.2.2.1, Nat.lt_of_lt_of_le H.lt.2.2.2.2.2 hb.size⟩, below_to H.below hb⟩
theorem EvL.set1 (H : EvL w0 a b c d e o p t ky v wr) (k : Nat) (x : Int) : EvL w0 a b c d e (o.set k x) p t ky v (wr.setCell ⟨a, k, none⟩ (.int .i64 x)) :=
 ⟨H.r1.set k x, H.r2.keep (kept_cellB wr a k _) (fun h => by have := H.lt; omega), H.r3.keep (kept_cellB wr a k _) (fun h => by have := H.lt; omega), H.r4.keep (kept_cellB wr a k _) (fun h => by have := H.lt; omega), H.r5.keep (kept_cellB wr a k _) (fun h => by have := H.lt; omega), by rw [setCell_size]; exact H.lt, H.below.setCell (by have := H.lt; show w0.heap.size ≤ a; omega) _⟩
theorem EvL.set2 (H : EvL w0 a b c d e o p t ky v wr) (k : Nat) (x : Int) : EvL w0 a b c d e o (p.set k x) t ky v (wr.setCell ⟨b, k, none⟩ (.int .i64 x)) :=
 ⟨H.r1.keep (kept_cellB wr b k _) (fun h => by have := H.lt; omega), H.r2.set k x, H.r3.keep (kept_cellB wr b k _) (fun h => by have := H.lt; omega), H.r4.keep (kept_cellB wr b k _) (fun h => by have := H.lt; omega), H.r5.keep (kept_cellB wr b k _) (fun h => by have := H.lt; omega), by rw [setCell_size]; exact H.lt, H.below.setCell (by have := H.lt; show w0.heap.size ≤ b; omega) _⟩
theorem EvL.set3 (H : EvL w0 a b c d e o p t ky v wr) (k : Nat) (x : Int) : EvL w0 a b c d e o p (t.set k x) ky v (wr.setCell ⟨c, k, none⟩ (.int .i64 x)) :=
 ⟨H.r1.keep (kept_cellB wr c k _) (fun h => by have := H.lt; omega), H.r2.keep (kept_cellB wr c k _) (fun h => by have := H.lt; omega), H.r3.set k x, H.r4.keep (kept_cellB wr c k _) (fun h => by have := H.lt; omega), H.r5.keep (kept_cellB wr c k _) (fun h => by have := H.lt; omega), by rw [setCell_size]; exact H.lt, H.below.setCell (by have := H.lt; show w0.heap.size ≤ c; omega) _⟩
theorem EvL.set4 (H : EvL w0 a b c d e o p t ky v wr) (k : Nat) (x : List Nat) : EvL w0 a b c d e o p t (ky.set k x) v (wr.setCell ⟨d, k, none⟩ (.string (strB x))) :=
 ⟨H.r1.keep (kept_cellB wr d k _) (fun h => by have := H.lt; omega), H.r2.keep (kept_cellB wr d k _) (fun h => by have := H.lt; omega), H.r3.keep (kept_cellB wr d k _) (fun h => by have := H.lt; omega), H.r4.set k x, H.r5.keep (kept_cellB wr d k _) (fun h => by have := H.lt; omega), by rw [setCell_size]; exact H.lt, H.below.setCell (by have := H.lt; show w0.heap.size ≤ d; omega) _⟩
theorem EvL.set5 (H : EvL w0 a b c d e o p t ky v wr) (k : Nat) (x : Nat) : EvL w0 a b c d e o p t ky (v.set k x) (wr.setCell ⟨e, k, none⟩ (.float .f64 x)) :=
 ⟨H.r1.keep (kept_cellB wr e k _) (fun h => by have := H.lt; omega), H.r2.keep (kept_cellB wr e k _) (fun h => by have := H.lt; omega), H.r3.keep (kept_cellB wr e k _) (fun h => by have := H.lt; omega), H.r4.keep (kept_cellB wr e k _) (fun h => by have := H.lt; omega), H.r5.set k x, by rw [setCell_size]; exact H.lt, H.below.setCell (by have := H.lt; show w0.heap.size ≤ e; omega) _⟩
end
theorem EvRow.c {w : World} {g : Nat} {x : Ev} (h : w.heap[g]? = some (.cells x.cells.toArray 45 (0, 0))) (j : Nat) (v : Value) (hv : x.cells[j]? = some v) : w.cell? ⟨g, j, none⟩ = some v := by
 rw [cell_of_row w g j _ _ _ h, List.getElem?_toArray]; exact hv
theorem oI_wf {l : List Ev} (h : ∀ x ∈ l, FineE x) : ∀ y ∈ l.map oI, Wf64 y := fun y hy => by
 obtain ⟨x, hx, rfl⟩ := List.mem_map.1 hy
 have := (h x hx).off
 unfold Wf64 oI
 omega
theorem part_wf {l : List Ev} (h : ∀ x ∈ l, FineE x) : ∀ y ∈ l.map Ev.part, Wf64 y := fun y hy => by
 obtain ⟨x, hx, rfl⟩ := List.mem_map.1 hy
 have := (h x hx).part
 unfold Wf64
 omega
theorem time_wf {l : List Ev} (h : ∀ x ∈ l, FineE x) : ∀ y ∈ l.map Ev.time, Wf64 y := fun y hy => by
 obtain ⟨x, hx, rfl⟩ := List.mem_map.1 hy
 have := (h x hx).time
 unfold Wf64
 omega
theorem val_lt {l : List Ev} (h : ∀ x ∈ l, FineE x) : ∀ y ∈ l.map Ev.val, y < 18446744073709551616 := fun y hy => by
 obtain ⟨x, hx, rfl⟩ := List.mem_map.1 hy
 exact (h x hx).val
theorem kL_all {l : List Ev} (h : ∀ x ∈ l, FineE x) : ∀ y ∈ l.map kL, WfT y ∧ y.length ≤ 32 := fun y hy => by
 obtain ⟨x, hx, rfl⟩ := List.mem_map.1 hy
 exact ⟨kL_wf x, by rw [kL_len]; exact (h x hx).key⟩
theorem ints_60 (l : List Int) (hw : ∀ y ∈ l, Wf64 y) (hn : l.length ≤ 64) : (intsL l).length ≤ 1303 := by
 have h1 := best_le 3 l 0 (by omega)
 have h2 := asL_len 0 l hw (by omega)
 unfold intsL
 omega
theorem flatB_le (ts : List (List Nat)) (h : ∀ s ∈ ts, s.length ≤ 32) : ((ts.map txL).flatten).length ≤ 42 * ts.length := by
 induction ts with
 | nil => exact Nat.le_refl _
 | cons a r ih =>
  have h1 := ih fun s hs => h s (by simp [hs])
  have h2 := h a (by simp)
  have h3 := ub10 (show a.length < 18446744073709551616 by omega)
  have h4 : (txL a).length = (ub a.length).length + a.length := by unfold txL; rw [List.length_append]
  rw [List.map_cons, List.flatten_cons, List.length_append, List.length_cons]
  omega
theorem texts_60 (l : List (List Nat)) (hw : ∀ x ∈ l, WfT x) (h32 : ∀ y ∈ l, y.length ≤ 32) (hn : l.length ≤ 64) : (textsL l).length ≤ 4010 := by
 have hu := uqL_len l
 have h1 := flatB_le (uqL l) fun s hs => h32 s (((uqL_facts l hw).2 s).1 hs)
 have h2 := ub10 (show (uqL l).length < 18446744073709551616 by omega)
 have h3 := ints_60 (l.map fun x => (plc (uqL l) x : Int)) (fun x hx => by obtain ⟨y, -, rfl⟩ := List.mem_map.1 hx; exact plc_wf (uqL l) (by omega) y) (by rw [List.length_map]; omega)
 unfold textsL
 rw [List.length_append, List.length_append]
 omega
theorem txL_le (D : List Nat) (m : Nat) (hm : m ≤ 1000000) (h : D.length ≤ m) : (txL D).length ≤ m + 10 := by
 have h3 := ub10 (show D.length < 18446744073709551616 by omega)
 unfold txL; rw [List.length_append]; omega
theorem ints_row (wr : World) (L n : Nat) (l : List Int) (hn : n = l.length) (h6 : n ≤ 64) (hw : ∀ y ∈ l, Wf64 y) (hr : RowI wr L l) (w' : World) (hb : Below wr.heap.size wr w') :
  Calls Tryz.prog 68 #[.slice (some ⟨L, 0, none⟩) n n] w' (Puts w'.heap.size w' (intsL l)) := by
 have ho := hr.own (B := 0) (Nat.zero_le _) hw (by unfold maxLen; omega)
 rw [← hn] at ho
 exact ints_any (some ⟨L, 0, none⟩) n n l (Lib.hid hn) (Nat.le_refl _) (by omega) (by omega) w' (Lib.hid (ho.isAt.keep hb))
theorem halves_keep {B : Nat} {W w : World} (hGB : 0 < B) (hBw : B ≤ W.heap.size) (h : HalvesAt W) (hb : Below W.heap.size W w) : HalvesAt w := fun i hi => (hb.cell (p := ⟨0, i, none⟩) (Nat.lt_of_lt_of_le hGB hBw)).trans (h i hi)
end Go.Proofs.YtifabkbdiiolfaaGreatDoor

namespace Go.Proofs.YtifabkbdiiolfaaGreatDoor
open Go.RowKit Go.WideShapes
/-- What is told of a chunk. -/
structure Ck where
 rows : Nat
 pl : Nat
 oa : Nat
 ob : Nat
 ta : Int
 tz : Int
 ka : ByteArray
 kz : ByteArray
instance : Inhabited Ck := ⟨⟨0, 0, 0, 0, 0, 0, ByteArray.empty, ByteArray.empty⟩⟩
def Ck.cells (x : Ck) : List Value := [.int .i64 (x.rows : Int), .int .i64 (x.pl : Int), .int .u64 (x.oa : Int), .int .u64 (x.ob : Int), .int .i64 x.ta, .int .i64 x.tz, .string x.ka, .string x.kz]
theorem ckc_len (x : Ck) : x.cells.length = 8 := rfl
theorem ckc_one (x : Ck) : ∀ v ∈ x.cells, v.oneCell' = true := fun v hv => by
 simp only [Ck.cells, List.mem_cons, List.not_mem_nil, or_false] at hv
 rcases hv with rfl | rfl | rfl | rfl | rfl | rfl | rfl | rfl <;> rfl
def cks (l : List Ck) : List Value := l.flatMap Ck.cells
theorem cks_length (l : List Ck) : (cks l).length = l.length * 8 := by
 induction l with
 | nil => rfl
 | cons x r ih => unfold cks at *; rw [List.flatMap_cons, List.length_append, ih, ckc_len, List.length_cons]; omega
theorem cks_one (l : List Ck) : ∀ v ∈ cks l, v.oneCell' = true := fun v hv => by
 obtain ⟨x, -, hx⟩ := List.mem_flatMap.1 hv
 exact ckc_one x v hx
theorem cks_get (l : List Ck) (k j : Nat) (hj : j < 8) : (cks l)[k * 8 + j]? = (l[k]?).bind fun x => x.cells[j]? := by
 induction l generalizing k with
 | nil => simp [cks]
 | cons x r ih =>
  unfold cks at *
  rw [List.flatMap_cons]
  rcases k with _ | k
  ·rw [List.getElem?_append_left (by rw [ckc_len]; omega)]; simp
  ·rw [List.getElem?_append_right (by rw [ckc_len]; omega), ckc_len, show (k + 1) * 8 + j - 8 = k * 8 + j by omega, ih]; simp
/-- A slice value that holds some events, in a world. -/
def CkAt (w : World) (a : Option Addr) (l : List Ck) : Prop := ∀ (j : Nat) (v : Value), (cks l)[j]? = some v → ∃ g off, a = some ⟨g, off, none⟩ ∧ g < w.heap.size ∧ w.cell? ⟨g, off + j, none⟩ = some v
theorem CkAt.keep {w w' : World} {a : Option Addr} {l : List Ck} (h : CkAt w a l) (hb : Below w.heap.size w w') : CkAt w' a l := fun j v hv => by
 obtain ⟨g, off, h2, h3, h4⟩ := h j v hv
 exact ⟨g, off, h2, Nat.lt_of_lt_of_le h3 hb.size, (hb.cell (p := ⟨g, off + j, none⟩) h3).trans h4⟩
theorem infoCk : (Tryz.prog.info? 77).map (fun i => (i.zero, i.size, i.bytes)) = some (some (.agg #[.int .i64 0, .int .i64 0, .int .u64 0, .int .u64 0, .int .i64 0, .int .i64 0, .string ByteArray.empty, .string ByteArray.empty]), 8, 80) := by kernel_rfl
/-- Events that a call owns. -/
def OwnC (w : World) (B : Nat) (A : Option Addr) (n cap : Nat) (l : List Ck) : Prop := w.ownsRow B 77 8 (.slice A n cap) n (cks l)
theorem rc_slice {w : World} {B n : Nat} {v : Value} {xs : List Value} (h : w.ownsRow B 77 8 v n xs) : ∃ A cap, v = .slice A n cap ∧ n ≤ cap ∧ cap ≤ maxLen ∧ (A = none → cap = 0) := by
 rcases h.2 with ⟨e0, e1⟩ | ⟨g, cap', cur, e0, -, -, h1, h2, -⟩
 ·exact ⟨none, 0, by rw [e0, e1], by omega, Nat.zero_le _, fun _ => rfl⟩
 ·exact ⟨_, _, e0, h1, h2, fun h => by cases h⟩
theorem rc_base {w : World} {B n cap : Nat} {A : Option Addr} {l : List Ck} (h : OwnC w B A n cap l) : ∀ k, (Value.slice A n cap).ownBlock = some k → B ≤ k := by
 intro k hk
 rcases h.2 with ⟨e0, e1⟩ | ⟨g, cap', cur, e0, hb, -⟩
 ·rw [e0] at hk; cases hk
 ·rw [e0] at hk; cases hk; exact hb
/-- append of events, the source nil, empty or not. -/
theorem wpList_append_ck {w : World} {ops : Array Oper} {rest : List Oper} {o : Oper} {ac : Act} {Q : Exit → Act → World → Prop} (hgd : o.guard = none) (s x : Operand)
  (ho : o.op = .call { callee := .builtin .append, args := #[s, x], argTypes := #[74, 74] })
  (B : Nat) (A : Option Addr) (n cap : Nat) (l : List Ck) (hs : ac.eval s = .slice A n cap) (hown : OwnC w B A n cap l) (a : Option Addr) (m c : Nat) (l2 : List Ck) (hx : ac.eval x = .slice a m c) (hm : m = l2.length) (h2 : CkAt w a l2) (hnil : a = none → c = 0)
  (N : Nat) (hN : N = n + m) (hbytes : n + m ≤ 1000) (hbase : B ≤ w.heap.size)
  (h : ∀ A' cap' w', OwnC w' B A' N cap' (l ++ l2) → N ≤ cap' → cap' ≤ maxLen → (A' = none → cap' = 0) → Below B w w' → wpList Tryz.prog ops Q rest (ac.put o.dst (.slice A' N cap')) w') : wpList Tryz.prog ops Q (o :: rest) ac w := by
 subst hN
 obtain ⟨i0, hi, hz0, hz1, hz2⟩ := info_parts infoCk
 rcases a with _ | ad
 ·obtain rfl := hnil rfl
  have hl2 : l2 = [] := by
   rcases l2 with _ | ⟨x, r⟩
   ·rfl
   ·obtain ⟨g, off, e, -⟩ := h2 0 (.int .i64 (x.rows : Int)) rfl; cases e
  subst hl2
  have h0 : m = 0 := hm
  subst h0
  obtain ⟨A1, c1, e1, e2, e3, e4⟩ := rc_slice hown
  injection e1 with b1 b2 b3
  subst b1; subst b3
  refine wpList_append_own_none hgd s x 74 ho B 77 i0 8 Tryz.underlying74 hi (.slice A n cap) n (cks l) hs hown hx ?_
  exact h A cap w (by rw [List.append_nil]; exact hown) e2 e3 e4 (Below.refl _ _)
 ·refine wpList_append_own_at w hgd s x 74 ho B 77 i0 _ 8 80 Tryz.underlying74 hi hz0 hz1 hz2 rfl (by decide) (.slice A n cap) n (cks l) hs hown ad m c (cks l2) hx (by rw [cks_length, hm]) (fun j u hu => by
   obtain ⟨g', off', e, -, hc⟩ := h2 j u hu
   injection e with e; subst e
   rw [Addr.add_lit]; exact hc) (cks_one l2) (by unfold maxLen; omega) (by omega) hbase ?_
  intro v' w2 hown2 hgr _ _
  have e : cks l ++ cks l2 = cks (l ++ l2) := by unfold cks; rw [List.flatMap_append]
  rw [e] at hown2
  obtain ⟨A1, c1, rfl, e2, e3, e4⟩ := rc_slice hown2
  exact h A1 c1 w2 hown2 e2 e3 e4 ((Below.refl _ w).grown hgr hbase (rc_base hown))
theorem OwnC.at' {w : World} {B n cap : Nat} {A : Option Addr} {l : List Ck} (h : OwnC w B A n cap l) : CkAt w A l := fun j v hv => by
 have hjl := (List.getElem?_eq_some_iff.1 hv).1
 rcases h.2 with ⟨e0, e1⟩ | ⟨g, cap', cur, e0, hb, hg, hn, hm, hs, ht⟩
 ·have := h.1; rw [e1, Nat.zero_mul] at this; omega
 ·injection e0 with a1 a2 a3
  subst a1
  refine ⟨g, 0, rfl, (Array.getElem?_eq_some_iff.1 hg).1, ?_⟩
  rw [cell_of_row _ _ _ _ _ _ hg, Nat.zero_add, ← Array.getElem?_toList]
  have := h.1
  rw [← ht, List.getElem?_take] at hv
  rw [if_pos (by omega)] at hv
  exact hv
theorem ckr {w : World} {A : Option Addr} {l : List Ck} (h : CkAt w A l) (i : Nat) (x : Ck) (hx : l[i]? = some x) : ∃ g off, A = some ⟨g, off, none⟩ ∧ g < w.heap.size ∧ w.rangeAt g (off + i * 8) x.cells := by
 have h0 : (cks l)[i * 8 + 0]? = x.cells[0]? := by rw [cks_get l i 0 (by decide), hx]; rfl
 obtain ⟨g, off, e, hg, -⟩ := h (i * 8 + 0) (.int .i64 (x.rows : Int)) (by rw [h0]; rfl)
 refine ⟨g, off, e, hg, fun j v hv => ?_⟩
 have hj : j < 8 := (List.getElem?_eq_some_iff.1 hv).1
 have h1 : (cks l)[i * 8 + j]? = some v := by rw [cks_get l i j hj, hx]; exact hv
 obtain ⟨g', off', e', -, hc⟩ := h _ _ h1
 rw [e] at e'; injection e' with e'; injection e' with b1 b2; subst b1; subst b2
 rw [Nat.add_assoc]; exact hc
theorem OwnC.less {w : World} {B B' n cap : Nat} {A : Option Addr} {l : List Ck} (h : OwnC w B A n cap l) (hB : B' ≤ B) : OwnC w B' A n cap l := by
 refine ⟨h.1, ?_⟩
 rcases h.2 with h1 | ⟨g, cap', cur, h1, hb, h2⟩
 ·exact .inl h1
 ·exact .inr ⟨g, cap', cur, h1, Nat.le_trans hB hb, h2⟩
theorem ckAt_new (w : World) (l : List Ck) (cs : Array Value) (hcs : cs.toList = cks l) (t : TypeId) : CkAt (w.alloc (.cells cs t)) (some ⟨w.heap.size, 0, none⟩) l := fun j v hv => by
 refine ⟨w.heap.size, 0, rfl, by simp, ?_⟩
 rw [Nat.zero_add, cell_of_row _ _ _ _ _ _ (heap_new w _), ← Array.getElem?_toList, hcs]; exact hv
theorem OwnC.nil (w : World) (B : Nat) : OwnC w B none 0 0 [] := w.ownsRow_nil B _ 8
theorem OwnC.keep {w w' : World} {B n cap : Nat} {A : Option Addr} {l : List Ck} (h : OwnC w B A n cap l) (hb : Below w.heap.size w w') : OwnC w' B A n cap l :=
 World.ownsRow.kept (row := none) h ⟨hb.os, hb.tape, hb.output, hb.size, fun k hk _ => hb.block k hk⟩ (by rcases A with _ | a <;> simp [Value.ownBlock])
theorem uCk : Tryz.prog.underlying 77 = some (.struct (Tryz.prog.fieldsOf 77)) := by kernel_rfl
theorem iCk (x : Ck) : (Tryz.prog.info? 77).map (·.size) = some x.cells.length := by rw [ckc_len]; kernel_rfl
def zCk : Ck := ⟨0, 0, 0, 0, 0, 0, { data := #[] }, { data := #[] }⟩
/-! What is told of events. -/
def minI (a b : Int) : Int := if b < a then b else a
def maxI (a b : Int) : Int := if b > a then b else a
def minK (a b : ByteArray) : ByteArray := if (Op.bytesLess a.toList b.toList || a.toList == b.toList) = true then a else b
def maxK (a b : ByteArray) : ByteArray := if (!Op.bytesLess a.toList b.toList) = true then a else b
theorem run_minK (ts : Array TypeId) (ty : TypeId) (a b : ByteArray) (w : World) : (Builtin.min_ ts ty #[.string a, .string b]).run Tryz.prog w = .ok (.string (minK a b)) w := by
 unfold minK
 simp [Builtin.min_, Builtin.min2, Op.stringOp, asBool]
theorem run_maxK (ts : Array TypeId) (ty : TypeId) (a b : ByteArray) (w : World) : (Builtin.max_ ts ty #[.string a, .string b]).run Tryz.prog w = .ok (.string (maxK a b)) w := by
 unfold maxK
 simp [Builtin.max_, Builtin.max2, Op.stringOp, asBool]
def ckF (c : Ck) (e : Ev) : Ck := { c with ta := minI c.ta e.time, tz := maxI c.tz e.time, ka := minK c.ka e.key, kz := maxK c.kz e.key }
def ckS (l : List Ev) (p : Nat) : Ck := match l with
 | [] => { zCk with pl := p }
 | x :: r => ⟨(x :: r).length, p, x.off, ((x :: r).getLast (by simp)).off, x.time, x.time, x.key, x.key⟩
/-- What is told of events whose page stands at a place. -/
def ckOf (l : List Ev) (p : Nat) : Ck := l.foldl ckF (ckS l p)
end Go.Proofs.YtifabkbdiiolfaaGreatDoor
