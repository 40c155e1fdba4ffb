/-
  Layer event: the library's contracts, laid; Sort at fewer than 20 events; awake.
-/
import Derived.Test.YtlboefkihahbeaaEb
import Derived.Shelf.SlSortCmp.InsertionK
import Derived.Shelf.SlicesE.Clone
import Derived.Lib.OwnBridge
set_option linter.unusedSimpArgs false
set_option linter.unusedVariables false
namespace Go.Proofs.Ytlboefkihahbeaa
open Go.RowKit Go.Sort

def insLays_ren : Go.Shelf.Ren := ⟨fun | 20 => 33 | n => n, fun | 24 => 25 | 22 => 30 | 3 => 3 | 25 => 34 | 4 => 4 | 0 => 0 | n => n, fun n => n⟩
theorem insLays : Go.Proofs.SlLaysF0.n20 Try.prog insLays_ren := {
  mixed := by kernel_rfl
  f20 := ⟨Try.f33.name, by decide, Try.func33.trans (congrArg some (by kernel_rfl))⟩
  t0 := Try.underlying0
  a0 := Try.isAgg0
  z0 := Try.sizeOf0
  v0 := Try.zeroValue0
  t3 := Try.underlying3
  a3 := Try.isAgg3
  z3 := Try.sizeOf3
  v3 := Try.zeroValue3
  t4 := Try.underlying4
  a4 := Try.isAgg4
  z4 := Try.sizeOf4
  v4 := Try.zeroValue4
  t22 := Try.underlying30
  a22 := Try.isAgg30
  z22 := Try.sizeOf30
  v22 := Try.zeroValue30
  t25 := Try.underlying34
  a25 := Try.isAgg34
  z25 := Try.sizeOf34
  v25 := Try.zeroValue34 }

def cloLays_ren : Go.Shelf.Ren := ⟨fun | 41 => 19 | n => n, fun | 22 => 30 | 23 => 25 | 4 => 4 | n => n, fun n => n⟩
theorem cloLays : Go.Proofs.SlLaysE0.n41 Try.prog cloLays_ren := {
  mixed := by kernel_rfl
  f41 := ⟨Try.f19.name, by decide, Try.func19.trans (congrArg some (by kernel_rfl))⟩
  t4 := Try.underlying4
  a4 := Try.isAgg4
  z4 := Try.sizeOf4
  v4 := Try.zeroValue4
  t22 := Try.underlying30
  a22 := Try.isAgg30
  z22 := Try.sizeOf30
  v22 := Try.zeroValue30 }

theorem cells_len (x : Ev) : x.cells.length = 5 := rfl
theorem cells_one (x : Ev) : ∀ v ∈ x.cells, v.oneCell' = true := fun v hv => by
  simp only [Ev.cells, List.mem_cons, List.not_mem_nil, or_false] at hv
  rcases hv with rfl | rfl | rfl | rfl | rfl <;> rfl
def evs (l : List Ev) : List Value := l.flatMap Ev.cells
theorem evs_length (l : List Ev) : (evs l).length = l.length * 5 := by
  induction l with
  | nil => rfl
  | cons x r ih => unfold evs at *; rw [List.flatMap_cons, List.length_append, ih, cells_len, List.length_cons]; omega
theorem evs_one (l : List Ev) : ∀ v ∈ evs l, v.oneCell' = true := fun v hv => by
  obtain ⟨x, -, hx⟩ := List.mem_flatMap.1 hv
  exact cells_one x v hx
theorem evs_get (l : List Ev) (k j : Nat) (hj : j < 5) : (evs l)[k * 5 + j]? = (l[k]?).bind fun x => x.cells[j]? := by
  induction l generalizing k with
  | nil => simp [evs]
  | cons x r ih =>
    unfold evs at *
    rw [List.flatMap_cons]
    rcases k with _ | k
    · rw [List.getElem?_append_left (by rw [cells_len]; omega)]; simp
    · rw [List.getElem?_append_right (by rw [cells_len]; omega), cells_len, show (k + 1) * 5 + j - 5 = k * 5 + j by omega, ih]; simp
/-- A slice value that holds some events, in a world. -/
def EvAt (w : World) (a : Option Addr) (l : List Ev) : Prop := ∀ (j : Nat) (v : Value), (evs l)[j]? = some v → ∃ g off, a = some ⟨g, off, none⟩ ∧ g < w.heap.size ∧ w.cell? ⟨g, off + j, none⟩ = some v
theorem EvAt.keep {w w' : World} {a : Option Addr} {l : List Ev} (h : EvAt w a l) (hb : Below w.heap.size w w') : EvAt w' a l := fun j v hv => by
  obtain ⟨g, off, h2, h3, h4⟩ := h j v hv
  exact ⟨g, off, h2, Nat.lt_of_lt_of_le h3 hb.size, (hb.cell (p := ⟨g, off + j, none⟩) h3).trans h4⟩
theorem infoEv : (Try.prog.info? 25).map (fun i => (i.zero, i.size, i.bytes)) = some (some (.agg #[.int .u64 0, .int .i64 0, .int .i64 0, .string ByteArray.empty, .float .f64 0]), 5, 48) := by kernel_rfl
/-- Events that a call owns. -/
def OwnE (w : World) (B : Nat) (A : Option Addr) (n cap : Nat) (l : List Ev) : Prop := w.ownsRow B 25 5 (.slice A n cap) n (evs l)
theorem clone_some (g off n c : Nat) (l : List Ev) (hn : n = l.length) (hb : n ≤ 1000) (w : World) (H : Hid (EvAt w (some ⟨g, off, none⟩) l)) :
    Calls Try.prog 19 #[.slice (some ⟨g, off, none⟩) n c] w fun e w' => ∃ v', e = .returned v' ∧ w'.ownsRow w.heap.size 25 5 v' n (evs l) ∧ v' ≠ .slice none 0 0 ∧ Below w.heap.size w w' := by
  obtain ⟨i0, hi, hz0, hz1, hz2⟩ := info_parts infoEv
  have h := AnyE.slices_Clone cloLays i0 _ 5 48 hi hz0 hz1 hz2 rfl (by decide) Try.sizeOf25 g off n c (evs l) w (by rw [evs_length, hn]) (by unfold maxLen; omega) (by omega) (fun j u hu => by
    obtain ⟨g', off', e, -, hc⟩ := H.out j u hu
    cases e
    exact hc) (evs_one l)
  change Calls Try.prog 19 _ _ _ at h
  exact h
theorem flatK_evs (l : List Ev) : (flatK Ev.cells 5 l.toArray).toList = evs l := by
  apply List.ext_getElem?
  intro t
  by_cases ht : t < l.length * 5
  · have h1 := get_flatK Ev.cells 5 l.toArray t (by simpa using ht)
    have h2 := evs_get l (t / 5) (t % 5) (by omega)
    rw [show t / 5 * 5 + t % 5 = t by omega] at h2
    rw [h2]
    have h3 : t / 5 < l.length := by omega
    rw [List.getElem?_eq_getElem h3]
    rw [getElem!_pos _ t (by simpa using ht)] at h1
    rw [Array.getElem?_toList, Array.getElem?_eq_getElem (by simpa using ht), h1]
    simp only [Option.bind_some]
    rw [show l.toArray[t / 5]! = l[t / 5] from by simp [getElem!_pos, h3]]
    rw [getElem!_pos _ (t % 5) (by rw [cells_len]; omega), List.getElem?_eq_getElem (by rw [cells_len]; omega)]
  · rw [List.getElem?_eq_none (by simp; omega), List.getElem?_eq_none (by rw [evs_length]; omega)]
theorem holds_own {w : World} {B n : Nat} {v : Value} {l : List Ev} (h : w.ownsRow B 25 5 v n (evs l)) (hv : v ≠ .slice none 0 0) :
    ∃ g cap, v = .slice (some ⟨g, 0, none⟩) n cap ∧ B ≤ g ∧ g < w.heap.size ∧ n = l.length ∧ HoldsK Ev.cells 5 w g 0 l.toArray := by
  have hl : n = l.length := by have := h.1; rw [evs_length] at this; omega
  rcases h.2 with ⟨e0, _⟩ | ⟨g, cap, cur, rfl, hb, hg, hn, hm, hs, ht⟩
  · exact absurd e0 hv
  · refine ⟨g, cap, rfl, hb, (Array.getElem?_eq_some_iff.1 hg).1, hl, fun j hj => ?_⟩
    have hj' : j < l.length * 5 := by simpa using hj
    refine ⟨?_, by simp [World.frozen?, hg]⟩
    rw [cell_of_row w g (0 + j) cur 25 (0, 0) hg, Nat.zero_add, ← Array.getElem?_toList]
    have e1 : (cur.toList.take (n * 5))[j]? = (evs l)[j]? := by rw [ht]
    rw [List.getElem?_take, if_pos (by omega)] at e1
    rw [e1, ← flatK_evs, Array.getElem?_toList, getElem!_pos _ j hj, Array.getElem?_eq_getElem hj]; rfl
theorem own_put {w : World} {B n g cap q : Nat} {l m : List Ev} (h : w.ownsRow B 25 5 (.slice (some ⟨g, 0, none⟩) n cap) n (evs l)) (hm : m.length = l.length) (os : Array Obj) :
    OwnE (sortWorldK Ev.cells 5 w g 0 q m.toArray os) B (some ⟨g, 0, none⟩) n cap m := by
  have hl : n = l.length := by have := h.1; rw [evs_length] at this; omega
  rcases h.2 with ⟨e0, _⟩ | ⟨g', cap', cur, e0, hb, hg, hn, hmx, hs, ht⟩
  · cases e0
  · cases e0
    refine ⟨by rw [evs_length]; omega, .inr ⟨g, cap, putCells id 0 (flatK Ev.cells 5 m.toArray) cur, rfl, hb, ?_, hn, hmx, by simpa [putCells] using hs, ?_⟩⟩
    · show (grow (putRowK Ev.cells 5 (Sort.ahead w q) g 0 m.toArray) os).heap[g]? = _
      have hlt := (Array.getElem?_eq_some_iff.1 hg).1
      rw [heap_grow_old _ _ (by simpa [putRowK, putRow, mapBlock, Sort.ahead] using hlt)]
      simp [putRowK, putRow, mapBlock, Sort.ahead, Array.getElem?_modify, hg, onCells]
    · have hfl := flatK_evs m
      apply List.ext_getElem?
      intro j
      rw [List.getElem?_take, Array.getElem?_toList]
      by_cases hj : j < n * 5
      · have hjc : j < cur.size := by have := Nat.mul_le_mul_right 5 hn; omega
        have hjf : j < (flatK Ev.cells 5 m.toArray).size := by simp; omega
        simp only [if_pos hj, putCells, Array.getElem?_mapIdx, Array.getElem?_eq_getElem hjc, Option.map_some]
        rw [if_pos (by simp; omega), ← hfl, Array.getElem?_toList, Array.getElem?_eq_getElem hjf]
        simp only [Nat.sub_zero, id]
        rw [getElem!_pos (flatK Ev.cells 5 m.toArray) j hjf]
      · rw [if_neg hj, List.getElem?_eq_none (by rw [evs_length]; omega)]
theorem below_grow {B : Nat} {w0 w : World} (h : Below B w0 w) (hB : B ≤ w.heap.size) (os : Array Obj) : Below B w0 (grow w os) :=
  ⟨h.os, h.tape, h.output, Nat.le_trans h.size (by simp), fun k hk => by rw [heap_grow_old _ _ (Nat.lt_of_lt_of_le hk hB)]; exact h.block k hk⟩
theorem below_sortW {B : Nat} {w0 w : World} {g q : Nat} {d : Array Ev} {os : Array Obj} (h : Below B w0 w) (hB : B ≤ w.heap.size) (hg : B ≤ g) : Below B w0 (sortWorldK Ev.cells 5 w g 0 q d os) :=
  below_grow (Lib.below_putRow h hg) (by simpa [putRow, mapBlock, Sort.ahead] using hB) os
theorem enters_cmp : ∀ args w, (callFunc 16 args).run Try.prog w = .ok (.enter 16 args) w := enters_of Try.func16 (by kernel_rfl) rfl
theorem cmp_lays (blk off size : Nat) (w : World) : CmpLays Try.prog 16 #[] Ev.cells 5 evCmp blk off size w := fun m os dk _ x y => compare_any x y _
/-- The sort of a part of a row, by insertions. -/
theorem ins_any (blk cap a b : Nat) (d : Array Ev) (w : World) (hH : HoldsK Ev.cells 5 w blk 0 d) (hblk : blk < w.heap.size) (hab : a ≤ b) (hb : b ≤ d.size) (hsz : d.size < 4611686018427387904) :
    Calls Try.prog 33 #[.slice (some ⟨blk, 0, none⟩) d.size cap, .int .i64 a, .int .i64 b, .func (.func 16) #[] #[]] w fun e w' => e = .returned (.tuple #[]) ∧ ∃ n os, w' = sortWorldK Ev.cells 5 w blk 0 n (insertionSort (ltOf evCmp) d a b) os := by
  have h := AnyQ.insertionSortCmpFunc insLays 5 Try.isAgg25 Try.sizeOf25 Ev.cells cells_len cells_one evCmp 16 #[] blk 0 cap a b d w enters_cmp (cmp_lays blk 0 d.size w) hH hblk hab hb hsz
  change Calls Try.prog 33 _ _ _ at h
  exact h
end Go.Proofs.Ytlboefkihahbeaa
