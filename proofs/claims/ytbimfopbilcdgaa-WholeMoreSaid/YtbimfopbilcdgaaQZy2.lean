/-
  Layer event: the library's contracts, laid; Sort at fewer than 20 events; awake.
-/
import Derived.Shelf.SlSortCmp.InsertionK
import Derived.Shelf.SlicesE.Clone
import Derived.Lib.OwnBridge
import Derived.Test.YtbimfopbilcdgaaQZy1
import Derived.Deep.DeepCutAuto
import Derived.Sort.LotA
import Derived.Sort.WalkA
set_option linter.unusedSimpArgs false
set_option linter.unusedVariables false
namespace Go.Proofs.Ytbimfopbilcdgaa
open Go.RowKit Go.Sort

def insLays_ren : Go.Shelf.Ren := ⟨fun | 20 => 148 | n => n, fun | 24 => 76 | 22 => 66 | 3 => 3 | 25 => 163 | 4 => 4 | 0 => 0 | n => n, fun n => n⟩
theorem insLays : Go.Proofs.SlLaysF0.n20 Try.prog insLays_ren := {
  mixed := by kernel_rfl
  f20 := ⟨Try.f148.name, by decide, Try.func148.trans (congrArg some (by kernel_rfl))⟩
  t0 := Try.underlying0
  a0 := Try.isAgg0
  z0 := Try.sizeOf0
  v0 := Try.zeroValue0
  t3 := Try.underlying3
  a3 := Try.isAgg3
  z3 := Try.sizeOf3
  v3 := Try.zeroValue3
  t4 := Try.underlying4
  a4 := Try.isAgg4
  z4 := Try.sizeOf4
  v4 := Try.zeroValue4
  t22 := Try.underlying66
  a22 := Try.isAgg66
  z22 := Try.sizeOf66
  v22 := Try.zeroValue66
  t25 := Try.underlying163
  a25 := Try.isAgg163
  z25 := Try.sizeOf163
  v25 := Try.zeroValue163 }

def cloLays_ren : Go.Shelf.Ren := ⟨fun | 41 => 101 | n => n, fun | 22 => 66 | 23 => 76 | 4 => 4 | n => n, fun n => n⟩
theorem cloLays : Go.Proofs.SlLaysE0.n41 Try.prog cloLays_ren := {
  mixed := by kernel_rfl
  f41 := ⟨Try.f101.name, by decide, Try.func101.trans (congrArg some (by kernel_rfl))⟩
  t4 := Try.underlying4
  a4 := Try.isAgg4
  z4 := Try.sizeOf4
  v4 := Try.zeroValue4
  t22 := Try.underlying66
  a22 := Try.isAgg66
  z22 := Try.sizeOf66
  v22 := Try.zeroValue66 }

theorem cells_len (x : Ev) : x.cells.length = 5 := rfl
theorem cells_one (x : Ev) : ∀ v ∈ x.cells, v.oneCell' = true := fun v hv => by
  simp only [Ev.cells, List.mem_cons, List.not_mem_nil, or_false] at hv
  rcases hv with rfl | rfl | rfl | rfl | rfl <;> rfl
def evs (l : List Ev) : List Value := l.flatMap Ev.cells
theorem evs_length (l : List Ev) : (evs l).length = l.length * 5 := by
  induction l with
  | nil => rfl
  | cons x r ih => unfold evs at *; rw [List.flatMap_cons, List.length_append, ih, cells_len, List.length_cons]; omega
theorem evs_one (l : List Ev) : ∀ v ∈ evs l, v.oneCell' = true := fun v hv => by
  obtain ⟨x, -, hx⟩ := List.mem_flatMap.1 hv
  exact cells_one x v hx
theorem evs_get (l : List Ev) (k j : Nat) (hj : j < 5) : (evs l)[k * 5 + j]? = (l[k]?).bind fun x => x.cells[j]? := by
  induction l generalizing k with
  | nil => simp [evs]
  | cons x r ih =>
    unfold evs at *
    rw [List.flatMap_cons]
    rcases k with _ | k
    · rw [List.getElem?_append_left (by rw [cells_len]; omega)]; simp
    · rw [List.getElem?_append_right (by rw [cells_len]; omega), cells_len, show (k + 1) * 5 + j - 5 = k * 5 + j by omega, ih]; simp
/-- A slice value that holds some events, in a world. -/
def EvAt (w : World) (a : Option Addr) (l : List Ev) : Prop := ∀ (j : Nat) (v : Value), (evs l)[j]? = some v → ∃ g off, a = some ⟨g, off, none⟩ ∧ g < w.heap.size ∧ w.cell? ⟨g, off + j, none⟩ = some v
theorem EvAt.keep {w w' : World} {a : Option Addr} {l : List Ev} (h : EvAt w a l) (hb : Below w.heap.size w w') : EvAt w' a l := fun j v hv => by
  obtain ⟨g, off, h2, h3, h4⟩ := h j v hv
  exact ⟨g, off, h2, Nat.lt_of_lt_of_le h3 hb.size, (hb.cell (p := ⟨g, off + j, none⟩) h3).trans h4⟩
theorem infoEv : (Try.prog.info? 76).map (fun i => (i.zero, i.size, i.bytes)) = some (some (.agg #[.int .u64 0, .int .i64 0, .int .i64 0, .string ByteArray.empty, .float .f64 0]), 5, 48) := by kernel_rfl
/-- Events that a call owns. -/
def OwnE (w : World) (B : Nat) (A : Option Addr) (n cap : Nat) (l : List Ev) : Prop := w.ownsRow B 76 5 (.slice A n cap) n (evs l)
theorem clone_some (g off n c : Nat) (l : List Ev) (hn : n = l.length) (hb : n ≤ 1000) (w : World) (H : Hid (EvAt w (some ⟨g, off, none⟩) l)) :
    Calls Try.prog 101 #[.slice (some ⟨g, off, none⟩) n c] w fun e w' => ∃ v', e = .returned v' ∧ w'.ownsRow w.heap.size 76 5 v' n (evs l) ∧ v' ≠ .slice none 0 0 ∧ Below w.heap.size w w' := by
  obtain ⟨i0, hi, hz0, hz1, hz2⟩ := info_parts infoEv
  have h := AnyE.slices_Clone cloLays i0 _ 5 48 hi hz0 hz1 hz2 rfl (by decide) Try.sizeOf76 g off n c (evs l) w (by rw [evs_length, hn]) (by unfold maxLen; omega) (by omega) (fun j u hu => by
    obtain ⟨g', off', e, -, hc⟩ := H.out j u hu
    cases e
    exact hc) (evs_one l)
  change Calls Try.prog 101 _ _ _ at h
  exact h
theorem flatK_evs (l : List Ev) : (flatK Ev.cells 5 l.toArray).toList = evs l := by
  apply List.ext_getElem?
  intro t
  by_cases ht : t < l.length * 5
  · have h1 := get_flatK Ev.cells 5 l.toArray t (by simpa using ht)
    have h2 := evs_get l (t / 5) (t % 5) (by omega)
    rw [show t / 5 * 5 + t % 5 = t by omega] at h2
    rw [h2]
    have h3 : t / 5 < l.length := by omega
    rw [List.getElem?_eq_getElem h3]
    rw [getElem!_pos _ t (by simpa using ht)] at h1
    rw [Array.getElem?_toList, Array.getElem?_eq_getElem (by simpa using ht), h1]
    simp only [Option.bind_some]
    rw [show l.toArray[t / 5]! = l[t / 5] from by simp [getElem!_pos, h3]]
    rw [getElem!_pos _ (t % 5) (by rw [cells_len]; omega), List.getElem?_eq_getElem (by rw [cells_len]; omega)]
  · rw [List.getElem?_eq_none (by simp; omega), List.getElem?_eq_none (by rw [evs_length]; omega)]
theorem holds_own {w : World} {B n : Nat} {v : Value} {l : List Ev} (h : w.ownsRow B 76 5 v n (evs l)) (hv : v ≠ .slice none 0 0) :
    ∃ g cap, v = .slice (some ⟨g, 0, none⟩) n cap ∧ B ≤ g ∧ g < w.heap.size ∧ n = l.length ∧ HoldsK Ev.cells 5 w g 0 l.toArray := by
  have hl : n = l.length := by have := h.1; rw [evs_length] at this; omega
  rcases h.2 with ⟨e0, _⟩ | ⟨g, cap, cur, rfl, hb, hg, hn, hm, hs, ht⟩
  · exact absurd e0 hv
  · refine ⟨g, cap, rfl, hb, (Array.getElem?_eq_some_iff.1 hg).1, hl, fun j hj => ?_⟩
    have hj' : j < l.length * 5 := by simpa using hj
    refine ⟨?_, by simp [World.frozen?, hg]⟩
    rw [cell_of_row w g (0 + j) cur 76 (0, 0) hg, Nat.zero_add, ← Array.getElem?_toList]
    have e1 : (cur.toList.take (n * 5))[j]? = (evs l)[j]? := by rw [ht]
    rw [List.getElem?_take, if_pos (by omega)] at e1
    rw [e1, ← flatK_evs, Array.getElem?_toList, getElem!_pos _ j hj, Array.getElem?_eq_getElem hj]; rfl
theorem own_put {w : World} {B n g cap q : Nat} {l m : List Ev} (h : w.ownsRow B 76 5 (.slice (some ⟨g, 0, none⟩) n cap) n (evs l)) (hm : m.length = l.length) (os : Array Obj) :
    OwnE (sortWorldK Ev.cells 5 w g 0 q m.toArray os) B (some ⟨g, 0, none⟩) n cap m := by
  have hl : n = l.length := by have := h.1; rw [evs_length] at this; omega
  rcases h.2 with ⟨e0, _⟩ | ⟨g', cap', cur, e0, hb, hg, hn, hmx, hs, ht⟩
  · cases e0
  · cases e0
    refine ⟨by rw [evs_length]; omega, .inr ⟨g, cap, putCells id 0 (flatK Ev.cells 5 m.toArray) cur, rfl, hb, ?_, hn, hmx, by simpa [putCells] using hs, ?_⟩⟩
    · show (grow (putRowK Ev.cells 5 (Sort.ahead w q) g 0 m.toArray) os).heap[g]? = _
      have hlt := (Array.getElem?_eq_some_iff.1 hg).1
      rw [heap_grow_old _ _ (by simpa [putRowK, putRow, mapBlock, Sort.ahead] using hlt)]
      simp [putRowK, putRow, mapBlock, Sort.ahead, Array.getElem?_modify, hg, onCells]
    · have hfl := flatK_evs m
      apply List.ext_getElem?
      intro j
      rw [List.getElem?_take, Array.getElem?_toList]
      by_cases hj : j < n * 5
      · have hjc : j < cur.size := by have := Nat.mul_le_mul_right 5 hn; omega
        have hjf : j < (flatK Ev.cells 5 m.toArray).size := by simp; omega
        simp only [if_pos hj, putCells, Array.getElem?_mapIdx, Array.getElem?_eq_getElem hjc, Option.map_some]
        rw [if_pos (by simp; omega), ← hfl, Array.getElem?_toList, Array.getElem?_eq_getElem hjf]
        simp only [Nat.sub_zero, id]
        rw [getElem!_pos (flatK Ev.cells 5 m.toArray) j hjf]
      · rw [if_neg hj, List.getElem?_eq_none (by rw [evs_length]; omega)]
theorem below_grow {B : Nat} {w0 w : World} (h : Below B w0 w) (hB : B ≤ w.heap.size) (os : Array Obj) : Below B w0 (grow w os) :=
  ⟨h.os, h.tape, h.output, Nat.le_trans h.size (by simp), fun k hk => by rw [heap_grow_old _ _ (Nat.lt_of_lt_of_le hk hB)]; exact h.block k hk⟩
theorem below_sortW {B : Nat} {w0 w : World} {g q : Nat} {d : Array Ev} {os : Array Obj} (h : Below B w0 w) (hB : B ≤ w.heap.size) (hg : B ≤ g) : Below B w0 (sortWorldK Ev.cells 5 w g 0 q d os) :=
  below_grow (Lib.below_putRow h hg) (by simpa [putRow, mapBlock, Sort.ahead] using hB) os
theorem enters_cmp : ∀ args w, (callFunc 103 args).run Try.prog w = .ok (.enter 103 args) w := enters_of Try.func103 (by kernel_rfl) rfl
theorem cmp_lays (blk off size : Nat) (w : World) : CmpLays Try.prog 103 #[] Ev.cells 5 evCmp blk off size w := fun m os dk _ x y => compare_any x y _
/-- The sort of a part of a row, by insertions. -/
theorem ins_any (blk cap a b : Nat) (d : Array Ev) (w : World) (hH : HoldsK Ev.cells 5 w blk 0 d) (hblk : blk < w.heap.size) (hab : a ≤ b) (hb : b ≤ d.size) (hsz : d.size < 4611686018427387904) :
    Calls Try.prog 148 #[.slice (some ⟨blk, 0, none⟩) d.size cap, .int .i64 a, .int .i64 b, .func (.func 103) #[] #[]] w fun e w' => e = .returned (.tuple #[]) ∧ ∃ n os, w' = sortWorldK Ev.cells 5 w blk 0 n (insertionSort (ltOf evCmp) d a b) os := by
  have h := AnyQ.insertionSortCmpFunc insLays 5 Try.isAgg76 Try.sizeOf76 Ev.cells cells_len cells_one evCmp 103 #[] blk 0 cap a b d w enters_cmp (cmp_lays blk 0 d.size w) hH hblk hab hb hsz
  change Calls Try.prog 148 _ _ _ at h
  exact h
end Go.Proofs.Ytbimfopbilcdgaa

set_option linter.unusedSimpArgs false
set_option linter.unusedVariables false
namespace Go.Proofs.Ytbimfopbilcdgaa
open Go.RowKit Go.Sort

/-- The row as it is behind a sort. -/
def SortW (w : World) (g : Nat) (d : Array Ev) (w' : World) : Prop := ∃ q os, w' = sortWorldK Ev.cells 5 w g 0 q d os
def InsGives (w : World) (g cap a b : Nat) (d d' : Array Ev) : Prop := Calls Try.prog 148 #[.slice (some ⟨g, 0, none⟩) d.size cap, .int .i64 a, .int .i64 b, .func (.func 103) #[] #[]] w fun e w' => e = .returned (.tuple #[]) ∧ SortW w g d' w'
def sortE (l : List Ev) : List Ev := (insertionSort (ltOf evCmp) l.toArray 0 l.length).toList

set_option maxHeartbeats 1000000 in
theorem stable_few (g n cap : Nat) (h20 : n < 20) (d d' : Array Ev) (hn : n = d.size) (w : World) (H : InsGives w g cap 0 n d d') :
    Calls Try.prog 129 #[.slice (some ⟨g, 0, none⟩) n cap, .int .i64 n, .func (.func 103) #[] #[]] w fun e w' => e = .returned (.tuple #[]) ∧ SortW w g d' w' := by
  unfold InsGives at H
  rw [← hn] at H
  have HI := Lib.hid H
  clear H hn
  go_enter Try.func129, Try.ntmps129
  go_wp2
  refine wp_loop_rounds 1 ?_
  rw [rounds_succ]
  go_wp2_with (go_at_call 148; refine HI.out.mono ?_; rintro e w' ⟨rfl, hs⟩; have HS := Lib.hid hs; clear hs)
  refine wp_loop_rounds 1 ?_
  rw [rounds_succ]
  go_wp2
  go_end0
  exact ⟨rfl, HS.out⟩
set_option maxHeartbeats 400000 in
theorem sortStable_few (g n cap : Nat) (h20 : n < 20) (d d' : Array Ev) (hn : n = d.size) (w : World) (H : InsGives w g cap 0 n d d') :
    Calls Try.prog 102 #[.slice (some ⟨g, 0, none⟩) n cap, .func (.func 103) #[] #[]] w fun e w' => e = .returned (.tuple #[]) ∧ SortW w g d' w' := by
  have HI := Lib.hid (stable_few g n cap h20 d d' hn w H)
  clear H hn
  go_enter Try.func102, Try.ntmps102
  go_wp2_with (go_at_call 129; refine HI.out.mono ?_; rintro e w' ⟨rfl, hs⟩; have HS := Lib.hid hs; clear hs)
  go_end0
  exact ⟨rfl, HS.out⟩
def RetE (w : World) (n : Nat) (l : List Ev) (e : Ending) (w' : World) : Prop := ∃ g cap, e = .returned (.slice (some ⟨g, 0, none⟩) n cap) ∧ OwnE w' w.heap.size (some ⟨g, 0, none⟩) n cap l ∧ Below w.heap.size w w'
theorem insOuter_size (lt : Ev → Ev → Bool) (a b : Nat) : ∀ (k i : Nat) (d : Array Ev), b - i ≤ k → (insOuter lt a b i d).size = d.size
  | 0, i, d, h => by unfold insOuter; rw [if_neg (by omega)]
  | k + 1, i, d, h => by
    unfold insOuter
    split
    · rw [insOuter_size lt a b k (i + 1) _ (by omega)]
      have : ∀ (j : Nat) (d : Array Ev), (insInner lt a j d).size = d.size := by
        intro j
        induction j with
        | zero => intro d; rfl
        | succ j ih =>
          intro d
          unfold insInner
          split
          · rw [ih]; exact size_swp ..
          · rfl
      exact this i d
    · rfl
theorem sortE_len (l : List Ev) : (sortE l).length = l.length := by
  unfold sortE insertionSort
  rw [Array.length_toList, insOuter_size _ _ _ l.length _ _ (by omega)]; rfl
set_option maxHeartbeats 1000000 in
theorem sort_few (g off n c : Nat) (l : List Ev) (hn : Hid (n = l.length)) (h20 : n < 20) (w : World) (HA : Hid (EvAt w (some ⟨g, off, none⟩) l)) :
    Calls Try.prog 75 #[.slice (some ⟨g, off, none⟩) n c] w (RetE w n (sortE l)) := by
  have HC := Lib.hid (clone_some g off n c l hn.out (by omega) w HA)
  go_enter Try.func75, Try.ntmps75
  go_upto_region 2 with (go_at_call 101; refine HC.out.mono ?_; rintro e w1 ⟨v', rfl, ho, hv, hb⟩; obtain ⟨g1, cap, rfl, hg1, hg2, hl, hH⟩ := holds_own ho hv; have HO := Lib.hid ho; have HB := Lib.hid hb; have HL := Lib.hid hl; have HHH := Lib.hid hH; clear ho hv hb hl hH)
  have hS := ins_any g1 cap 0 n l.toArray w1 HHH.out hg2 (by omega) (by rw [HL.out]; simp) (by simp; have := HL.out; omega)
  have HS := Lib.hid (sortStable_few g1 n cap h20 l.toArray _ (by rw [HL.out]; simp) w1 hS)
  clear hS
  go_wp2_with (go_at_call 102; refine HS.out.mono ?_; rintro e w2 ⟨rfl, hs⟩; have HR := Lib.hid hs; clear hs)
  go_ret
  obtain ⟨q, os, rfl⟩ := HR.out
  refine ⟨g1, cap, rfl, ?_, below_sortW HB.out (HB.out.size) hg1⟩
  have h := own_put (q := q) HO.out (sortE_len l) os
  have e : (sortE l).toArray = insertionSort (ltOf evCmp) l.toArray 0 n := by unfold sortE; rw [hn.out]
  rw [e] at h
  exact h
end Go.Proofs.Ytbimfopbilcdgaa

set_option linter.unusedSimpArgs false
set_option linter.unusedVariables false
namespace Go.Proofs.Ytbimfopbilcdgaa
open Go.RowKit Go.Sort

def evB : Ev := ⟨0, 0, 1, { data := #[98] }, 0⟩
def evA2 : Ev := ⟨0, 0, 2, { data := #[97] }, 0⟩
def evA1 : Ev := ⟨0, 0, 1, { data := #[97] }, 0⟩
theorem sort_awake : evs (sortE [evB, evA2, evA1]) = evs [evA1, evA2, evB] := by kernel_rfl
theorem own_cell {w : World} {B n cap : Nat} {A : Option Addr} {l : List Ev} (h : OwnE w B A n cap l) (j : Nat) (v : Value) (hj : (evs l)[j]? = some v) (g : Nat) (hA : A = some ⟨g, 0, none⟩) : w.cell? ⟨g, j, none⟩ = some v := by
  subst hA
  have hl : n = l.length := by have := h.1; rw [evs_length] at this; omega
  rcases h.2 with ⟨e0, _⟩ | ⟨g', cap', cur, e0, hb, hg, hn, hm, hs, ht⟩
  · cases e0
  · cases e0
    rw [cell_of_row w g j cur _ (0, 0) hg, ← Array.getElem?_toList]
    have hjl := (List.getElem?_eq_some_iff.1 hj).1
    rw [evs_length] at hjl
    have e1 : (cur.toList.take (n * 5))[j]? = (evs l)[j]? := by rw [ht]
    rw [List.getElem?_take, if_pos (by omega)] at e1
    rw [e1]; exact hj
theorem evAt_new (w : World) (l : List Ev) (cs : Array Value) (hcs : cs.toList = evs l) (t : TypeId) : EvAt (w.alloc (.cells cs t)) (some ⟨w.heap.size, 0, none⟩) l := fun j v hv => by
  refine ⟨w.heap.size, 0, rfl, by simp, ?_⟩
  rw [Nat.zero_add, cell_of_row _ _ _ _ _ _ (heap_new w _), ← Array.getElem?_toList, hcs]; exact hv

end Go.Proofs.Ytbimfopbilcdgaa

set_option linter.unusedSimpArgs false
set_option linter.unusedVariables false
namespace Go.Proofs.Ytbimfopbilcdgaa
open Go.RowKit Go.Sort

theorem Grew.below {w w' : World} (h : Grew w w') : Below w.heap.size w w' := by
  obtain ⟨q, os, rfl⟩ := h
  have h : Below w.heap.size w (w.drewN q) := ⟨rfl, rfl, rfl, Nat.le_refl _, fun _ _ => rfl⟩
  exact below_grow h h.size os
def lessB (x y : Ev) : Bool := decide (evCmp x y < 0)
def formB (x : Ev) (p : Int) : Bool := decide (0 ≤ x.part) && decide (x.part < p) && decide (-1099511627776 ≤ x.time) && decide (x.time ≤ 1099511627776) && decide (x.key.size ≤ 32) && decide (x.off < 1099511627776)
def keqB (x y : Ev) : Bool := x.key.toList == y.key.toList
def sameB (x y : Ev) : Bool := decide ((x.off : Int) = (y.off : Int)) && decide (x.part = y.part) && decide (x.time = y.time) && keqB x y && decide (Fl.canon x.val = Fl.canon y.val)
def boxes2 (w : World) (x y : Ev) : World := (w.alloc (.cells #[.int .u64 (x.off : Int), .int .i64 x.part, .int .i64 x.time, .string x.key, .float .f64 x.val] 76)).alloc (.cells #[.int .u64 (y.off : Int), .int .i64 y.part, .int .i64 y.time, .string y.key, .float .f64 y.val] 76)
theorem boxes2_below (w : World) (x y : Ev) : Below w.heap.size w (boxes2 w x y) := ((Below.refl w.heap.size w).alloc (Nat.le_refl _) _).alloc (by simp) _
def parts4 (a b c d : Bool) (r s : Bool) : Prop := s = (a && b && c && d && r)
theorem cmp_less : ∀ a b : List UInt8, Lib.compareBytes a b = if (a == b) = true then 0 else if Op.bytesLess a b = true then -1 else 1
  | [], [] => rfl
  | [], _ :: _ => rfl
  | _ :: _, [] => rfl
  | a :: la, b :: lb => by
    have ih := cmp_less la lb
    unfold Lib.compareBytes Op.bytesLess
    by_cases h1 : a < b
    · have : a ≠ b := fun e => by rw [e] at h1; exact absurd h1 (UInt8.lt_irrefl _)
      simp [h1, this]
    · by_cases h2 : b < a
      · have : a ≠ b := fun e => by rw [e] at h2; exact absurd h2 (UInt8.lt_irrefl _)
        simp [h1, h2, this]
      · have : a = b := UInt8.le_antisymm (UInt8.not_lt.1 h2) (UInt8.not_lt.1 h1)
        subst this
        simp only [h1, h2, if_false, ih]
        simp
theorem keq_iff (x y : Ev) : keqB x y = (x.key.data.toList == y.key.data.toList) := by
  unfold keqB
  rw [ByteArray.toList_eq, ByteArray.toList_eq]
theorem less_key (x y : Ev) (h : keqB x y = false) : lessB x y = Op.bytesLess x.key.toList y.key.toList := by
  rw [keq_iff] at h
  unfold lessB evCmp cmpK or3
  rw [cmp_less, h, ByteArray.toList_eq, ByteArray.toList_eq]
  cases Op.bytesLess x.key.data.toList y.key.data.toList <;> simp
theorem less_time (x y : Ev) (h : keqB x y = true) (ht : x.time ≠ y.time) : lessB x y = decide (x.time < y.time) := by
  rw [keq_iff] at h
  unfold lessB evCmp cmpK or3
  rw [cmp_less, h, decide_eq_decide]
  unfold cmpI
  by_cases h1 : x.time < y.time
  · simp [h1]
  · have h2 : y.time < x.time := by omega
    simp [h1, h2]
theorem less_off (x y : Ev) (h : keqB x y = true) (ht : x.time = y.time) : lessB x y = decide ((x.off : Int) < (y.off : Int)) := by
  rw [keq_iff] at h
  unfold lessB evCmp cmpK or3
  rw [cmp_less, h, decide_eq_decide]
  unfold cmpI
  rw [ht]
  by_cases h1 : (x.off : Int) < (y.off : Int)
  · simp [h1]
  · by_cases h2 : (y.off : Int) < (x.off : Int)
    · simp [h1, h2]
    · simp [h1, h2]
end Go.Proofs.Ytbimfopbilcdgaa

set_option linter.unusedSimpArgs false
set_option linter.unusedVariables false
namespace Go.Proofs.Ytbimfopbilcdgaa
open Go.RowKit Go.Sort

section
variable {α : Type} (lt : α → α → Bool)
def insR (x : α) : List α → List α
  | [] => [x]
  | e :: r => if lt x e then e :: insR x r else x :: e :: r
def insB (x : α) (s : List α) : List α := (insR lt x s.reverse).reverse
def smerge (s t : List α) : List α := t.foldl (fun s x => insB lt x s) s
def isort (l : List α) : List α := smerge lt [] l
variable {lt}
theorem insR_left (y : α) (T S : List α) (h : ∀ x ∈ T, lt y x = true) : insR lt y (T ++ S) = T ++ insR lt y S := by
  induction T with
  | nil => rfl
  | cons e r ih => rw [List.cons_append, insR, if_pos (h e (by simp)), ih (fun x hx => h x (by simp [hx])), List.cons_append]
theorem insR_right (y : α) (T S : List α) (h : ∀ x ∈ S, lt y x = false) : insR lt y (T ++ S) = insR lt y T ++ S := by
  induction T with
  | nil =>
    rcases S with _ | ⟨e, r⟩
    · rfl
    · show insR lt y (e :: r) = [y] ++ e :: r
      rw [insR, if_neg (by rw [h e (by simp)]; decide)]; rfl
  | cons e r ih =>
    rw [List.cons_append, insR, insR]
    by_cases he : lt y e = true
    · rw [if_pos he, if_pos he, ih]; rfl
    · rw [if_neg he, if_neg he]; rfl
theorem insB_left (y : α) (S T : List α) (h : ∀ x ∈ T, lt y x = true) : insB lt y (S ++ T) = insB lt y S ++ T := by
  unfold insB; rw [List.reverse_append, insR_left y _ _ (fun x hx => h x (by simpa using hx)), List.reverse_append, List.reverse_reverse]
theorem insB_right (y : α) (S T : List α) (h : ∀ x ∈ S, lt y x = false) : insB lt y (S ++ T) = S ++ insB lt y T := by
  unfold insB; rw [List.reverse_append, insR_right y _ _ (fun x hx => h x (by simpa using hx)), List.reverse_append, List.reverse_reverse]
theorem insB_nil (x : α) : insB lt x [] = [x] := rfl
theorem insB_snoc (x e : α) (r : List α) : insB lt x (r ++ [e]) = if lt x e = true then insB lt x r ++ [e] else r ++ [e, x] := by
  unfold insB; rw [List.reverse_append]
  show (insR lt x (e :: r.reverse)).reverse = _
  rw [insR]; split <;> simp
theorem insR_mem (y x : α) (T : List α) : x ∈ insR lt y T ↔ x = y ∨ x ∈ T := by
  induction T with
  | nil => simp [insR]
  | cons e r ih =>
    rw [insR]; split
    · rw [List.mem_cons, ih, List.mem_cons]
      constructor
      · rintro (h | h | h)
        · exact .inr (.inl h)
        · exact .inl h
        · exact .inr (.inr h)
      · rintro (h | h | h)
        · exact .inr (.inl h)
        · exact .inl h
        · exact .inr (.inr h)
    · rw [List.mem_cons]
theorem insR_len (y : α) (T : List α) : (insR lt y T).length = T.length + 1 := by
  induction T with
  | nil => rfl
  | cons e r ih => rw [insR]; split <;> simp [ih]
theorem insB_mem (y x : α) (T : List α) : x ∈ insB lt y T ↔ x = y ∨ x ∈ T := by unfold insB; rw [List.mem_reverse, insR_mem, List.mem_reverse]
theorem insB_len (y : α) (T : List α) : (insB lt y T).length = T.length + 1 := by unfold insB; rw [List.length_reverse, insR_len, List.length_reverse]
theorem sm_cons (S : List α) (y : α) (R : List α) : smerge lt S (y :: R) = smerge lt (insB lt y S) R := rfl
theorem sm_nil_r (S : List α) : smerge lt S [] = S := rfl
theorem sm_append (S R1 R2 : List α) : smerge lt S (R1 ++ R2) = smerge lt (smerge lt S R1) R2 := by unfold smerge; rw [List.foldl_append]
theorem sm_mem (x : α) (S R : List α) : x ∈ smerge lt S R ↔ x ∈ S ∨ x ∈ R := by
  induction R generalizing S with
  | nil => simp [smerge]
  | cons y r ih => rw [sm_cons, ih, insB_mem, List.mem_cons]; constructor <;> (rintro h; grind)
theorem sm_len (S R : List α) : (smerge lt S R).length = S.length + R.length := by
  induction R generalizing S with
  | nil => simp [smerge]
  | cons y r ih => rw [sm_cons, ih, insB_len, List.length_cons]; omega
theorem sm_left (S T R : List α) (h : ∀ y ∈ R, ∀ x ∈ T, lt y x = true) : smerge lt (S ++ T) R = smerge lt S R ++ T := by
  induction R generalizing S with
  | nil => rfl
  | cons y r ih => rw [sm_cons, insB_left y S T (h y (by simp)), ih _ (fun z hz => h z (by simp [hz])), sm_cons]
theorem sm_right (S T R : List α) (h : ∀ y ∈ R, ∀ x ∈ S, lt y x = false) : smerge lt (S ++ T) R = S ++ smerge lt T R := by
  induction R generalizing T with
  | nil => rfl
  | cons y r ih => rw [sm_cons, insB_right y S T (h y (by simp)), ih _ (fun z hz => h z (by simp [hz])), sm_cons]
theorem sm_split (L1 L2 R1 R2 : List α) (hA : ∀ y ∈ R1, ∀ x ∈ L2, lt y x = true) (hB : ∀ y ∈ R2, ∀ x ∈ L1, lt y x = false) (hC : ∀ y ∈ R2, ∀ x ∈ R1, lt y x = false) : smerge lt (L1 ++ L2) (R1 ++ R2) = smerge lt L1 R1 ++ smerge lt L2 R2 := by
  rw [sm_append, sm_left L1 L2 R1 hA, sm_right _ _ _ (fun y hy x hx => ?_)]
  rcases (sm_mem x L1 R1).1 hx with h | h
  · exact hB y hy x h
  · exact hC y hy x h
/-- Each one is not less than those before it. -/
def Ordered (lt : α → α → Bool) (l : List α) : Prop := l.Pairwise fun x y => lt y x = false
theorem sm_nil (R : List α) (h : Ordered lt R) : smerge lt [] R = R := by
  induction R with
  | nil => rfl
  | cons y r ih =>
    rw [Ordered, List.pairwise_cons] at h
    rw [sm_cons, insB_nil, show [y] = [y] ++ [] from rfl, sm_right [y] [] r (fun z hz x hx => by simp at hx; subst hx; exact h.1 z hz), ih h.2]; rfl
/-- What an order has to be. -/
structure Wk (lt : α → α → Bool) : Prop where
  tr : ∀ x y z, lt x y = true → lt y z = true → lt x z = true
  asy : ∀ x y, lt x y = true → lt y x = false
  nt : ∀ x y z, lt x y = false → lt y z = false → lt x z = false
theorem Wk.mix (h : Wk lt) {x y z : α} (h1 : lt x y = true) (h2 : lt z y = false) : lt x z = true := by
  rcases hx : lt x z with _ | _
  · have := h.nt x z y hx h2; rw [h1] at this; cases this
  · rfl
theorem Wk.mix2 (h : Wk lt) {x y z : α} (h1 : lt y x = false) (h2 : lt y z = true) : lt x z = true := by
  rcases hx : lt x z with _ | _
  · have := h.nt y x z h1 hx; rw [h2] at this; cases this
  · rfl
theorem insR_comm (W : Wk lt) (y t : α) (U : List α) (h : lt y t = true) : insR lt y (insR lt t U) = insR lt t (insR lt y U) := by
  induction U with
  | nil =>
    show insR lt y [t] = insR lt t [y]
    rw [insR, if_pos h, insR, insR, if_neg (by rw [W.asy _ _ h]; decide)]
  | cons e r ih =>
    by_cases h1 : lt t e = true
    · have h2 : lt y e = true := W.tr _ _ _ h h1
      have e1 : insR lt t (e :: r) = e :: insR lt t r := by rw [insR, if_pos h1]
      have e2 : insR lt y (e :: r) = e :: insR lt y r := by rw [insR, if_pos h2]
      rw [e1, e2, insR, if_pos h2, insR, if_pos h1, ih]
    · have e1 : insR lt t (e :: r) = t :: e :: r := by rw [insR, if_neg h1]
      rw [e1, insR, if_pos h]
      by_cases h2 : lt y e = true
      · have e2 : insR lt y (e :: r) = e :: insR lt y r := by rw [insR, if_pos h2]
        rw [e2, insR, if_neg h1]
      · have e2 : insR lt y (e :: r) = y :: e :: r := by rw [insR, if_neg h2]
        rw [e2, insR, if_neg (by rw [W.asy _ _ h]; decide)]
theorem insB_comm (W : Wk lt) (y t : α) (U : List α) (h : lt y t = true) : insB lt y (insB lt t U) = insB lt t (insB lt y U) := by
  unfold insB; rw [List.reverse_reverse, List.reverse_reverse, insR_comm W y t _ h]
theorem snoc_cases (l : List α) : l = [] ∨ ∃ r e, l = r ++ [e] := by
  rcases h : l.reverse with _ | ⟨e, r⟩
  · left; simpa using h
  · right; exact ⟨r.reverse, e, by have := congrArg List.reverse h; simpa using this⟩
theorem insB_sm (W : Wk lt) (y : α) (S : List α) : ∀ (n : Nat) (T : List α), T.length = n → insB lt y (smerge lt S T) = smerge lt S (insB lt y T) := by
  intro n
  induction n with
  | zero => intro T hT; obtain rfl : T = [] := List.eq_nil_of_length_eq_zero hT; rfl
  | succ n ih =>
    intro T hT
    rcases snoc_cases T with rfl | ⟨r, e, rfl⟩
    · simp at hT
    · have hr : r.length = n := by simpa using hT
      rw [insB_snoc, sm_append]
      show insB lt y (insB lt e (smerge lt S r)) = _
      by_cases h : lt y e = true
      · rw [if_pos h, insB_comm W y e _ h, ih r hr, sm_append]; rfl
      · rw [if_neg h, show r ++ [e, y] = (r ++ [e]) ++ [y] by simp, sm_append, sm_append]; rfl
theorem sm_isort (W : Wk lt) (S : List α) : ∀ (n : Nat) (B : List α), B.length = n → smerge lt S B = smerge lt S (isort lt B) := by
  intro n
  induction n with
  | zero => intro B hB; obtain rfl : B = [] := List.eq_nil_of_length_eq_zero hB; rfl
  | succ n ih =>
    intro B hB
    rcases snoc_cases B with rfl | ⟨r, e, rfl⟩
    · simp at hB
    · have hr : r.length = n := by simpa using hB
      have e1 : isort lt (r ++ [e]) = insB lt e (isort lt r) := by unfold isort; rw [sm_append]; rfl
      rw [e1, ← insB_sm W e S _ _ rfl, ← ih r hr, sm_append]; rfl
theorem isort_append (W : Wk lt) (A B : List α) : isort lt (A ++ B) = smerge lt (isort lt A) (isort lt B) := by
  unfold isort; rw [sm_append]; exact sm_isort W _ _ B rfl
theorem insR_ordered (W : Wk lt) (y : α) (U : List α) (h : U.Pairwise fun x z => lt x z = false) : (insR lt y U).Pairwise fun x z => lt x z = false := by
  induction U with
  | nil => exact List.pairwise_singleton _ _
  | cons e r ih =>
    rw [List.pairwise_cons] at h
    rw [insR]; split
    · rename_i h1
      rw [List.pairwise_cons]
      refine ⟨fun z hz => ?_, ih h.2⟩
      rcases (insR_mem y z r).1 hz with rfl | hz
      · exact W.asy _ _ h1
      · exact h.1 z hz
    · rename_i h1
      have h1' : lt y e = false := by simpa using h1
      rw [List.pairwise_cons, List.pairwise_cons]
      refine ⟨fun z hz => ?_, h⟩
      rcases List.mem_cons.1 hz with rfl | hz
      · exact h1'
      · exact W.nt _ _ _ h1' (h.1 z hz)
theorem insB_ordered (W : Wk lt) (y : α) (U : List α) (h : Ordered lt U) : Ordered lt (insB lt y U) := by
  unfold Ordered insB
  rw [List.pairwise_reverse]
  exact insR_ordered W y _ (by rw [List.pairwise_reverse]; exact h)
theorem sm_ordered (W : Wk lt) (S R : List α) (h : Ordered lt S) : Ordered lt (smerge lt S R) := by
  induction R generalizing S with
  | nil => exact h
  | cons y r ih => rw [sm_cons]; exact ih _ (insB_ordered W y S h)
theorem isort_ordered (W : Wk lt) (l : List α) : Ordered lt (isort lt l) := sm_ordered W [] l List.Pairwise.nil
theorem isort_len (l : List α) : (isort lt l).length = l.length := by unfold isort; rw [sm_len]; simp
/-- A stretch of a list. -/
def seg (l : List α) (a b : Nat) : List α := (l.drop a).take (b - a)
theorem seg_len (l : List α) (a b : Nat) (h : b ≤ l.length) : (seg l a b).length = b - a := by unfold seg; rw [List.length_take, List.length_drop]; omega
theorem seg_join (l : List α) (a m b : Nat) (h1 : a ≤ m) (h2 : m ≤ b) : seg l a m ++ seg l m b = seg l a b := by
  unfold seg
  have e : (l.drop a).take (b - a) = (l.drop a).take (m - a) ++ ((l.drop a).drop (m - a)).take (b - m) := by
    rw [← List.take_add, show m - a + (b - m) = b - a by omega]
  rw [e, List.drop_drop, show a + (m - a) = m by omega]
theorem cut3 (l : List α) (a b : Nat) (h : a ≤ b) : l = l.take a ++ (seg l a b ++ l.drop b) := by
  unfold seg
  have e : l.drop a = (l.drop a).take (b - a) ++ (l.drop a).drop (b - a) := (List.take_append_drop _ _).symm
  rw [List.drop_drop, show a + (b - a) = b by omega] at e
  rw [← e, List.take_append_drop]
theorem seg_of (P L Q : List α) (a b : Nat) (ha : P.length = a) (hb : P.length + L.length = b) : seg (P ++ (L ++ Q)) a b = L := by
  unfold seg; rw [List.drop_left' ha, List.take_left' (by omega)]
theorem take_of (P L : List α) (a : Nat) (ha : P.length = a) : (P ++ L).take a = P := List.take_left' ha
theorem drop_of (P L Q : List α) (b : Nat) (hb : P.length + L.length = b) : (P ++ (L ++ Q)).drop b = Q := by
  rw [← List.append_assoc]; exact List.drop_left' (by rw [List.length_append]; exact hb)
/-- A stretch sorted; two stretches made one. -/
def mrg (lt : α → α → Bool) (l : List α) (a m b : Nat) : List α := l.take a ++ (smerge lt (seg l a m) (seg l m b) ++ l.drop b)
def srt (lt : α → α → Bool) (l : List α) (a b : Nat) : List α := l.take a ++ (isort lt (seg l a b) ++ l.drop b)
theorem mrg_len (l : List α) (a m b : Nat) (h1 : a ≤ m) (h2 : m ≤ b) (h3 : b ≤ l.length) : (mrg lt l a m b).length = l.length := by
  unfold mrg; rw [List.length_append, List.length_append, sm_len, seg_len _ _ _ (by omega), seg_len _ _ _ h3, List.length_take, List.length_drop]; omega
theorem srt_len (l : List α) (a b : Nat) (h1 : a ≤ b) (h3 : b ≤ l.length) : (srt lt l a b).length = l.length := by
  unfold srt; rw [List.length_append, List.length_append, isort_len, seg_len _ _ _ h3, List.length_take, List.length_drop]; omega
variable [Inhabited α]
theorem seg_mem (l : List α) (a b : Nat) (h : b ≤ l.length) (x : α) (hx : x ∈ seg l a b) : ∃ i, a ≤ i ∧ i < b ∧ l[i]! = x := by
  obtain ⟨i, hi, e⟩ := List.mem_iff_getElem.1 hx
  rw [seg_len _ _ _ h] at hi
  refine ⟨a + i, by omega, by omega, ?_⟩
  rw [getElem!_pos l (a + i) (by omega), ← e]
  simp [seg]
theorem seg_get (l : List α) (a b i : Nat) (h : b ≤ l.length) (hi : i < b - a) : (seg l a b)[i]! = l[a + i]! := by
  rw [getElem!_pos (seg l a b) i (by rw [seg_len _ _ _ h]; exact hi), getElem!_pos l (a + i) (by omega)]
  simp [seg]
theorem ordered_get {l : List α} (h : Ordered lt l) (i j : Nat) (hij : i < j) (hj : j < l.length) : lt l[j]! l[i]! = false := by
  have h1 := List.pairwise_iff_getElem.1 h i j (by omega) hj hij
  rw [getElem!_pos l i (by omega), getElem!_pos l j hj]; exact h1
theorem ordered_seg {l : List α} {a b : Nat} (h : Ordered lt (seg l a b)) (hb : b ≤ l.length) (i j : Nat) (ha : a ≤ i) (hij : i < j) (hj : j < b) : lt l[j]! l[i]! = false := by
  have h1 := ordered_get h (i - a) (j - a) (by omega) (by rw [seg_len _ _ _ hb]; omega)
  rw [seg_get _ _ _ _ hb (by omega), seg_get _ _ _ _ hb (by omega), show a + (j - a) = j by omega, show a + (i - a) = i by omega] at h1
  exact h1
end
end Go.Proofs.Ytbimfopbilcdgaa

set_option linter.unusedSimpArgs false
set_option linter.unusedVariables false
namespace Go.Proofs.Ytbimfopbilcdgaa
open Go.RowKit Go.Sort

theorem kb_self : ∀ a : List UInt8, Lib.compareBytes a a = 0
  | [] => rfl
  | x :: r => by unfold Lib.compareBytes; simp [UInt8.lt_irrefl, kb_self r]
theorem kb_neg : ∀ a b : List UInt8, Lib.compareBytes b a = - Lib.compareBytes a b
  | [], [] => rfl
  | [], _ :: _ => rfl
  | _ :: _, [] => rfl
  | x :: r, y :: s => by
    unfold Lib.compareBytes
    by_cases h1 : x < y
    · have h2 : ¬ y < x := fun h => by rw [UInt8.lt_iff_toNat_lt] at *; omega
      simp [h1, h2]
    · by_cases h2 : y < x
      · simp [h1, h2]
      · simp [h1, h2, kb_neg r s]
theorem kb_eq : ∀ a b : List UInt8, Lib.compareBytes a b = 0 → a = b
  | [], [], _ => rfl
  | [], _ :: _, h => by simp [Lib.compareBytes] at h
  | _ :: _, [], h => by simp [Lib.compareBytes] at h
  | x :: r, y :: s, h => by
    unfold Lib.compareBytes at h
    by_cases h1 : x < y
    · simp [h1] at h
    · by_cases h2 : y < x
      · simp [h1, h2] at h
      · simp [h1, h2] at h
        have e : x = y := by
          apply UInt8.toNat_inj.1
          rw [UInt8.lt_iff_toNat_lt] at h1 h2; omega
        rw [e, kb_eq r s h]
theorem kb_trans : ∀ a b c : List UInt8, Lib.compareBytes a b < 0 → Lib.compareBytes b c < 0 → Lib.compareBytes a c < 0
  | [], [], _, h, _ => by simp [Lib.compareBytes] at h
  | _ :: _, [], _, h, _ => by simp [Lib.compareBytes] at h
  | _, _ :: _, [], _, h => by simp [Lib.compareBytes] at h
  | [], _ :: _, _ :: _, _, _ => by simp [Lib.compareBytes]
  | x :: r, y :: s, z :: t, h1, h2 => by
    unfold Lib.compareBytes at h1 h2 ⊢
    have ih := kb_trans r s t
    simp only [UInt8.lt_iff_toNat_lt] at *
    by_cases a1 : x.toNat < y.toNat
    · by_cases a2 : y.toNat < z.toNat
      · simp [show x.toNat < z.toNat by omega]
      · by_cases a3 : z.toNat < y.toNat
        · simp [a2, a3] at h2
        · simp [show x.toNat < z.toNat by omega]
    · by_cases b1 : y.toNat < x.toNat
      · simp [a1, b1] at h1
      · simp only [a1, b1, if_false] at h1
        by_cases a2 : y.toNat < z.toNat
        · simp [show x.toNat < z.toNat by omega]
        · by_cases a3 : z.toNat < y.toNat
          · simp [a2, a3] at h2
          · simp only [a2, a3, if_false] at h2
            simp only [show ¬ x.toNat < z.toNat by omega, show ¬ z.toNat < x.toNat by omega, if_false]
            exact ih h1 h2
theorem ek_neg (a b : ByteArray) : cmpK b a = - cmpK a b := kb_neg _ _
theorem ek_eq {a b : ByteArray} (h : cmpK a b = 0) : a = b := by
  have := kb_eq _ _ h
  have h2 : a.data = b.data := by rw [← Array.toList_inj]; exact this
  cases a; cases b; simp at h2; rw [h2]
theorem ek_self (a : ByteArray) : cmpK a a = 0 := kb_self _
/-- Less, said by the parts. -/
def Lss (x y : Ev) : Prop := cmpK x.key y.key < 0 ∨ (x.key = y.key ∧ (x.time < y.time ∨ (x.time = y.time ∧ x.off < y.off)))
theorem lss_iff (x y : Ev) : evCmp x y < 0 ↔ Lss x y := by
  unfold evCmp or3 Lss
  by_cases h1 : cmpK x.key y.key = 0
  · have hk := ek_eq h1
    have hs := ek_self y.key
    rw [if_neg (by omega)]
    unfold cmpI
    by_cases h2 : x.time < y.time
    · simp [h1, hk, hs, h2]
    · by_cases h3 : y.time < x.time
      · simp [h1, hk, hs, h2, h3]; omega
      · have ht : x.time = y.time := by omega
        simp [h1, hk, hs, ht]
        by_cases h4 : x.off < y.off
        · simp [h4]
        · by_cases h5 : y.off < x.off <;> simp [h4, h5]
  · rw [if_pos h1]
    constructor
    · intro h; exact .inl h
    · rintro (h | ⟨h, -⟩)
      · exact h
      · rw [h, ek_self] at h1; exact absurd rfl h1
theorem lt_iff (x y : Ev) : ltOf evCmp x y = true ↔ Lss x y := by unfold ltOf; rw [decide_eq_true_eq, lss_iff]
theorem lt_no (x y : Ev) : ltOf evCmp x y = false ↔ ¬ Lss x y := by rw [← lt_iff]; simp
theorem wkE : Wk (ltOf evCmp) := by
  refine ⟨fun x y z h1 h2 => ?_, fun x y h => ?_, fun x y z h1 h2 => ?_⟩
  · rw [lt_iff] at *
    rcases h1 with h1 | ⟨e1, h1⟩ <;> rcases h2 with h2 | ⟨e2, h2⟩
    · exact .inl (kb_trans _ _ _ h1 h2)
    · exact .inl (by rw [← e2]; exact h1)
    · exact .inl (by rw [e1]; exact h2)
    · exact .inr ⟨e1.trans e2, by omega⟩
  · rw [lt_iff] at h; rw [lt_no]
    rintro h2
    rcases h with h | ⟨e, h⟩ <;> rcases h2 with h2 | ⟨e2, h2⟩
    · rw [ek_neg] at h2; omega
    · rw [e2, ek_self] at h; omega
    · rw [e, ek_self] at h2; omega
    · omega
  · rw [lt_no] at *
    rintro h
    have key : ∀ a b : Ev, ¬ Lss a b → cmpK b.key a.key < 0 ∨ (a.key = b.key ∧ (b.time < a.time ∨ (b.time = a.time ∧ b.off ≤ a.off))) := fun a b hn => by
      unfold Lss at hn
      by_cases hk : cmpK a.key b.key = 0
      · right; have := ek_eq hk; refine ⟨this, ?_⟩
        have h3 : ¬ (a.time < b.time ∨ (a.time = b.time ∧ a.off < b.off)) := fun h => hn (.inr ⟨this, h⟩)
        omega
      · left; rw [ek_neg]
        have h3 : ¬ cmpK a.key b.key < 0 := fun h => hn (.inl h)
        omega
    have k1 := key x y h1
    have k2 := key y z h2
    rcases k1 with k1 | ⟨e1, k1⟩ <;> rcases k2 with k2 | ⟨e2, k2⟩ <;> rcases h with h | ⟨e, h⟩
    · have h3 := kb_trans _ _ _ k2 k1; have h4 : cmpK x.key z.key < 0 := h; rw [ek_neg] at h4; have h5 : cmpK z.key x.key < 0 := h3; omega
    · have h3 : cmpK z.key x.key < 0 := kb_trans _ _ _ k2 k1; rw [e, ek_self] at h3; omega
    · rw [e2] at k1; rw [ek_neg] at h; omega
    · rw [e2, ← e, ek_self] at k1; omega
    · rw [← e1] at k2; rw [ek_neg] at h; omega
    · rw [← e1, e, ek_self] at k2; omega
    · rw [e1, e2, ek_self] at h; omega
    · omega
theorem ext_get! {l m : List Ev} (h : l.length = m.length) (hg : ∀ i, i < l.length → l[i]! = m[i]!) : l = m := by
  apply List.ext_getElem h
  intro i h1 h2
  have := hg i h1
  rwa [getElem!_pos l i h1, getElem!_pos m i h2] at this
theorem ta_get (l : List Ev) (i : Nat) : l.toArray[i]! = l[i]! := by simp
/-- Two are exchanged. -/
def lswp (l : List Ev) (i j : Nat) : List Ev := (swp l.toArray i j).toList
theorem lswp_arr (l : List Ev) (i j : Nat) : swp l.toArray i j = (lswp l i j).toArray := by unfold lswp; simp
theorem lswp_len (l : List Ev) (i j : Nat) : (lswp l i j).length = l.length := by unfold lswp; rw [Array.length_toList, swp_size]; simp
theorem lswp_get (l : List Ev) {i j : Nat} (hi : i < l.length) (hj : j < l.length) (k : Nat) : (lswp l i j)[k]! = if k = j then l[i]! else if k = i then l[j]! else l[k]! := by
  have h := swp_get l.toArray (i := i) (j := j) (by simpa using hi) (by simpa using hj) k
  rw [lswp_arr, ta_get, ta_get, ta_get, ta_get] at h; exact h
theorem get!_left (l m : List Ev) (i : Nat) (h : i < l.length) : (l ++ m)[i]! = l[i]! := by
  rw [getElem!_pos (l ++ m) i (by rw [List.length_append]; omega), getElem!_pos l i h, List.getElem_append_left h]
theorem get!_right (l m : List Ev) (i : Nat) (h1 : l.length ≤ i) (h2 : i < l.length + m.length) : (l ++ m)[i]! = m[i - l.length]! := by
  rw [getElem!_pos (l ++ m) i (by rw [List.length_append]; omega), getElem!_pos m (i - l.length) (by omega), List.getElem_append_right h1]
/-- Neighbours are exchanged. -/
theorem lswp_adj (P Q : List Ev) (x y : Ev) : lswp (P ++ x :: y :: Q) (P.length + 1) P.length = P ++ y :: x :: Q ∧ lswp (P ++ x :: y :: Q) P.length (P.length + 1) = P ++ y :: x :: Q := by
  have hl : (P ++ x :: y :: Q).length = P.length + 2 + Q.length := by simp; omega
  have hx : (P ++ x :: y :: Q)[P.length]! = x := by rw [get!_right _ _ _ (Nat.le_refl _) (by simp), Nat.sub_self]; rfl
  have hy : (P ++ x :: y :: Q)[P.length + 1]! = y := by rw [get!_right _ _ _ (by omega) (by simp), show P.length + 1 - P.length = 1 by omega]; rfl
  have goal : ∀ k, k < (P ++ x :: y :: Q).length → (P ++ y :: x :: Q)[k]! = if k = P.length then y else if k = P.length + 1 then x else (P ++ x :: y :: Q)[k]! := fun k hk => by
    rcases Nat.lt_trichotomy k P.length with h | h | h
    · rw [if_neg (by omega), if_neg (by omega), get!_left _ _ _ h, get!_left _ _ _ h]
    · subst h; rw [if_pos rfl, get!_right _ _ _ (Nat.le_refl _) (by simp), Nat.sub_self]; rfl
    · rw [if_neg (by omega), get!_right P (y :: x :: Q) _ (by omega) (by simp at hk ⊢; omega), get!_right P (x :: y :: Q) _ (by omega) (by simp at hk ⊢; omega)]
      rcases h2 : k - P.length with _ | _ | n
      · omega
      · rw [if_pos (by omega)]; rfl
      · rw [if_neg (by omega)]; rfl
  constructor
  · refine ext_get! (by rw [lswp_len]; simp) fun k hk => ?_
    rw [lswp_len] at hk
    rw [lswp_get _ (by omega) (by omega), hx, hy, goal k hk]
  · refine ext_get! (by rw [lswp_len]; simp) fun k hk => ?_
    rw [lswp_len] at hk
    rw [lswp_get _ (by omega) (by omega), hx, hy, goal k hk]
    by_cases h1 : k = P.length
    · rw [if_neg (by omega), if_pos h1, if_pos h1]
    · rw [if_neg h1, if_neg h1]
/-- The library's sort by insertions, as lists. -/
theorem inner_list (P : List Ev) (x : Ev) : ∀ (n : Nat) (s Q : List Ev), s.length = n → insInner (ltOf evCmp) P.length (P.length + n) (P ++ (s ++ x :: Q)).toArray = (P ++ (insB (ltOf evCmp) x s ++ Q)).toArray := by
  intro n
  induction n with
  | zero =>
    intro s Q hs
    obtain rfl : s = [] := List.eq_nil_of_length_eq_zero hs
    rw [insInner_stop _ _ _ _ (.inl (by omega)), insB_nil]; rfl
  | succ n ih =>
    intro s Q hs
    rcases snoc_cases s with rfl | ⟨r, e, rfl⟩
    · simp at hs
    · have hr : r.length = n := by simpa using hs
      have e1 : P ++ (r ++ [e] ++ x :: Q) = (P ++ r) ++ e :: x :: Q := by simp
      have hj : (P ++ r).length = P.length + n := by simp [hr]
      have hx : ((P ++ r) ++ e :: x :: Q)[P.length + (n + 1)]! = x := by rw [get!_right _ _ _ (by omega) (by simp; omega), show P.length + (n + 1) - (P ++ r).length = 1 by omega]; rfl
      have he : ((P ++ r) ++ e :: x :: Q)[P.length + n]! = e := by rw [get!_right _ _ _ (by omega) (by simp; omega), show P.length + n - (P ++ r).length = 0 by omega]; rfl
      rw [e1, insB_snoc]
      by_cases h : ltOf evCmp x e = true
      · rw [if_pos h, insInner_go _ _ _ _ (by omega) (by rw [ta_get, ta_get, hx, show P.length + (n + 1) - 1 = P.length + n by omega, he]; exact h), show P.length + (n + 1) - 1 = P.length + n by omega, lswp_arr]
        have h2 := (lswp_adj (P ++ r) Q e x).1
        rw [hj] at h2
        rw [show P.length + (n + 1) = P.length + n + 1 by omega, h2, show P ++ r ++ x :: e :: Q = P ++ (r ++ x :: (e :: Q)) by simp, ih r (e :: Q) hr]
        simp
      · rw [if_neg h, insInner_stop _ _ _ _ (.inr (by rw [ta_get, ta_get, hx, show P.length + (n + 1) - 1 = P.length + n by omega, he]; simpa using h))]
        try simp
theorem outer_list (P Q : List Ev) : ∀ (n : Nat) (s t : List Ev), t.length = n → insOuter (ltOf evCmp) P.length (P.length + s.length + n) (P.length + s.length) (P ++ (s ++ (t ++ Q))).toArray = (P ++ (smerge (ltOf evCmp) s t ++ Q)).toArray := by
  intro n
  induction n with
  | zero =>
    intro s t ht
    obtain rfl : t = [] := List.eq_nil_of_length_eq_zero ht
    rw [insOuter_stop _ _ _ _ _ (by omega)]; rfl
  | succ n ih =>
    intro s t ht
    rcases t with _ | ⟨x, r⟩
    · simp at ht
    · have hr : r.length = n := by simpa using ht
      rw [insOuter_go _ _ _ _ _ (by omega), show s ++ (x :: r ++ Q) = s ++ x :: (r ++ Q) by simp, inner_list P x s.length s (r ++ Q) rfl, sm_cons, ← ih (insB (ltOf evCmp) x s) r hr, insB_len]
      rw [show P.length + s.length + (n + 1) = P.length + (s.length + 1) + n by omega, show P.length + s.length + 1 = P.length + (s.length + 1) by omega]
theorem ins_srt (l : List Ev) (a b : Nat) (hab : a ≤ b) (hb : b ≤ l.length) : insertionSort (ltOf evCmp) l.toArray a b = (srt (ltOf evCmp) l a b).toArray := by
  have hP : (l.take a).length = a := by rw [List.length_take]; omega
  have hc := cut3 l a b hab
  have hsl := seg_len l a b hb
  unfold srt isort insertionSort
  conv => lhs; rw [hc]
  rcases hs : seg l a b with _ | ⟨x, r⟩
  · rw [hs] at hsl; simp at hsl
    rw [insOuter_stop _ _ _ _ _ (by omega)]; rfl
  · rw [hs] at hsl
    have h := outer_list (l.take a) (l.drop b) r.length [x] r rfl
    rw [hP] at h
    rw [show a + [x].length + r.length = b by simp at hsl ⊢; omega] at h
    rw [sm_cons, insB_nil]
    exact h
end Go.Proofs.Ytbimfopbilcdgaa

set_option linter.unusedSimpArgs false
set_option linter.unusedVariables false
set_option maxRecDepth 8000
namespace Go.Proofs.Ytbimfopbilcdgaa
open Go.RowKit Go.Sort

/-- A key's window. -/
structure ZP where
  key : ByteArray
  s : Int
  e : Int
/-- A group: a key's window, and its values' bits. -/
structure Grp where
  p : ZP
  vs : List Nat
instance : Inhabited Grp := ⟨⟨⟨ByteArray.empty, 0, 0⟩, []⟩⟩
def zCmp (x y : ZP) : Int := or3 (cmpK x.key y.key) (cmpI x.s y.s) (cmpI x.e y.e)
def ZL (x y : ZP) : Prop := cmpK x.key y.key < 0 ∨ (x.key = y.key ∧ (x.s < y.s ∨ (x.s = y.s ∧ x.e < y.e)))
theorem zl_iff (x y : ZP) : zCmp x y < 0 ↔ ZL x y := by
  unfold zCmp or3 ZL
  by_cases h1 : cmpK x.key y.key = 0
  · have hk := ek_eq h1
    have hs := ek_self y.key
    rw [if_neg (by omega)]
    unfold cmpI
    by_cases h2 : x.s < y.s
    · simp [h1, hk, hs, h2]
    · by_cases h3 : y.s < x.s
      · simp [h1, hk, hs, h2, h3]; omega
      · have ht : x.s = y.s := by omega
        simp [h1, hk, hs, ht]
        by_cases h4 : x.e < y.e
        · simp [h4]
        · by_cases h5 : y.e < x.e <;> simp [h4, h5]
  · rw [if_pos h1]
    constructor
    · intro h; exact .inl h
    · rintro (h | ⟨h, -⟩)
      · exact h
      · rw [h, ek_self] at h1; exact absurd rfl h1
theorem zI_neg (a b : Int) : cmpI b a = - cmpI a b := by
  unfold cmpI
  by_cases h1 : a < b
  · rw [if_neg (by omega), if_pos h1, if_pos h1]; rfl
  · by_cases h2 : b < a
    · rw [if_pos h2, if_neg h1, if_pos h2]
    · rw [if_neg h2, if_neg h1, if_neg h1, if_neg h2]; rfl
theorem zI_zero (a b : Int) : cmpI a b = 0 ↔ a = b := by
  unfold cmpI
  by_cases h1 : a < b
  · rw [if_pos h1]; constructor <;> (intro h; omega)
  · by_cases h2 : b < a
    · rw [if_neg h1, if_pos h2]; constructor <;> (intro h; omega)
    · rw [if_neg h1, if_neg h2]; constructor <;> (intro h; omega)
theorem or3_neg (a b c : Int) : or3 (-a) (-b) (-c) = - or3 a b c := by
  unfold or3
  by_cases h : a = 0
  · by_cases h2 : b = 0 <;> simp [h, h2]
  · rw [if_pos (by omega), if_pos h]
theorem or3_zero (a b c : Int) : or3 a b c = 0 ↔ a = 0 ∧ b = 0 ∧ c = 0 := by
  unfold or3
  by_cases h : a = 0
  · by_cases h2 : b = 0 <;> simp [h, h2]
  · rw [if_pos h]; constructor <;> (intro h3; omega)
theorem z_neg (x y : ZP) : zCmp y x = - zCmp x y := by
  unfold zCmp
  rw [ek_neg x.key y.key, zI_neg x.s y.s, zI_neg x.e y.e, or3_neg]
theorem z_zero (x y : ZP) : zCmp x y = 0 ↔ x = y := by
  unfold zCmp
  rw [or3_zero, zI_zero, zI_zero]
  constructor
  · rintro ⟨h1, h2, h3⟩
    have h1 := ek_eq h1
    cases x; cases y; simp_all
  · rintro rfl; exact ⟨ek_self _, rfl, rfl⟩
theorem z_pos (x y : ZP) : 0 < zCmp x y ↔ ZL y x := by rw [← zl_iff, z_neg x y]; omega
theorem zl_irr (x : ZP) : ¬ ZL x x := by
  rintro (h | ⟨-, h⟩)
  · rw [ek_self] at h; omega
  · omega
theorem ZL.tr {x y z : ZP} (h1 : ZL x y) (h2 : ZL y z) : ZL x z := by
  rcases h1 with h1 | ⟨e1, h1⟩ <;> rcases h2 with h2 | ⟨e2, h2⟩
  · exact .inl (kb_trans _ _ _ h1 h2)
  · exact .inl (by rw [← e2]; exact h1)
  · exact .inl (by rw [e1]; exact h2)
  · exact .inr ⟨e1.trans e2, by omega⟩
theorem ZL.asy {x y : ZP} (h : ZL x y) : ¬ ZL y x := fun h' => zl_irr _ (h.tr h')
theorem ZL.tri (x y : ZP) : ZL x y ∨ x = y ∨ ZL y x := by
  rw [← zl_iff, ← zl_iff, ← z_zero, z_neg x y]; omega
theorem z_range (x y : ZP) : zCmp x y < 0 ∨ zCmp x y = 0 ∨ 0 < zCmp x y := by omega
/-- Keys held against one another. -/
def keyZ (a b : ByteArray) : Bool := a.toList == b.toList
theorem keyZ_iff (a b : ByteArray) : keyZ a b = true ↔ a = b := by
  unfold keyZ
  rw [beq_iff_eq, ByteArray.toList_eq, ByteArray.toList_eq]
  constructor
  · intro h
    cases a; cases b
    congr
    exact Array.toList_inj.1 h
  · rintro rfl; rfl
theorem keyZ_no {a b : ByteArray} (h : a ≠ b) : keyZ a b = false := by
  cases hk : keyZ a b
  · rfl
  · exact absurd ((keyZ_iff a b).1 hk) h
/-- Rising. -/
def Srt (gs : List Grp) : Prop := gs.Pairwise fun a b => ZL a.p b.p
def joinP (a b : ZP) : ZP := ⟨a.key, min a.s b.s, max a.e b.e⟩
def joinG (h g : Grp) : Grp := ⟨joinP h.p g.p, h.vs ++ g.vs⟩
def meetP (a b : ZP) : Bool := decide (a.s < b.e) && decide (b.s < a.e)
theorem joinP_self (a : ZP) : joinP a a = a := by unfold joinP; rw [Int.min_self, Int.max_self]
/-- Where a place is among groups. -/
def fdI (p : ZP) (gs : List Grp) : Nat := (gs.takeWhile fun g => decide (0 < zCmp p g.p)).length
def fdB (p : ZP) (gs : List Grp) : Bool := match gs[fdI p gs]? with | some g => decide (zCmp p g.p = 0) | none => false
theorem fd_le (p : ZP) (gs : List Grp) : fdI p gs ≤ gs.length := (List.takeWhile_sublist _).length_le
theorem fdI_cons (p : ZP) (h : Grp) (t : List Grp) : fdI p (h :: t) = if 0 < zCmp p h.p then fdI p t + 1 else 0 := by
  unfold fdI
  rw [List.takeWhile_cons]
  by_cases c : 0 < zCmp p h.p
  · rw [if_pos c, if_pos (by simpa using c)]; rfl
  · rw [if_neg c, if_neg (by simpa using c)]; rfl
theorem fd_lo (p : ZP) (gs : List Grp) (k : Nat) (g : Grp) (hk : k < fdI p gs) (hg : gs[k]? = some g) : 0 < zCmp p g.p := by
  induction gs generalizing k with
  | nil => simp at hg
  | cons h t ih =>
    rw [fdI_cons] at hk
    split at hk
    · rcases k with _ | k
      · simp at hg; subst hg; assumption
      · exact ih k (by omega) (by simpa using hg)
    · omega
theorem fd_hi (p : ZP) (gs : List Grp) (hs : Srt gs) (k : Nat) (g : Grp) (hk : fdI p gs ≤ k) (hg : gs[k]? = some g) : ¬ 0 < zCmp p g.p := by
  induction gs generalizing k with
  | nil => simp at hg
  | cons h t ih =>
    unfold Srt at hs
    rw [List.pairwise_cons] at hs
    rw [fdI_cons] at hk
    split at hk
    · rcases k with _ | k
      · omega
      · exact ih hs.2 k (by omega) (by simpa using hg)
    · rename_i hc
      rcases k with _ | k
      · simp at hg; subst hg; exact hc
      · intro h2
        have hm : g ∈ t := List.mem_of_getElem? (by simpa using hg)
        rw [z_pos] at hc h2
        exact hc ((hs.1 g hm).tr h2)
/-- A group put among others: by going through them. -/
def putF : List Grp → Grp → List Grp
  | [], g => [g]
  | h :: t, g => if 0 < zCmp g.p h.p then h :: putF t g else if zCmp g.p h.p = 0 then joinG h g :: t else g :: h :: t
/-- Is the last group a session that is met? -/
def lastB (ses : Bool) (gs : List Grp) (p : ZP) : Bool := match gs.getLast? with | some h => ses && keyZ h.p.key p.key && meetP h.p p | none => false
def plcI (ses : Bool) (gs : List Grp) (p : ZP) : Nat := if lastB ses gs p = true then gs.length - 1 else fdI p gs
def plcB (ses : Bool) (gs : List Grp) (p : ZP) : Bool := if lastB ses gs p = true then true else fdB p gs
/-- .. as the program puts it. -/
def putL (ses : Bool) (gs : List Grp) (g : Grp) : List Grp :=
  if plcB ses gs g.p = true then gs.modify (plcI ses gs g.p) (fun h => joinG h g) else gs.take (plcI ses gs g.p) ++ g :: gs.drop (plcI ses gs g.p)
theorem putI_eq (gs : List Grp) (g : Grp) : (if fdB g.p gs = true then gs.modify (fdI g.p gs) (fun h => joinG h g) else gs.take (fdI g.p gs) ++ g :: gs.drop (fdI g.p gs)) = putF gs g := by
  induction gs with
  | nil => rfl
  | cons h t ih =>
    rw [putF]
    by_cases c : 0 < zCmp g.p h.p
    · have e1 : fdI g.p (h :: t) = fdI g.p t + 1 := by rw [fdI_cons, if_pos c]
      have e2 : fdB g.p (h :: t) = fdB g.p t := by unfold fdB; rw [e1]; rfl
      rw [if_pos c, e1, e2, ← ih]
      split <;> simp
    · have e1 : fdI g.p (h :: t) = 0 := by rw [fdI_cons, if_neg c]
      have e2 : fdB g.p (h :: t) = decide (zCmp g.p h.p = 0) := by unfold fdB; rw [e1]; rfl
      rw [if_neg c, e1, e2]
      by_cases c2 : zCmp g.p h.p = 0
      · rw [if_pos (by simpa using c2), if_pos c2]; rfl
      · rw [if_neg (by simpa using c2), if_neg c2]; rfl
theorem putL_F (ses : Bool) (gs : List Grp) (g : Grp) (h : lastB ses gs g.p = false) : putL ses gs g = putF gs g := by
  unfold putL plcB plcI
  rw [h]
  exact putI_eq gs g
theorem lastB_nil (ses : Bool) (p : ZP) : lastB ses [] p = false := rfl
theorem lastB_no (gs : List Grp) (p : ZP) : lastB false gs p = false := by unfold lastB; split <;> rfl
theorem lastB_snoc (ses : Bool) (r : List Grp) (h : Grp) (p : ZP) : lastB ses (r ++ [h]) p = (ses && keyZ h.p.key p.key && meetP h.p p) := by unfold lastB; rw [List.getLast?_append]; rfl
theorem modify_end (r : List Grp) (h : Grp) (f : Grp → Grp) : (r ++ [h]).modify r.length f = r ++ [f h] := by
  induction r with
  | nil => rfl
  | cons a t ih => show List.modify (a :: (t ++ [h])) (t.length + 1) f = _; rw [List.modify_succ_cons, ih]; rfl
theorem putL_last (ses : Bool) (r : List Grp) (h g : Grp) (hl : lastB ses (r ++ [h]) g.p = true) : putL ses (r ++ [h]) g = r ++ [joinG h g] := by
  unfold putL plcB plcI
  rw [if_pos (by rw [if_pos hl]), if_pos hl]
  rw [List.length_append, List.length_cons, List.length_nil]
  show List.modify _ (r.length + (0 + 1) - 1) _ = _
  rw [show r.length + (0 + 1) - 1 = r.length by omega]
  exact modify_end r h _
theorem putF_mem (gs : List Grp) (g x : Grp) (h : x ∈ putF gs g) : x.p = g.p ∨ ∃ y ∈ gs, x.p = y.p := by
  induction gs with
  | nil => simp [putF] at h; exact .inl (by rw [h])
  | cons a t ih =>
    rw [putF] at h
    split at h
    · rcases List.mem_cons.1 h with rfl | h
      · exact .inr ⟨x, by simp, rfl⟩
      · rcases ih h with h | ⟨y, hy, e⟩
        · exact .inl h
        · exact .inr ⟨y, by simp [hy], e⟩
    · split at h
      · rcases List.mem_cons.1 h with rfl | h
        · rename_i hc
          have e := (z_zero _ _).1 hc
          left
          show joinP a.p g.p = g.p
          rw [← e, joinP_self]
        · exact .inr ⟨x, by simp [h], rfl⟩
      · rcases List.mem_cons.1 h with rfl | h
        · exact .inl rfl
        · exact .inr ⟨x, h, rfl⟩
theorem putF_srt (gs : List Grp) (g : Grp) (h : Srt gs) : Srt (putF gs g) := by
  induction gs with
  | nil => exact List.pairwise_singleton _ _
  | cons a t ih =>
    have h0 := h
    unfold Srt at h
    rw [List.pairwise_cons] at h
    rw [putF]
    split
    · rename_i hc
      refine List.pairwise_cons.2 ⟨fun x hx => ?_, ih h.2⟩
      rcases putF_mem t g x hx with e | ⟨y, hy, e⟩
      · rw [e]; exact (z_pos _ _).1 hc
      · rw [e]; exact h.1 y hy
    · split
      · rename_i hc
        have e := (z_zero _ _).1 hc
        refine List.pairwise_cons.2 ⟨fun x hx => ?_, h.2⟩
        show ZL (joinP a.p g.p) x.p
        rw [e, joinP_self]; exact h.1 x hx
      · rename_i hc hc2
        have hl : ZL g.p a.p := (zl_iff _ _).1 (by omega)
        refine List.pairwise_cons.2 ⟨fun x hx => ?_, h0⟩
        rcases List.mem_cons.1 hx with rfl | hx
        · exact hl
        · exact hl.tr (h.1 x hx)
/-- Not behind, by keys and starts. -/
def LeS (a b : ZP) : Prop := cmpK a.key b.key < 0 ∨ (a.key = b.key ∧ a.s ≤ b.s)
theorem LeS.tr {x y z : ZP} (h1 : LeS x y) (h2 : LeS y z) : LeS x z := by
  rcases h1 with h1 | ⟨e1, h1⟩ <;> rcases h2 with h2 | ⟨e2, h2⟩
  · exact .inl (kb_trans _ _ _ h1 h2)
  · exact .inl (by rw [← e2]; exact h1)
  · exact .inl (by rw [e1]; exact h2)
  · exact .inr ⟨e1.trans e2, by omega⟩
def Bef (gs : List Grp) (p : ZP) : Prop := ∀ h ∈ gs, LeS h.p p
theorem joinP_s {a b : ZP} (hk : a.key = b.key) (h : LeS a b) : joinP a b = ⟨a.key, a.s, max a.e b.e⟩ := by
  unfold joinP
  rcases h with h | ⟨-, h⟩
  · rw [hk, ek_self] at h; omega
  · rw [Int.min_eq_left h]
theorem last_key {ses : Bool} {r : List Grp} {h : Grp} {p : ZP} (hl : lastB ses (r ++ [h]) p = true) : ses = true ∧ h.p.key = p.key ∧ h.p.s < p.e ∧ p.s < h.p.e := by
  rw [lastB_snoc, Bool.and_eq_true, Bool.and_eq_true, keyZ_iff] at hl
  obtain ⟨⟨h1, h2⟩, h3⟩ := hl
  unfold meetP at h3
  rw [Bool.and_eq_true, decide_eq_true_eq, decide_eq_true_eq] at h3
  exact ⟨h1, h2, h3.1, h3.2⟩
theorem putL_srt (ses : Bool) (gs : List Grp) (g : Grp) (hs : Srt gs) (hb : ses = true → Bef gs g.p) : Srt (putL ses gs g) := by
  rcases hl : lastB ses gs g.p with _ | _
  · rw [putL_F _ _ _ hl]; exact putF_srt gs g hs
  · rcases snoc_cases gs with rfl | ⟨r, h, rfl⟩
    · cases hl
    · obtain ⟨k1, k2, k3, k4⟩ := last_key hl
      have hb := hb k1 h (by simp)
      rw [putL_last _ _ _ _ hl]
      unfold Srt at *
      rw [List.pairwise_append] at *
      refine ⟨hs.1, List.pairwise_singleton _ _, fun a ha b hb' => ?_⟩
      simp at hb'
      subst hb'
      have h3 := hs.2.2 a ha h (by simp)
      show ZL a.p (joinP h.p g.p)
      rw [joinP_s k2 hb]
      rcases h3 with h3 | ⟨e3, h3⟩
      · exact .inl h3
      · right
        refine ⟨e3, ?_⟩
        have := Int.le_max_left h.p.e g.p.e
        rcases h3 with h3 | ⟨h4, h5⟩
        · exact .inl h3
        · exact .inr ⟨h4, Int.lt_of_lt_of_le h5 this⟩
theorem putL_bef (ses : Bool) (gs : List Grp) (g : Grp) (q : ZP) (hb : ses = true → Bef gs g.p) (hB : Bef gs q) (hq : LeS g.p q) : Bef (putL ses gs g) q := by
  rcases hl : lastB ses gs g.p with _ | _
  · rw [putL_F _ _ _ hl]
    intro x hx
    rcases putF_mem gs g x hx with e | ⟨y, hy, e⟩
    · rw [e]; exact hq
    · rw [e]; exact hB y hy
  · rcases snoc_cases gs with rfl | ⟨r, h, rfl⟩
    · cases hl
    · obtain ⟨k1, k2, k3, k4⟩ := last_key hl
      rw [putL_last _ _ _ _ hl]
      intro x hx
      rcases List.mem_append.1 hx with hx | hx
      · exact hB x (by simp [hx])
      · simp at hx
        subst hx
        have h1 := hB h (by simp)
        show LeS (joinP h.p g.p) q
        rw [joinP_s k2 (hb k1 h (by simp))]
        exact h1
/-- What comes of groups that are put one by one. -/
def putA (ses : Bool) (gs its : List Grp) : List Grp := its.foldl (fun gs g => putL ses gs g) gs
theorem putA_cons (ses : Bool) (gs r : List Grp) (g : Grp) : putA ses gs (g :: r) = putA ses (putL ses gs g) r := rfl
theorem putA_snoc (ses : Bool) (gs r : List Grp) (g : Grp) : putA ses gs (r ++ [g]) = putL ses (putA ses gs r) g := by unfold putA; rw [List.foldl_append]; rfl
theorem putA_append (ses : Bool) (gs r t : List Grp) : putA ses gs (r ++ t) = putA ses (putA ses gs r) t := by unfold putA; rw [List.foldl_append]
/-- They come by keys and starts. -/
def SrtI (its : List Grp) : Prop := its.Pairwise fun a b => LeS a.p b.p
structure Fits (ses : Bool) (gs its : List Grp) : Prop where
  srt : Srt gs
  ord : ses = true → SrtI its
  bef : ses = true → ∀ i ∈ its, Bef gs i.p
theorem Fits.nil (ses : Bool) (its : List Grp) (h : ses = true → SrtI its) : Fits ses [] its := ⟨List.Pairwise.nil, h, fun _ i _ x hx => by cases hx⟩
theorem Fits.step {ses : Bool} {gs r : List Grp} {g : Grp} (h : Fits ses gs (g :: r)) : Fits ses (putL ses gs g) r := by
  refine ⟨putL_srt ses gs g h.srt (fun k => h.bef k g (by simp)), fun k => (List.pairwise_cons.1 (h.ord k)).2, fun k i hi => ?_⟩
  exact putL_bef ses gs g i.p (fun k => h.bef k g (by simp)) (h.bef k i (by simp [hi])) ((List.pairwise_cons.1 (h.ord k)).1 i hi)
theorem Fits.all {ses : Bool} : ∀ {its gs t : List Grp}, Fits ses gs (its ++ t) → Fits ses (putA ses gs its) t
  | [], gs, t, h => h
  | g :: r, gs, t, h => Fits.all (its := r) (gs := putL ses gs g) h.step
theorem putF_len (gs : List Grp) (g : Grp) : (putF gs g).length ≤ gs.length + 1 := by
  induction gs with
  | nil => simp [putF]
  | cons a t ih => rw [putF]; split <;> (try split) <;> simp; exact ih
theorem putL_len (ses : Bool) (gs : List Grp) (g : Grp) : (putL ses gs g).length ≤ gs.length + 1 := by
  unfold putL; split
  · rw [List.length_modify]; omega
  · rw [List.length_append, List.length_take, List.length_cons, List.length_drop]; omega
theorem putA_len (ses : Bool) : ∀ (its gs : List Grp), (putA ses gs its).length ≤ gs.length + its.length
  | [], gs => Nat.le_refl _
  | g :: r, gs => by
    have := putA_len ses r (putL ses gs g)
    have := putL_len ses gs g
    rw [putA_cons, List.length_cons]; omega
end Go.Proofs.Ytbimfopbilcdgaa

set_option linter.unusedSimpArgs false
set_option linter.unusedVariables false
set_option maxRecDepth 8000
namespace Go.Proofs.Ytbimfopbilcdgaa
open Go.RowKit Go.Sort

/-- How windows are made. -/
structure Cf where
  kind : Nat
  size : Int
  step : Int
  late : Int
  skew : Int
  parts : Int
  cut : Nat
def Cf.cells (c : Cf) : List Value := [.int .u8 (c.kind : Int), .int .i64 c.size, .int .i64 c.step, .int .i64 c.late, .int .i64 c.skew, .int .i64 c.parts, .int .u64 (c.cut : Int)]
/-- It has the form. -/
structure Cf.Ok (c : Cf) : Prop where
  kind : c.kind ≤ 2
  size1 : 1 ≤ c.size
  size2 : c.size ≤ 1073741824
  step0 : c.kind ≠ 1 → c.step = 0
  step1 : c.kind = 1 → 1 ≤ c.step ∧ c.step ≤ c.size ∧ c.size ≤ 16 * c.step
  late1 : -9223372036854775808 ≤ c.late
  late2 : c.late ≤ 1073741824
  skew1 : 0 ≤ c.skew
  skew2 : c.skew ≤ 1073741824
  parts1 : 1 ≤ c.parts
  parts2 : c.parts ≤ 8
  cut : c.cut ≤ 1099511627776
/-- By how much windows follow one another. -/
def Cf.st (c : Cf) : Int := if c.kind = 1 then c.step else c.size
theorem Cf.Ok.st {c : Cf} (h : c.Ok) : 1 ≤ c.st ∧ c.st ≤ c.size ∧ c.size ≤ 16 * c.st := by
  unfold Cf.st
  have := h.size1
  split
  · rename_i hk; exact h.step1 hk
  · omega
/-- Where the last one begins. -/
def Cf.a (c : Cf) (t : Int) : Int := if c.kind = 2 then t else t - t % c.st
theorem Cf.Ok.a {c : Cf} (h : c.Ok) (t : Int) : c.a t ≤ t ∧ t < c.a t + c.st := by
  unfold Cf.a
  have h1 := h.st.1
  split
  · omega
  · have h2 := Int.emod_nonneg t (b := c.st) (by omega)
    have h3 := Int.emod_lt_of_pos t (b := c.st) (by omega)
    omega
def Cf.n (c : Cf) (t : Int) : Nat := ((c.size - (t - c.a t) + c.st - 1) / c.st).toNat
theorem Cf.Ok.n {c : Cf} (h : c.Ok) (t : Int) (i : Nat) : i < c.n t ↔ (i : Int) * c.st < c.size - (t - c.a t) := by
  have h1 := h.st
  have h2 := h.a t
  unfold Cf.n
  have e : (i : Int) + 1 ≤ (c.size - (t - c.a t) + c.st - 1) / c.st ↔ ((i : Int) + 1) * c.st ≤ c.size - (t - c.a t) + c.st - 1 := Int.le_ediv_iff_mul_le (by omega)
  rw [Int.add_mul, Int.one_mul] at e
  omega
theorem Cf.Ok.n16 {c : Cf} (h : c.Ok) (t : Int) : c.n t ≤ 16 := by
  have h1 := h.st
  have h2 := h.a t
  rcases Nat.lt_or_ge 16 (c.n t) with h3 | h3
  · have h4 := (h.n t 16).1 h3
    rw [show ((16 : Nat) : Int) = 16 from rfl] at h4
    omega
  · exact h3
theorem Cf.Ok.n1 {c : Cf} (h : c.Ok) (t : Int) : 1 ≤ c.n t := by
  have h1 := h.st
  have h2 := h.a t
  exact (h.n t 0).2 (by rw [show ((0 : Nat) : Int) = 0 from rfl, Int.zero_mul]; omega)
/-- A window: where it begins, and where it ends. -/
structure Wd where
  s : Int
  e : Int
instance : Inhabited Wd := ⟨⟨0, 0⟩⟩
def Cf.w (c : Cf) (t : Int) (i : Nat) : Wd := ⟨c.a t - i * c.st, c.a t - i * c.st + c.size⟩
/-- The first of them, falling. -/
def fwd (c : Cf) (t : Int) (k : Nat) : List Wd := (List.range k).map (c.w t)
/-- The windows in which a time is. -/
def wOf (c : Cf) (t : Int) : List Wd := (fwd c t (c.n t)).reverse
theorem fwd_len (c : Cf) (t : Int) (k : Nat) : (fwd c t k).length = k := by unfold fwd; simp
theorem fwd_succ (c : Cf) (t : Int) (k : Nat) : fwd c t (k + 1) = fwd c t k ++ [c.w t k] := by unfold fwd; rw [List.range_succ, List.map_append]; rfl
theorem wOf_len (c : Cf) (t : Int) : (wOf c t).length = c.n t := by unfold wOf; rw [List.length_reverse, fwd_len]
theorem wOf_mem (c : Cf) (t : Int) (x : Wd) : x ∈ wOf c t ↔ ∃ i, i < c.n t ∧ x = c.w t i := by
  unfold wOf fwd
  rw [List.mem_reverse, List.mem_map]
  constructor
  · rintro ⟨i, hi, rfl⟩; exact ⟨i, List.mem_range.1 hi, rfl⟩
  · rintro ⟨i, hi, rfl⟩; exact ⟨i, List.mem_range.2 hi, rfl⟩
/-- What the windows are in which a time is. -/
theorem wOf_in {c : Cf} (h : c.Ok) (t : Int) (x : Wd) (hx : x ∈ wOf c t) : x.e = x.s + c.size ∧ x.s ≤ t ∧ t < x.e := by
  obtain ⟨i, hi, rfl⟩ := (wOf_mem c t x).1 hx
  have h1 := (h.n t i).1 hi
  have h2 := h.a t
  have h3 : (0 : Int) ≤ (i : Int) * c.st := Int.mul_nonneg (by omega) (by have := h.st; omega)
  unfold Cf.w
  refine ⟨rfl, ?_, ?_⟩
  · show c.a t - (i : Int) * c.st ≤ t; omega
  · show t < c.a t - (i : Int) * c.st + c.size; omega
theorem wOf_dvd {c : Cf} (h : c.Ok) (hk : c.kind ≠ 2) (t : Int) (x : Wd) : x ∈ wOf c t ↔ x.e = x.s + c.size ∧ x.s ≤ t ∧ t < x.s + c.size ∧ c.st ∣ x.s := by
  have h1 := h.st
  have h2 := h.a t
  have ha : c.st ∣ c.a t := by unfold Cf.a; rw [if_neg hk]; exact Int.dvd_self_sub_emod
  constructor
  · intro hx
    have h3 := wOf_in h t x hx
    refine ⟨h3.1, h3.2.1, by omega, ?_⟩
    obtain ⟨i, hi, rfl⟩ := (wOf_mem c t x).1 hx
    exact Int.dvd_sub ha (Int.dvd_mul_left _ _)
  · rintro ⟨e1, e2, e3, hd⟩
    obtain ⟨q, hq⟩ := Int.dvd_sub ha hd
    have hq0 : 0 ≤ q := by
      rcases Int.lt_or_le q 0 with hn | hn
      · have h5 : c.st * q ≤ c.st * (-1) := Int.mul_le_mul_of_nonneg_left (by omega) (by omega)
        have h6 : c.st * (-1) = - c.st := by omega
        omega
      · exact hn
    refine (wOf_mem c t x).2 ⟨q.toNat, ?_, ?_⟩
    · rw [h.n]; rw [Int.toNat_of_nonneg hq0, Int.mul_comm]; omega
    · unfold Cf.w
      rw [Int.toNat_of_nonneg hq0, Int.mul_comm]
      cases x
      simp only at *
      rw [Wd.mk.injEq]; omega
theorem wOf_ses {c : Cf} (h : c.Ok) (hk : c.kind = 2) (t : Int) : wOf c t = [⟨t, t + c.size⟩] := by
  have e1 : c.st = c.size := by unfold Cf.st; rw [if_neg (by omega)]
  have e2 : c.a t = t := by unfold Cf.a; rw [if_pos hk]
  have h1 := h.size1
  have e3 : c.n t = 1 := by
    have h2 := h.n1 t
    have h3 : ¬ 1 < c.n t := by rw [h.n t 1, e1, e2, show ((1 : Nat) : Int) = 1 from rfl]; omega
    omega
  unfold wOf fwd
  rw [e3]
  show [c.w t 0] = _
  unfold Cf.w
  rw [e2, e1]
  simp
theorem Cf.Ok.bd {c : Cf} (h : c.Ok) (t : Int) (i : Nat) (hi : i ≤ c.n t) : 0 ≤ (i : Int) * c.st ∧ (i : Int) * c.st ≤ 2147483648 := by
  have h1 := h.st
  have h2 := h.a t
  have h3 := h.size2
  refine ⟨Int.mul_nonneg (by omega) (by omega), ?_⟩
  rcases i with _ | i
  · simp
  · have h4 := (h.n t i).1 (by omega)
    rw [show ((i + 1 : Nat) : Int) = (i : Int) + 1 by omega, Int.add_mul, Int.one_mul]; omega
/-- An event's groups, of one value each. -/
def itE (c : Cf) (x : Ev) : List Grp := (wOf c x.time).map fun w => ⟨⟨x.key, w.s, w.e⟩, [x.val]⟩
def itsL (c : Cf) (l : List Ev) : List Grp := l.flatMap (itE c)
/-- The groups of events that stand in their order. -/
def grpsS (c : Cf) (l : List Ev) : List Grp := putA (decide (c.kind = 2)) [] (itsL c l)
theorem itsL_append (c : Cf) (l m : List Ev) : itsL c (l ++ m) = itsL c l ++ itsL c m := by unfold itsL; rw [List.flatMap_append]
theorem itsL_cons (c : Cf) (x : Ev) (l : List Ev) : itsL c (x :: l) = itE c x ++ itsL c l := by unfold itsL; rw [List.flatMap_cons]
/-- Times rise within a key. -/
def LeE (x y : Ev) : Prop := cmpK x.key y.key < 0 ∨ (x.key = y.key ∧ x.time ≤ y.time)
theorem leE_of (x y : Ev) (h : ltOf evCmp y x = false) : LeE x y := by
  rw [lt_no] at h
  unfold Lss at h
  by_cases hk : cmpK x.key y.key = 0
  · have e := ek_eq hk
    right
    refine ⟨e, ?_⟩
    have h2 : ¬ y.time < x.time := fun h3 => h (.inr ⟨e.symm, .inl h3⟩)
    omega
  · left
    have h2 : ¬ cmpK y.key x.key < 0 := fun h3 => h (.inl h3)
    rw [ek_neg] at h2; omega
theorem itsL_srt {c : Cf} (h : c.Ok) (hk : c.kind = 2) (l : List Ev) (hl : l.Pairwise LeE) : SrtI (itsL c l) := by
  induction l with
  | nil => exact List.Pairwise.nil
  | cons x r ih =>
    rw [List.pairwise_cons] at hl
    rw [itsL_cons]
    refine List.pairwise_append.2 ⟨?_, ih hl.2, fun a ha b hb => ?_⟩
    · unfold itE; rw [wOf_ses h hk]; exact List.pairwise_singleton _ _
    · unfold itE at ha
      rw [wOf_ses h hk] at ha
      simp at ha
      subst ha
      obtain ⟨y, hy, hb⟩ := List.mem_flatMap.1 hb
      unfold itE at hb
      rw [wOf_ses h hk] at hb
      simp at hb
      subst hb
      exact hl.1 y hy
end Go.Proofs.Ytbimfopbilcdgaa

set_option linter.unusedSimpArgs false
set_option linter.unusedVariables false
set_option maxRecDepth 8000
namespace Go.Proofs.Ytbimfopbilcdgaa.Sm
open Ieee Fl

/-- A word's units, with the sign; of what isn't finite 0. -/
def sval (b : Nat) : Int := if 9218868437227405312 ≤ rung b then 0 else if 9223372036854775808 ≤ b then -(val (rung b) : Int) else (val (rung b) : Int)
theorem neg_int (n : Nat) (hn : n ≤ top) : (neg n : Int) = -(n : Int) % (top : Int) := by
  unfold neg
  have hp := top_pos
  generalize top = t at *
  rw [Int.natCast_emod, Int.ofNat_sub hn]
  rw [show ((t : Int) - (n : Int)) = -(n : Int) + (t : Int) by omega, Int.add_emod_right]
theorem unit_int (b : Nat) : (unit b : Int) = sval b % (top : Int) := by
  unfold unit sval
  split
  · simp
  · rename_i h
    have hv := val_lt (rung b) (by omega)
    have ht := top_33
    have hp := pw_pos 33
    split
    · rw [neg_int _ (by omega)]
    · rw [Int.emod_eq_of_lt (by omega) (by omega)]
/-- Where the sum is short enough, its sign and its magnitude. -/
theorem short (n : Nat) (T : Int) (hn : (n : Int) = T % (top : Int)) (h1 : 2 * T < (top : Int)) (h2 : -(top : Int) < 2 * T) : sgn n = decide (T < 0) ∧ mag n = T.natAbs := by
  have hp := top_pos
  have hs : sgn n = decide (T < 0) := by
    unfold sgn
    rw [decide_eq_decide]
    generalize top = t at *
    by_cases h : T < 0
    · have e : T % (t : Int) = T + t := by
        rw [← Int.add_emod_right, Int.emod_eq_of_lt (by omega) (by omega)]
      rw [e] at hn; omega
    · rw [Int.emod_eq_of_lt (by omega) (by omega)] at hn; omega
  refine ⟨hs, ?_⟩
  unfold mag
  rw [hs]
  by_cases h : T < 0
  · rw [if_pos (decide_eq_true h)]
    unfold neg
    generalize top = t at *
    have e : T % (t : Int) = T + t := by
      rw [← Int.add_emod_right, Int.emod_eq_of_lt (by omega) (by omega)]
    rw [e] at hn
    rw [Nat.mod_eq_of_lt (by omega)]; omega
  · rw [if_neg (by rw [decide_eq_true_eq]; exact h)]
    generalize top = t at *
    rw [Int.emod_eq_of_lt (by omega) (by omega)] at hn; omega
theorem sval_short (b : Nat) : sval b < (pw 33 : Int) ∧ -(pw 33 : Int) < sval b := by
  unfold sval
  have hp := pw_pos 33
  split
  · omega
  · rename_i h
    have hv := val_lt (rung b) (by omega)
    split <;> omega

/-! Rounding in other units -/
theorem cut_scale (neg : Bool) (m t v : Nat) (h0 : m ≠ 0) (hv : t ≤ v) (hd : v ≤ m.log2 + t + 2) : Toward.even.cut neg (m * 2 ^ t) v = Toward.even.cut neg m (v - t) := by
  unfold Toward.cut
  dsimp only
  have ht : 0 < 2 ^ t := Nat.two_pow_pos t
  have hne : m * 2 ^ t ≠ 0 := by intro e; rcases Nat.mul_eq_zero.1 e with e | e <;> omega
  rw [log2_shift m t h0, Nat.min_eq_left hd, Nat.min_eq_left (show v - t ≤ m.log2 + 2 by omega)]
  simp only [Nat.shiftLeft_eq, Nat.one_mul]
  have ev : 2 ^ v = 2 ^ t * 2 ^ (v - t) := by rw [← Nat.pow_add, Nat.add_sub_cancel' hv]
  rw [ev, Nat.mul_comm m, Nat.mul_div_mul_left _ _ ht, Nat.mul_mod_mul_left]
  generalize 2 ^ (v - t) = q
  generalize m % q = r
  have e1 : (decide (2 ^ t * q < 2 * (2 ^ t * r))) = decide (q < 2 * r) := by
    rw [decide_eq_decide, show 2 * (2 ^ t * r) = 2 ^ t * (2 * r) by rw [Nat.mul_left_comm]]
    exact Nat.mul_lt_mul_left ht
  have e2 : (2 ^ t * q == 2 * (2 ^ t * r)) = (q == 2 * r) := by
    rw [show 2 * (2 ^ t * r) = 2 ^ t * (2 * r) by rw [Nat.mul_left_comm], Bool.eq_iff_iff, beq_iff_eq, beq_iff_eq]
    exact ⟨fun h => Nat.eq_of_mul_eq_mul_left ht h, fun h => by rw [h]⟩
  rw [e1, e2]
theorem nearest_scale (neg : Bool) (m t : Nat) : double.nearest neg (m * 2 ^ t) (-1074) = double.nearest neg m (-1074 + (t : Int)) := by
  unfold Format.nearest
  simp only [binadeW, infW, leastW]
  by_cases h0 : m = 0
  · subst h0; rw [Nat.zero_mul, if_pos rfl, if_pos rfl]
  · have ht : 0 < 2 ^ t := Nat.two_pow_pos t
    have hne : m * 2 ^ t ≠ 0 := by intro e; rcases Nat.mul_eq_zero.1 e with e | e <;> omega
    rw [if_neg hne, if_neg h0, log2_shift m t h0]
    have hf : (double.fractionBits : Nat) = 52 := rfl
    rw [hf]
    have el : max ((-1074 : Int) + ((m.log2 + t : Nat) : Int) - (52 : Nat)) (-1074) = max ((-1074 : Int) + (t : Int) + (m.log2 : Int) - (52 : Nat)) (-1074) := by omega
    rw [el]
    generalize hL : max ((-1074 : Int) + (t : Int) + (m.log2 : Int) - (52 : Nat)) (-1074) = L
    have e1 : ((-1074 : Int) - L).toNat = 0 := by omega
    rw [e1, Nat.shiftLeft_zero]
    by_cases hc : L ≤ -1074 + (t : Int)
    · obtain ⟨v, hv⟩ : ∃ v : Nat, (L - -1074).toNat = v := ⟨_, rfl⟩
      rw [hv, show ((-1074 : Int) + (t : Int) - L).toNat = t - v by omega, show (L - (-1074 + (t : Int))).toNat = 0 by omega, Nat.shiftLeft_eq]
      have e3 : m * 2 ^ t = m * 2 ^ (t - v) * 2 ^ v := by rw [Nat.mul_assoc, ← Nat.pow_add]; congr 2; omega
      rw [e3, cut_exact neg (m * 2 ^ (t - v)) v _ (fun _ => ?_) rfl]
      · have h1 := cut_exact neg (m * 2 ^ (t - v)) 0 _ (fun _ => by omega) rfl
        rw [Nat.pow_zero, Nat.mul_one] at h1
        rw [h1]
      · rw [← e3, log2_shift m t h0]; omega
    · rw [show ((-1074 : Int) + (t : Int) - L).toNat = 0 by omega, Nat.shiftLeft_zero]
      rw [cut_scale neg m t _ h0 (by omega) (by omega)]
      congr 5
      omega

/-! The format's addition -/
theorem signed_val (s : Bool) (m j k : Nat) (h : k ≤ j) : signed s m (j - k) * (2 ^ k : Nat) = if s then -((m * 2 ^ j : Nat) : Int) else ((m * 2 ^ j : Nat) : Int) := by
  have e : m <<< (j - k) * 2 ^ k = m * 2 ^ j := by rw [Nat.shiftLeft_eq, Nat.mul_assoc, ← Nat.pow_add]; congr 2; omega
  unfold signed
  cases s
  · simp only [Bool.false_eq_true, if_false]; rw [← e]; simp
  · simp only [if_true]; rw [← e, Int.neg_mul]; simp
theorem add_fin (x y : Nat) (hx : x < 18446744073709551616) (hy : y < 18446744073709551616) (fx : rung x < 9218868437227405312) (fy : rung y < 9218868437227405312) :
    double.add x y = some (double.nearest (if sval x + sval y = 0 then decide (9223372036854775808 ≤ x) && decide (9223372036854775808 ≤ y) else decide (sval x + sval y < 0)) (sval x + sval y).natAbs (-1074)) := by
  unfold Format.add
  rw [read_num x hx fx, read_num y hy fy]
  show some (double.nearest _ _ _) = _
  rw [min_place, min_place']
  have em : min ((-1074 : Int) + (shf (rung x) : Nat)) (-1074 + (shf (rung y) : Nat)) = -1074 + ((min (shf (rung x)) (shf (rung y)) : Nat) : Int) := by omega
  rw [em, ← nearest_scale]
  generalize hk : min (shf (rung x)) (shf (rung y)) = k
  have h1 := signed_val (decide (9223372036854775808 ≤ x)) (mant (rung x)) (shf (rung x)) k (by omega)
  have h2 := signed_val (decide (9223372036854775808 ≤ y)) (mant (rung y)) (shf (rung y)) k (by omega)
  have s1 : sval x = if decide (9223372036854775808 ≤ x) = true then -((mant (rung x) * 2 ^ shf (rung x) : Nat) : Int) else ((mant (rung x) * 2 ^ shf (rung x) : Nat) : Int) := by
    unfold sval; rw [if_neg (by omega)]; simp only [decide_eq_true_eq]; rfl
  have s2 : sval y = if decide (9223372036854775808 ≤ y) = true then -((mant (rung y) * 2 ^ shf (rung y) : Nat) : Int) else ((mant (rung y) * 2 ^ shf (rung y) : Nat) : Int) := by
    unfold sval; rw [if_neg (by omega)]; simp only [decide_eq_true_eq]; rfl
  rw [← s1] at h1
  rw [← s2] at h2
  generalize signed (decide (9223372036854775808 ≤ x)) (mant (rung x)) (shf (rung x) - k) = A at *
  generalize signed (decide (9223372036854775808 ≤ y)) (mant (rung y)) (shf (rung y) - k) = B at *
  have hS : sval x + sval y = (A + B) * (2 ^ k : Nat) := by rw [← h1, ← h2, Int.add_mul]
  have hp : 0 < 2 ^ k := Nat.two_pow_pos k
  rw [hS]
  generalize 2 ^ k = q at *
  have z : (A + B) * (q : Int) = 0 ↔ A + B = 0 := by
    constructor
    · intro h; rcases Int.mul_eq_zero.1 h with h | h
      · exact h
      · omega
    · intro h; rw [h, Int.zero_mul]
  have n : (A + B) * (q : Int) < 0 ↔ A + B < 0 := by
    constructor
    · intro h
      rcases Int.lt_or_le (A + B) 0 with h3 | h3
      · exact h3
      · have := Int.mul_nonneg h3 (show (0 : Int) ≤ q by omega); omega
    · intro h; exact Int.mul_neg_of_neg_of_pos h (by omega)
  have a : ((A + B) * (q : Int)).natAbs = (A + B).natAbs * q := by rw [Int.natAbs_mul]; rfl
  rw [a]
  congr 2
  by_cases h : A + B = 0
  · rw [if_pos h, if_pos (z.2 h)]
  · rw [if_neg h, if_neg (fun e => h (z.1 e))]
    exact decide_eq_decide.2 n.symm
end Go.Proofs.Ytbimfopbilcdgaa.Sm

set_option linter.unusedSimpArgs false
set_option linter.unusedVariables false
set_option maxRecDepth 8000
namespace Go.Proofs.Ytbimfopbilcdgaa
open Go.RowKit Sm

end Go.Proofs.Ytbimfopbilcdgaa

set_option linter.unusedSimpArgs false
set_option linter.unusedVariables false
set_option maxRecDepth 8000
namespace Go.Proofs.Ytbimfopbilcdgaa
open Go.RowKit Sm

theorem nearest_word (neg : Bool) (m : Nat) : Fl.rung (Ieee.double.nearest neg m (-1074)) = min (rnd m) 9218868437227405312 ∧ Ieee.double.nearest neg m (-1074) < 18446744073709551616 ∧ Fl.nan (Ieee.double.nearest neg m (-1074)) = false := by
  rw [nearest_rnd, word_eq]
  have h : min (rnd m) 9218868437227405312 ≤ 9218868437227405312 := Nat.min_le_right _ _
  generalize min (rnd m) 9218868437227405312 = r at *
  unfold Fl.nan Fl.rung
  rw [decide_eq_false_iff_not]
  cases neg
  · rw [if_neg (by decide)]; omega
  · rw [if_pos rfl]; omega
theorem kind_fin (b : Nat) (h : Fl.rung b < 9218868437227405312) : kindB b = if b = 9223372036854775808 then 8 else 24 := by
  unfold kindB
  rw [if_neg (by unfold Fl.nan; rw [decide_eq_true_eq]; omega), if_neg (by omega)]
theorem accN_two (x y : Nat) : (accN [x, y] : Int) = (sval x + sval y) % (top : Int) := by
  rw [(acc_two x y).1, Int.natCast_emod, Int.natCast_add, unit_int, unit_int, ← Int.add_emod]
theorem short_two (x y : Nat) : sgn (accN [x, y]) = decide (sval x + sval y < 0) ∧ mag (accN [x, y]) = (sval x + sval y).natAbs := by
  have a := sval_short x
  have b := sval_short y
  have ht := top_33
  have hp := pw_pos 33
  have hn := accN_two x y
  refine short _ _ hn ?_ ?_
  · rw [ht]; generalize pw 33 = P at *; omega
  · rw [ht]; generalize pw 33 = P at *; omega
theorem val_24 (n : Nat) : valW n 24 = Ieee.double.nearest (sgn n) (mag n) (-1074) ∧ valO n 24 = decide (9218868437227405312 ≤ rnd (mag n)) := by
  unfold valW valO
  rw [if_neg (by decide), if_neg (by decide), if_neg (by decide), if_neg (by decide), if_neg (by decide), if_neg (by decide), if_neg (by decide), if_neg (by decide)]
  exact ⟨Eq.refl _, Eq.refl _⟩
theorem val_8 (n : Nat) : valW n 8 = 9223372036854775808 ∧ valO n 8 = false := by
  unfold valW valO
  rw [if_neg (by decide), if_neg (by decide), if_neg (by decide), if_pos rfl, if_neg (by decide), if_neg (by decide), if_neg (by decide), if_pos rfl]
  exact ⟨rfl, rfl⟩
theorem fin_of (b : Nat) (h1 : Fl.nan b = false) (h2 : decide (Fl.rung b = 9218868437227405312) = false) : Fl.rung b < 9218868437227405312 := by
  unfold Fl.nan at h1
  rw [decide_eq_false_iff_not] at h1 h2
  omega
theorem val_of_two (x y : Nat) (hx : x < 18446744073709551616) (hy : y < 18446744073709551616) (fx : Fl.rung x < 9218868437227405312) (fy : Fl.rung y < 9218868437227405312) :
    Ieee.double.add x y = some (valW (accN [x, y]) (accH [x, y])) ∧ decide (Fl.rung (valW (accN [x, y]) (accH [x, y])) = 9218868437227405312) = valO (accN [x, y]) (accH [x, y]) ∧ valW (accN [x, y]) (accH [x, y]) < 18446744073709551616 := by
  obtain ⟨s1, s2⟩ := short_two x y
  rw [(acc_two x y).2, kind_fin x fx, kind_fin y fy]
  by_cases hz : x = 9223372036854775808 ∧ y = 9223372036854775808
  · obtain ⟨rfl, rfl⟩ := hz
    rw [if_pos rfl, show (8 ||| 8 : Nat) = 8 from rfl, (val_8 _).1, (val_8 _).2]
    refine ⟨by decide +kernel, by decide +kernel, by decide⟩
  · have e : (if x = 9223372036854775808 then 8 else 24) ||| (if y = 9223372036854775808 then 8 else 24) = 24 := by
      by_cases h1 : x = 9223372036854775808
      · rw [if_pos h1, if_neg (fun h2 => hz ⟨h1, h2⟩)]; rfl
      · rw [if_neg h1]; split <;> rfl
    rw [e, (val_24 _).1, (val_24 _).2, s1, s2, add_fin x y hx hy fx fy]
    obtain ⟨r1, r2, -⟩ := nearest_word (decide (sval x + sval y < 0)) (sval x + sval y).natAbs
    refine ⟨?_, ?_, r2⟩
    · congr 2
      by_cases h0 : sval x + sval y = 0
      · rw [if_pos h0, h0]
        have hneg : ¬ (9223372036854775808 ≤ x ∧ 9223372036854775808 ≤ y) := by
          rintro ⟨a, b⟩
          unfold sval at h0
          rw [if_neg (Nat.not_le.2 fx), if_neg (Nat.not_le.2 fy), if_pos a, if_pos b] at h0
          have v1 : Fl.val (Fl.rung x) = 0 := by omega
          have v2 : Fl.val (Fl.rung y) = 0 := by omega
          have z : ∀ r, Fl.val r = 0 → r = 0 := fun r h => by
            rcases Nat.eq_zero_or_pos r with h1 | h1
            · exact h1
            · have := Fl.val_pos h1; omega
          have q1 := z _ v1
          have q2 := z _ v2
          unfold Fl.rung at q1 q2
          exact hz ⟨by omega, by omega⟩
        have : (decide (9223372036854775808 ≤ x) && decide (9223372036854775808 ≤ y)) = false := by
          rw [← Bool.decide_and]; exact decide_eq_false hneg
        rw [this]; rfl
      · rw [if_neg h0]
    · rw [r1, decide_eq_decide]; omega

end Go.Proofs.Ytbimfopbilcdgaa

set_option linter.unusedSimpArgs false
set_option linter.unusedVariables false
set_option maxRecDepth 8000
namespace Go.Proofs.Ytbimfopbilcdgaa
open Go.RowKit Sm

/-- One number more: the sum, and what it has. -/
def addN (n b : Nat) : Nat := (n + unit b) % top
def orH (h b : Nat) : Nat := h ||| kindB b
theorem add_nx (n h b : Nat) (hh : h < 32) (hb : b < 18446744073709551616) (w : World) :
    Calls Try.prog 106 #[.agg (P36 (wd n) h), .float .f64 b] w fun e w' => e = .returned (.agg (P36 (wd (addN n b)) (orH h b))) ∧ Below w.heap.size w w' := add_any n h b (Nat.lt_trans hh (by decide)) hb w
theorem addN_lt (n b : Nat) : addN n b < top := Nat.mod_lt _ top_pos
theorem orH_lt (h b : Nat) (hh : h < 32) : orH h b < 32 := Nat.or_lt_two_pow (n := 5) hh (kindB_lt b)
theorem addN_int (n b : Nat) : ((addN n b : Nat) : Int) = ((n : Int) + sval b) % (top : Int) := by
  unfold addN
  rw [Int.natCast_emod, Int.natCast_add, unit_int, Int.add_emod_emod]
attribute [irreducible] addN orH
theorem sumU : Try.prog.underlying 87 = some (.struct (Try.prog.fieldsOf 87)) := u27
theorem FlAt.keep {w w' : World} {a : Option Addr} {l : List Nat} (h : FlAt w a l) (hb : Below w.heap.size w w') : FlAt w' a l := fun k x hx => by
  obtain ⟨h1, g, off, h2, h3, h4⟩ := h k x hx
  exact ⟨h1, g, off, h2, Nat.lt_of_lt_of_le h3 hb.size, (hb.cell (p := ⟨g, off + k, none⟩) h3).trans h4⟩
theorem row_keep {w w' : World} {g : Nat} {o : Obj} (h : w.heap[g]? = some o) (hb : Below w.heap.size w w') : w'.heap[g]? = some o := (hb.block g (lt_of_row h)).trans h
theorem row_alloc {w : World} {g : Nat} {o : Obj} (h : w.heap[g]? = some o) (q : Obj) : (w.alloc q).heap[g]? = some o := (Below.heap_alloc _ _ _ (lt_of_row h)).trans h

/-! Put together -/
theorem sval_neg (x : Nat) (hx : x < 18446744073709551616) (hf : Fl.rung x < 9218868437227405312) : sval (Op.negFloat .f64 x) = -sval x ∧ Fl.rung (Op.negFloat .f64 x) < 9218868437227405312 ∧ Op.negFloat .f64 x < 18446744073709551616 := by
  rw [neg_word x hx]
  by_cases h : x < 9223372036854775808
  · rw [if_pos h]
    have e : Fl.rung (x + 9223372036854775808) = Fl.rung x := by unfold Fl.rung; omega
    have e1 : sval (x + 9223372036854775808) = -(Fl.val (Fl.rung x) : Int) := by unfold sval; rw [e, if_neg (Nat.not_le.2 hf), if_pos (by omega)]
    have e2 : sval x = (Fl.val (Fl.rung x) : Int) := by unfold sval; rw [if_neg (Nat.not_le.2 hf), if_neg (by omega)]
    rw [e1, e2, e]
    exact ⟨rfl, hf, by omega⟩
  · rw [if_neg h]
    have e : Fl.rung (x - 9223372036854775808) = Fl.rung x := by unfold Fl.rung; omega
    have e1 : sval (x - 9223372036854775808) = (Fl.val (Fl.rung x) : Int) := by unfold sval; rw [e, if_neg (Nat.not_le.2 hf), if_neg (by omega)]
    have e2 : sval x = -(Fl.val (Fl.rung x) : Int) := by unfold sval; rw [if_neg (Nat.not_le.2 hf), if_pos (by omega)]
    rw [e1, e2, e]
    exact ⟨by omega, hf, by omega⟩
theorem eq_of_int {a b : Nat} (ha : a < top) (hb : b < top) (h : (a : Int) % (top : Int) = (b : Int) % (top : Int)) : a = b := by
  rw [Int.emod_eq_of_lt (by omega) (by omega), Int.emod_eq_of_lt (by omega) (by omega)] at h
  omega
theorem cancels (n x y : Nat) (hx : x < 18446744073709551616) (hf : Fl.rung x < 9218868437227405312) (hy : y = Op.negFloat .f64 x) : addN (addN (addN n x) y) 0 = addN n 0 := by
  have hp := top_pos
  refine eq_of_int (addN_lt _ _) (addN_lt _ _) ?_
  rw [addN_int, addN_int, addN_int, addN_int, hy, (sval_neg x hx hf).1]
  simp only [Int.emod_emod, Int.emod_add_emod]
  congr 1; omega
theorem kind_cancels (k x y : Nat) (hf : Fl.rung x < 9218868437227405312) (hg : Fl.rung y < 9218868437227405312) : orH (orH (orH k x) y) 0 = orH k 0 := by
  unfold orH
  rw [kind_fin x hf, kind_fin y hg, kind_fin 0 (by decide), if_neg (show ¬ (0 : Nat) = 9223372036854775808 by decide)]
  have e : ∀ p q : Bool, (if p then 8 else 24) ||| ((if q then 8 else 24) ||| 24) = 24 := by decide
  have h := e (decide (x = 9223372036854775808)) (decide (y = 9223372036854775808))
  simp only [decide_eq_true_eq] at h
  rw [Nat.or_assoc, Nat.or_assoc, h]
end Go.Proofs.Ytbimfopbilcdgaa
