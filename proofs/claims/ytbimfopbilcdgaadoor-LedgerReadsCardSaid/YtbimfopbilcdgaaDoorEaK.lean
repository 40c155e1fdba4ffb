/-
  Layer event: contracts of strings.Compare, cmp.Compare, cmp.Or, compare.
-/
import Derived.WalkKit
import Derived.WalkSpells
import Derived.WalkLawsBesides
import Derived.Lib.Hide
import Derived.Lib.Bytealg
import Derived.BigRegion
import Derived.Deep.RegionHeld3
import Derived.Deep.Draws
import Derived.Outline
import Derived.Sort.Grow
import Derived.Test.YtbimfopbilcdgaaDoorWaK
import Derived.Shelf.SlSortCmp.InsertionK
import Derived.Shelf.SlicesE.Clone
import Derived.Lib.OwnBridge
import Derived.Deep.DeepCutAuto
import Derived.Sort.LotA
import Derived.Sort.WalkA
set_option linter.unusedSimpArgs false
set_option linter.unusedVariables false
namespace Go.Proofs.YtbimfopbilcdgaaDoor
open Go.RowKit Go.Sort

/-- An event. -/
structure Ev where
  off : Nat
  part : Int
  time : Int
  key : ByteArray
  val : Nat
instance : Inhabited Ev := ⟨⟨0, 0, 0, ByteArray.empty, 0⟩⟩
def Ev.cells (x : Ev) : List Value := [.int .u64 (x.off : Int), .int .i64 x.part, .int .i64 x.time, .string x.key, .float .f64 x.val]
/-- -1, 0 or 1. -/
def cmpI (a b : Int) : Int := if a < b then -1 else if b < a then 1 else 0
def or3 (a b c : Int) : Int := if a ≠ 0 then a else if b ≠ 0 then b else c
def cmpK (a b : ByteArray) : Int := Lib.compareBytes a.data.toList b.data.toList
def evCmp (x y : Ev) : Int := or3 (cmpK x.key y.key) (cmpI x.time y.time) (cmpI (x.off : Int) (y.off : Int))

theorem cmpstr_run (a b : ByteArray) (w : World) : (callFunc 78 #[.string a, .string b]).run Tryd.prog w = .ok (.value (.int .i64 (cmpK a b))) w := by
  rw [run_callFunc_extern Tryd.func78 (by kernel_rfl) (by kernel_rfl) (by kernel_rfl) (e := Extern.BytealgCompare.compare) (by kernel_rfl), Lib.run_compareString]
  rfl
set_option maxHeartbeats 400000 in
theorem compareString_any (a b : ByteArray) (w : World) : Calls Tryd.prog 65 #[.string a, .string b] w fun e w' => e = .returned (.int .i64 (cmpK a b)) ∧ w = w' := by
  have xr := fun w => cmpstr_run a b w
  generalize cmpK a b = r at *
  go_enter Tryd.func65, Tryd.ntmps65
  go_wp2
  go_ret
  exact ⟨rfl, rfl⟩
set_option maxHeartbeats 400000 in
theorem strCompare_any (a b : ByteArray) (w : World) : Calls Tryd.prog 41 #[.string a, .string b] w fun e w' => e = .returned (.int .i64 (cmpK a b)) ∧ w = w' := by
  have h := fun w => compareString_any a b w
  generalize cmpK a b = r at *
  have H := Lib.hid h
  clear h
  go_enter Tryd.func41, Tryd.ntmps41
  go_wp2_with (go_at_call 65; refine (H.out _).mono ?_; rintro e w' ⟨rfl, rfl⟩)
  go_ret
  exact ⟨rfl, rfl⟩
set_option maxHeartbeats 400000 in
theorem isNaNI_any (a : Int) (w : World) : Calls Tryd.prog 66 #[.int .i64 a] w fun e w' => e = .returned (.bool false) ∧ w = w' := by
  go_enter Tryd.func66, Tryd.ntmps66
  go_wp2
  go_ret
  exact ⟨rfl, rfl⟩
theorem cmpI_lt {a b : Int} (h : a < b) : cmpI a b = -1 := if_pos h
theorem cmpI_gt {a b : Int} (h : b < a) : cmpI a b = 1 := by unfold cmpI; rw [if_neg (by omega), if_pos h]
theorem cmpI_eq {a b : Int} (h1 : ¬ a < b) (h2 : ¬ b < a) : cmpI a b = 0 := by unfold cmpI; rw [if_neg h1, if_neg h2]
set_option maxHeartbeats 400000 in
theorem cmpInt_any (a b : Int) (w : World) : Calls Tryd.prog 42 #[.int .i64 (a : Int), .int .i64 (b : Int)] w fun e w' => e = .returned (.int .i64 (cmpI (a : Int) (b : Int))) ∧ w = w' := by
  have hc : ((a : Int) < b ∧ Hid (cmpI (a : Int) (b : Int) = -1)) ∨ ((b : Int) < a ∧ Hid (cmpI (a : Int) (b : Int) = 1)) ∨ ((¬ (a : Int) < b ∧ ¬ (b : Int) < a) ∧ Hid (cmpI (a : Int) (b : Int) = 0)) := by
    by_cases h1 : (a : Int) < b
    · exact .inl ⟨h1, Lib.hid (cmpI_lt h1)⟩
    · by_cases h2 : (b : Int) < a
      · exact .inr (.inl ⟨h2, Lib.hid (cmpI_gt h2)⟩)
      · exact .inr (.inr ⟨⟨h1, h2⟩, Lib.hid (cmpI_eq h1 h2)⟩)
  generalize cmpI (a : Int) (b : Int) = r at *
  rcases hc with ⟨h1, hr⟩ | ⟨h1, hr⟩ | ⟨⟨h1, h2⟩, hr⟩
  all_goals
    go_enter Tryd.func42, Tryd.ntmps42
    go_wp2_with (go_at_call 66; refine (isNaNI_any _ _).mono ?_; rintro e w' ⟨rfl, rfl⟩)
    go_ret
    exact ⟨ret_eq (by rw [hr.out]; rfl), rfl⟩
set_option maxHeartbeats 1000000 in
theorem or_any (g : Nat) (a b c r : Int) (hr : or3 a b c = r) (w : World) (h0 : w.cell? ⟨g, 0, none⟩ = some (.int .i64 a)) (h1 : w.cell? ⟨g, 1, none⟩ = some (.int .i64 b)) (h2 : w.cell? ⟨g, 2, none⟩ = some (.int .i64 c)) :
    Calls Tryd.prog 40 #[.slice (some ⟨g, 0, none⟩) 3 3] w fun e w' => e = .returned (.int .i64 r) ∧ w = w' := by
  have HR := Lib.hid hr
  clear hr
  go_enter Tryd.func40, Tryd.ntmps40
  go_wp2
  go_loop [8] (fun i => (i = .int .i64 0) ∨ (i = .int .i64 1 ∧ a = 0) ∨ (i = .int .i64 2 ∧ a = 0 ∧ b = 0) ∨ (i = .int .i64 3 ∧ a = 0 ∧ b = 0 ∧ c = 0)) (fun i => (3 - intOf i).toNat)
  case atStart => exact Or.inl rfl
  case round =>
    rcases hrel with rfl | ⟨rfl, ha⟩ | ⟨rfl, ha, hb⟩ | ⟨rfl, ha, hb, hc⟩
    · by_cases ha : a = 0
      · have ha' : (a == 0) = true := by simpa using ha
        have HA := Lib.hid ha
        clear ha
        go_wp2
        go_round
        case rel => exact Or.inr (Or.inl ⟨rfl, HA.out⟩)
        case measure => simp [intOf]
      · have ha' : (a != 0) = true := by simpa using ha
        go_wp2
        go_ret
        exact ⟨ret_eq (by rw [← HR.out]; unfold or3; rw [if_pos ha]; rfl), rfl⟩
    · have HA := Lib.hid ha
      clear ha
      by_cases hb : b = 0
      · have HB := Lib.hid hb
        have hb' : (b == 0) = true := by simpa using hb
        clear hb
        go_wp2
        go_round
        case rel => exact Or.inr (Or.inr (Or.inl ⟨rfl, HA.out, HB.out⟩))
        case measure => simp [intOf]
      · go_wp2
        go_ret
        exact ⟨ret_eq (by rw [← HR.out]; unfold or3; rw [if_neg (by rw [HA.out]; decide), if_pos hb]; rfl), rfl⟩
    · have HA := Lib.hid ha
      have HB := Lib.hid hb
      clear ha hb
      by_cases hc : c = 0
      · have HC := Lib.hid hc
        have hc' : (c == 0) = true := by simpa using hc
        clear hc
        go_wp2
        go_round
        case rel => exact Or.inr (Or.inr (Or.inr ⟨rfl, HA.out, HB.out, HC.out⟩))
        case measure => simp [intOf]
      · go_wp2
        go_ret
        exact ⟨ret_eq (by rw [← HR.out]; unfold or3; rw [if_neg (by rw [HA.out]; decide), if_neg (by rw [HB.out]; decide)]; rfl), rfl⟩
    · have HA := Lib.hid ha
      have HB := Lib.hid hb
      have HC := Lib.hid hc
      clear ha hb hc
      go_wp2
      go_ret
      exact ⟨ret_eq (by rw [← HR.out]; unfold or3; rw [if_neg (by rw [HA.out]; decide), if_neg (by rw [HB.out]; decide), HC.out]; rfl), rfl⟩
end Go.Proofs.YtbimfopbilcdgaaDoor

set_option linter.unusedSimpArgs false
set_option linter.unusedVariables false
namespace Go.Proofs.YtbimfopbilcdgaaDoor
open Go.RowKit Go.Sort

theorem row_alloc' {w : World} {g : Nat} {o : Obj} (h : w.heap[g]? = some o) (q : Obj) : (w.alloc q).heap[g]? = some o := (Below.heap_alloc _ _ _ (Array.getElem?_eq_some_iff.1 h).1).trans h
theorem heap_new (w : World) (o : Obj) : (w.alloc o).heap[w.heap.size]? = some o := by show (w.heap.push o)[w.heap.size]? = _; simp
/-- Draws and new blocks, and nothing else. -/
def Grew (w w' : World) : Prop := ∃ q os, w' = grow (w.drewN q) os
theorem Grew.refl (w : World) : Grew w w := ⟨0, #[], by rw [grow_empty]; rfl⟩
theorem drewN_grow' (w : World) (os : Array Obj) (n : Nat) : (grow w os).drewN n = grow (w.drewN n) os := rfl
theorem drewN_add (w : World) (m n : Nat) : (w.drewN m).drewN n = w.drewN (m + n) := by
  unfold World.drewN; simp; omega
theorem Grew.trans {a b c : World} (h : Grew a b) (h' : Grew b c) : Grew a c := by
  obtain ⟨q, os, rfl⟩ := h
  obtain ⟨q', os', rfl⟩ := h'
  exact ⟨q + q', os ++ os', by rw [drewN_grow', drewN_add, grow_grow]⟩
theorem Grew.alloc {a b : World} (h : Grew a b) (o : Obj) : Grew a (b.alloc o) := h.trans ⟨0, #[o], by rw [alloc_eq_grow]; rfl⟩
theorem Grew.drew {a b : World} (h : Grew a b) : Grew a b.drew := h.trans ⟨1, #[], by rw [grow_empty]; rfl⟩

end Go.Proofs.YtbimfopbilcdgaaDoor

set_option linter.unusedSimpArgs false
set_option linter.unusedVariables false
namespace Go.Proofs.YtbimfopbilcdgaaDoor
open Go.RowKit Go.Sort

theorem cells_len (x : Ev) : x.cells.length = 5 := rfl
theorem cells_one (x : Ev) : ∀ v ∈ x.cells, v.oneCell' = true := fun v hv => by
  simp only [Ev.cells, List.mem_cons, List.not_mem_nil, or_false] at hv
  rcases hv with rfl | rfl | rfl | rfl | rfl <;> rfl
def evs (l : List Ev) : List Value := l.flatMap Ev.cells
theorem evs_length (l : List Ev) : (evs l).length = l.length * 5 := by
  induction l with
  | nil => rfl
  | cons x r ih => unfold evs at *; rw [List.flatMap_cons, List.length_append, ih, cells_len, List.length_cons]; omega
theorem evs_one (l : List Ev) : ∀ v ∈ evs l, v.oneCell' = true := fun v hv => by
  obtain ⟨x, -, hx⟩ := List.mem_flatMap.1 hv
  exact cells_one x v hx
theorem evs_get (l : List Ev) (k j : Nat) (hj : j < 5) : (evs l)[k * 5 + j]? = (l[k]?).bind fun x => x.cells[j]? := by
  induction l generalizing k with
  | nil => simp [evs]
  | cons x r ih =>
    unfold evs at *
    rw [List.flatMap_cons]
    rcases k with _ | k
    · rw [List.getElem?_append_left (by rw [cells_len]; omega)]; simp
    · rw [List.getElem?_append_right (by rw [cells_len]; omega), cells_len, show (k + 1) * 5 + j - 5 = k * 5 + j by omega, ih]; simp
/-- A slice value that holds some events, in a world. -/
def EvAt (w : World) (a : Option Addr) (l : List Ev) : Prop := ∀ (j : Nat) (v : Value), (evs l)[j]? = some v → ∃ g off, a = some ⟨g, off, none⟩ ∧ g < w.heap.size ∧ w.cell? ⟨g, off + j, none⟩ = some v
theorem EvAt.keep {w w' : World} {a : Option Addr} {l : List Ev} (h : EvAt w a l) (hb : Below w.heap.size w w') : EvAt w' a l := fun j v hv => by
  obtain ⟨g, off, h2, h3, h4⟩ := h j v hv
  exact ⟨g, off, h2, Nat.lt_of_lt_of_le h3 hb.size, (hb.cell (p := ⟨g, off + j, none⟩) h3).trans h4⟩
theorem flatK_evs (l : List Ev) : (flatK Ev.cells 5 l.toArray).toList = evs l := by
  apply List.ext_getElem?
  intro t
  by_cases ht : t < l.length * 5
  · have h1 := get_flatK Ev.cells 5 l.toArray t (by simpa using ht)
    have h2 := evs_get l (t / 5) (t % 5) (by omega)
    rw [show t / 5 * 5 + t % 5 = t by omega] at h2
    rw [h2]
    have h3 : t / 5 < l.length := by omega
    rw [List.getElem?_eq_getElem h3]
    rw [getElem!_pos _ t (by simpa using ht)] at h1
    rw [Array.getElem?_toList, Array.getElem?_eq_getElem (by simpa using ht), h1]
    simp only [Option.bind_some]
    rw [show l.toArray[t / 5]! = l[t / 5] from by simp [getElem!_pos, h3]]
    rw [getElem!_pos _ (t % 5) (by rw [cells_len]; omega), List.getElem?_eq_getElem (by rw [cells_len]; omega)]
  · rw [List.getElem?_eq_none (by simp; omega), List.getElem?_eq_none (by rw [evs_length]; omega)]
theorem below_grow {B : Nat} {w0 w : World} (h : Below B w0 w) (hB : B ≤ w.heap.size) (os : Array Obj) : Below B w0 (grow w os) :=
  ⟨h.os, h.tape, h.output, Nat.le_trans h.size (by simp), fun k hk => by rw [heap_grow_old _ _ (Nat.lt_of_lt_of_le hk hB)]; exact h.block k hk⟩
theorem below_sortW {B : Nat} {w0 w : World} {g q : Nat} {d : Array Ev} {os : Array Obj} (h : Below B w0 w) (hB : B ≤ w.heap.size) (hg : B ≤ g) : Below B w0 (sortWorldK Ev.cells 5 w g 0 q d os) :=
  below_grow (Lib.below_putRow h hg) (by simpa [putRow, mapBlock, Sort.ahead] using hB) os
end Go.Proofs.YtbimfopbilcdgaaDoor

set_option linter.unusedSimpArgs false
set_option linter.unusedVariables false
namespace Go.Proofs.YtbimfopbilcdgaaDoor
open Go.RowKit Go.Sort

/-- The row as it is behind a sort. -/
def SortW (w : World) (g : Nat) (d : Array Ev) (w' : World) : Prop := ∃ q os, w' = sortWorldK Ev.cells 5 w g 0 q d os
def sortE (l : List Ev) : List Ev := (insertionSort (ltOf evCmp) l.toArray 0 l.length).toList

theorem insOuter_size (lt : Ev → Ev → Bool) (a b : Nat) : ∀ (k i : Nat) (d : Array Ev), b - i ≤ k → (insOuter lt a b i d).size = d.size
  | 0, i, d, h => by unfold insOuter; rw [if_neg (by omega)]
  | k + 1, i, d, h => by
    unfold insOuter
    split
    · rw [insOuter_size lt a b k (i + 1) _ (by omega)]
      have : ∀ (j : Nat) (d : Array Ev), (insInner lt a j d).size = d.size := by
        intro j
        induction j with
        | zero => intro d; rfl
        | succ j ih =>
          intro d
          unfold insInner
          split
          · rw [ih]; exact size_swp ..
          · rfl
      exact this i d
    · rfl
theorem sortE_len (l : List Ev) : (sortE l).length = l.length := by
  unfold sortE insertionSort
  rw [Array.length_toList, insOuter_size _ _ _ l.length _ _ (by omega)]; rfl
end Go.Proofs.YtbimfopbilcdgaaDoor

set_option linter.unusedSimpArgs false
set_option linter.unusedVariables false
namespace Go.Proofs.YtbimfopbilcdgaaDoor
open Go.RowKit Go.Sort

def evB : Ev := ⟨0, 0, 1, { data := #[98] }, 0⟩
def evA2 : Ev := ⟨0, 0, 2, { data := #[97] }, 0⟩
def evA1 : Ev := ⟨0, 0, 1, { data := #[97] }, 0⟩
theorem sort_awake : evs (sortE [evB, evA2, evA1]) = evs [evA1, evA2, evB] := by kernel_rfl
theorem evAt_new (w : World) (l : List Ev) (cs : Array Value) (hcs : cs.toList = evs l) (t : TypeId) : EvAt (w.alloc (.cells cs t)) (some ⟨w.heap.size, 0, none⟩) l := fun j v hv => by
  refine ⟨w.heap.size, 0, rfl, by simp, ?_⟩
  rw [Nat.zero_add, cell_of_row _ _ _ _ _ _ (heap_new w _), ← Array.getElem?_toList, hcs]; exact hv

end Go.Proofs.YtbimfopbilcdgaaDoor

set_option linter.unusedSimpArgs false
set_option linter.unusedVariables false
namespace Go.Proofs.YtbimfopbilcdgaaDoor
open Go.RowKit Go.Sort

theorem Grew.below {w w' : World} (h : Grew w w') : Below w.heap.size w w' := by
  obtain ⟨q, os, rfl⟩ := h
  have h : Below w.heap.size w (w.drewN q) := ⟨rfl, rfl, rfl, Nat.le_refl _, fun _ _ => rfl⟩
  exact below_grow h h.size os
def lessB (x y : Ev) : Bool := decide (evCmp x y < 0)
def formB (x : Ev) (p : Int) : Bool := decide (0 ≤ x.part) && decide (x.part < p) && decide (-1099511627776 ≤ x.time) && decide (x.time ≤ 1099511627776) && decide (x.key.size ≤ 32) && decide (x.off < 1099511627776)
def keqB (x y : Ev) : Bool := x.key.toList == y.key.toList
def sameB (x y : Ev) : Bool := decide ((x.off : Int) = (y.off : Int)) && decide (x.part = y.part) && decide (x.time = y.time) && keqB x y && decide (Fl.canon x.val = Fl.canon y.val)
def parts4 (a b c d : Bool) (r s : Bool) : Prop := s = (a && b && c && d && r)
theorem cmp_less : ∀ a b : List UInt8, Lib.compareBytes a b = if (a == b) = true then 0 else if Op.bytesLess a b = true then -1 else 1
  | [], [] => rfl
  | [], _ :: _ => rfl
  | _ :: _, [] => rfl
  | a :: la, b :: lb => by
    have ih := cmp_less la lb
    unfold Lib.compareBytes Op.bytesLess
    by_cases h1 : a < b
    · have : a ≠ b := fun e => by rw [e] at h1; exact absurd h1 (UInt8.lt_irrefl _)
      simp [h1, this]
    · by_cases h2 : b < a
      · have : a ≠ b := fun e => by rw [e] at h2; exact absurd h2 (UInt8.lt_irrefl _)
        simp [h1, h2, this]
      · have : a = b := UInt8.le_antisymm (UInt8.not_lt.1 h2) (UInt8.not_lt.1 h1)
        subst this
        simp only [h1, h2, if_false, ih]
        simp
theorem keq_iff (x y : Ev) : keqB x y = (x.key.data.toList == y.key.data.toList) := by
  unfold keqB
  rw [ByteArray.toList_eq, ByteArray.toList_eq]
theorem less_key (x y : Ev) (h : keqB x y = false) : lessB x y = Op.bytesLess x.key.toList y.key.toList := by
  rw [keq_iff] at h
  unfold lessB evCmp cmpK or3
  rw [cmp_less, h, ByteArray.toList_eq, ByteArray.toList_eq]
  cases Op.bytesLess x.key.data.toList y.key.data.toList <;> simp
theorem less_time (x y : Ev) (h : keqB x y = true) (ht : x.time ≠ y.time) : lessB x y = decide (x.time < y.time) := by
  rw [keq_iff] at h
  unfold lessB evCmp cmpK or3
  rw [cmp_less, h, decide_eq_decide]
  unfold cmpI
  by_cases h1 : x.time < y.time
  · simp [h1]
  · have h2 : y.time < x.time := by omega
    simp [h1, h2]
theorem less_off (x y : Ev) (h : keqB x y = true) (ht : x.time = y.time) : lessB x y = decide ((x.off : Int) < (y.off : Int)) := by
  rw [keq_iff] at h
  unfold lessB evCmp cmpK or3
  rw [cmp_less, h, decide_eq_decide]
  unfold cmpI
  rw [ht]
  by_cases h1 : (x.off : Int) < (y.off : Int)
  · simp [h1]
  · by_cases h2 : (y.off : Int) < (x.off : Int)
    · simp [h1, h2]
    · simp [h1, h2]
end Go.Proofs.YtbimfopbilcdgaaDoor

set_option linter.unusedSimpArgs false
set_option linter.unusedVariables false
namespace Go.Proofs.YtbimfopbilcdgaaDoor
open Go.RowKit Go.Sort

section
variable {α : Type} (lt : α → α → Bool)
def insR (x : α) : List α → List α
  | [] => [x]
  | e :: r => if lt x e then e :: insR x r else x :: e :: r
def insB (x : α) (s : List α) : List α := (insR lt x s.reverse).reverse
def smerge (s t : List α) : List α := t.foldl (fun s x => insB lt x s) s
def isort (l : List α) : List α := smerge lt [] l
variable {lt}
theorem insR_left (y : α) (T S : List α) (h : ∀ x ∈ T, lt y x = true) : insR lt y (T ++ S) = T ++ insR lt y S := by
  induction T with
  | nil => rfl
  | cons e r ih => rw [List.cons_append, insR, if_pos (h e (by simp)), ih (fun x hx => h x (by simp [hx])), List.cons_append]
theorem insR_right (y : α) (T S : List α) (h : ∀ x ∈ S, lt y x = false) : insR lt y (T ++ S) = insR lt y T ++ S := by
  induction T with
  | nil =>
    rcases S with _ | ⟨e, r⟩
    · rfl
    · show insR lt y (e :: r) = [y] ++ e :: r
      rw [insR, if_neg (by rw [h e (by simp)]; decide)]; rfl
  | cons e r ih =>
    rw [List.cons_append, insR, insR]
    by_cases he : lt y e = true
    · rw [if_pos he, if_pos he, ih]; rfl
    · rw [if_neg he, if_neg he]; rfl
theorem insB_left (y : α) (S T : List α) (h : ∀ x ∈ T, lt y x = true) : insB lt y (S ++ T) = insB lt y S ++ T := by
  unfold insB; rw [List.reverse_append, insR_left y _ _ (fun x hx => h x (by simpa using hx)), List.reverse_append, List.reverse_reverse]
theorem insB_right (y : α) (S T : List α) (h : ∀ x ∈ S, lt y x = false) : insB lt y (S ++ T) = S ++ insB lt y T := by
  unfold insB; rw [List.reverse_append, insR_right y _ _ (fun x hx => h x (by simpa using hx)), List.reverse_append, List.reverse_reverse]
theorem insB_nil (x : α) : insB lt x [] = [x] := rfl
theorem insB_snoc (x e : α) (r : List α) : insB lt x (r ++ [e]) = if lt x e = true then insB lt x r ++ [e] else r ++ [e, x] := by
  unfold insB; rw [List.reverse_append]
  show (insR lt x (e :: r.reverse)).reverse = _
  rw [insR]; split <;> simp
theorem insR_mem (y x : α) (T : List α) : x ∈ insR lt y T ↔ x = y ∨ x ∈ T := by
  induction T with
  | nil => simp [insR]
  | cons e r ih =>
    rw [insR]; split
    · rw [List.mem_cons, ih, List.mem_cons]
      constructor
      · rintro (h | h | h)
        · exact .inr (.inl h)
        · exact .inl h
        · exact .inr (.inr h)
      · rintro (h | h | h)
        · exact .inr (.inl h)
        · exact .inl h
        · exact .inr (.inr h)
    · rw [List.mem_cons]
theorem insR_len (y : α) (T : List α) : (insR lt y T).length = T.length + 1 := by
  induction T with
  | nil => rfl
  | cons e r ih => rw [insR]; split <;> simp [ih]
theorem insB_mem (y x : α) (T : List α) : x ∈ insB lt y T ↔ x = y ∨ x ∈ T := by unfold insB; rw [List.mem_reverse, insR_mem, List.mem_reverse]
theorem insB_len (y : α) (T : List α) : (insB lt y T).length = T.length + 1 := by unfold insB; rw [List.length_reverse, insR_len, List.length_reverse]
theorem sm_cons (S : List α) (y : α) (R : List α) : smerge lt S (y :: R) = smerge lt (insB lt y S) R := rfl
theorem sm_nil_r (S : List α) : smerge lt S [] = S := rfl
theorem sm_append (S R1 R2 : List α) : smerge lt S (R1 ++ R2) = smerge lt (smerge lt S R1) R2 := by unfold smerge; rw [List.foldl_append]
theorem sm_mem (x : α) (S R : List α) : x ∈ smerge lt S R ↔ x ∈ S ∨ x ∈ R := by
  induction R generalizing S with
  | nil => simp [smerge]
  | cons y r ih => rw [sm_cons, ih, insB_mem, List.mem_cons]; constructor <;> (rintro h; grind)
theorem sm_len (S R : List α) : (smerge lt S R).length = S.length + R.length := by
  induction R generalizing S with
  | nil => simp [smerge]
  | cons y r ih => rw [sm_cons, ih, insB_len, List.length_cons]; omega
theorem sm_left (S T R : List α) (h : ∀ y ∈ R, ∀ x ∈ T, lt y x = true) : smerge lt (S ++ T) R = smerge lt S R ++ T := by
  induction R generalizing S with
  | nil => rfl
  | cons y r ih => rw [sm_cons, insB_left y S T (h y (by simp)), ih _ (fun z hz => h z (by simp [hz])), sm_cons]
theorem sm_right (S T R : List α) (h : ∀ y ∈ R, ∀ x ∈ S, lt y x = false) : smerge lt (S ++ T) R = S ++ smerge lt T R := by
  induction R generalizing T with
  | nil => rfl
  | cons y r ih => rw [sm_cons, insB_right y S T (h y (by simp)), ih _ (fun z hz => h z (by simp [hz])), sm_cons]
theorem sm_split (L1 L2 R1 R2 : List α) (hA : ∀ y ∈ R1, ∀ x ∈ L2, lt y x = true) (hB : ∀ y ∈ R2, ∀ x ∈ L1, lt y x = false) (hC : ∀ y ∈ R2, ∀ x ∈ R1, lt y x = false) : smerge lt (L1 ++ L2) (R1 ++ R2) = smerge lt L1 R1 ++ smerge lt L2 R2 := by
  rw [sm_append, sm_left L1 L2 R1 hA, sm_right _ _ _ (fun y hy x hx => ?_)]
  rcases (sm_mem x L1 R1).1 hx with h | h
  · exact hB y hy x h
  · exact hC y hy x h
/-- Each one is not less than those before it. -/
def Ordered (lt : α → α → Bool) (l : List α) : Prop := l.Pairwise fun x y => lt y x = false
theorem sm_nil (R : List α) (h : Ordered lt R) : smerge lt [] R = R := by
  induction R with
  | nil => rfl
  | cons y r ih =>
    rw [Ordered, List.pairwise_cons] at h
    rw [sm_cons, insB_nil, show [y] = [y] ++ [] from rfl, sm_right [y] [] r (fun z hz x hx => by simp at hx; subst hx; exact h.1 z hz), ih h.2]; rfl
/-- What an order has to be. -/
structure Wk (lt : α → α → Bool) : Prop where
  tr : ∀ x y z, lt x y = true → lt y z = true → lt x z = true
  asy : ∀ x y, lt x y = true → lt y x = false
  nt : ∀ x y z, lt x y = false → lt y z = false → lt x z = false
theorem Wk.mix (h : Wk lt) {x y z : α} (h1 : lt x y = true) (h2 : lt z y = false) : lt x z = true := by
  rcases hx : lt x z with _ | _
  · have := h.nt x z y hx h2; rw [h1] at this; cases this
  · rfl
theorem Wk.mix2 (h : Wk lt) {x y z : α} (h1 : lt y x = false) (h2 : lt y z = true) : lt x z = true := by
  rcases hx : lt x z with _ | _
  · have := h.nt y x z h1 hx; rw [h2] at this; cases this
  · rfl
theorem insR_comm (W : Wk lt) (y t : α) (U : List α) (h : lt y t = true) : insR lt y (insR lt t U) = insR lt t (insR lt y U) := by
  induction U with
  | nil =>
    show insR lt y [t] = insR lt t [y]
    rw [insR, if_pos h, insR, insR, if_neg (by rw [W.asy _ _ h]; decide)]
  | cons e r ih =>
    by_cases h1 : lt t e = true
    · have h2 : lt y e = true := W.tr _ _ _ h h1
      have e1 : insR lt t (e :: r) = e :: insR lt t r := by rw [insR, if_pos h1]
      have e2 : insR lt y (e :: r) = e :: insR lt y r := by rw [insR, if_pos h2]
      rw [e1, e2, insR, if_pos h2, insR, if_pos h1, ih]
    · have e1 : insR lt t (e :: r) = t :: e :: r := by rw [insR, if_neg h1]
      rw [e1, insR, if_pos h]
      by_cases h2 : lt y e = true
      · have e2 : insR lt y (e :: r) = e :: insR lt y r := by rw [insR, if_pos h2]
        rw [e2, insR, if_neg h1]
      · have e2 : insR lt y (e :: r) = y :: e :: r := by rw [insR, if_neg h2]
        rw [e2, insR, if_neg (by rw [W.asy _ _ h]; decide)]
theorem insB_comm (W : Wk lt) (y t : α) (U : List α) (h : lt y t = true) : insB lt y (insB lt t U) = insB lt t (insB lt y U) := by
  unfold insB; rw [List.reverse_reverse, List.reverse_reverse, insR_comm W y t _ h]
theorem snoc_cases (l : List α) : l = [] ∨ ∃ r e, l = r ++ [e] := by
  rcases h : l.reverse with _ | ⟨e, r⟩
  · left; simpa using h
  · right; exact ⟨r.reverse, e, by have := congrArg List.reverse h; simpa using this⟩
theorem insB_sm (W : Wk lt) (y : α) (S : List α) : ∀ (n : Nat) (T : List α), T.length = n → insB lt y (smerge lt S T) = smerge lt S (insB lt y T) := by
  intro n
  induction n with
  | zero => intro T hT; obtain rfl : T = [] := List.eq_nil_of_length_eq_zero hT; rfl
  | succ n ih =>
    intro T hT
    rcases snoc_cases T with rfl | ⟨r, e, rfl⟩
    · simp at hT
    · have hr : r.length = n := by simpa using hT
      rw [insB_snoc, sm_append]
      show insB lt y (insB lt e (smerge lt S r)) = _
      by_cases h : lt y e = true
      · rw [if_pos h, insB_comm W y e _ h, ih r hr, sm_append]; rfl
      · rw [if_neg h, show r ++ [e, y] = (r ++ [e]) ++ [y] by simp, sm_append, sm_append]; rfl
theorem sm_isort (W : Wk lt) (S : List α) : ∀ (n : Nat) (B : List α), B.length = n → smerge lt S B = smerge lt S (isort lt B) := by
  intro n
  induction n with
  | zero => intro B hB; obtain rfl : B = [] := List.eq_nil_of_length_eq_zero hB; rfl
  | succ n ih =>
    intro B hB
    rcases snoc_cases B with rfl | ⟨r, e, rfl⟩
    · simp at hB
    · have hr : r.length = n := by simpa using hB
      have e1 : isort lt (r ++ [e]) = insB lt e (isort lt r) := by unfold isort; rw [sm_append]; rfl
      rw [e1, ← insB_sm W e S _ _ rfl, ← ih r hr, sm_append]; rfl
theorem isort_append (W : Wk lt) (A B : List α) : isort lt (A ++ B) = smerge lt (isort lt A) (isort lt B) := by
  unfold isort; rw [sm_append]; exact sm_isort W _ _ B rfl
theorem insR_ordered (W : Wk lt) (y : α) (U : List α) (h : U.Pairwise fun x z => lt x z = false) : (insR lt y U).Pairwise fun x z => lt x z = false := by
  induction U with
  | nil => exact List.pairwise_singleton _ _
  | cons e r ih =>
    rw [List.pairwise_cons] at h
    rw [insR]; split
    · rename_i h1
      rw [List.pairwise_cons]
      refine ⟨fun z hz => ?_, ih h.2⟩
      rcases (insR_mem y z r).1 hz with rfl | hz
      · exact W.asy _ _ h1
      · exact h.1 z hz
    · rename_i h1
      have h1' : lt y e = false := by simpa using h1
      rw [List.pairwise_cons, List.pairwise_cons]
      refine ⟨fun z hz => ?_, h⟩
      rcases List.mem_cons.1 hz with rfl | hz
      · exact h1'
      · exact W.nt _ _ _ h1' (h.1 z hz)
theorem insB_ordered (W : Wk lt) (y : α) (U : List α) (h : Ordered lt U) : Ordered lt (insB lt y U) := by
  unfold Ordered insB
  rw [List.pairwise_reverse]
  exact insR_ordered W y _ (by rw [List.pairwise_reverse]; exact h)
theorem sm_ordered (W : Wk lt) (S R : List α) (h : Ordered lt S) : Ordered lt (smerge lt S R) := by
  induction R generalizing S with
  | nil => exact h
  | cons y r ih => rw [sm_cons]; exact ih _ (insB_ordered W y S h)
theorem isort_ordered (W : Wk lt) (l : List α) : Ordered lt (isort lt l) := sm_ordered W [] l List.Pairwise.nil
theorem isort_len (l : List α) : (isort lt l).length = l.length := by unfold isort; rw [sm_len]; simp
/-- A stretch of a list. -/
def seg (l : List α) (a b : Nat) : List α := (l.drop a).take (b - a)
theorem seg_len (l : List α) (a b : Nat) (h : b ≤ l.length) : (seg l a b).length = b - a := by unfold seg; rw [List.length_take, List.length_drop]; omega
theorem seg_join (l : List α) (a m b : Nat) (h1 : a ≤ m) (h2 : m ≤ b) : seg l a m ++ seg l m b = seg l a b := by
  unfold seg
  have e : (l.drop a).take (b - a) = (l.drop a).take (m - a) ++ ((l.drop a).drop (m - a)).take (b - m) := by
    rw [← List.take_add, show m - a + (b - m) = b - a by omega]
  rw [e, List.drop_drop, show a + (m - a) = m by omega]
theorem cut3 (l : List α) (a b : Nat) (h : a ≤ b) : l = l.take a ++ (seg l a b ++ l.drop b) := by
  unfold seg
  have e : l.drop a = (l.drop a).take (b - a) ++ (l.drop a).drop (b - a) := (List.take_append_drop _ _).symm
  rw [List.drop_drop, show a + (b - a) = b by omega] at e
  rw [← e, List.take_append_drop]
theorem seg_of (P L Q : List α) (a b : Nat) (ha : P.length = a) (hb : P.length + L.length = b) : seg (P ++ (L ++ Q)) a b = L := by
  unfold seg; rw [List.drop_left' ha, List.take_left' (by omega)]
theorem take_of (P L : List α) (a : Nat) (ha : P.length = a) : (P ++ L).take a = P := List.take_left' ha
theorem drop_of (P L Q : List α) (b : Nat) (hb : P.length + L.length = b) : (P ++ (L ++ Q)).drop b = Q := by
  rw [← List.append_assoc]; exact List.drop_left' (by rw [List.length_append]; exact hb)
/-- A stretch sorted; two stretches made one. -/
def mrg (lt : α → α → Bool) (l : List α) (a m b : Nat) : List α := l.take a ++ (smerge lt (seg l a m) (seg l m b) ++ l.drop b)
def srt (lt : α → α → Bool) (l : List α) (a b : Nat) : List α := l.take a ++ (isort lt (seg l a b) ++ l.drop b)
theorem mrg_len (l : List α) (a m b : Nat) (h1 : a ≤ m) (h2 : m ≤ b) (h3 : b ≤ l.length) : (mrg lt l a m b).length = l.length := by
  unfold mrg; rw [List.length_append, List.length_append, sm_len, seg_len _ _ _ (by omega), seg_len _ _ _ h3, List.length_take, List.length_drop]; omega
theorem srt_len (l : List α) (a b : Nat) (h1 : a ≤ b) (h3 : b ≤ l.length) : (srt lt l a b).length = l.length := by
  unfold srt; rw [List.length_append, List.length_append, isort_len, seg_len _ _ _ h3, List.length_take, List.length_drop]; omega
variable [Inhabited α]
theorem seg_mem (l : List α) (a b : Nat) (h : b ≤ l.length) (x : α) (hx : x ∈ seg l a b) : ∃ i, a ≤ i ∧ i < b ∧ l[i]! = x := by
  obtain ⟨i, hi, e⟩ := List.mem_iff_getElem.1 hx
  rw [seg_len _ _ _ h] at hi
  refine ⟨a + i, by omega, by omega, ?_⟩
  rw [getElem!_pos l (a + i) (by omega), ← e]
  simp [seg]
theorem seg_get (l : List α) (a b i : Nat) (h : b ≤ l.length) (hi : i < b - a) : (seg l a b)[i]! = l[a + i]! := by
  rw [getElem!_pos (seg l a b) i (by rw [seg_len _ _ _ h]; exact hi), getElem!_pos l (a + i) (by omega)]
  simp [seg]
theorem ordered_get {l : List α} (h : Ordered lt l) (i j : Nat) (hij : i < j) (hj : j < l.length) : lt l[j]! l[i]! = false := by
  have h1 := List.pairwise_iff_getElem.1 h i j (by omega) hj hij
  rw [getElem!_pos l i (by omega), getElem!_pos l j hj]; exact h1
theorem ordered_seg {l : List α} {a b : Nat} (h : Ordered lt (seg l a b)) (hb : b ≤ l.length) (i j : Nat) (ha : a ≤ i) (hij : i < j) (hj : j < b) : lt l[j]! l[i]! = false := by
  have h1 := ordered_get h (i - a) (j - a) (by omega) (by rw [seg_len _ _ _ hb]; omega)
  rw [seg_get _ _ _ _ hb (by omega), seg_get _ _ _ _ hb (by omega), show a + (j - a) = j by omega, show a + (i - a) = i by omega] at h1
  exact h1
end
end Go.Proofs.YtbimfopbilcdgaaDoor

set_option linter.unusedSimpArgs false
set_option linter.unusedVariables false
namespace Go.Proofs.YtbimfopbilcdgaaDoor
open Go.RowKit Go.Sort

theorem kb_self : ∀ a : List UInt8, Lib.compareBytes a a = 0
  | [] => rfl
  | x :: r => by unfold Lib.compareBytes; simp [UInt8.lt_irrefl, kb_self r]
theorem kb_neg : ∀ a b : List UInt8, Lib.compareBytes b a = - Lib.compareBytes a b
  | [], [] => rfl
  | [], _ :: _ => rfl
  | _ :: _, [] => rfl
  | x :: r, y :: s => by
    unfold Lib.compareBytes
    by_cases h1 : x < y
    · have h2 : ¬ y < x := fun h => by rw [UInt8.lt_iff_toNat_lt] at *; omega
      simp [h1, h2]
    · by_cases h2 : y < x
      · simp [h1, h2]
      · simp [h1, h2, kb_neg r s]
theorem kb_eq : ∀ a b : List UInt8, Lib.compareBytes a b = 0 → a = b
  | [], [], _ => rfl
  | [], _ :: _, h => by simp [Lib.compareBytes] at h
  | _ :: _, [], h => by simp [Lib.compareBytes] at h
  | x :: r, y :: s, h => by
    unfold Lib.compareBytes at h
    by_cases h1 : x < y
    · simp [h1] at h
    · by_cases h2 : y < x
      · simp [h1, h2] at h
      · simp [h1, h2] at h
        have e : x = y := by
          apply UInt8.toNat_inj.1
          rw [UInt8.lt_iff_toNat_lt] at h1 h2; omega
        rw [e, kb_eq r s h]
theorem kb_trans : ∀ a b c : List UInt8, Lib.compareBytes a b < 0 → Lib.compareBytes b c < 0 → Lib.compareBytes a c < 0
  | [], [], _, h, _ => by simp [Lib.compareBytes] at h
  | _ :: _, [], _, h, _ => by simp [Lib.compareBytes] at h
  | _, _ :: _, [], _, h => by simp [Lib.compareBytes] at h
  | [], _ :: _, _ :: _, _, _ => by simp [Lib.compareBytes]
  | x :: r, y :: s, z :: t, h1, h2 => by
    unfold Lib.compareBytes at h1 h2 ⊢
    have ih := kb_trans r s t
    simp only [UInt8.lt_iff_toNat_lt] at *
    by_cases a1 : x.toNat < y.toNat
    · by_cases a2 : y.toNat < z.toNat
      · simp [show x.toNat < z.toNat by omega]
      · by_cases a3 : z.toNat < y.toNat
        · simp [a2, a3] at h2
        · simp [show x.toNat < z.toNat by omega]
    · by_cases b1 : y.toNat < x.toNat
      · simp [a1, b1] at h1
      · simp only [a1, b1, if_false] at h1
        by_cases a2 : y.toNat < z.toNat
        · simp [show x.toNat < z.toNat by omega]
        · by_cases a3 : z.toNat < y.toNat
          · simp [a2, a3] at h2
          · simp only [a2, a3, if_false] at h2
            simp only [show ¬ x.toNat < z.toNat by omega, show ¬ z.toNat < x.toNat by omega, if_false]
            exact ih h1 h2
theorem ek_neg (a b : ByteArray) : cmpK b a = - cmpK a b := kb_neg _ _
theorem ek_eq {a b : ByteArray} (h : cmpK a b = 0) : a = b := by
  have := kb_eq _ _ h
  have h2 : a.data = b.data := by rw [← Array.toList_inj]; exact this
  cases a; cases b; simp at h2; rw [h2]
theorem ek_self (a : ByteArray) : cmpK a a = 0 := kb_self _
/-- Less, said by the parts. -/
def Lss (x y : Ev) : Prop := cmpK x.key y.key < 0 ∨ (x.key = y.key ∧ (x.time < y.time ∨ (x.time = y.time ∧ x.off < y.off)))
theorem lss_iff (x y : Ev) : evCmp x y < 0 ↔ Lss x y := by
  unfold evCmp or3 Lss
  by_cases h1 : cmpK x.key y.key = 0
  · have hk := ek_eq h1
    have hs := ek_self y.key
    rw [if_neg (by omega)]
    unfold cmpI
    by_cases h2 : x.time < y.time
    · simp [h1, hk, hs, h2]
    · by_cases h3 : y.time < x.time
      · simp [h1, hk, hs, h2, h3]; omega
      · have ht : x.time = y.time := by omega
        simp [h1, hk, hs, ht]
        by_cases h4 : x.off < y.off
        · simp [h4]
        · by_cases h5 : y.off < x.off <;> simp [h4, h5]
  · rw [if_pos h1]
    constructor
    · intro h; exact .inl h
    · rintro (h | ⟨h, -⟩)
      · exact h
      · rw [h, ek_self] at h1; exact absurd rfl h1
theorem lt_iff (x y : Ev) : ltOf evCmp x y = true ↔ Lss x y := by unfold ltOf; rw [decide_eq_true_eq, lss_iff]
theorem lt_no (x y : Ev) : ltOf evCmp x y = false ↔ ¬ Lss x y := by rw [← lt_iff]; simp
theorem wkE : Wk (ltOf evCmp) := by
  refine ⟨fun x y z h1 h2 => ?_, fun x y h => ?_, fun x y z h1 h2 => ?_⟩
  · rw [lt_iff] at *
    rcases h1 with h1 | ⟨e1, h1⟩ <;> rcases h2 with h2 | ⟨e2, h2⟩
    · exact .inl (kb_trans _ _ _ h1 h2)
    · exact .inl (by rw [← e2]; exact h1)
    · exact .inl (by rw [e1]; exact h2)
    · exact .inr ⟨e1.trans e2, by omega⟩
  · rw [lt_iff] at h; rw [lt_no]
    rintro h2
    rcases h with h | ⟨e, h⟩ <;> rcases h2 with h2 | ⟨e2, h2⟩
    · rw [ek_neg] at h2; omega
    · rw [e2, ek_self] at h; omega
    · rw [e, ek_self] at h2; omega
    · omega
  · rw [lt_no] at *
    rintro h
    have key : ∀ a b : Ev, ¬ Lss a b → cmpK b.key a.key < 0 ∨ (a.key = b.key ∧ (b.time < a.time ∨ (b.time = a.time ∧ b.off ≤ a.off))) := fun a b hn => by
      unfold Lss at hn
      by_cases hk : cmpK a.key b.key = 0
      · right; have := ek_eq hk; refine ⟨this, ?_⟩
        have h3 : ¬ (a.time < b.time ∨ (a.time = b.time ∧ a.off < b.off)) := fun h => hn (.inr ⟨this, h⟩)
        omega
      · left; rw [ek_neg]
        have h3 : ¬ cmpK a.key b.key < 0 := fun h => hn (.inl h)
        omega
    have k1 := key x y h1
    have k2 := key y z h2
    rcases k1 with k1 | ⟨e1, k1⟩ <;> rcases k2 with k2 | ⟨e2, k2⟩ <;> rcases h with h | ⟨e, h⟩
    · have h3 := kb_trans _ _ _ k2 k1; have h4 : cmpK x.key z.key < 0 := h; rw [ek_neg] at h4; have h5 : cmpK z.key x.key < 0 := h3; omega
    · have h3 : cmpK z.key x.key < 0 := kb_trans _ _ _ k2 k1; rw [e, ek_self] at h3; omega
    · rw [e2] at k1; rw [ek_neg] at h; omega
    · rw [e2, ← e, ek_self] at k1; omega
    · rw [← e1] at k2; rw [ek_neg] at h; omega
    · rw [← e1, e, ek_self] at k2; omega
    · rw [e1, e2, ek_self] at h; omega
    · omega
theorem ext_get! {l m : List Ev} (h : l.length = m.length) (hg : ∀ i, i < l.length → l[i]! = m[i]!) : l = m := by
  apply List.ext_getElem h
  intro i h1 h2
  have := hg i h1
  rwa [getElem!_pos l i h1, getElem!_pos m i h2] at this
theorem ta_get (l : List Ev) (i : Nat) : l.toArray[i]! = l[i]! := by simp
/-- Two are exchanged. -/
def lswp (l : List Ev) (i j : Nat) : List Ev := (swp l.toArray i j).toList
theorem lswp_arr (l : List Ev) (i j : Nat) : swp l.toArray i j = (lswp l i j).toArray := by unfold lswp; simp
theorem lswp_len (l : List Ev) (i j : Nat) : (lswp l i j).length = l.length := by unfold lswp; rw [Array.length_toList, swp_size]; simp
theorem lswp_get (l : List Ev) {i j : Nat} (hi : i < l.length) (hj : j < l.length) (k : Nat) : (lswp l i j)[k]! = if k = j then l[i]! else if k = i then l[j]! else l[k]! := by
  have h := swp_get l.toArray (i := i) (j := j) (by simpa using hi) (by simpa using hj) k
  rw [lswp_arr, ta_get, ta_get, ta_get, ta_get] at h; exact h
theorem get!_left (l m : List Ev) (i : Nat) (h : i < l.length) : (l ++ m)[i]! = l[i]! := by
  rw [getElem!_pos (l ++ m) i (by rw [List.length_append]; omega), getElem!_pos l i h, List.getElem_append_left h]
theorem get!_right (l m : List Ev) (i : Nat) (h1 : l.length ≤ i) (h2 : i < l.length + m.length) : (l ++ m)[i]! = m[i - l.length]! := by
  rw [getElem!_pos (l ++ m) i (by rw [List.length_append]; omega), getElem!_pos m (i - l.length) (by omega), List.getElem_append_right h1]
/-- Neighbours are exchanged. -/
theorem lswp_adj (P Q : List Ev) (x y : Ev) : lswp (P ++ x :: y :: Q) (P.length + 1) P.length = P ++ y :: x :: Q ∧ lswp (P ++ x :: y :: Q) P.length (P.length + 1) = P ++ y :: x :: Q := by
  have hl : (P ++ x :: y :: Q).length = P.length + 2 + Q.length := by simp; omega
  have hx : (P ++ x :: y :: Q)[P.length]! = x := by rw [get!_right _ _ _ (Nat.le_refl _) (by simp), Nat.sub_self]; rfl
  have hy : (P ++ x :: y :: Q)[P.length + 1]! = y := by rw [get!_right _ _ _ (by omega) (by simp), show P.length + 1 - P.length = 1 by omega]; rfl
  have goal : ∀ k, k < (P ++ x :: y :: Q).length → (P ++ y :: x :: Q)[k]! = if k = P.length then y else if k = P.length + 1 then x else (P ++ x :: y :: Q)[k]! := fun k hk => by
    rcases Nat.lt_trichotomy k P.length with h | h | h
    · rw [if_neg (by omega), if_neg (by omega), get!_left _ _ _ h, get!_left _ _ _ h]
    · subst h; rw [if_pos rfl, get!_right _ _ _ (Nat.le_refl _) (by simp), Nat.sub_self]; rfl
    · rw [if_neg (by omega), get!_right P (y :: x :: Q) _ (by omega) (by simp at hk ⊢; omega), get!_right P (x :: y :: Q) _ (by omega) (by simp at hk ⊢; omega)]
      rcases h2 : k - P.length with _ | _ | n
      · omega
      · rw [if_pos (by omega)]; rfl
      · rw [if_neg (by omega)]; rfl
  constructor
  · refine ext_get! (by rw [lswp_len]; simp) fun k hk => ?_
    rw [lswp_len] at hk
    rw [lswp_get _ (by omega) (by omega), hx, hy, goal k hk]
  · refine ext_get! (by rw [lswp_len]; simp) fun k hk => ?_
    rw [lswp_len] at hk
    rw [lswp_get _ (by omega) (by omega), hx, hy, goal k hk]
    by_cases h1 : k = P.length
    · rw [if_neg (by omega), if_pos h1, if_pos h1]
    · rw [if_neg h1, if_neg h1]
/-- The library's sort by insertions, as lists. -/
theorem inner_list (P : List Ev) (x : Ev) : ∀ (n : Nat) (s Q : List Ev), s.length = n → insInner (ltOf evCmp) P.length (P.length + n) (P ++ (s ++ x :: Q)).toArray = (P ++ (insB (ltOf evCmp) x s ++ Q)).toArray := by
  intro n
  induction n with
  | zero =>
    intro s Q hs
    obtain rfl : s = [] := List.eq_nil_of_length_eq_zero hs
    rw [insInner_stop _ _ _ _ (.inl (by omega)), insB_nil]; rfl
  | succ n ih =>
    intro s Q hs
    rcases snoc_cases s with rfl | ⟨r, e, rfl⟩
    · simp at hs
    · have hr : r.length = n := by simpa using hs
      have e1 : P ++ (r ++ [e] ++ x :: Q) = (P ++ r) ++ e :: x :: Q := by simp
      have hj : (P ++ r).length = P.length + n := by simp [hr]
      have hx : ((P ++ r) ++ e :: x :: Q)[P.length + (n + 1)]! = x := by rw [get!_right _ _ _ (by omega) (by simp; omega), show P.length + (n + 1) - (P ++ r).length = 1 by omega]; rfl
      have he : ((P ++ r) ++ e :: x :: Q)[P.length + n]! = e := by rw [get!_right _ _ _ (by omega) (by simp; omega), show P.length + n - (P ++ r).length = 0 by omega]; rfl
      rw [e1, insB_snoc]
      by_cases h : ltOf evCmp x e = true
      · rw [if_pos h, insInner_go _ _ _ _ (by omega) (by rw [ta_get, ta_get, hx, show P.length + (n + 1) - 1 = P.length + n by omega, he]; exact h), show P.length + (n + 1) - 1 = P.length + n by omega, lswp_arr]
        have h2 := (lswp_adj (P ++ r) Q e x).1
        rw [hj] at h2
        rw [show P.length + (n + 1) = P.length + n + 1 by omega, h2, show P ++ r ++ x :: e :: Q = P ++ (r ++ x :: (e :: Q)) by simp, ih r (e :: Q) hr]
        simp
      · rw [if_neg h, insInner_stop _ _ _ _ (.inr (by rw [ta_get, ta_get, hx, show P.length + (n + 1) - 1 = P.length + n by omega, he]; simpa using h))]
        try simp
theorem outer_list (P Q : List Ev) : ∀ (n : Nat) (s t : List Ev), t.length = n → insOuter (ltOf evCmp) P.length (P.length + s.length + n) (P.length + s.length) (P ++ (s ++ (t ++ Q))).toArray = (P ++ (smerge (ltOf evCmp) s t ++ Q)).toArray := by
  intro n
  induction n with
  | zero =>
    intro s t ht
    obtain rfl : t = [] := List.eq_nil_of_length_eq_zero ht
    rw [insOuter_stop _ _ _ _ _ (by omega)]; rfl
  | succ n ih =>
    intro s t ht
    rcases t with _ | ⟨x, r⟩
    · simp at ht
    · have hr : r.length = n := by simpa using ht
      rw [insOuter_go _ _ _ _ _ (by omega), show s ++ (x :: r ++ Q) = s ++ x :: (r ++ Q) by simp, inner_list P x s.length s (r ++ Q) rfl, sm_cons, ← ih (insB (ltOf evCmp) x s) r hr, insB_len]
      rw [show P.length + s.length + (n + 1) = P.length + (s.length + 1) + n by omega, show P.length + s.length + 1 = P.length + (s.length + 1) by omega]
theorem ins_srt (l : List Ev) (a b : Nat) (hab : a ≤ b) (hb : b ≤ l.length) : insertionSort (ltOf evCmp) l.toArray a b = (srt (ltOf evCmp) l a b).toArray := by
  have hP : (l.take a).length = a := by rw [List.length_take]; omega
  have hc := cut3 l a b hab
  have hsl := seg_len l a b hb
  unfold srt isort insertionSort
  conv => lhs; rw [hc]
  rcases hs : seg l a b with _ | ⟨x, r⟩
  · rw [hs] at hsl; simp at hsl
    rw [insOuter_stop _ _ _ _ _ (by omega)]; rfl
  · rw [hs] at hsl
    have h := outer_list (l.take a) (l.drop b) r.length [x] r rfl
    rw [hP] at h
    rw [show a + [x].length + r.length = b by simp at hsl ⊢; omega] at h
    rw [sm_cons, insB_nil]
    exact h
end Go.Proofs.YtbimfopbilcdgaaDoor
