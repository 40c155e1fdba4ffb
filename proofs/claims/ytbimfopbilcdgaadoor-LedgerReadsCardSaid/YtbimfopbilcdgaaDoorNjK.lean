/-
  Layer ledger: slices.SortFunc of at most twelve panes.
-/
import Derived.Shelf.SlSortCmp.InsertionK
import Derived.Lib.OwnBridge
import Derived.Test.YtbimfopbilcdgaaDoorNhK
import Derived.Test.YtbimfopbilcdgaaDoorLenK
set_option linter.unusedSimpArgs false
set_option linter.unusedVariables false
set_option maxRecDepth 8000
namespace Go.Proofs.YtbimfopbilcdgaaDoor
open Go.RowKit Go.Sort

def pinsLays_ren : Go.Shelf.Ren := ⟨fun | 20 => 55 | n => n, fun | 24 => 40 | 22 => 44 | 3 => 3 | 25 => 67 | 4 => 4 | 0 => 0 | n => n, fun n => n⟩
theorem pinsLays : Go.Proofs.SlLaysF0.n20 Tryd.prog pinsLays_ren := {
  mixed := by kernel_rfl
  f20 := ⟨Tryd.f55.name, by decide, Tryd.func55.trans (congrArg some (by kernel_rfl))⟩
  t0 := Tryd.underlying0
  a0 := Tryd.isAgg0
  z0 := Tryd.sizeOf0
  v0 := Tryd.zeroValue0
  t3 := Tryd.underlying3
  a3 := Tryd.isAgg3
  z3 := Tryd.sizeOf3
  v3 := Tryd.zeroValue3
  t4 := Tryd.underlying4
  a4 := Tryd.isAgg4
  z4 := Tryd.sizeOf4
  v4 := Tryd.zeroValue4
  t22 := Tryd.underlying44
  a22 := Tryd.isAgg44
  z22 := Tryd.sizeOf44
  v22 := Tryd.zeroValue44
  t25 := Tryd.underlying67
  a25 := Tryd.isAgg67
  z25 := Tryd.sizeOf67
  v25 := Tryd.zeroValue67 }

theorem flatK_pws (l : List Pw) : (flatK Pw.cells 8 l.toArray).toList = pws l := by
  apply List.ext_getElem?
  intro t
  by_cases ht : t < l.length * 8
  · have h1 := get_flatK Pw.cells 8 l.toArray t (by simpa using ht)
    have h2 := pws_get l (t / 8) (t % 8) (by omega)
    rw [show t / 8 * 8 + t % 8 = t by omega] at h2
    rw [h2]
    have h3 : t / 8 < l.length := by omega
    rw [List.getElem?_eq_getElem h3]
    rw [getElem!_pos _ t (by simpa using ht)] at h1
    rw [Array.getElem?_toList, Array.getElem?_eq_getElem (by simpa using ht), h1]
    simp only [Option.bind_some]
    rw [show l.toArray[t / 8]! = l[t / 8] from by simp [getElem!_pos, h3]]
    rw [getElem!_pos _ (t % 8) (by rw [pw_len]; omega), List.getElem?_eq_getElem (by rw [pw_len]; omega)]
  · rw [List.getElem?_eq_none (by simp; omega), List.getElem?_eq_none (by rw [pws_length]; omega)]
theorem holds_pown {w : World} {B n : Nat} {v : Value} {l : List Pw} (h : w.ownsRow B 40 8 v n (pws l)) (hv : v ≠ .slice none 0 0) :
    ∃ g cap, v = .slice (some ⟨g, 0, none⟩) n cap ∧ B ≤ g ∧ g < w.heap.size ∧ n = l.length ∧ HoldsK Pw.cells 8 w g 0 l.toArray := by
  have hl : n = l.length := by have := h.1; rw [pws_length] at this; omega
  rcases h.2 with ⟨e0, _⟩ | ⟨g, cap, cur, rfl, hb, hg, hn, hm, hs, ht⟩
  · exact absurd e0 hv
  · refine ⟨g, cap, rfl, hb, (Array.getElem?_eq_some_iff.1 hg).1, hl, fun j hj => ?_⟩
    have hj' : j < l.length * 8 := by simpa using hj
    refine ⟨?_, by simp [World.frozen?, hg]⟩
    rw [cell_of_row w g (0 + j) cur 40 (0, 0) hg, Nat.zero_add, ← Array.getElem?_toList]
    have e1 : (cur.toList.take (n * 8))[j]? = (pws l)[j]? := by rw [ht]
    rw [List.getElem?_take, if_pos (by omega)] at e1
    rw [e1, ← flatK_pws, Array.getElem?_toList, getElem!_pos _ j hj, Array.getElem?_eq_getElem hj]; rfl
theorem pown_put {w : World} {B n g cap q : Nat} {l m : List Pw} (h : w.ownsRow B 40 8 (.slice (some ⟨g, 0, none⟩) n cap) n (pws l)) (hm : m.length = l.length) (os : Array Obj) :
    OwnPw (sortWorldK Pw.cells 8 w g 0 q m.toArray os) B (some ⟨g, 0, none⟩) n cap m := by
  have hl : n = l.length := by have := h.1; rw [pws_length] at this; omega
  rcases h.2 with ⟨e0, _⟩ | ⟨g', cap', cur, e0, hb, hg, hn, hmx, hs, ht⟩
  · cases e0
  · cases e0
    refine ⟨by rw [pws_length]; omega, .inr ⟨g, cap, putCells id 0 (flatK Pw.cells 8 m.toArray) cur, rfl, hb, ?_, hn, hmx, by simpa [putCells] using hs, ?_⟩⟩
    · show (grow (putRowK Pw.cells 8 (Sort.ahead w q) g 0 m.toArray) os).heap[g]? = _
      have hlt := (Array.getElem?_eq_some_iff.1 hg).1
      rw [heap_grow_old _ _ (by simpa [putRowK, putRow, mapBlock, Sort.ahead] using hlt)]
      simp [putRowK, putRow, mapBlock, Sort.ahead, Array.getElem?_modify, hg, onCells]
    · have hfl := flatK_pws m
      apply List.ext_getElem?
      intro j
      rw [List.getElem?_take, Array.getElem?_toList]
      by_cases hj : j < n * 8
      · have hjc : j < cur.size := by have := Nat.mul_le_mul_right 5 hn; omega
        have hjf : j < (flatK Pw.cells 8 m.toArray).size := by simp; omega
        simp only [if_pos hj, putCells, Array.getElem?_mapIdx, Array.getElem?_eq_getElem hjc, Option.map_some]
        rw [if_pos (by simp; omega), ← hfl, Array.getElem?_toList, Array.getElem?_eq_getElem hjf]
        simp only [Nat.sub_zero, id]
        rw [getElem!_pos (flatK Pw.cells 8 m.toArray) j hjf]
      · rw [if_neg hj, List.getElem?_eq_none (by rw [pws_length]; omega)]
theorem below_growP {B : Nat} {w0 w : World} (h : Below B w0 w) (hB : B ≤ w.heap.size) (os : Array Obj) : Below B w0 (grow w os) :=
  ⟨h.os, h.tape, h.output, Nat.le_trans h.size (by simp), fun k hk => by rw [heap_grow_old _ _ (Nat.lt_of_lt_of_le hk hB)]; exact h.block k hk⟩
theorem below_sortP {B : Nat} {w0 w : World} {g q : Nat} {d : Array Pw} {os : Array Obj} (h : Below B w0 w) (hB : B ≤ w.heap.size) (hg : B ≤ g) : Below B w0 (sortWorldK Pw.cells 8 w g 0 q d os) :=
  below_growP (Lib.below_putRow h hg) (by simpa [putRow, mapBlock, Sort.ahead] using hB) os
theorem enters_pcmp : ∀ args w, (callFunc 21 args).run Tryd.prog w = .ok (.enter 21 args) w := enters_of Tryd.func21 (by kernel_rfl) rfl
theorem pcmp_lays (blk off size : Nat) (w : World) : CmpLays Tryd.prog 21 #[] Pw.cells 8 pwCmp blk off size w := fun m os dk _ x y => viewCmp_any x y _
theorem pins_any (blk cap a b : Nat) (d : Array Pw) (w : World) (hH : HoldsK Pw.cells 8 w blk 0 d) (hblk : blk < w.heap.size) (hab : a ≤ b) (hb : b ≤ d.size) (hsz : d.size < 4611686018427387904) :
    Calls Tryd.prog 55 #[.slice (some ⟨blk, 0, none⟩) d.size cap, .int .i64 a, .int .i64 b, .func (.func 21) #[] #[]] w fun e w' => e = .returned (.tuple #[]) ∧ ∃ n os, w' = sortWorldK Pw.cells 8 w blk 0 n (insertionSort (ltOf pwCmp) d a b) os := by
  have h := AnyQ.insertionSortCmpFunc pinsLays 8 Tryd.isAgg40 Tryd.sizeOf40 Pw.cells pw_len pw_one pwCmp 21 #[] blk 0 cap a b d w enters_pcmp (pcmp_lays blk 0 d.size w) hH hblk hab hb hsz
  change Calls Tryd.prog 55 _ _ _ at h
  exact h
/-- Panes sorted. -/
def sortP (l : List Pw) : List Pw := isort (ltOf pwCmp) l
theorem sortP_len (l : List Pw) : (sortP l).length = l.length := isort_len l
/-- What a sort ends with. -/
def SoEnd (w : World) (A : Option Addr) (n cap B : Nat) (l : List Pw) (e : Ending) (w' : World) : Prop := e = .returned (.tuple #[]) ∧ OwnPw w' B A n cap (sortP l) ∧ Below B w w'
theorem pins_own (B : Nat) (A : Option Addr) (n cap : Nat) (l : List Pw) (w : World) (h : OwnPw w B A n cap l) (hB : B ≤ w.heap.size) (hn : n ≤ 12) :
    Calls Tryd.prog 55 #[.slice A n cap, .int .i64 0, .int .i64 n, .func (.func 21) #[] #[]] w (SoEnd w A n cap B l) := by
  have hl := h.len
  by_cases hA : A = none
  · subst hA
    have h0 : n = 0 ∧ cap = 0 := by
      rcases h.2 with ⟨e0, e1⟩ | ⟨g, cap', cur, e0, -⟩
      · injection e0 with e0 e2 e3; exact ⟨e1, e3⟩
      · cases e0
    obtain ⟨rfl, rfl⟩ := h0
    have hl0 : l = [] := List.eq_nil_of_length_eq_zero hl.symm
    subst hl0
    have HO := Lib.hid h
    clear h hl hB hn
    go_enter Tryd.func55, Tryd.ntmps55
    go_wp2
    refine wp_loop_rounds 1 ?_
    rw [rounds_succ]
    go_wp2
    go_end0
    exact ⟨rfl, HO.out, Below.refl _ _⟩
  · have hv : (Value.slice A n cap) ≠ .slice none 0 0 := fun e => hA (by injection e)
    obtain ⟨g, cap', e, hg1, hg2, hl2, hH⟩ := holds_pown h hv
    injection e with e1 e2 e3
    subst e1; subst e3
    have hS := pins_any g cap 0 n l.toArray w hH hg2 (Nat.zero_le _) (by simp; omega) (by simp; omega)
    rw [show l.toArray.size = n from by simp; omega] at hS
    refine hS.mono ?_
    rintro e w' ⟨rfl, q, os, rfl⟩
    have e5 : insertionSort (ltOf pwCmp) l.toArray 0 n = (sortP l).toArray := by
      rw [insP_srt l 0 n (Nat.zero_le _) (by omega)]
      congr 1
      unfold srt seg sortP
      rw [hl]; simp
    rw [e5]
    exact ⟨rfl, pown_put (q := q) h (sortP_len l) os, below_sortP (Below.refl _ _) hB hg1⟩
set_option maxHeartbeats 1000000 in
theorem pdq_any (B : Nat) (A : Option Addr) (n cap : Nat) (lim : Int) (l : List Pw) (w : World) (h : OwnPw w B A n cap l) (hB : B ≤ w.heap.size) (hn : n ≤ 12) :
    Calls Tryd.prog 38 #[.slice A n cap, .int .i64 0, .int .i64 n, .int .i64 lim, .func (.func 21) #[] #[]] w (SoEnd w A n cap B l) := by
  have HI := Lib.hid (pins_own B A n cap l w h hB hn)
  clear h hB
  go_enter Tryd.func38, Tryd.ntmps38
  go_wp2
  refine wp_loop_rounds 1 ?_
  rw [rounds_succ]
  go_wp2_with (go_at_call 55; refine HI.out.mono ?_; rintro e w' ⟨rfl, ho, hb⟩; have HO := Lib.hid ho; have HB := Lib.hid hb; clear ho hb)
  go_end0
  exact ⟨rfl, HO.out, HB.out⟩
set_option maxHeartbeats 400000 in
theorem bitsLen_any (n : Nat) (hn : n < 18446744073709551616) (w : World) : Calls Tryd.prog 39 #[.int .u64 n] w fun e w' => (∃ k : Int, e = .returned (.int .i64 k)) ∧ w' = w := by
  have H := Lib.hid (len64_any n hn w)
  go_enter Tryd.func39, Tryd.ntmps39
  go_wp2_with (go_at_call 64; refine H.out.mono ?_; rintro e w' ⟨rfl, rfl⟩)
  go_ret
  exact ⟨⟨_, rfl⟩, rfl⟩
set_option maxHeartbeats 400000 in
theorem sortFunc_any (B : Nat) (A : Option Addr) (n cap : Nat) (l : List Pw) (w : World) (h : OwnPw w B A n cap l) (hB : B ≤ w.heap.size) (hn : n ≤ 12) :
    Calls Tryd.prog 20 #[.slice A n cap, .func (.func 21) #[] #[]] w (SoEnd w A n cap B l) := by
  have HL := Lib.hid (bitsLen_any n (by omega) w)
  have HP := Lib.hid fun lim => pdq_any B A n cap lim l w h hB hn
  clear h hB
  go_enter Tryd.func20, Tryd.ntmps20
  go_wp2_with (first
    | (go_at_call 39; refine HL.out.mono ?_; rintro e w' ⟨⟨k, rfl⟩, rfl⟩)
    | (go_at_call 38; refine (HP.out _).mono ?_; rintro e w' ⟨rfl, ho, hb⟩; have HO := Lib.hid ho; have HB := Lib.hid hb; clear ho hb))
  go_end0
  exact ⟨rfl, HO.out, HB.out⟩
end Go.Proofs.YtbimfopbilcdgaaDoor
