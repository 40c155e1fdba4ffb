/-
  Layer whole: a sort of two groups; the document's Before.
-/
import Derived.Test.YtbimfopbilcdgaaZyQ
import Derived.Shelf.SlSortCmp.InsertionK
import Derived.Lib.OwnBridge
import Derived.Laws.StructEq
import Derived.Deep.DeepCutAuto
set_option linter.unusedSimpArgs false
set_option linter.unusedVariables false
set_option maxRecDepth 8000
namespace Go.Proofs.Ytbimfopbilcdgaa
open Go.RowKit Go.Sort Sm

def winB (a b c d : Int) : Bool := decide (a = c) && decide (b = d)
theorem winEqual (a b c d : Int) (w : World) : (Op.equalIn 10000 84 (.agg #[.int .i64 a, .int .i64 b]) (.agg #[.int .i64 c, .int .i64 d])).run Try.prog w = .ok (winB a b c d) w := by
  unfold winB
  go_simp
  by_cases h1 : a = c <;> by_cases h2 : b = d <;> simp [h1, h2]
theorem winEql_run (a b c d : Int) (w : World) : (binOp .eql 84 (.agg #[.int .i64 a, .int .i64 b]) (.agg #[.int .i64 c, .int .i64 d])).run Try.prog w = .ok (.bool (winB a b c d)) w := by
  rw [run_eql_struct, winEqual]; rfl
/-- Does a place stand ahead? -/
def zB (p q : ZP) : Bool := decide (zCmp p q < 0)
theorem zB_key (p q : ZP) (h : keyZ p.key q.key = false) : zB p q = Op.bytesLess p.key.toList q.key.toList := by
  unfold keyZ at h
  rw [ByteArray.toList_eq, ByteArray.toList_eq] at h
  unfold zB zCmp cmpK or3
  rw [cmp_less, h, ByteArray.toList_eq, ByteArray.toList_eq]
  cases Op.bytesLess p.key.data.toList q.key.data.toList <;> simp
theorem zB_s (p q : ZP) (h : keyZ p.key q.key = true) (ht : p.s ≠ q.s) : zB p q = decide (p.s < q.s) := by
  have hk := (keyZ_iff _ _).1 h
  unfold zB zCmp or3
  rw [hk, ek_self, decide_eq_decide]
  unfold cmpI
  by_cases h1 : p.s < q.s
  · simp [h1]
  · have h2 : q.s < p.s := by omega
    simp [h1, h2]
theorem zB_e (p q : ZP) (h : keyZ p.key q.key = true) (ht : p.s = q.s) : zB p q = decide (p.e < q.e) := by
  have hk := (keyZ_iff _ _).1 h
  unfold zB zCmp or3
  rw [hk, ek_self, decide_eq_decide]
  unfold cmpI
  rw [ht]
  by_cases h1 : p.e < q.e
  · simp [h1]
  · by_cases h2 : q.e < p.e
    · simp [h1, h2]
    · simp [h1, h2]
set_option maxHeartbeats 2000000 in
theorem before13_any (p q : ZP) (w : World) : Calls Try.prog 50 #[.string p.key, .agg #[.int .i64 p.s, .int .i64 p.e], .string q.key, .agg #[.int .i64 q.s, .int .i64 q.e]] w fun e w' => e = .returned (.bool (zB p q)) ∧ Below w.heap.size w w' := by
  have HG : Hid (Below w.heap.size w ((w.alloc (.cells #[.int .i64 p.s, .int .i64 p.e] 84)).alloc (.cells #[.int .i64 q.s, .int .i64 q.e] 84))) := Lib.hid (((Below.refl w.heap.size w).alloc (Nat.le_refl _) _).alloc (by simp) _)
  have hb : (p.key.toList == q.key.toList) = keyZ p.key q.key := rfl
  cases hk : keyZ p.key q.key
  · rw [hk] at hb
    have HL := Lib.hid (zB_key p q hk)
    clear hk
    generalize zB p q = r at *
    go_enter Try.func50, Try.ntmps50
    go_wp2
    go_ret
    exact ⟨ret_eq (by rw [HL.out]; rfl), HG.out⟩
  · rw [hk] at hb
    by_cases ht : p.s = q.s
    · have HL := Lib.hid (zB_e p q hk ht)
      have ht2 : (p.s != q.s) = false := by simpa using ht
      clear hk ht
      generalize zB p q = r at *
      go_enter Try.func50, Try.ntmps50
      go_wp2
      go_ret
      exact ⟨ret_eq (by rw [HL.out]; simp), HG.out⟩
    · have HL := Lib.hid (zB_s p q hk ht)
      have ht2 : (p.s != q.s) = true := by simpa using ht
      clear hk
      generalize zB p q = r at *
      go_enter Try.func50, Try.ntmps50
      go_wp2
      go_ret
      exact ⟨ret_eq (by rw [HL.out]; rfl), HG.out⟩
def ginsLays_ren : Go.Shelf.Ren := ⟨fun | 20 => 141 | n => n, fun | 24 => 91 | 22 => 81 | 3 => 3 | 25 => 144 | 4 => 4 | 0 => 0 | n => n, fun n => n⟩
theorem ginsLays : Go.Proofs.SlLaysF0.n20 Try.prog ginsLays_ren := {
  mixed := by kernel_rfl
  f20 := ⟨Try.f141.name, by decide, Try.func141.trans (congrArg some (by kernel_rfl))⟩
  t0 := Try.underlying0
  a0 := Try.isAgg0
  z0 := Try.sizeOf0
  v0 := Try.zeroValue0
  t3 := Try.underlying3
  a3 := Try.isAgg3
  z3 := Try.sizeOf3
  v3 := Try.zeroValue3
  t4 := Try.underlying4
  a4 := Try.isAgg4
  z4 := Try.sizeOf4
  v4 := Try.zeroValue4
  t22 := Try.underlying81
  a22 := Try.isAgg81
  z22 := Try.sizeOf81
  v22 := Try.zeroValue81
  t25 := Try.underlying144
  a25 := Try.isAgg144
  z25 := Try.sizeOf144
  v25 := Try.zeroValue144 }


def gCmp (x y : Grp) : Int := zCmp x.p y.p
set_option maxHeartbeats 4000000 in
theorem gcmp_any (x y : Grp) (w : World) : Calls Try.prog 82 #[.agg x.cells.toArray, .agg y.cells.toArray] w fun e w' => e = .returned (.int .i64 (gCmp x y)) ∧ Grew w w' := by
  have H := Lib.hid fun w => zorder_any x.p.key x.p.s x.p.e y.p.key y.p.s y.p.e w
  have HR : Hid (or3 (cmpK x.p.key y.p.key) (cmpI x.p.s y.p.s) (cmpI x.p.e y.p.e) = gCmp x y) := Lib.hid rfl
  generalize gCmp x y = r at *
  have HX0 : Hid (∀ w : World, (w.alloc (.cells x.cells.toArray 91)).rangeAt w.heap.size 0 (g3 x)) := Lib.hid fun w => z3 (zrow (heap_new w _))
  have HY0 : Hid (∀ w : World, (w.alloc (.cells y.cells.toArray 91)).rangeAt w.heap.size 0 (g3 y)) := Lib.hid fun w => z3 (zrow (heap_new w _))
  generalize x.cells.toArray = X at *
  generalize y.cells.toArray = Y at *
  have HW : Hid (Grew w ((w.alloc (.cells X 91)).alloc (.cells Y 91))) := Lib.hid (((Grew.refl w).alloc _).alloc _)
  have HX : Hid (((w.alloc (.cells X 91)).alloc (.cells Y 91)).rangeAt w.heap.size 0 (g3 x)) := Lib.hid (zkeep (HX0.out w) (by simp) ((Below.refl _ _).alloc (Nat.le_refl _) _))
  have HY : Hid (((w.alloc (.cells X 91)).alloc (.cells Y 91)).rangeAt (w.heap.size + 1) 0 (g3 y)) := Lib.hid (by have h := HY0.out (w.alloc (.cells X 91)); simpa using h)
  clear HX0 HY0
  have hcx : ((w.alloc (.cells X 91)).alloc (.cells Y 91)).cell? ⟨w.heap.size, 0, none⟩ = some (.string x.p.key) := by have h := HX.out 0 _ rfl; exact h
  have hcy : ((w.alloc (.cells X 91)).alloc (.cells Y 91)).cell? ⟨w.heap.size + 1, 0, none⟩ = some (.string y.p.key) := by have h := HY.out 0 _ rfl; exact h
  have HXW : Hid (((w.alloc (.cells X 91)).alloc (.cells Y 91)).rangeAt w.heap.size 1 [.int .i64 x.p.s, .int .i64 x.p.e]) := Lib.hid (zrsub HX.out 1 2 _ rfl 1 rfl)
  have HYW : Hid (((w.alloc (.cells X 91)).alloc (.cells Y 91)).rangeAt (w.heap.size + 1) 1 [.int .i64 y.p.s, .int .i64 y.p.e]) := Lib.hid (zrsub HY.out 1 2 _ rfl 1 rfl)
  go_enter Try.func82, Try.ntmps82
  go_wp2_with (first
    | (refine wpList_load_mid rfl 84 (.tmp 7) rfl w.heap.size 1 rfl [.int .i64 x.p.s, .int .i64 x.p.e] _ HXW.out uWn rfl (by kernel_rfl) ?_)
    | (refine wpList_load_mid rfl 84 (.tmp 11) rfl (w.heap.size + 1) 1 rfl [.int .i64 y.p.s, .int .i64 y.p.e] _ HYW.out uWn rfl (by kernel_rfl) ?_)
    | (go_at_call 47; with_reducible refine (H.out _).mono ?_; rintro e w' ⟨rfl, hg⟩; have HG := Lib.hid hg; clear hg))
  go_ret
  exact ⟨ret_eq (congrArg _ HR.out), HW.out.trans HG.out⟩
theorem enters_gcmp : ∀ args w, (callFunc 82 args).run Try.prog w = .ok (.enter 82 args) w := enters_of Try.func82 (by kernel_rfl) rfl
theorem gcmp_lays (blk off size : Nat) (w : World) : CmpLays Try.prog 82 #[] Grp.cells 42 gCmp blk off size w := fun m os dk _ x y => gcmp_any x y _
theorem gins_any (blk cap a b : Nat) (d : Array Grp) (w : World) (hH : HoldsK Grp.cells 42 w blk 0 d) (hblk : blk < w.heap.size) (hab : a ≤ b) (hb : b ≤ d.size) (hsz : d.size < 4611686018427387904) :
    Calls Try.prog 141 #[.slice (some ⟨blk, 0, none⟩) d.size cap, .int .i64 a, .int .i64 b, .func (.func 82) #[] #[]] w fun e w' => e = .returned (.tuple #[]) ∧ ∃ n os, w' = sortWorldK Grp.cells 42 w blk 0 n (insertionSort (ltOf gCmp) d a b) os := by
  have h := AnyQ.insertionSortCmpFunc ginsLays 42 Try.isAgg91 Try.sizeOf91 Grp.cells gr_len gr_one gCmp 82 #[] blk 0 cap a b d w enters_gcmp (gcmp_lays blk 0 d.size w) hH hblk hab hb hsz
  change Calls Try.prog 141 _ _ _ at h
  exact h
def SortG (w : World) (g : Nat) (d : Array Grp) (w' : World) : Prop := ∃ q os, w' = sortWorldK Grp.cells 42 w g 0 q d os
def InsGG (w : World) (g cap a b : Nat) (d d' : Array Grp) : Prop := Calls Try.prog 141 #[.slice (some ⟨g, 0, none⟩) d.size cap, .int .i64 a, .int .i64 b, .func (.func 82) #[] #[]] w fun e w' => e = .returned (.tuple #[]) ∧ SortG w g d' w'
set_option maxHeartbeats 1000000 in
theorem gstable_few (g n cap : Nat) (h20 : n < 20) (d d' : Array Grp) (hn : n = d.size) (w : World) (H : InsGG w g cap 0 n d d') :
    Calls Try.prog 112 #[.slice (some ⟨g, 0, none⟩) n cap, .int .i64 n, .func (.func 82) #[] #[]] w fun e w' => e = .returned (.tuple #[]) ∧ SortG w g d' w' := by
  unfold InsGG at H
  rw [← hn] at H
  have HI := Lib.hid H
  clear H hn
  go_enter Try.func112, Try.ntmps112
  go_wp2
  refine wp_loop_rounds 1 ?_
  rw [rounds_succ]
  go_wp2_with (go_at_call 141; refine HI.out.mono ?_; rintro e w' ⟨rfl, hs⟩; have HS := Lib.hid hs; clear hs)
  refine wp_loop_rounds 1 ?_
  rw [rounds_succ]
  go_wp2
  go_end0
  exact ⟨rfl, HS.out⟩
set_option maxHeartbeats 400000 in
theorem gsortStable_few (g n cap : Nat) (h20 : n < 20) (d d' : Array Grp) (hn : n = d.size) (w : World) (H : InsGG w g cap 0 n d d') :
    Calls Try.prog 81 #[.slice (some ⟨g, 0, none⟩) n cap, .func (.func 82) #[] #[]] w fun e w' => e = .returned (.tuple #[]) ∧ SortG w g d' w' := by
  have HI := Lib.hid (gstable_few g n cap h20 d d' hn w H)
  clear H hn
  go_enter Try.func81, Try.ntmps81
  go_wp2_with (go_at_call 112; refine HI.out.mono ?_; rintro e w' ⟨rfl, hs⟩; have HS := Lib.hid hs; clear hs)
  go_end0
  exact ⟨rfl, HS.out⟩
/-- Two groups in their order. -/
def two (x y : Grp) : List Grp := if zCmp y.p x.p < 0 then [y, x] else [x, y]
theorem two_len (x y : Grp) : (two x y).length = 2 := by unfold two; split <;> rfl
theorem ins_two (x y : Grp) : insertionSort (ltOf gCmp) #[x, y] 0 2 = (two x y).toArray := by
  unfold insertionSort two
  rw [insOuter, if_pos (by decide), insOuter, if_neg (by decide)]
  by_cases h : zCmp y.p x.p < 0
  · simp [insInner, ltOf, gCmp, h, swp]
  · simp [insInner, ltOf, gCmp, h]
theorem two_le (x y : Grp) : ∃ p q : Grp, two x y = [p, q] ∧ zCmp p.p q.p ≤ 0 := by
  unfold two
  split
  · rename_i h; exact ⟨y, x, rfl, by omega⟩
  · rename_i h; exact ⟨x, y, rfl, by have := z_neg x.p y.p; omega⟩
set_option maxHeartbeats 400000 in
theorem sort2_any (B g cap : Nat) (x y : Grp) (w : World) (h : OwnGr w B (some ⟨g, 0, none⟩) 2 cap [x, y]) (hB : B ≤ w.heap.size) :
    Calls Try.prog 49 #[.slice (some ⟨g, 0, none⟩) 2 cap] w fun e w' => e = .returned (.tuple #[]) ∧ OwnGr w' B (some ⟨g, 0, none⟩) 2 cap (two x y) ∧ Below B w w' := by
  have hv : (Value.slice (some ⟨g, 0, none⟩) 2 cap) ≠ .slice none 0 0 := fun e => by injection e with e; cases e
  obtain ⟨g', cap', e, hg1, hg2, hl2, hH⟩ := grholds_own h hv
  injection e with e1 e2 e3
  injection e1 with e1
  injection e1 with e1
  subst e1; subst e3
  have hS := gins_any g cap 0 2 #[x, y] w hH hg2 (by omega) (by simp) (by simp)
  have HS := Lib.hid (gsortStable_few g 2 cap (by omega) #[x, y] _ rfl w hS)
  have HO := Lib.hid h
  clear h hS hH hv
  go_enter Try.func49, Try.ntmps49
  go_wp2_with (go_at_call 81; refine HS.out.mono ?_; rintro e w2 ⟨rfl, hs⟩; have HR := Lib.hid hs; clear hs)
  go_end0
  obtain ⟨q, os, rfl⟩ := HR.out
  rw [ins_two]
  exact ⟨rfl, grown_put (q := q) HO.out (two_len x y) os, below_sortGr (Below.refl _ _) hB hg1⟩
end Go.Proofs.Ytbimfopbilcdgaa
