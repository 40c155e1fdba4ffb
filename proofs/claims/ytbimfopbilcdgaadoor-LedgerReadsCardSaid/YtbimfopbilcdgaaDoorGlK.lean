/-
  Contracts of slices.Grow and of Lay.
-/
import Derived.Lib.AppendZerosOnto
import Derived.Deep.RegionLaw
import Derived.Lib.SliceRun
import Derived.Test.YtbimfopbilcdgaaDoorByK
import Derived.Test.YtbimfopbilcdgaaDoorGcK
set_option linter.unusedSimpArgs false
set_option linter.unusedVariables false
set_option maxRecDepth 8000
namespace Go.Proofs.YtbimfopbilcdgaaDoor
open Go.RowKit

/-- What Grow returns. -/
def RetG (w : World) (B n m : Nat) (l : List Nat) (e : Ending) (w' : World) : Prop := ∃ g cap cs, e = .returned (.slice (some ⟨g, 0, none⟩) n cap) ∧ Roomy w' B g n cap cs l ∧ n + m ≤ cap ∧ Below w.heap.size w w'

theorem zeroCells_len (n : Nat) : (Builtin.zeroCells (Value.int .u8 0).cells n).size = n := by
  unfold Builtin.zeroCells
  simp [Value.cells]

/-- There is no room: the append of Grow. -/
theorem grow_run (A : Option Addr) (n cap : Nat) (l : List Nat) (m : Nat) (B : Nat) (w : World) (HO : OwnS w B A n cap l) (hr : cap < n + m) (hbig : n + m ≤ 140737488355328) (hB : B ≤ w.heap.size) :
    ∃ W' G cs', (∀ ty, (Builtin.append_ #[22, 3] ty #[.slice A cap cap, .int .i64 ((n + m - cap : Nat) : Int)]).run Tryd.prog w = .ok (.slice (some ⟨w.heap.size, 0, none⟩) (n + m) G) W') ∧
      Roomy W' B w.heap.size n G cs' l ∧ n + m ≤ G ∧ Below w.heap.size w W' := by
  obtain ⟨hc1, hc2⟩ := HO.caps
  have hlen := HO.len
  obtain ⟨i0, hi0, hz0, hi1, hi2⟩ := info_parts infoU8
  obtain ⟨cs, hcl, hct, hold⟩ : ∃ cs : List Value, cs.length = cap ∧ cs.take n = bys l ∧ (Builtin.firstCells i0.size cap (.slice A cap cap)).run Tryd.prog w.drew = .ok cs.toArray w.drew := by
    rcases HO.1.2 with ⟨h1, h2⟩ | ⟨g, cap', cur, h1, hb, hrow, -, -, hs, ht⟩
    · cases h1
      have hl : l = [] := List.eq_nil_of_length_eq_zero hlen.symm
      subst hl
      exact ⟨[], rfl, rfl, run_firstCells_none w.drew i0.size 0 0 0⟩
    · cases h1
      refine ⟨cur.toList, by rw [Array.length_toList, hs, Nat.mul_one], by rw [← ht, Nat.mul_one], ?_⟩
      exact run_firstCells_some w.drew i0.size cap ⟨g, 0, none⟩ cap cap cur.toList (by rw [Array.length_toList, hs, hi1]) (fun j v hj => World.news_of_block (w := w.drew) hrow j v hj)
  have hck : cap + (n + m - cap) = n + m := by omega
  have hGn : n + m ≤ grownCap w (n + m) cap 5 := grownCap_ge w _ _ _
  have hG63 := grownCap_le_maxLen w (n + m) cap 5 (by unfold maxLen; omega)
  refine ⟨w.drew.alloc (.cells (cs.toArray ++ Builtin.zeroCells (Value.int .u8 0).cells (n + m - cap) ++ Builtin.zeroCells (Value.int .u8 0).cells (grownCap w (n + m) cap 5 - (n + m))) 5), grownCap w (n + m) cap 5, cs ++ ((Builtin.zeroCells (Value.int .u8 0).cells (n + m - cap)).toList ++ (Builtin.zeroCells (Value.int .u8 0).cells (grownCap w (n + m) cap 5 - (n + m))).toList), fun ty => ?_, ⟨?_, ?_, hG63, ?_, hB, HO.2⟩, hGn, ((Below.refl _ _).drew).alloc (Nat.le_refl _) _⟩
  · have h := Lib.run_append_grow_zeros w 22 3 ty 5 i0 (.int .u8 0) .i64 .i64 Tryd.underlying22 Tryd.underlying3 hi0 hz0 A cap cap cs hold (n + m - cap) (by omega) (by omega) (by omega) (by omega)
      (by rw [hi2]; omega) (by rw [hck]; exact growslice_fits (by omega) (by rw [hi2]; omega))
    rw [hck] at h
    exact h
  · rw [show w.heap.size = w.drew.heap.size from rfl, heap_alloc_new']
    congr 2
    simp
  · simp only [List.length_append, Array.length_toList, zeroCells_len, hcl]; omega
  · rw [List.take_append_of_le_length (by omega), hct]

set_option maxHeartbeats 400000 in
theorem grow_room (A : Option Addr) (n cap m : Nat) (w : World) (h1 : n ≤ cap) (h2 : cap ≤ 9223372036854775807) (hr : n + m ≤ cap) :
    Calls Tryd.prog 31 #[.slice A n cap, .int .i64 (m : Int)] w fun e w' => e = .returned (.slice A n cap) ∧ w = w' := by
  have h3 : ¬ ((m : Int) < 0) := by omega
  have h4 : ¬ ((m : Int) - ((cap : Int) - (n : Int)) > 0) := by omega
  go_enter Tryd.func31, Tryd.ntmps31
  go_wp2
  go_ret
  exact ⟨rfl, rfl⟩

set_option maxHeartbeats 400000 in
theorem grow_more (A : Option Addr) (n cap m : Nat) (w W' : World) (g G : Nat) (h1 : n ≤ cap) (h2 : cap ≤ 9223372036854775807) (hr : cap < n + m) (hbig : n + m ≤ 140737488355328) (hG : n + m ≤ G) (hG2 : G ≤ 9223372036854775807)
    (hA : A = none → cap = 0) (hrz : ∀ ty, (Builtin.append_ #[22, 3] ty #[.slice A cap cap, .int .i64 ((n + m - cap : Nat) : Int)]).run Tryd.prog w = .ok (.slice (some ⟨g, 0, none⟩) (n + m) G) W') :
    Calls Tryd.prog 31 #[.slice A n cap, .int .i64 (m : Int)] w fun e w' => e = .returned (.slice (some ⟨g, 0, none⟩) n G) ∧ W' = w' := by
  have h3 : ¬ ((m : Int) < 0) := by omega
  have h4 : (m : Int) - ((cap : Int) - (n : Int)) > 0 := by omega
  have hrz : ∀ ty, (Builtin.append_ #[22, 3] ty #[.slice A cap cap, .int .i64 ((m : Int) - ((cap : Int) - (n : Int)))]).run Tryd.prog w = .ok (.slice (some ⟨g, 0, none⟩) (n + m) G) W' := fun ty => by
    rw [show (m : Int) - ((cap : Int) - (n : Int)) = ((n + m - cap : Nat) : Int) by omega]; exact hrz ty
  obtain ⟨A1, C1, hcut, hsl⟩ : ∃ A1 C1, (∀ w, (Instr.slice 22 (.slice A n cap) none (some (.int .i64 (cap : Int))) none).run Tryd.prog w = .ok (.slice A1 cap C1) w) ∧ (A1 = A ∧ C1 = cap) := by
    refine ⟨A, cap, fun w => ?_, rfl, rfl⟩
    rw [run_slice_h w 22 A n cap Tryd.underlying22 .i64 (cap : Int) (by omega) (by omega)]
    rw [show (Go.sizeOf (Tryd.prog.elem 22)).run Tryd.prog w = .ok 1 w from by kernel_rfl]
    rcases A with _ | ⟨ab, ao, asp⟩
    · simp [Result.andThen, sliced]
    · simp [Result.andThen, sliced, Addr.add]
  obtain ⟨rfl, rfl⟩ := hsl
  go_enter Tryd.func31, Tryd.ntmps31
  go_wp2_with (at_builtin; refine Lib.wpList_append_run _ rfl _ _ _ _ rfl _ _ rfl rfl _ _ (hrz _) ?_)
  all_goals
    go_ret
    exact ⟨rfl, rfl⟩

theorem grow_any (A : Option Addr) (n cap : Nat) (l : List Nat) (m : Nat) (B : Nat) (w : World) (HO : Hid (OwnS w B A n cap l)) (hm : 0 < m) (hbig : n + m ≤ 140737488355328) (hB : B ≤ w.heap.size) :
    Calls Tryd.prog 31 #[.slice A n cap, .int .i64 (m : Int)] w (RetG w B n m l) := by
  obtain ⟨hc1, hc2⟩ := HO.out.caps
  have hlen := HO.out.len
  unfold maxLen at hc2
  by_cases hr : n + m ≤ cap
  · refine (grow_room A n cap m w hc1 (by omega) hr).mono ?_
    rintro e w' ⟨rfl, rfl⟩
    rcases HO.out.1.2 with ⟨h1, h2⟩ | ⟨g, cap', cur, h1, hb, hrow, -, -, hs, ht⟩
    · cases h1; omega
    · cases h1
      exact ⟨g, cap, cur.toList, rfl, ⟨hrow, by rw [Array.length_toList, hs, Nat.mul_one], by unfold maxLen; omega, by rw [← ht, Nat.mul_one], hb, HO.out.2⟩, hr, Below.refl _ _⟩
  · obtain ⟨W', G, cs', hrz, F, hG, hb⟩ := grow_run A n cap l m B w HO.out (by omega) hbig hB
    have hGm := F.cap
    unfold maxLen at hGm
    refine (grow_more A n cap m w W' w.heap.size G hc1 (by omega) (by omega) hbig hG (by omega) (fun hA => ?_) hrz).mono ?_
    · subst hA
      rcases HO.out.1.2 with ⟨h1, h2⟩ | ⟨g, cap', cur, h1, _⟩
      · cases h1; rfl
      · cases h1
    · rintro e w' ⟨rfl, rfl⟩
      exact ⟨_, _, _, rfl, F, hG, hb⟩
end Go.Proofs.YtbimfopbilcdgaaDoor
