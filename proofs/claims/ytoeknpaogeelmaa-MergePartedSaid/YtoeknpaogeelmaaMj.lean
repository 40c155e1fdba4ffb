/-
  Layer merge: the laws' awake and few.
-/
import Derived.Test.YtoeknpaogeelmaaMi
set_option linter.unusedSimpArgs false
set_option linter.unusedVariables false
set_option maxRecDepth 8000
namespace Go.Proofs.Ytoeknpaogeelmaa
open Go.RowKit Go.Sort

/-- Runs as they came in: of any length. -/
structure SlIn (w : World) (s : Sl) : Prop where
  cap : s.l.length ≤ s.c
  cap' : s.c ≤ maxLen
  nil : s.A = none → s.c = 0
  at' : EvAt w s.A s.l
structure RunsIn (w : World) (a : Option Addr) (Ss : List Sl) : Prop where
  cell : ∀ (j : Nat) (s : Sl), Ss[j]? = some s → ∃ g off, a = some ⟨g, off, none⟩ ∧ g < w.heap.size ∧ w.cell? ⟨g, off + j, none⟩ = some s.v
  ok : ∀ s ∈ Ss, SlIn w s
theorem RunsIn.keep {w w' : World} {a : Option Addr} {Ss : List Sl} (h : RunsIn w a Ss) (hb : Below w.heap.size w w') : RunsIn w' a Ss := by
  refine ⟨fun j s hs => ?_, fun s hs => ⟨(h.ok s hs).cap, (h.ok s hs).cap', (h.ok s hs).nil, (h.ok s hs).at'.keep hb⟩⟩
  obtain ⟨g, off, h2, h3, h4⟩ := h.cell j s hs
  exact ⟨g, off, h2, Nat.lt_of_lt_of_le h3 hb.size, (hb.cell (p := ⟨g, off + j, none⟩) h3).trans h4⟩
theorem RunsIn.to {w : World} {a : Option Addr} {Ss : List Sl} (h : RunsIn w a Ss) (hs : ∀ s ∈ Ss, s.l.length ≤ 1000) : RunsAt w a Ss :=
  ⟨h.cell, fun s hs2 => ⟨(h.ok s hs2).cap, (h.ok s hs2).cap', (h.ok s hs2).nil, (h.ok s hs2).at', hs s hs2⟩⟩
theorem RunsAt.in' {w : World} {a : Option Addr} {Ss : List Sl} (h : RunsAt w a Ss) : RunsIn w a Ss :=
  ⟨h.cell, fun s hs2 => ⟨(h.ok s hs2).cap, (h.ok s hs2).cap', (h.ok s hs2).nil, (h.ok s hs2).at'⟩⟩
/-- There are few events. -/
structure FewOk (Ss : List Sl) : Prop where
  n : Ss.length ≤ 40
  each : ∀ s ∈ Ss, s.l.length ≤ 100
  all : (slL Ss).flatten.length ≤ 300
def fsum (Ss : List Sl) (k : Nat) : Nat := (slL (Ss.take k)).flatten.length
theorem fsum_succ {Ss : List Sl} {k : Nat} {s : Sl} (h : Ss[k]? = some s) : fsum Ss (k + 1) = fsum Ss k + s.l.length := by
  unfold fsum slL
  rw [List.take_add_one, h, List.map_append, List.flatten_append, List.length_append]; simp
def FewRet (Ss : List Sl) (w : World) (e : Ending) (w' : World) : Prop := ∃ b : Bool, e = .returned (.bool b) ∧ (b = true → FewOk Ss) ∧ w = w'
set_option maxHeartbeats 2000000 in
theorem few_any (a : Option Addr) (n c : Nat) (Ss : List Sl) (hn : Hid (n = Ss.length)) (hnc : n ≤ c) (hcm : c ≤ maxLen) (W : World) (HR : Hid (RunsIn W a Ss)) :
    Calls Try.prog 8 #[.slice a n c] W (FewRet Ss W) := by
  unfold maxLen at hcm
  go_enter Try.func8, Try.ntmps8
  go_wp2
  go_loop [3, 4] (fun u v => ∃ k t : Nat, k ≤ n ∧ t ≤ 300 ∧ v = .int .i64 (k : Int) ∧ u = .int .i64 (t : Int) ∧ t = fsum Ss k ∧ ∀ (j : Nat) (s : Sl), j < k → Ss[j]? = some s → s.l.length ≤ 100) (fun _ v => n - (intOf v).toNat)
  case atStart => exact ⟨0, 0, Nat.zero_le _, by decide, rfl, rfl, by simp [fsum, slL], fun j s h => by omega⟩
  case round =>
    obtain ⟨k, t, hk, ht, rfl, rfl, hts, hall⟩ := hrel
    have HTS := Lib.hid hts; have HALL := Lib.hid hall
    clear hts hall
    by_cases hkn : k < n
    · obtain ⟨s, hs⟩ : ∃ s, Ss[k]? = some s := ⟨_, List.getElem?_eq_getElem (by have := hn.out; omega)⟩
      obtain ⟨g, off, rfl, hg, hcell⟩ := HR.out.cell k s hs
      unfold Sl.v at hcell
      obtain ⟨m, hm⟩ : ∃ m, m = s.l.length := ⟨_, rfl⟩
      rw [← hm] at hcell
      have HS := Lib.hid hs; have HM := Lib.hid hm
      clear hs hm
      by_cases hbad : 100 < m
      · have hbi : (100 : Int) < (m : Int) := by omega
        go_wp2
        go_ret
        exact ⟨false, rfl, fun h => (by cases h), rfl⟩
      · have hbi : ¬ (100 : Int) < (m : Int) := by omega
        by_cases ht2 : 200 < t
        · have hti : (200 : Int) < (t : Int) := by omega
          go_wp2
          go_ret
          exact ⟨false, rfl, fun h => (by cases h), rfl⟩
        · have hti : ¬ (200 : Int) < (t : Int) := by omega
          obtain ⟨t2, ht2e⟩ : ∃ t2, t2 = t + m := ⟨_, rfl⟩
          have hadd : (t : Int) + (m : Int) = (t2 : Int) := by omega
          have HT2 := Lib.hid ht2e
          clear ht2e
          go_wp2
          go_round
          case rel => exact ⟨k + 1, t2, by omega, by have := HT2.out; omega, by go_num, rfl, by rw [fsum_succ HS.out, ← HM.out, ← HTS.out]; exact HT2.out, fun j s2 hj hs2 => by
            by_cases e : j = k
            · subst e; rw [HS.out] at hs2; injection hs2 with hs2; subst hs2; have := HM.out; omega
            · exact HALL.out j s2 (by omega) hs2⟩
          case measure => simp [intOf]; omega
    · obtain rfl : k = n := by omega
      have HALL2 : Hid (∀ s ∈ Ss, s.l.length ≤ 100) := Lib.hid fun s hs => by
        obtain ⟨j, hj⟩ := List.getElem?_of_mem hs
        exact HALL.out j s (by have := (List.getElem?_eq_some_iff.1 hj).1; have := hn.out; omega) hj
      have HSUM : Hid ((slL Ss).flatten.length ≤ 300) := Lib.hid (by
        have h := HTS.out
        unfold fsum at h
        rw [List.take_of_length_le (by have := hn.out; omega)] at h
        omega)
      by_cases h40 : k ≤ 40
      · have h40i : (k : Int) ≤ 40 := by omega
        go_wp2
        go_ret
        exact ⟨true, ret_eq rfl, fun _ => ⟨by have := hn.out; omega, HALL2.out, HSUM.out⟩, rfl⟩
      · have h40i : ¬ (k : Int) ≤ 40 := by omega
        go_wp2
        go_ret
        exact ⟨false, ret_eq rfl, fun h => (by cases h), rfl⟩
/-- The example's events. -/
def eA : Ev := ⟨0, 0, 0, { data := #[97] }, 0⟩
def eB : Ev := ⟨0, 0, 0, { data := #[98] }, 0⟩
def eC : Ev := ⟨0, 0, 0, { data := #[99] }, 0⟩
theorem exAll : isort ltM [eA, eC, eB] = [eA, eB, eC] := by rfl
theorem exOrd : [[eA, eC], [eB]].all (ordB ltM) = true := by rfl
def exR (w : World) : List Sl := [⟨some ⟨w.heap.size, 0, none⟩, 2, [eA, eC]⟩, ⟨some ⟨w.heap.size + 1, 0, none⟩, 1, [eB]⟩]
def exW (w : World) : World := ((w.alloc (.cells (evs [eA, eC]).toArray 38)).alloc (.cells (evs [eB]).toArray 38)).alloc (.cells #[.slice (some ⟨w.heap.size, 0, none⟩) 2 2, .slice (some ⟨w.heap.size + 1, 0, none⟩) 1 1] 25)
theorem exAt (w : World) : RunsAt (exW w) (some ⟨w.heap.size + 1 + 1, 0, none⟩) (exR w) := by
  have hb1 : Below (w.alloc (.cells (evs [eA, eC]).toArray 38)).heap.size (w.alloc (.cells (evs [eA, eC]).toArray 38)) (exW w) := ((Below.refl _ _).alloc (Nat.le_refl _) _).alloc (by simp) _
  have hb2 : Below ((w.alloc (.cells (evs [eA, eC]).toArray 38)).alloc (.cells (evs [eB]).toArray 38)).heap.size ((w.alloc (.cells (evs [eA, eC]).toArray 38)).alloc (.cells (evs [eB]).toArray 38)) (exW w) := (Below.refl _ _).alloc (Nat.le_refl _) _
  have h1 : EvAt (exW w) (some ⟨w.heap.size, 0, none⟩) [eA, eC] := (evAt_new w [eA, eC] _ rfl _).keep hb1
  have h2 : EvAt (exW w) (some ⟨w.heap.size + 1, 0, none⟩) [eB] := by
    have h := evAt_new (w.alloc (.cells (evs [eA, eC]).toArray 38)) [eB] _ rfl 38
    rw [show (w.alloc (.cells (evs [eA, eC]).toArray 38)).heap.size = w.heap.size + 1 by simp] at h
    exact h.keep hb2
  have hrow : (exW w).heap[w.heap.size + 1 + 1]? = some (.cells #[.slice (some ⟨w.heap.size, 0, none⟩) 2 2, .slice (some ⟨w.heap.size + 1, 0, none⟩) 1 1] 25 (0, 0)) := by
    have h := heap_alloc_newM ((w.alloc (.cells (evs [eA, eC]).toArray 38)).alloc (.cells (evs [eB]).toArray 38)) (.cells #[.slice (some ⟨w.heap.size, 0, none⟩) 2 2, .slice (some ⟨w.heap.size + 1, 0, none⟩) 1 1] 25)
    rw [show ((w.alloc (.cells (evs [eA, eC]).toArray 38)).alloc (.cells (evs [eB]).toArray 38)).heap.size = w.heap.size + 1 + 1 by simp] at h
    exact h
  refine ⟨fun j s hs => ⟨_, 0, rfl, (Array.getElem?_eq_some_iff.1 hrow).1, ?_⟩, fun s hs => ?_⟩
  · rw [cell_of_row _ _ _ _ _ _ hrow]
    rcases j with _ | _ | j
    · injection hs with hs; subst hs; rfl
    · injection hs with hs; subst hs; rfl
    · simp [exR] at hs
  · simp only [exR, List.mem_cons, List.not_mem_nil, or_false] at hs
    rcases hs with rfl | rfl
    · exact ⟨by show 2 ≤ 2; decide, by show (2 : Nat) ≤ 2 ^ 63 - 1; decide, fun h => (by cases h), h1, by show 2 ≤ 1000; decide⟩
    · exact ⟨by show 1 ≤ 1; decide, by show (1 : Nat) ≤ 2 ^ 63 - 1; decide, fun h => (by cases h), h2, by show 1 ≤ 1000; decide⟩
set_option maxHeartbeats 2000000 in
theorem mawake_any (W : World) : Calls Try.prog 7 #[] W fun e w' => e = .returned (.bool true) ∧ Below W.heap.size W w' := by
  have HA := Lib.hid (all_any (W.heap.size + 1 + 1) 0 2 2 (exR W) (Lib.hid rfl) (by decide) (by decide) (by decide) (by unfold maxLen; decide) (Lib.hid (by show 3 ≤ 900; decide)) (exW W) (Lib.hid (exAt W)))
  have HBX : Hid (Below W.heap.size W (exW W)) := Lib.hid (((((Below.refl _ _).alloc (Nat.le_refl _) _).alloc (by simp) _)).alloc (by simp; omega) _)
  have HB2 : Hid (Calls Try.prog 11 #[.slice (some ⟨W.heap.size + 1 + 1, 0, none⟩) 2 2] (exW W) fun e w' => (∃ gg cap, e = .returned (.tuple #[.slice (some ⟨gg, 0, none⟩) 3 cap, .int .i64 0]) ∧ w'.cell? ⟨gg, 8, none⟩ = some (.string { data := #[98] })) ∧ Below W.heap.size W w') := Lib.hid (HA.out.mono fun e w' h => by
    unfold AllEnds at h
    rw [if_pos (by exact exOrd)] at h
    obtain ⟨A, N, cap, rfl, hN, ho, hnil, h1, h2, h3⟩ := h
    have hN3 : N = 3 := hN
    subst hN3
    have hl : isort ltM (slL (exR W)).flatten = [eA, eB, eC] := exAll
    rw [hl] at ho
    obtain ⟨gg, hA, -, -⟩ : ∃ gg, A = some ⟨gg, 0, none⟩ ∧ True ∧ True := by
      rcases ho.2 with ⟨e0, e1⟩ | ⟨gg, cap', cur, e0, -⟩
      · cases e1
      · injection e0 with a1; exact ⟨gg, a1, trivial, trivial⟩
    subst hA
    refine ⟨⟨gg, cap, rfl, ?_⟩, bto HBX.out h3⟩
    obtain ⟨g', off', e, -, hc⟩ := ho.at' 8 (.string { data := #[98] }) rfl
    injection e with e; injection e with e1 e2; subst e1; subst e2
    rw [Nat.zero_add] at hc; exact hc)
  clear HA
  have HEX : Hid (((W.alloc (.cells #[.int .u64 0, .int .i64 0, .int .i64 0, .string { data := #[97] }, .float .f64 0, .int .u64 0, .int .i64 0, .int .i64 0, .string { data := #[99] }, .float .f64 0] 38)).alloc (.cells #[.int .u64 0, .int .i64 0, .int .i64 0, .string { data := #[98] }, .float .f64 0] 38)).alloc (.cells #[.slice (some ⟨W.heap.size, 0, none⟩) 2 2, .slice (some ⟨W.heap.size + 1, 0, none⟩) 1 1] 25) = exW W) := Lib.hid rfl
  go_enter Try.func7, Try.ntmps7
  go_wp2_with (go_at_call 11; rw [HEX.out]; (with_reducible refine (HB2.out).mono ?_); rintro e w2 ⟨⟨gg, cap, rfl, hc8⟩, hb⟩; have HB := Lib.hid hb; clear hb)
  go_ret
  exact ⟨rfl, HB.out⟩
end Go.Proofs.Ytoeknpaogeelmaa
