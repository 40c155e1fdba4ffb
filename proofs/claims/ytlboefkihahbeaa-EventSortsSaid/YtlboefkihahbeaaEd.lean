/-
  Layer event: Sort at fewer than 20 events; awake.
-/
import Derived.Test.YtlboefkihahbeaaEc
import Derived.Deep.DeepCutAuto
set_option linter.unusedSimpArgs false
set_option linter.unusedVariables false
namespace Go.Proofs.Ytlboefkihahbeaa
open Go.RowKit Go.Sort

/-- The row as it is behind a sort. -/
def SortW (w : World) (g : Nat) (d : Array Ev) (w' : World) : Prop := ∃ q os, w' = sortWorldK Ev.cells 5 w g 0 q d os
def InsGives (w : World) (g cap a b : Nat) (d d' : Array Ev) : Prop := Calls Try.prog 33 #[.slice (some ⟨g, 0, none⟩) d.size cap, .int .i64 a, .int .i64 b, .func (.func 16) #[] #[]] w fun e w' => e = .returned (.tuple #[]) ∧ SortW w g d' w'
def sortE (l : List Ev) : List Ev := (insertionSort (ltOf evCmp) l.toArray 0 l.length).toList

set_option maxHeartbeats 1000000 in
theorem stable_few (g n cap : Nat) (h20 : n < 20) (d d' : Array Ev) (hn : n = d.size) (w : World) (H : InsGives w g cap 0 n d d') :
    Calls Try.prog 27 #[.slice (some ⟨g, 0, none⟩) n cap, .int .i64 n, .func (.func 16) #[] #[]] w fun e w' => e = .returned (.tuple #[]) ∧ SortW w g d' w' := by
  unfold InsGives at H
  rw [← hn] at H
  have HI := Lib.hid H
  clear H hn
  go_enter Try.func27, Try.ntmps27
  go_wp2
  refine wp_loop_rounds 1 ?_
  rw [rounds_succ]
  go_wp2_with (go_at_call 33; refine HI.out.mono ?_; rintro e w' ⟨rfl, hs⟩; have HS := Lib.hid hs; clear hs)
  refine wp_loop_rounds 1 ?_
  rw [rounds_succ]
  go_wp2
  go_end0
  exact ⟨rfl, HS.out⟩
set_option maxHeartbeats 400000 in
theorem sortStable_few (g n cap : Nat) (h20 : n < 20) (d d' : Array Ev) (hn : n = d.size) (w : World) (H : InsGives w g cap 0 n d d') :
    Calls Try.prog 20 #[.slice (some ⟨g, 0, none⟩) n cap, .func (.func 16) #[] #[]] w fun e w' => e = .returned (.tuple #[]) ∧ SortW w g d' w' := by
  have HI := Lib.hid (stable_few g n cap h20 d d' hn w H)
  clear H hn
  go_enter Try.func20, Try.ntmps20
  go_wp2_with (go_at_call 27; refine HI.out.mono ?_; rintro e w' ⟨rfl, hs⟩; have HS := Lib.hid hs; clear hs)
  go_end0
  exact ⟨rfl, HS.out⟩
def RetE (w : World) (n : Nat) (l : List Ev) (e : Ending) (w' : World) : Prop := ∃ g cap, e = .returned (.slice (some ⟨g, 0, none⟩) n cap) ∧ OwnE w' w.heap.size (some ⟨g, 0, none⟩) n cap l ∧ Below w.heap.size w w'
theorem insOuter_size (lt : Ev → Ev → Bool) (a b : Nat) : ∀ (k i : Nat) (d : Array Ev), b - i ≤ k → (insOuter lt a b i d).size = d.size
  | 0, i, d, h => by unfold insOuter; rw [if_neg (by omega)]
  | k + 1, i, d, h => by
    unfold insOuter
    split
    · rw [insOuter_size lt a b k (i + 1) _ (by omega)]
      have : ∀ (j : Nat) (d : Array Ev), (insInner lt a j d).size = d.size := by
        intro j
        induction j with
        | zero => intro d; rfl
        | succ j ih =>
          intro d
          unfold insInner
          split
          · rw [ih]; exact size_swp ..
          · rfl
      exact this i d
    · rfl
theorem sortE_len (l : List Ev) : (sortE l).length = l.length := by
  unfold sortE insertionSort
  rw [Array.length_toList, insOuter_size _ _ _ l.length _ _ (by omega)]; rfl
set_option maxHeartbeats 1000000 in
theorem sort_few (g off n c : Nat) (l : List Ev) (hn : Hid (n = l.length)) (h20 : n < 20) (w : World) (HA : Hid (EvAt w (some ⟨g, off, none⟩) l)) :
    Calls Try.prog 14 #[.slice (some ⟨g, off, none⟩) n c] w (RetE w n (sortE l)) := by
  have HC := Lib.hid (clone_some g off n c l hn.out (by omega) w HA)
  go_enter Try.func14, Try.ntmps14
  go_upto_region 2 with (go_at_call 19; refine HC.out.mono ?_; rintro e w1 ⟨v', rfl, ho, hv, hb⟩; obtain ⟨g1, cap, rfl, hg1, hg2, hl, hH⟩ := holds_own ho hv; have HO := Lib.hid ho; have HB := Lib.hid hb; have HL := Lib.hid hl; have HHH := Lib.hid hH; clear ho hv hb hl hH)
  have hS := ins_any g1 cap 0 n l.toArray w1 HHH.out hg2 (by omega) (by rw [HL.out]; simp) (by simp; have := HL.out; omega)
  have HS := Lib.hid (sortStable_few g1 n cap h20 l.toArray _ (by rw [HL.out]; simp) w1 hS)
  clear hS
  go_wp2_with (go_at_call 20; refine HS.out.mono ?_; rintro e w2 ⟨rfl, hs⟩; have HR := Lib.hid hs; clear hs)
  go_ret
  obtain ⟨q, os, rfl⟩ := HR.out
  refine ⟨g1, cap, rfl, ?_, below_sortW HB.out (HB.out.size) hg1⟩
  have h := own_put (q := q) HO.out (sortE_len l) os
  have e : (sortE l).toArray = insertionSort (ltOf evCmp) l.toArray 0 n := by unfold sortE; rw [hn.out]
  rw [e] at h
  exact h
end Go.Proofs.Ytlboefkihahbeaa
