/-
  Layer segment: slices.Chunk of events: the function, and its iterator.
-/
import Derived.RangeFuncNested
import Derived.RangeFuncBound
import Derived.RangeFuncCalls
import Derived.RangeFuncLeaves
import Derived.Shelf.Abstract
import Derived.Shelf.RegionOpen
import Derived.WalkKit
import Derived.OwnWalkIn
import Derived.TacticsInMore
import Derived.LoopNIn
import Derived.LoopIn
import Derived.Sort.QuietIn
import Derived.Test.YtenmjofbamihdaaDoorYhK
set_option linter.unusedSimpArgs false
set_option linter.unusedVariables false
set_option maxRecDepth 8000
namespace Go.Proofs.YtenmjofbamihdaaDoor
open Go.RowKit Go.Shelf
attribute [local go_sem] Oper.semAt_some
set_option maxHeartbeats 1000000 in
theorem chunkF_any (a : Option Addr) (len cap : Nat) (w : World) :
    Calls Tryd.prog 14 #[.slice a len cap, .int .i64 64] w fun e w' => e = .returned (.func (.func 34) #[] #[.pointer (some ⟨w.heap.size, 0, none⟩), .pointer (some ⟨w.heap.size + 1, 0, none⟩)]) ∧ (w.alloc (.cells #[.slice a len cap] 22)).alloc (.cells #[.int .i64 64] 3) = w' := by
  have hmf : ∀ (fn : Fn) (first cap : Array Value) (w : World), (Instr.makeFunc fn first cap).run Tryd.prog w = .ok (.func fn first cap) w := fun _ _ _ _ => rfl
  go_enter Tryd.func14, Tryd.ntmps14
  go_wp2
  go_ret
  exact ⟨rfl, rfl⟩
/-- The chunks of so many, till the k-th: where each begins, and how many. -/
def chP (k : Nat) : List Nat := List.range k
theorem chP_succ (k : Nat) : chP (k + 1) = chP k ++ [k] := by simp [chP, List.range_succ]
theorem chP_len (k : Nat) : (chP k).length = k := by simp [chP]
/-- Where the j-th begins, and how many it has (of those that there are; else something that is there). -/
def stC (len j : Nat) : Nat := if 64 * j < len then 64 * j else 0
def lnC (len j : Nat) : Nat := min 64 (len - stC len j)
theorem stC_lt {len j : Nat} (h : 0 < len) : stC len j < len := by unfold stC; split <;> omega
theorem lnC_facts {len j : Nat} (h : 0 < len) : 0 < lnC len j ∧ lnC len j ≤ 64 ∧ stC len j + lnC len j ≤ len := by
  have := stC_lt (j := j) h
  unfold lnC
  omega
def encC (b off len : Nat) (j : Nat) : Array Value := #[.slice (some ⟨b, off + stC len j * 5, none⟩) (lnC len j) (lnC len j)]
theorem ecut3S (b off len cap lo m hi : Nat) (h1 : 0 < m) (h2 : hi = lo + m) (h3 : hi ≤ len) (h4 : len ≤ cap) : ∀ w, (Instr.slice 22 (.slice (some ⟨b, off, none⟩) len cap) (some (.int .i64 (lo : Int))) (some (.int .i64 (hi : Int))) (some (.int .i64 (hi : Int)))).run Tryd.prog w = .ok (.slice (some ⟨b, off + lo * 5, none⟩) m m) w := fun w => by
  rw [run_slice_lhm w 22 (some ⟨b, off, none⟩) len cap Tryd.underlying22 .i64 .i64 .i64 (lo : Int) (hi : Int) (hi : Int) (by omega) (by omega) (by omega) (by omega)]
  rw [show (Go.sizeOf (Tryd.prog.elem 22)).run Tryd.prog w = .ok 5 w from by kernel_rfl]
  have hm : hi - lo = m := by omega
  simp [Result.andThen, sliced, hm, Addr.add_lit]
  omega
theorem ecut1S (b off len cap lo : Nat) (h3 : lo ≤ len) (h4 : len ≤ cap) : ∃ A C, ∀ w, (Instr.slice 22 (.slice (some ⟨b, off, none⟩) len cap) (some (.int .i64 (lo : Int))) none none).run Tryd.prog w = .ok (.slice A (len - lo) C) w := by
  obtain ⟨A, C, h, -⟩ := ecut_from (some ⟨b, off, none⟩) len cap lo h3 h4 (fun h => by cases h)
  exact ⟨A, C, h⟩
/-- What a round keeps: the two boxes of slices.Chunk. -/
def KpC (Bs Bn : Nat) (W W' : World) : Prop := W'.cell? ⟨Bs, 0, none⟩ = W.cell? ⟨Bs, 0, none⟩ ∧ W'.cell? ⟨Bn, 0, none⟩ = W.cell? ⟨Bn, 0, none⟩
theorem KpC.trans {Bs Bn : Nat} {A B C : World} (h : KpC Bs Bn A B) (k : KpC Bs Bn B C) : KpC Bs Bn A C := ⟨k.1.trans h.1, k.2.trans h.2⟩
theorem KpC.putObj {Bs Bn : Nat} (W : World) (l : Nat) (o' : Obj) (h1 : Bs ≠ l) (h2 : Bn ≠ l) : KpC Bs Bn W (W.putObj l o') :=
  ⟨World.cell?_of_block (World.putObj_heap_other h1), World.cell?_of_block (World.putObj_heap_other h2)⟩
set_option maxRecDepth 100000 in
set_option maxHeartbeats 4000000 in
theorem chunkI_in (n : Nat) (hn : 1 ≤ n) (l Bs Bn b off len cap : Nat) (hlen : len ≤ 2000) (hcap : len ≤ cap) (hcm : cap ≤ maxLen) (J Jx : List Nat → World → Prop)
    (hJd : ∀ s W k, J s W → J s (W.drewN k))
    (hY : ∀ pre x W, J pre W → pre.length < (len + 63) / 64 → YieldAt Fence.wide (n - 1) Tryd.prog l (encC b off len x) W fun e W' =>
      (e = .returned (.bool true) ∧ J (pre ++ [x]) W' ∧ KpC Bs Bn W W') ∨ (e = .returned (.bool false) ∧ Jx (pre ++ [x]) W'))
    (W : World) (hBs : W.cell? ⟨Bs, 0, none⟩ = some (.slice (some ⟨b, off, none⟩) len cap)) (hBn : W.cell? ⟨Bn, 0, none⟩ = some (.int .i64 64)) (h0 : J [] W) :
    CallsIn Fence.wide n Tryd.prog 34 #[.func (.yield l) #[] #[], .pointer (some ⟨Bs, 0, none⟩), .pointer (some ⟨Bn, 0, none⟩)] W fun e W' => (∃ v, e = .returned v) ∧
      ((∃ ys, ys = chP ((len + 63) / 64) ∧ J ys W') ∨ (∃ pre, True ∧ Jx pre W')) := by
  refine callsIn_of_wp Tryd.func34 rfl trivial ?_ rfl
  simp only [Tryd.ntmps34, List.size_toArray, List.length_cons, List.length_nil, Nat.reduceAdd, Nat.reduceSub, Array.replicate_succ, Array.replicate_zero, List.push_toArray, List.append_toArray, List.nil_append, List.cons_append]
  gi_wp2
  gi_loopw [4] (fun i wr => ∃ k : Nat, k ≤ (len + 63) / 64 ∧ i = .int .i64 ((64 * k : Nat) : Int) ∧ J (chP k) wr ∧ wr.cell? ⟨Bs, 0, none⟩ = some (.slice (some ⟨b, off, none⟩) len cap) ∧ wr.cell? ⟨Bn, 0, none⟩ = some (.int .i64 64))
    (fun i _ => len + 64 - (intOf i).toNat)
  case atStart => exact ⟨0, Nat.zero_le _, rfl, h0, hBs, hBn⟩
  case round =>
    obtain ⟨k, hk, rfl, hJs, hs, hb⟩ := hrel
    obtain ⟨i, hi⟩ : ∃ i, i = 64 * k := ⟨_, rfl⟩
    rw [← hi]
    by_cases hlt : i < len
    · obtain ⟨m, hm⟩ : ∃ m, m = min 64 (len - i) := ⟨_, rfl⟩
      obtain ⟨A1, C1, r1⟩ := ecut1S b off len cap i (by omega) hcap
      obtain ⟨q, hq⟩ : ∃ q, q = len - i := ⟨_, rfl⟩
      rw [← hq] at r1
      obtain ⟨hi2, hh⟩ : ∃ hi2, hi2 = i + m := ⟨_, rfl⟩
      have r2 := ecut3S b off len cap i m hi2 (by omega) hh (by omega) hcap
      have hlti : (i : Int) < (len : Int) := by omega
      have hmin : min 64 (q : Int) = (m : Int) := by rw [hm, ← hq]; omega
      have HH := Lib.hid hh
      have HIL : Hid (i + m ≤ len) := Lib.hid (by omega)
      have HM : Hid (m = min 64 (len - i) ∧ i = 64 * k) := Lib.hid ⟨hm, hi⟩
      have hm0 : 0 < m := by omega
      clear hm hi hq hh hBs hBn
      gi_wp2
      gi_quiet (fail)
      have hw64 : wrap64 ((i : Int) + (m : Int)) = (hi2 : Int) := by have := HH.out; have := HIL.out; unfold wrap64; omega
      rw [← hw64] at r2
      clear hw64
      have hJq := hJd _ _ nq hJs
      obtain ⟨fn, tmps, assign, body, hy, hR⟩ := hY _ k (wr.drewN nq) hJq (by rw [chP_len]; have := HM.out; omega)
      have hst : stC len k = i := by unfold stC; rw [if_pos (by have := HM.out.2; omega), ← HM.out.2]
      have hln : lnC len k = m := by unfold lnC; rw [hst, HM.out.1]
      unfold encC at hy
      rw [hst, hln] at hy
      clear hst hln
      try dsimp only at hy
      clear hmin hJs hJq
      gi_wp2
      refine hR.mono ?_
      rintro e W3 (⟨rfl, hJ3, hk3⟩ | ⟨rfl, hJx3⟩)
      · have hb3 : W3.cell? ⟨Bn, 0, none⟩ = some (.int .i64 64) := hk3.2.trans hb
        have hs3 : W3.cell? ⟨Bs, 0, none⟩ = some (.slice (some ⟨b, off, none⟩) len cap) := hk3.1.trans hs
        have hJ4 : J (chP (k + 1)) W3 := by rw [chP_succ]; exact hJ3
        clear hJ3
        gi_wp2
        go_roundw
        case rel => exact ⟨k + 1, by have := HM.out; omega, by have := HM.out.2; go_num, hJ4, hs3, hb3⟩
        case measure => simp [intOf]; omega
      · gi_wp2
        refine bodyPost_ret (results_none rfl _ _ _) rfl ?_
        exact ⟨⟨_, rfl⟩, .inr ⟨_, trivial, hJx3⟩⟩
    · have hkk : k = (len + 63) / 64 := by omega
      have HKK := Lib.hid hkk
      have hge : ¬ (i : Int) < (len : Int) := by omega
      clear hkk hi hk
      gi_wp2
      go_end0
      rw [HKK.out] at hJs
      first | exact ⟨⟨_, rfl⟩, .inl ⟨_, rfl, hJs⟩⟩ | exact ⟨⟨_, rfl⟩, .inl hJs⟩ | exact ⟨trivial, .inl hJs⟩
/-- What slices.Chunk hands back goes through the chunks, in their order. -/
theorem chunk_stops (n : Nat) (hn : 1 ≤ n) (Bs Bn b off len cap : Nat) (hlen : len ≤ 2000) (hcap : len ≤ cap) (hcm : cap ≤ maxLen) (w : World) (hBs : Bs < w.heap.size) (hBn : Bn < w.heap.size)
    (hcs : w.cell? ⟨Bs, 0, none⟩ = some (.slice (some ⟨b, off, none⟩) len cap)) (hcn : w.cell? ⟨Bn, 0, none⟩ = some (.int .i64 64)) :
    SeqStopsK Fence.wide n Tryd.prog 34 #[.pointer (some ⟨Bs, 0, none⟩), .pointer (some ⟨Bn, 0, none⟩)] (encC b off len) (KpC Bs Bn) (fun ys => ys = chP ((len + 63) / 64)) (fun _ => True) ((len + 63) / 64) w := fun l J Jx W hW hJ hJx hY h0 =>
  chunkI_in n hn l Bs Bn b off len cap hlen hcap hcm J Jx (fun s W' k hs => hJ s W' (W'.drewN k) none hs ⟨rfl, rfl, rfl, Nat.le_refl _, fun _ _ _ => rfl⟩ (fun r e => by cases e)) hY W
    ((hW.cell (p := ⟨Bs, 0, none⟩) hBs).trans hcs) ((hW.cell (p := ⟨Bn, 0, none⟩) hBn).trans hcn) h0
end Go.Proofs.YtenmjofbamihdaaDoor
