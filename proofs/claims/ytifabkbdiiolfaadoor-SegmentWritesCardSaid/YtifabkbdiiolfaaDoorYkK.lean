/-
  Layer segment: a segment's bytes: plain.
-/
import Derived.RangeFuncNested
import Derived.RangeFuncBound
import Derived.RangeFuncCalls
import Derived.RangeFuncLeaves
import Derived.Shelf.Abstract
import Derived.Shelf.RegionOpen
import Derived.WalkKit
import Derived.OwnWalkIn
import Derived.TacticsInMore
import Derived.LoopNIn
import Derived.LoopIn
import Derived.Sort.QuietIn
import Derived.Test.YtifabkbdiiolfaaDoorYhK
import Derived.Test.YtifabkbdiiolfaaDoorYoK
set_option linter.unusedSimpArgs false
set_option linter.unusedVariables false
set_option maxRecDepth 8000
namespace Go.Proofs.YtifabkbdiiolfaaDoor
open Go.RowKit Go.Shelf
attribute [local go_sem] Oper.semAt_some
set_option maxHeartbeats 1000000 in
theorem chunkF_any (a : Option Addr) (len cap : Nat) (w : World) :
  Calls Tryd.prog 10 #[.slice a len cap, .int .i64 64] w fun e w' => e = .returned (.func (.func 30) #[] #[.pointer (some ⟨w.heap.size, 0, none⟩), .pointer (some ⟨w.heap.size + 1, 0, none⟩)]) ∧ (w.alloc (.cells #[.slice a len cap] 22)).alloc (.cells #[.int .i64 64] 3) = w' := by
 have hmf : ∀ (fn : Fn) (first cap : Array Value) (w : World), (Instr.makeFunc fn first cap).run Tryd.prog w = .ok (.func fn first cap) w := fun _ _ _ _ => rfl
 go_enter Tryd.func10, Tryd.ntmps10
 go_wp2
 go_ret
 exact ⟨rfl, rfl⟩
/-- The chunks of so many, till the k-th: where each begins, and how many. -/
def chP (k : Nat) : List Nat := List.range k
theorem chP_succ (k : Nat) : chP (k + 1) = chP k ++ [k] := by simp [chP, List.range_succ]
theorem chP_len (k : Nat) : (chP k).length = k := by simp [chP]
/-- Where the j-th begins, and how many it has (of those that there are; else something that is there). -/
def stC (len j : Nat) : Nat := if 64 * j < len then 64 * j else 0
def lnC (len j : Nat) : Nat := min 64 (len - stC len j)
theorem stC_lt {len j : Nat} (h : 0 < len) : stC len j < len := by unfold stC; split <;> omega
theorem lnC_facts {len j : Nat} (h : 0 < len) : 0 < lnC len j ∧ lnC len j ≤ 64 ∧ stC len j + lnC len j ≤ len := by
 have := stC_lt (j := j) h
 unfold lnC
 omega
def encC (b off len : Nat) (j : Nat) : Array Value := #[.slice (some ⟨b, off + stC len j * 5, none⟩) (lnC len j) (lnC len j)]
theorem ecut3S (b off len cap lo m hi : Nat) (h1 : 0 < m) (h2 : hi = lo + m) (h3 : hi ≤ len) (h4 : len ≤ cap) : ∀ w, (Instr.slice 22 (.slice (some ⟨b, off, none⟩) len cap) (some (.int .i64 (lo : Int))) (some (.int .i64 (hi : Int))) (some (.int .i64 (hi : Int)))).run Tryd.prog w = .ok (.slice (some ⟨b, off + lo * 5, none⟩) m m) w := fun w => by
 rw [run_slice_lhm w 22 (some ⟨b, off, none⟩) len cap Tryd.underlying22 .i64 .i64 .i64 (lo : Int) (hi : Int) (hi : Int) (by omega) (by omega) (by omega) (by omega)]
 rw [show (Go.sizeOf (Tryd.prog.elem 22)).run Tryd.prog w = .ok 5 w from by kernel_rfl]
 have hm : hi - lo = m := by omega
 simp [Result.andThen, sliced, hm, Addr.add_lit]
 omega
theorem ecut1S (b off len cap lo : Nat) (h3 : lo ≤ len) (h4 : len ≤ cap) : ∃ A C, ∀ w, (Instr.slice 22 (.slice (some ⟨b, off, none⟩) len cap) (some (.int .i64 (lo : Int))) none none).run Tryd.prog w = .ok (.slice A (len - lo) C) w := by
 obtain ⟨A, C, h, -⟩ := ecut_from (some ⟨b, off, none⟩) len cap lo h3 h4 (fun h => by cases h)
 exact ⟨A, C, h⟩
/-- What a round keeps: the two boxes of slices.Chunk. -/
def KpC (Bs Bn : Nat) (W W' : World) : Prop := W'.cell? ⟨Bs, 0, none⟩ = W.cell? ⟨Bs, 0, none⟩ ∧ W'.cell? ⟨Bn, 0, none⟩ = W.cell? ⟨Bn, 0, none⟩
theorem KpC.trans {Bs Bn : Nat} {A B C : World} (h : KpC Bs Bn A B) (k : KpC Bs Bn B C) : KpC Bs Bn A C := ⟨k.1.trans h.1, k.2.trans h.2⟩
theorem KpC.putObj {Bs Bn : Nat} (W : World) (l : Nat) (o' : Obj) (h1 : Bs ≠ l) (h2 : Bn ≠ l) : KpC Bs Bn W (W.putObj l o') :=
 ⟨World.cell?_of_block (World.putObj_heap_other h1), World.cell?_of_block (World.putObj_heap_other h2)⟩
set_option maxRecDepth 100000 in
set_option maxHeartbeats 4000000 in
theorem chunkI_in (n : Nat) (hn : 1 ≤ n) (l Bs Bn b off len cap : Nat) (hlen : len ≤ 2000) (hcap : len ≤ cap) (hcm : cap ≤ maxLen) (J Jx : List Nat → World → Prop)
  (hJd : ∀ s W k, J s W → J s (W.drewN k))
  (hY : ∀ pre x W, J pre W → pre.length < (len + 63) / 64 → YieldAt Fence.wide (n - 1) Tryd.prog l (encC b off len x) W fun e W' =>
   (e = .returned (.bool true) ∧ J (pre ++ [x]) W' ∧ KpC Bs Bn W W') ∨ (e = .returned (.bool false) ∧ Jx (pre ++ [x]) W'))
  (W : World) (hBs : W.cell? ⟨Bs, 0, none⟩ = some (.slice (some ⟨b, off, none⟩) len cap)) (hBn : W.cell? ⟨Bn, 0, none⟩ = some (.int .i64 64)) (h0 : J [] W) :
  CallsIn Fence.wide n Tryd.prog 30 #[.func (.yield l) #[] #[], .pointer (some ⟨Bs, 0, none⟩), .pointer (some ⟨Bn, 0, none⟩)] W fun e W' => (∃ v, e = .returned v) ∧
   ((∃ ys, ys = chP ((len + 63) / 64) ∧ J ys W') ∨ (∃ pre, True ∧ Jx pre W')) := by
 refine callsIn_of_wp Tryd.func30 rfl trivial ?_ rfl
 simp only [Tryd.ntmps30, List.size_toArray, List.length_cons, List.length_nil, Nat.reduceAdd, Nat.reduceSub, Array.replicate_succ, Array.replicate_zero, List.push_toArray, List.append_toArray, List.nil_append, List.cons_append]
 gi_wp2
 gi_loopw [4] (fun i wr => ∃ k : Nat, k ≤ (len + 63) / 64 ∧ i = .int .i64 ((64 * k : Nat) : Int) ∧ J (chP k) wr ∧ wr.cell? ⟨Bs, 0, none⟩ = some (.slice (some ⟨b, off, none⟩) len cap) ∧ wr.cell? ⟨Bn, 0, none⟩ = some (.int .i64 64))
  (fun i _ => len + 64 - (intOf i).toNat)
 case atStart => exact ⟨0, Nat.zero_le _, rfl, h0, hBs, hBn⟩
 case round =>
  obtain ⟨k, hk, rfl, hJs, hs, hb⟩ := hrel
  obtain ⟨i, hi⟩ : ∃ i, i = 64 * k := ⟨_, rfl⟩
  rw [← hi]
  by_cases hlt : i < len
  ·obtain ⟨m, hm⟩ : ∃ m, m = min 64 (len - i) := ⟨_, rfl⟩
   obtain ⟨A1, C1, r1⟩ := ecut1S b off len cap i (by omega) hcap
   obtain ⟨q, hq⟩ : ∃ q, q = len - i := ⟨_, rfl⟩
   rw [← hq] at r1
   obtain ⟨hi2, hh⟩ : ∃ hi2, hi2 = i + m := ⟨_, rfl⟩
   have r2 := ecut3S b off len cap i m hi2 (by omega) hh (by omega) hcap
   have hlti : (i : Int) < (len : Int) := by omega
   have hmin : min 64 (q : Int) = (m : Int) := by rw [hm, ← hq]; omega
   have HH := Lib.hid hh
   have HIL : Hid (i + m ≤ len) := Lib.hid (by omega)
   have HM : Hid (m = min 64 (len - i) ∧ i = 64 * k) := Lib.hid ⟨hm, hi⟩
   have hm0 : 0 < m := by omega
   clear hm hi hq hh hBs hBn
   gi_wp2
   gi_quiet (fail)
   have hw64 : wrap64 ((i : Int) + (m : Int)) = (hi2 : Int) := by have := HH.out; have := HIL.out; unfold wrap64; omega
   rw [← hw64] at r2
   clear hw64
   have hJq := hJd _ _ nq hJs
   obtain ⟨fn, tmps, assign, body, hy, hR⟩ := hY _ k (wr.drewN nq) hJq (by rw [chP_len]; have := HM.out; omega)
   have hst : stC len k = i := by unfold stC; rw [if_pos (by have := HM.out.2; omega), ← HM.out.2]
   have hln : lnC len k = m := by unfold lnC; rw [hst, HM.out.1]
   unfold encC at hy
   rw [hst, hln] at hy
   clear hst hln
   try dsimp only at hy
   clear hmin hJs hJq
   gi_wp2
   refine hR.mono ?_
   rintro e W3 (⟨rfl, hJ3, hk3⟩ | ⟨rfl, hJx3⟩)
   ·have hb3 : W3.cell? ⟨Bn, 0, none⟩ = some (.int .i64 64) := hk3.2.trans hb
    have hs3 : W3.cell? ⟨Bs, 0, none⟩ = some (.slice (some ⟨b, off, none⟩) len cap) := hk3.1.trans hs
    have hJ4 : J (chP (k + 1)) W3 := by rw [chP_succ]; exact hJ3
    clear hJ3
    gi_wp2
    go_roundw
    case rel => exact ⟨k + 1, by have := HM.out; omega, by have := HM.out.2; go_num, hJ4, hs3, hb3⟩
    case measure => simp [intOf]; omega
   ·gi_wp2
    refine bodyPost_ret (results_none rfl _ _ _) rfl ?_
    exact ⟨⟨_, rfl⟩, .inr ⟨_, trivial, hJx3⟩⟩
  ·have hkk : k = (len + 63) / 64 := by omega
   have HKK := Lib.hid hkk
   have hge : ¬ (i : Int) < (len : Int) := by omega
   clear hkk hi hk
   gi_wp2
   go_end0
   rw [HKK.out] at hJs
   first | exact ⟨⟨_, rfl⟩, .inl ⟨_, rfl, hJs⟩⟩ | exact ⟨⟨_, rfl⟩, .inl hJs⟩ | exact ⟨trivial, .inl hJs⟩
/-- What slices.Chunk hands back goes through the chunks, in their order. -/
theorem chunk_stops (n : Nat) (hn : 1 ≤ n) (Bs Bn b off len cap : Nat) (hlen : len ≤ 2000) (hcap : len ≤ cap) (hcm : cap ≤ maxLen) (w : World) (hBs : Bs < w.heap.size) (hBn : Bn < w.heap.size)
  (hcs : w.cell? ⟨Bs, 0, none⟩ = some (.slice (some ⟨b, off, none⟩) len cap)) (hcn : w.cell? ⟨Bn, 0, none⟩ = some (.int .i64 64)) :
  SeqStopsK Fence.wide n Tryd.prog 30 #[.pointer (some ⟨Bs, 0, none⟩), .pointer (some ⟨Bn, 0, none⟩)] (encC b off len) (KpC Bs Bn) (fun ys => ys = chP ((len + 63) / 64)) (fun _ => True) ((len + 63) / 64) w := fun l J Jx W hW hJ hJx hY h0 =>
 chunkI_in n hn l Bs Bn b off len cap hlen hcap hcm J Jx (fun s W' k hs => hJ s W' (W'.drewN k) none hs ⟨rfl, rfl, rfl, Nat.le_refl _, fun _ _ _ => rfl⟩ (fun r e => by cases e)) hY W
  ((hW.cell (p := ⟨Bs, 0, none⟩) hBs).trans hcs) ((hW.cell (p := ⟨Bn, 0, none⟩) hBn).trans hcn) h0
end Go.Proofs.YtifabkbdiiolfaaDoor

namespace Go.Proofs.YtifabkbdiiolfaaDoor
open Go.RowKit Go.WideShapes Col
/-- The j-th chunk's events. -/
def pcs (l : List Ev) (j : Nat) : List Ev := (l.drop (stC l.length j)).take (lnC l.length j)
theorem pcs_len {l : List Ev} {j : Nat} (h : 0 < l.length) : (pcs l j).length = lnC l.length j := by
 have := lnC_facts (j := j) h
 unfold pcs
 rw [List.length_take, List.length_drop]; omega
theorem pcs_mem {l : List Ev} {j : Nat} {x : Ev} (h : x ∈ pcs l j) : x ∈ l := List.mem_of_mem_drop (List.mem_of_mem_take h)
/-- A chunk's page. -/
def pgE (l : List Ev) : List Nat := Pg.lay 101 (evY l)
/-- Pages, and what is told of them, of chunks. -/
def wrS (l : List Ev) (js : List Nat) : List Nat × List Ck := js.foldl (fun s j => (s.1 ++ pgE (pcs l j), s.2 ++ [ckOf (pcs l j) s.1.length])) ([], [])
theorem wrS_snoc (l : List Ev) (js : List Nat) (j : Nat) : wrS l (js ++ [j]) = ((wrS l js).1 ++ pgE (pcs l j), (wrS l js).2 ++ [ckOf (pcs l j) (wrS l js).1.length]) := by
 simp [wrS, List.foldl_append]
theorem wrS_len (l : List Ev) (h0 : 0 < l.length) (hf : ∀ x ∈ l, FineE x) (js : List Nat) : (wrS l js).1.length ≤ 9281 * js.length ∧ (wrS l js).2.length = js.length := by
 suffices H : ∀ k, (wrS l (js.take k)).1.length ≤ 9281 * (js.take k).length ∧ (wrS l (js.take k)).2.length = (js.take k).length by
  have := H js.length
  rwa [List.take_length] at this
 intro k
 induction k with
 | zero => simp [wrS]
 | succ k ih =>
  rcases hk : js[k]? with _ | j
  ·rw [show js.take (k + 1) = js.take k by rw [List.take_add_one, hk]; simp]; exact ih
  ·have e : js.take (k + 1) = js.take k ++ [j] := by rw [List.take_add_one, hk]; rfl
   rw [e, wrS_snoc]
   have h1 := evY_le (pcs l j) (fun x hx => hf x (pcs_mem hx)) (by rw [pcs_len h0]; exact (lnC_facts h0).2.1)
   have h2 : (pgE (pcs l j)).length = 9 + (evY (pcs l j)).length := by unfold pgE; rw [Pg.lay_len] <;> omega
   constructor
   ·show ((wrS l (js.take k)).1 ++ _).length ≤ _
    rw [List.length_append, List.length_append, h2, List.length_singleton]; omega
   ·show ((wrS l (js.take k)).2 ++ _).length = _
    rw [List.length_append, List.length_append, List.length_singleton, List.length_singleton, ih.2]
/-- How many chunks there are. -/
def segN (l : List Ev) : Nat := (l.length + 63) / 64
def segPg (l : List Ev) : List Nat := (wrS l (chP (segN l))).1
def segCk (l : List Ev) : List Ck := (wrS l (chP (segN l))).2
/-- A segment's bytes. -/
def segB (p : Nat) (l : List Ev) : List Nat := segPg l ++ Pg.lay 102 (footB p (segCk l)) ++ Pg.lay 116 (Pg.four (segPg l).length)
theorem ckF_fold (r : List Ev) : ∀ c : Ck, (r.foldl ckF c).rows = c.rows ∧ (r.foldl ckF c).pl = c.pl ∧ (r.foldl ckF c).oa = c.oa ∧ (r.foldl ckF c).ob = c.ob := by
 induction r with
 | nil => exact fun c => ⟨rfl, rfl, rfl, rfl⟩
 | cons e r ih => intro c; exact ih (ckF c e)
theorem minI_or (a b : Int) : minI a b = a ∨ minI a b = b := by unfold minI; split <;> simp
theorem maxI_or (a b : Int) : maxI a b = a ∨ maxI a b = b := by unfold maxI; split <;> simp
theorem minK_or (a b : ByteArray) : minK a b = a ∨ minK a b = b := by unfold minK; split <;> simp
theorem maxK_or (a b : ByteArray) : maxK a b = a ∨ maxK a b = b := by unfold maxK; split <;> simp
/-- What is told of times and keys is of some of the events. -/
theorem ckF_of (P : Int → Prop) (K : ByteArray → Prop) (r : List Ev) (hr : ∀ x ∈ r, P x.time ∧ K x.key) : ∀ c : Ck, (P c.ta ∧ P c.tz ∧ K c.ka ∧ K c.kz) → (P (r.foldl ckF c).ta ∧ P (r.foldl ckF c).tz ∧ K (r.foldl ckF c).ka ∧ K (r.foldl ckF c).kz) := by
 induction r with
 | nil => exact fun c h => h
 | cons e r ih =>
  intro c h
  have he := hr e (by simp)
  refine ih (fun x hx => hr x (by simp [hx])) (ckF c e) ⟨?_, ?_, ?_, ?_⟩
  ·show P (minI c.ta e.time); rcases minI_or c.ta e.time with q | q; (rw [q]; exact h.1); (rw [q]; exact he.1)
  ·show P (maxI c.tz e.time); rcases maxI_or c.tz e.time with q | q; (rw [q]; exact h.2.1); (rw [q]; exact he.1)
  ·show K (minK c.ka e.key); rcases minK_or c.ka e.key with q | q; (rw [q]; exact h.2.2.1); (rw [q]; exact he.2)
  ·show K (maxK c.kz e.key); rcases maxK_or c.kz e.key with q | q; (rw [q]; exact h.2.2.2); (rw [q]; exact he.2)
theorem ckOf_facts (l : List Ev) (x z : Ev) (m p : Nat) (h0 : l[0]? = some x) (hm : l.length = m + 1) (hz : l[m]? = some z) : (ckOf l p).rows = l.length ∧ (ckOf l p).pl = p ∧ (ckOf l p).oa = x.off ∧ (ckOf l p).ob = z.off := by
 have h := ckF_fold l (ckS l p)
 rw [ckS_eq (l := l) (n := l.length) (m := m) (p := p) rfl hm h0 hz] at h
 unfold ckOf
 rw [ckS_eq (l := l) (n := l.length) (m := m) (p := p) rfl hm h0 hz]
 exact h
theorem ckOf_of (P : Int → Prop) (K : ByteArray → Prop) (l : List Ev) (h0 : 0 < l.length) (p : Nat) (hr : ∀ x ∈ l, P x.time ∧ K x.key) : P (ckOf l p).ta ∧ P (ckOf l p).tz ∧ K (ckOf l p).ka ∧ K (ckOf l p).kz := by
 rcases l with _ | ⟨x, r⟩
 ·cases h0
 ·have := hr x (by simp)
  exact ckF_of P K (x :: r) hr (ckS (x :: r) p) ⟨this.1, this.1, this.2, this.2⟩
theorem ckOf_ok (l : List Ev) (h0 : 0 < l.length) (h6 : l.length ≤ 64) (hf : ∀ x ∈ l, FineE x) (p : Nat) (hp : p < 9223372036854775808) : CkOk (ckOf l p) := by
 obtain ⟨x, hx⟩ : ∃ x, l[0]? = some x := ⟨_, List.getElem?_eq_getElem h0⟩
 obtain ⟨z, hz⟩ : ∃ z, l[l.length - 1]? = some z := ⟨_, List.getElem?_eq_getElem (by omega)⟩
 obtain ⟨e1, e2, e3, e4⟩ := ckOf_facts l x z (l.length - 1) p hx (by omega) hz
 have hxf := hf x (List.mem_of_getElem? hx)
 have hzf := hf z (List.mem_of_getElem? hz)
 obtain ⟨f1, f2, f3, f4⟩ := ckOf_of Wf64 (fun k => k.size ≤ 32) l h0 p (fun y hy => ⟨by have := (hf y hy).time; unfold Wf64; omega, (hf y hy).key⟩)
 exact ⟨by omega, by omega, by rw [e3]; have := hxf.off; omega, by rw [e4]; have := hzf.off; omega, f1, f2, f3, f4⟩
theorem segCk_mem {l : List Ev} {js : List Nat} {c : Ck} (h : c ∈ (wrS l js).2) : ∃ j ∈ js, ∃ k, c = ckOf (pcs l j) (wrS l (js.take k)).1.length := by
 suffices H : ∀ n, c ∈ (wrS l (js.take n)).2 → ∃ j ∈ js, ∃ k, c = ckOf (pcs l j) (wrS l (js.take k)).1.length from H js.length (by rwa [List.take_length])
 intro n
 induction n with
 | zero => intro h; simp [wrS] at h
 | succ n ih =>
  intro h
  rcases hk : js[n]? with _ | j
  ·rw [show js.take (n + 1) = js.take n by rw [List.take_add_one, hk]; simp] at h; exact ih h
  ·have e : js.take (n + 1) = js.take n ++ [j] := by rw [List.take_add_one, hk]; rfl
   rw [e, wrS_snoc] at h
   rcases List.mem_append.1 h with h | h
   ·exact ih h
   ·exact ⟨j, List.mem_of_getElem? hk, n, by simpa using h⟩
theorem wrS_ok (l : List Ev) (h0 : 0 < l.length) (hf : ∀ x ∈ l, FineE x) (js : List Nat) (hj : js.length ≤ 100000) : ∀ c ∈ (wrS l js).2, CkOk c := fun c hc => by
 obtain ⟨j, hj2, k, rfl⟩ := segCk_mem hc
 have h1 := (wrS_len l h0 hf (js.take k)).1
 have h2 : (js.take k).length ≤ js.length := by rw [List.length_take]; omega
 exact ckOf_ok _ (by rw [pcs_len h0]; exact (lnC_facts h0).1) (by rw [pcs_len h0]; exact (lnC_facts h0).2.1) (fun x hx => hf x (pcs_mem hx)) _ (by omega)
theorem evAt_pcs {w : World} {g off : Nat} {l : List Ev} (h : EvAt w (some ⟨g, off, none⟩) l) (j : Nat) : EvAt w (some ⟨g, off + stC l.length j * 5, none⟩) (pcs l j) := fun i v hv => by
 have e : (evs (pcs l j))[i]? = some v → (evs l)[stC l.length j * 5 + i]? = some v := by
  intro hv
  have hi : i < (evs (pcs l j)).length := (List.getElem?_eq_some_iff.1 hv).1
  rw [evs_length] at hi
  have hq : i = i / 5 * 5 + i % 5 := by omega
  have h5 : i % 5 < 5 := Nat.mod_lt _ (by decide)
  rw [hq, evs_get (pcs l j) (i / 5) (i % 5) h5] at hv
  rw [show stC l.length j * 5 + i = (stC l.length j + i / 5) * 5 + i % 5 by omega, evs_get l _ _ h5]
  have e2 : (pcs l j)[i / 5]? = l[stC l.length j + i / 5]? := by
   have hlt : i / 5 < (pcs l j).length := by omega
   unfold pcs at hlt ⊢
   rw [List.length_take] at hlt
   rw [List.getElem?_take, if_pos (by omega), List.getElem?_drop]
  rw [← e2]; exact hv
 obtain ⟨g', off', e', hg, hc⟩ := h _ _ (e hv)
 injection e' with e'; injection e' with b1 b2; subst b1; subst b2
 exact ⟨g, _, rfl, hg, by rw [← hc]; congr 2; omega⟩
end Go.Proofs.YtifabkbdiiolfaaDoor
