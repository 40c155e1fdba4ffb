/-
  Layer event: the library's swapRange and rotate of events.
-/
import Derived.Test.YtoeknpaogeelmaaEi
import Derived.Shelf.SlSortCmp.KitK
import Derived.Deep.MidRow
set_option linter.unusedSimpArgs false
set_option linter.unusedVariables false
namespace Go.Proofs.Ytoeknpaogeelmaa
open Go.RowKit Go.Sort

theorem uEvent : Try.prog.underlying 38 = some (.struct (Try.prog.fieldsOf 38)) := by kernel_rfl
theorem iEvent (x : Ev) : (Try.prog.info? 38).map (·.size) = some x.cells.length := by rw [cells_len]; kernel_rfl
theorem wp_store_ev {o : Oper} {a : Act} {w : World} {K : Act → World → Prop} {Q : Exit → Act → World → Prop} (x y : Operand) (ho : o.op = .store 38 x y) (b of : Nat) (v : Ev) (hx : a.eval x = .pointer (some ⟨b, of, none⟩)) (hy : a.eval y = .agg v.cells.toArray)
    (w' : World) (hst : (storeCells ⟨b, of, none⟩ v.cells 0).run Try.prog w = .ok () w') (h : K (a.put o.dst undef) w') : o.wp Try.prog a w K Q := by
  obtain ⟨i0, hi, hz0, hz1, hz2⟩ := info_parts infoEv
  have hv : (storeVar 38 ⟨b, of, none⟩ (.agg v.cells.toArray)).run Try.prog w = .ok () w' := by
    simp [storeVar, sizeOf, typeInfo, hi, hz1, Value.cells, cells_len, hst]
  unfold Oper.wp execOp
  simp only [ho, hx, hy, Instr.storeAt, Instr.sureAddr, Sem.run_bind, Sem.run_pure, Result.andThen_ok, hv]
  exact h
/-- What the family is told of the row. -/
abbrev RowE (w0 : World) (blk N : Nat) : Prop := ∃ l0 : List Ev, l0.length = N ∧ RowK Ev.cells 5 w0 blk 0 l0.toArray
abbrev SWE (w0 : World) (blk : Nat) (l : List Ev) (w : World) : Prop := SWK Ev.cells 5 w0 blk 0 l.toArray w
section
variable {w0 w : World} {blk N : Nat} {l : List Ev}
theorem swk_range (h : SWE w0 blk l w) (R : Hid (RowE w0 blk N)) (hN : l.length = N) (i : Nat) (hi : i < N) : w.rangeAt blk (i * 5) l[i]!.cells := by
  obtain ⟨l0, e0, R⟩ := R.out
  have hH := h.holds R.hblk R.hH (by simp; omega)
  intro j v hv
  have := HoldsK.cells hH R.hk (i := i) (by simp; omega) j v (by rw [ta_get]; exact hv)
  rw [Addr.add_lit, Nat.zero_add] at this; exact this
theorem swk_swap (h : SWE w0 blk l w) (R : Hid (RowE w0 blk N)) (hN : l.length = N) (i j : Nat) (hi : i < N) (hj : j < N) :
    Sem.run Try.prog (storeCells ⟨blk, i * 5, none⟩ l[j]!.cells 0) w.drew = .ok () (w.drew.setCells blk (i * 5) l[j]!.cells) ∧
    Sem.run Try.prog (storeCells ⟨blk, j * 5, none⟩ l[i]!.cells 0) (w.drew.setCells blk (i * 5) l[j]!.cells) = .ok () ((w.drew.setCells blk (i * 5) l[j]!.cells).setCells blk (j * 5) l[i]!.cells) ∧
    SWE w0 blk (lswp l i j) ((w.drew.setCells blk (i * 5) l[j]!.cells).setCells blk (j * 5) l[i]!.cells) := by
  obtain ⟨l0, e0, R⟩ := R.out
  have hs : l.toArray.size = l0.toArray.size := by simp; omega
  have h1 := h.st1 R hs Try.prog i (by simp; omega) l[j]!
  have h2 := h.st2 R hs Try.prog i j (by simp; omega) (by simp; omega) l[j]! l[i]!
  have h3 := h.swapped R i j (by simp; omega) (by simp; omega)
  rw [ta_get, ta_get, lswp_arr] at h3
  rw [Nat.zero_add] at h1 h2 h3
  rw [Nat.zero_add] at h2 h3
  exact ⟨h1, h2, h3⟩
end
/-- What swapRange leaves. -/
def SwapR (l : List Ev) (a b n : Nat) (m : List Ev) : Prop := m.length = l.length ∧ ∀ k, k < l.length → m[k]! = l[if a ≤ k ∧ k < a + n then b + (k - a) else if b ≤ k ∧ k < b + n then a + (k - b) else k]!
theorem SwapR.zero (l : List Ev) (a b : Nat) : SwapR l a b 0 l := ⟨rfl, fun k hk => by rw [if_neg (by omega), if_neg (by omega)]⟩
theorem SwapR.step {l m : List Ev} {a b i : Nat} (h : SwapR l a b i m) (hab : a + i < b) (hb : b + i < l.length) : SwapR l a b (i + 1) (lswp m (a + i) (b + i)) := by
  refine ⟨(lswp_len _ _ _).trans h.1, fun k hk => ?_⟩
  rw [lswp_get _ (by rw [h.1]; omega) (by rw [h.1]; omega), h.2 k hk, h.2 (a + i) (by omega), h.2 (b + i) (by omega)]
  by_cases h1 : k = b + i
  · rw [if_pos h1, if_neg (by omega), if_neg (by omega), if_neg (by omega), if_pos (by omega), show a + (k - b) = a + i by omega]
  · rw [if_neg h1]
    by_cases h2 : k = a + i
    · rw [if_pos h2, if_neg (by omega), if_neg (by omega), if_pos (by omega), show b + (k - a) = b + i by omega]
    · rw [if_neg h2]
      congr 1
      repeat' split
      all_goals omega
/-- What rotate leaves: at each place what stood where. -/
def rotAt (lo m hi k : Nat) : Nat := if k < lo ∨ hi ≤ k then k else if k < lo + (hi - m) then m + (k - lo) else lo + (k - (lo + (hi - m)))
def Rot (l : List Ev) (lo m hi : Nat) (t : List Ev) : Prop := t.length = l.length ∧ ∀ k, k < l.length → t[k]! = l[rotAt lo m hi k]!
theorem rot_right {l s t : List Ev} {m i j : Nat} (h : Rot l (m - i) m (m + j) t) (hs : SwapR l (m - i) m j s) (hij : j < i) (him : i ≤ m) (hj : m + j ≤ l.length) : Rot s (m - (i - j)) m (m + j) t := by
  refine ⟨h.1.trans hs.1.symm, fun k hk => ?_⟩
  rw [hs.1] at hk
  have hr : rotAt (m - (i - j)) m (m + j) k < l.length := by unfold rotAt; split <;> (try split) <;> omega
  rw [h.2 k hk, hs.2 _ hr]
  congr 1
  unfold rotAt
  repeat' split
  all_goals omega
theorem rot_left {l s t : List Ev} {m i j : Nat} (h : Rot l (m - i) m (m + j) t) (hs : SwapR l (m - i) (m + j - i) i s) (hij : i < j) (him : i ≤ m) (hj : m + j ≤ l.length) : Rot s (m - i) m (m + (j - i)) t := by
  refine ⟨h.1.trans hs.1.symm, fun k hk => ?_⟩
  rw [hs.1] at hk
  have hr : rotAt (m - i) m (m + (j - i)) k < l.length := by unfold rotAt; split <;> (try split) <;> omega
  rw [h.2 k hk, hs.2 _ hr]
  congr 1
  unfold rotAt
  repeat' split
  all_goals omega
theorem rot_same {l s t : List Ev} {m i : Nat} (h : Rot l (m - i) m (m + i) t) (hs : SwapR l (m - i) m i s) (him : i ≤ m) (hj : m + i ≤ l.length) : s = t := by
  refine ext_get! (hs.1.trans h.1.symm) fun k hk => ?_
  rw [hs.1] at hk
  rw [h.2 k hk, hs.2 k hk]
  congr 1
  unfold rotAt
  repeat' split
  all_goals omega
end Go.Proofs.Ytoeknpaogeelmaa
