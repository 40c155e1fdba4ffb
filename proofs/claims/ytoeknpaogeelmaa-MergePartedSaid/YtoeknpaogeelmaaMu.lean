/-
  Layer merge: runs in a row, to each of which a call appends.
-/
import Derived.Test.YtoeknpaogeelmaaMt
set_option linter.unusedSimpArgs false
set_option linter.unusedVariables false
set_option maxRecDepth 8000
namespace Go.Proofs.Ytoeknpaogeelmaa
open Go.RowKit Go.Sort

theorem wp_append_ev1 {o : Oper} {ac : Act} {w : World} {K : Act → World → Prop} {Q : Exit → Act → World → Prop} (s x : Operand)
    (ho : o.op = .call { callee := .builtin .append, args := #[s, x], argTypes := #[25, 25] })
    (B : Nat) (A : Option Addr) (n cap : Nat) (l : List Ev) (hs : ac.eval s = .slice A n cap) (hown : OwnE w B A n cap l) (b : Nat) (e : Ev) (hx : ac.eval x = .slice (some ⟨b, 0, none⟩) 1 1) (h2 : EvAt w (some ⟨b, 0, none⟩) [e])
    (hbytes : n + 1 ≤ 1000) (hbase : B ≤ w.heap.size)
    (h : ∀ A' cap' w', OwnE w' B A' (n + 1) cap' (l ++ [e]) → w.grownBy w' ((Value.slice A n cap).ownBlock) → (∀ k, A'.map (·.block) = some k → A.map (·.block) = some k ∨ w.heap.size ≤ k) → K (ac.put o.dst (.slice A' (n + 1) cap')) w') : o.wp Try.prog ac w K Q := by
  obtain ⟨i0, hi, hz0, hz1, hz2⟩ := info_parts infoEv
  obtain ⟨v', w', hr, hown2, hgr, -, h6⟩ := run_append_own_at (P := Try.prog) w B 25 o.type 38 i0 _ 5 48 Try.underlying25 hi hz0 hz1 hz2 rfl (by decide) (.slice A n cap) n (evs l) hown ⟨b, 0, none⟩ 1 1 (evs [e]) (by rw [evs_length]; rfl) (fun j u hu => by
      obtain ⟨g', off', e', -, hc⟩ := h2 j u hu
      injection e' with e'; injection e' with x1 x2; subst x1; subst x2
      rw [Addr.add_lit]; exact hc) (evs_one [e]) (by unfold maxLen; omega) (by omega) hbase
  unfold Oper.wp execOp
  simp only [ho, resolve, invoke, builtin, Sem.run_bind, Sem.run_pure, Result.andThen_ok, List.map_toArray, List.map_cons, List.map_nil, hs, hx, hr]
  have e0 : evs l ++ evs [e] = evs (l ++ [e]) := by unfold evs; rw [List.flatMap_append]
  rw [e0] at hown2
  obtain ⟨A1, c1, rfl, -, -, -⟩ := ro_slice hown2
  refine h A1 c1 w' hown2 hgr (fun k hk => ?_)
  rcases A1 with _ | a1
  · cases hk
  · have hk : a1.block = k := by simpa using hk
    subst hk
    rcases h6 with h6 | h6
    · left
      rcases A with _ | a
      · cases h6
      · have h6 : a1.block = a.block := by simpa [Value.ownBlock] using h6
        rw [h6]; rfl
    · right
      have h6 : a1.block = w.heap.size := by simpa [Value.ownBlock] using h6
      omega
/-- A row of runs, each of its own. -/
structure PTS (w : World) (B gr : Nat) (SS : List Sl) : Prop where
  row : ∃ cs, w.heap[gr]? = some (.cells cs 25 (0, 0)) ∧ ∀ (j : Nat) (s : Sl), SS[j]? = some s → cs[j]? = some s.v
  ow : ∀ s ∈ SS, SlOwn w B s
  ap : ∀ (j k : Nat) (s t : Sl), j ≠ k → SS[j]? = some s → SS[k]? = some t → ∀ b, s.A.map (·.block) = some b → t.A.map (·.block) ≠ some b
  bg : B ≤ gr
section
variable {w w' : World} {B gr : Nat} {SS : List Sl}
theorem PTS.lt (h : PTS w B gr SS) : gr < w.heap.size := by obtain ⟨cs, h1, -⟩ := h.row; exact (Array.getElem?_eq_some_iff.1 h1).1
theorem PTS.cell (h : PTS w B gr SS) {j : Nat} {s : Sl} (hs : SS[j]? = some s) : w.cell? ⟨gr, j, none⟩ = some s.v := by
  obtain ⟨cs, h1, h2⟩ := h.row; rw [cell_of_row _ _ _ _ _ _ h1]; exact h2 j s hs
theorem PTS.fr (h : PTS w B gr SS) (j : Nat) : w.frozen? ⟨gr, j, none⟩ = false := by
  obtain ⟨cs, h1, -⟩ := h.row; exact frozen_of_row _ _ _ _ _ h1
theorem PTS.below (h : PTS w B gr SS) (hb : Below w.heap.size w w') : PTS w' B gr SS := by
  obtain ⟨cs, h1, h2⟩ := h.row
  exact ⟨⟨cs, (hb.block gr h.lt).trans h1, h2⟩, fun s hs => (h.ow s hs).below hb, h.ap, h.bg⟩
theorem PTS.runs (h : PTS w B gr SS) : RunsAt w (some ⟨gr, 0, none⟩) SS := ⟨fun j s hs => ⟨gr, 0, rfl, h.lt, by rw [Nat.zero_add]; exact h.cell hs⟩, fun s hs => (h.ow s hs).ok⟩
/-- The row's block is no run's. -/
theorem PTS.ne (h : PTS w B gr SS) {s : Sl} (hs : s ∈ SS) : s.A.map (·.block) ≠ some gr := fun e => by
  obtain ⟨-, -, cur, h1⟩ := (h.ow s hs).base gr e
  obtain ⟨cs, h2, -⟩ := h.row
  rw [h1] at h2; injection h2 with h2; injection h2 with x1 x2 x3
  exact absurd x2 (by decide)
theorem SlOwn.setCell {g : Nat} {s : Sl} (h : SlOwn w B s) (hne : s.A.map (·.block) ≠ some g) (j : Nat) (v : Value) : SlOwn (w.setCell ⟨g, j, none⟩ v) B s := by
  refine ⟨⟨h.own.1, ?_⟩, h.cap, h.cap', h.nil, h.small⟩
  rcases h.own.2 with h1 | ⟨g2, cap', cur, h1, hb', hrow, h2⟩
  · exact .inl h1
  · refine .inr ⟨g2, cap', cur, h1, hb', ?_, h2⟩
    rw [Below.heap_setCell _ _ _ _ (fun e => ?_)]
    · exact hrow
    · injection h1 with a1
      exact hne (by rw [a1]; exact congrArg some e)
/-- One more event behind a run, and the row told of it. -/
theorem PTS.step (h : PTS w B gr SS) (k : Nat) (s : Sl) (hk : SS[k]? = some s) (s' : Sl) (hown : SlOwn w' B s') (hg : w.grownBy w' ((Value.slice s.A s.l.length s.c).ownBlock)) (hp : ∀ b, s'.A.map (·.block) = some b → s.A.map (·.block) = some b ∨ w.heap.size ≤ b) :
    PTS (w'.setCell ⟨gr, k, none⟩ s'.v) B gr (SS.set k s') := by
  obtain ⟨cs, h1, h2⟩ := h.row
  have hkl := (List.getElem?_eq_some_iff.1 hk).1
  have hgr' : w'.heap[gr]? = some (.cells cs 25 (0, 0)) := (hg.block gr h.lt (fun e => by
    rcases hA : s.A with _ | a
    · rw [hA] at e; cases e
    · rw [hA] at e
      have e : gr = a.block := by simpa [Value.ownBlock] using e
      exact h.ne (List.mem_of_getElem? hk) (by rw [hA, e]; rfl))).trans h1
  have hs'ne : s'.A.map (·.block) ≠ some gr := fun e => by
    obtain ⟨-, -, cur, h3⟩ := hown.base gr e
    rw [hgr'] at h3; injection h3 with h3; injection h3 with x1 x2 x3
    exact absurd x2 (by decide)
  have hother : ∀ (j : Nat) (t : Sl), j ≠ k → SS[j]? = some t → SlOwn w' B t := fun j t hj ht => (h.ow t (List.mem_of_getElem? ht)).beside2 (F := s) (m := s.l.length) (h.ap j k t s hj ht hk) hg
  have hcase : ∀ (j : Nat) (t : Sl), (SS.set k s')[j]? = some t → (j = k ∧ t = s') ∨ (j ≠ k ∧ SS[j]? = some t) := fun j t ht => by
    rw [List.getElem?_set] at ht
    by_cases e : k = j
    · rw [if_pos e] at ht; subst e; rw [if_pos hkl] at ht; injection ht with ht; exact .inl ⟨rfl, ht.symm⟩
    · rw [if_neg e] at ht; exact .inr ⟨fun h => e h.symm, ht⟩
  refine ⟨⟨cs.setIfInBounds k s'.v, heap_setCell_same w' gr k cs _ _ hgr', fun j t ht => ?_⟩, fun t ht => ?_, fun j1 j2 t1 t2 hj ht1 ht2 b hb1 hb2 => ?_, h.bg⟩
  · rcases hcase j t ht with ⟨rfl, rfl⟩ | ⟨hj, ht'⟩
    · exact Array.getElem?_setIfInBounds_self_of_lt (Array.getElem?_eq_some_iff.1 (h2 j s hk)).1
    · rw [Array.getElem?_setIfInBounds_ne (fun h => hj h.symm)]; exact h2 j t ht'
  · obtain ⟨j, hj⟩ := List.getElem?_of_mem ht
    rcases hcase j t hj with ⟨rfl, rfl⟩ | ⟨hj', ht'⟩
    · exact hown.setCell hs'ne _ _
    · exact (hother j t hj' ht').setCell (h.ne (List.mem_of_getElem? ht')) _ _
  · have hnew : ∀ (j : Nat) (t : Sl), j ≠ k → SS[j]? = some t → ∀ b, t.A.map (·.block) = some b → s'.A.map (·.block) ≠ some b := fun j t hj ht b hb1 hb2 => by
      rcases hp b hb2 with h4 | h4
      · exact h.ap j k t s hj ht hk b hb1 h4
      · have := ((h.ow t (List.mem_of_getElem? ht)).base b hb1).2.1; omega
    rcases hcase j1 t1 ht1 with ⟨rfl, rfl⟩ | ⟨hj1, h1'⟩
    · rcases hcase j2 t2 ht2 with ⟨rfl, rfl⟩ | ⟨hj2, h2'⟩
      · exact hj rfl
      · exact hnew j2 t2 hj2 h2' b hb2 hb1
    · rcases hcase j2 t2 ht2 with ⟨rfl, rfl⟩ | ⟨hj2, h2'⟩
      · exact hnew j1 t1 hj1 h1' b hb1 hb2
      · exact h.ap j1 j2 t1 t2 hj h1' h2' b hb1 hb2
end
/-- Behind the append the row still is one, with room for what is told. -/
theorem PTS.at {w w' : World} {B gr : Nat} {SS : List Sl} (h : PTS w B gr SS) (k : Nat) (s : Sl) (hk : SS[k]? = some s) (hg : w.grownBy w' ((Value.slice s.A s.l.length s.c).ownBlock)) : w'.cell? ⟨gr, k, none⟩ = some s.v ∧ w'.frozen? ⟨gr, k, none⟩ = false := by
  obtain ⟨cs, h1, h2⟩ := h.row
  have hgr' : w'.heap[gr]? = some (.cells cs 25 (0, 0)) := (hg.block gr h.lt (fun e => by
    rcases hA : s.A with _ | a
    · rw [hA] at e; cases e
    · rw [hA] at e
      have e : gr = a.block := by simpa [Value.ownBlock] using e
      exact h.ne (List.mem_of_getElem? hk) (by rw [hA, e]; rfl))).trans h1
  exact ⟨by rw [cell_of_row _ _ _ _ _ _ hgr']; exact h2 k s hk, frozen_of_row _ _ _ _ _ hgr'⟩
theorem SlOwn.evr2 {w : World} {B : Nat} {s : Sl} (h : SlOwn w B s) (p : Nat) (x : Ev) (hx : s.l[p]? = some x) : ∃ g o, s.A = some ⟨g, o, none⟩ ∧ B ≤ g ∧ g < w.heap.size ∧ w.rangeAt g (o + p * 5) x.cells := by
  obtain ⟨g, o, e, hg, hr⟩ := Go.Proofs.Ytoeknpaogeelmaa.evr h.own.at' p x hx
  exact ⟨g, o, e, (h.base g (by rw [e]; rfl)).1, hg, hr⟩
/-- Bytes that came in. -/
def U8At (w : World) (a : Option Addr) (l : List Nat) : Prop := ∀ (k x : Nat), l[k]? = some x → x < 256 ∧ ∃ g off, a = some ⟨g, off, none⟩ ∧ g < w.heap.size ∧ w.cell? ⟨g, off + k, none⟩ = some (.int .u8 (x : Int))
theorem slL_set (SS : List Sl) (k : Nat) (s : Sl) : slL (SS.set k s) = (slL SS).set k s.l := by unfold slL; rw [List.map_set]
theorem infoSlZ : (Try.prog.info? 25).map (fun i => (i.zero, i.size, i.bytes)) = some (some (.slice none 0 0), 1, 24) := infoSl
theorem nil_own (w : World) (B : Nat) : SlOwn w B ⟨none, 0, []⟩ := ⟨World.ownsRow_nil _ _ _ 5, Nat.le_refl _, Nat.zero_le _, fun _ => rfl, Nat.zero_le _⟩
theorem make_runs (n : Nat) (hn : n ≤ 1000) (w : World) (B : Nat) (hB : B ≤ w.heap.size) : ∃ (g : Nat) (w' : World), (Instr.makeSlice 22 (.int .i64 (n : Int)) (.int .i64 (n : Int))).run Try.prog w = .ok (.slice (some ⟨g, 0, none⟩) n n) w' ∧ PTS w' B g (List.replicate n ⟨none, 0, []⟩) ∧ Below w.heap.size w w' ∧ g = w.heap.size := by
  obtain ⟨ik, hik, hz0, hz1, hz2⟩ := info_parts infoSl
  obtain ⟨w', hrun, own, hgr⟩ := run_make_full (P := Try.prog) w w.heap.size 22 25 ik (.slice none 0 0) 1 Try.underlying22 hik hz0 hz1 .i64 .i64 n (by rw [hz2]; omega) (by unfold maxLen; omega) (Nat.le_refl _)
  refine ⟨_, w', hrun, ⟨?_, fun s hs => ?_, fun j k s t hj hs ht b hb => ?_, hB⟩, (Below.refl _ _).grown hgr (Nat.le_refl _) (by intro k hk; cases hk), rfl⟩
  · rw [Nat.mul_one, show (Value.slice none 0 0).cells = #[.slice none 0 0] from rfl, toList_madeCells_one] at own
    rcases own.2 with ⟨h1, h2⟩ | ⟨g', cap', cur, h1, hb, hrow, -, -, hs, ht⟩
    · cases h1
    · cases h1
      refine ⟨cur, hrow, fun j s hs => ?_⟩
      rw [List.getElem?_replicate] at hs
      split at hs
      · rename_i hj
        injection hs with hs; subst hs
        have e : (cur.toList.take (n * 1))[j]? = (List.replicate n (Value.slice none 0 0))[j]? := by rw [ht]
        rw [List.getElem?_take, if_pos (by omega)] at e
        rw [← Array.getElem?_toList, e, List.getElem?_replicate, if_pos hj]; rfl
      · cases hs
  · rw [List.eq_of_mem_replicate hs]; exact nil_own _ _
  · rw [List.eq_of_mem_replicate (List.mem_of_getElem? hs)] at hb; cases hb
end Go.Proofs.Ytoeknpaogeelmaa
