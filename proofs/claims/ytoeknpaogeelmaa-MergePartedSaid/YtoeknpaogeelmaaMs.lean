/-
  Layer merge: SameAll, rows of runs and appends of them, Next of no tree.
-/
import Derived.Test.YtoeknpaogeelmaaMk
import Derived.Laws.AppendOwnNone
import Derived.OwnWalk
set_option linter.unusedSimpArgs false
set_option linter.unusedVariables false
set_option maxRecDepth 8000
namespace Go.Proofs.Ytoeknpaogeelmaa
open Go.RowKit Go.Sort

theorem evM_range {w : World} {A : Option Addr} {l : List Ev} (h : EvAt w A l) (i : Nat) (x : Ev) (hx : l[i]? = some x) : ∃ g off, A = some ⟨g, off, none⟩ ∧ g < w.heap.size ∧ w.rangeAt g (off + i * 5) x.cells := by
  have h0 : (evs l)[i * 5 + 0]? = x.cells[0]? := by rw [evs_get l i 0 (by decide), hx]; rfl
  obtain ⟨g, off, e, hg, -⟩ := h (i * 5 + 0) (.int .u64 (x.off : Int)) (by rw [h0]; rfl)
  refine ⟨g, off, e, hg, fun j v hv => ?_⟩
  have hj : j < 5 := (List.getElem?_eq_some_iff.1 hv).1
  have h1 : (evs l)[i * 5 + j]? = some v := by rw [evs_get l i j hj, hx]; exact hv
  obtain ⟨g', off', e', -, hc⟩ := h _ _ h1
  rw [e] at e'; injection e' with e'; injection e' with b1 b2; subst b1; subst b2
  rw [Nat.add_assoc]; exact hc
theorem bto2 {W w w' : World} (h : Below W.heap.size W w) (h' : Below w.heap.size w w') : Below W.heap.size W w' := h.trans (h'.mono h.size)
theorem rangeM_keep {w w' : World} {g o : Nat} {x : Ev} (h : w.rangeAt g o x.cells) (hg : g < w.heap.size) (hb : Below w.heap.size w w') : w'.rangeAt g o x.cells := fun j v hv => (hb.cell (p := ⟨g, o + j, none⟩) hg).trans (h j v hv)
theorem sameB_reflM (x : Ev) : sameB x x = true := by unfold sameB keqB; simp
theorem sameEM (x : Ev) (hx : x.val < 18446744073709551616) (w : World) : Calls Try.prog 14 #[.agg x.cells.toArray, .agg x.cells.toArray] w fun e w' => e = .returned (.bool true) ∧ Below w.heap.size w w' := by
  have h := refEvSame_any x x hx hx w
  rw [sameB_reflM] at h
  exact h
set_option maxHeartbeats 4000000 in
theorem sameAllM_core (g1 o1 g2 o2 n c1 c2 : Nat) (l : List Ev) (hn : Hid (n = l.length)) (h60 : n ≤ 1000) (hv : Hid (∀ x ∈ l, x.val < 18446744073709551616)) (W : World) (H1 : Hid (EvAt W (some ⟨g1, o1, none⟩) l)) (H2 : Hid (EvAt W (some ⟨g2, o2, none⟩) l)) :
    Calls Try.prog 12 #[.slice (some ⟨g1, o1, none⟩) n c1, .slice (some ⟨g2, o2, none⟩) n c2] W fun e w' => e = .returned (.bool true) ∧ Below W.heap.size W w' := by
  have hq : ((n : Int) != (n : Int)) = false := by simp
  go_enter Try.func12, Try.ntmps12
  go_wp2
  clear hq
  go_loopw [5] (fun v wr => ∃ k : Nat, k ≤ n ∧ v = .int .i64 k ∧ Below W.heap.size W wr) (fun v _ => n - (intOf v).toNat)
  case atStart => exact ⟨0, Nat.zero_le _, rfl, Below.refl _ _⟩
  case round =>
    obtain ⟨k, hk, rfl, hb⟩ := hrel
    have HB := Lib.hid hb
    clear hb
    by_cases hkn : k < n
    · have hkl : k < l.length := by have := hn.out; omega
      obtain ⟨x, hx⟩ : ∃ x, l[k]? = some x := ⟨l[k], List.getElem?_eq_getElem hkl⟩
      have HV := Lib.hid (hv.out x (List.mem_of_getElem? hx))
      obtain ⟨g, off, e, hg, hr⟩ := evM_range (H1.out.keep HB.out) k x hx
      injection e with e; injection e with b1 b2; subst b1; subst b2
      obtain ⟨g', off', e, hg', hr'⟩ := evM_range (H2.out.keep HB.out) k x hx
      injection e with e; injection e with b1 b2; subst b1; subst b2
      have HG1 := Lib.hid hg; have HG2 := Lib.hid hg'; have HX1 := Lib.hid hr; have HX2 := Lib.hid hr'
      clear hx hg hg' hr hr'
      have hz : (k : Int) < (n : Int) := by omega
      go_upto_region 6 with fail
      have hh0 : Below wr.heap.size wr wr.drew := (Below.refl _ _).drew
      refine wp_region_held_drew (S := fun w => Below wr.heap.size wr w) (by kernel_rfl) hh0 (fun hHeld => ?_)
      refine wpAnyH_take (i := 0) (v := .slice (some ⟨g1, o1, none⟩) n c1) rfl (by kernel_rfl) (by kernel_rfl) (by kernel_rfl) (fun _ _ _ h => h) (Or.inl ⟨by rfl, fun _ _ => rfl⟩) hHeld ?_
      try dsimp only
      try simp only [Act.put, List.getElem_toArray, List.getElem_cons_zero, List.getElem_cons_succ, List.setIfInBounds_toArray, List.set_cons_zero, List.set_cons_succ]
      refine wpAnyH_take (i := 1) (v := .int .i64 (k : Nat)) rfl (by kernel_rfl) (by kernel_rfl) (by kernel_rfl) (fun _ _ _ h => h) (Or.inl ⟨by rfl, fun _ _ => rfl⟩) hHeld ?_
      try dsimp only
      try simp only [Act.put, List.getElem_toArray, List.getElem_cons_zero, List.getElem_cons_succ, List.setIfInBounds_toArray, List.set_cons_zero, List.set_cons_succ]
      refine wpAnyH_take (i := 2) (v := .pointer (some ⟨g1, o1 + k * 5, none⟩)) rfl (by kernel_rfl) (by kernel_rfl) (by kernel_rfl) (fun _ _ _ h => h) (Or.inl ⟨by rfl, fun w _ => by go_simp⟩) hHeld ?_
      try dsimp only
      try simp only [Act.put, List.getElem_toArray, List.getElem_cons_zero, List.getElem_cons_succ, List.setIfInBounds_toArray, List.set_cons_zero, List.set_cons_succ]
      refine wpAnyH_take (i := 3) (v := .agg x.cells.toArray) rfl (by kernel_rfl) (by kernel_rfl) (by kernel_rfl) (fun _ _ _ h => h) (yieldsIf_load_mid rfl 38 (.tmp 19) rfl g1 (o1 + k * 5) rfl x.cells _ (fun w hw => rangeM_keep HX1.out HG1.out hw) uEvent rfl (iEvent x)) hHeld ?_
      try dsimp only
      try simp only [Act.put, List.getElem_toArray, List.getElem_cons_zero, List.getElem_cons_succ, List.setIfInBounds_toArray, List.set_cons_zero, List.set_cons_succ]
      refine wpAnyH_take (i := 4) (v := .slice (some ⟨g2, o2, none⟩) n c2) rfl (by kernel_rfl) (by kernel_rfl) (by kernel_rfl) (fun _ _ _ h => h) (Or.inl ⟨by rfl, fun _ _ => rfl⟩) hHeld ?_
      try dsimp only
      try simp only [Act.put, List.getElem_toArray, List.getElem_cons_zero, List.getElem_cons_succ, List.setIfInBounds_toArray, List.set_cons_zero, List.set_cons_succ]
      refine wpAnyH_take (i := 5) (v := .int .i64 (k : Nat)) rfl (by kernel_rfl) (by kernel_rfl) (by kernel_rfl) (fun _ _ _ h => h) (Or.inl ⟨by rfl, fun _ _ => rfl⟩) hHeld ?_
      try dsimp only
      try simp only [Act.put, List.getElem_toArray, List.getElem_cons_zero, List.getElem_cons_succ, List.setIfInBounds_toArray, List.set_cons_zero, List.set_cons_succ]
      refine wpAnyH_take (i := 6) (v := .pointer (some ⟨g2, o2 + k * 5, none⟩)) rfl (by kernel_rfl) (by kernel_rfl) (by kernel_rfl) (fun _ _ _ h => h) (Or.inl ⟨by rfl, fun w _ => by go_simp⟩) hHeld ?_
      try dsimp only
      try simp only [Act.put, List.getElem_toArray, List.getElem_cons_zero, List.getElem_cons_succ, List.setIfInBounds_toArray, List.set_cons_zero, List.set_cons_succ]
      refine wpAnyH_take (i := 7) (v := .agg x.cells.toArray) rfl (by kernel_rfl) (by kernel_rfl) (by kernel_rfl) (fun _ _ _ h => h) (yieldsIf_load_mid rfl 38 (.tmp 23) rfl g2 (o2 + k * 5) rfl x.cells _ (fun w hw => rangeM_keep HX2.out HG2.out hw) uEvent rfl (iEvent x)) hHeld ?_
      try dsimp only
      try simp only [Act.put, List.getElem_toArray, List.getElem_cons_zero, List.getElem_cons_succ, List.setIfInBounds_toArray, List.set_cons_zero, List.set_cons_succ]
      refine wpAnyH_ready (rs := [8]) (by kernel_rfl) (by simp) (AllReadyH.cons rfl (fun K hK => ?_) AllReadyH.nil)
      go_simp
      refine (sameEM x HV.out _).mono ?_
      rintro e w2 ⟨rfl, hb⟩
      replace hHeld := bto2 hHeld hb
      clear hb
      refine hK.out _ _ hHeld (fun hHeld => ?_)
      clear hK K
      try dsimp only
      try simp only [Act.put, List.getElem_toArray, List.getElem_cons_zero, List.getElem_cons_succ, List.setIfInBounds_toArray, List.set_cons_zero, List.set_cons_succ]
      refine wpAnyH_ready (rs := [9]) (by kernel_rfl) (by simp) (AllReadyH.cons rfl (fun K hK => ?_) AllReadyH.nil)
      go_simp
      refine hK.out _ _ hHeld (fun hHeld => ?_)
      clear hK K
      try dsimp only
      try simp only [Act.put, List.getElem_toArray, List.getElem_cons_zero, List.getElem_cons_succ, List.setIfInBounds_toArray, List.set_cons_zero, List.set_cons_succ]
      refine wpAnyH_done (by kernel_rfl) ?_ _
      have HB2 := Lib.hid (bto2 HB.out hHeld)
      go_wp2
      go_roundw
      case rel => exact ⟨k + 1, by omega, by go_num, HB2.out⟩
      case measure => simp [intOf]; omega
    · have hz : ¬ ((k : Int) < (n : Int)) := by omega
      go_wp2
      go_ret
      exact ⟨rfl, HB.out⟩
set_option maxHeartbeats 1000000 in
theorem sameAllM_none (a b : Option Addr) (c1 c2 : Nat) (W : World) :
    Calls Try.prog 12 #[.slice a 0 c1, .slice b 0 c2] W fun e w' => e = .returned (.bool true) ∧ Below W.heap.size W w' := by
  go_enter Try.func12, Try.ntmps12
  go_wp2
  refine wp_loop_rounds 1 ?_
  rw [rounds_succ]
  go_wp2
  go_ret
  exact ⟨rfl, Below.refl _ _⟩
/-- SameAll of one list twice. -/
theorem sameAllM_any (a b : Option Addr) (n c1 c2 : Nat) (l : List Ev) (hn : Hid (n = l.length)) (h60 : n ≤ 1000) (hv : Hid (∀ x ∈ l, x.val < 18446744073709551616)) (W : World) (H1 : Hid (EvAt W a l)) (H2 : Hid (EvAt W b l)) :
    Calls Try.prog 12 #[.slice a n c1, .slice b n c2] W fun e w' => e = .returned (.bool true) ∧ Below W.heap.size W w' := by
  rcases l with _ | ⟨x, r⟩
  · have : n = 0 := hn.out
    subst this
    exact sameAllM_none a b c1 c2 W
  · obtain ⟨g1, o1, rfl, -, -⟩ := evM_range H1.out 0 x rfl
    obtain ⟨g2, o2, rfl, -, -⟩ := evM_range H2.out 0 x rfl
    exact sameAllM_core g1 o1 g2 o2 n c1 c2 (x :: r) hn h60 hv W H1 H2
/-- A row that a call owns, of some events. -/
def RowAtM (w : World) (g n : Nat) : Prop := ∃ cs : Array Value, w.heap[g]? = some (.cells cs 38 (0, 0)) ∧ n * 5 ≤ cs.size
theorem RowAtM.cell {w : World} {g n : Nat} (h : RowAtM w g n) (i : Nat) (hi : i < n * 5) : (∃ v, w.cell? ⟨g, i, none⟩ = some v) ∧ w.frozen? ⟨g, i, none⟩ = false := by
  obtain ⟨cs, h1, h2⟩ := h
  exact ⟨⟨cs[i]'(by omega), by rw [cell_of_row _ _ _ _ _ _ h1, Array.getElem?_eq_getElem (by omega)]⟩, frozen_of_row _ _ _ _ _ h1⟩
theorem RowAtM.set {w : World} {g n i : Nat} {v : Value} (h : RowAtM w g n) : RowAtM (w.setCell ⟨g, i, none⟩ v) g n := by
  obtain ⟨cs, h1, h2⟩ := h
  exact ⟨cs.setIfInBounds i v, heap_setCell_same w g i cs _ v h1, by simpa using h2⟩
theorem own_rowM {w : World} {B n cap : Nat} {A : Option Addr} {l : List Ev} (h : OwnE w B A n cap l) (hn : 0 < n) : ∃ g, A = some ⟨g, 0, none⟩ ∧ B ≤ g ∧ RowAtM w g n := by
  rcases h.2 with ⟨e0, e1⟩ | ⟨g, cap', cur, e0, hb, hg, hn', hm, hs, ht⟩
  · omega
  · injection e0 with a1 a2 a3
    exact ⟨g, a1, hb, cur, hg, by rw [hs]; exact Nat.mul_le_mul_right 5 hn'⟩

/-- A row of runs that a call owns. -/
def OwnR (w : World) (B : Nat) (A : Option Addr) (n cap : Nat) (Ss : List Sl) : Prop := w.ownsRow B 25 1 (.slice A n cap) n (slV Ss)
/-- A run that a call owns. -/
structure SlOwn (w : World) (B : Nat) (s : Sl) : Prop where
  own : OwnE w B s.A s.l.length s.c s.l
  cap : s.l.length ≤ s.c
  cap' : s.c ≤ maxLen
  nil : s.A = none → s.c = 0
  small : s.l.length ≤ 1000
theorem SlOwn.ok {w : World} {B : Nat} {s : Sl} (h : SlOwn w B s) : SlOk w s := ⟨h.cap, h.cap', h.nil, h.own.at', h.small⟩
theorem SlOwn.below {w w' : World} {B : Nat} {s : Sl} (h : SlOwn w B s) (hb : Below w.heap.size w w') : SlOwn w' B s := ⟨h.own.keptE (S := fun _ => False) (Kept.of_below hb) (fun k hk => hk.elim), h.cap, h.cap', h.nil, h.small⟩
theorem OwnR.below {w w' : World} {B n cap : Nat} {A : Option Addr} {Ss : List Sl} (h : OwnR w B A n cap Ss) (hb : Below w.heap.size w w') : OwnR w' B A n cap Ss := by
  refine ⟨h.1, ?_⟩
  rcases h.2 with h1 | ⟨g, cap', cur, h1, hb', hrow, h2⟩
  · exact .inl h1
  · exact .inr ⟨g, cap', cur, h1, hb', (Kept.of_below (S := fun _ => False) hb).heap hrow (fun e => e), h2⟩
/-- A run's events aren't what a row of runs is: what is put behind the row leaves them. -/
theorem SlOwn.beside {w w' : World} {B B' n cap : Nat} {A : Option Addr} {Ss : List Sl} {s : Sl} (h : SlOwn w B s) (hr : OwnR w B' A n cap Ss) (hg : w.grownBy w' ((Value.slice A n cap).ownBlock)) : SlOwn w' B s := by
  refine ⟨⟨h.own.1, ?_⟩, h.cap, h.cap', h.nil, h.small⟩
  rcases h.own.2 with h1 | ⟨g, cap', cur, h1, hb', hrow, h2⟩
  · exact .inl h1
  · refine .inr ⟨g, cap', cur, h1, hb', (hg.block g (Array.getElem?_eq_some_iff.1 hrow).1 fun e => ?_).trans hrow, h2⟩
    rcases hr.2 with ⟨e0, e1⟩ | ⟨g3, cap3, cur3, e0, -, hrow3, -⟩
    · rw [e0] at e; cases e
    · rw [e0] at e
      have e : g = g3 := by simpa [Value.ownBlock] using e
      subst e
      rw [hrow] at hrow3; injection hrow3 with hrow3
      injection hrow3 with x1 x2 x3
      exact absurd x2 (by decide)
theorem OwnR.beside {w w' : World} {B n cap n2 cap2 : Nat} {A A2 : Option Addr} {Ss : List Sl} (h : OwnR w B A n cap Ss) (hB : ∀ k, A.map (·.block) = some k → some k ≠ A2.map (·.block)) (hg : w.grownBy w' ((Value.slice A2 n2 cap2).ownBlock)) : OwnR w' B A n cap Ss := by
  refine ⟨h.1, ?_⟩
  rcases h.2 with h1 | ⟨g, cap', cur, h1, hb', hrow, h2⟩
  · exact .inl h1
  · injection h1 with e1 e2 e3
    refine .inr ⟨g, cap', cur, by rw [e1, e3], hb', (hg.block g (Array.getElem?_eq_some_iff.1 hrow).1 fun e => ?_).trans hrow, h2⟩
    refine hB g (by rw [e1]; rfl) ?_
    rcases A2 with _ | a2
    · cases e
    · have e : g = a2.block := by simpa [Value.ownBlock] using e
      rw [e]; rfl
theorem OwnR.len {w : World} {B n cap : Nat} {A : Option Addr} {Ss : List Sl} (h : OwnR w B A n cap Ss) : n = Ss.length := by have := h.1; unfold slV at this; rw [List.length_map] at this; omega
theorem OwnR.caps {w : World} {B n cap : Nat} {A : Option Addr} {Ss : List Sl} (h : OwnR w B A n cap Ss) : n ≤ cap ∧ cap ≤ maxLen := by
  rcases h.2 with ⟨h1, h2⟩ | ⟨g, cap', cur, h1, -, -, h2, h3, -⟩
  · cases h1; exact ⟨by omega, Nat.zero_le _⟩
  · cases h1; exact ⟨h2, h3⟩
theorem OwnR.cell {w : World} {B n cap : Nat} {A : Option Addr} {Ss : List Sl} (h : OwnR w B A n cap Ss) (j : Nat) (s : Sl) (hs : Ss[j]? = some s) : ∃ g off, A = some ⟨g, off, none⟩ ∧ g < w.heap.size ∧ w.cell? ⟨g, off + j, none⟩ = some s.v := by
  rcases h.2 with ⟨e0, e1⟩ | ⟨g, cap', cur, e0, hb, hrow, hn, hm, hsz, ht⟩
  · have := h.len; have := (List.getElem?_eq_some_iff.1 hs).1; omega
  · injection e0 with a1 a2 a3
    refine ⟨g, 0, a1, (Array.getElem?_eq_some_iff.1 hrow).1, ?_⟩
    rw [cell_of_row _ _ _ _ _ _ hrow, Nat.zero_add, ← Array.getElem?_toList]
    have hj := (List.getElem?_eq_some_iff.1 hs).1
    have hl := h.len
    have e : (cur.toList.take (n * 1))[j]? = (slV Ss)[j]? := by rw [ht]
    rw [List.getElem?_take, if_pos (by omega)] at e
    rw [e]; unfold slV; rw [List.getElem?_map, hs]; rfl
theorem OwnR.runs {w : World} {B B' n cap : Nat} {A : Option Addr} {Ss : List Sl} (h : OwnR w B A n cap Ss) (hs : ∀ s ∈ Ss, SlOwn w B' s) : RunsAt w A Ss := ⟨h.cell, fun s h2 => (hs s h2).ok⟩
theorem OwnR.nil (w : World) (B : Nat) : OwnR w B none 0 0 [] := World.ownsRow_nil _ _ _ 1
theorem OwnR.base {w : World} {B n cap : Nat} {A : Option Addr} {Ss : List Sl} (h : OwnR w B A n cap Ss) : ∀ k, A.map (·.block) = some k → B ≤ k ∧ k < w.heap.size := fun k hk => by
  rcases h.2 with ⟨e0, e1⟩ | ⟨g, cap', cur, e0, hb, hrow, -⟩
  · injection e0 with a1; rw [a1] at hk; cases hk
  · injection e0 with a1; rw [a1] at hk; simp at hk; subst hk; exact ⟨hb, (Array.getElem?_eq_some_iff.1 hrow).1⟩
/-- append of one run. -/
theorem wpList_append_run {w : World} {ops : Array Oper} {rest : List Oper} {o : Oper} {ac : Act} {Q : Exit → Act → World → Prop} (hgd : o.guard = none) (s x : Operand)
    (ho : o.op = .call { callee := .builtin .append, args := #[s, x], argTypes := #[22, 22] })
    (B : Nat) (A : Option Addr) (n cap : Nat) (Ss : List Sl) (hs : ac.eval s = .slice A n cap) (hown : OwnR w B A n cap Ss) (b : Nat) (sl : Sl) (hx : ac.eval x = .slice (some ⟨b, 0, none⟩) 1 1) (hc : w.cell? ⟨b, 0, none⟩ = some sl.v)
    (hbytes : n + 1 ≤ 1000) (hbase : B ≤ w.heap.size)
    (h : ∀ A' cap' w', OwnR w' B A' (n + 1) cap' (Ss ++ [sl]) → w.grownBy w' ((Value.slice A n cap).ownBlock) → Below B w w' → (∀ k, A'.map (·.block) = some k → A.map (·.block) = some k ∨ w.heap.size ≤ k) → wpList Try.prog ops Q rest (ac.put o.dst (.slice A' (n + 1) cap')) w') : wpList Try.prog ops Q (o :: rest) ac w := by
  obtain ⟨i0, hi, hz0, hz1, hz2⟩ := info_parts infoSl
  refine wpList_append_own_at w hgd s x 22 ho B 25 i0 _ 1 24 Try.underlying22 hi hz0 hz1 hz2 rfl (by decide) (.slice A n cap) n (slV Ss) hs hown ⟨b, 0, none⟩ 1 1 [sl.v] hx rfl (fun j u hu => by
    rcases j with _ | j
    · injection hu with hu; subst hu; rw [Addr.add_lit]; exact hc
    · simp at hu) (fun u hu => by rw [List.mem_singleton.1 hu]; rfl) (by unfold maxLen; omega) (by omega) hbase ?_
  intro v' w2 hown2 hgr h5 h6
  have e : slV Ss ++ [sl.v] = slV (Ss ++ [sl]) := by unfold slV; rw [List.map_append]; rfl
  rw [e] at hown2
  rcases hown2.2 with ⟨e0, e1⟩ | ⟨g, cap', cur, e0, hb', hrow, h7⟩
  · omega
  · subst e0
    refine h (some ⟨g, 0, none⟩) cap' w2 hown2 hgr ((Below.refl B w).grown hgr hbase (fun k hk => ?_)) (fun k hk => ?_)
    · rcases hown.2 with ⟨e2, -⟩ | ⟨g2, cap2, cur2, e2, hb2, -⟩
      · rw [e2] at hk; cases hk
      · rw [e2] at hk; have hk : g2 = k := by simpa [Value.ownBlock] using hk
        omega
    · have hk : g = k := by simpa using hk
      subst hk
      rcases h6 with h6 | h6
      · left
        rcases A with _ | a
        · cases h6
        · have h6 : g = a.block := by simpa [Value.ownBlock] using h6
          rw [h6]; rfl
      · right
        have h6 : g = w.heap.size := by simpa [Value.ownBlock] using h6
        omega
set_option maxHeartbeats 2000000 in
theorem next_nil (w : World) : Calls Try.prog 13 #[.pointer none] w fun e w' => e = .returned (.tuple #[zEv, .int .i64 0, .bool false]) ∧ Below w.heap.size w w' := by
  obtain ⟨w1, hw1⟩ : ∃ w1, w1 = w.alloc (.cells #[.int .u64 0, .int .i64 0, .int .i64 0, .string { data := #[] }, .float .f64 0] 38) := ⟨_, rfl⟩
  have hb1 : Below w.heap.size w w1 := by rw [hw1]; exact (Below.refl _ _).alloc (Nat.le_refl _) _
  have HB1 := Lib.hid hb1
  obtain ⟨r0, hr0⟩ : ∃ r0, r0 = w.heap.size := ⟨_, rfl⟩
  have HW1 : Hid (w.alloc (.cells #[.int .u64 0, .int .i64 0, .int .i64 0, .string { data := #[] }, .float .f64 0] 38) = w1 ∧ w.heap.size = r0) := Lib.hid ⟨hw1.symm, hr0.symm⟩
  have hrow0 : w1.heap[r0]? = some (.cells #[.int .u64 0, .int .i64 0, .int .i64 0, .string { data := #[] }, .float .f64 0] 38 (0, 0)) := by rw [hw1, hr0]; exact heap_alloc_newM _ _
  have HROW0 := Lib.hid hrow0
  clear hw1 hb1 hr0 hrow0
  go_enter Try.func13, Try.ntmps13
  go_upto_region 1 with fail
  rw [HW1.out.1, HW1.out.2]
  have hh0 : Below w1.heap.size w1 w1.drew := (Below.refl _ _).drew
  refine wp_region_held_drew (S := fun w2 => Below w1.heap.size w1 w2) (by kernel_rfl) hh0 (fun hHeld => ?_)
  refine wpAnyH_take (i := 0) (v := .pointer none) rfl (by kernel_rfl) (by kernel_rfl) (by kernel_rfl) (fun _ _ _ h => h) (Or.inl ⟨by rfl, fun _ _ => rfl⟩) hHeld ?_
  try dsimp only
  try simp only [Act.put, List.getElem_toArray, List.getElem_cons_zero, List.getElem_cons_succ, List.setIfInBounds_toArray, List.set_cons_zero, List.set_cons_succ]
  refine wpAnyH_take (i := 1) (v := .bool true) rfl (by kernel_rfl) (by kernel_rfl) (by kernel_rfl) (fun _ _ _ h => h) (Or.inl ⟨by rfl, fun w _ => by go_simp⟩) hHeld ?_
  try dsimp only
  try simp only [Act.put, List.getElem_toArray, List.getElem_cons_zero, List.getElem_cons_succ, List.setIfInBounds_toArray, List.set_cons_zero, List.set_cons_succ]
  refine wpAnyH_take (i := 2) (v := .bool true) rfl (by kernel_rfl) (by kernel_rfl) (by kernel_rfl) (fun _ _ _ h => h) (Or.inl ⟨by rfl, fun _ _ => rfl⟩) hHeld ?_
  try dsimp only
  try simp only [Act.put, List.getElem_toArray, List.getElem_cons_zero, List.getElem_cons_succ, List.setIfInBounds_toArray, List.set_cons_zero, List.set_cons_succ]
  refine wpAnyH_take (i := 3) (v := undef) rfl (by kernel_rfl) (by kernel_rfl) (by kernel_rfl) (fun _ _ _ h => h) (Or.inr ⟨by rfl, rfl⟩) hHeld ?_
  try dsimp only
  try simp only [Act.put, List.getElem_toArray, List.getElem_cons_zero, List.getElem_cons_succ, List.setIfInBounds_toArray, List.set_cons_zero, List.set_cons_succ]
  refine wpAnyH_take (i := 4) (v := undef) rfl (by kernel_rfl) (by kernel_rfl) (by kernel_rfl) (fun _ _ _ h => h) (Or.inr ⟨by rfl, rfl⟩) hHeld ?_
  try dsimp only
  try simp only [Act.put, List.getElem_toArray, List.getElem_cons_zero, List.getElem_cons_succ, List.setIfInBounds_toArray, List.set_cons_zero, List.set_cons_succ]
  refine wpAnyH_take (i := 5) (v := undef) rfl (by kernel_rfl) (by kernel_rfl) (by kernel_rfl) (fun _ _ _ h => h) (Or.inr ⟨by rfl, rfl⟩) hHeld ?_
  try dsimp only
  try simp only [Act.put, List.getElem_toArray, List.getElem_cons_zero, List.getElem_cons_succ, List.setIfInBounds_toArray, List.set_cons_zero, List.set_cons_succ]
  refine wpAnyH_take (i := 6) (v := undef) rfl (by kernel_rfl) (by kernel_rfl) (by kernel_rfl) (fun _ _ _ h => h) (Or.inr ⟨by rfl, rfl⟩) hHeld ?_
  try dsimp only
  try simp only [Act.put, List.getElem_toArray, List.getElem_cons_zero, List.getElem_cons_succ, List.setIfInBounds_toArray, List.set_cons_zero, List.set_cons_succ]
  refine wpAnyH_take (i := 7) (v := undef) rfl (by kernel_rfl) (by kernel_rfl) (by kernel_rfl) (fun _ _ _ h => h) (Or.inr ⟨by rfl, rfl⟩) hHeld ?_
  try dsimp only
  try simp only [Act.put, List.getElem_toArray, List.getElem_cons_zero, List.getElem_cons_succ, List.setIfInBounds_toArray, List.set_cons_zero, List.set_cons_succ]
  refine wpAnyH_take (i := 8) (v := undef) rfl (by kernel_rfl) (by kernel_rfl) (by kernel_rfl) (fun _ _ _ h => h) (Or.inr ⟨by rfl, rfl⟩) hHeld ?_
  try dsimp only
  try simp only [Act.put, List.getElem_toArray, List.getElem_cons_zero, List.getElem_cons_succ, List.setIfInBounds_toArray, List.set_cons_zero, List.set_cons_succ]
  refine wpAnyH_take (i := 9) (v := .bool true) rfl (by kernel_rfl) (by kernel_rfl) (by kernel_rfl) (fun _ _ _ h => h) (Or.inl ⟨by rfl, fun w _ => by go_simp⟩) hHeld ?_
  try dsimp only
  try simp only [Act.put, List.getElem_toArray, List.getElem_cons_zero, List.getElem_cons_succ, List.setIfInBounds_toArray, List.set_cons_zero, List.set_cons_succ]
  refine wpAnyH_take (i := 10) (v := .bool true) rfl (by kernel_rfl) (by kernel_rfl) (by kernel_rfl) (fun _ _ _ h => h) (Or.inl ⟨by rfl, fun _ _ => rfl⟩) hHeld ?_
  try dsimp only
  try simp only [Act.put, List.getElem_toArray, List.getElem_cons_zero, List.getElem_cons_succ, List.setIfInBounds_toArray, List.set_cons_zero, List.set_cons_succ]
  refine wpAnyH_take (i := 11) (v := undef) rfl (by kernel_rfl) (by kernel_rfl) (by kernel_rfl) (fun _ _ _ h => h) (Or.inr ⟨by rfl, rfl⟩) hHeld ?_
  try dsimp only
  try simp only [Act.put, List.getElem_toArray, List.getElem_cons_zero, List.getElem_cons_succ, List.setIfInBounds_toArray, List.set_cons_zero, List.set_cons_succ]
  refine wpAnyH_take (i := 12) (v := undef) rfl (by kernel_rfl) (by kernel_rfl) (by kernel_rfl) (fun _ _ _ h => h) (Or.inr ⟨by rfl, rfl⟩) hHeld ?_
  try dsimp only
  try simp only [Act.put, List.getElem_toArray, List.getElem_cons_zero, List.getElem_cons_succ, List.setIfInBounds_toArray, List.set_cons_zero, List.set_cons_succ]
  refine wpAnyH_take (i := 13) (v := undef) rfl (by kernel_rfl) (by kernel_rfl) (by kernel_rfl) (fun _ _ _ h => h) (Or.inr ⟨by rfl, rfl⟩) hHeld ?_
  try dsimp only
  try simp only [Act.put, List.getElem_toArray, List.getElem_cons_zero, List.getElem_cons_succ, List.setIfInBounds_toArray, List.set_cons_zero, List.set_cons_succ]
  refine wpAnyH_take (i := 14) (v := undef) rfl (by kernel_rfl) (by kernel_rfl) (by kernel_rfl) (fun _ _ _ h => h) (Or.inr ⟨by rfl, rfl⟩) hHeld ?_
  try dsimp only
  try simp only [Act.put, List.getElem_toArray, List.getElem_cons_zero, List.getElem_cons_succ, List.setIfInBounds_toArray, List.set_cons_zero, List.set_cons_succ]
  refine wpAnyH_take (i := 15) (v := undef) rfl (by kernel_rfl) (by kernel_rfl) (by kernel_rfl) (fun _ _ _ h => h) (Or.inr ⟨by rfl, rfl⟩) hHeld ?_
  try dsimp only
  try simp only [Act.put, List.getElem_toArray, List.getElem_cons_zero, List.getElem_cons_succ, List.setIfInBounds_toArray, List.set_cons_zero, List.set_cons_succ]
  refine wpAnyH_take (i := 16) (v := undef) rfl (by kernel_rfl) (by kernel_rfl) (by kernel_rfl) (fun _ _ _ h => h) (Or.inr ⟨by rfl, rfl⟩) hHeld ?_
  try dsimp only
  try simp only [Act.put, List.getElem_toArray, List.getElem_cons_zero, List.getElem_cons_succ, List.setIfInBounds_toArray, List.set_cons_zero, List.set_cons_succ]
  refine wpAnyH_take (i := 17) (v := undef) rfl (by kernel_rfl) (by kernel_rfl) (by kernel_rfl) (fun _ _ _ h => h) (Or.inr ⟨by rfl, rfl⟩) hHeld ?_
  try dsimp only
  try simp only [Act.put, List.getElem_toArray, List.getElem_cons_zero, List.getElem_cons_succ, List.setIfInBounds_toArray, List.set_cons_zero, List.set_cons_succ]
  refine wpAnyH_take (i := 18) (v := undef) rfl (by kernel_rfl) (by kernel_rfl) (by kernel_rfl) (fun _ _ _ h => h) (Or.inr ⟨by rfl, rfl⟩) hHeld ?_
  try dsimp only
  try simp only [Act.put, List.getElem_toArray, List.getElem_cons_zero, List.getElem_cons_succ, List.setIfInBounds_toArray, List.set_cons_zero, List.set_cons_succ]
  refine wpAnyH_take (i := 19) (v := undef) rfl (by kernel_rfl) (by kernel_rfl) (by kernel_rfl) (fun _ _ _ h => h) (Or.inr ⟨by rfl, rfl⟩) hHeld ?_
  try dsimp only
  try simp only [Act.put, List.getElem_toArray, List.getElem_cons_zero, List.getElem_cons_succ, List.setIfInBounds_toArray, List.set_cons_zero, List.set_cons_succ]
  refine wpAnyH_take (i := 20) (v := undef) rfl (by kernel_rfl) (by kernel_rfl) (by kernel_rfl) (fun _ _ _ h => h) (Or.inr ⟨by rfl, rfl⟩) hHeld ?_
  try dsimp only
  try simp only [Act.put, List.getElem_toArray, List.getElem_cons_zero, List.getElem_cons_succ, List.setIfInBounds_toArray, List.set_cons_zero, List.set_cons_succ]
  refine wpAnyH_take (i := 21) (v := undef) rfl (by kernel_rfl) (by kernel_rfl) (by kernel_rfl) (fun _ _ _ h => h) (Or.inr ⟨by rfl, rfl⟩) hHeld ?_
  try dsimp only
  try simp only [Act.put, List.getElem_toArray, List.getElem_cons_zero, List.getElem_cons_succ, List.setIfInBounds_toArray, List.set_cons_zero, List.set_cons_succ]
  refine wpAnyH_take (i := 22) (v := undef) rfl (by kernel_rfl) (by kernel_rfl) (by kernel_rfl) (fun _ _ _ h => h) (Or.inr ⟨by rfl, rfl⟩) hHeld ?_
  try dsimp only
  try simp only [Act.put, List.getElem_toArray, List.getElem_cons_zero, List.getElem_cons_succ, List.setIfInBounds_toArray, List.set_cons_zero, List.set_cons_succ]
  refine wpAnyH_ready (rs := [23]) (by kernel_rfl) (by simp) (AllReadyH.cons rfl (fun K hK => ?_) AllReadyH.nil)
  go_simp
  refine hK.out _ _ hHeld (fun hHeld => ?_)
  clear hK K
  refine wpAnyH_done (by kernel_rfl) ?_ _
  go_wp2_with (refine wpList_store_row rfl 38 (.tmp 2) (.tmp 31) rfl r0 #[.int .u64 0, .int .i64 0, .int .i64 0, .string { data := #[] }, .float .f64 0] rfl rfl _ _ HROW0.out iZero rfl oneZ ?_)
  exact post_row3 2 3 4 38 Try.results13 rfl r0 38 _ (0, 0) _ rfl (setRow_heap _ _ _ _ _ _ HROW0.out) uEvent rfl iZero ⟨rfl, below_setRow (HB1.out.trans (hHeld.mono HB1.out.size)) (by rw [← HW1.out.2]; exact Nat.le_refl _) _⟩
end Go.Proofs.Ytoeknpaogeelmaa
