/-
  Layer merge: New and All of too few or too many runs; a row of runs beside a row of events; a row of places.
-/
import Derived.Test.YtoeknpaogeelmaaMs
import Derived.Test.YtoeknpaogeelmaaMi
set_option linter.unusedSimpArgs false
set_option linter.unusedVariables false
set_option maxRecDepth 8000
namespace Go.Proofs.Ytoeknpaogeelmaa
open Go.RowKit Go.Sort

theorem new_arg (A : Option Addr) (n c : Nat) (h : n < 1 ∨ 16 < n) (W : World) :
    Calls Try.prog 10 #[.slice A n c] W fun e w' => e = .returned (.tuple #[.pointer none, .int .i64 1]) ∧ Below W.heap.size W w' := by
  rcases h with h | h
  · have h1i : (n : Int) < 1 := by omega
    go_enter Try.func10, Try.ntmps10
    go_wp2
    go_ret2
    exact ⟨rfl, Below.refl _ _⟩
  · have h1i : ¬ (n : Int) < 1 := by omega
    have h16i : (16 : Int) < (n : Int) := by omega
    go_enter Try.func10, Try.ntmps10
    go_wp2
    go_ret2
    exact ⟨rfl, Below.refl _ _⟩
theorem all_arg (A : Option Addr) (n c : Nat) (h : n < 1 ∨ 16 < n) (W : World) :
    Calls Try.prog 11 #[.slice A n c] W fun e w' => e = .returned (.tuple #[.slice none 0 0, .int .i64 1]) ∧ Below W.heap.size W w' := by
  have HNW := Lib.hid (new_arg A n c h W)
  clear h
  go_enter Try.func11, Try.ntmps11
  go_wp2_with (go_at_call 10; (with_reducible refine (HNW.out).mono ?_); rintro e w2 ⟨rfl, hb⟩; have HB := Lib.hid hb; clear hb)
  go_ret2
  exact ⟨rfl, HB.out⟩
/-- append of events, with what it leaves. -/
theorem wpList_append_evG {w : World} {ops : Array Oper} {rest : List Oper} {o : Oper} {ac : Act} {Q : Exit → Act → World → Prop} (hgd : o.guard = none) (s x : Operand)
    (ho : o.op = .call { callee := .builtin .append, args := #[s, x], argTypes := #[25, 25] })
    (B : Nat) (A : Option Addr) (n cap : Nat) (l : List Ev) (hs : ac.eval s = .slice A n cap) (hown : OwnE w B A n cap l) (a : Option Addr) (m c : Nat) (l2 : List Ev) (hx : ac.eval x = .slice a m c) (hm : m = l2.length) (h2 : EvAt w a l2) (hnil : a = none → c = 0)
    (N : Nat) (hN : N = n + m) (hbytes : n + m ≤ 1000) (hbase : B ≤ w.heap.size)
    (h : ∀ A' cap' w', OwnE w' B A' N cap' (l ++ l2) → N ≤ cap' → cap' ≤ maxLen → (A' = none → cap' = 0) → Below B w w' → w.grownBy w' ((Value.slice A n cap).ownBlock) → (∀ k, A'.map (·.block) = some k → A.map (·.block) = some k ∨ w.heap.size ≤ k) → wpList Try.prog ops Q rest (ac.put o.dst (.slice A' N cap')) w') : wpList Try.prog ops Q (o :: rest) ac w := by
  subst hN
  obtain ⟨i0, hi, hz0, hz1, hz2⟩ := info_parts infoEv
  rcases a with _ | ad
  · obtain rfl := hnil rfl
    have hl2 : l2 = [] := by
      rcases l2 with _ | ⟨x, r⟩
      · rfl
      · obtain ⟨g, off, e, -⟩ := h2 0 (.int .u64 (x.off : Int)) rfl; cases e
    subst hl2
    have h0 : m = 0 := hm
    subst h0
    obtain ⟨A1, c1, e1, e2, e3, e4⟩ := ro_slice hown
    injection e1 with b1 b2 b3
    subst b1; subst b3
    refine wpList_append_own_none hgd s x 25 ho B 38 i0 5 Try.underlying25 hi (.slice A n cap) n (evs l) hs hown hx ?_
    exact h A cap w (by rw [List.append_nil]; exact hown) e2 e3 e4 (Below.refl _ _) (World.grownBy.refl _ _) (fun k hk => .inl hk)
  · refine wpList_append_own_at w hgd s x 25 ho B 38 i0 _ 5 48 Try.underlying25 hi hz0 hz1 hz2 rfl (by decide) (.slice A n cap) n (evs l) hs hown ad m c (evs l2) hx (by rw [evs_length, hm]) (fun j u hu => by
      obtain ⟨g', off', e, -, hc⟩ := h2 j u hu
      injection e with e; subst e
      rw [Addr.add_lit]; exact hc) (evs_one l2) (by unfold maxLen; omega) (by omega) hbase ?_
    intro v' w2 hown2 hgr _ h6
    have e : evs l ++ evs l2 = evs (l ++ l2) := by unfold evs; rw [List.flatMap_append]
    rw [e] at hown2
    obtain ⟨A1, c1, rfl, e2, e3, e4⟩ := ro_slice hown2
    refine h A1 c1 w2 hown2 e2 e3 e4 ((Below.refl _ w).grown hgr hbase (ro_base hown)) hgr (fun k hk => ?_)
    rcases A1 with _ | a1
    · cases hk
    · have hk : a1.block = k := by simpa using hk
      subst hk
      rcases h6 with h6 | h6
      · left
        rcases A with _ | a
        · cases h6
        · have h6 : a1.block = a.block := by simpa [Value.ownBlock] using h6
          rw [h6]; rfl
      · right
        have h6 : a1.block = w.heap.size := by simpa [Value.ownBlock] using h6
        omega
theorem SlOwn.base {w : World} {B : Nat} {s : Sl} (h : SlOwn w B s) : ∀ k, s.A.map (·.block) = some k → B ≤ k ∧ k < w.heap.size ∧ ∃ cur, w.heap[k]? = some (.cells cur 38 (0, 0)) := fun k hk => by
  rcases h.own.2 with ⟨e0, e1⟩ | ⟨g, cap', cur, e0, hb, hrow, -⟩
  · injection e0 with a1; rw [a1] at hk; cases hk
  · injection e0 with a1; rw [a1] at hk
    have hk : g = k := by simpa using hk
    subst hk; exact ⟨hb, (Array.getElem?_eq_some_iff.1 hrow).1, cur, hrow⟩
theorem OwnR.baseT {w : World} {B n cap : Nat} {A : Option Addr} {Ss : List Sl} (h : OwnR w B A n cap Ss) : ∀ k, A.map (·.block) = some k → ∃ cur, w.heap[k]? = some (.cells cur 25 (0, 0)) := fun k hk => by
  rcases h.2 with ⟨e0, e1⟩ | ⟨g, cap', cur, e0, hb, hrow, -⟩
  · injection e0 with a1; rw [a1] at hk; cases hk
  · injection e0 with a1; rw [a1] at hk
    have hk : g = k := by simpa using hk
    subst hk; exact ⟨cur, hrow⟩
theorem OwnR.besideE {w w' : World} {B B' n cap m : Nat} {A : Option Addr} {Ss : List Sl} {s : Sl} (h : OwnR w B A n cap Ss) (hs : SlOwn w B' s) (hg : w.grownBy w' ((Value.slice s.A m s.c).ownBlock)) : OwnR w' B A n cap Ss :=
  h.beside (fun k hk e => by
    obtain ⟨c1, h1⟩ := h.baseT k hk
    obtain ⟨-, -, c2, h2⟩ := hs.base k e.symm
    rw [h1] at h2; injection h2 with h2
    injection h2 with x1 x2 x3
    exact absurd x2 (by decide)) hg
theorem SlOwn.beside2 {w w' : World} {B m : Nat} {s F : Sl} (h : SlOwn w B s) (ne : ∀ k, s.A.map (·.block) = some k → F.A.map (·.block) ≠ some k) (hg : w.grownBy w' ((Value.slice F.A m F.c).ownBlock)) : SlOwn w' B s := by
  refine ⟨⟨h.own.1, ?_⟩, h.cap, h.cap', h.nil, h.small⟩
  rcases h.own.2 with h1 | ⟨g, cap', cur, h1, hb', hrow, h2⟩
  · exact .inl h1
  · refine .inr ⟨g, cap', cur, h1, hb', (hg.block g (Array.getElem?_eq_some_iff.1 hrow).1 fun e => ?_).trans hrow, h2⟩
    injection h1 with a1
    refine ne g (by rw [a1]; rfl) ?_
    rcases hF : F.A with _ | a2
    · rw [hF] at e; cases e
    · rw [hF] at e
      have e : g = a2.block := by simpa [Value.ownBlock] using e
      rw [e]; rfl
/-- A row of runs, its runs, and a row of events beside them. -/
structure MRS (B : Nat) (w : World) (As : Option Addr) (i cs : Nat) (SS : List Sl) (F : Sl) : Prop where
  rw : OwnR w B As i cs SS
  ow : ∀ s ∈ SS, SlOwn w B s
  fl : SlOwn w B F
  ap : ∀ s ∈ SS, ∀ k, s.A.map (·.block) = some k → F.A.map (·.block) ≠ some k
section
variable {B i cs : Nat} {w w' : World} {As : Option Addr} {SS : List Sl} {F : Sl}
theorem MRS.below (h : MRS B w As i cs SS F) (hb : Below w.heap.size w w') : MRS B w' As i cs SS F :=
  ⟨h.rw.below hb, fun s hs => (h.ow s hs).below hb, h.fl.below hb, h.ap⟩
theorem MRS.addRow (h : MRS B w As i cs SS F) (sl : Sl) (hs : SlOwn w B sl) (hne : ∀ k, sl.A.map (·.block) = some k → F.A.map (·.block) ≠ some k) (A' : Option Addr) (cap' : Nat) (hr : OwnR w' B A' (i + 1) cap' (SS ++ [sl])) (hg : w.grownBy w' ((Value.slice As i cs).ownBlock)) : MRS B w' A' (i + 1) cap' (SS ++ [sl]) F := by
  refine ⟨hr, fun s h2 => ?_, h.fl.beside h.rw hg, fun s h2 => ?_⟩
  · rcases List.mem_append.1 h2 with h3 | h3
    · exact (h.ow s h3).beside h.rw hg
    · rw [List.mem_singleton.1 h3]; exact hs.beside h.rw hg
  · rcases List.mem_append.1 h2 with h3 | h3
    · exact h.ap s h3
    · rw [List.mem_singleton.1 h3]; exact hne
theorem MRS.addFlat {m : Nat} (h : MRS B w As i cs SS F) (F' : Sl) (hf : SlOwn w' B F') (hg : w.grownBy w' ((Value.slice F.A m F.c).ownBlock)) (hp : ∀ k, F'.A.map (·.block) = some k → F.A.map (·.block) = some k ∨ w.heap.size ≤ k) : MRS B w' As i cs SS F' := by
  refine ⟨h.rw.besideE h.fl hg, fun s hs => (h.ow s hs).beside2 (h.ap s hs) hg, hf, fun s hs k hk e => ?_⟩
  rcases hp k e with h4 | h4
  · exact h.ap s hs k hk h4
  · have := ((h.ow s hs).base k hk).2.1; omega
end
/-- A row of whole numbers. -/
def AtRow (w : World) (g n : Nat) (f : Nat → Nat) : Prop := ∃ cs : Array Value, w.heap[g]? = some (.cells cs 3 (0, 0)) ∧ ∀ j, j < n → cs[j]? = some (.int .i64 (f j : Int))
theorem AtRow.cell {w : World} {g n : Nat} {f : Nat → Nat} (h : AtRow w g n f) {j : Nat} (hj : j < n) : w.cell? ⟨g, j, none⟩ = some (.int .i64 (f j : Int)) := by
  obtain ⟨cs, h1, h2⟩ := h; rw [cell_of_row _ _ _ _ _ _ h1]; exact h2 j hj
theorem AtRow.fr {w : World} {g n : Nat} {f : Nat → Nat} (h : AtRow w g n f) (j : Nat) : w.frozen? ⟨g, j, none⟩ = false := by
  obtain ⟨cs, h1, -⟩ := h; exact frozen_of_row _ _ _ _ _ h1
theorem AtRow.lt {w : World} {g n : Nat} {f : Nat → Nat} (h : AtRow w g n f) : g < w.heap.size := by
  obtain ⟨cs, h1, -⟩ := h; exact (Array.getElem?_eq_some_iff.1 h1).1
theorem AtRow.of {w w' : World} {g n : Nat} {f : Nat → Nat} (h : AtRow w g n f) (hk : w'.heap[g]? = w.heap[g]?) : AtRow w' g n f := by
  obtain ⟨cs, h1, h2⟩ := h; exact ⟨cs, hk.trans h1, h2⟩
theorem AtRow.set {w : World} {g n : Nat} {f : Nat → Nat} (h : AtRow w g n f) (j x : Nat) (hj : j < n) (y : Int) (hy : y = (x : Int)) : AtRow (w.setCell ⟨g, j, none⟩ (.int .i64 y)) g n (fun i => if i = j then x else f i) := by
  subst hy
  obtain ⟨cs, h1, h2⟩ := h
  refine ⟨cs.setIfInBounds j (.int .i64 (x : Int)), heap_setCell_same w g j cs _ _ h1, fun i hi => ?_⟩
  by_cases e : i = j
  · subst e; show _ = some (Value.int .i64 ((if i = i then x else f i : Nat) : Int)); rw [if_pos rfl, Array.getElem?_setIfInBounds_self_of_lt (Array.getElem?_eq_some_iff.1 (h2 i hi)).1]
  · show _ = some (Value.int .i64 ((if i = j then x else f i : Nat) : Int)); rw [if_neg e, Array.getElem?_setIfInBounds_ne (fun h => e h.symm)]; exact h2 i hi
theorem make_at2 (n : Nat) (hn : n ≤ 1000) (w : World) : ∃ (g : Nat) (w' : World), (Instr.makeSlice 34 (.int .i64 (n : Int)) (.int .i64 (n : Int))).run Try.prog w = .ok (.slice (some ⟨g, 0, none⟩) n n) w' ∧ AtRow w' g n (fun _ => 0) ∧ Below w.heap.size w w' ∧ g = w.heap.size := by
  obtain ⟨ik, hik, hz0, hz1, hz2⟩ := info_parts infoInt
  obtain ⟨w', hrun, own, hgr⟩ := run_make_full (P := Try.prog) w w.heap.size 34 3 ik (.int .i64 0) 1 Try.underlying34 hik hz0 hz1 .i64 .i64 n (by rw [hz2]; omega) (by unfold maxLen; omega) (Nat.le_refl _)
  obtain ⟨cs, h1, -, h2⟩ := rowz_zeros own
  exact ⟨_, w', hrun, ⟨cs, h1, h2⟩, (Below.refl _ _).grown hgr (Nat.le_refl _) (by intro k hk; cases hk), rfl⟩
/-- What is left of the runs: each without its first ones. -/
def Lefts (Rs0 Rs : List (List Ev)) (n : Nat) (f : Nat → Nat) : Prop := ∀ j, j < n → ∃ l, Rs0[j]? = some l ∧ f j ≤ l.length ∧ Rs[j]? = some (l.drop (f j))
theorem Lefts.set {Rs0 Rs : List (List Ev)} {n : Nat} {f : Nat → Nat} (h : Lefts Rs0 Rs n f) (k : Nat) (hk : k < n) (x : Ev) (xs : List Ev) (hx : Rs[k]? = some (x :: xs)) :
    Lefts Rs0 (Rs.set k xs) n (fun i => if i = k then f k + 1 else f i) ∧ ∃ l, Rs0[k]? = some l ∧ f k < l.length ∧ l[f k]? = some x := by
  obtain ⟨l, h1, h2, h3⟩ := h k hk
  rw [hx] at h3
  injection h3 with h3
  have hlt : f k < l.length := by
    rcases Nat.lt_or_ge (f k) l.length with h4 | h4
    · exact h4
    · rw [List.drop_eq_nil_of_le h4] at h3; cases h3
  rw [List.drop_eq_getElem_cons hlt] at h3
  injection h3 with h5 h6
  refine ⟨fun j hj => ?_, l, h1, hlt, by rw [List.getElem?_eq_getElem hlt, h5]⟩
  by_cases e : j = k
  · subst e
    refine ⟨l, h1, by show (if j = j then f j + 1 else f j) ≤ _; rw [if_pos rfl]; omega, ?_⟩
    show _ = some (l.drop (if j = j then f j + 1 else f j))
    rw [if_pos rfl, List.getElem?_set, if_pos rfl, if_pos (List.getElem?_eq_some_iff.1 hx).1, h6]
  · obtain ⟨l2, g1, g2, g3⟩ := h j hj
    exact ⟨l2, g1, by show (if j = k then f k + 1 else f j) ≤ _; rw [if_neg e]; exact g2, by show _ = some (l2.drop (if j = k then f k + 1 else f j)); rw [if_neg e, List.getElem?_set, if_neg (fun h => e h.symm)]; exact g3⟩
/-- Of an earlier run what stands first is not alike: what is told stands ahead of it. -/
theorem Lefts.ahead {Rs0 Rs : List (List Ev)} {n : Nat} {f : Nat → Nat} (h : Lefts Rs0 Rs n f) (k win : Nat) (hk : k < win) (hw : win < n) (hb : ah ltM (rsF Rs) k win = false) (x : Ev) (xs : List Ev) (hx : rsF Rs win = x :: xs) :
    ∃ l, Rs0[k]? = some l ∧ f k ≤ l.length ∧ ∀ y, l[f k]? = some y → lessB x y = true := by
  obtain ⟨l, h1, h2, h3⟩ := h k (by omega)
  refine ⟨l, h1, h2, fun y hy => ?_⟩
  have hlt := (List.getElem?_eq_some_iff.1 hy).1
  have e : rsF Rs k = y :: l.drop (f k + 1) := by
    rw [rsF_some h3, List.drop_eq_getElem_cons hlt]
    rw [List.getElem?_eq_getElem hlt] at hy; injection hy with hy; rw [hy]
  have := (ah_cons hb e hx).2 hk
  rw [ltM_less] at this; exact this
end Go.Proofs.Ytoeknpaogeelmaa
