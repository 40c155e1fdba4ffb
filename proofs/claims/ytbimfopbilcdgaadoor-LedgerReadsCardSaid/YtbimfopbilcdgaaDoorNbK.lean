/-
  Layer ledger: changes and panes, as rows that a call owns; append, cuts, Clone.
-/
import Derived.Laws.AppendOwnNone
import Derived.Laws.OwnMore
import Derived.Maps.AppendAt
import Derived.OwnWalk
import Derived.OwnWalkIn
import Derived.Test.YtbimfopbilcdgaaDoorNaK
import Derived.Test.YtbimfopbilcdgaaDoorEaK
set_option linter.unusedSimpArgs false
set_option linter.unusedVariables false
set_option maxRecDepth 8000
namespace Go.Proofs.YtbimfopbilcdgaaDoor
open Go.RowKit Go.Sort

/-- A change. -/
structure Chg where
  put : Bool
  rev : Nat
  p : Pl
  t : Tel
/-- A pane that is there. -/
structure Pw where
  p : Pl
  t : Tel
structure Chg.Ok (c : Chg) : Prop where
  kb : c.p.key.size ≤ 1000
  rev : c.rev < 18446744073709551616
  p : c.p.Ok
  t : c.t.Ok
structure Pw.Ok (c : Pw) : Prop where
  p : c.p.Ok
  t : c.t.Ok
def Chg.pw (c : Chg) : Pw := ⟨c.p, c.t⟩
def t0 : Tel := ⟨0, 0, false, 0, 0⟩
instance : Inhabited Pw := ⟨⟨⟨ByteArray.empty, 0, 0⟩, t0⟩⟩
instance : Inhabited Chg := ⟨⟨false, 0, ⟨ByteArray.empty, 0, 0⟩, t0⟩⟩
theorem bto {W w w' : World} (h : Below W.heap.size W w) (h' : Below w.heap.size w w') : Below W.heap.size W w' := h.trans (h'.mono h.size)

def Chg.cells (x : Chg) : List Value := [.bool x.put, .int .u64 (x.rev : Int), .string x.p.key, .int .i64 x.p.s, .int .i64 x.p.e, .int .u64 (x.t.c : Int), .float .f64 x.t.s, .bool x.t.o, .float .f64 x.t.lo, .float .f64 x.t.hi]
theorem ch_len (x : Chg) : x.cells.length = 10 := rfl
theorem ch_one (x : Chg) : ∀ v ∈ x.cells, v.oneCell' = true := fun v hv => by
  simp only [Chg.cells, List.mem_cons, List.not_mem_nil, or_false] at hv
  rcases hv with rfl | rfl | rfl | rfl | rfl | rfl | rfl | rfl | rfl | rfl <;> rfl
def chs (l : List Chg) : List Value := l.flatMap Chg.cells
theorem chs_length (l : List Chg) : (chs l).length = l.length * 10 := by
  induction l with
  | nil => rfl
  | cons x r ih => unfold chs at *; rw [List.flatMap_cons, List.length_append, ih, ch_len, List.length_cons]; omega
theorem chs_one (l : List Chg) : ∀ v ∈ chs l, v.oneCell' = true := fun v hv => by
  obtain ⟨x, -, hx⟩ := List.mem_flatMap.1 hv
  exact ch_one x v hx
theorem chs_get (l : List Chg) (k j : Nat) (hj : j < 10) : (chs l)[k * 10 + j]? = (l[k]?).bind fun x => x.cells[j]? := by
  induction l generalizing k with
  | nil => simp [chs]
  | cons x r ih =>
    unfold chs at *
    rw [List.flatMap_cons]
    rcases k with _ | k
    · rw [List.getElem?_append_left (by rw [ch_len]; omega)]; simp
    · rw [List.getElem?_append_right (by rw [ch_len]; omega), ch_len, show (k + 1) * 10 + j - 10 = k * 10 + j by omega, ih]; simp
/-- A slice value that holds some of them, in a world. -/
def ChAt (w : World) (a : Option Addr) (l : List Chg) : Prop := ∀ (j : Nat) (v : Value), (chs l)[j]? = some v → ∃ g off, a = some ⟨g, off, none⟩ ∧ g < w.heap.size ∧ w.cell? ⟨g, off + j, none⟩ = some v
theorem ChAt.keep {w w' : World} {a : Option Addr} {l : List Chg} (h : ChAt w a l) (hb : Below w.heap.size w w') : ChAt w' a l := fun j v hv => by
  obtain ⟨g, off, h2, h3, h4⟩ := h j v hv
  exact ⟨g, off, h2, Nat.lt_of_lt_of_le h3 hb.size, (hb.cell (p := ⟨g, off + j, none⟩) h3).trans h4⟩
theorem ChAt.nil (w : World) (a : Option Addr) : ChAt w a [] := fun j v hv => by simp [chs] at hv
theorem infoCh : (Tryd.prog.info? 43).map (fun i => (i.zero, i.size, i.bytes)) = some (some (.agg #[.bool false, .int .u64 0, .string ByteArray.empty, .int .i64 0, .int .i64 0, .int .u64 0, .float .f64 0, .bool false, .float .f64 0, .float .f64 0]), 10, 88) := by kernel_rfl
/-- .. that a call owns. -/
def OwnCh (w : World) (B : Nat) (A : Option Addr) (n cap : Nat) (l : List Chg) : Prop := w.ownsRow B 43 10 (.slice A n cap) n (chs l)
theorem ch_roslice {w : World} {B n : Nat} {v : Value} {xs : List Value} (h : w.ownsRow B 43 10 v n xs) : ∃ A cap, v = .slice A n cap ∧ n ≤ cap ∧ cap ≤ maxLen ∧ (A = none → cap = 0) := by
  rcases h.2 with ⟨e0, e1⟩ | ⟨g, cap', cur, e0, -, -, h1, h2, -⟩
  · exact ⟨none, 0, by rw [e0, e1], by omega, Nat.zero_le _, fun _ => rfl⟩
  · exact ⟨_, _, e0, h1, h2, fun h => by cases h⟩
theorem ch_robase {w : World} {B n cap : Nat} {A : Option Addr} {l : List Chg} (h : OwnCh w B A n cap l) : ∀ k, (Value.slice A n cap).ownBlock = some k → B ≤ k := by
  intro k hk
  rcases h.2 with ⟨e0, e1⟩ | ⟨g, cap', cur, e0, hb, -⟩
  · rw [e0] at hk; cases hk
  · rw [e0] at hk; cases hk; exact hb
theorem ch_roaddr {w : World} {B n cap : Nat} {A : Option Addr} {l : List Chg} (h : OwnCh w B A n cap l) : A = none ∨ ∃ g, A = some ⟨g, 0, none⟩ := by
  rcases h.2 with ⟨e0, e1⟩ | ⟨g, cap', cur, e0, -⟩
  · injection e0 with e0; exact .inl e0
  · injection e0 with e0; exact .inr ⟨g, e0⟩
theorem OwnCh.len {w : World} {B n cap : Nat} {A : Option Addr} {l : List Chg} (h : OwnCh w B A n cap l) : n = l.length := by have := h.1; rw [chs_length] at this; omega
theorem OwnCh.nil (w : World) (B : Nat) : OwnCh w B none 0 0 [] := World.ownsRow_nil _ _ _ 10
theorem OwnCh.lt {w : World} {B n cap : Nat} {A : Option Addr} {l : List Chg} (h : OwnCh w B A n cap l) (g off : Nat) (hA : A = some ⟨g, off, none⟩) : g < w.heap.size ∧ B ≤ g ∧ off = 0 := by
  subst hA
  rcases h.2 with ⟨e0, e1⟩ | ⟨g', cap', cur, e0, hb, hg, -⟩
  · cases e0
  · cases e0; exact ⟨(Array.getElem?_eq_some_iff.1 hg).1, hb, rfl⟩
/-- append, the source nil, empty or not. -/
theorem wpList_append_ch {w : World} {ops : Array Oper} {rest : List Oper} {o : Oper} {ac : Act} {Q : Exit → Act → World → Prop} (hgd : o.guard = none) (s x : Operand)
    (ho : o.op = .call { callee := .builtin .append, args := #[s, x], argTypes := #[24, 24] })
    (B : Nat) (A : Option Addr) (n cap : Nat) (l : List Chg) (hs : ac.eval s = .slice A n cap) (hown : OwnCh w B A n cap l) (a : Option Addr) (m c : Nat) (l2 : List Chg) (hx : ac.eval x = .slice a m c) (hm : m = l2.length) (h2 : ChAt w a l2) (hnil : a = none → c = 0)
    (N : Nat) (hN : N = n + m) (hbytes : n + m ≤ 1000) (hbase : B ≤ w.heap.size)
    (h : ∀ A' cap' w', OwnCh w' B A' N cap' (l ++ l2) → N ≤ cap' → cap' ≤ maxLen → (A' = none → cap' = 0) → Below B w w' → (w.grownBy w' (Value.slice A n cap).ownBlock ∨ w' = w) → (A' = A ∨ (∃ g, A' = some ⟨g, 0, none⟩ ∧ w.heap.size ≤ g)) → wpList Tryd.prog ops Q rest (ac.put o.dst (.slice A' N cap')) w') : wpList Tryd.prog ops Q (o :: rest) ac w := by
  subst hN
  obtain ⟨i0, hi, hz0, hz1, hz2⟩ := info_parts infoCh
  rcases a with _ | ad
  · obtain rfl := hnil rfl
    have hl2 : l2 = [] := by
      rcases l2 with _ | ⟨x, r⟩
      · rfl
      · obtain ⟨g, off, e, -⟩ := h2 0 (.bool x.put) rfl; cases e
    subst hl2
    have h0 : m = 0 := hm
    subst h0
    obtain ⟨A1, c1, e1, e2, e3, e4⟩ := ch_roslice hown
    injection e1 with b1 b2 b3
    subst b1; subst b3
    refine wpList_append_own_none hgd s x 24 ho B 43 i0 10 Tryd.underlying24 hi (.slice A n cap) n (chs l) hs hown hx ?_
    exact h A cap w (by rw [List.append_nil]; exact hown) e2 e3 e4 (Below.refl _ _) (.inr rfl) (.inl rfl)
  · refine wpList_append_own_at w hgd s x 24 ho B 43 i0 _ 10 88 Tryd.underlying24 hi hz0 hz1 hz2 rfl (by decide) (.slice A n cap) n (chs l) hs hown ad m c (chs l2) hx (by rw [chs_length, hm]) (fun j u hu => by
      obtain ⟨g', off', e, -, hc⟩ := h2 j u hu
      injection e with e; subst e
      rw [Addr.add_lit]; exact hc) (chs_one l2) (by unfold maxLen; omega) (by omega) hbase ?_
    intro v' w2 hown2 hgr _ hloc
    have e : chs l ++ chs l2 = chs (l ++ l2) := by unfold chs; rw [List.flatMap_append]
    rw [e] at hown2
    obtain ⟨A1, c1, rfl, e2, e3, e4⟩ := ch_roslice hown2
    refine h A1 c1 w2 hown2 e2 e3 e4 ((Below.refl _ w).grown hgr hbase (ch_robase hown)) (.inl hgr) ?_
    have a1 := ch_roaddr hown2
    have a2 := ch_roaddr hown
    rcases a1 with rfl | ⟨g1, rfl⟩ <;> rcases a2 with rfl | ⟨g2, rfl⟩
    · exact .inl rfl
    · rcases hloc with hloc | hloc <;> cases hloc
    · rcases hloc with hloc | hloc
      · cases hloc
      · injection hloc with hloc
        exact .inr ⟨g1, rfl, Nat.le_of_eq (by simpa using hloc.symm)⟩
    · rcases hloc with hloc | hloc
      · injection hloc with hloc
        have : g1 = g2 := hloc
        rw [this]; exact .inl rfl
      · injection hloc with hloc
        exact .inr ⟨g1, rfl, Nat.le_of_eq (by simpa using hloc.symm)⟩
theorem chs_take (l : List Chg) (k j : Nat) (v : Value) (h : (chs (l.take k))[j]? = some v) : (chs l)[j]? = some v := by
  have e : chs l = chs (l.take k) ++ chs (l.drop k) := by unfold chs; rw [← List.flatMap_append, List.take_append_drop]
  rw [e, List.getElem?_append_left (List.getElem?_eq_some_iff.1 h).1, h]
theorem chs_drop (l : List Chg) (k : Nat) (hk : k ≤ l.length) (j : Nat) : (chs (l.drop k))[j]? = (chs l)[k * 10 + j]? := by
  have e : chs l = chs (l.take k) ++ chs (l.drop k) := by unfold chs; rw [← List.flatMap_append, List.take_append_drop]
  have hl : (chs (l.take k)).length = k * 10 := by rw [chs_length, List.length_take, Nat.min_eq_left hk]
  rw [e, List.getElem?_append_right (by omega), hl, Nat.add_sub_cancel_left]
theorem OwnCh.at' {w : World} {B n cap : Nat} {A : Option Addr} {l : List Chg} (h : OwnCh w B A n cap l) : ChAt w A l := fun j v hv => by
  have hjl := (List.getElem?_eq_some_iff.1 hv).1
  rcases h.2 with ⟨e0, e1⟩ | ⟨g, cap', cur, e0, hb, hg, hn, hm, hs, ht⟩
  · have := h.1; rw [e1, Nat.zero_mul] at this; omega
  · injection e0 with a1 a2 a3
    subst a1
    refine ⟨g, 0, rfl, (Array.getElem?_eq_some_iff.1 hg).1, ?_⟩
    rw [cell_of_row _ _ _ _ _ _ hg, Nat.zero_add, ← Array.getElem?_toList]
    have := h.1
    rw [← ht, List.getElem?_take] at hv
    rw [if_pos (by omega)] at hv
    exact hv
theorem chr {w : World} {A : Option Addr} {l : List Chg} (h : ChAt w A l) (i : Nat) (x : Chg) (hx : l[i]? = some x) : ∃ g off, A = some ⟨g, off, none⟩ ∧ g < w.heap.size ∧ w.rangeAt g (off + i * 10) x.cells := by
  have h0 : (chs l)[i * 10 + 0]? = x.cells[0]? := by rw [chs_get l i 0 (by decide), hx]; rfl
  obtain ⟨g, off, e, hg, -⟩ := h (i * 10 + 0) (.bool x.put) (by rw [h0]; rfl)
  refine ⟨g, off, e, hg, fun j v hv => ?_⟩
  have hj : j < 10 := (List.getElem?_eq_some_iff.1 hv).1
  have h1 : (chs l)[i * 10 + j]? = some v := by rw [chs_get l i j hj, hx]; exact hv
  obtain ⟨g', off', e', -, hc⟩ := h _ _ h1
  rw [e] at e'; injection e' with e'; injection e' with b1 b2; subst b1; subst b2
  rw [Nat.add_assoc]; exact hc
theorem chkeep {w w' : World} {g o : Nat} {x : Chg} (h : w.rangeAt g o x.cells) (hg : g < w.heap.size) (hb : Below w.heap.size w w') : w'.rangeAt g o x.cells := fun j v hv => (hb.cell (p := ⟨g, o + j, none⟩) hg).trans (h j v hv)
theorem OwnCh.less {w : World} {B B' n cap : Nat} {A : Option Addr} {l : List Chg} (h : OwnCh w B A n cap l) (hB : B' ≤ B) : OwnCh w B' A n cap l := by
  refine ⟨h.1, ?_⟩
  rcases h.2 with h1 | ⟨g, cap', cur, h1, hb, h2⟩
  · exact .inl h1
  · exact .inr ⟨g, cap', cur, h1, Nat.le_trans hB hb, h2⟩
theorem OwnCh.below {w w' : World} {B B' n cap : Nat} {A : Option Addr} {l : List Chg} (h : OwnCh w B A n cap l) (hb : Below B' w w') (hA : ∀ g off, A = some ⟨g, off, none⟩ → g < B') : OwnCh w' B A n cap l := by
  refine ⟨h.1, ?_⟩
  rcases h.2 with h1 | ⟨g, cap', cur, h1, hb1, h2, h3⟩
  · exact .inl h1
  · injection h1 with a1 a2 a3
    subst a1; subst a3
    exact .inr ⟨g, cap, cur, rfl, hb1, (hb.block g (hA g 0 rfl)).trans h2, h3⟩
theorem OwnCh.same {w w' : World} {B n cap : Nat} {A : Option Addr} {l : List Chg} (h : OwnCh w B A n cap l) (hA : ∀ g off, A = some ⟨g, off, none⟩ → w'.heap[g]? = w.heap[g]?) : OwnCh w' B A n cap l := by
  refine ⟨h.1, ?_⟩
  rcases h.2 with h1 | ⟨g, cap', cur, h1, hb1, h2, h3⟩
  · exact .inl h1
  · injection h1 with a1 a2 a3
    subst a1; subst a3
    exact .inr ⟨g, cap, cur, rfl, hb1, (hA g 0 rfl).trans h2, h3⟩
theorem chAt_new (w : World) (l : List Chg) (cs : Array Value) (hcs : cs.toList = chs l) (t : TypeId) : ChAt (w.alloc (.cells cs t)) (some ⟨w.heap.size, 0, none⟩) l := fun j v hv => by
  refine ⟨w.heap.size, 0, rfl, by simp, ?_⟩
  rw [Nat.zero_add, cell_of_row _ _ _ _ _ _ (heap_new w _), ← Array.getElem?_toList, hcs]; exact hv
theorem chcut_from (a : Option Addr) (len cap k : Nat) (hk : k ≤ len) (hc : len ≤ cap) (hnil : a = none → cap = 0) :
    ∃ A C, (∀ w, (Instr.slice 24 (.slice a len cap) (some (.int .i64 (k : Int))) none none).run Tryd.prog w = .ok (.slice A (len - k) C) w) ∧ (A = none → C = 0) ∧ len - k ≤ C ∧ ∀ w l, len = l.length → ChAt w a l → ChAt w A (l.drop k) := by
  refine ⟨if cap = k then a else a.map (·.add (k * 10)), cap - k, fun w => ?_, fun h => ?_, by omega, fun w l hl h j x hx => ?_⟩
  · rw [run_slice_l w 24 a len cap Tryd.underlying24 .i64 (k : Int) (by omega) (by omega)]
    rw [show (Go.sizeOf (Tryd.prog.elem 24)).run Tryd.prog w = .ok 10 w from by kernel_rfl]
    simp [Result.andThen, sliced]
  · split at h
    · omega
    · rcases a with _ | a
      · have := hnil rfl; omega
      · cases h
  · have hkl : k < l.length := by
      have := (List.getElem?_eq_some_iff.1 hx).1
      rw [chs_length, List.length_drop] at this; omega
    rw [chs_drop l k (by omega)] at hx
    obtain ⟨g, off, rfl, hg, hcell⟩ := h _ _ hx
    rw [if_neg (by omega)]
    exact ⟨g, off + k * 10, by simp [Addr.add_lit], hg, by rw [Nat.add_assoc]; exact hcell⟩
theorem chcut_to (a : Option Addr) (len cap k : Nat) (hk : k ≤ len) (hc : len ≤ cap) (hnil : a = none → cap = 0) :
    ∃ A, (∀ w, (Instr.slice 24 (.slice a len cap) none (some (.int .i64 (k : Int))) none).run Tryd.prog w = .ok (.slice A k cap) w) ∧ (A = none → cap = 0) ∧ ∀ w l, len = l.length → ChAt w a l → ChAt w A (l.take k) := by
  refine ⟨if cap = 0 then a else a.map (·.add 0), fun w => ?_, fun h => ?_, fun w l hl h j x hx => ?_⟩
  · rw [run_slice_h w 24 a len cap Tryd.underlying24 .i64 (k : Int) (by omega) (by omega)]
    rw [show (Go.sizeOf (Tryd.prog.elem 24)).run Tryd.prog w = .ok 10 w from by kernel_rfl]
    simp [Result.andThen, sliced]
  · split at h
    · omega
    · rcases a with _ | a
      · have := hnil rfl; omega
      · cases h
  · obtain ⟨g, off, rfl, hg, hcell⟩ := h _ _ (chs_take l k j x hx)
    exact ⟨g, off, by simp [Addr.add_lit], hg, hcell⟩

def Pw.cells (x : Pw) : List Value := [.string x.p.key, .int .i64 x.p.s, .int .i64 x.p.e, .int .u64 (x.t.c : Int), .float .f64 x.t.s, .bool x.t.o, .float .f64 x.t.lo, .float .f64 x.t.hi]
theorem pw_len (x : Pw) : x.cells.length = 8 := rfl
theorem pw_one (x : Pw) : ∀ v ∈ x.cells, v.oneCell' = true := fun v hv => by
  simp only [Pw.cells, List.mem_cons, List.not_mem_nil, or_false] at hv
  rcases hv with rfl | rfl | rfl | rfl | rfl | rfl | rfl | rfl <;> rfl
def pws (l : List Pw) : List Value := l.flatMap Pw.cells
theorem pws_length (l : List Pw) : (pws l).length = l.length * 8 := by
  induction l with
  | nil => rfl
  | cons x r ih => unfold pws at *; rw [List.flatMap_cons, List.length_append, ih, pw_len, List.length_cons]; omega
theorem pws_one (l : List Pw) : ∀ v ∈ pws l, v.oneCell' = true := fun v hv => by
  obtain ⟨x, -, hx⟩ := List.mem_flatMap.1 hv
  exact pw_one x v hx
theorem pws_get (l : List Pw) (k j : Nat) (hj : j < 8) : (pws l)[k * 8 + j]? = (l[k]?).bind fun x => x.cells[j]? := by
  induction l generalizing k with
  | nil => simp [pws]
  | cons x r ih =>
    unfold pws at *
    rw [List.flatMap_cons]
    rcases k with _ | k
    · rw [List.getElem?_append_left (by rw [pw_len]; omega)]; simp
    · rw [List.getElem?_append_right (by rw [pw_len]; omega), pw_len, show (k + 1) * 8 + j - 8 = k * 8 + j by omega, ih]; simp
/-- A slice value that holds some of them, in a world. -/
def PwAt (w : World) (a : Option Addr) (l : List Pw) : Prop := ∀ (j : Nat) (v : Value), (pws l)[j]? = some v → ∃ g off, a = some ⟨g, off, none⟩ ∧ g < w.heap.size ∧ w.cell? ⟨g, off + j, none⟩ = some v
theorem PwAt.keep {w w' : World} {a : Option Addr} {l : List Pw} (h : PwAt w a l) (hb : Below w.heap.size w w') : PwAt w' a l := fun j v hv => by
  obtain ⟨g, off, h2, h3, h4⟩ := h j v hv
  exact ⟨g, off, h2, Nat.lt_of_lt_of_le h3 hb.size, (hb.cell (p := ⟨g, off + j, none⟩) h3).trans h4⟩
theorem PwAt.nil (w : World) (a : Option Addr) : PwAt w a [] := fun j v hv => by simp [pws] at hv
theorem infoPw : (Tryd.prog.info? 40).map (fun i => (i.zero, i.size, i.bytes)) = some (some (.agg #[.string ByteArray.empty, .int .i64 0, .int .i64 0, .int .u64 0, .float .f64 0, .bool false, .float .f64 0, .float .f64 0]), 8, 72) := by kernel_rfl
/-- .. that a call owns. -/
def OwnPw (w : World) (B : Nat) (A : Option Addr) (n cap : Nat) (l : List Pw) : Prop := w.ownsRow B 40 8 (.slice A n cap) n (pws l)
theorem pw_roslice {w : World} {B n : Nat} {v : Value} {xs : List Value} (h : w.ownsRow B 40 8 v n xs) : ∃ A cap, v = .slice A n cap ∧ n ≤ cap ∧ cap ≤ maxLen ∧ (A = none → cap = 0) := by
  rcases h.2 with ⟨e0, e1⟩ | ⟨g, cap', cur, e0, -, -, h1, h2, -⟩
  · exact ⟨none, 0, by rw [e0, e1], by omega, Nat.zero_le _, fun _ => rfl⟩
  · exact ⟨_, _, e0, h1, h2, fun h => by cases h⟩
theorem pw_robase {w : World} {B n cap : Nat} {A : Option Addr} {l : List Pw} (h : OwnPw w B A n cap l) : ∀ k, (Value.slice A n cap).ownBlock = some k → B ≤ k := by
  intro k hk
  rcases h.2 with ⟨e0, e1⟩ | ⟨g, cap', cur, e0, hb, -⟩
  · rw [e0] at hk; cases hk
  · rw [e0] at hk; cases hk; exact hb
theorem pw_roaddr {w : World} {B n cap : Nat} {A : Option Addr} {l : List Pw} (h : OwnPw w B A n cap l) : A = none ∨ ∃ g, A = some ⟨g, 0, none⟩ := by
  rcases h.2 with ⟨e0, e1⟩ | ⟨g, cap', cur, e0, -⟩
  · injection e0 with e0; exact .inl e0
  · injection e0 with e0; exact .inr ⟨g, e0⟩
theorem OwnPw.len {w : World} {B n cap : Nat} {A : Option Addr} {l : List Pw} (h : OwnPw w B A n cap l) : n = l.length := by have := h.1; rw [pws_length] at this; omega
theorem OwnPw.nil (w : World) (B : Nat) : OwnPw w B none 0 0 [] := World.ownsRow_nil _ _ _ 8
theorem OwnPw.lt {w : World} {B n cap : Nat} {A : Option Addr} {l : List Pw} (h : OwnPw w B A n cap l) (g off : Nat) (hA : A = some ⟨g, off, none⟩) : g < w.heap.size ∧ B ≤ g ∧ off = 0 := by
  subst hA
  rcases h.2 with ⟨e0, e1⟩ | ⟨g', cap', cur, e0, hb, hg, -⟩
  · cases e0
  · cases e0; exact ⟨(Array.getElem?_eq_some_iff.1 hg).1, hb, rfl⟩
/-- append, the source nil, empty or not. -/
theorem wpList_append_pw {w : World} {ops : Array Oper} {rest : List Oper} {o : Oper} {ac : Act} {Q : Exit → Act → World → Prop} (hgd : o.guard = none) (s x : Operand)
    (ho : o.op = .call { callee := .builtin .append, args := #[s, x], argTypes := #[44, 44] })
    (B : Nat) (A : Option Addr) (n cap : Nat) (l : List Pw) (hs : ac.eval s = .slice A n cap) (hown : OwnPw w B A n cap l) (a : Option Addr) (m c : Nat) (l2 : List Pw) (hx : ac.eval x = .slice a m c) (hm : m = l2.length) (h2 : PwAt w a l2) (hnil : a = none → c = 0)
    (N : Nat) (hN : N = n + m) (hbytes : n + m ≤ 1000) (hbase : B ≤ w.heap.size)
    (h : ∀ A' cap' w', OwnPw w' B A' N cap' (l ++ l2) → N ≤ cap' → cap' ≤ maxLen → (A' = none → cap' = 0) → Below B w w' → (w.grownBy w' (Value.slice A n cap).ownBlock ∨ w' = w) → (A' = A ∨ (∃ g, A' = some ⟨g, 0, none⟩ ∧ w.heap.size ≤ g)) → wpList Tryd.prog ops Q rest (ac.put o.dst (.slice A' N cap')) w') : wpList Tryd.prog ops Q (o :: rest) ac w := by
  subst hN
  obtain ⟨i0, hi, hz0, hz1, hz2⟩ := info_parts infoPw
  rcases a with _ | ad
  · obtain rfl := hnil rfl
    have hl2 : l2 = [] := by
      rcases l2 with _ | ⟨x, r⟩
      · rfl
      · obtain ⟨g, off, e, -⟩ := h2 0 (.string x.p.key) rfl; cases e
    subst hl2
    have h0 : m = 0 := hm
    subst h0
    obtain ⟨A1, c1, e1, e2, e3, e4⟩ := pw_roslice hown
    injection e1 with b1 b2 b3
    subst b1; subst b3
    refine wpList_append_own_none hgd s x 44 ho B 40 i0 8 Tryd.underlying44 hi (.slice A n cap) n (pws l) hs hown hx ?_
    exact h A cap w (by rw [List.append_nil]; exact hown) e2 e3 e4 (Below.refl _ _) (.inr rfl) (.inl rfl)
  · refine wpList_append_own_at w hgd s x 44 ho B 40 i0 _ 8 72 Tryd.underlying44 hi hz0 hz1 hz2 rfl (by decide) (.slice A n cap) n (pws l) hs hown ad m c (pws l2) hx (by rw [pws_length, hm]) (fun j u hu => by
      obtain ⟨g', off', e, -, hc⟩ := h2 j u hu
      injection e with e; subst e
      rw [Addr.add_lit]; exact hc) (pws_one l2) (by unfold maxLen; omega) (by omega) hbase ?_
    intro v' w2 hown2 hgr _ hloc
    have e : pws l ++ pws l2 = pws (l ++ l2) := by unfold pws; rw [List.flatMap_append]
    rw [e] at hown2
    obtain ⟨A1, c1, rfl, e2, e3, e4⟩ := pw_roslice hown2
    refine h A1 c1 w2 hown2 e2 e3 e4 ((Below.refl _ w).grown hgr hbase (pw_robase hown)) (.inl hgr) ?_
    have a1 := pw_roaddr hown2
    have a2 := pw_roaddr hown
    rcases a1 with rfl | ⟨g1, rfl⟩ <;> rcases a2 with rfl | ⟨g2, rfl⟩
    · exact .inl rfl
    · rcases hloc with hloc | hloc <;> cases hloc
    · rcases hloc with hloc | hloc
      · cases hloc
      · injection hloc with hloc
        exact .inr ⟨g1, rfl, Nat.le_of_eq (by simpa using hloc.symm)⟩
    · rcases hloc with hloc | hloc
      · injection hloc with hloc
        have : g1 = g2 := hloc
        rw [this]; exact .inl rfl
      · injection hloc with hloc
        exact .inr ⟨g1, rfl, Nat.le_of_eq (by simpa using hloc.symm)⟩
theorem pws_take (l : List Pw) (k j : Nat) (v : Value) (h : (pws (l.take k))[j]? = some v) : (pws l)[j]? = some v := by
  have e : pws l = pws (l.take k) ++ pws (l.drop k) := by unfold pws; rw [← List.flatMap_append, List.take_append_drop]
  rw [e, List.getElem?_append_left (List.getElem?_eq_some_iff.1 h).1, h]
theorem pws_drop (l : List Pw) (k : Nat) (hk : k ≤ l.length) (j : Nat) : (pws (l.drop k))[j]? = (pws l)[k * 8 + j]? := by
  have e : pws l = pws (l.take k) ++ pws (l.drop k) := by unfold pws; rw [← List.flatMap_append, List.take_append_drop]
  have hl : (pws (l.take k)).length = k * 8 := by rw [pws_length, List.length_take, Nat.min_eq_left hk]
  rw [e, List.getElem?_append_right (by omega), hl, Nat.add_sub_cancel_left]
theorem OwnPw.at' {w : World} {B n cap : Nat} {A : Option Addr} {l : List Pw} (h : OwnPw w B A n cap l) : PwAt w A l := fun j v hv => by
  have hjl := (List.getElem?_eq_some_iff.1 hv).1
  rcases h.2 with ⟨e0, e1⟩ | ⟨g, cap', cur, e0, hb, hg, hn, hm, hs, ht⟩
  · have := h.1; rw [e1, Nat.zero_mul] at this; omega
  · injection e0 with a1 a2 a3
    subst a1
    refine ⟨g, 0, rfl, (Array.getElem?_eq_some_iff.1 hg).1, ?_⟩
    rw [cell_of_row _ _ _ _ _ _ hg, Nat.zero_add, ← Array.getElem?_toList]
    have := h.1
    rw [← ht, List.getElem?_take] at hv
    rw [if_pos (by omega)] at hv
    exact hv
theorem pwr {w : World} {A : Option Addr} {l : List Pw} (h : PwAt w A l) (i : Nat) (x : Pw) (hx : l[i]? = some x) : ∃ g off, A = some ⟨g, off, none⟩ ∧ g < w.heap.size ∧ w.rangeAt g (off + i * 8) x.cells := by
  have h0 : (pws l)[i * 8 + 0]? = x.cells[0]? := by rw [pws_get l i 0 (by decide), hx]; rfl
  obtain ⟨g, off, e, hg, -⟩ := h (i * 8 + 0) (.string x.p.key) (by rw [h0]; rfl)
  refine ⟨g, off, e, hg, fun j v hv => ?_⟩
  have hj : j < 8 := (List.getElem?_eq_some_iff.1 hv).1
  have h1 : (pws l)[i * 8 + j]? = some v := by rw [pws_get l i j hj, hx]; exact hv
  obtain ⟨g', off', e', -, hc⟩ := h _ _ h1
  rw [e] at e'; injection e' with e'; injection e' with b1 b2; subst b1; subst b2
  rw [Nat.add_assoc]; exact hc
theorem pwkeep {w w' : World} {g o : Nat} {x : Pw} (h : w.rangeAt g o x.cells) (hg : g < w.heap.size) (hb : Below w.heap.size w w') : w'.rangeAt g o x.cells := fun j v hv => (hb.cell (p := ⟨g, o + j, none⟩) hg).trans (h j v hv)
theorem OwnPw.less {w : World} {B B' n cap : Nat} {A : Option Addr} {l : List Pw} (h : OwnPw w B A n cap l) (hB : B' ≤ B) : OwnPw w B' A n cap l := by
  refine ⟨h.1, ?_⟩
  rcases h.2 with h1 | ⟨g, cap', cur, h1, hb, h2⟩
  · exact .inl h1
  · exact .inr ⟨g, cap', cur, h1, Nat.le_trans hB hb, h2⟩
theorem OwnPw.below {w w' : World} {B B' n cap : Nat} {A : Option Addr} {l : List Pw} (h : OwnPw w B A n cap l) (hb : Below B' w w') (hA : ∀ g off, A = some ⟨g, off, none⟩ → g < B') : OwnPw w' B A n cap l := by
  refine ⟨h.1, ?_⟩
  rcases h.2 with h1 | ⟨g, cap', cur, h1, hb1, h2, h3⟩
  · exact .inl h1
  · injection h1 with a1 a2 a3
    subst a1; subst a3
    exact .inr ⟨g, cap, cur, rfl, hb1, (hb.block g (hA g 0 rfl)).trans h2, h3⟩
theorem OwnPw.same {w w' : World} {B n cap : Nat} {A : Option Addr} {l : List Pw} (h : OwnPw w B A n cap l) (hA : ∀ g off, A = some ⟨g, off, none⟩ → w'.heap[g]? = w.heap[g]?) : OwnPw w' B A n cap l := by
  refine ⟨h.1, ?_⟩
  rcases h.2 with h1 | ⟨g, cap', cur, h1, hb1, h2, h3⟩
  · exact .inl h1
  · injection h1 with a1 a2 a3
    subst a1; subst a3
    exact .inr ⟨g, cap, cur, rfl, hb1, (hA g 0 rfl).trans h2, h3⟩
theorem pwAt_new (w : World) (l : List Pw) (cs : Array Value) (hcs : cs.toList = pws l) (t : TypeId) : PwAt (w.alloc (.cells cs t)) (some ⟨w.heap.size, 0, none⟩) l := fun j v hv => by
  refine ⟨w.heap.size, 0, rfl, by simp, ?_⟩
  rw [Nat.zero_add, cell_of_row _ _ _ _ _ _ (heap_new w _), ← Array.getElem?_toList, hcs]; exact hv
theorem pwcut_from (a : Option Addr) (len cap k : Nat) (hk : k ≤ len) (hc : len ≤ cap) (hnil : a = none → cap = 0) :
    ∃ A C, (∀ w, (Instr.slice 44 (.slice a len cap) (some (.int .i64 (k : Int))) none none).run Tryd.prog w = .ok (.slice A (len - k) C) w) ∧ (A = none → C = 0) ∧ len - k ≤ C ∧ ∀ w l, len = l.length → PwAt w a l → PwAt w A (l.drop k) := by
  refine ⟨if cap = k then a else a.map (·.add (k * 8)), cap - k, fun w => ?_, fun h => ?_, by omega, fun w l hl h j x hx => ?_⟩
  · rw [run_slice_l w 44 a len cap Tryd.underlying44 .i64 (k : Int) (by omega) (by omega)]
    rw [show (Go.sizeOf (Tryd.prog.elem 44)).run Tryd.prog w = .ok 8 w from by kernel_rfl]
    simp [Result.andThen, sliced]
  · split at h
    · omega
    · rcases a with _ | a
      · have := hnil rfl; omega
      · cases h
  · have hkl : k < l.length := by
      have := (List.getElem?_eq_some_iff.1 hx).1
      rw [pws_length, List.length_drop] at this; omega
    rw [pws_drop l k (by omega)] at hx
    obtain ⟨g, off, rfl, hg, hcell⟩ := h _ _ hx
    rw [if_neg (by omega)]
    exact ⟨g, off + k * 8, by simp [Addr.add_lit], hg, by rw [Nat.add_assoc]; exact hcell⟩
theorem pwcut_to (a : Option Addr) (len cap k : Nat) (hk : k ≤ len) (hc : len ≤ cap) (hnil : a = none → cap = 0) :
    ∃ A, (∀ w, (Instr.slice 44 (.slice a len cap) none (some (.int .i64 (k : Int))) none).run Tryd.prog w = .ok (.slice A k cap) w) ∧ (A = none → cap = 0) ∧ ∀ w l, len = l.length → PwAt w a l → PwAt w A (l.take k) := by
  refine ⟨if cap = 0 then a else a.map (·.add 0), fun w => ?_, fun h => ?_, fun w l hl h j x hx => ?_⟩
  · rw [run_slice_h w 44 a len cap Tryd.underlying44 .i64 (k : Int) (by omega) (by omega)]
    rw [show (Go.sizeOf (Tryd.prog.elem 44)).run Tryd.prog w = .ok 8 w from by kernel_rfl]
    simp [Result.andThen, sliced]
  · split at h
    · omega
    · rcases a with _ | a
      · have := hnil rfl; omega
      · cases h
  · obtain ⟨g, off, rfl, hg, hcell⟩ := h _ _ (pws_take l k j x hx)
    exact ⟨g, off, by simp [Addr.add_lit], hg, hcell⟩
end Go.Proofs.YtbimfopbilcdgaaDoor
