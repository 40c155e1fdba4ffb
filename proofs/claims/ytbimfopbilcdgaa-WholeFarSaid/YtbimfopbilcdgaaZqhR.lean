/-
  Layer whole: the document's groups (a key, a window, a slice of values in a block of its own) as rows; append.
-/
import Derived.Test.YtbimfopbilcdgaaZqgR
import Derived.Test.YtbimfopbilcdgaaZyQ
import Derived.Test.YtbimfopbilcdgaaOfR
import Derived.Laws.AppendOwnNone
import Derived.Laws.OwnMore
import Derived.Maps.AppendAt
set_option linter.unusedSimpArgs false
set_option linter.unusedVariables false
set_option maxRecDepth 8000
namespace Go.Proofs.Ytbimfopbilcdgaa
open Go.RowKit Go.Sort Sm

/-- A group of the document's, its values beside. -/
structure Gd where
  p : ZP
  A : Option Addr
  n : Nat
  c : Nat
  vs : List Nat
instance : Inhabited Gd := ⟨⟨⟨ByteArray.empty, 0, 0⟩, none, 0, 0, []⟩⟩

def Gd.cells (x : Gd) : List Value := [.string x.p.key, .int .i64 x.p.s, .int .i64 x.p.e, .slice x.A x.n x.c]
theorem gd_len (x : Gd) : x.cells.length = 4 := rfl
theorem gd_one (x : Gd) : ∀ v ∈ x.cells, v.oneCell' = true := fun v hv => by
  simp only [Gd.cells, List.mem_cons, List.not_mem_nil, or_false] at hv
  rcases hv with rfl | rfl | rfl | rfl <;> rfl
def gds (l : List Gd) : List Value := l.flatMap Gd.cells
theorem gds_length (l : List Gd) : (gds l).length = l.length * 4 := by
  induction l with
  | nil => rfl
  | cons x r ih => unfold gds at *; rw [List.flatMap_cons, List.length_append, ih, gd_len, List.length_cons]; omega
theorem gds_one (l : List Gd) : ∀ v ∈ gds l, v.oneCell' = true := fun v hv => by
  obtain ⟨x, -, hx⟩ := List.mem_flatMap.1 hv
  exact gd_one x v hx
theorem gds_get (l : List Gd) (k j : Nat) (hj : j < 4) : (gds l)[k * 4 + j]? = (l[k]?).bind fun x => x.cells[j]? := by
  induction l generalizing k with
  | nil => simp [gds]
  | cons x r ih =>
    unfold gds at *
    rw [List.flatMap_cons]
    rcases k with _ | k
    · rw [List.getElem?_append_left (by rw [gd_len]; omega)]; simp
    · rw [List.getElem?_append_right (by rw [gd_len]; omega), gd_len, show (k + 1) * 4 + j - 4 = k * 4 + j by omega, ih]; simp
/-- A slice value that holds some of them, in a world. -/
def GdAt (w : World) (a : Option Addr) (l : List Gd) : Prop := ∀ (j : Nat) (v : Value), (gds l)[j]? = some v → ∃ g off, a = some ⟨g, off, none⟩ ∧ g < w.heap.size ∧ w.cell? ⟨g, off + j, none⟩ = some v
theorem GdAt.keep {w w' : World} {a : Option Addr} {l : List Gd} (h : GdAt w a l) (hb : Below w.heap.size w w') : GdAt w' a l := fun j v hv => by
  obtain ⟨g, off, h2, h3, h4⟩ := h j v hv
  exact ⟨g, off, h2, Nat.lt_of_lt_of_le h3 hb.size, (hb.cell (p := ⟨g, off + j, none⟩) h3).trans h4⟩
theorem GdAt.nil (w : World) (a : Option Addr) : GdAt w a [] := fun j v hv => by simp [gds] at hv
theorem infoGd : (Try.prog.info? 134).map (fun i => (i.zero, i.size, i.bytes)) = some (some (.agg #[.string ByteArray.empty, .int .i64 0, .int .i64 0, .slice none 0 0]), 4, 56) := by kernel_rfl
/-- .. that a call owns. -/
def OwnGd (w : World) (B : Nat) (A : Option Addr) (n cap : Nat) (l : List Gd) : Prop := w.ownsRow B 134 4 (.slice A n cap) n (gds l)
theorem gd_roslice {w : World} {B n : Nat} {v : Value} {xs : List Value} (h : w.ownsRow B 134 4 v n xs) : ∃ A cap, v = .slice A n cap ∧ n ≤ cap ∧ cap ≤ maxLen ∧ (A = none → cap = 0) := by
  rcases h.2 with ⟨e0, e1⟩ | ⟨g, cap', cur, e0, -, -, h1, h2, -⟩
  · exact ⟨none, 0, by rw [e0, e1], by omega, Nat.zero_le _, fun _ => rfl⟩
  · exact ⟨_, _, e0, h1, h2, fun h => by cases h⟩
theorem gd_robase {w : World} {B n cap : Nat} {A : Option Addr} {l : List Gd} (h : OwnGd w B A n cap l) : ∀ k, (Value.slice A n cap).ownBlock = some k → B ≤ k := by
  intro k hk
  rcases h.2 with ⟨e0, e1⟩ | ⟨g, cap', cur, e0, hb, -⟩
  · rw [e0] at hk; cases hk
  · rw [e0] at hk; cases hk; exact hb
theorem gd_roaddr {w : World} {B n cap : Nat} {A : Option Addr} {l : List Gd} (h : OwnGd w B A n cap l) : A = none ∨ ∃ g, A = some ⟨g, 0, none⟩ := by
  rcases h.2 with ⟨e0, e1⟩ | ⟨g, cap', cur, e0, -⟩
  · injection e0 with e0; exact .inl e0
  · injection e0 with e0; exact .inr ⟨g, e0⟩
theorem OwnGd.len {w : World} {B n cap : Nat} {A : Option Addr} {l : List Gd} (h : OwnGd w B A n cap l) : n = l.length := by have := h.1; rw [gds_length] at this; omega
theorem OwnGd.nil (w : World) (B : Nat) : OwnGd w B none 0 0 [] := World.ownsRow_nil _ _ _ 4
theorem OwnGd.lt {w : World} {B n cap : Nat} {A : Option Addr} {l : List Gd} (h : OwnGd w B A n cap l) (g off : Nat) (hA : A = some ⟨g, off, none⟩) : g < w.heap.size ∧ B ≤ g ∧ off = 0 := by
  subst hA
  rcases h.2 with ⟨e0, e1⟩ | ⟨g', cap', cur, e0, hb, hg, -⟩
  · cases e0
  · cases e0; exact ⟨(Array.getElem?_eq_some_iff.1 hg).1, hb, rfl⟩
/-- append, the source nil, empty or not. -/
theorem wpList_append_gd {w : World} {ops : Array Oper} {rest : List Oper} {o : Oper} {ac : Act} {Q : Exit → Act → World → Prop} (hgd : o.guard = none) (s x : Operand)
    (ho : o.op = .call { callee := .builtin .append, args := #[s, x], argTypes := #[130, 130] })
    (B : Nat) (A : Option Addr) (n cap : Nat) (l : List Gd) (hs : ac.eval s = .slice A n cap) (hown : OwnGd w B A n cap l) (a : Option Addr) (m c : Nat) (l2 : List Gd) (hx : ac.eval x = .slice a m c) (hm : m = l2.length) (h2 : GdAt w a l2) (hnil : a = none → c = 0)
    (N : Nat) (hN : N = n + m) (hbytes : n + m ≤ 1000) (hbase : B ≤ w.heap.size)
    (h : ∀ A' cap' w', OwnGd w' B A' N cap' (l ++ l2) → N ≤ cap' → cap' ≤ maxLen → (A' = none → cap' = 0) → Below B w w' → (w.grownBy w' (Value.slice A n cap).ownBlock ∨ w' = w) → (A' = A ∨ (∃ g, A' = some ⟨g, 0, none⟩ ∧ w.heap.size ≤ g)) → wpList Try.prog ops Q rest (ac.put o.dst (.slice A' N cap')) w') : wpList Try.prog ops Q (o :: rest) ac w := by
  subst hN
  obtain ⟨i0, hi, hz0, hz1, hz2⟩ := info_parts infoGd
  rcases a with _ | ad
  · obtain rfl := hnil rfl
    have hl2 : l2 = [] := by
      rcases l2 with _ | ⟨x, r⟩
      · rfl
      · obtain ⟨g, off, e, -⟩ := h2 0 (.string x.p.key) rfl; cases e
    subst hl2
    have h0 : m = 0 := hm
    subst h0
    obtain ⟨A1, c1, e1, e2, e3, e4⟩ := gd_roslice hown
    injection e1 with b1 b2 b3
    subst b1; subst b3
    refine wpList_append_own_none hgd s x 130 ho B 134 i0 4 Try.underlying130 hi (.slice A n cap) n (gds l) hs hown hx ?_
    exact h A cap w (by rw [List.append_nil]; exact hown) e2 e3 e4 (Below.refl _ _) (.inr rfl) (.inl rfl)
  · refine wpList_append_own_at w hgd s x 130 ho B 134 i0 _ 4 56 Try.underlying130 hi hz0 hz1 hz2 rfl (by decide) (.slice A n cap) n (gds l) hs hown ad m c (gds l2) hx (by rw [gds_length, hm]) (fun j u hu => by
      obtain ⟨g', off', e, -, hc⟩ := h2 j u hu
      injection e with e; subst e
      rw [Addr.add_lit]; exact hc) (gds_one l2) (by unfold maxLen; omega) (by omega) hbase ?_
    intro v' w2 hown2 hgr _ hloc
    have e : gds l ++ gds l2 = gds (l ++ l2) := by unfold gds; rw [List.flatMap_append]
    rw [e] at hown2
    obtain ⟨A1, c1, rfl, e2, e3, e4⟩ := gd_roslice hown2
    refine h A1 c1 w2 hown2 e2 e3 e4 ((Below.refl _ w).grown hgr hbase (gd_robase hown)) (.inl hgr) ?_
    have a1 := gd_roaddr hown2
    have a2 := gd_roaddr hown
    rcases a1 with rfl | ⟨g1, rfl⟩ <;> rcases a2 with rfl | ⟨g2, rfl⟩
    · exact .inl rfl
    · rcases hloc with hloc | hloc <;> cases hloc
    · rcases hloc with hloc | hloc
      · cases hloc
      · injection hloc with hloc
        exact .inr ⟨g1, rfl, Nat.le_of_eq (by simpa using hloc.symm)⟩
    · rcases hloc with hloc | hloc
      · injection hloc with hloc
        have : g1 = g2 := hloc
        rw [this]; exact .inl rfl
      · injection hloc with hloc
        exact .inr ⟨g1, rfl, Nat.le_of_eq (by simpa using hloc.symm)⟩
theorem gds_take (l : List Gd) (k j : Nat) (v : Value) (h : (gds (l.take k))[j]? = some v) : (gds l)[j]? = some v := by
  have e : gds l = gds (l.take k) ++ gds (l.drop k) := by unfold gds; rw [← List.flatMap_append, List.take_append_drop]
  rw [e, List.getElem?_append_left (List.getElem?_eq_some_iff.1 h).1, h]
theorem gds_drop (l : List Gd) (k : Nat) (hk : k ≤ l.length) (j : Nat) : (gds (l.drop k))[j]? = (gds l)[k * 4 + j]? := by
  have e : gds l = gds (l.take k) ++ gds (l.drop k) := by unfold gds; rw [← List.flatMap_append, List.take_append_drop]
  have hl : (gds (l.take k)).length = k * 4 := by rw [gds_length, List.length_take, Nat.min_eq_left hk]
  rw [e, List.getElem?_append_right (by omega), hl, Nat.add_sub_cancel_left]
theorem OwnGd.at' {w : World} {B n cap : Nat} {A : Option Addr} {l : List Gd} (h : OwnGd w B A n cap l) : GdAt w A l := fun j v hv => by
  have hjl := (List.getElem?_eq_some_iff.1 hv).1
  rcases h.2 with ⟨e0, e1⟩ | ⟨g, cap', cur, e0, hb, hg, hn, hm, hs, ht⟩
  · have := h.1; rw [e1, Nat.zero_mul] at this; omega
  · injection e0 with a1 a2 a3
    subst a1
    refine ⟨g, 0, rfl, (Array.getElem?_eq_some_iff.1 hg).1, ?_⟩
    rw [cell_of_row _ _ _ _ _ _ hg, Nat.zero_add, ← Array.getElem?_toList]
    have := h.1
    rw [← ht, List.getElem?_take] at hv
    rw [if_pos (by omega)] at hv
    exact hv
theorem gdr {w : World} {A : Option Addr} {l : List Gd} (h : GdAt w A l) (i : Nat) (x : Gd) (hx : l[i]? = some x) : ∃ g off, A = some ⟨g, off, none⟩ ∧ g < w.heap.size ∧ w.rangeAt g (off + i * 4) x.cells := by
  have h0 : (gds l)[i * 4 + 0]? = x.cells[0]? := by rw [gds_get l i 0 (by decide), hx]; rfl
  obtain ⟨g, off, e, hg, -⟩ := h (i * 4 + 0) (.string x.p.key) (by rw [h0]; rfl)
  refine ⟨g, off, e, hg, fun j v hv => ?_⟩
  have hj : j < 4 := (List.getElem?_eq_some_iff.1 hv).1
  have h1 : (gds l)[i * 4 + j]? = some v := by rw [gds_get l i j hj, hx]; exact hv
  obtain ⟨g', off', e', -, hc⟩ := h _ _ h1
  rw [e] at e'; injection e' with e'; injection e' with b1 b2; subst b1; subst b2
  rw [Nat.add_assoc]; exact hc
theorem gdkeep {w w' : World} {g o : Nat} {x : Gd} (h : w.rangeAt g o x.cells) (hg : g < w.heap.size) (hb : Below w.heap.size w w') : w'.rangeAt g o x.cells := fun j v hv => (hb.cell (p := ⟨g, o + j, none⟩) hg).trans (h j v hv)
theorem OwnGd.less {w : World} {B B' n cap : Nat} {A : Option Addr} {l : List Gd} (h : OwnGd w B A n cap l) (hB : B' ≤ B) : OwnGd w B' A n cap l := by
  refine ⟨h.1, ?_⟩
  rcases h.2 with h1 | ⟨g, cap', cur, h1, hb, h2⟩
  · exact .inl h1
  · exact .inr ⟨g, cap', cur, h1, Nat.le_trans hB hb, h2⟩
theorem OwnGd.below {w w' : World} {B B' n cap : Nat} {A : Option Addr} {l : List Gd} (h : OwnGd w B A n cap l) (hb : Below B' w w') (hA : ∀ g off, A = some ⟨g, off, none⟩ → g < B') : OwnGd w' B A n cap l := by
  refine ⟨h.1, ?_⟩
  rcases h.2 with h1 | ⟨g, cap', cur, h1, hb1, h2, h3⟩
  · exact .inl h1
  · injection h1 with a1 a2 a3
    subst a1; subst a3
    exact .inr ⟨g, cap, cur, rfl, hb1, (hb.block g (hA g 0 rfl)).trans h2, h3⟩
theorem OwnGd.same {w w' : World} {B n cap : Nat} {A : Option Addr} {l : List Gd} (h : OwnGd w B A n cap l) (hA : ∀ g off, A = some ⟨g, off, none⟩ → w'.heap[g]? = w.heap[g]?) : OwnGd w' B A n cap l := by
  refine ⟨h.1, ?_⟩
  rcases h.2 with h1 | ⟨g, cap', cur, h1, hb1, h2, h3⟩
  · exact .inl h1
  · injection h1 with a1 a2 a3
    subst a1; subst a3
    exact .inr ⟨g, cap, cur, rfl, hb1, (hA g 0 rfl).trans h2, h3⟩
theorem gdAt_new (w : World) (l : List Gd) (cs : Array Value) (hcs : cs.toList = gds l) (t : TypeId) : GdAt (w.alloc (.cells cs t)) (some ⟨w.heap.size, 0, none⟩) l := fun j v hv => by
  refine ⟨w.heap.size, 0, rfl, by simp, ?_⟩
  rw [Nat.zero_add, cell_of_row _ _ _ _ _ _ (heap_new w _), ← Array.getElem?_toList, hcs]; exact hv
theorem gdcut_from (a : Option Addr) (len cap k : Nat) (hk : k ≤ len) (hc : len ≤ cap) (hnil : a = none → cap = 0) :
    ∃ A C, (∀ w, (Instr.slice 130 (.slice a len cap) (some (.int .i64 (k : Int))) none none).run Try.prog w = .ok (.slice A (len - k) C) w) ∧ (A = none → C = 0) ∧ len - k ≤ C ∧ ∀ w l, len = l.length → GdAt w a l → GdAt w A (l.drop k) := by
  refine ⟨if cap = k then a else a.map (·.add (k * 4)), cap - k, fun w => ?_, fun h => ?_, by omega, fun w l hl h j x hx => ?_⟩
  · rw [run_slice_l w 130 a len cap Try.underlying130 .i64 (k : Int) (by omega) (by omega)]
    rw [show (Go.sizeOf (Try.prog.elem 130)).run Try.prog w = .ok 4 w from by kernel_rfl]
    simp [Result.andThen, sliced]
  · split at h
    · omega
    · rcases a with _ | a
      · have := hnil rfl; omega
      · cases h
  · have hkl : k < l.length := by
      have := (List.getElem?_eq_some_iff.1 hx).1
      rw [gds_length, List.length_drop] at this; omega
    rw [gds_drop l k (by omega)] at hx
    obtain ⟨g, off, rfl, hg, hcell⟩ := h _ _ hx
    rw [if_neg (by omega)]
    exact ⟨g, off + k * 4, by simp [Addr.add_lit], hg, by rw [Nat.add_assoc]; exact hcell⟩
theorem gdcut_to (a : Option Addr) (len cap k : Nat) (hk : k ≤ len) (hc : len ≤ cap) (hnil : a = none → cap = 0) :
    ∃ A, (∀ w, (Instr.slice 130 (.slice a len cap) none (some (.int .i64 (k : Int))) none).run Try.prog w = .ok (.slice A k cap) w) ∧ (A = none → cap = 0) ∧ ∀ w l, len = l.length → GdAt w a l → GdAt w A (l.take k) := by
  refine ⟨if cap = 0 then a else a.map (·.add 0), fun w => ?_, fun h => ?_, fun w l hl h j x hx => ?_⟩
  · rw [run_slice_h w 130 a len cap Try.underlying130 .i64 (k : Int) (by omega) (by omega)]
    rw [show (Go.sizeOf (Try.prog.elem 130)).run Try.prog w = .ok 4 w from by kernel_rfl]
    simp [Result.andThen, sliced]
  · split at h
    · omega
    · rcases a with _ | a
      · have := hnil rfl; omega
      · cases h
  · obtain ⟨g, off, rfl, hg, hcell⟩ := h _ _ (gds_take l k j x hx)
    exact ⟨g, off, by simp [Addr.add_lit], hg, hcell⟩

/-- Its values lie where it says. -/
def Gd.At (w : World) (x : Gd) : Prop := OwnF w 0 x.A x.n x.c x.vs ∧ 0 < x.n
def GdsOk (w : World) (l : List Gd) : Prop := ∀ x ∈ l, x.At w
def Gd.grp (x : Gd) : Grp := ⟨x.p, x.vs⟩
/-- All rows that are no groups' are kept. -/
def KeepGd (w w' : World) : Prop := ∀ (k : Nat) (cs : Array Value) (T : TypeId) (m : Nat × Nat), w.heap[k]? = some (Obj.cells cs T m) → T ≠ 134 → w'.heap[k]? = some (Obj.cells cs T m)
theorem keepGd_append {w w' : World} {B n cap : Nat} {A : Option Addr} {l : List Gd} (hown : OwnGd w B A n cap l) (h : w.grownBy w' (Value.slice A n cap).ownBlock ∨ w' = w) : KeepGd w w' := fun k cs T m hkk ht => by
  rcases h with hg | rfl
  · refine (hg.block k (Array.getElem?_eq_some_iff.1 hkk).1 (fun e => ?_)).trans hkk
    rcases hown.2 with ⟨e0, e1⟩ | ⟨g, cap', cur, e0, hb, hg', -⟩
    · rw [e0] at e; cases e
    · rw [e0] at e
      have e : k = g := by injection e
      subst e
      rw [hg'] at hkk
      injection hkk with hkk; injection hkk with _ hkk _
      exact ht hkk.symm
  · exact hkk
theorem OwnF.keepGd {w w' : World} {B n cap : Nat} {A : Option Addr} {l : List Nat} (h : OwnF w B A n cap l) (hn : 0 < n) (hk : KeepGd w w') : OwnF w' B A n cap l := by
  obtain ⟨g, cs, rfl, hr⟩ := h.row hn
  exact OwnF.of_row (hk _ _ _ _ hr.row (by decide)) hr.size hr.cap h.len hr.first hr.base hr.lt
theorem Gd.At.keepGd {w w' : World} {x : Gd} (h : x.At w) (hk : KeepGd w w') : x.At w' := ⟨h.1.keepGd h.2 hk, h.2⟩
theorem Gd.At.keep {w w' : World} {x : Gd} (h : x.At w) (hb : Below w.heap.size w w') : x.At w' := ⟨h.1.keep hb, h.2⟩
theorem GdsOk.keepGd {w w' : World} {l : List Gd} (h : GdsOk w l) (hk : KeepGd w w') : GdsOk w' l := fun x hx => (h x hx).keepGd hk
theorem GdsOk.keep {w w' : World} {l : List Gd} (h : GdsOk w l) (hb : Below w.heap.size w w') : GdsOk w' l := fun x hx => (h x hx).keep hb
theorem GdsOk.snoc {w : World} {l : List Gd} (h : GdsOk w l) {x : Gd} (hx : x.At w) : GdsOk w (l ++ [x]) := fun y hy => by
  rcases List.mem_append.1 hy with hy | hy
  · exact h y hy
  · simp at hy; subst hy; exact hx
end Go.Proofs.Ytbimfopbilcdgaa
