/-
  Layer ledger: acts in memory; the loop that makes changes; LedgerParted's walk.
-/
import Derived.Test.YtkhldnihboklaaaNs
set_option linter.unusedSimpArgs false
set_option linter.unusedVariables false
set_option maxRecDepth 8000
namespace Go.Proofs.Ytkhldnihboklaaa
open Go.RowKit Go.Sort

def Acx.cells (x : Acx) : List Value := [.bool x.put, .int .u8 (x.key : Int), .int .u8 (x.w : Int), .int .u8 (x.near : Int), .int .u64 (x.t.c : Int), .float .f64 x.t.s, .bool x.t.o, .float .f64 x.t.lo, .float .f64 x.t.hi]
theorem ac_len (x : Acx) : x.cells.length = 9 := rfl
theorem ac_one (x : Acx) : ∀ v ∈ x.cells, v.oneCell' = true := fun v hv => by
  simp only [Acx.cells, List.mem_cons, List.not_mem_nil, or_false] at hv
  rcases hv with rfl | rfl | rfl | rfl | rfl | rfl | rfl | rfl | rfl <;> rfl
def acs (l : List Acx) : List Value := l.flatMap Acx.cells
theorem acs_length (l : List Acx) : (acs l).length = l.length * 9 := by
  induction l with
  | nil => rfl
  | cons x r ih => unfold acs at *; rw [List.flatMap_cons, List.length_append, ih, ac_len, List.length_cons]; omega
theorem acs_one (l : List Acx) : ∀ v ∈ acs l, v.oneCell' = true := fun v hv => by
  obtain ⟨x, -, hx⟩ := List.mem_flatMap.1 hv
  exact ac_one x v hx
theorem acs_get (l : List Acx) (k j : Nat) (hj : j < 9) : (acs l)[k * 9 + j]? = (l[k]?).bind fun x => x.cells[j]? := by
  induction l generalizing k with
  | nil => simp [acs]
  | cons x r ih =>
    unfold acs at *
    rw [List.flatMap_cons]
    rcases k with _ | k
    · rw [List.getElem?_append_left (by rw [ac_len]; omega)]; simp
    · rw [List.getElem?_append_right (by rw [ac_len]; omega), ac_len, show (k + 1) * 9 + j - 9 = k * 9 + j by omega, ih]; simp
/-- A slice value that holds some of them, in a world. -/
def AcAt (w : World) (a : Option Addr) (l : List Acx) : Prop := ∀ (j : Nat) (v : Value), (acs l)[j]? = some v → ∃ g off, a = some ⟨g, off, none⟩ ∧ g < w.heap.size ∧ w.cell? ⟨g, off + j, none⟩ = some v
theorem AcAt.keep {w w' : World} {a : Option Addr} {l : List Acx} (h : AcAt w a l) (hb : Below w.heap.size w w') : AcAt w' a l := fun j v hv => by
  obtain ⟨g, off, h2, h3, h4⟩ := h j v hv
  exact ⟨g, off, h2, Nat.lt_of_lt_of_le h3 hb.size, (hb.cell (p := ⟨g, off + j, none⟩) h3).trans h4⟩
theorem AcAt.nil (w : World) (a : Option Addr) : AcAt w a [] := fun j v hv => by simp [acs] at hv
theorem infoAc : (Try.prog.info? 40).map (fun i => (i.zero, i.size, i.bytes)) = some (some (.agg #[.bool false, .int .u8 0, .int .u8 0, .int .u8 0, .int .u64 0, .float .f64 0, .bool false, .float .f64 0, .float .f64 0]), 9, 48) := by kernel_rfl
/-- .. that a call owns. -/
def OwnAc (w : World) (B : Nat) (A : Option Addr) (n cap : Nat) (l : List Acx) : Prop := w.ownsRow B 40 9 (.slice A n cap) n (acs l)
theorem ac_roslice {w : World} {B n : Nat} {v : Value} {xs : List Value} (h : w.ownsRow B 40 9 v n xs) : ∃ A cap, v = .slice A n cap ∧ n ≤ cap ∧ cap ≤ maxLen ∧ (A = none → cap = 0) := by
  rcases h.2 with ⟨e0, e1⟩ | ⟨g, cap', cur, e0, -, -, h1, h2, -⟩
  · exact ⟨none, 0, by rw [e0, e1], by omega, Nat.zero_le _, fun _ => rfl⟩
  · exact ⟨_, _, e0, h1, h2, fun h => by cases h⟩
theorem ac_robase {w : World} {B n cap : Nat} {A : Option Addr} {l : List Acx} (h : OwnAc w B A n cap l) : ∀ k, (Value.slice A n cap).ownBlock = some k → B ≤ k := by
  intro k hk
  rcases h.2 with ⟨e0, e1⟩ | ⟨g, cap', cur, e0, hb, -⟩
  · rw [e0] at hk; cases hk
  · rw [e0] at hk; cases hk; exact hb
theorem ac_roaddr {w : World} {B n cap : Nat} {A : Option Addr} {l : List Acx} (h : OwnAc w B A n cap l) : A = none ∨ ∃ g, A = some ⟨g, 0, none⟩ := by
  rcases h.2 with ⟨e0, e1⟩ | ⟨g, cap', cur, e0, -⟩
  · injection e0 with e0; exact .inl e0
  · injection e0 with e0; exact .inr ⟨g, e0⟩
theorem OwnAc.len {w : World} {B n cap : Nat} {A : Option Addr} {l : List Acx} (h : OwnAc w B A n cap l) : n = l.length := by have := h.1; rw [acs_length] at this; omega
theorem OwnAc.nil (w : World) (B : Nat) : OwnAc w B none 0 0 [] := World.ownsRow_nil _ _ _ 9
theorem OwnAc.lt {w : World} {B n cap : Nat} {A : Option Addr} {l : List Acx} (h : OwnAc w B A n cap l) (g off : Nat) (hA : A = some ⟨g, off, none⟩) : g < w.heap.size ∧ B ≤ g ∧ off = 0 := by
  subst hA
  rcases h.2 with ⟨e0, e1⟩ | ⟨g', cap', cur, e0, hb, hg, -⟩
  · cases e0
  · cases e0; exact ⟨(Array.getElem?_eq_some_iff.1 hg).1, hb, rfl⟩
/-- append, the source nil, empty or not. -/
theorem wpList_append_ac {w : World} {ops : Array Oper} {rest : List Oper} {o : Oper} {ac : Act} {Q : Exit → Act → World → Prop} (hgd : o.guard = none) (s x : Operand)
    (ho : o.op = .call { callee := .builtin .append, args := #[s, x], argTypes := #[28, 28] })
    (B : Nat) (A : Option Addr) (n cap : Nat) (l : List Acx) (hs : ac.eval s = .slice A n cap) (hown : OwnAc w B A n cap l) (a : Option Addr) (m c : Nat) (l2 : List Acx) (hx : ac.eval x = .slice a m c) (hm : m = l2.length) (h2 : AcAt w a l2) (hnil : a = none → c = 0)
    (N : Nat) (hN : N = n + m) (hbytes : n + m ≤ 1000) (hbase : B ≤ w.heap.size)
    (h : ∀ A' cap' w', OwnAc w' B A' N cap' (l ++ l2) → N ≤ cap' → cap' ≤ maxLen → (A' = none → cap' = 0) → Below B w w' → (w.grownBy w' (Value.slice A n cap).ownBlock ∨ w' = w) → (A' = A ∨ (∃ g, A' = some ⟨g, 0, none⟩ ∧ w.heap.size ≤ g)) → wpList Try.prog ops Q rest (ac.put o.dst (.slice A' N cap')) w') : wpList Try.prog ops Q (o :: rest) ac w := by
  subst hN
  obtain ⟨i0, hi, hz0, hz1, hz2⟩ := info_parts infoAc
  rcases a with _ | ad
  · obtain rfl := hnil rfl
    have hl2 : l2 = [] := by
      rcases l2 with _ | ⟨x, r⟩
      · rfl
      · obtain ⟨g, off, e, -⟩ := h2 0 (.bool x.put) rfl; cases e
    subst hl2
    have h0 : m = 0 := hm
    subst h0
    obtain ⟨A1, c1, e1, e2, e3, e4⟩ := ac_roslice hown
    injection e1 with b1 b2 b3
    subst b1; subst b3
    refine wpList_append_own_none hgd s x 28 ho B 40 i0 9 Try.underlying28 hi (.slice A n cap) n (acs l) hs hown hx ?_
    exact h A cap w (by rw [List.append_nil]; exact hown) e2 e3 e4 (Below.refl _ _) (.inr rfl) (.inl rfl)
  · refine wpList_append_own_at w hgd s x 28 ho B 40 i0 _ 9 48 Try.underlying28 hi hz0 hz1 hz2 rfl (by decide) (.slice A n cap) n (acs l) hs hown ad m c (acs l2) hx (by rw [acs_length, hm]) (fun j u hu => by
      obtain ⟨g', off', e, -, hc⟩ := h2 j u hu
      injection e with e; subst e
      rw [Addr.add_lit]; exact hc) (acs_one l2) (by unfold maxLen; omega) (by omega) hbase ?_
    intro v' w2 hown2 hgr _ hloc
    have e : acs l ++ acs l2 = acs (l ++ l2) := by unfold acs; rw [List.flatMap_append]
    rw [e] at hown2
    obtain ⟨A1, c1, rfl, e2, e3, e4⟩ := ac_roslice hown2
    refine h A1 c1 w2 hown2 e2 e3 e4 ((Below.refl _ w).grown hgr hbase (ac_robase hown)) (.inl hgr) ?_
    have a1 := ac_roaddr hown2
    have a2 := ac_roaddr hown
    rcases a1 with rfl | ⟨g1, rfl⟩ <;> rcases a2 with rfl | ⟨g2, rfl⟩
    · exact .inl rfl
    · rcases hloc with hloc | hloc <;> cases hloc
    · rcases hloc with hloc | hloc
      · cases hloc
      · injection hloc with hloc
        exact .inr ⟨g1, rfl, Nat.le_of_eq (by simpa using hloc.symm)⟩
    · rcases hloc with hloc | hloc
      · injection hloc with hloc
        have : g1 = g2 := hloc
        rw [this]; exact .inl rfl
      · injection hloc with hloc
        exact .inr ⟨g1, rfl, Nat.le_of_eq (by simpa using hloc.symm)⟩
theorem acs_take (l : List Acx) (k j : Nat) (v : Value) (h : (acs (l.take k))[j]? = some v) : (acs l)[j]? = some v := by
  have e : acs l = acs (l.take k) ++ acs (l.drop k) := by unfold acs; rw [← List.flatMap_append, List.take_append_drop]
  rw [e, List.getElem?_append_left (List.getElem?_eq_some_iff.1 h).1, h]
theorem acs_drop (l : List Acx) (k : Nat) (hk : k ≤ l.length) (j : Nat) : (acs (l.drop k))[j]? = (acs l)[k * 9 + j]? := by
  have e : acs l = acs (l.take k) ++ acs (l.drop k) := by unfold acs; rw [← List.flatMap_append, List.take_append_drop]
  have hl : (acs (l.take k)).length = k * 9 := by rw [acs_length, List.length_take, Nat.min_eq_left hk]
  rw [e, List.getElem?_append_right (by omega), hl, Nat.add_sub_cancel_left]
theorem OwnAc.at' {w : World} {B n cap : Nat} {A : Option Addr} {l : List Acx} (h : OwnAc w B A n cap l) : AcAt w A l := fun j v hv => by
  have hjl := (List.getElem?_eq_some_iff.1 hv).1
  rcases h.2 with ⟨e0, e1⟩ | ⟨g, cap', cur, e0, hb, hg, hn, hm, hs, ht⟩
  · have := h.1; rw [e1, Nat.zero_mul] at this; omega
  · injection e0 with a1 a2 a3
    subst a1
    refine ⟨g, 0, rfl, (Array.getElem?_eq_some_iff.1 hg).1, ?_⟩
    rw [cell_of_row _ _ _ _ _ _ hg, Nat.zero_add, ← Array.getElem?_toList]
    have := h.1
    rw [← ht, List.getElem?_take] at hv
    rw [if_pos (by omega)] at hv
    exact hv
theorem acr {w : World} {A : Option Addr} {l : List Acx} (h : AcAt w A l) (i : Nat) (x : Acx) (hx : l[i]? = some x) : ∃ g off, A = some ⟨g, off, none⟩ ∧ g < w.heap.size ∧ w.rangeAt g (off + i * 9) x.cells := by
  have h0 : (acs l)[i * 9 + 0]? = x.cells[0]? := by rw [acs_get l i 0 (by decide), hx]; rfl
  obtain ⟨g, off, e, hg, -⟩ := h (i * 9 + 0) (.bool x.put) (by rw [h0]; rfl)
  refine ⟨g, off, e, hg, fun j v hv => ?_⟩
  have hj : j < 9 := (List.getElem?_eq_some_iff.1 hv).1
  have h1 : (acs l)[i * 9 + j]? = some v := by rw [acs_get l i j hj, hx]; exact hv
  obtain ⟨g', off', e', -, hc⟩ := h _ _ h1
  rw [e] at e'; injection e' with e'; injection e' with b1 b2; subst b1; subst b2
  rw [Nat.add_assoc]; exact hc
theorem ackeep {w w' : World} {g o : Nat} {x : Acx} (h : w.rangeAt g o x.cells) (hg : g < w.heap.size) (hb : Below w.heap.size w w') : w'.rangeAt g o x.cells := fun j v hv => (hb.cell (p := ⟨g, o + j, none⟩) hg).trans (h j v hv)
theorem OwnAc.less {w : World} {B B' n cap : Nat} {A : Option Addr} {l : List Acx} (h : OwnAc w B A n cap l) (hB : B' ≤ B) : OwnAc w B' A n cap l := by
  refine ⟨h.1, ?_⟩
  rcases h.2 with h1 | ⟨g, cap', cur, h1, hb, h2⟩
  · exact .inl h1
  · exact .inr ⟨g, cap', cur, h1, Nat.le_trans hB hb, h2⟩
theorem OwnAc.below {w w' : World} {B B' n cap : Nat} {A : Option Addr} {l : List Acx} (h : OwnAc w B A n cap l) (hb : Below B' w w') (hA : ∀ g off, A = some ⟨g, off, none⟩ → g < B') : OwnAc w' B A n cap l := by
  refine ⟨h.1, ?_⟩
  rcases h.2 with h1 | ⟨g, cap', cur, h1, hb1, h2, h3⟩
  · exact .inl h1
  · injection h1 with a1 a2 a3
    subst a1; subst a3
    exact .inr ⟨g, cap, cur, rfl, hb1, (hb.block g (hA g 0 rfl)).trans h2, h3⟩
theorem OwnAc.same {w w' : World} {B n cap : Nat} {A : Option Addr} {l : List Acx} (h : OwnAc w B A n cap l) (hA : ∀ g off, A = some ⟨g, off, none⟩ → w'.heap[g]? = w.heap[g]?) : OwnAc w' B A n cap l := by
  refine ⟨h.1, ?_⟩
  rcases h.2 with h1 | ⟨g, cap', cur, h1, hb1, h2, h3⟩
  · exact .inl h1
  · injection h1 with a1 a2 a3
    subst a1; subst a3
    exact .inr ⟨g, cap, cur, rfl, hb1, (hA g 0 rfl).trans h2, h3⟩
theorem acAt_new (w : World) (l : List Acx) (cs : Array Value) (hcs : cs.toList = acs l) (t : TypeId) : AcAt (w.alloc (.cells cs t)) (some ⟨w.heap.size, 0, none⟩) l := fun j v hv => by
  refine ⟨w.heap.size, 0, rfl, by simp, ?_⟩
  rw [Nat.zero_add, cell_of_row _ _ _ _ _ _ (heap_new w _), ← Array.getElem?_toList, hcs]; exact hv
theorem accut_from (a : Option Addr) (len cap k : Nat) (hk : k ≤ len) (hc : len ≤ cap) (hnil : a = none → cap = 0) :
    ∃ A C, (∀ w, (Instr.slice 28 (.slice a len cap) (some (.int .i64 (k : Int))) none none).run Try.prog w = .ok (.slice A (len - k) C) w) ∧ (A = none → C = 0) ∧ len - k ≤ C ∧ ∀ w l, len = l.length → AcAt w a l → AcAt w A (l.drop k) := by
  refine ⟨if cap = k then a else a.map (·.add (k * 9)), cap - k, fun w => ?_, fun h => ?_, by omega, fun w l hl h j x hx => ?_⟩
  · rw [run_slice_l w 28 a len cap Try.underlying28 .i64 (k : Int) (by omega) (by omega)]
    rw [show (Go.sizeOf (Try.prog.elem 28)).run Try.prog w = .ok 9 w from by kernel_rfl]
    simp [Result.andThen, sliced]
  · split at h
    · omega
    · rcases a with _ | a
      · have := hnil rfl; omega
      · cases h
  · have hkl : k < l.length := by
      have := (List.getElem?_eq_some_iff.1 hx).1
      rw [acs_length, List.length_drop] at this; omega
    rw [acs_drop l k (by omega)] at hx
    obtain ⟨g, off, rfl, hg, hcell⟩ := h _ _ hx
    rw [if_neg (by omega)]
    exact ⟨g, off + k * 9, by simp [Addr.add_lit], hg, by rw [Nat.add_assoc]; exact hcell⟩
theorem accut_to (a : Option Addr) (len cap k : Nat) (hk : k ≤ len) (hc : len ≤ cap) (hnil : a = none → cap = 0) :
    ∃ A, (∀ w, (Instr.slice 28 (.slice a len cap) none (some (.int .i64 (k : Int))) none).run Try.prog w = .ok (.slice A k cap) w) ∧ (A = none → cap = 0) ∧ ∀ w l, len = l.length → AcAt w a l → AcAt w A (l.take k) := by
  refine ⟨if cap = 0 then a else a.map (·.add 0), fun w => ?_, fun h => ?_, fun w l hl h j x hx => ?_⟩
  · rw [run_slice_h w 28 a len cap Try.underlying28 .i64 (k : Int) (by omega) (by omega)]
    rw [show (Go.sizeOf (Try.prog.elem 28)).run Try.prog w = .ok 9 w from by kernel_rfl]
    simp [Result.andThen, sliced]
  · split at h
    · omega
    · rcases a with _ | a
      · have := hnil rfl; omega
      · cases h
  · obtain ⟨g, off, rfl, hg, hcell⟩ := h _ _ (acs_take l k j x hx)
    exact ⟨g, off, by simp [Addr.add_lit], hg, hcell⟩

theorem uAct : Try.prog.underlying 40 = some (.struct (Try.prog.fieldsOf 40)) := by kernel_rfl
theorem iAct : (Try.prog.info? 40).map (·.size) = some 9 := by kernel_rfl
theorem cutTo (a : Option Addr) (len cap k : Nat) (hs : SlC a len cap) (hk : k ≤ len) :
    ∃ A, (∀ w, (Instr.slice 24 (.slice a len cap) none (some (.int .i64 (k : Int))) none).run Try.prog w = .ok (.slice A k cap) w) ∧ SlC A k cap ∧ ∀ w l, len = l.length → ChAt w a l → ChAt w A (l.take k) := by
  have hc := hs.len; have hm := hs.cap
  refine ⟨if cap = 0 then a else a.map (·.add 0), fun w => ?_, ⟨fun h => ?_, by omega, fun x hx => ?_, hm⟩, fun w l hl h j x hx => ?_⟩
  · rw [run_slice_h w 24 a len cap Try.underlying24 .i64 (k : Int) (by omega) (by omega)]
    rw [show (Go.sizeOf (Try.prog.elem 24)).run Try.prog w = .ok 10 w from by kernel_rfl]
    simp [Result.andThen, sliced]
  · split at h
    · omega
    · rcases a with _ | a
      · have := hs.nil rfl; omega
      · cases h
  · split at hx
    · exact hs.ad x hx
    · rcases a with _ | a
      · cases hx
      · obtain ⟨g, off, rfl⟩ := hs.ad a rfl
        injection hx with hx
        exact ⟨g, off, by rw [← hx]; simp [Addr.add_lit]⟩
  · obtain ⟨g, off, rfl, hg, hcell⟩ := h _ _ (chs_take l k j x hx)
    exact ⟨g, off, by simp [Addr.add_lit], hg, hcell⟩
theorem cutFrom (a : Option Addr) (len cap k : Nat) (hs : SlC a len cap) (hk : k ≤ len) :
    ∃ A C, (∀ w, (Instr.slice 24 (.slice a len cap) (some (.int .i64 (k : Int))) none none).run Try.prog w = .ok (.slice A (len - k) C) w) ∧ SlC A (len - k) C ∧ ∀ w l, len = l.length → ChAt w a l → ChAt w A (l.drop k) := by
  have hc := hs.len; have hm := hs.cap
  refine ⟨if cap = k then a else a.map (·.add (k * 10)), cap - k, fun w => ?_, ⟨fun h => ?_, by omega, fun x hx => ?_, by omega⟩, fun w l hl h j x hx => ?_⟩
  · rw [run_slice_l w 24 a len cap Try.underlying24 .i64 (k : Int) (by omega) (by omega)]
    rw [show (Go.sizeOf (Try.prog.elem 24)).run Try.prog w = .ok 10 w from by kernel_rfl]
    simp [Result.andThen, sliced]
  · split at h
    · omega
    · rcases a with _ | a
      · have := hs.nil rfl; omega
      · cases h
  · split at hx
    · exact hs.ad x hx
    · rcases a with _ | a
      · cases hx
      · obtain ⟨g, off, rfl⟩ := hs.ad a rfl
        injection hx with hx
        exact ⟨g, off + k * 10, by rw [← hx]; simp [Addr.add_lit]⟩
  · have hkl : k < l.length := by
      have := (List.getElem?_eq_some_iff.1 hx).1
      rw [chs_length, List.length_drop] at this; omega
    rw [chs_drop l k (by omega)] at hx
    obtain ⟨g, off, rfl, hg, hcell⟩ := h _ _ hx
    rw [if_neg (by omega)]
    exact ⟨g, off + k * 10, by simp [Addr.add_lit], hg, by rw [Nat.add_assoc]; exact hcell⟩
theorem rvL_ok (l : List Chg) (hv : Val l) (hl : l.length ≤ 100000) (hok : ∀ c ∈ l, c.Ok) : ∀ y ∈ rvL l, y.Ok := fun y hy => by
  obtain ⟨x, hx, -, ht⟩ := (rvL_mem l y).1 hy
  obtain ⟨c, hc, e⟩ := last_place l y.p x hx
  have h := last_ok l hv hl hok y.p
  rw [hx] at h
  exact ⟨e ▸ (hok c hc).p, ht ▸ h.t⟩
theorem Sx.or {S : Nat → Prop} {W w' : World} {k : Nat} (h : Sx S W w' k) : S k ∨ (W.heap.size ≤ k ∧ k < w'.heap.size) := h
theorem sx_apart1 {wg w5 : World} {k q : Nat} (hz : wg.heap.size = q + 2) (hk : Sx (fun k => k = q) wg w5 k) : ¬ (k = q + 1) := by
  rcases hk.or with h | ⟨h1, h2⟩
  · have h : k = q := h
    omega
  · omega
theorem sx_apart2 {wg w5 w6 : World} {k q : Nat} (hz : wg.heap.size = q + 2) (hk : Sx (fun k => k = q) wg w5 k) (hlt : k < w5.heap.size) : ¬ Sx (fun k => k = q + 1) w5 w6 k := by
  intro h9
  rcases h9.or with h | ⟨h1, h2⟩
  · have h : k = q + 1 := h
    exact sx_apart1 hz hk h
  · omega
/-- Changes made of acts so far. -/
structure Made (W : World) (A : Option Addr) (n cap : Nat) (l : List Chg) (wr : World) : Prop where
  own : OwnCh wr W.heap.size A n cap l
  val : Val l
  ok : ∀ c ∈ l, c.Ok
  six : InSix l
  b : Below W.heap.size W wr
def RPA (W : World) (u v : Value) (wr : World) : Prop := ∃ (i : Nat) (A : Option Addr) (n cap : Nat) (l : List Chg), v = .int .i64 i ∧ n ≤ i ∧ i ≤ 60 ∧ u = .slice A n cap ∧ Made W A n cap l wr
set_option maxHeartbeats 8000000 in
theorem parted_any (aA : Option Addr) (N cA : Nat) (acts : List Acx) (cut : Nat) (hN : N = acts.length) (hcut : cut < 256) (hao : ∀ a ∈ acts, a.Ok) (W0 : World) (HA0 : Hid (AcAt W0 aA acts)) :
    Calls Try.prog 5 #[.slice aA N cA, .int .u8 (cut : Int)] W0 fun e w' => e = .returned (.bool true) ∧ Below W0.heap.size W0 w' := by
  have HNA := Lib.hid hN; have HAO := Lib.hid hao
  have HAW := Lib.hid (lawake_any W0)
  clear hN hao
  go_enter Try.func5, Try.ntmps5
  go_upto_region 4 with (go_at_call 7; refine HAW.out.mono ?_; rintro e W ⟨rfl, hbW⟩; have HBW0 := Lib.hid hbW; clear hbW)
  have HA : Hid (AcAt W aA acts) := Lib.hid (HA0.out.keep HBW0.out)
  have HB0 : Hid (Below W.heap.size W W) := Lib.hid (Below.refl _ _)
  go_wp2
  go_loopw [5, 6] (fun u v wr => RPA W u v wr) (fun _ v _ => 40 - (intOf v).toNat)
  case atStart => exact ⟨0, none, 0, 0, [], rfl, Nat.le_refl _, by decide, rfl, OwnCh.nil _ _, rfl, (fun c hc => by cases hc), (fun c hc => by cases hc), HB0.out⟩
  case round =>
    obtain ⟨i, A, n, cap, l, rfl, hni, hi60, rfl, hmd⟩ := hrel
    have HMD := Lib.hid hmd; have HNL : Hid (n = l.length) := Lib.hid hmd.own.len
    have hcaps := hmd.own.slC
    have HSL := Lib.hid hcaps
    clear hmd hcaps
    by_cases hin : i < N ∧ i < 40
    · obtain ⟨hin1, hin2⟩ := hin
      obtain ⟨a, ha⟩ : ∃ a, acts[i]? = some a := ⟨acts[i]'(by have := HNA.out; omega), List.getElem?_eq_getElem _⟩
      have haok := HAO.out a (List.mem_of_getElem? ha)
      obtain ⟨ga, off, rfl, hg, hr⟩ := acr (HA.out.keep HMD.out.b) i a ha
      have HX := Lib.hid hr
      have HCH := Lib.hid (change_any a haok A n cap l HNL.out (by omega) HMD.out.ok wr (Lib.hid HMD.out.own.at'))
      have HSIX := Lib.hid (actP_six a)
      clear hr hg ha haok
      have hz : (i : Int) < (N : Int) := by omega
      have hz2 : (i : Int) < 40 := by omega
      go_upto_region 8 with (first
        | (refine wpList_load_mid rfl 40 (.tmp 25) rfl ga (off + i * 9) rfl [.bool a.put, .int .u8 (a.key : Int), .int .u8 (a.w : Int), .int .u8 (a.near : Int), .int .u64 (a.t.c : Int), .float .f64 a.t.s, .bool a.t.o, .float .f64 a.t.lo, .float .f64 a.t.hi] _ HX.out uAct rfl iAct ?_)
        | (go_at_call 8; with_reducible refine HCH.out.mono ?_; rintro e w2 ⟨⟨c, rfl, hcok, hcp⟩, hb2⟩; have HCO := Lib.hid hcok; have HCP := Lib.hid hcp; have HB2 := Lib.hid hb2; have HOC := Lib.hid (oneCh c); clear hcok hcp hb2)
        | (refine wpList_store_fresh rfl 38 (.tmp 7) (.tmp 28) rfl _ _ _ _ rfl (by simp) rfl iCh rfl HOC.out ?_))
      have HOW : Hid (OwnCh (w2.alloc (.cells #[.bool c.put, .int .u64 (c.rev : Int), .string c.p.key, .int .i64 c.p.s, .int .i64 c.p.e, .int .u64 (c.t.c : Int), .float .f64 c.t.s, .bool c.t.o, .float .f64 c.t.lo, .float .f64 c.t.hi] 38)) W.heap.size A n cap l) := Lib.hid ((HMD.out.own.below HB2.out (fun g' off' e => (HMD.out.own.lt g' off' e).1)).below ((Below.refl _ _).alloc (Nat.le_refl _) _) (fun g' off' e => Nat.lt_of_lt_of_le (HMD.out.own.lt g' off' e).1 HB2.out.size))
      have HBW : Hid (Below W.heap.size W (w2.alloc (.cells #[.bool c.put, .int .u64 (c.rev : Int), .string c.p.key, .int .i64 c.p.s, .int .i64 c.p.e, .int .u64 (c.t.c : Int), .float .f64 c.t.s, .bool c.t.o, .float .f64 c.t.lo, .float .f64 c.t.hi] 38))) := Lib.hid ((bto HMD.out.b HB2.out).alloc (bto HMD.out.b HB2.out).size _)
      have hnx := next_any A n cap l c HNL.out (by omega) HMD.out.val HMD.out.ok HCO.out _ (Lib.hid HOW.out.at')
      rcases hokn : okN l c with _ | _
      · rw [hokn] at hnx
        have HNX := Lib.hid hnx
        clear hnx hokn
        go_wp2_with (go_at_call 18; with_reducible refine HNX.out.mono ?_; rintro e w3 ⟨rfl, hb3⟩; have HB3 := Lib.hid hb3; clear hb3)
        go_roundw
        case rel => exact ⟨i + 1, A, n, cap, l, by go_num, by omega, by omega, rfl, HOW.out.below HB3.out (fun g' off' e => (HOW.out.lt g' off' e).1), HMD.out.val, HMD.out.ok, HMD.out.six, bto HBW.out HB3.out⟩
        case measure => (simp [intOf]; omega)
      · rw [hokn] at hnx
        have HNX := Lib.hid hnx
        have HVN : Hid (Val (l ++ [c])) := Lib.hid (HMD.out.val.more (by unfold accB; rw [hokn]; rfl))
        clear hnx hokn
        go_wp2_with (first
          | (go_at_call 18; with_reducible refine HNX.out.mono ?_; rintro e w3 ⟨rfl, hb3⟩; have HR3 : Hid (w3.heap[w2.heap.size]? = some (.cells #[.bool c.put, .int .u64 (c.rev : Int), .string c.p.key, .int .i64 c.p.s, .int .i64 c.p.e, .int .u64 (c.t.c : Int), .float .f64 c.t.s, .bool c.t.o, .float .f64 c.t.lo, .float .f64 c.t.hi] 38 (0, 0))) := Lib.hid ((hb3.block _ (by simp)).trans (heap_new w2 _)); have HO3 : Hid (OwnCh w3 W.heap.size A n cap l) := Lib.hid (HOW.out.below hb3 (fun g' off' e => (HOW.out.lt g' off' e).1)); have HB3 := Lib.hid (bto HBW.out hb3); clear hb3)
          | (refine wpList_load_row rfl 38 (.tmp 7) rfl _ rfl _ _ _ _ HR3.out uCh rfl iCh ?_)
          | (at_builtin; refine wpList_append_ch rfl (.tmp 32) (.tmp 34) rfl W.heap.size A n cap l rfl (HO3.out.below ((Below.refl _ _).alloc (Nat.le_refl _) _) (fun g' off' e => (HO3.out.lt g' off' e).1)) (some ⟨w3.heap.size, 0, none⟩) 1 1 [c] rfl rfl (chAt_new' w3 _ [c] _ rfl _ rfl) (fun h => by cases h) (n + 1) rfl (by omega) (HB3.out.alloc HB3.out.size _).size ?_; intro A4 c4 w4 ho4 hc4 hm4 hn4 hb4 hg4 ha4; have HO4 := Lib.hid ho4; have HB4 := Lib.hid ((HB3.out.alloc HB3.out.size _).trans hb4); clear ho4 hc4 hm4 hn4 hb4 hg4 ha4))
        go_roundw
        case rel => exact ⟨i + 1, A4, n + 1, c4, l ++ [c], by go_num, by omega, by omega, rfl, HO4.out, HVN.out, (fun d hd => by
          rcases List.mem_append.1 hd with h | h
          · exact HMD.out.ok d h
          · rw [List.mem_singleton] at h; subst h; exact HCO.out), HMD.out.six.append (fun d hd => by rw [List.mem_singleton] at hd; subst hd; rw [HCP.out]; exact HSIX.out), HB4.out⟩
        case measure => (simp [intOf]; omega)
    · have HN900 : Hid (n ≤ 60) := Lib.hid (by omega)
      clear hni hi60
      have hq : ((i : Int) < (N : Int) ∧ ¬ ((i : Int) < 40)) ∨ ¬ ((i : Int) < (N : Int)) := by omega
      clear hin
      have hor : n = 0 ∨ 0 < n := by omega
      rcases hq with ⟨hz, hz2⟩ | hz
      all_goals
        rcases hor with hn0 | hn0
        · have HKN : Hid (0 ≤ l.length) := Lib.hid (Nat.zero_le _)
          have HN0 := Lib.hid hn0
          have hn1 : ¬ ((0 : Int) < (n : Int)) := by omega
          clear hn0
          go_upto_region 14 with fail
          obtain ⟨wg, hwg⟩ : ∃ wg, wg = (wr.alloc (.cells #[.slice none 0 0, .map none] 27)).alloc (.cells #[.slice none 0 0, .map none] 27) := ⟨_, rfl⟩
          rw [← hwg]
          have HBG : Hid (Below wr.heap.size wr wg) := Lib.hid (by rw [hwg]; exact ((Below.refl _ _).alloc (Nat.le_refl _) _).alloc (by simp) _)
          have HSZG : Hid (wg.heap.size = wr.heap.size + 2) := Lib.hid (by rw [hwg]; simp)
          have HLG : Hid (LedE (fun k => k = wr.heap.size) wg wr.heap.size []) := Lib.hid (by rw [hwg]; exact (led_new wr _ rfl).below ((Below.refl _ _).alloc (Nat.le_refl _) _))
          have HLH : Hid (LedE (fun k => k = wr.heap.size + 1) wg (wr.heap.size + 1) []) := Lib.hid (by
            rw [hwg]
            have h := led_new (wr.alloc (.cells #[.slice none 0 0, .map none] 27)) _ rfl
            rw [show (wr.alloc (.cells #[.slice none 0 0, .map none] 27)).heap.size = wr.heap.size + 1 from by simp] at h
            exact h)
          have HOG : Hid (OwnCh wg W.heap.size A n cap l) := Lib.hid (HMD.out.own.below HBG.out (fun g' off' e => (HMD.out.own.lt g' off' e).1))
          have HALT : Hid (∀ g' off, A = some ⟨g', off, none⟩ → g' < wr.heap.size) := Lib.hid (fun g' off e => (HMD.out.own.lt g' off e).1)
          clear hwg
          have HLN : Hid (l.length ≤ 60) := Lib.hid (by have := HNL.out; have := HN900.out; omega)
          obtain ⟨A1, hcut1, hs1, hat1⟩ := cutTo A n cap 0 HSL.out (by have := HKN.out; have := HNL.out; omega)
          obtain ⟨A2, C2, hcut2, hs2, hat2⟩ := cutFrom A n cap 0 HSL.out (by have := HKN.out; have := HNL.out; omega)
          rw [Nat.sub_zero] at hs2
          have HS1 := Lib.hid hs1; have HAT1 := Lib.hid hat1; have HS2 := Lib.hid hs2; have HAT2 := Lib.hid hat2
          clear hs1 hat1 hs2 hat2
          simp only [show ((0 : Nat) : Int) = 0 from rfl, Nat.sub_zero] at hcut1 hcut2
          have HOKT : Hid (∀ c ∈ l.take 0, c.Ok) := Lib.hid (fun c hc => HMD.out.ok c (List.mem_of_mem_take hc))
          have HOKD : Hid (∀ c ∈ l.drop 0, c.Ok) := Lib.hid (fun c hc => HMD.out.ok c (List.mem_of_mem_drop hc))
          have HACC : Hid (accB [] (l.take 0) = true ∧ accB (l.take 0) (l.drop 0) = true) := Lib.hid (by
            have h := HMD.out.val
            unfold Val at h
            rw [← List.take_append_drop 0 l, accB_append] at h
            simpa using h)
          have HLT : Hid (0 = (l.take 0).length) := Lib.hid (by rw [List.length_take]; have := HKN.out; omega)
          have HLD : Hid (n = (l.drop 0).length) := Lib.hid (by rw [List.length_drop]; have := HNL.out; omega)
          have HAD1 := Lib.hid (add_ok (S := fun k => k = wr.heap.size) wr.heap.size [] A n cap l HNL.out (by rw [List.length_nil]; have := HN900.out; omega) HSL.out HMD.out.ok wg (Lib.hid HOG.out.at') HLG.out HMD.out.val)
          go_wp2_with (first
            | (go_at_call 10; with_reducible refine HAD1.out.mono ?_; rintro e w5 ⟨rfl, hk5, hl5⟩; rw [List.nil_append] at hl5; have HK5 := Lib.hid hk5; have HLG5 : Hid (LedE (Sx (fun k => k = wr.heap.size) wg w5) w5 wr.heap.size l) := Lib.hid hl5; have HO5 : Hid (OwnCh w5 W.heap.size A n cap l) := Lib.hid (HOG.out.same (fun g' off e => hk5.block g' (HOG.out.lt g' off e).1 (by have := HALT.out g' off e; omega))); have HLH5 : Hid (LedE (fun k => k = wr.heap.size + 1) w5 (wr.heap.size + 1) []) := Lib.hid (HLH.out.same (fun k hk => hk5.block k (by have := HSZG.out; omega) (by omega)) hk5.size); have HZ5 : Hid (wr.heap.size + 2 ≤ w5.heap.size) := Lib.hid (by have := hk5.size; have := HSZG.out; omega); have HAD2 := Lib.hid (add_ok (S := fun k => k = wr.heap.size + 1) (wr.heap.size + 1) [] A1 0 cap (l.take 0) HLT.out (by rw [List.length_nil]; have := HKN.out; have := HLN.out; omega) HS1.out HOKT.out w5 (Lib.hid (HAT1.out w5 l HNL.out HO5.out.at')) HLH5.out HACC.out.1); have HE5 : Hid (Below W.heap.size W w5) := Lib.hid ((bto HMD.out.b HBG.out).trans (hk5.below (bto HMD.out.b HBG.out).size (fun k hk => by have := HMD.out.b.size; omega))); clear hk5 hl5)
            | (go_at_call 10; with_reducible refine HAD2.out.mono ?_; rintro e w6 ⟨rfl, hk6, hl6⟩; rw [List.nil_append] at hl6; have HLH6 : Hid (LedE (Sx (fun k => k = wr.heap.size + 1) w5 w6) w6 (wr.heap.size + 1) (l.take 0)) := Lib.hid hl6; have HO6 : Hid (OwnCh w6 W.heap.size A n cap l) := Lib.hid (HO5.out.same (fun g' off e => hk6.block g' (HO5.out.lt g' off e).1 (by have := HALT.out g' off e; omega))); have HLG6 : Hid (LedE (Sx (fun k => k = wr.heap.size) wg w5) w6 wr.heap.size l) := Lib.hid (HLG5.out.same (fun k hk => hk6.block k (HLG5.out.lt k hk) (sx_apart1 HSZG.out hk)) hk6.size); have HZ6 : Hid (w5.heap.size ≤ w6.heap.size) := Lib.hid hk6.size; have HAD3 := Lib.hid (add_ok (S := Sx (fun k => k = wr.heap.size + 1) w5 w6) (wr.heap.size + 1) (l.take 0) A2 n C2 (l.drop 0) HLD.out (by rw [List.length_take]; have := HN900.out; have := HLN.out; omega) HS2.out HOKD.out w6 (Lib.hid (HAT2.out w6 l HNL.out HO6.out.at')) HLH6.out HACC.out.2); have HE6 : Hid (Below W.heap.size W w6) := Lib.hid (HE5.out.trans (hk6.below HE5.out.size (fun k hk => by have := HMD.out.b.size; omega))); clear hk6 hl6)
            | (go_at_call 10; with_reducible refine HAD3.out.mono ?_; rintro e w7 ⟨rfl, hk7, hl7⟩; rw [List.take_append_drop] at hl7; have HLH7 := Lib.hid hl7; have HLG7 : Hid (LedE (Sx (fun k => k = wr.heap.size) wg w5) w7 wr.heap.size l) := Lib.hid (HLG6.out.same (fun k hk => hk7.block k (HLG6.out.lt k hk) (sx_apart2 HSZG.out hk (HLG5.out.lt k hk))) hk7.size); have HVG := Lib.hid (view_doc wr.heap.size l w7 HLG7.out (by have := HLN.out; omega) HMD.out.six); have HE7 : Hid (Below W.heap.size W w7) := Lib.hid (HE6.out.trans (hk7.below HE6.out.size (fun k hk => by have h1 := HMD.out.b.size; have h2 := HE5.out.size; rcases hk.or with h | ⟨h, -⟩ <;> omega))); clear hk7 hl7)
            | (go_at_call 15; with_reducible refine HVG.out.mono ?_; intro e w8 h8; unfold RvEnd at h8; obtain ⟨A8, c8, rfl, ho8, hb8⟩ := h8; have HO8 := Lib.hid ho8; have HLG8 := Lib.hid (HLG7.out.below hb8); have HLH8 := Lib.hid (HLH7.out.below hb8); have HVH := Lib.hid (view_doc (wr.heap.size + 1) l w8 (HLH7.out.below hb8) (by have := HLN.out; omega) HMD.out.six); have HE8 := Lib.hid (bto HE7.out hb8); clear ho8 hb8)
            | (go_at_call 15; with_reducible refine HVH.out.mono ?_; intro e w9 h9; unfold RvEnd at h9; obtain ⟨A9, c9, rfl, ho9, hb9⟩ := h9; have HLG9 := Lib.hid (HLG8.out.below hb9); have HLH9 := Lib.hid (HLH8.out.below hb9); have HSV := Lib.hid (rsame13 A8 A9 (rvL l).length c8 c9 (rvL l) rfl (by have := rvL_len l; have := HLN.out; omega) (rvL_ok l HMD.out.val (by have := HLN.out; omega) HMD.out.ok) w9 (Lib.hid (HO8.out.at'.keep hb9)) (Lib.hid ho9.at')); have HE9 := Lib.hid (bto HE8.out hb9); clear ho9 hb9)
            | (go_at_call 14; with_reducible refine HSV.out.mono ?_; rintro e w10 ⟨rfl, hb10⟩; have HE10 := Lib.hid (bto HE9.out hb10); have HLH10 := Lib.hid (HLH9.out.below hb10); have HAG := Lib.hid (all_any wr.heap.size l w10 (HLG9.out.below hb10) (by have := HLN.out; omega)); clear hb10)
            | (go_at_call 12; with_reducible refine HAG.out.mono ?_; intro e w11 h11; unfold CloEnd at h11; obtain ⟨A11, c11, rfl, ho11, -, -, -, hb11⟩ := h11; have HO11 := Lib.hid ho11; have HAH := Lib.hid (all_any (wr.heap.size + 1) l w11 (HLH10.out.below hb11) (by have := HLN.out; omega)); have HE11 := Lib.hid (bto HE10.out hb11); clear ho11 hb11)
            | (go_at_call 12; with_reducible refine HAH.out.mono ?_; intro e w12 h12; unfold CloEnd at h12; obtain ⟨A12, c12, rfl, ho12, -, -, -, hb12⟩ := h12; have HSC := Lib.hid (rsame16 A11 A12 l.length c11 c12 l rfl (by have := HLN.out; omega) HMD.out.ok w12 (Lib.hid (HO11.out.at'.keep hb12)) (Lib.hid ho12.at')); have HE12 := Lib.hid (bto HE11.out hb12); clear ho12 hb12)
            | (go_at_call 11; with_reducible refine HSC.out.mono ?_; rintro e w13 ⟨rfl, hb13⟩; have HE13 := Lib.hid (bto HE12.out hb13); clear hb13))
          go_ret
          exact ⟨rfl, bto HBW0.out HE13.out⟩
        · obtain ⟨kn, hkn⟩ : ∃ kn, kn = cut % n := ⟨_, rfl⟩
          have HKN : Hid (kn ≤ l.length) := Lib.hid (by have := Nat.mod_lt cut hn0; have := HNL.out; omega)
          have ht : ((cut : Int)).tmod (n : Int) = (kn : Int) := by rw [hkn]; exact tmodU cut n
          have hn1 : (0 : Int) < (n : Int) := by omega
          have hn2 : ¬ ((n : Int) = 0) := by omega
          have hn3 : ¬ (n = 0) := by omega
          clear hkn hn0
          go_upto_region 14 with fail
          obtain ⟨wg, hwg⟩ : ∃ wg, wg = (wr.alloc (.cells #[.slice none 0 0, .map none] 27)).alloc (.cells #[.slice none 0 0, .map none] 27) := ⟨_, rfl⟩
          rw [← hwg]
          have HBG : Hid (Below wr.heap.size wr wg) := Lib.hid (by rw [hwg]; exact ((Below.refl _ _).alloc (Nat.le_refl _) _).alloc (by simp) _)
          have HSZG : Hid (wg.heap.size = wr.heap.size + 2) := Lib.hid (by rw [hwg]; simp)
          have HLG : Hid (LedE (fun k => k = wr.heap.size) wg wr.heap.size []) := Lib.hid (by rw [hwg]; exact (led_new wr _ rfl).below ((Below.refl _ _).alloc (Nat.le_refl _) _))
          have HLH : Hid (LedE (fun k => k = wr.heap.size + 1) wg (wr.heap.size + 1) []) := Lib.hid (by
            rw [hwg]
            have h := led_new (wr.alloc (.cells #[.slice none 0 0, .map none] 27)) _ rfl
            rw [show (wr.alloc (.cells #[.slice none 0 0, .map none] 27)).heap.size = wr.heap.size + 1 from by simp] at h
            exact h)
          have HOG : Hid (OwnCh wg W.heap.size A n cap l) := Lib.hid (HMD.out.own.below HBG.out (fun g' off' e => (HMD.out.own.lt g' off' e).1))
          have HALT : Hid (∀ g' off, A = some ⟨g', off, none⟩ → g' < wr.heap.size) := Lib.hid (fun g' off e => (HMD.out.own.lt g' off e).1)
          clear hwg
          have HLN : Hid (l.length ≤ 60) := Lib.hid (by have := HNL.out; have := HN900.out; omega)
          obtain ⟨A1, hcut1, hs1, hat1⟩ := cutTo A n cap kn HSL.out (by have := HKN.out; have := HNL.out; omega)
          obtain ⟨A2, C2, hcut2, hs2, hat2⟩ := cutFrom A n cap kn HSL.out (by have := HKN.out; have := HNL.out; omega)
          have HS1 := Lib.hid hs1; have HAT1 := Lib.hid hat1; have HS2 := Lib.hid hs2; have HAT2 := Lib.hid hat2
          clear hs1 hat1 hs2 hat2
          have HOKT : Hid (∀ c ∈ l.take kn, c.Ok) := Lib.hid (fun c hc => HMD.out.ok c (List.mem_of_mem_take hc))
          have HOKD : Hid (∀ c ∈ l.drop kn, c.Ok) := Lib.hid (fun c hc => HMD.out.ok c (List.mem_of_mem_drop hc))
          have HACC : Hid (accB [] (l.take kn) = true ∧ accB (l.take kn) (l.drop kn) = true) := Lib.hid (by
            have h := HMD.out.val
            unfold Val at h
            rw [← List.take_append_drop kn l, accB_append] at h
            simpa using h)
          have HLT : Hid (kn = (l.take kn).length) := Lib.hid (by rw [List.length_take]; have := HKN.out; omega)
          have HLD : Hid (n - kn = (l.drop kn).length) := Lib.hid (by rw [List.length_drop]; have := HNL.out; omega)
          have HAD1 := Lib.hid (add_ok (S := fun k => k = wr.heap.size) wr.heap.size [] A n cap l HNL.out (by rw [List.length_nil]; have := HN900.out; omega) HSL.out HMD.out.ok wg (Lib.hid HOG.out.at') HLG.out HMD.out.val)
          go_wp2_with (first
            | (go_at_call 10; with_reducible refine HAD1.out.mono ?_; rintro e w5 ⟨rfl, hk5, hl5⟩; rw [List.nil_append] at hl5; have HK5 := Lib.hid hk5; have HLG5 : Hid (LedE (Sx (fun k => k = wr.heap.size) wg w5) w5 wr.heap.size l) := Lib.hid hl5; have HO5 : Hid (OwnCh w5 W.heap.size A n cap l) := Lib.hid (HOG.out.same (fun g' off e => hk5.block g' (HOG.out.lt g' off e).1 (by have := HALT.out g' off e; omega))); have HLH5 : Hid (LedE (fun k => k = wr.heap.size + 1) w5 (wr.heap.size + 1) []) := Lib.hid (HLH.out.same (fun k hk => hk5.block k (by have := HSZG.out; omega) (by omega)) hk5.size); have HZ5 : Hid (wr.heap.size + 2 ≤ w5.heap.size) := Lib.hid (by have := hk5.size; have := HSZG.out; omega); have HAD2 := Lib.hid (add_ok (S := fun k => k = wr.heap.size + 1) (wr.heap.size + 1) [] A1 kn cap (l.take kn) HLT.out (by rw [List.length_nil]; have := HKN.out; have := HLN.out; omega) HS1.out HOKT.out w5 (Lib.hid (HAT1.out w5 l HNL.out HO5.out.at')) HLH5.out HACC.out.1); have HE5 : Hid (Below W.heap.size W w5) := Lib.hid ((bto HMD.out.b HBG.out).trans (hk5.below (bto HMD.out.b HBG.out).size (fun k hk => by have := HMD.out.b.size; omega))); clear hk5 hl5)
            | (go_at_call 10; with_reducible refine HAD2.out.mono ?_; rintro e w6 ⟨rfl, hk6, hl6⟩; rw [List.nil_append] at hl6; have HLH6 : Hid (LedE (Sx (fun k => k = wr.heap.size + 1) w5 w6) w6 (wr.heap.size + 1) (l.take kn)) := Lib.hid hl6; have HO6 : Hid (OwnCh w6 W.heap.size A n cap l) := Lib.hid (HO5.out.same (fun g' off e => hk6.block g' (HO5.out.lt g' off e).1 (by have := HALT.out g' off e; omega))); have HLG6 : Hid (LedE (Sx (fun k => k = wr.heap.size) wg w5) w6 wr.heap.size l) := Lib.hid (HLG5.out.same (fun k hk => hk6.block k (HLG5.out.lt k hk) (sx_apart1 HSZG.out hk)) hk6.size); have HZ6 : Hid (w5.heap.size ≤ w6.heap.size) := Lib.hid hk6.size; have HAD3 := Lib.hid (add_ok (S := Sx (fun k => k = wr.heap.size + 1) w5 w6) (wr.heap.size + 1) (l.take kn) A2 (n - kn) C2 (l.drop kn) HLD.out (by rw [List.length_take]; have := HN900.out; have := HLN.out; omega) HS2.out HOKD.out w6 (Lib.hid (HAT2.out w6 l HNL.out HO6.out.at')) HLH6.out HACC.out.2); have HE6 : Hid (Below W.heap.size W w6) := Lib.hid (HE5.out.trans (hk6.below HE5.out.size (fun k hk => by have := HMD.out.b.size; omega))); clear hk6 hl6)
            | (go_at_call 10; with_reducible refine HAD3.out.mono ?_; rintro e w7 ⟨rfl, hk7, hl7⟩; rw [List.take_append_drop] at hl7; have HLH7 := Lib.hid hl7; have HLG7 : Hid (LedE (Sx (fun k => k = wr.heap.size) wg w5) w7 wr.heap.size l) := Lib.hid (HLG6.out.same (fun k hk => hk7.block k (HLG6.out.lt k hk) (sx_apart2 HSZG.out hk (HLG5.out.lt k hk))) hk7.size); have HVG := Lib.hid (view_doc wr.heap.size l w7 HLG7.out (by have := HLN.out; omega) HMD.out.six); have HE7 : Hid (Below W.heap.size W w7) := Lib.hid (HE6.out.trans (hk7.below HE6.out.size (fun k hk => by have h1 := HMD.out.b.size; have h2 := HE5.out.size; rcases hk.or with h | ⟨h, -⟩ <;> omega))); clear hk7 hl7)
            | (go_at_call 15; with_reducible refine HVG.out.mono ?_; intro e w8 h8; unfold RvEnd at h8; obtain ⟨A8, c8, rfl, ho8, hb8⟩ := h8; have HO8 := Lib.hid ho8; have HLG8 := Lib.hid (HLG7.out.below hb8); have HLH8 := Lib.hid (HLH7.out.below hb8); have HVH := Lib.hid (view_doc (wr.heap.size + 1) l w8 (HLH7.out.below hb8) (by have := HLN.out; omega) HMD.out.six); have HE8 := Lib.hid (bto HE7.out hb8); clear ho8 hb8)
            | (go_at_call 15; with_reducible refine HVH.out.mono ?_; intro e w9 h9; unfold RvEnd at h9; obtain ⟨A9, c9, rfl, ho9, hb9⟩ := h9; have HLG9 := Lib.hid (HLG8.out.below hb9); have HLH9 := Lib.hid (HLH8.out.below hb9); have HSV := Lib.hid (rsame13 A8 A9 (rvL l).length c8 c9 (rvL l) rfl (by have := rvL_len l; have := HLN.out; omega) (rvL_ok l HMD.out.val (by have := HLN.out; omega) HMD.out.ok) w9 (Lib.hid (HO8.out.at'.keep hb9)) (Lib.hid ho9.at')); have HE9 := Lib.hid (bto HE8.out hb9); clear ho9 hb9)
            | (go_at_call 14; with_reducible refine HSV.out.mono ?_; rintro e w10 ⟨rfl, hb10⟩; have HE10 := Lib.hid (bto HE9.out hb10); have HLH10 := Lib.hid (HLH9.out.below hb10); have HAG := Lib.hid (all_any wr.heap.size l w10 (HLG9.out.below hb10) (by have := HLN.out; omega)); clear hb10)
            | (go_at_call 12; with_reducible refine HAG.out.mono ?_; intro e w11 h11; unfold CloEnd at h11; obtain ⟨A11, c11, rfl, ho11, -, -, -, hb11⟩ := h11; have HO11 := Lib.hid ho11; have HAH := Lib.hid (all_any (wr.heap.size + 1) l w11 (HLH10.out.below hb11) (by have := HLN.out; omega)); have HE11 := Lib.hid (bto HE10.out hb11); clear ho11 hb11)
            | (go_at_call 12; with_reducible refine HAH.out.mono ?_; intro e w12 h12; unfold CloEnd at h12; obtain ⟨A12, c12, rfl, ho12, -, -, -, hb12⟩ := h12; have HSC := Lib.hid (rsame16 A11 A12 l.length c11 c12 l rfl (by have := HLN.out; omega) HMD.out.ok w12 (Lib.hid (HO11.out.at'.keep hb12)) (Lib.hid ho12.at')); have HE12 := Lib.hid (bto HE11.out hb12); clear ho12 hb12)
            | (go_at_call 11; with_reducible refine HSC.out.mono ?_; rintro e w13 ⟨rfl, hb13⟩; have HE13 := Lib.hid (bto HE12.out hb13); clear hb13))
          go_ret
          exact ⟨rfl, bto HBW0.out HE13.out⟩
end Go.Proofs.Ytkhldnihboklaaa
