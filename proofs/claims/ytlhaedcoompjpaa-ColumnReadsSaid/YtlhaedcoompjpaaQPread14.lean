/-
  Layer column: texts that a call owns; appends of them; rows of texts; times of texts.
-/
import Derived.Test.YtlhaedcoompjpaaQPread13
import Derived.Test.YtlhaedcoompjpaaQPread3
import Derived.Test.YtlhaedcoompjpaaQPread10
import Derived.Test.YtlhaedcoompjpaaQPread5
set_option linter.unusedSimpArgs false
set_option linter.unusedVariables false
set_option maxRecDepth 8000
namespace Go.Proofs.Ytlhaedcoompjpaa
open Go.RowKit Go.WideShapes Col
def WfT (x : List Nat) : Prop := ∀ c ∈ x, c < 256
/-- A slice value that holds some whole numbers, in a world. -/
def TxAt (w : World) (a : Option Addr) (l : List (List Nat)) : Prop := ∀ (k : Nat) (x : List Nat), l[k]? = some x → WfT x ∧ ∃ g off, a = some ⟨g, off, none⟩ ∧ g < w.heap.size ∧ w.cell? ⟨g, off + k, none⟩ = some (.string (strB x))
theorem TxAt.keep {w w' : World} {a : Option Addr} {l : List (List Nat)} (h : TxAt w a l) (hb : Below w.heap.size w w') : TxAt w' a l := fun k x hx => by
  obtain ⟨h1, g, off, h2, h3, h4⟩ := h k x hx
  exact ⟨h1, g, off, h2, Nat.lt_of_lt_of_le h3 hb.size, (hb.cell (p := ⟨g, off + k, none⟩) h3).trans h4⟩
theorem TxAt.wf {w : World} {a : Option Addr} {l : List (List Nat)} (h : TxAt w a l) : ∀ x ∈ l, WfT x := fun x hx => by
  obtain ⟨k, hk⟩ := List.getElem?_of_mem hx
  exact (h k x hk).1
theorem TxAt.nil (w : World) (a : Option Addr) : TxAt w a [] := fun k x hx => by simp at hx
theorem TxAt.at' {w w' : World} {a : Option Addr} {l : List (List Nat)} (h : Hid (TxAt w a l)) (hb : Below w.heap.size w w') : Hid (TxAt w' a l) := h.out.keep hb
theorem TxAt.spot {w : World} {a : Option Addr} {l : List (List Nat)} (h : TxAt w a l) (h0 : 0 < l.length) : ∃ g off, a = some ⟨g, off, none⟩ ∧ g < w.heap.size ∧ ∀ (k : Nat) (x : List Nat), l[k]? = some x → w.cell? ⟨g, off + k, none⟩ = some (.string (strB x)) := by
  obtain ⟨-, g, off, rfl, hg, -⟩ := h 0 l[0] (List.getElem?_eq_getElem h0)
  refine ⟨g, off, rfl, hg, fun k x hx => ?_⟩
  obtain ⟨-, g', off', h2, -, hc⟩ := h k x hx
  cases h2
  exact hc
def tv (x : List Nat) : Value := .string (strB x)
def tvs (l : List (List Nat)) : List Value := l.map tv
theorem tvs_length (l : List (List Nat)) : (tvs l).length = l.length := List.length_map ..
theorem tvs_append (l m : List (List Nat)) : tvs (l ++ m) = tvs l ++ tvs m := List.map_append ..
theorem tvs_one (l : List (List Nat)) : ∀ u ∈ tvs l, u.oneCell' = true := fun u hu => by
  obtain ⟨x, -, rfl⟩ := List.mem_map.1 hu; rfl
theorem TxAt.of_row {w : World} {g : Nat} {cs : Array Value} {t : TypeId} {fr : Nat × Nat} (l : List (List Nat)) (hl : ∀ x ∈ l, WfT x) (hrow : w.heap[g]? = some (.cells cs t fr)) (hcs : (tvs l).IsPrefix cs.toList) : TxAt w (some ⟨g, 0, none⟩) l := fun k x hx => by
  refine ⟨hl x (List.mem_of_getElem? hx), g, 0, rfl, (Array.getElem?_eq_some_iff.1 hrow).1, ?_⟩
  rw [cell_of_row w g (0 + k) cs t fr hrow, Nat.zero_add, ← Array.getElem?_toList]
  obtain ⟨r, hr⟩ := hcs
  have hk : k < (tvs l).length := by rw [tvs_length]; exact (List.getElem?_eq_some_iff.1 hx).1
  rw [← hr, List.getElem?_append_left hk]
  unfold tvs; rw [List.getElem?_map, hx]; rfl
theorem infoStr : (Try.prog.info? 9).map (fun i => (i.zero, i.size, i.bytes)) = some (some (.string { data := #[] }), 1, 16) := by kernel_rfl
/-- A slice of whole numbers that the call owns: its block lies from B on. -/
def OwnX (w : World) (B : Nat) (A : Option Addr) (n cap : Nat) (l : List (List Nat)) : Prop := w.ownsRow B 9 1 (.slice A n cap) n (tvs l) ∧ ∀ x ∈ l, WfT x
theorem OwnX.len {w : World} {B n cap : Nat} {A : Option Addr} {l : List (List Nat)} (h : OwnX w B A n cap l) : n = l.length := by have := h.1.1; rw [tvs_length] at this; omega
theorem OwnX.caps {w : World} {B n cap : Nat} {A : Option Addr} {l : List (List Nat)} (h : OwnX w B A n cap l) : n ≤ cap ∧ cap ≤ maxLen := by
  rcases h.1.2 with ⟨h1, h2⟩ | ⟨g, cap', cur, h1, -, -, h2, h3, -⟩
  · cases h1; exact ⟨Nat.le_refl _, Nat.zero_le _⟩
  · cases h1; exact ⟨h2, h3⟩
theorem OwnX.isAt {w : World} {B n cap : Nat} {A : Option Addr} {l : List (List Nat)} (h : OwnX w B A n cap l) : TxAt w A l := by
  rcases h.1.2 with ⟨h1, h2⟩ | ⟨g, cap', cur, h1, hb, hrow, -, -, hs, ht⟩
  · have := h.len
    have hl : l = [] := List.eq_nil_of_length_eq_zero (by omega)
    subst hl; exact TxAt.nil _ _
  · cases h1
    exact TxAt.of_row l h.2 hrow ⟨cur.toList.drop (n * 1), by rw [← ht, List.take_append_drop]⟩
theorem OwnX.nil (w : World) (B : Nat) : OwnX w B none 0 0 [] := ⟨w.ownsRow_nil B _ 1, fun x hx => by cases hx⟩
theorem OwnX.keep {w w' : World} {B n cap : Nat} {A : Option Addr} {l : List (List Nat)} (h : OwnX w B A n cap l) (hb : Below w.heap.size w w') : OwnX w' B A n cap l :=
  ⟨h.1.kept (row := none) ⟨hb.os, hb.tape, hb.output, hb.size, fun k hk _ => hb.block k hk⟩ (by rcases A with _ | a <;> simp [Value.ownBlock]), h.2⟩
theorem OwnX.base {w : World} {B n cap : Nat} {A : Option Addr} {l : List (List Nat)} (h : OwnX w B A n cap l) : ∀ k, A.map (·.block) = some k → B ≤ k := fun k hk => by
  rcases h.1.2 with ⟨h1, h2⟩ | ⟨g, cap', cur, h1, hb, _⟩
  · cases h1; cases hk
  · cases h1; simp at hk; omega
theorem tx_at {w : World} {a : Addr} {l : List (List Nat)} (h : TxAt w (some a) l) (j : Nat) (u : Value) (hu : (tvs l)[j]? = some u) : w.cell? (a.add j) = some u := by
  unfold tvs at hu
  rw [List.getElem?_map] at hu
  rcases hx : l[j]? with _ | x
  · rw [hx] at hu; cases hu
  · rw [hx] at hu
    obtain ⟨-, g, off, e, -, hc⟩ := h j x hx
    cases e
    rw [addr_add, hc]; exact hu
/-- append of whole numbers that are some, the source nil, empty or not. -/
theorem run_append_tx (w : World) (B : Nat) (A : Option Addr) (n cap : Nat) (l : List (List Nat)) (hown : OwnX w B A n cap l) (a : Addr) (m c : Nat) (l2 : List (List Nat)) (hm : m = l2.length) (h2 : TxAt w (some a) l2)
    (hbytes : (n + m) * 16 ≤ 140737488355328) (hbase : B ≤ w.heap.size) (ty : TypeId) :
    ∃ A' cap' w', (Builtin.append_ #[34, 34] ty #[.slice A n cap, .slice (some a) m c]).run Try.prog w = .ok (.slice A' (n + m) cap') w' ∧ OwnX w' B A' (n + m) cap' (l ++ l2) ∧ w.grownBy w' (A.map (·.block)) := by
  obtain ⟨i0, hi, hz0, hz1, hz2⟩ := info_parts infoStr
  have hlt : ∀ x ∈ l ++ l2, WfT x := fun x hx => by
    rcases List.mem_append.1 hx with h | h
    · exact hown.2 x h
    · exact h2.wf x h
  obtain ⟨v', w', hr, h3, h4, h5, h6⟩ := run_append_own_at (P := Try.prog) w B 34 ty 9 i0 (.string { data := #[] }) 1 16 Try.underlying34 hi hz0 hz1 hz2 rfl (by decide) _ n (tvs l) hown.1 a m c (tvs l2) (by rw [tvs_length, hm, Nat.mul_one]) (tx_at h2) (tvs_one l2) (by unfold maxLen; omega) (by omega) hbase
  rw [← tvs_append] at h3
  rcases h3.2 with ⟨rfl, h0⟩ | ⟨g, cap', cur, rfl, hb, hrest⟩
  · have hn0 : n = 0 := by omega
    have hm0 : m = 0 := by omega
    subst hn0; subst hm0
    exact ⟨none, 0, w', hr, ⟨h3, hlt⟩, by rcases A with _ | _ <;> exact h4⟩
  · exact ⟨_, _, w', hr, ⟨h3, hlt⟩, by rcases A with _ | _ <;> exact h4⟩
theorem wpList_append_tx {w : World} {ops : Array Oper} {rest : List Oper} {o : Oper} {a : Act} {Q : Exit → Act → World → Prop} (hgd : o.guard = none) (s x : Operand)
    (ho : o.op = .call { callee := .builtin .append, args := #[s, x], argTypes := #[34, 34] })
    (B : Nat) (A : Option Addr) (n cap : Nat) (l : List (List Nat)) (hs : a.eval s = .slice A n cap) (hown : OwnX w B A n cap l) (b : Addr) (m c : Nat) (l2 : List (List Nat)) (hx : a.eval x = .slice (some b) m c) (hm : m = l2.length) (h2 : TxAt w (some b) l2)
    (hbytes : (n + m) * 16 ≤ 140737488355328) (hbase : B ≤ w.heap.size)
    (h : ∀ A' cap' w', OwnX w' B A' (n + m) cap' (l ++ l2) → w.grownBy w' (A.map (·.block)) → wpList Try.prog ops Q rest (a.put o.dst (.slice A' (n + m) cap')) w') : wpList Try.prog ops Q (o :: rest) a w := by
  refine wpList_plain hgd fun K hK => ?_
  obtain ⟨A', cap', w', hr, h3, h4⟩ := run_append_tx w B A n cap l hown b m c l2 hm h2 hbytes hbase o.type
  unfold Oper.wp execOp
  simp only [ho, resolve, invoke, builtin, Sem.run_bind, Sem.run_pure, Result.andThen_ok, List.map_toArray, List.map_cons, List.map_nil, hs, hx, hr]
  exact hK _ _ (h A' cap' w' h3 h4)
theorem tx_one (w : World) (x : List Nat) (hx : WfT x) : TxAt (w.alloc (.cells #[.string (strB x)] 9)) (some ⟨w.heap.size, 0, none⟩) [x] :=
  TxAt.of_row _ (fun y hy => by simp at hy; subst hy; exact hx) (heap_alloc_new' w _) ⟨[], rfl⟩
/-- A row of whole numbers that is all of a slice. -/
def RowT (w : World) (g : Nat) (l : List (List Nat)) : Prop := w.heap[g]? = some (.cells (tvs l).toArray 9 (0, 0))
section
variable {w : World} {g : Nat} {l : List (List Nat)}
theorem RowT.fr (h : RowT w g l) (i : Nat) : w.frozen? ⟨g, i, none⟩ = false := row_frozen h i
theorem RowT.at (h : RowT w g l) (i : Nat) (hi : i < l.length) : ∃ u, w.cell? ⟨g, i, none⟩ = some u := by
  rw [cell_of_row _ _ _ _ _ _ h, List.getElem?_toArray]
  exact ⟨_, List.getElem?_eq_getElem (by rw [tvs_length]; exact hi)⟩
theorem RowT.set (h : RowT w g l) (i : Nat) (x : List Nat) : RowT (w.setCell ⟨g, i, none⟩ (.string (strB x))) g (l.set i x) := by
  unfold RowT at *
  rw [World.setCell]
  simp only [Array.getElem?_modify, if_pos, h, Option.map_some]
  have e : (tvs l).toArray.setIfInBounds i (.string (strB x)) = (tvs (l.set i x)).toArray := by
    unfold tvs; rw [List.map_set]; simp; rfl
  simp [e]
theorem RowT.keep {S : Nat → Prop} {w' : World} (h : RowT w g l) (hk : Kept S w w') (hg : ¬ S g) : RowT w' g l := hk.heap h hg
theorem RowT.own {B : Nat} (h : RowT w g l) (hB : B ≤ g) (hl : ∀ x ∈ l, WfT x) (hm : l.length ≤ maxLen) : OwnX w B (some ⟨g, 0, none⟩) l.length l.length l := by
  refine ⟨⟨by rw [tvs_length]; omega, .inr ⟨g, l.length, _, rfl, hB, h, Nat.le_refl _, hm, by simp [tvs_length], by rw [Nat.mul_one]; simp [tvs_length, List.take_of_length_le]⟩⟩, hl⟩
end
theorem rowT_zeros {w : World} {B g q : Nat} (h : w.ownsRow B 9 1 (.slice (some ⟨g, 0, none⟩) q q) q (madeCells (Value.string { data := #[] }).cells (q * 1)).toList) : RowT w g (List.replicate q []) := by
  have e : tvs (List.replicate q []) = List.replicate q (.string { data := #[] }) := by unfold tvs; rw [List.map_replicate]; rfl
  rw [Nat.mul_one, show (Value.string { data := #[] }).cells = #[.string { data := #[] }] from rfl, toList_madeCells_one, ← e] at h
  rcases h.2 with ⟨h1, h2⟩ | ⟨g', cap', cur, h1, hb, hrow, -, -, hs, ht⟩
  · cases h1
  · cases h1
    unfold RowT
    rw [hrow]
    have hc : cur = (tvs (List.replicate q [])).toArray := by
      apply Array.ext'
      rw [← ht, Nat.mul_one, List.take_of_length_le (by rw [Array.length_toList, hs]; omega)]
    rw [hc]
theorem fill_setT (xs : List (List Nat)) (n k : Nat) (hx : xs.length = k) (hk : k < n) (x : List Nat) : (xs ++ List.replicate (n - k) []).set k x = (xs ++ [x]) ++ List.replicate (n - (k + 1)) [] := by
  obtain ⟨m, rfl⟩ : ∃ m, n = k + 1 + m := ⟨n - k - 1, by omega⟩
  rw [show k + 1 + m - k = m + 1 by omega, show k + 1 + m - (k + 1) = m by omega, List.replicate_succ, List.set_append_right _ _ (by omega), hx, Nat.sub_self, List.set_cons_zero, List.append_assoc]; rfl

/-- How one call ends. -/
def StepEndsT {σ : Type} (g : Nat) (Sw : Nat → Prop) (St : σ → World → Prop) (o : Option (List Nat × σ)) (w : World) (e : Ending) (w' : World) : Prop :=
  match o with
  | some p => e = .returned (.string (strB p.1)) ∧ WfT p.1 ∧ St p.2 w' ∧ Kept Sw w w'
  | none => e = .panicked [gu g] ∧ Gone w' g ∧ Kept Sw w w'
/-- How a reading of a list ends. -/
def ListEndsT {σ : Type} (g : Nat) (Sw : Nat → Prop) (St : σ → World → Prop) (o : Option (List (List Nat) × σ)) (w : World) (e : Ending) (w' : World) : Prop :=
  match o with
  | some p => (∃ A n cap, e = .returned (.slice A n cap) ∧ OwnX w' w.heap.size A n cap p.1) ∧ St p.2 w' ∧ Kept Sw w w'
  | none => e = .panicked [gu g] ∧ Gone w' g ∧ Kept Sw w w'
def RTt {σ : Type} (Sw : Nat → Prop) (St : σ → World → Prop) (step : σ → Option (List Nat × σ)) (n : Nat) (w : World) (s0 : σ) (v : Value) (wr : World) : Prop :=
  ∃ (k : Nat) (xs : List (List Nat)) (s : σ), k ≤ n ∧ v = .int .i64 (k : Int) ∧ runS step k s0 = some (xs, s) ∧ (∀ x ∈ xs, WfT x) ∧ RowT wr w.heap.size (xs ++ List.replicate (n - k) []) ∧ St s wr ∧ Kept Sw w wr ∧ w.heap.size < wr.heap.size
theorem infoStr' : (Try.prog.info? 9).map (fun i => (i.zero, i.size, i.bytes)) = some (some (.string { data := #[] }), 1, 16) := by kernel_rfl
set_option maxHeartbeats 2000000 in
theorem timesT_any {σ : Type} (step : σ → Option (List Nat × σ)) (F : Nat) (first cap : Array Value) (hent : ∀ (args : Array Value) (w : World), (callFunc F args).run Try.prog w = .ok (.enter F args) w)
    (n : Nat) (hn : n ≤ 4096) (g : Nat) (Sw : Nat → Prop) (St : σ → World → Prop) (w : World) (hSw : Hid (∀ k, Sw k → k < w.heap.size)) (hkeep : Hid (∀ s w1 w2, St s w1 → Kept (fun j => w.heap.size ≤ j) w1 w2 → St s w2))
    (s0 : σ) (hstep : Hid (∀ k xs s w1, k < n → runS step k s0 = some (xs, s) → St s w1 → w.heap.size ≤ w1.heap.size → Calls Try.prog F (first ++ cap) w1 (StepEndsT g Sw St (step s) w1))) (h0 : Hid (St s0 w)) :
    Calls Try.prog 94 #[.int .i64 (n : Int), .func (.func F) first cap] w (ListEndsT g Sw St (runS step n s0) w) := by
  obtain ⟨iu, hiu, hz0, hz1, hz2⟩ := info_parts infoStr'
  have hzb : iu.bytes * n ≤ 281474976710656 := by rw [hz2]; omega
  have hnm : n ≤ maxLen := by unfold maxLen; omega
  go_enter Try.func94, Try.ntmps94
  go_wp2_with (refine wpList_make_full _ rfl (.tmp 7) (.tmp 7) 34 rfl w.heap.size 9 iu (.string { data := #[] }) 1 Try.underlying34 hiu hz0 hz1 .i64 .i64 _ _ n rfl rfl rfl rfl hzb hnm (Nat.le_refl _) ?_; intro w1 own hgr; have HRI := Lib.hid (rowT_zeros own); have HB1 : Hid (Below w.heap.size w w1) := Lib.hid ((Below.refl _ w).grown hgr (Nat.le_refl _) (by intro k hk; cases hk)); clear own hgr)
  have HST : Hid (RTt Sw St step n w s0 (.int .i64 0) w1) := Lib.hid ⟨0, [], s0, Nat.zero_le _, rfl, rfl, (fun x hx => by cases hx), by simpa using HRI.out, hkeep.out _ _ _ h0.out (Kept.of_below HB1.out), Kept.of_below HB1.out, (Array.getElem?_eq_some_iff.1 HRI.out).1⟩
  obtain ⟨L, hL⟩ : ∃ L, L = w.heap.size := ⟨_, rfl⟩
  have HL := Lib.hid hL
  rw [← hL]
  clear hL HRI HB1
  go_loopw [11] (fun v wr => RTt Sw St step n w s0 v wr) (fun v _ => n - (intOf v).toNat)
  case atStart => exact HST.out
  case round =>
    obtain ⟨k, xs, s, hk, rfl, hrun, hwf, hrow, hst, hkp, hsz⟩ := hrel
    have HRUN := Lib.hid hrun; have HWF := Lib.hid hwf; have HST2 := Lib.hid hst; have HK := Lib.hid hkp; have HSZ := Lib.hid hsz
    have HROW : Hid (RowT wr L (xs ++ List.replicate (n - k) [])) := Lib.hid (HL.out ▸ hrow)
    have HXL := Lib.hid (runS_len hrun)
    clear hrun hwf hst hkp hrow HST hsz
    by_cases hlt : k < n
    · have HC := Lib.hid (hstep.out k xs s wr hlt HRUN.out HST2.out (Nat.le_of_lt HSZ.out))
      have HNS : Hid (¬ Sw L) := Lib.hid fun h => by have := hSw.out L h; have := HL.out; omega
      rcases hs : step s with _ | ⟨x, s'⟩
      · have HN := Lib.hid (runS_none HRUN.out hs n hlt)
        rw [hs] at HC
        have HC2 : Hid (Calls Try.prog F (first ++ cap) wr fun e w' => e = .panicked [gu g] ∧ Gone w' g ∧ Kept Sw wr w') := HC
        clear hs HC
        go_wp2_with ((with_reducible refine (HC2.out).mono ?_); rintro e w2 ⟨rfl, h1, h2⟩)
        rw [HN.out]
        exact ⟨rfl, rfl, h1, HK.out.trans h2⟩
      · have HN := Lib.hid (runS_some HRUN.out hs)
        rw [hs] at HC
        have HC2 : Hid (Calls Try.prog F (first ++ cap) wr fun e w' => e = .returned (.string (strB x)) ∧ WfT x ∧ St s' w' ∧ Kept Sw wr w') := HC
        have HSET := Lib.hid (fill_setT xs n k HXL.out hlt x)
        clear hs HC
        go_wp2_with ((with_reducible refine (HC2.out).mono ?_); rintro e w2 ⟨rfl, h1, h2, h3⟩; have HR2 : Hid (RowT w2 L _) := Lib.hid (HROW.out.keep h3 HNS.out); have HWX := Lib.hid h1; have HS2 := Lib.hid h2; have HK2 := Lib.hid h3; have f2 := HR2.out.fr k; obtain ⟨u2, c2⟩ := HR2.out.at k (by rw [List.length_append, List.length_replicate, HXL.out]; omega); clear h1 h2 h3)
        go_roundw
        case rel =>
          have hk2 : Kept (fun j => w.heap.size ≤ j) w2 (w2.setCell ⟨L, k, none⟩ (.string (strB x))) := (Kept.refl _ _).setCell _ _ (.inl (by rw [HL.out]; exact Nat.le_refl _))
          refine ⟨k + 1, xs ++ [x], s', by omega, by go_num, HN.out, fun y hy => ?_, ?_, hkeep.out _ _ _ HS2.out hk2, (HK.out.trans HK2.out).trans' hk2 (fun i hi => .inr hi), ?_⟩
          · rcases List.mem_append.1 hy with h | h
            · exact HWF.out y h
            · rw [List.mem_singleton.1 h]; exact HWX.out
          · rw [← HSET.out, ← HL.out]; exact HR2.out.set k x
          · rw [setCell_size]; exact Nat.lt_of_lt_of_le HSZ.out HK2.out.size
        case measure => simp [intOf]; omega
    · obtain rfl : k = n := by omega
      go_wp2
      go_ret
      rw [HRUN.out]
      have hr := HROW.out
      rw [Nat.sub_self, List.replicate_zero, List.append_nil] at hr
      have ho := hr.own (B := w.heap.size) (by rw [HL.out]; exact Nat.le_refl _) HWF.out (by rw [HXL.out]; exact hnm)
      rw [HXL.out] at ho
      exact ⟨⟨_, _, _, rfl, ho⟩, HST2.out, HK.out⟩
end Go.Proofs.Ytlhaedcoompjpaa

set_option linter.unusedSimpArgs false
set_option linter.unusedVariables false
set_option maxRecDepth 8000
namespace Go.Proofs.Ytlhaedcoompjpaa
open Go.RowKit Go.WideShapes Col
namespace Col
/-- Does one text stand ahead of another? -/
def tls (s t : List Nat) : Bool := Op.bytesLess (strB s).toList (strB t).toList
/-- Texts that rise, the first k of them. -/
def rising : List (List Nat) → Bool
  | [] => true
  | [_] => true
  | s :: t :: r => tls s t && rising (t :: r)
theorem rising_get {l : List (List Nat)} (h : rising l = true) : ∀ (i : Nat) (s t : List Nat), l[i]? = some s → l[i + 1]? = some t → tls s t = true := by
  induction l with
  | nil => intro i s t h1; simp at h1
  | cons a r ih =>
    intro i s t h1 h2
    rcases r with _ | ⟨b, r⟩
    · simp at h2
    · rw [rising, Bool.and_eq_true] at h
      rcases i with _ | i
      · simp at h1 h2; subst h1; subst h2; exact h.1
      · exact ih h.2 i s t (by simpa using h1) (by simpa using h2)
theorem rising_of {l : List (List Nat)} (h : ∀ (i : Nat) (s t : List Nat), l[i]? = some s → l[i + 1]? = some t → tls s t = true) : rising l = true := by
  induction l with
  | nil => rfl
  | cons a r ih =>
    rcases r with _ | ⟨b, r⟩
    · rfl
    · rw [rising, Bool.and_eq_true]
      exact ⟨h 0 a b rfl rfl, ih fun i s t h1 h2 => h (i + 1) s t (by simpa using h1) (by simpa using h2)⟩
/-- The texts that there are. -/
def rU (q : List Nat) : Option (List (List Nat) × List Nat) := (uP 4096 q).bind fun p => (runS (tP 32) p.1 p.2).bind fun r => if rising r.1 = true then some r else none
theorem rU_no1 {q : List Nat} (h : uP 4096 q = none) : rU q = none := by unfold rU; rw [h]; rfl
theorem rU_no2 {q r : List Nat} {n : Nat} (h : uP 4096 q = some (n, r)) (h2 : runS (tP 32) n r = none) : rU q = none := by unfold rU; rw [h]; simp [h2]
theorem rU_no3 {q r r2 : List Nat} {n : Nat} {ts : List (List Nat)} (h : uP 4096 q = some (n, r)) (h2 : runS (tP 32) n r = some (ts, r2)) (h3 : rising ts = false) : rU q = none := by unfold rU; rw [h]; simp [h2, h3]
theorem rU_yes {q r r2 : List Nat} {n : Nat} {ts : List (List Nat)} (h : uP 4096 q = some (n, r)) (h2 : runS (tP 32) n r = some (ts, r2)) (h3 : rising ts = true) : rU q = some (ts, r2) := by unfold rU; rw [h]; simp [h2, h3]
theorem tP_left {most : Nat} {q s r : List Nat} (h : tP most q = some (s, r)) : r.length ≤ q.length ∧ (∀ x ∈ s, x ∈ q) ∧ s.length ≤ most := by
  obtain ⟨n, q', h1, h2, rfl, rfl⟩ := tP_some h
  obtain ⟨-, -, m, -, hm, -⟩ := grp_lt _ _ _ _ (uP_some h1).1
  subst hm
  refine ⟨by rw [List.length_drop, List.length_drop]; omega, fun x hx => List.mem_of_mem_drop (List.mem_of_mem_take hx), by have := (uP_some h1).2; rw [List.length_take]; omega⟩
end Col
theorem lss_t (s t : List Nat) (b : Bool) (h : tls s t = b) (w : World) : (binOp .lss 9 (.string (strB s)) (.string (strB t))).run Try.prog w = .ok (.bool b) w := by
  subst h; rw [binOp_string_lss]; rfl
theorem ix_str (g off m c k : Nat) (h : k < m) (w : World) : (Instr.indexAt 34 (.slice (some ⟨g, off, none⟩) m c) (.int .i64 (k : Int))).run Try.prog w = .ok (.pointer (some ⟨g, off + k, none⟩)) w := by
  have h1 : (k : Int) < (m : Int) := by omega
  first | (go_simp; done) | (go_simp; intro h; exfalso; omega)
theorem yb_ixt {ops : Array Oper} {S : World → Prop} {op : Oper} {a : Act} (hw : Region.wanted op (yielded ops a.tmps) = true) (x y : Operand) (ho : op.op = .indexAddr 34 x y) (g off m c k : Nat) (hx : a.eval x = .slice (some ⟨g, off, none⟩) m c) (hy : a.eval y = .int .i64 (k : Int)) (h : k < m) : YieldsIf Try.prog ops S op (.pointer (some ⟨g, off + k, none⟩)) a :=
  .inl ⟨hw, fun w _ => by
    unfold execOp
    simp only [ho, hx, hy, Sem.run_bind, Sem.run_pure, Result.andThen_ok, ix_str g off m c k h w]⟩
theorem lv_t (w : World) (g j : Nat) (v : Value) (h : w.cell? ⟨g, j, none⟩ = some v) : (loadVar 9 ⟨g, j, none⟩).run Try.prog w = .ok v w := by
  go_simp
theorem yb_ldt {ops : Array Oper} {S : World → Prop} {op : Oper} {a : Act} (hw : Region.wanted op (yielded ops a.tmps) = true) (x : Operand) (ho : op.op = .load 9 x) (g j : Nat) (hx : a.eval x = .pointer (some ⟨g, j, none⟩)) (v : Value)
    (hS : ∀ w, S w → w.cell? ⟨g, j, none⟩ = some v) : YieldsIf Try.prog ops S op v a :=
  .inl ⟨hw, fun w hw' => by
    unfold execOp
    simp only [ho, hx, Instr.loadAt, Instr.sureAddr, Sem.run_bind, Sem.run_pure, Result.andThen_ok, lv_t w g j v (hS w hw')]⟩
/-- What readUnlike's function stands on. -/
structure US (g bx : Nat) (q : List Nat) (w : World) : Prop where
  rd : RdM g q w
  box : w.heap[bx]? = some (.cells #[.pointer (some ⟨g, 0, none⟩)] 56 (0, 0))
  n2 : g < bx
theorem US.keep {g bx : Nat} {q : List Nat} {w w' : World} {S : Nat → Prop} (h : US g bx q w) (hk : Kept S w w') (hS : ∀ k, S k → w.heap.size ≤ k ∨ (g < k ∧ k ≠ bx)) : US g bx q w' := by
  have hg := h.rd.1.glt
  have hb := (Array.getElem?_eq_some_iff.1 h.box).1
  exact ⟨⟨h.rd.1.high hk fun k hs => by have := hS k hs; omega, h.rd.2⟩, hk.heap h.box fun e => by have := hS _ e; omega, h.n2⟩
theorem US.cb {g bx : Nat} {q : List Nat} {w : World} (h : US g bx q w) : w.cell? ⟨bx, 0, none⟩ = some (.pointer (some ⟨g, 0, none⟩)) := by rw [cell_of_row _ _ _ _ _ _ h.box]; rfl
theorem US.blt {g bx : Nat} {q : List Nat} {w : World} (h : US g bx q w) : bx < w.heap.size := (Array.getElem?_eq_some_iff.1 h.box).1
set_option maxHeartbeats 1000000 in
theorem unlike_step (g bx : Nat) (q : List Nat) (w : World) (H : Hid (US g bx q w)) :
    Calls Try.prog 95 #[.pointer (some ⟨bx, 0, none⟩)] w (StepEndsT g (Only g) (US g bx) (tP 32 q) w) := by
  have cb := H.out.cb
  rcases hz : tP 32 q with _ | ⟨s, r⟩
  · have HT : Hid (Calls Try.prog 34 #[.pointer (some ⟨g, 0, none⟩), .int .i64 32] w (No g w)) := Lib.hid (text_no g 32 (by decide) q (Lib.hid hz) q.length (Lib.hid rfl) H.out.rd.2 w (Lib.hid H.out.rd.1))
    go_enter Try.func95, Try.ntmps95
    go_wp2_with (go_at_call 34; (with_reducible refine (HT.out).mono ?_); rintro e w2 ⟨rfl, h1, h2⟩)
    exact ⟨rfl, rfl, h1, h2⟩
  · have HT : Hid (Calls Try.prog 34 #[.pointer (some ⟨g, 0, none⟩), .int .i64 32] w (Yes g w (.string (strB s)) r)) := Lib.hid (text_yes g 32 (by decide) q s r (Lib.hid hz) (by have := H.out.rd.2; omega) w (Lib.hid H.out.rd.1))
    have HW : Hid (WfT s) := Lib.hid fun c hc => H.out.rd.1.lt c ((tP_left hz).2.1 c hc)
    have HL := Lib.hid (Nat.le_trans (tP_left hz).1 H.out.rd.2)
    have HNB : Hid (¬ Only g bx) := Lib.hid (fun e => by have e : bx = g := e; have := H.out.n2; omega)
    clear hz
    go_enter Try.func95, Try.ntmps95
    go_wp2_with (go_at_call 34; (with_reducible refine (HT.out).mono ?_); rintro e w2 hy; obtain ⟨rfl, HR2, HK2⟩ := Yes.rd hy; clear hy)
    go_ret
    exact ⟨rfl, HW.out, ⟨⟨HR2.out, HL.out⟩, HK2.out.heap H.out.box HNB.out, H.out.n2⟩, HK2.out⟩
def RUl (g bx n : Nat) (A : Option Addr) (cap : Nat) (l : List (List Nat)) (r : List Nat) (w : World) (v : Value) (wr : World) : Prop :=
  ∃ i : Nat, 1 ≤ i ∧ (i ≤ n ∨ i = 1) ∧ v = .int .i64 (i : Int) ∧ (∀ (j : Nat) (s t : List Nat), j + 1 < i → l[j]? = some s → l[j + 1]? = some t → tls s t = true) ∧ US g bx r wr ∧ OwnX wr w.heap.size A n cap l ∧ Kept (Only g) w wr
theorem OwnX.more {w : World} {B n cap : Nat} {A : Option Addr} {l : List (List Nat)} {B' : Nat} (h : OwnX w B A n cap l) (hB : B' ≤ B) : OwnX w B' A n cap l := by
  refine ⟨⟨h.1.1, ?_⟩, h.2⟩
  rcases h.1.2 with h1 | ⟨g, cap', cur, h1, hb, h2⟩
  · exact .inl h1
  · exact .inr ⟨g, cap', cur, h1, Nat.le_trans hB hb, h2⟩
theorem check_any (g C : Nat) (A : Option Addr) (q : List Nat) (b : Bool) (w : World) (H : Hid (RdA w g A C q)) :
    Calls Try.prog 38 #[.pointer (some ⟨g, 0, none⟩), .bool b] w fun e w' => if b = true then e = .returned (.tuple #[]) ∧ w = w' else e = .panicked [gu g] ∧ Gone w' g ∧ Kept (Only g) w w' := by
  cases b
  · exact check_false g C A q w H
  · exact check_true _ w
/-- How readUnlike ends. -/
def UnlEnds (g : Nat) (o : Option (List (List Nat) × List Nat)) (w : World) (e : Ending) (w' : World) : Prop := match o with
  | some p => (∃ A n cap, e = .returned (.slice A n cap) ∧ OwnX w' w.heap.size A n cap p.1) ∧ RdM g p.2 w' ∧ Kept (Only g) w w'
  | none => e = .panicked [gu g] ∧ Gone w' g ∧ Kept (Only g) w w'
set_option maxHeartbeats 4000000 in
theorem readUnlike_any (g : Nat) (q : List Nat) (w : World) (H : Hid (RdM g q w)) :
    Calls Try.prog 80 #[.pointer (some ⟨g, 0, none⟩)] w (UnlEnds g (rU q) w) := by
  obtain ⟨bx, w1, hbx, hw1, hrow1, hb1, hbx1⟩ := alloc_pt w (.pointer (some ⟨g, 0, none⟩)) 56
  have HU1 : Hid (US g bx q w1) := Lib.hid ⟨⟨H.out.1.high (S := fun _ => False) (Kept.of_below hb1) fun k hk => hk.elim, H.out.2⟩, hrow1, by rw [hbx]; exact H.out.1.glt⟩
  have HK1 : Hid (Kept (Only g) w w1) := Lib.hid (Kept.of_below hb1)
  have HBX := Lib.hid hbx
  have hc1 := HU1.out.cb
  rcases hu : uP 4096 q with _ | ⟨n, r⟩
  · have HN := Lib.hid (rU_no1 hu)
    have HU : Hid (Calls Try.prog 30 #[.pointer (some ⟨g, 0, none⟩), .int .u64 4096] w1 (No g w1)) := Lib.hid (uint_no g 4096 q (Lib.hid hu) q.length (Lib.hid rfl) H.out.2 w1 (Lib.hid HU1.out.rd.1))
    rw [HN.out]
    clear hu
    go_enter Try.func80, Try.ntmps80
    go_upto_region 1 with fail
    rw [← hw1, ← hbx]
    clear hw1 hbx hrow1 hb1 hbx1
    go_wp2_with (go_at_call 30; (with_reducible refine (HU.out).mono ?_); rintro e w2 ⟨rfl, h1, h2⟩)
    exact ⟨rfl, rfl, h1, HK1.out.trans h2⟩
  · have HU : Hid (Calls Try.prog 30 #[.pointer (some ⟨g, 0, none⟩), .int .u64 4096] w1 (Yes g w1 (.int .u64 (n : Int)) r)) := Lib.hid (uint_yes g 4096 n q r (Lib.hid hu) (by have := H.out.2; omega) w1 (Lib.hid HU1.out.rd.1))
    have hn : n ≤ 4096 := (uP_some hu).2
    have hni : IntKind.i64.wrap (n : Int) = (n : Int) := by rw [IntKind.wrap_i64]; omega
    have HUP := Lib.hid hu
    have HRL : Hid (r.length ≤ 1099511627776) := Lib.hid (by
      obtain ⟨-, -, m, -, hm, -⟩ := grp_lt _ _ _ _ (uP_some hu).1
      have := H.out.2; rw [hm, List.length_drop]; omega)
    clear hu
    go_enter Try.func80, Try.ntmps80
    go_upto_region 1 with fail
    rw [← hw1, ← hbx]
    clear hw1 hbx hrow1 hb1 hbx1
    go_upto_region 2 with (go_at_call 30; (with_reducible refine (HU.out).mono ?_); rintro e w2 hy; obtain ⟨rfl, HR2, HK2⟩ := Yes.rd hy; clear hy)
    have HNB : Hid (¬ Only g bx) := Lib.hid (fun e => by have e : bx = g := e; have := HU1.out.n2; omega)
    have HU2 : Hid (US g bx r w2) := Lib.hid ⟨⟨HR2.out, HRL.out⟩, HK2.out.heap HU1.out.box HNB.out, HU1.out.n2⟩
    have ht := timesT_any (tP 32) 95 #[] #[.pointer (some ⟨bx, 0, none⟩)] (fun _ _ => by first | rfl | kernel_rfl) n hn g (Only g) (US g bx) w2
      (Lib.hid fun k hk => by have hk : k = g := hk; subst hk; exact HU2.out.rd.1.glt)
      (Lib.hid fun s w1 w3 h hk => by
        refine h.keep hk fun k hk => ?_
        have := HU2.out.blt; have := HU2.out.n2
        omega)
      r (Lib.hid fun k xs s w1 _ _ h _ => unlike_step g bx s w1 (Lib.hid h)) HU2
    have HT := Lib.hid ht
    have HKA := Lib.hid (HK1.out.trans HK2.out)
    clear ht hc1
    rcases hr : runS (tP 32) n r with _ | ⟨l, r2⟩
    · have HN := Lib.hid (rU_no2 HUP.out hr)
      rw [hr] at HT
      rw [HN.out]
      clear hr
      go_wp2_with (go_at_call 94; (with_reducible refine (HT.out).mono ?_); rintro e w3 ⟨rfl, h1, h2⟩)
      exact ⟨rfl, rfl, h1, HKA.out.trans h2⟩
    · have HRUN := Lib.hid hr
      have HLN := Lib.hid (runS_len hr)
      rw [hr] at HT
      clear hr
      go_upto_region 3 with (go_at_call 94; (with_reducible refine (HT.out).mono ?_); rintro e w3 ⟨⟨A, m, cap, rfl, ho⟩, h1, h2⟩; obtain rfl : m = n := (by have h9 : m = l.length := ho.len; have := HLN.out; omega); have HOW := Lib.hid (ho.more (B' := w.heap.size) HKA.out.size); have HUS := Lib.hid h1; have HK3 := Lib.hid (HKA.out.trans h2); clear ho h1 h2)
      have HST : Hid (RUl g bx m A cap l r2 w (.int .i64 1) w3) := Lib.hid ⟨1, Nat.le_refl _, .inr rfl, rfl, fun j s t h => by omega, HUS.out, HOW.out, HK3.out⟩
      obtain ⟨n, hnm⟩ : ∃ n, n = m := ⟨_, rfl⟩
      subst hnm
      clear HOW HUS HK3
      go_wp2
      go_loopw [5] (fun v wr => RUl g bx n A cap l r2 w v wr) (fun v _ => n - (intOf v).toNat)
      case atStart => exact HST.out
      case round =>
        obtain ⟨i, hi1, hi2, rfl, hris, hus, how, hk⟩ := hrel
        have HU3 := Lib.hid hus; have HOW := Lib.hid how; have HK4 := Lib.hid hk; have HRIS := Lib.hid hris
        clear hus how hk hris HST
        by_cases hin : i < n
        · obtain ⟨j, hj⟩ : ∃ j, i = j + 1 := ⟨i - 1, by omega⟩
          have hll : l.length = n := HLN.out
          obtain ⟨s, hs⟩ : ∃ s, l[j]? = some s := ⟨_, List.getElem?_eq_getElem (by omega)⟩
          obtain ⟨t, ht⟩ : ∃ t, l[i]? = some t := ⟨_, List.getElem?_eq_getElem (by omega)⟩
          obtain ⟨g2, off, rfl, hg2, hcell⟩ := HOW.out.isAt.spot (by omega)
          have HCS := Lib.hid (hcell j s hs); have HCT := Lib.hid (hcell i t ht); have HG2 := Lib.hid hg2
          have HS := Lib.hid hs; have HTT := Lib.hid ht; have HJ := Lib.hid hj
          have HJN : Hid (j < n) := Lib.hid (by omega)
          have HSUB : Hid (∀ w9 : World, (binOp .sub 3 (.int .i64 (i : Int)) (.int .i64 1)).run Try.prog w9 = .ok (.int .i64 (j : Int)) w9) := Lib.hid fun w9 => by
            have := b_subN i 1 (by omega) (by omega) w9
            rw [show i - 1 = j by omega] at this; exact this
          clear hs ht hcell hg2 hj hll
          rcases hls : tls s t with _ | _
          · have HLS := Lib.hid hls
            have HN : Hid (rU q = none) := Lib.hid (rU_no3 HUP.out HRUN.out (by
              rcases hr : rising l with _ | _
              · rfl
              · have := rising_get hr j s t HS.out (HJ.out ▸ HTT.out)
                rw [HLS.out] at this; cases this))
            rw [HN.out]
            clear hls
            go_upto_region 6 with fail
            have hh0 : Below wr.heap.size wr wr.drew := (Below.refl _ _).drew
            refine wp_region_held_drew (S := fun w2 => Below wr.heap.size wr w2) (by kernel_rfl) hh0 (fun hHeld => ?_)
            refine wpAnyH_take (i := 0) (v := .pointer (some ⟨g, 0, none⟩)) rfl (by kernel_rfl) (by kernel_rfl) (by kernel_rfl) (fun _ _ _ h => h) (Or.inl ⟨by rfl, fun w hw => by have hc : w.cell? ⟨bx, 0, none⟩ = some (.pointer (some ⟨g, 0, none⟩)) := (hw.cell (p := ⟨bx, 0, none⟩) HU3.out.blt).trans HU3.out.cb; go_simp⟩) hHeld ?_
            try dsimp only
            try simp only [Act.put, List.getElem_toArray, List.getElem_cons_zero, List.getElem_cons_succ, List.setIfInBounds_toArray, List.set_cons_zero, List.set_cons_succ]
            refine wpAnyH_take (i := 1) (v := .slice (some ⟨g2, off, none⟩) n cap) rfl (by kernel_rfl) (by kernel_rfl) (by kernel_rfl) (fun _ _ _ h => h) (Or.inl ⟨by rfl, fun _ _ => rfl⟩) hHeld ?_
            try dsimp only
            try simp only [Act.put, List.getElem_toArray, List.getElem_cons_zero, List.getElem_cons_succ, List.setIfInBounds_toArray, List.set_cons_zero, List.set_cons_succ]
            refine wpAnyH_take (i := 2) (v := .int .i64 (i : Int)) rfl (by kernel_rfl) (by kernel_rfl) (by kernel_rfl) (fun _ _ _ h => h) (Or.inl ⟨by rfl, fun _ _ => rfl⟩) hHeld ?_
            try dsimp only
            try simp only [Act.put, List.getElem_toArray, List.getElem_cons_zero, List.getElem_cons_succ, List.setIfInBounds_toArray, List.set_cons_zero, List.set_cons_succ]
            refine wpAnyH_take (i := 3) (v := .int .i64 (j : Int)) rfl (by kernel_rfl) (by kernel_rfl) (by kernel_rfl) (fun _ _ _ h => h) (yb_bin rfl .sub 3 3 (.tmp 19) (.const (.int .i64 1)) rfl _ _ _ rfl rfl (fun _ => rfl) HSUB.out) hHeld ?_
            try dsimp only
            try simp only [Act.put, List.getElem_toArray, List.getElem_cons_zero, List.getElem_cons_succ, List.setIfInBounds_toArray, List.set_cons_zero, List.set_cons_succ]
            refine wpAnyH_take (i := 4) (v := .pointer (some ⟨g2, off + j, none⟩)) rfl (by kernel_rfl) (by kernel_rfl) (by kernel_rfl) (fun _ _ _ h => h) (yb_ixt rfl (.tmp 18) (.tmp 20) rfl g2 off n cap j rfl rfl HJN.out) hHeld ?_
            try dsimp only
            try simp only [Act.put, List.getElem_toArray, List.getElem_cons_zero, List.getElem_cons_succ, List.setIfInBounds_toArray, List.set_cons_zero, List.set_cons_succ]
            refine wpAnyH_take (i := 5) (v := .string (strB s)) rfl (by kernel_rfl) (by kernel_rfl) (by kernel_rfl) (fun _ _ _ h => h) (yb_ldt rfl (.tmp 21) rfl g2 (off + j) rfl _ (fun w hw => (hw.cell (p := ⟨g2, off + j, none⟩) HG2.out).trans HCS.out)) hHeld ?_
            try dsimp only
            try simp only [Act.put, List.getElem_toArray, List.getElem_cons_zero, List.getElem_cons_succ, List.setIfInBounds_toArray, List.set_cons_zero, List.set_cons_succ]
            refine wpAnyH_take (i := 6) (v := .slice (some ⟨g2, off, none⟩) n cap) rfl (by kernel_rfl) (by kernel_rfl) (by kernel_rfl) (fun _ _ _ h => h) (Or.inl ⟨by rfl, fun _ _ => rfl⟩) hHeld ?_
            try dsimp only
            try simp only [Act.put, List.getElem_toArray, List.getElem_cons_zero, List.getElem_cons_succ, List.setIfInBounds_toArray, List.set_cons_zero, List.set_cons_succ]
            refine wpAnyH_take (i := 7) (v := .int .i64 (i : Int)) rfl (by kernel_rfl) (by kernel_rfl) (by kernel_rfl) (fun _ _ _ h => h) (Or.inl ⟨by rfl, fun _ _ => rfl⟩) hHeld ?_
            try dsimp only
            try simp only [Act.put, List.getElem_toArray, List.getElem_cons_zero, List.getElem_cons_succ, List.setIfInBounds_toArray, List.set_cons_zero, List.set_cons_succ]
            refine wpAnyH_take (i := 8) (v := .pointer (some ⟨g2, off + i, none⟩)) rfl (by kernel_rfl) (by kernel_rfl) (by kernel_rfl) (fun _ _ _ h => h) (yb_ixt rfl (.tmp 23) (.tmp 24) rfl g2 off n cap i rfl rfl hin) hHeld ?_
            try dsimp only
            try simp only [Act.put, List.getElem_toArray, List.getElem_cons_zero, List.getElem_cons_succ, List.setIfInBounds_toArray, List.set_cons_zero, List.set_cons_succ]
            refine wpAnyH_take (i := 9) (v := .string (strB t)) rfl (by kernel_rfl) (by kernel_rfl) (by kernel_rfl) (fun _ _ _ h => h) (yb_ldt rfl (.tmp 25) rfl g2 (off + i) rfl _ (fun w hw => (hw.cell (p := ⟨g2, off + i, none⟩) HG2.out).trans HCT.out)) hHeld ?_
            try dsimp only
            try simp only [Act.put, List.getElem_toArray, List.getElem_cons_zero, List.getElem_cons_succ, List.setIfInBounds_toArray, List.set_cons_zero, List.set_cons_succ]
            refine wpAnyH_take (i := 10) (v := .bool false) rfl (by kernel_rfl) (by kernel_rfl) (by kernel_rfl) (fun _ _ _ h => h) (yb_bin rfl .lss 9 9 (.tmp 22) (.tmp 26) rfl _ _ _ rfl rfl (fun _ => rfl) (lss_t s t false HLS.out)) hHeld ?_
            try dsimp only
            try simp only [Act.put, List.getElem_toArray, List.getElem_cons_zero, List.getElem_cons_succ, List.setIfInBounds_toArray, List.set_cons_zero, List.set_cons_succ]
            refine wpAnyH_ready (rs := [11]) (by kernel_rfl) (by simp) (AllReadyH.cons rfl (fun K hK => ?_) AllReadyH.nil)
            go_simp
            obtain ⟨A9, C9, hRA⟩ := HU3.out.rd.1
            refine (check_false g C9 A9 r2 _ (Lib.hid (hRA.drewN 1))).mono ?_
            rintro e w5 ⟨rfl, h1, h2⟩
            exact ⟨rfl, rfl, h1, HK4.out.drew.trans h2⟩
          · have HLS := Lib.hid hls
            clear hls
            go_upto_region 6 with fail
            have hh0 : Below wr.heap.size wr wr.drew := (Below.refl _ _).drew
            refine wp_region_held_drew (S := fun w2 => Below wr.heap.size wr w2) (by kernel_rfl) hh0 (fun hHeld => ?_)
            refine wpAnyH_take (i := 0) (v := .pointer (some ⟨g, 0, none⟩)) rfl (by kernel_rfl) (by kernel_rfl) (by kernel_rfl) (fun _ _ _ h => h) (Or.inl ⟨by rfl, fun w hw => by have hc : w.cell? ⟨bx, 0, none⟩ = some (.pointer (some ⟨g, 0, none⟩)) := (hw.cell (p := ⟨bx, 0, none⟩) HU3.out.blt).trans HU3.out.cb; go_simp⟩) hHeld ?_
            try dsimp only
            try simp only [Act.put, List.getElem_toArray, List.getElem_cons_zero, List.getElem_cons_succ, List.setIfInBounds_toArray, List.set_cons_zero, List.set_cons_succ]
            refine wpAnyH_take (i := 1) (v := .slice (some ⟨g2, off, none⟩) n cap) rfl (by kernel_rfl) (by kernel_rfl) (by kernel_rfl) (fun _ _ _ h => h) (Or.inl ⟨by rfl, fun _ _ => rfl⟩) hHeld ?_
            try dsimp only
            try simp only [Act.put, List.getElem_toArray, List.getElem_cons_zero, List.getElem_cons_succ, List.setIfInBounds_toArray, List.set_cons_zero, List.set_cons_succ]
            refine wpAnyH_take (i := 2) (v := .int .i64 (i : Int)) rfl (by kernel_rfl) (by kernel_rfl) (by kernel_rfl) (fun _ _ _ h => h) (Or.inl ⟨by rfl, fun _ _ => rfl⟩) hHeld ?_
            try dsimp only
            try simp only [Act.put, List.getElem_toArray, List.getElem_cons_zero, List.getElem_cons_succ, List.setIfInBounds_toArray, List.set_cons_zero, List.set_cons_succ]
            refine wpAnyH_take (i := 3) (v := .int .i64 (j : Int)) rfl (by kernel_rfl) (by kernel_rfl) (by kernel_rfl) (fun _ _ _ h => h) (yb_bin rfl .sub 3 3 (.tmp 19) (.const (.int .i64 1)) rfl _ _ _ rfl rfl (fun _ => rfl) HSUB.out) hHeld ?_
            try dsimp only
            try simp only [Act.put, List.getElem_toArray, List.getElem_cons_zero, List.getElem_cons_succ, List.setIfInBounds_toArray, List.set_cons_zero, List.set_cons_succ]
            refine wpAnyH_take (i := 4) (v := .pointer (some ⟨g2, off + j, none⟩)) rfl (by kernel_rfl) (by kernel_rfl) (by kernel_rfl) (fun _ _ _ h => h) (yb_ixt rfl (.tmp 18) (.tmp 20) rfl g2 off n cap j rfl rfl HJN.out) hHeld ?_
            try dsimp only
            try simp only [Act.put, List.getElem_toArray, List.getElem_cons_zero, List.getElem_cons_succ, List.setIfInBounds_toArray, List.set_cons_zero, List.set_cons_succ]
            refine wpAnyH_take (i := 5) (v := .string (strB s)) rfl (by kernel_rfl) (by kernel_rfl) (by kernel_rfl) (fun _ _ _ h => h) (yb_ldt rfl (.tmp 21) rfl g2 (off + j) rfl _ (fun w hw => (hw.cell (p := ⟨g2, off + j, none⟩) HG2.out).trans HCS.out)) hHeld ?_
            try dsimp only
            try simp only [Act.put, List.getElem_toArray, List.getElem_cons_zero, List.getElem_cons_succ, List.setIfInBounds_toArray, List.set_cons_zero, List.set_cons_succ]
            refine wpAnyH_take (i := 6) (v := .slice (some ⟨g2, off, none⟩) n cap) rfl (by kernel_rfl) (by kernel_rfl) (by kernel_rfl) (fun _ _ _ h => h) (Or.inl ⟨by rfl, fun _ _ => rfl⟩) hHeld ?_
            try dsimp only
            try simp only [Act.put, List.getElem_toArray, List.getElem_cons_zero, List.getElem_cons_succ, List.setIfInBounds_toArray, List.set_cons_zero, List.set_cons_succ]
            refine wpAnyH_take (i := 7) (v := .int .i64 (i : Int)) rfl (by kernel_rfl) (by kernel_rfl) (by kernel_rfl) (fun _ _ _ h => h) (Or.inl ⟨by rfl, fun _ _ => rfl⟩) hHeld ?_
            try dsimp only
            try simp only [Act.put, List.getElem_toArray, List.getElem_cons_zero, List.getElem_cons_succ, List.setIfInBounds_toArray, List.set_cons_zero, List.set_cons_succ]
            refine wpAnyH_take (i := 8) (v := .pointer (some ⟨g2, off + i, none⟩)) rfl (by kernel_rfl) (by kernel_rfl) (by kernel_rfl) (fun _ _ _ h => h) (yb_ixt rfl (.tmp 23) (.tmp 24) rfl g2 off n cap i rfl rfl hin) hHeld ?_
            try dsimp only
            try simp only [Act.put, List.getElem_toArray, List.getElem_cons_zero, List.getElem_cons_succ, List.setIfInBounds_toArray, List.set_cons_zero, List.set_cons_succ]
            refine wpAnyH_take (i := 9) (v := .string (strB t)) rfl (by kernel_rfl) (by kernel_rfl) (by kernel_rfl) (fun _ _ _ h => h) (yb_ldt rfl (.tmp 25) rfl g2 (off + i) rfl _ (fun w hw => (hw.cell (p := ⟨g2, off + i, none⟩) HG2.out).trans HCT.out)) hHeld ?_
            try dsimp only
            try simp only [Act.put, List.getElem_toArray, List.getElem_cons_zero, List.getElem_cons_succ, List.setIfInBounds_toArray, List.set_cons_zero, List.set_cons_succ]
            refine wpAnyH_take (i := 10) (v := .bool true) rfl (by kernel_rfl) (by kernel_rfl) (by kernel_rfl) (fun _ _ _ h => h) (yb_bin rfl .lss 9 9 (.tmp 22) (.tmp 26) rfl _ _ _ rfl rfl (fun _ => rfl) (lss_t s t true HLS.out)) hHeld ?_
            try dsimp only
            try simp only [Act.put, List.getElem_toArray, List.getElem_cons_zero, List.getElem_cons_succ, List.setIfInBounds_toArray, List.set_cons_zero, List.set_cons_succ]
            refine wpAnyH_ready (rs := [11]) (by kernel_rfl) (by simp) (AllReadyH.cons rfl (fun K hK => ?_) AllReadyH.nil)
            go_simp
            refine (check_true _ _).mono ?_
            rintro e w5 ⟨rfl, rfl⟩
            refine hK.out _ _ hHeld (fun hHeld => ?_)
            clear hK K
            refine wpAnyH_done (by kernel_rfl) ?_ _
            clear hHeld hh0
            have HU4 : Hid (US g bx r2 wr.drew) := Lib.hid (HU3.out.keep (S := fun _ => False) ((Kept.refl _ _).drew) fun k hk => hk.elim)
            have HOW4 := Lib.hid (HOW.out.keep ((Below.refl wr.heap.size wr).drew))
            go_wp2
            go_roundw
            case rel => exact ⟨i + 1, by omega, .inl (by omega), by go_num, fun j2 s2 t2 h1 h2 h3 => by
              by_cases e : j2 + 1 = i
              · have e2 : j2 = j := by have := HJ.out; omega
                subst e2
                rw [HS.out] at h2; injection h2 with h2; subst h2
                rw [e, HTT.out] at h3; injection h3 with h3; subst h3
                exact HLS.out
              · exact HRIS.out j2 s2 t2 (by omega) h2 h3, HU4.out, HOW4.out, HK4.out.drew⟩
            case measure => simp [intOf]; omega
        · have HN : Hid (rU q = some (l, r2)) := Lib.hid (rU_yes HUP.out HRUN.out (rising_of fun j s t h1 h2 => HRIS.out j s t (by
            have h3 := (List.getElem?_eq_some_iff.1 h2).1
            have := HLN.out; omega) h1 h2))
          go_wp2
          go_ret
          rw [HN.out]
          exact ⟨⟨A, n, cap, rfl, HOW.out⟩, HU3.out.rd, HK4.out⟩
end Go.Proofs.Ytlhaedcoompjpaa
