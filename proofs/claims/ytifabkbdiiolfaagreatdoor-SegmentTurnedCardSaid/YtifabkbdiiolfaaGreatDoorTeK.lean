/-
  Layer column: texts that a call owns; appends of them; rows of texts; times of texts.
-/
import Derived.Test.YtifabkbdiiolfaaGreatDoorDbK
import Derived.Test.YtifabkbdiiolfaaGreatDoorScK
import Derived.Test.YtifabkbdiiolfaaGreatDoorCfK
set_option linter.unusedSimpArgs false
set_option linter.unusedVariables false
set_option maxRecDepth 8000
namespace Go.Proofs.YtifabkbdiiolfaaGreatDoor
open Go.RowKit Go.WideShapes Col
def WfT (x : List Nat) : Prop := ∀ c ∈ x, c < 256
/-- A slice value that holds some whole numbers, in a world. -/
def TxAt (w : World) (a : Option Addr) (l : List (List Nat)) : Prop := ∀ (k : Nat) (x : List Nat), l[k]? = some x → WfT x ∧ ∃ g off, a = some ⟨g, off, none⟩ ∧ g < w.heap.size ∧ w.cell? ⟨g, off + k, none⟩ = some (.string (strB x))
theorem TxAt.keep {w w' : World} {a : Option Addr} {l : List (List Nat)} (h : TxAt w a l) (hb : Below w.heap.size w w') : TxAt w' a l := fun k x hx => by
 obtain ⟨h1, g, off, h2, h3, h4⟩ := h k x hx
 exact ⟨h1, g, off, h2, Nat.lt_of_lt_of_le h3 hb.size, (hb.cell (p := ⟨g, off + k, none⟩) h3).trans h4⟩
theorem TxAt.wf {w : World} {a : Option Addr} {l : List (List Nat)} (h : TxAt w a l) : ∀ x ∈ l, WfT x := fun x hx => by
 obtain ⟨k, hk⟩ := List.getElem?_of_mem hx
 exact (h k x hk).1
theorem TxAt.nil (w : World) (a : Option Addr) : TxAt w a [] := fun k x hx => by simp at hx
theorem TxAt.at' {w w' : World} {a : Option Addr} {l : List (List Nat)} (h : Hid (TxAt w a l)) (hb : Below w.heap.size w w') : Hid (TxAt w' a l) := h.out.keep hb
theorem TxAt.spot {w : World} {a : Option Addr} {l : List (List Nat)} (h : TxAt w a l) (h0 : 0 < l.length) : ∃ g off, a = some ⟨g, off, none⟩ ∧ g < w.heap.size ∧ ∀ (k : Nat) (x : List Nat), l[k]? = some x → w.cell? ⟨g, off + k, none⟩ = some (.string (strB x)) := by
 obtain ⟨-, g, off, rfl, hg, -⟩ := h 0 l[0] (List.getElem?_eq_getElem h0)
 refine ⟨g, off, rfl, hg, fun k x hx => ?_⟩
 obtain ⟨-, g', off', h2, -, hc⟩ := h k x hx
 cases h2
 exact hc
def tv (x : List Nat) : Value := .string (strB x)
def tvs (l : List (List Nat)) : List Value := l.map tv
theorem tvs_length (l : List (List Nat)) : (tvs l).length = l.length := List.length_map ..
theorem tvs_one (l : List (List Nat)) : ∀ u ∈ tvs l, u.oneCell' = true := fun u hu => by
 obtain ⟨x, -, rfl⟩ := List.mem_map.1 hu; rfl
theorem TxAt.of_row {w : World} {g : Nat} {cs : Array Value} {t : TypeId} {fr : Nat × Nat} (l : List (List Nat)) (hl : ∀ x ∈ l, WfT x) (hrow : w.heap[g]? = some (.cells cs t fr)) (hcs : (tvs l).IsPrefix cs.toList) : TxAt w (some ⟨g, 0, none⟩) l := fun k x hx => by
 refine ⟨hl x (List.mem_of_getElem? hx), g, 0, rfl, (Array.getElem?_eq_some_iff.1 hrow).1, ?_⟩
 rw [cell_of_row w g (0 + k) cs t fr hrow, Nat.zero_add, ← Array.getElem?_toList]
 obtain ⟨r, hr⟩ := hcs
 have hk : k < (tvs l).length := by rw [tvs_length]; exact (List.getElem?_eq_some_iff.1 hx).1
 rw [← hr, List.getElem?_append_left hk]
 unfold tvs; rw [List.getElem?_map, hx]; rfl
theorem infoStr : (Tryz.prog.info? 9).map (fun i => (i.zero, i.size, i.bytes)) = some (some (.string { data := #[] }), 1, 16) := by kernel_rfl
/-- A slice of whole numbers that the call owns: its block lies from B on. -/
def OwnX (w : World) (B : Nat) (A : Option Addr) (n cap : Nat) (l : List (List Nat)) : Prop := w.ownsRow B 9 1 (.slice A n cap) n (tvs l) ∧ ∀ x ∈ l, WfT x
theorem OwnX.len {w : World} {B n cap : Nat} {A : Option Addr} {l : List (List Nat)} (h : OwnX w B A n cap l) : n = l.length := by have := h.1.1; rw [tvs_length] at this; omega
theorem OwnX.caps {w : World} {B n cap : Nat} {A : Option Addr} {l : List (List Nat)} (h : OwnX w B A n cap l) : n ≤ cap ∧ cap ≤ maxLen := by
 rcases h.1.2 with ⟨h1, h2⟩ | ⟨g, cap', cur, h1, -, -, h2, h3, -⟩
 ·cases h1; exact ⟨Nat.le_refl _, Nat.zero_le _⟩
 ·cases h1; exact ⟨h2, h3⟩
theorem OwnX.isAt {w : World} {B n cap : Nat} {A : Option Addr} {l : List (List Nat)} (h : OwnX w B A n cap l) : TxAt w A l := by
 rcases h.1.2 with ⟨h1, h2⟩ | ⟨g, cap', cur, h1, hb, hrow, -, -, hs, ht⟩
 ·have := h.len
  have hl : l = [] := List.eq_nil_of_length_eq_zero (by omega)
  subst hl; exact TxAt.nil _ _
 ·cases h1
  exact TxAt.of_row l h.2 hrow ⟨cur.toList.drop (n * 1), by rw [← ht, List.take_append_drop]⟩
theorem OwnX.nil (w : World) (B : Nat) : OwnX w B none 0 0 [] := ⟨w.ownsRow_nil B _ 1, fun x hx => by cases hx⟩
theorem OwnX.keep {w w' : World} {B n cap : Nat} {A : Option Addr} {l : List (List Nat)} (h : OwnX w B A n cap l) (hb : Below w.heap.size w w') : OwnX w' B A n cap l :=
 ⟨h.1.kept (row := none) ⟨hb.os, hb.tape, hb.output, hb.size, fun k hk _ => hb.block k hk⟩ (by rcases A with _ | a <;> simp [Value.ownBlock]), h.2⟩
theorem OwnX.base {w : World} {B n cap : Nat} {A : Option Addr} {l : List (List Nat)} (h : OwnX w B A n cap l) : ∀ k, A.map (·.block) = some k → B ≤ k := fun k hk => by
 rcases h.1.2 with ⟨h1, h2⟩ | ⟨g, cap', cur, h1, hb, _⟩
 ·cases h1; cases hk
 ·cases h1; simp at hk; omega
theorem tx_at {w : World} {a : Addr} {l : List (List Nat)} (h : TxAt w (some a) l) (j : Nat) (u : Value) (hu : (tvs l)[j]? = some u) : w.cell? (a.add j) = some u := by
 unfold tvs at hu
 rw [List.getElem?_map] at hu
 rcases hx : l[j]? with _ | x
 ·rw [hx] at hu; cases hu
 ·rw [hx] at hu
  obtain ⟨-, g, off, e, -, hc⟩ := h j x hx
  cases e
  rw [addr_add, hc]; exact hu
/-- A row of whole numbers that is all of a slice. -/
def RowT (w : World) (g : Nat) (l : List (List Nat)) : Prop := w.heap[g]? = some (.cells (tvs l).toArray 9 (0, 0))
section
variable {w : World} {g : Nat} {l : List (List Nat)}
theorem RowT.fr (h : RowT w g l) (i : Nat) : w.frozen? ⟨g, i, none⟩ = false := row_frozen h i
theorem RowT.at (h : RowT w g l) (i : Nat) (hi : i < l.length) : ∃ u, w.cell? ⟨g, i, none⟩ = some u := by
 rw [cell_of_row _ _ _ _ _ _ h, List.getElem?_toArray]
 exact ⟨_, List.getElem?_eq_getElem (by rw [tvs_length]; exact hi)⟩
theorem RowT.set (h : RowT w g l) (i : Nat) (x : List Nat) : RowT (w.setCell ⟨g, i, none⟩ (.string (strB x))) g (l.set i x) := by
 unfold RowT at *
 rw [World.setCell]
 simp only [Array.getElem?_modify, if_pos, h, Option.map_some]
 have e : (tvs l).toArray.setIfInBounds i (.string (strB x)) = (tvs (l.set i x)).toArray := by
  unfold tvs; rw [List.map_set]; simp; rfl
 simp [e]
theorem RowT.keep {S : Nat → Prop} {w' : World} (h : RowT w g l) (hk : Kept S w w') (hg : ¬ S g) : RowT w' g l := hk.heap h hg
theorem RowT.own {B : Nat} (h : RowT w g l) (hB : B ≤ g) (hl : ∀ x ∈ l, WfT x) (hm : l.length ≤ maxLen) : OwnX w B (some ⟨g, 0, none⟩) l.length l.length l := by
 refine ⟨⟨by rw [tvs_length]; omega, .inr ⟨g, l.length, _, rfl, hB, h, Nat.le_refl _, hm, by simp [tvs_length], by rw [Nat.mul_one]; simp [tvs_length, List.take_of_length_le]⟩⟩, hl⟩
end
theorem rowT_zeros {w : World} {B g q : Nat} (h : w.ownsRow B 9 1 (.slice (some ⟨g, 0, none⟩) q q) q (madeCells (Value.string { data := #[] }).cells (q * 1)).toList) : RowT w g (List.replicate q []) := by
 have e : tvs (List.replicate q []) = List.replicate q (.string { data := #[] }) := by unfold tvs; rw [List.map_replicate]; rfl
 rw [Nat.mul_one, show (Value.string { data := #[] }).cells = #[.string { data := #[] }] from rfl, toList_madeCells_one, ← e] at h
 rcases h.2 with ⟨h1, h2⟩ | ⟨g', cap', cur, h1, hb, hrow, -, -, hs, ht⟩
 ·cases h1
 ·cases h1
  unfold RowT
  rw [hrow]
  have hc : cur = (tvs (List.replicate q [])).toArray := by
   apply Array.ext'
   rw [← ht, Nat.mul_one, List.take_of_length_le (by rw [Array.length_toList, hs]; omega)]
  rw [hc]
theorem fill_setT (xs : List (List Nat)) (n k : Nat) (hx : xs.length = k) (hk : k < n) (x : List Nat) : (xs ++ List.replicate (n - k) []).set k x = (xs ++ [x]) ++ List.replicate (n - (k + 1)) [] := by
 obtain ⟨m, rfl⟩ : ∃ m, n = k + 1 + m := ⟨n - k - 1, by omega⟩
 rw [show k + 1 + m - k = m + 1 by omega, show k + 1 + m - (k + 1) = m by omega, List.replicate_succ, List.set_append_right _ _ (by omega), hx, Nat.sub_self, List.set_cons_zero, List.append_assoc]; rfl
/-- How one call ends. -/
def StepEndsT {σ : Type} (g : Nat) (Sw : Nat → Prop) (St : σ → World → Prop) (o : Option (List Nat × σ)) (w : World) (e : Ending) (w' : World) : Prop :=
 match o with
 | some p => e = .returned (.string (strB p.1)) ∧ WfT p.1 ∧ St p.2 w' ∧ Kept Sw w w'
 | none => e = .panicked [gu g] ∧ Gone w' g ∧ Kept Sw w w'
/-- How a reading of a list ends. -/
def ListEndsT {σ : Type} (g : Nat) (Sw : Nat → Prop) (St : σ → World → Prop) (o : Option (List (List Nat) × σ)) (w : World) (e : Ending) (w' : World) : Prop :=
 match o with
 | some p => (∃ A n cap, e = .returned (.slice A n cap) ∧ OwnX w' w.heap.size A n cap p.1) ∧ St p.2 w' ∧ Kept Sw w w'
 | none => e = .panicked [gu g] ∧ Gone w' g ∧ Kept Sw w w'
def RTt {σ : Type} (Sw : Nat → Prop) (St : σ → World → Prop) (step : σ → Option (List Nat × σ)) (n : Nat) (w : World) (s0 : σ) (v : Value) (wr : World) : Prop :=
 ∃ (k : Nat) (xs : List (List Nat)) (s : σ), k ≤ n ∧ v = .int .i64 (k : Int) ∧ runS step k s0 = some (xs, s) ∧ (∀ x ∈ xs, WfT x) ∧ RowT wr w.heap.size (xs ++ List.replicate (n - k) []) ∧ St s wr ∧ Kept Sw w wr ∧ w.heap.size < wr.heap.size
theorem infoStr' : (Tryz.prog.info? 9).map (fun i => (i.zero, i.size, i.bytes)) = some (some (.string { data := #[] }), 1, 16) := by kernel_rfl
set_option maxHeartbeats 2000000 in
theorem timesT_any {σ : Type} (step : σ → Option (List Nat × σ)) (F : Nat) (first cap : Array Value) (hent : ∀ (args : Array Value) (w : World), (callFunc F args).run Tryz.prog w = .ok (.enter F args) w)
  (n : Nat) (hn : n ≤ 4096) (g : Nat) (Sw : Nat → Prop) (St : σ → World → Prop) (w : World) (hSw : Hid (∀ k, Sw k → k < w.heap.size)) (hkeep : Hid (∀ s w1 w2, St s w1 → Kept (fun j => w.heap.size ≤ j) w1 w2 → St s w2))
  (s0 : σ) (hstep : Hid (∀ k xs s w1, k < n → runS step k s0 = some (xs, s) → St s w1 → w.heap.size ≤ w1.heap.size → Calls Tryz.prog F (first ++ cap) w1 (StepEndsT g Sw St (step s) w1))) (h0 : Hid (St s0 w)) :
  Calls Tryz.prog 207 #[.int .i64 (n : Int), .func (.func F) first cap] w (ListEndsT g Sw St (runS step n s0) w) := by
 obtain ⟨iu, hiu, hz0, hz1, hz2⟩ := info_parts infoStr'
 have hzb : iu.bytes * n ≤ 281474976710656 := by rw [hz2]; omega
 have hnm : n ≤ maxLen := by unfold maxLen; omega
 go_enter Tryz.func207, Tryz.ntmps207
 go_wp2_with (refine wpList_make_full _ rfl (.tmp 7) (.tmp 7) 60 rfl w.heap.size 9 iu (.string { data := #[] }) 1 Tryz.underlying60 hiu hz0 hz1 .i64 .i64 _ _ n rfl rfl rfl rfl hzb hnm (Nat.le_refl _) ?_; intro w1 own hgr; have HRI := Lib.hid (rowT_zeros own); have HB1 : Hid (Below w.heap.size w w1) := Lib.hid ((Below.refl _ w).grown hgr (Nat.le_refl _) (by intro k hk; cases hk)); clear own hgr)
 have HST : Hid (RTt Sw St step n w s0 (.int .i64 0) w1) := Lib.hid ⟨0, [], s0, Nat.zero_le _, rfl, rfl, (fun x hx => by cases hx), by simpa using HRI.out, hkeep.out _ _ _ h0.out (Kept.of_below HB1.out), Kept.of_below HB1.out, (Array.getElem?_eq_some_iff.1 HRI.out).1⟩
 obtain ⟨L, hL⟩ : ∃ L, L = w.heap.size := ⟨_, rfl⟩
 have HL := Lib.hid hL
 rw [← hL]
 clear hL HRI HB1
 go_loopw [11] (fun v wr => RTt Sw St step n w s0 v wr) (fun v _ => n - (intOf v).toNat)
 case atStart => exact HST.out
 case round =>
  obtain ⟨k, xs, s, hk, rfl, hrun, hwf, hrow, hst, hkp, hsz⟩ := hrel
  have HRUN := Lib.hid hrun; have HWF := Lib.hid hwf; have HST2 := Lib.hid hst; have HK := Lib.hid hkp; have HSZ := Lib.hid hsz
  have HROW : Hid (RowT wr L (xs ++ List.replicate (n - k) [])) := Lib.hid (HL.out ▸ hrow)
  have HXL := Lib.hid (runS_len hrun)
  clear hrun hwf hst hkp hrow HST hsz
  by_cases hlt : k < n
  ·have HC := Lib.hid (hstep.out k xs s wr hlt HRUN.out HST2.out (Nat.le_of_lt HSZ.out))
   have HNS : Hid (¬ Sw L) := Lib.hid fun h => by have := hSw.out L h; have := HL.out; omega
   rcases hs : step s with _ | ⟨x, s'⟩
   ·have HN := Lib.hid (runS_none HRUN.out hs n hlt)
    rw [hs] at HC
    have HC2 : Hid (Calls Tryz.prog F (first ++ cap) wr fun e w' => e = .panicked [gu g] ∧ Gone w' g ∧ Kept Sw wr w') := HC
    clear hs HC
    go_wp2_with ((with_reducible refine (HC2.out).mono ?_); rintro e w2 ⟨rfl, h1, h2⟩)
    rw [HN.out]
    exact ⟨rfl, rfl, h1, HK.out.trans h2⟩
   ·have HN := Lib.hid (runS_some HRUN.out hs)
    rw [hs] at HC
    have HC2 : Hid (Calls Tryz.prog F (first ++ cap) wr fun e w' => e = .returned (.string (strB x)) ∧ WfT x ∧ St s' w' ∧ Kept Sw wr w') := HC
    have HSET := Lib.hid (fill_setT xs n k HXL.out hlt x)
    clear hs HC
    go_wp2_with ((with_reducible refine (HC2.out).mono ?_); rintro e w2 ⟨rfl, h1, h2, h3⟩; have HR2 : Hid (RowT w2 L _) := Lib.hid (HROW.out.keep h3 HNS.out); have HWX := Lib.hid h1; have HS2 := Lib.hid h2; have HK2 := Lib.hid h3; have f2 := HR2.out.fr k; obtain ⟨u2, c2⟩ := HR2.out.at k (by rw [List.length_append, List.length_replicate, HXL.out]; omega); clear h1 h2 h3)
    go_roundw
    case rel =>
     have hk2 : Kept (fun j => w.heap.size ≤ j) w2 (w2.setCell ⟨L, k, none⟩ (.string (strB x))) := (Kept.refl _ _).setCell _ _ (.inl (by rw [HL.out]; exact Nat.le_refl _))
     refine ⟨k + 1, xs ++ [x], s', by omega, by go_num, HN.out, fun y hy => ?_, ?_, hkeep.out _ _ _ HS2.out hk2, (HK.out.trans HK2.out).trans' hk2 (fun i hi => .inr hi), ?_⟩
     ·rcases List.mem_append.1 hy with h | h
      ·exact HWF.out y h
      ·rw [List.mem_singleton.1 h]; exact HWX.out
     ·rw [← HSET.out, ← HL.out]; exact HR2.out.set k x
     ·rw [setCell_size]; exact Nat.lt_of_lt_of_le HSZ.out HK2.out.size
    case measure => simp [intOf]; omega
  ·obtain rfl : k = n := by omega
   go_wp2
   go_ret
   rw [HRUN.out]
   have hr := HROW.out
   rw [Nat.sub_self, List.replicate_zero, List.append_nil] at hr
   have ho := hr.own (B := w.heap.size) (by rw [HL.out]; exact Nat.le_refl _) HWF.out (by rw [HXL.out]; exact hnm)
   rw [HXL.out] at ho
   exact ⟨⟨_, _, _, rfl, ho⟩, HST2.out, HK.out⟩
end Go.Proofs.YtifabkbdiiolfaaGreatDoor
