/-
  Layer sorter: the chunks of runs, merged in whichever order (plain).
-/
import Derived.Test.YtjldamkmdkaiiaaGreatDoorOsjK
import Derived.Test.YtjldamkmdkaiiaaGreatDoorOcK
set_option linter.unusedSimpArgs false
set_option linter.unusedVariables false
set_option maxRecDepth 8000
namespace Go.Proofs.YtjldamkmdkaiiaaGreatDoor
open Go.RowKit Go.WideShapes Col Go.Sort Go.Shelf
attribute [local go_sem] Oper.semAt_some
theorem SA.grownN {W : Bs} {g : Nat} {room armed ops : Int} {off : Bool} {xs : List Fil} {w w' : World} (h : SA W g room off armed ops xs w) {row : Option Nat} (hg : w.grownBy w' row) (hr : ∀ r, row = some r → W.b.heap.size ≤ r ∧ ∃ o : Obj, w.heap[r]? = some o ∧ o.isCells = false) : SA ⟨W.b, w'⟩ g room off armed ops xs w' := by
 have no : ∀ k cs t fr, w.heap[k]? = some (.cells cs t fr) → ¬ row = some k := fun k cs t fr hk e => by
  obtain ⟨-, o, ho, hc⟩ := hr k e
  rw [hk] at ho; injection ho with ho; subst ho; cases hc
 have row' : ∀ (k : Nat) (cs : Array Value) (t : TypeId) (fr : Nat × Nat), w.heap[k]? = some (Obj.cells cs t fr) → w'.heap[k]? = some (Obj.cells cs t fr) := fun k cs t fr hk =>
  (hg.block k (Array.getElem?_eq_some_iff.1 hk).1 (fun e => no _ _ _ _ hk e.symm)).trans hk
 have hB : W.grownBy w (some g) → Bs.grownBy ⟨W.b, w'⟩ w' (some g) := fun h => ⟨⟨hg.os.trans h.gb.os, hg.tape.trans h.gb.tape, hg.output.trans h.gb.output, Nat.le_trans h.gb.size hg.size, fun k hk hn => by
  have hk' : k < W.b.heap.size := hk
  have h1 := h.gb.block k hk' hn
  refine (hg.block k (Nat.lt_of_lt_of_le hk' h.gb.size) (fun e => ?_)).trans h1
  have := (hr k e.symm).1; omega⟩, KF.refl _⟩
 rcases h with ⟨e, h⟩ | ⟨f, fcap, r, h⟩
 ·exact .inl ⟨e, hB h.below, row' _ _ _ _ h.st⟩
 ·refine .inr ⟨f, fcap, r, hB h.below, h.fbase, h.ne, row' _ _ _ _ h.st, row' _ _ _ _ h.fl, h.fc, fun k x hx => ?_, h.sg, h.sf, h.ap⟩
  have ho := h.own k x hx
  refine ⟨⟨ho.1.1, ?_⟩, ho.2⟩
  rcases ho.1.2 with h1 | ⟨a, cap', cur, h1, hb', hrow, hrest⟩
  ·exact .inl h1
  ·exact .inr ⟨a, cap', cur, h1, hb', row' _ _ _ _ hrow, hrest⟩
def pst (Z : Nat) (ps : List (Nat × List Ev)) (k : Nat) : Nat → List (Nat × List Ev) × Nat
 | 0 => ([], k)
 | j + 1 => ((pst Z ps k j).1 ++ [(mrgP (pst Z ps k j).2 ((ps.drop (Z * j)).take Z)).1], (mrgP (pst Z ps k j).2 ((ps.drop (Z * j)).take Z)).2)
theorem mrgP_le (k : Nat) (C : List (Nat × List Ev)) : (mrgP k C).2 ≤ k + 1 := by
 unfold mrgP; split <;> simp
theorem pst_le (Z : Nat) (ps : List (Nat × List Ev)) (k j : Nat) : (pst Z ps k j).2 ≤ k + j := by
 induction j with
 | zero => exact Nat.le_refl _
 | succ j ih => have := mrgP_le (pst Z ps k j).2 ((ps.drop (Z * j)).take Z); show (mrgP _ _).2 ≤ _; omega
theorem pst_len (Z : Nat) (ps : List (Nat × List Ev)) (k j : Nat) : (pst Z ps k j).1.length = j := by
 induction j with
 | zero => rfl
 | succ j ih => show (_ ++ [_]).length = _; rw [List.length_append, ih]; rfl
structure PassI (base : World) (g : Nat) (room : Int) (b : Nat) (parts : Int) (gn nn cn Z : Nat) (nms : List ByteArray) (w : World) (s : Nat) (W : World) (xs : List Fil) (ops : Int) (A : Option Addr) (m cap : Nat) (names : List ByteArray) (k : Nat) : Prop where
 r0 : W.heap[s]? = some (.cells #[.pointer (some ⟨b, 0, none⟩)] 68 (0, 0))
 r1 : W.heap[s + 1]? = some (.cells #[.int .i64 0] 28 (0, 0))
 r2 : W.heap[s + 2]? = some (.cells #[.slice A m cap] 37 (0, 0))
 r3 : W.heap[s + 3]? = some (.cells #[.slice (some ⟨gn, 0, none⟩) nn cn] 37 (0, 0))
 r4 : W.heap[s + 4]? = some (.cells #[.int .i64 (Z : Int)] 3 (0, 0))
 own : OwnT W (s + 5) A m cap names
 sa : SA ⟨base, W⟩ g room false 0 ops xs W
 runs : RunsAt9 W b g parts (some ⟨gn, 0, none⟩) nn cn k
 nm : NmAt W gn 0 nms
 size : s + 5 ≤ W.heap.size
 kx : KX b w W
structure PassF (base w : World) (b gn s : Nat) : Prop where
 bs : base.heap.size ≤ s
 ws : w.heap.size ≤ s
 bb : base.heap.size ≤ b
 hb : b < w.heap.size
 hgn : gn ≠ b
 gl : gn < w.heap.size
section
variable {base : World} {g : Nat} {room : Int} {b : Nat} {parts : Int} {gn nn cn Z : Nat} {nms : List ByteArray} {w : World} {s : Nat} {W W' : World} {xs : List Fil} {ops : Int} {A : Option Addr} {m cap : Nat} {names : List ByteArray} {k : Nat}
theorem PassI.grown (h : PassI base g room b parts gn nn cn Z nms w s W xs ops A m cap names k) (hf : PassF base w b gn s) {row : Option Nat} (hg : W.grownBy W' row) (hr : ∀ r, row = some r → s + 5 ≤ r ∧ ∃ o : Obj, W.heap[r]? = some o ∧ o.isCells = false) :
  PassI base g room b parts gn nn cn Z nms w s W' xs ops A m cap names k := by
 have no : ∀ k cs t fr, W.heap[k]? = some (.cells cs t fr) → ¬ row = some k := fun k cs t fr hk e => by
  obtain ⟨-, o, ho, hc⟩ := hr k e
  rw [hk] at ho; injection ho with ho; subst ho; cases hc
 have row' : ∀ (k : Nat) (cs : Array Value) (t : TypeId) (fr : Nat × Nat), W.heap[k]? = some (Obj.cells cs t fr) → W'.heap[k]? = some (Obj.cells cs t fr) := fun k cs t fr hk =>
  (hg.block k (Array.getElem?_eq_some_iff.1 hk).1 (fun e => no _ _ _ _ hk e.symm)).trans hk
 refine ⟨row' _ _ _ _ h.r0, row' _ _ _ _ h.r1, row' _ _ _ _ h.r2, row' _ _ _ _ h.r3, row' _ _ _ _ h.r4, ?_, h.sa.grownN hg (fun r e => ⟨by have := (hr r e).1; have := hf.bs; show base.heap.size ≤ r; omega, (hr r e).2⟩), row' _ _ _ _ h.runs, ?_, Nat.le_trans h.size hg.size, ?_⟩
 ·refine ⟨h.own.1, ?_⟩
  rcases h.own.2 with h1 | ⟨a, cap', cur, h1, hb', hrow, hrest⟩
  ·exact .inl h1
  ·exact .inr ⟨a, cap', cur, h1, hb', row' _ _ _ _ hrow, hrest⟩
 ·obtain ⟨cur, t, fr, h1, h2, h3⟩ := h.nm; exact ⟨cur, t, fr, row' _ _ _ _ h1, h2, h3⟩
 ·refine ⟨Nat.le_trans h.kx.size hg.size, fun k o hk hb hn => ?_⟩
  have h1 := h.kx.kept k o hk hb hn
  have hlt := (Array.getElem?_eq_some_iff.1 hk).1
  exact (hg.block k (Array.getElem?_eq_some_iff.1 h1).1 (fun e => by have := (hr k e.symm).1; have := hf.ws; omega)).trans h1
theorem PassI.next (h : PassI base g room b parts gn nn cn Z nms w s W xs ops A m cap names k) (hf : PassF base w b gn s) (hk : KX b W W') {ys : List Fil} {ops' : Int} {k' : Nat} (hs : SA ⟨base, W'⟩ g room false 0 ops' ys W') (hr : RunsAt9 W' b g parts (some ⟨gn, 0, none⟩) nn cn k') :
  PassI base g room b parts gn nn cn Z nms w s W' ys ops' A m cap names k' := by
 have h1 := hf.hb; have h2 := hf.ws
 exact ⟨hk.row (by omega) h.r0 (not_st (by decide) (by decide) (by decide)), hk.row (by omega) h.r1 (not_st (by decide) (by decide) (by decide)), hk.row (by omega) h.r2 (not_st (by decide) (by decide) (by decide)), hk.row (by omega) h.r3 (not_st (by decide) (by decide) (by decide)), hk.row (by omega) h.r4 (not_st (by decide) (by decide) (by decide)),
  h.own.kx hk (by omega), hs, hr, h.nm.kx hk hf.hgn, Nat.le_trans h.size hk.size, h.kx.trans hk⟩
theorem SA.grownT {W : Bs} {w w' : World} {armed : Int} {off : Bool} (h : SA W g room off armed ops xs w) {row : Option Nat} (hg : w.grownBy w' row) (hr : ∀ r, row = some r → W.b.heap.size ≤ r ∧ ∀ cs t fr, w.heap[r]? = some (.cells cs t fr) → ¬ StT t) : SA ⟨W.b, w'⟩ g room off armed ops xs w' := by
 have row' : ∀ (k : Nat) (cs : Array Value) (t : TypeId) (fr : Nat × Nat), w.heap[k]? = some (Obj.cells cs t fr) → StT t → w'.heap[k]? = some (Obj.cells cs t fr) := fun k cs t fr hk ht =>
  (hg.block k (Array.getElem?_eq_some_iff.1 hk).1 (fun e => (hr k e.symm).2 cs t fr hk ht)).trans hk
 have hB : W.grownBy w (some g) → Bs.grownBy ⟨W.b, w'⟩ w' (some g) := fun h => ⟨⟨hg.os.trans h.gb.os, hg.tape.trans h.gb.tape, hg.output.trans h.gb.output, Nat.le_trans h.gb.size hg.size, fun k hk hn => by
  have hk' : k < W.b.heap.size := hk
  have h1 := h.gb.block k hk' hn
  refine (hg.block k (Nat.lt_of_lt_of_le hk' h.gb.size) (fun e => ?_)).trans h1
  have := (hr k e.symm).1; omega⟩, KF.refl _⟩
 rcases h with ⟨e, h⟩ | ⟨f, fcap, r, h⟩
 ·exact .inl ⟨e, hB h.below, row' _ _ _ _ h.st (.inl rfl)⟩
 ·refine .inr ⟨f, fcap, r, hB h.below, h.fbase, h.ne, row' _ _ _ _ h.st (.inl rfl), row' _ _ _ _ h.fl (.inr (.inl rfl)), h.fc, fun k x hx => ?_, h.sg, h.sf, h.ap⟩
  have ho := h.own k x hx
  refine ⟨⟨ho.1.1, ?_⟩, ho.2⟩
  rcases ho.1.2 with h1 | ⟨a, cap', cur, h1, hb', hrow, hrest⟩
  ·exact .inl h1
  ·exact .inr ⟨a, cap', cur, h1, hb', row' _ _ _ _ hrow (.inr (.inr rfl)), hrest⟩
theorem PassI.put (h : PassI base g room b parts gn nn cn Z nms w s W xs ops A m cap names k) (hf : PassF base w b gn s) {t : ByteArray} {v : World} {A' : Option Addr} {cap' : Nat} (ho : OwnT v (s + 5) A' (m + 1) cap' (names ++ [t])) (hg : (W.alloc (.cells #[.string t] 9)).grownBy v (A.map (·.block))) :
  PassI base g room b parts gn nn cn Z nms w s (v.setCell ⟨s + 2, 0, none⟩ (.slice A' (m + 1) cap')) xs ops A' (m + 1) cap' (names ++ [t]) k ∧ (W.heap.size ≤ (v.setCell ⟨s + 2, 0, none⟩ (.slice A' (m + 1) cap')).heap.size ∧ ∀ (j : Nat) (o : Obj), W.heap[j]? = some o → o.isCells = false → (v.setCell ⟨s + 2, 0, none⟩ (.slice A' (m + 1) cap')).heap[j]? = some o) ∧ v.heap[s + 2]? = some (.cells #[.slice A m cap] 37 (0, 0)) := by
 have hsz := h.size
 have hA : ∀ r, A.map (·.block) = some r → s + 5 ≤ r ∧ ∃ cs fr, W.heap[r]? = some (.cells cs 9 fr) := fun r hr => by
  rcases h.own.2 with ⟨e0, e1⟩ | ⟨q, cap', cur, e0, hb, hq, -⟩
  ·injection e0 with e0 _ _; rw [e0] at hr; cases hr
  ·injection e0 with e0 _ _; rw [e0] at hr; injection hr with hr; subst hr; exact ⟨hb, _, _, hq⟩
 have hal : ∀ (j : Nat) (o : Obj), W.heap[j]? = some o → (W.alloc (.cells #[.string t] 9)).heap[j]? = some o := fun j o hj => by
  have := (Array.getElem?_eq_some_iff.1 hj).1
  show (W.heap.push _)[j]? = _
  rw [Array.getElem?_push, if_neg (by omega)]; exact hj
 have row' : ∀ (j : Nat) (o : Obj), W.heap[j]? = some o → A.map (·.block) ≠ some j → v.heap[j]? = some o := fun j o hj hn =>
  (hg.block j (Array.getElem?_eq_some_iff.1 (hal j o hj)).1 (fun e => hn e.symm)).trans (hal j o hj)
 have low : ∀ (j : Nat) (o : Obj), j < s + 5 → W.heap[j]? = some o → v.heap[j]? = some o := fun j o hj hk => row' j o hk (fun e => by have := (hA j e).1; omega)
 have typ : ∀ (j : Nat) (cs : Array Value) (ty : TypeId) (fr : Nat × Nat), ty ≠ 9 → W.heap[j]? = some (.cells cs ty fr) → v.heap[j]? = some (.cells cs ty fr) := fun j cs ty fr ht hk => row' j _ hk (fun e => by
  obtain ⟨-, cs', fr', h1⟩ := hA j e
  rw [hk] at h1; injection h1 with h1; injection h1 with _ h1 _; exact ht h1)
 have h1 := hf.hb; have h2 := hf.ws; have h3 := hf.bs
 have v2 := low (s + 2) _ (by omega) h.r2
 have vr : v.heap[b]? = _ := low b _ (by omega) h.runs
 have hsa := ((h.sa.next ((Below.refl _ W).alloc (Nat.le_refl _) (.cells #[.string t] 9))).grownT hg (fun r hr => ⟨by have := (hA r hr).1; show base.heap.size ≤ r; omega, fun cs ty fr hk => by
  obtain ⟨-, cs', fr', h1⟩ := hA r hr
  rw [hal r _ h1] at hk; injection hk with hk; injection hk with _ hk _; rw [← hk]; exact not_st (by decide) (by decide) (by decide)⟩)).setB (s + 2) 0 (.slice A' (m + 1) cap') v2 (not_st (by decide) (by decide) (by decide)) (by show base.heap.size ≤ s + 2; omega)
 have hsv : W.heap.size ≤ v.heap.size := by have := hg.size; simp at this; omega
 refine ⟨⟨row_far (by omega) (low s _ (by omega) h.r0), row_far (by omega) (low (s + 1) _ (by omega) h.r1), row_set v2 0 _, row_far (by omega) (low (s + 3) _ (by omega) h.r3), row_far (by omega) (low (s + 4) _ (by omega) h.r4), ?_, hsa, row_far (by omega) vr, ?_, by rw [setCell_size]; omega, ⟨by rw [setCell_size]; have := h.kx.size; omega, fun j o hj hb hn => ?_⟩⟩, ⟨by rw [setCell_size]; exact hsv, fun j o hj hc => ?_⟩, v2⟩
 ·refine ⟨ho.1, ?_⟩
  rcases ho.2 with h1 | ⟨a, cap', cur, h1, hb', hrow, hrest⟩
  ·exact .inl h1
  ·exact .inr ⟨a, cap', cur, h1, hb', row_far (by omega) hrow, hrest⟩
 ·obtain ⟨cur, ty, fr, q1, q2, q3⟩ := h.nm
  have h4 := hf.gl
  exact ⟨cur, ty, fr, row_far (by omega) (low gn _ (by omega) q1), q2, q3⟩
 ·have hlt := (Array.getElem?_eq_some_iff.1 hj).1
  exact row_far (by omega) (low j o (by omega) (h.kx.kept j o hj hb hn))
 ·have hne : s + 2 ≠ j := fun e => by subst e; rw [h.r2] at hj; injection hj with hj; subst hj; cases hc
  exact row_far hne (row' j o hj (fun e => by
   obtain ⟨-, cs', fr', q1⟩ := hA j e
   rw [hj] at q1; injection q1 with q1; subst q1; cases hc))
end
structure PassW (w : World) (s b gn nn cn Z : Nat) (W4 : World) : Prop where
 r0 : W4.heap[s]? = some (.cells #[.pointer (some ⟨b, 0, none⟩)] 68 (0, 0))
 r1 : W4.heap[s + 1]? = some (.cells #[.int .i64 0] 28 (0, 0))
 r2 : W4.heap[s + 2]? = some (.cells #[.slice none 0 0] 37 (0, 0))
 r3 : W4.heap[s + 3]? = some (.cells #[.slice (some ⟨gn, 0, none⟩) nn cn] 37 (0, 0))
 r4 : W4.heap[s + 4]? = some (.cells #[.int .i64 (Z : Int)] 3 (0, 0))
 size : W4.heap.size = s + 5
 below : Below s w W4
theorem pw_new (w : World) (b gn nn cn Z : Nat) : PassW w w.heap.size b gn nn cn Z (((((w.alloc (.cells #[.pointer (some ⟨b, 0, none⟩)] 68)).alloc (.cells #[.int .i64 0] 28)).alloc (.cells #[.slice none 0 0] 37)).alloc (.cells #[.slice (some ⟨gn, 0, none⟩) nn cn] 37)).alloc (.cells #[.int .i64 (Z : Int)] 3)) := by
 have e0 : ∀ (w : World) (o : Obj), (w.alloc o).heap = w.heap.push o := fun _ _ => rfl
 refine ⟨?_, ?_, ?_, ?_, ?_, ?_, ?_⟩
 ·simp only [e0, Array.getElem?_push, Array.size_push]; rw [if_neg (by omega), if_neg (by omega), if_neg (by omega), if_neg (by omega)]; simp
 ·simp only [e0, Array.getElem?_push, Array.size_push]; rw [if_neg (by omega), if_neg (by omega), if_neg (by omega)]; simp
 ·simp only [e0, Array.getElem?_push, Array.size_push]; rw [if_neg (by omega), if_neg (by omega)]; simp
 ·simp only [e0, Array.getElem?_push, Array.size_push]; rw [if_neg (by omega)]; simp
 ·simp only [e0, Array.getElem?_push, Array.size_push]; simp
 ·simp [e0]
 ·exact (((((Below.refl _ _).alloc (Nat.le_refl _) _).alloc (by simp) _).alloc (by simp; omega) _).alloc (by simp; omega) _).alloc (by simp; omega) _
end Go.Proofs.YtjldamkmdkaiiaaGreatDoor
namespace Go.Proofs.YtjldamkmdkaiiaaGreatDoor
open Go.RowKit Go.WideShapes Col Go.Sort
section
variable {W : Bs} {g : Nat} {room armed ops : Int} {xs : List Fil}
set_option maxHeartbeats 4000000 in
theorem read_noK {t : ByteArray} (hf : formK t = true) (hn : xs.length ≤ 1000) (lo : Nat) (hlo : Hid (Place xs t lo)) (hno : Hid (isAt xs t lo = false)) (w : World) (hs : Hid (SA W g room false armed ops xs w)) :
  Calls Tryz.prog 61 #[.pointer (some ⟨g, 0, none⟩), .string t] w fun e w' => e = .returned (.tuple #[.slice none 0 0, .int .i64 5]) ∧ Below w.heap.size w w' := by
 have hP := place_A t hn lo hlo w hs
 rw [hno.out] at hP
 have HP : Hid (Calls Tryz.prog 50 #[.pointer (some ⟨g, 0, none⟩), .string t] w fun e w' => e = .returned (.tuple #[.int .i64 0, .int .i64 5]) ∧ Below w.heap.size w w') := Lib.hid (hP.mono fun e w' ⟨he, hb⟩ => ⟨by rw [he]; unfold placeAt; rw [hf]; rfl, hb⟩)
 clear hP hlo hno hs
 go_enter Tryz.func61, Tryz.ntmps61
 go_wp2_with (go_at_call 50; refine HP.out.mono ?_; rintro z w1 ⟨rfl, hb⟩; have HB := Lib.hid hb; clear hb)
 exact bodyPost_ret (results_tmp2O rfl _ _ _) rfl ⟨rfl, HB.out⟩
set_option maxHeartbeats 4000000 in
theorem take_noK {t : ByteArray} (b : Nat) (parts : Int) (N : Option Addr) (nn cn laid : Nat) (hf : formK t = true) (hn : xs.length ≤ 1000) (hr : Rises xs) (hno : ∀ x ∈ xs, cmpKF x.name t ≠ 0) (w : World)
  (hs : Hid (SA W g room false armed ops xs w)) (HR : Hid (RunsAt9 w b g parts N nn cn laid)) :
  Calls Tryz.prog 47 #[.pointer (some ⟨b, 0, none⟩), .string t] w fun e w' => e = .returned (.tuple #[.slice none 0 0, .int .i64 5]) ∧ Below w.heap.size w w' := by
 have hia : isAt xs t (placeOf xs t) = false := by
  unfold isAt
  rcases hx : xs[placeOf xs t]? with _ | x
  ·rfl
  ·have := hno x (List.mem_of_getElem? hx)
   simp [this]
 have HRD := Lib.hid (read_noK hf hn (placeOf xs t) (Lib.hid (hr.place t)) (Lib.hid hia) w hs)
 have cb0 : w.cell? ⟨b, 0, none⟩ = some (.pointer (some ⟨g, 0, none⟩)) := by rw [cell_of_row _ _ _ _ _ _ HR.out]; rfl
 clear hia
 go_enter Tryz.func47, Tryz.ntmps47
 go_wp2_with (go_at_call 61; (with_reducible refine HRD.out.mono ?_); rintro e w2 ⟨rfl, h1⟩; have HB2 := Lib.hid h1; clear h1)
 exact bodyPost_ret (results_tmp2O rfl _ _ _) rfl ⟨rfl, HB2.out⟩
set_option maxHeartbeats 4000000 in
theorem merge_no (b : Nat) (parts : Int) (N : Option Addr) (nn cn k : Nat) (gn on n c : Nat) (t : ByteArray) (hn2 : 2 ≤ n) (hn16 : n ≤ 16) (w : World) (hc : w.cell? ⟨gn, on, none⟩ = some (.string t)) (hgn : gn < w.heap.size)
  (hf : formK t = true) (hx : xs.length ≤ 1000) (hr : Rises xs) (hno : ∀ x ∈ xs, cmpKF x.name t ≠ 0) (hs : Hid (SA W g room false armed ops xs w)) (HR : Hid (RunsAt9 w b g parts N nn cn k)) :
  Calls Tryz.prog 60 #[.pointer (some ⟨b, 0, none⟩), .slice (some ⟨gn, on, none⟩) n c] w fun e w' => e = .returned (.tuple #[.string { data := #[] }, .int .i64 5]) ∧ Below w.heap.size w w' := by
 obtain ⟨i0, hi, hz0, hz1, hz2⟩ := info_parts infoSl
 have hz2' : i0.bytes * n ≤ 281474976710656 := by rw [hz2]; omega
 have hnml : n ≤ maxLen := by unfold maxLen; omega
 have hn1 : ¬ (n : Int) = 1 := by omega
 have h0n : (0 : Int) < (n : Int) := by omega
 have HC : Hid (∀ w', Below w.heap.size w w' → w'.cell? ⟨gn, on, none⟩ = some (.string t)) := Lib.hid fun w' hb => (hb.cell (p := ⟨gn, on, none⟩) hgn).trans hc
 clear hc
 go_enter Tryz.func60, Tryz.ntmps60
 go_wp2_with (refine wpList_make_full _ rfl (.tmp 20) (.tmp 20) 114 rfl w.heap.size 22 i0 (.slice none 0 0) 1 Tryz.underlying114 hi hz0 hz1 .i64 .i64 _ _ n rfl rfl rfl rfl hz2' hnml (Nat.le_refl _) ?_; intro w1 own hgr; have HGR := Lib.hid hgr; clear own hgr)
 have HB1 : Hid (Below w.heap.size w w1) := Lib.hid ((Below.refl _ w).grown HGR.out (Nat.le_refl _) (by intro k hk; cases hk))
 have HTN := Lib.hid (take_noK (W := W) (g := g) (room := room) (ops := ops) b parts N nn cn k hf hx hr hno w1 (Lib.hid (hs.out.next HB1.out)) (Lib.hid (HR.out.keep HB1.out)))
 have hc1 := HC.out w1 HB1.out
 refine wp_loop_rounds 1 ?_
 rw [rounds_succ]
 go_wp2_with (go_at_call 47; (with_reducible refine HTN.out.mono ?_); rintro e w2 ⟨rfl, h1⟩; have HB2 := Lib.hid h1; clear h1)
 exact bodyPost_ret (results_tmp2O rfl _ _ _) rfl ⟨rfl, below_to HB1.out HB2.out⟩
end
theorem RS.perm {TT : Nat} {dgs : Nat → ByteArray} {parts : Int} {nb bb : Nat} {xs : List Fil} {ps qs : List (Nat × List Ev)} {k : Nat} (h : RS TT dgs parts nb bb xs ps k) (hp : ps.Perm qs) : RS TT dgs parts nb bb xs qs k := by
 have h1 : runsLen (evP ps) = runsLen (evP qs) := by unfold runsLen evP; exact ((hp.map _).map _).sum_nat
 have h2 : (evP ps).flatten.length = (evP qs).flatten.length := by
  rw [List.length_flatten, List.length_flatten]; unfold evP; exact ((hp.map _).map _).sum_nat
 exact ⟨h.rises, fun p hq => h.lt p (hp.mem_iff.2 hq), h.dis.perm hp (fun h => h.symm), fun p hq => h.run p (hp.mem_iff.2 hq), h.fresh, by rw [h.num, hp.length_eq], by rw [h.sum, h1], fun p hq => h.good p (hp.mem_iff.2 hq), by rw [← h2]; exact h.tot⟩
def ckP (Z : Nat) (ps : List (Nat × List Ev)) (j : Nat) : List (Nat × List Ev) := (ps.drop (Z * j)).take Z
theorem ck_all (Z : Nat) (ps : List (Nat × List Ev)) (m : Nat) : (List.range m).flatMap (ckP Z ps) = ps.take (Z * m) := by
 induction m with
 | zero => simp
 | succ m ih =>
  rw [List.range_succ, List.flatMap_append, ih]
  simp only [List.flatMap_cons, List.flatMap_nil, List.append_nil]
  unfold ckP
  rw [Nat.mul_succ, List.take_add]
def restP (Z : Nat) (ps : List (Nat × List Ev)) (N : Nat) (T : List Nat) : List (Nat × List Ev) := ((List.range N).filter (fun j => decide (j ∉ T))).flatMap (ckP Z ps)
theorem rest_perm {Z : Nat} {ps : List (Nat × List Ev)} {N : Nat} {T : List Nat} {i : Nat} (hi : i < N) (hT : i ∉ T) : (restP Z ps N T).Perm (ckP Z ps i ++ restP Z ps N (T ++ [i])) := by
 unfold restP
 have h : ((List.range N).filter (fun j => decide (j ∉ T))).Perm (i :: (List.range N).filter (fun j => decide (j ∉ T ++ [i]))) := by
  refine (List.perm_ext_iff_of_nodup (List.nodup_range.filter _) (List.nodup_cons.2 ⟨by simp, List.nodup_range.filter _⟩)).2 fun a => ?_
  simp only [List.mem_filter, List.mem_range, decide_eq_true_eq, List.mem_cons, List.mem_append, List.not_mem_nil, or_false, not_or]
  constructor
  ·rintro ⟨h1, h2⟩
   by_cases e : a = i
   ·exact .inl e
   ·exact .inr ⟨h1, h2, e⟩
  ·rintro (rfl | ⟨h1, h2, -⟩)
   ·exact ⟨hi, hT⟩
   ·exact ⟨h1, h2⟩
 exact h.flatMap_right _
theorem rest_twice {Z : Nat} {ps : List (Nat × List Ev)} {N : Nat} {T : List Nat} {i : Nat} (hT : i ∈ T) : restP Z ps N (T ++ [i]) = restP Z ps N T := by
 unfold restP
 congr 1
 refine List.filter_congr fun a _ => ?_
 have : (a ∉ T ++ [i]) ↔ (a ∉ T) := by
  simp only [List.mem_append, List.mem_singleton, not_or]
  exact ⟨fun h => h.1, fun h => ⟨h, fun e => h (e ▸ hT)⟩⟩
 exact decide_eq_decide.2 this
theorem rest_nil {Z : Nat} {ps : List (Nat × List Ev)} {N : Nat} : restP Z ps N (List.range N) = [] := by
 unfold restP
 rw [List.filter_eq_nil_iff.2 (fun a ha => by simpa using ha)]; rfl
theorem rest_all {Z : Nat} {ps : List (Nat × List Ev)} {N : Nat} (hN : ps.length ≤ Z * N) : restP Z ps N [] = ps := by
 unfold restP
 rw [List.filter_eq_self.2 (fun a _ => by simp), ck_all, List.take_of_length_le hN]
structure PassS (TT : Nat) (dgs : Nat → ByteArray) (parts : Int) (nb bb Z : Nat) (ps : List (Nat × List Ev)) (N k0 : Nat) (T : List Nat) (xs : List Fil) (dn : List (Nat × List Ev)) (k : Nat) : Prop where
 rs : RS TT dgs parts nb bb xs (dn ++ restP Z ps N T) k
 kle : k ≤ k0 + T.length
 ge : k0 ≤ k
 len : dn.length ≤ T.length
 gone : ∀ i ∈ T, 2 ≤ (ckP Z ps i).length → ∀ p ∈ ckP Z ps i, ∀ y ∈ xs, cmpKF y.name (rn dgs p.1) ≠ 0
theorem PassS.start {TT : Nat} {dgs : Nat → ByteArray} {parts : Int} {nb bb Z : Nat} {ps : List (Nat × List Ev)} {N k0 : Nat} {xs : List Fil} (h : RS TT dgs parts nb bb xs ps k0) (hN : ps.length ≤ Z * N) : PassS TT dgs parts nb bb Z ps N k0 [] xs [] k0 :=
 ⟨by rw [rest_all hN]; exact h, Nat.le_refl _, Nat.le_refl _, Nat.le_refl _, fun i hi => nomatch hi⟩
theorem PassS.step {TT : Nat} {dgs : Nat → ByteArray} {parts : Int} {nb bb Z : Nat} {ps : List (Nat × List Ev)} {N k0 : Nat} {T : List Nat} {xs zs : List Fil} {dn : List (Nat × List Ev)} {k i : Nat} (hNm : Namer dgs) (h : PassS TT dgs parts nb bb Z ps N k0 T xs dn k) (hps : ∀ p ∈ ps, p.1 < k0) (hk : k < 999)
  (hz : RS TT dgs parts nb bb zs (dn ++ [(mrgP k (ckP Z ps i)).1] ++ restP Z ps N (T ++ [i])) (mrgP k (ckP Z ps i)).2) (h1 : ∀ y ∈ zs, y ∈ xs ∨ y.name = rn dgs k) (h2 : 2 ≤ (ckP Z ps i).length → ∀ p ∈ ckP Z ps i, ∀ y ∈ zs, cmpKF y.name (rn dgs p.1) ≠ 0) :
  PassS TT dgs parts nb bb Z ps N k0 (T ++ [i]) zs (dn ++ [(mrgP k (ckP Z ps i)).1]) (mrgP k (ckP Z ps i)).2 := by
 refine ⟨hz, ?_, ?_, ?_, fun j hj hl p hp y hy => ?_⟩
 ·have := mrgP_le k (ckP Z ps i); have := h.kle; rw [List.length_append, List.length_singleton]; omega
 ·have := h.ge; unfold mrgP; split <;> dsimp only <;> omega
 ·have := h.len; simp; omega
 ·rcases List.mem_append.1 hj with hj | hj
  ·rcases h1 y hy with h3 | h3
   ·exact h.gone j hj hl p hp y h3
   ·rw [h3]
    have hp' : p ∈ ps := List.mem_of_mem_drop (List.mem_of_mem_take hp)
    have := hps p hp'
    have := h.ge
    exact hNm.inj _ _ (by omega) (by omega) (by omega)
  ·rw [List.mem_singleton.1 hj] at hl hp
   exact h2 hl p hp y hy
theorem PassS.twice {TT : Nat} {dgs : Nat → ByteArray} {parts : Int} {nb bb Z : Nat} {ps : List (Nat × List Ev)} {N k0 : Nat} {T : List Nat} {xs : List Fil} {dn : List (Nat × List Ev)} {k i : Nat} (h : PassS TT dgs parts nb bb Z ps N k0 T xs dn k) (hi : i ∈ T) : PassS TT dgs parts nb bb Z ps N k0 (T ++ [i]) xs dn k := by
 refine ⟨by rw [rest_twice hi]; exact h.rs, by have := h.kle; rw [List.length_append]; omega, h.ge, by have := h.len; rw [List.length_append]; omega, fun j hj => ?_⟩
 rcases List.mem_append.1 hj with hj | hj
 ·exact h.gone j hj
 ·rw [List.mem_singleton.1 hj]; exact h.gone i hi
end Go.Proofs.YtjldamkmdkaiiaaGreatDoor
