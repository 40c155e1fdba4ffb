/-
  Layer sorter: pass: all runs are merged, so many at once.
-/
import Derived.Test.YtjldamkmdkaiiaaGreatDoorO2K
import Derived.Test.YtjldamkmdkaiiaaGreatDoorOcK
set_option linter.unusedSimpArgs false
set_option linter.unusedVariables false
set_option maxRecDepth 8000
namespace Go.Proofs.YtjldamkmdkaiiaaGreatDoor
open Go.RowKit Go.WideShapes Col Go.Sort
structure KX (b : Nat) (V w : World) : Prop where
 size : V.heap.size ≤ w.heap.size
 kept : ∀ (k : Nat) (o : Obj), V.heap[k]? = some o → k ≠ b → (∀ cs t fr, o = .cells cs t fr → ¬ StT t) → w.heap[k]? = some o
theorem KX.of_kf {b : Nat} {V w : World} (h : KF V w) : KX b V w := ⟨h.size, fun k o hk _ hn => h.kept k o hk hn⟩
theorem KX.trans {b : Nat} {u v w : World} (h : KX b u v) (h' : KX b v w) : KX b u w := ⟨Nat.le_trans h.size h'.size, fun k o hk hb hn => h'.kept k o (h.kept k o hk hb hn) hb hn⟩
theorem KX.of_set {b i : Nat} {V w : World} {v : Value} (h : KF (V.setCell ⟨b, i, none⟩ v) w) : KX b V w := ⟨by have := h.size; rwa [setCell_size] at this, fun k o hk hb hn => h.kept k o (row_far (Ne.symm hb) hk) hn⟩
theorem KX.row {b : Nat} {w w' : World} {k : Nat} {cs : Array Value} {t : TypeId} {fr : Nat × Nat} (h : KX b w w') (hb : k ≠ b) (hr : w.heap[k]? = some (.cells cs t fr)) (ht : ¬ StT t) : w'.heap[k]? = some (.cells cs t fr) :=
 h.kept k _ hr hb fun cs' t' fr' e => by injection e with _ e _; rw [← e]; exact ht
theorem OwnT.kx {w w' : World} {b B n cap : Nat} {A : Option Addr} {l : List ByteArray} (h : OwnT w B A n cap l) (hk : KX b w w') (hb : b < B) : OwnT w' B A n cap l := by
 refine ⟨h.1, ?_⟩
 rcases h.2 with h1 | ⟨g, cap', cur, h1, hb', hrow, hrest⟩
 ·exact .inl h1
 ·exact .inr ⟨g, cap', cur, h1, hb', hk.row (by omega) hrow (not_st (by decide) (by decide) (by decide)), hrest⟩
theorem NmAt.kx {w w' : World} {b gn on : Nat} {nms : List ByteArray} (h : NmAt w gn on nms) (hk : KX b w w') (hb : gn ≠ b) : NmAt w' gn on nms := by
 obtain ⟨cur, t, fr, h1, h2, h3⟩ := h; exact ⟨cur, t, fr, hk.row hb h1 h2, h2, h3⟩
theorem runsLen_good {parts : Int} (ls : List (List Ev)) (h : ∀ l ∈ ls, Good parts l) (ht : ls.flatten.length ≤ 320) : runsLen ls ≤ 331 * ls.flatten.length := by
 induction ls with
 | nil => exact Nat.le_refl _
 | cons a r ih =>
  rw [List.flatten_cons, List.length_append] at ht
  have h1 := (h a (List.mem_cons_self ..)).bytes (by omega)
  have h2 := ih (fun l hl => h l (List.mem_cons_of_mem _ hl)) (by omega)
  have h3 : runsLen (a :: r) = (runB a).length + runsLen r := by simp [runsLen]
  rw [h3, List.flatten_cons, List.length_append]; omega
def mrgP (k : Nat) : List (Nat × List Ev) → (Nat × List Ev) × Nat
 | [p] => (p, k)
 | C => ((k, mgL (evP C)), k + 1)
section
variable {W : Bs} {g : Nat} {room ops : Int} {xs : List Fil}
set_option maxHeartbeats 4000000 in
theorem merge_one (b gn on c : Nat) (t : ByteArray) (w : World) (hc : w.cell? ⟨gn, on, none⟩ = some (.string t)) :
  Calls Tryz.prog 60 #[.pointer (some ⟨b, 0, none⟩), .slice (some ⟨gn, on, none⟩) 1 c] w fun e w' => e = .returned (.tuple #[.string t, .int .i64 0]) ∧ w' = w := by
 go_enter Tryz.func60, Tryz.ntmps60
 go_wp2
 exact bodyPost_ret (results_tmp2O rfl _ _ _) rfl ⟨rfl, rfl⟩
theorem merge_any {TT : Nat} {dgs : Nat → ByteArray} (hNm : Namer dgs) (b : Nat) (parts : Int) (N : Option Addr) (nn cn k : Nat) (gn on n c nb bb : Nat) (A C D : List (Nat × List Ev)) (hn : n = C.length) (hn1 : 1 ≤ n) (hn16 : n ≤ 16) (w : World) (HN : NmAt w gn on (nmP dgs C))
  (HRS : RS TT dgs parts nb bb xs (A ++ C ++ D) k) (hk : k < 999)
  (hs : SA W g room false 0 ops xs w) (h : 0 ≤ ops ∧ ops < 900000000) (HR : RunsAt9 w b g parts N nn cn k) (HG : TabsAt W.b) (hg : W.heap.size ≤ g) (hbW : W.b.heap.size ≤ b)
  (hx5 : xs.length < 500) (hroom : room ≤ 16777216) (hfit : ((bb + 700 * TT : Nat) : Int) ≤ room) :
  Calls Tryz.prog 60 #[.pointer (some ⟨b, 0, none⟩), .slice (some ⟨gn, on, none⟩) n c] w fun e w' => e = .returned (.tuple #[.string (rn dgs (mrgP k C).1.1), .int .i64 0]) ∧ ∃ zs ops', RS TT dgs parts nb bb zs (A ++ [(mrgP k C).1] ++ D) (mrgP k C).2 ∧ SA ⟨W.b, w'⟩ g room false 0 ops' zs w' ∧ 0 ≤ ops' ∧ ops' ≤ ops + 20 ∧ RunsAt9 w' b g parts N nn cn (mrgP k C).2 ∧ KX b w w' ∧ (∀ y ∈ zs, y ∈ xs ∨ y.name = rn dgs k) ∧ (2 ≤ C.length → ∀ p ∈ C, ∀ y ∈ zs, cmpKF y.name (rn dgs p.1) ≠ 0) := by
 rcases C with _ | ⟨p, _ | ⟨q, C⟩⟩
 ·simp at hn; omega
 ·have hn0 : n = 1 := hn
  subst hn0
  have hc := HN.cell (j := 0) (s := rn dgs p.1) rfl
  rw [Nat.add_zero] at hc
  refine (merge_one b gn on c (rn dgs p.1) w hc).mono ?_
  rintro e w' ⟨rfl, rfl⟩
  exact ⟨rfl, xs, ops, HRS, hs.now, h.1, by omega, HR, KX.of_kf (KF.refl _), fun y hy => .inl hy, fun h2 => absurd h2 (by simp)⟩
 ·have hn2 : 2 ≤ n := by rw [hn]; simp
  have e : mrgP k (p :: q :: C) = ((k, mgL (evP (p :: q :: C))), k + 1) := rfl
  rw [e]
  generalize p :: q :: C = C' at *
  have hsub : ∀ u ∈ C', u ∈ A ++ C' ++ D := fun u hu => by rw [List.mem_append, List.mem_append]; exact .inl (.inr hu)
  have hgood : ∀ l ∈ evP C', Good parts l := fun l hl => by
   obtain ⟨u, hu, rfl⟩ := List.mem_map.1 hl; exact HRS.good u (hsub u hu)
  have hgA : ∀ l ∈ evP (A ++ C' ++ D), Good parts l := fun l hl => by
   obtain ⟨u, hu, rfl⟩ := List.mem_map.1 hl; exact HRS.good u hu
  have htot := HRS.tot
  have hCt : (evP C').flatten.length ≤ min TT 320 := by
   unfold evP at htot ⊢
   simp only [List.map_append, List.flatten_append, List.length_append] at htot; omega
  have hne : C' ≠ [] := fun e => by rw [e] at hn; simp at hn; omega
  have hM := (Good.merged hgood (by unfold evP; simpa using hne)).bytes (by rw [mgL_len]; omega)
  rw [mgL_len] at hM
  have hL := runsLen_good _ hgA (by omega)
  have hd := HRS.dis
  rw [List.append_assoc, List.pairwise_append, List.pairwise_append] at hd
  have hsum := HRS.sum
  refine (merge_many (W := W) (xs := xs) (ops := ops) (g := g) (room := room) (nm := rn dgs k) (dg := dgs k) b parts N nn cn k gn on n c (nmP dgs C') (evP C') (Lib.hid ⟨by unfold nmP; rw [List.length_map]; exact hn, by unfold evP; rw [List.length_map]; exact hn⟩) hn2 hn16 w (Lib.hid HN)
   (Lib.hid ?_) (Lib.hid fun j t l ht hl => ?_) (Lib.hid fun l hl => (hgood l hl).pos) (Lib.hid (by omega)) (Lib.hid fun l hl => (hgood l hl).fine) (Lib.hid fun l hl => (hgood l hl).form) (Lib.hid fun l hl => (hgood l hl).ord) (Lib.hid hs) (Lib.hid h) (Lib.hid HR) (by omega) (Lib.hid HG) hg hbW
   (Lib.hid (hNm.itoa k (by omega))) (hNm.size k (by omega)) (Lib.hid rfl) (hNm.form k (by omega)) HRS.rises hx5 hroom (by omega) (Lib.hid ?_)).mono ?_
  ·unfold nmP
   rw [List.pairwise_map]
   refine (hd.2.1.1).imp_of_mem fun {u v} hu hv huv => ?_
   have := HRS.lt u (hsub u hu); have := HRS.lt v (hsub v hv)
   exact hNm.inj _ _ (by omega) (by omega) huv
  ·unfold nmP at ht; unfold evP at hl
   rw [List.getElem?_map] at ht hl
   rcases hu : C'[j]? with _ | u
   ·rw [hu] at ht; cases ht
   ·rw [hu] at ht hl; injection ht with ht; injection hl with hl
    subst ht; subst hl
    exact HRS.run u (hsub u (List.mem_of_getElem? hu))
  ·rw [hsum]; unfold mgL at hM; omega
  ·rintro e w' ⟨rfl, hkf, ys, zs, hT, hA, hS⟩
   refine ⟨rfl, zs, ops + n + 1, RS.merge hNm HRS (by omega) hne hT hA, hS, by omega, by omega, ?_, KX.of_set hkf, fun y hy => ?_, fun _ p hp y hy => ?_⟩
   rotate_right 2
   ·obtain ⟨Aa, c9, hm9, -⟩ := app_new (fun x hx => HRS.fresh k (Nat.le_refl _) (by omega) x ((hT.mem x).1 hx).1) hA
    rcases (hm9 y).1 hy with rfl | h9
    ·exact .inr rfl
    ·exact .inl ((hT.mem y).1 h9).1
   ·obtain ⟨Aa, c9, hm9, -⟩ := app_new (fun x hx => HRS.fresh k (Nat.le_refl _) (by omega) x ((hT.mem x).1 hx).1) hA
    have hpk := HRS.lt p (hsub p hp)
    rcases (hm9 y).1 hy with rfl | h9
    ·exact hNm.inj _ _ (by omega) (by omega) (by omega)
    ·have h8 := ((hT.mem y).1 h9).2 (rn dgs p.1) (List.mem_map.2 ⟨p, hp, rfl⟩)
     intro e; rw [ck_neg] at h8; omega
   exact RunsAt9.kf (row_set HR 3 _) hkf
end
end Go.Proofs.YtjldamkmdkaiiaaGreatDoor
namespace Go.Proofs.YtjldamkmdkaiiaaGreatDoor
open Go.RowKit Go.WideShapes Col Go.Sort Go.Shelf
attribute [local go_sem] Oper.semAt_some
theorem SA.grownN {W : Bs} {g : Nat} {room armed ops : Int} {off : Bool} {xs : List Fil} {w w' : World} (h : SA W g room off armed ops xs w) {row : Option Nat} (hg : w.grownBy w' row) (hr : ∀ r, row = some r → W.b.heap.size ≤ r ∧ ∃ o : Obj, w.heap[r]? = some o ∧ o.isCells = false) : SA ⟨W.b, w'⟩ g room off armed ops xs w' := by
 have no : ∀ k cs t fr, w.heap[k]? = some (.cells cs t fr) → ¬ row = some k := fun k cs t fr hk e => by
  obtain ⟨-, o, ho, hc⟩ := hr k e
  rw [hk] at ho; injection ho with ho; subst ho; cases hc
 have row' : ∀ (k : Nat) (cs : Array Value) (t : TypeId) (fr : Nat × Nat), w.heap[k]? = some (Obj.cells cs t fr) → w'.heap[k]? = some (Obj.cells cs t fr) := fun k cs t fr hk =>
  (hg.block k (Array.getElem?_eq_some_iff.1 hk).1 (fun e => no _ _ _ _ hk e.symm)).trans hk
 have hB : W.grownBy w (some g) → Bs.grownBy ⟨W.b, w'⟩ w' (some g) := fun h => ⟨⟨hg.os.trans h.gb.os, hg.tape.trans h.gb.tape, hg.output.trans h.gb.output, Nat.le_trans h.gb.size hg.size, fun k hk hn => by
  have hk' : k < W.b.heap.size := hk
  have h1 := h.gb.block k hk' hn
  refine (hg.block k (Nat.lt_of_lt_of_le hk' h.gb.size) (fun e => ?_)).trans h1
  have := (hr k e.symm).1; omega⟩, KF.refl _⟩
 rcases h with ⟨e, h⟩ | ⟨f, fcap, r, h⟩
 ·exact .inl ⟨e, hB h.below, row' _ _ _ _ h.st⟩
 ·refine .inr ⟨f, fcap, r, hB h.below, h.fbase, h.ne, row' _ _ _ _ h.st, row' _ _ _ _ h.fl, h.fc, fun k x hx => ?_, h.sg, h.sf, h.ap⟩
  have ho := h.own k x hx
  refine ⟨⟨ho.1.1, ?_⟩, ho.2⟩
  rcases ho.1.2 with h1 | ⟨a, cap', cur, h1, hb', hrow, hrest⟩
  ·exact .inl h1
  ·exact .inr ⟨a, cap', cur, h1, hb', row' _ _ _ _ hrow, hrest⟩
def pst (Z : Nat) (ps : List (Nat × List Ev)) (k : Nat) : Nat → List (Nat × List Ev) × Nat
 | 0 => ([], k)
 | j + 1 => ((pst Z ps k j).1 ++ [(mrgP (pst Z ps k j).2 ((ps.drop (Z * j)).take Z)).1], (mrgP (pst Z ps k j).2 ((ps.drop (Z * j)).take Z)).2)
theorem mrgP_le (k : Nat) (C : List (Nat × List Ev)) : (mrgP k C).2 ≤ k + 1 := by
 unfold mrgP; split <;> simp
theorem pst_le (Z : Nat) (ps : List (Nat × List Ev)) (k j : Nat) : (pst Z ps k j).2 ≤ k + j := by
 induction j with
 | zero => exact Nat.le_refl _
 | succ j ih => have := mrgP_le (pst Z ps k j).2 ((ps.drop (Z * j)).take Z); show (mrgP _ _).2 ≤ _; omega
theorem pst_len (Z : Nat) (ps : List (Nat × List Ev)) (k j : Nat) : (pst Z ps k j).1.length = j := by
 induction j with
 | zero => rfl
 | succ j ih => show (_ ++ [_]).length = _; rw [List.length_append, ih]; rfl
structure PassI (base : World) (g : Nat) (room : Int) (b : Nat) (parts : Int) (gn nn cn Z : Nat) (nms : List ByteArray) (w : World) (s : Nat) (W : World) (xs : List Fil) (ops : Int) (A : Option Addr) (m cap : Nat) (names : List ByteArray) (k : Nat) : Prop where
 r0 : W.heap[s]? = some (.cells #[.pointer (some ⟨b, 0, none⟩)] 68 (0, 0))
 r1 : W.heap[s + 1]? = some (.cells #[.int .i64 0] 28 (0, 0))
 r2 : W.heap[s + 2]? = some (.cells #[.slice A m cap] 37 (0, 0))
 r3 : W.heap[s + 3]? = some (.cells #[.slice (some ⟨gn, 0, none⟩) nn cn] 37 (0, 0))
 r4 : W.heap[s + 4]? = some (.cells #[.int .i64 (Z : Int)] 3 (0, 0))
 own : OwnT W (s + 5) A m cap names
 sa : SA ⟨base, W⟩ g room false 0 ops xs W
 runs : RunsAt9 W b g parts (some ⟨gn, 0, none⟩) nn cn k
 nm : NmAt W gn 0 nms
 size : s + 5 ≤ W.heap.size
 kx : KX b w W
structure PassF (base w : World) (b gn s : Nat) : Prop where
 bs : base.heap.size ≤ s
 ws : w.heap.size ≤ s
 bb : base.heap.size ≤ b
 hb : b < w.heap.size
 hgn : gn ≠ b
 gl : gn < w.heap.size
section
variable {base : World} {g : Nat} {room : Int} {b : Nat} {parts : Int} {gn nn cn Z : Nat} {nms : List ByteArray} {w : World} {s : Nat} {W W' : World} {xs : List Fil} {ops : Int} {A : Option Addr} {m cap : Nat} {names : List ByteArray} {k : Nat}
theorem PassI.grown (h : PassI base g room b parts gn nn cn Z nms w s W xs ops A m cap names k) (hf : PassF base w b gn s) {row : Option Nat} (hg : W.grownBy W' row) (hr : ∀ r, row = some r → s + 5 ≤ r ∧ ∃ o : Obj, W.heap[r]? = some o ∧ o.isCells = false) :
  PassI base g room b parts gn nn cn Z nms w s W' xs ops A m cap names k := by
 have no : ∀ k cs t fr, W.heap[k]? = some (.cells cs t fr) → ¬ row = some k := fun k cs t fr hk e => by
  obtain ⟨-, o, ho, hc⟩ := hr k e
  rw [hk] at ho; injection ho with ho; subst ho; cases hc
 have row' : ∀ (k : Nat) (cs : Array Value) (t : TypeId) (fr : Nat × Nat), W.heap[k]? = some (Obj.cells cs t fr) → W'.heap[k]? = some (Obj.cells cs t fr) := fun k cs t fr hk =>
  (hg.block k (Array.getElem?_eq_some_iff.1 hk).1 (fun e => no _ _ _ _ hk e.symm)).trans hk
 refine ⟨row' _ _ _ _ h.r0, row' _ _ _ _ h.r1, row' _ _ _ _ h.r2, row' _ _ _ _ h.r3, row' _ _ _ _ h.r4, ?_, h.sa.grownN hg (fun r e => ⟨by have := (hr r e).1; have := hf.bs; show base.heap.size ≤ r; omega, (hr r e).2⟩), row' _ _ _ _ h.runs, ?_, Nat.le_trans h.size hg.size, ?_⟩
 ·refine ⟨h.own.1, ?_⟩
  rcases h.own.2 with h1 | ⟨a, cap', cur, h1, hb', hrow, hrest⟩
  ·exact .inl h1
  ·exact .inr ⟨a, cap', cur, h1, hb', row' _ _ _ _ hrow, hrest⟩
 ·obtain ⟨cur, t, fr, h1, h2, h3⟩ := h.nm; exact ⟨cur, t, fr, row' _ _ _ _ h1, h2, h3⟩
 ·refine ⟨Nat.le_trans h.kx.size hg.size, fun k o hk hb hn => ?_⟩
  have h1 := h.kx.kept k o hk hb hn
  have hlt := (Array.getElem?_eq_some_iff.1 hk).1
  exact (hg.block k (Array.getElem?_eq_some_iff.1 h1).1 (fun e => by have := (hr k e.symm).1; have := hf.ws; omega)).trans h1
theorem PassI.next (h : PassI base g room b parts gn nn cn Z nms w s W xs ops A m cap names k) (hf : PassF base w b gn s) (hk : KX b W W') {ys : List Fil} {ops' : Int} {k' : Nat} (hs : SA ⟨base, W'⟩ g room false 0 ops' ys W') (hr : RunsAt9 W' b g parts (some ⟨gn, 0, none⟩) nn cn k') :
  PassI base g room b parts gn nn cn Z nms w s W' ys ops' A m cap names k' := by
 have h1 := hf.hb; have h2 := hf.ws
 exact ⟨hk.row (by omega) h.r0 (not_st (by decide) (by decide) (by decide)), hk.row (by omega) h.r1 (not_st (by decide) (by decide) (by decide)), hk.row (by omega) h.r2 (not_st (by decide) (by decide) (by decide)), hk.row (by omega) h.r3 (not_st (by decide) (by decide) (by decide)), hk.row (by omega) h.r4 (not_st (by decide) (by decide) (by decide)),
  h.own.kx hk (by omega), hs, hr, h.nm.kx hk hf.hgn, Nat.le_trans h.size hk.size, h.kx.trans hk⟩
theorem SA.grownT {W : Bs} {w w' : World} {armed : Int} {off : Bool} (h : SA W g room off armed ops xs w) {row : Option Nat} (hg : w.grownBy w' row) (hr : ∀ r, row = some r → W.b.heap.size ≤ r ∧ ∀ cs t fr, w.heap[r]? = some (.cells cs t fr) → ¬ StT t) : SA ⟨W.b, w'⟩ g room off armed ops xs w' := by
 have row' : ∀ (k : Nat) (cs : Array Value) (t : TypeId) (fr : Nat × Nat), w.heap[k]? = some (Obj.cells cs t fr) → StT t → w'.heap[k]? = some (Obj.cells cs t fr) := fun k cs t fr hk ht =>
  (hg.block k (Array.getElem?_eq_some_iff.1 hk).1 (fun e => (hr k e.symm).2 cs t fr hk ht)).trans hk
 have hB : W.grownBy w (some g) → Bs.grownBy ⟨W.b, w'⟩ w' (some g) := fun h => ⟨⟨hg.os.trans h.gb.os, hg.tape.trans h.gb.tape, hg.output.trans h.gb.output, Nat.le_trans h.gb.size hg.size, fun k hk hn => by
  have hk' : k < W.b.heap.size := hk
  have h1 := h.gb.block k hk' hn
  refine (hg.block k (Nat.lt_of_lt_of_le hk' h.gb.size) (fun e => ?_)).trans h1
  have := (hr k e.symm).1; omega⟩, KF.refl _⟩
 rcases h with ⟨e, h⟩ | ⟨f, fcap, r, h⟩
 ·exact .inl ⟨e, hB h.below, row' _ _ _ _ h.st (.inl rfl)⟩
 ·refine .inr ⟨f, fcap, r, hB h.below, h.fbase, h.ne, row' _ _ _ _ h.st (.inl rfl), row' _ _ _ _ h.fl (.inr (.inl rfl)), h.fc, fun k x hx => ?_, h.sg, h.sf, h.ap⟩
  have ho := h.own k x hx
  refine ⟨⟨ho.1.1, ?_⟩, ho.2⟩
  rcases ho.1.2 with h1 | ⟨a, cap', cur, h1, hb', hrow, hrest⟩
  ·exact .inl h1
  ·exact .inr ⟨a, cap', cur, h1, hb', row' _ _ _ _ hrow (.inr (.inr rfl)), hrest⟩
theorem PassI.put (h : PassI base g room b parts gn nn cn Z nms w s W xs ops A m cap names k) (hf : PassF base w b gn s) {t : ByteArray} {v : World} {A' : Option Addr} {cap' : Nat} (ho : OwnT v (s + 5) A' (m + 1) cap' (names ++ [t])) (hg : (W.alloc (.cells #[.string t] 9)).grownBy v (A.map (·.block))) :
  PassI base g room b parts gn nn cn Z nms w s (v.setCell ⟨s + 2, 0, none⟩ (.slice A' (m + 1) cap')) xs ops A' (m + 1) cap' (names ++ [t]) k ∧ (W.heap.size ≤ (v.setCell ⟨s + 2, 0, none⟩ (.slice A' (m + 1) cap')).heap.size ∧ ∀ (j : Nat) (o : Obj), W.heap[j]? = some o → o.isCells = false → (v.setCell ⟨s + 2, 0, none⟩ (.slice A' (m + 1) cap')).heap[j]? = some o) ∧ v.heap[s + 2]? = some (.cells #[.slice A m cap] 37 (0, 0)) := by
 have hsz := h.size
 have hA : ∀ r, A.map (·.block) = some r → s + 5 ≤ r ∧ ∃ cs fr, W.heap[r]? = some (.cells cs 9 fr) := fun r hr => by
  rcases h.own.2 with ⟨e0, e1⟩ | ⟨q, cap', cur, e0, hb, hq, -⟩
  ·injection e0 with e0 _ _; rw [e0] at hr; cases hr
  ·injection e0 with e0 _ _; rw [e0] at hr; injection hr with hr; subst hr; exact ⟨hb, _, _, hq⟩
 have hal : ∀ (j : Nat) (o : Obj), W.heap[j]? = some o → (W.alloc (.cells #[.string t] 9)).heap[j]? = some o := fun j o hj => by
  have := (Array.getElem?_eq_some_iff.1 hj).1
  show (W.heap.push _)[j]? = _
  rw [Array.getElem?_push, if_neg (by omega)]; exact hj
 have row' : ∀ (j : Nat) (o : Obj), W.heap[j]? = some o → A.map (·.block) ≠ some j → v.heap[j]? = some o := fun j o hj hn =>
  (hg.block j (Array.getElem?_eq_some_iff.1 (hal j o hj)).1 (fun e => hn e.symm)).trans (hal j o hj)
 have low : ∀ (j : Nat) (o : Obj), j < s + 5 → W.heap[j]? = some o → v.heap[j]? = some o := fun j o hj hk => row' j o hk (fun e => by have := (hA j e).1; omega)
 have typ : ∀ (j : Nat) (cs : Array Value) (ty : TypeId) (fr : Nat × Nat), ty ≠ 9 → W.heap[j]? = some (.cells cs ty fr) → v.heap[j]? = some (.cells cs ty fr) := fun j cs ty fr ht hk => row' j _ hk (fun e => by
  obtain ⟨-, cs', fr', h1⟩ := hA j e
  rw [hk] at h1; injection h1 with h1; injection h1 with _ h1 _; exact ht h1)
 have h1 := hf.hb; have h2 := hf.ws; have h3 := hf.bs
 have v2 := low (s + 2) _ (by omega) h.r2
 have vr : v.heap[b]? = _ := low b _ (by omega) h.runs
 have hsa := ((h.sa.next ((Below.refl _ W).alloc (Nat.le_refl _) (.cells #[.string t] 9))).grownT hg (fun r hr => ⟨by have := (hA r hr).1; show base.heap.size ≤ r; omega, fun cs ty fr hk => by
  obtain ⟨-, cs', fr', h1⟩ := hA r hr
  rw [hal r _ h1] at hk; injection hk with hk; injection hk with _ hk _; rw [← hk]; exact not_st (by decide) (by decide) (by decide)⟩)).setB (s + 2) 0 (.slice A' (m + 1) cap') v2 (not_st (by decide) (by decide) (by decide)) (by show base.heap.size ≤ s + 2; omega)
 have hsv : W.heap.size ≤ v.heap.size := by have := hg.size; simp at this; omega
 refine ⟨⟨row_far (by omega) (low s _ (by omega) h.r0), row_far (by omega) (low (s + 1) _ (by omega) h.r1), row_set v2 0 _, row_far (by omega) (low (s + 3) _ (by omega) h.r3), row_far (by omega) (low (s + 4) _ (by omega) h.r4), ?_, hsa, row_far (by omega) vr, ?_, by rw [setCell_size]; omega, ⟨by rw [setCell_size]; have := h.kx.size; omega, fun j o hj hb hn => ?_⟩⟩, ⟨by rw [setCell_size]; exact hsv, fun j o hj hc => ?_⟩, v2⟩
 ·refine ⟨ho.1, ?_⟩
  rcases ho.2 with h1 | ⟨a, cap', cur, h1, hb', hrow, hrest⟩
  ·exact .inl h1
  ·exact .inr ⟨a, cap', cur, h1, hb', row_far (by omega) hrow, hrest⟩
 ·obtain ⟨cur, ty, fr, q1, q2, q3⟩ := h.nm
  have h4 := hf.gl
  exact ⟨cur, ty, fr, row_far (by omega) (low gn _ (by omega) q1), q2, q3⟩
 ·have hlt := (Array.getElem?_eq_some_iff.1 hj).1
  exact row_far (by omega) (low j o (by omega) (h.kx.kept j o hj hb hn))
 ·have hne : s + 2 ≠ j := fun e => by subst e; rw [h.r2] at hj; injection hj with hj; subst hj; cases hc
  exact row_far hne (row' j o hj (fun e => by
   obtain ⟨-, cs', fr', q1⟩ := hA j e
   rw [hj] at q1; injection q1 with q1; subst q1; cases hc))
end
structure PassW (w : World) (s b gn nn cn Z : Nat) (W4 : World) : Prop where
 r0 : W4.heap[s]? = some (.cells #[.pointer (some ⟨b, 0, none⟩)] 68 (0, 0))
 r1 : W4.heap[s + 1]? = some (.cells #[.int .i64 0] 28 (0, 0))
 r2 : W4.heap[s + 2]? = some (.cells #[.slice none 0 0] 37 (0, 0))
 r3 : W4.heap[s + 3]? = some (.cells #[.slice (some ⟨gn, 0, none⟩) nn cn] 37 (0, 0))
 r4 : W4.heap[s + 4]? = some (.cells #[.int .i64 (Z : Int)] 3 (0, 0))
 size : W4.heap.size = s + 5
 below : Below s w W4
theorem pw_new (w : World) (b gn nn cn Z : Nat) : PassW w w.heap.size b gn nn cn Z (((((w.alloc (.cells #[.pointer (some ⟨b, 0, none⟩)] 68)).alloc (.cells #[.int .i64 0] 28)).alloc (.cells #[.slice none 0 0] 37)).alloc (.cells #[.slice (some ⟨gn, 0, none⟩) nn cn] 37)).alloc (.cells #[.int .i64 (Z : Int)] 3)) := by
 have e0 : ∀ (w : World) (o : Obj), (w.alloc o).heap = w.heap.push o := fun _ _ => rfl
 refine ⟨?_, ?_, ?_, ?_, ?_, ?_, ?_⟩
 ·simp only [e0, Array.getElem?_push, Array.size_push]; rw [if_neg (by omega), if_neg (by omega), if_neg (by omega), if_neg (by omega)]; simp
 ·simp only [e0, Array.getElem?_push, Array.size_push]; rw [if_neg (by omega), if_neg (by omega), if_neg (by omega)]; simp
 ·simp only [e0, Array.getElem?_push, Array.size_push]; rw [if_neg (by omega), if_neg (by omega)]; simp
 ·simp only [e0, Array.getElem?_push, Array.size_push]; rw [if_neg (by omega)]; simp
 ·simp only [e0, Array.getElem?_push, Array.size_push]; simp
 ·simp [e0]
 ·exact (((((Below.refl _ _).alloc (Nat.le_refl _) _).alloc (by simp) _).alloc (by simp; omega) _).alloc (by simp; omega) _).alloc (by simp; omega) _
end Go.Proofs.YtjldamkmdkaiiaaGreatDoor
