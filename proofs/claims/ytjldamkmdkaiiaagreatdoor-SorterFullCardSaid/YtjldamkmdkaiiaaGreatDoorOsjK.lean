/-
  Layer sorter: merge of two runs or more, where the power may go off, or there may be no room.
-/
import Derived.Test.YtjldamkmdkaiiaaGreatDoorOjK
import Derived.Shelf.Strconv.Itoa3
import Derived.Test.YtjldamkmdkaiiaaGreatDoorOsgK
set_option linter.unusedSimpArgs false
set_option linter.unusedVariables false
set_option maxRecDepth 8000
namespace Go.Proofs.YtjldamkmdkaiiaaGreatDoor
open Go.RowKit Go.WideShapes Col Go.Sort
def rn (dgs : Nat → ByteArray) (k : Nat) : ByteArray := { data := #[114, 117, 110, 46] } ++ dgs k
structure Namer (dgs : Nat → ByteArray) : Prop where
 size : ∀ k, k < 1000 → (dgs k).size ≤ 20
 form : ∀ k, k < 1000 → formK (rn dgs k) = true
 inj : ∀ j k, j < 1000 → k < 1000 → j ≠ k → cmpKF (rn dgs j) (rn dgs k) ≠ 0
 itoa : ∀ k : Nat, k < 1000 → ∀ w', PowAt w' → Calls Tryz.prog 68 #[.int .i64 (k : Int)] w' fun e w2 => e = .returned (.string (dgs k)) ∧ Below w'.heap.size w' w2
theorem Namer.rsize {dgs : Nat → ByteArray} (h : Namer dgs) {k : Nat} (hk : k < 1000) : (rn dgs k).size ≤ 2000 := by
 unfold rn; rw [ByteArray.size_append]
 have h4 : ({ data := #[114, 117, 110, 46] } : ByteArray).size = 4 := rfl
 have := h.size k hk; omega
def mgL (ls : List (List Ev)) : List Ev := isort ltM (canL ls).flatten
theorem mgL_len (ls : List (List Ev)) : (mgL ls).length = ls.flatten.length := by
 unfold mgL canL; rw [isort_len, ← List.map_flatten, List.length_map]
theorem canE_canE (x : Ev) : canE (canE x) = canE x := by unfold canE; rw [Fl.canon_canon]
theorem mgL_mem {ls : List (List Ev)} {x : Ev} (h : x ∈ mgL ls) : ∃ l ∈ ls, ∃ y ∈ l, x = canE y := by
 obtain ⟨r, hr9, hx9⟩ := List.mem_flatten.1 (isort_memM _ _ h)
 obtain ⟨l, hl, rfl⟩ := List.mem_map.1 hr9
 obtain ⟨y, hy, rfl⟩ := List.mem_map.1 hx9
 exact ⟨l, hl, y, hy, rfl⟩
theorem mgL_can (ls : List (List Ev)) : (mgL ls).map canE = mgL ls := by
 conv => rhs; rw [← List.map_id (mgL ls)]
 exact List.map_congr_left fun x hx => by obtain ⟨l, -, y, -, rfl⟩ := mgL_mem hx; exact canE_canE y
structure Good (parts : Int) (l : List Ev) : Prop where
 pos : 0 < l.length
 fine : ∀ x ∈ l, FineE x
 form : ∀ x ∈ l, formB x parts = true
 ord : Ordered ltM (l.map canE)
theorem Good.merged {parts : Int} {ls : List (List Ev)} (h : ∀ l ∈ ls, Good parts l) (hne : ls ≠ []) : Good parts (mgL ls) := by
 refine ⟨?_, fun x hx => ?_, fun x hx => ?_, by rw [mgL_can]; exact isort_ordered wkE _⟩
 ·rw [mgL_len]
  rcases ls with _ | ⟨l, r⟩
  ·exact absurd rfl hne
  ·have := (h l (List.mem_cons_self ..)).pos
   rw [List.flatten_cons, List.length_append]; omega
 ·obtain ⟨l, hl, y, hy, rfl⟩ := mgL_mem hx; exact ((h l hl).fine y hy).can
 ·obtain ⟨l, hl, y, hy, rfl⟩ := mgL_mem hx; rw [form_canE]; exact (h l hl).form y hy
theorem Good.bytes {parts : Int} {l : List Ev} (h : Good parts l) (hn : l.length ≤ 320) : (runB l).length ≤ 331 * l.length := by
 rw [runB_len]; have := evY_lin l h.fine hn; have := h.pos; omega
def evP (ps : List (Nat × List Ev)) : List (List Ev) := ps.map (·.2)
def nmP (dgs : Nat → ByteArray) (ps : List (Nat × List Ev)) : List ByteArray := ps.map fun p => rn dgs p.1
theorem runsLen_append (a b : List (List Ev)) : runsLen (a ++ b) = runsLen a + runsLen b := by unfold runsLen; rw [List.map_append, List.sum_append]
structure RS (TT : Nat) (dgs : Nat → ByteArray) (parts : Int) (nb bb : Nat) (xs : List Fil) (ps : List (Nat × List Ev)) (laid : Nat) : Prop where
 rises : Rises xs
 lt : ∀ p ∈ ps, p.1 < laid
 dis : ps.Pairwise fun a b => a.1 ≠ b.1
 run : ∀ p ∈ ps, Run xs (rn dgs p.1) p.2
 fresh : ∀ i, laid ≤ i → i < 1000 → ∀ x ∈ xs, cmpKF x.name (rn dgs i) ≠ 0
 num : xs.length = nb + ps.length
 sum : sumN xs = bb + runsLen (evP ps)
 good : ∀ p ∈ ps, Good parts p.2
 tot : (evP ps).flatten.length ≤ min TT 320
theorem RS.merge {TT : Nat} {dgs : Nat → ByteArray} {parts : Int} {nb bb : Nat} {xs ys zs : List Fil} {A C D : List (Nat × List Ev)} {k : Nat} (hN : Namer dgs) (h : RS TT dgs parts nb bb xs (A ++ C ++ D) k) (hk : k < 1000) (hne : C ≠ [])
  (hT : Taken (nmP dgs C) (runsLen (evP C)) xs ys) (hAp : AppRel ys (rn dgs k) (runB (mgL (evP C))) zs) : RS TT dgs parts nb bb zs (A ++ [(k, mgL (evP C))] ++ D) (k + 1) := by
 have hno : ∀ x ∈ ys, cmpKF x.name (rn dgs k) ≠ 0 := fun x hx => h.fresh k (Nat.le_refl _) hk x ((hT.mem x).1 hx).1
 obtain ⟨Aa, c, hm, hl⟩ := app_new hno hAp
 have hf := hAp.facts hT.rises
 have hAD : ∀ p, p ∈ A ∨ p ∈ D → p ∈ A ++ C ++ D := fun p hp => by
  rw [List.mem_append, List.mem_append]; exact hp.elim (fun h => .inl (.inl h)) .inr
 have hmem : ∀ p, p ∈ A ++ [(k, mgL (evP C))] ++ D → p = (k, mgL (evP C)) ∨ (p ∈ A ∨ p ∈ D) := fun p hp => by
  rw [List.mem_append, List.mem_append, List.mem_singleton] at hp
  exact hp.elim (fun h => h.elim (fun h => .inr (.inl h)) .inl) (fun h => .inr (.inr h))
 have hd := h.dis
 rw [List.append_assoc, List.pairwise_append, List.pairwise_append] at hd
 obtain ⟨dA, ⟨dC, dD, dCD⟩, dACD⟩ := hd
 have hgC : ∀ l ∈ evP C, Good parts l := fun l hl => by
  obtain ⟨p, hp, rfl⟩ := List.mem_map.1 hl
  exact h.good p (by rw [List.mem_append, List.mem_append]; exact .inl (.inr hp))
 have hMl := mgL_len (evP C)
 refine ⟨hf.1, fun p hp => ?_, ?_, fun p hp => ?_, fun i hi hi4 x hx => ?_, ?_, ?_, fun p hp => ?_, ?_⟩
 ·rcases hmem p hp with rfl | hp
  ·exact Nat.lt_succ_self _
  ·have := h.lt p (hAD p hp); omega
 ·rw [List.append_assoc, List.pairwise_append]
  refine ⟨dA, ?_, fun a ha b hb => ?_⟩
  ·rw [List.singleton_append, List.pairwise_cons]
   exact ⟨fun b hb => by have := h.lt b (hAD b (.inr hb)); dsimp only; omega, dD⟩
  ·rw [List.singleton_append, List.mem_cons] at hb
   rcases hb with rfl | hb
   ·have := h.lt a (hAD a (.inl ha)); dsimp only; omega
   ·exact dACD a ha b (List.mem_append_right _ hb)
 ·rcases hmem p hp with rfl | hp
  ·exact Run.new hno hAp (hN.rsize hk) (hN.form k hk)
  ·refine Run.lay hno hAp ((h.run p (hAD p hp)).keep hT fun t ht => ?_)
   obtain ⟨q, hq, rfl⟩ := List.mem_map.1 ht
   have h1 : q.1 < k := h.lt q (by rw [List.mem_append, List.mem_append]; exact .inl (.inr hq))
   have h2 : p.1 < k := h.lt p (hAD p hp)
   refine hN.inj _ _ (by omega) (by omega) ?_
   rcases hp with hp | hp
   ·exact (dACD p hp q (List.mem_append_left _ hq)).symm
   ·exact dCD q hq p hp
 ·rcases (hm x).1 hx with rfl | hx
  ·exact hN.inj k i hk hi4 (by omega)
  ·exact h.fresh i (by omega) hi4 x ((hT.mem x).1 hx).1
 ·have h1 := h.num; have h2 := hT.len
  unfold nmP at h2
  simp only [List.length_append, List.length_map, List.length_singleton] at h1 h2 ⊢; omega
 ·have h1 := h.sum; have h2 := hT.sum; have h3 := hf.2.1
  unfold evP at *
  rw [List.map_append, List.map_append, runsLen_append, runsLen_append] at h1 ⊢
  have h4 : runsLen (List.map (·.2) [(k, mgL (C.map (·.2)))]) = (runB (mgL (C.map (·.2)))).length := by simp [runsLen]
  rw [h4]; omega
 ·rcases hmem p hp with rfl | hp
  ·exact Good.merged hgC (by unfold evP; simpa using hne)
  ·exact h.good p (hAD p hp)
 ·have h1 := h.tot
  unfold evP at *
  simp only [List.map_append, List.flatten_append, List.length_append, List.map_cons, List.map_nil, List.flatten_cons, List.flatten_nil, List.append_nil] at h1 ⊢
  rw [hMl]; omega
def tvT (l : List ByteArray) : List Value := l.map .string
def OwnT (w : World) (B : Nat) (A : Option Addr) (n cap : Nat) (l : List ByteArray) : Prop := w.ownsRow B 9 1 (.slice A n cap) n (tvT l)
theorem OwnT.len {w : World} {B n cap : Nat} {A : Option Addr} {l : List ByteArray} (h : OwnT w B A n cap l) : n = l.length := by
 have := h.1; unfold tvT at this; rw [List.length_map] at this; omega
theorem OwnT.kf {w w' : World} {B n cap : Nat} {A : Option Addr} {l : List ByteArray} (h : OwnT w B A n cap l) (hk : KF w w') : OwnT w' B A n cap l := by
 refine ⟨h.1, ?_⟩
 rcases h.2 with h1 | ⟨g, cap', cur, h1, hb, hrow, hrest⟩
 ·exact .inl h1
 ·exact .inr ⟨g, cap', cur, h1, hb, hk.row hrow (not_st (by decide) (by decide) (by decide)), hrest⟩
theorem OwnT.nm {w : World} {B n cap : Nat} {A : Option Addr} {l : List ByteArray} (h : OwnT w B A n cap l) (h0 : 0 < n) : ∃ q, A = some ⟨q, 0, none⟩ ∧ B ≤ q ∧ NmAt w q 0 l := by
 have hl := h.len
 rcases h.2 with ⟨h1, h2⟩ | ⟨g, cap', cur, h1, hb, hrow, hn, hm, hs, ht⟩
 ·omega
 ·injection h1 with h1 _ _
  refine ⟨g, h1, hb, cur, _, _, hrow, not_st (by decide) (by decide) (by decide), fun j s hj => ?_⟩
  have hjl := (List.getElem?_eq_some_iff.1 hj).1
  have e : (cur.toList.take (n * 1))[j]? = (tvT l)[j]? := by rw [ht]
  rw [List.getElem?_take, if_pos (by omega)] at e
  rw [Nat.zero_add, ← Array.getElem?_toList, e]; unfold tvT; rw [List.getElem?_map, hj]; rfl
structure KX (b : Nat) (V w : World) : Prop where
 size : V.heap.size ≤ w.heap.size
 kept : ∀ (k : Nat) (o : Obj), V.heap[k]? = some o → k ≠ b → (∀ cs t fr, o = .cells cs t fr → ¬ StT t) → w.heap[k]? = some o
theorem KX.of_kf {b : Nat} {V w : World} (h : KF V w) : KX b V w := ⟨h.size, fun k o hk _ hn => h.kept k o hk hn⟩
theorem KX.trans {b : Nat} {u v w : World} (h : KX b u v) (h' : KX b v w) : KX b u w := ⟨Nat.le_trans h.size h'.size, fun k o hk hb hn => h'.kept k o (h.kept k o hk hb hn) hb hn⟩
theorem KX.of_set {b i : Nat} {V w : World} {v : Value} (h : KF (V.setCell ⟨b, i, none⟩ v) w) : KX b V w := ⟨by have := h.size; rwa [setCell_size] at this, fun k o hk hb hn => h.kept k o (row_far (Ne.symm hb) hk) hn⟩
theorem KX.row {b : Nat} {w w' : World} {k : Nat} {cs : Array Value} {t : TypeId} {fr : Nat × Nat} (h : KX b w w') (hb : k ≠ b) (hr : w.heap[k]? = some (.cells cs t fr)) (ht : ¬ StT t) : w'.heap[k]? = some (.cells cs t fr) :=
 h.kept k _ hr hb fun cs' t' fr' e => by injection e with _ e _; rw [← e]; exact ht
theorem OwnT.kx {w w' : World} {b B n cap : Nat} {A : Option Addr} {l : List ByteArray} (h : OwnT w B A n cap l) (hk : KX b w w') (hb : b < B) : OwnT w' B A n cap l := by
 refine ⟨h.1, ?_⟩
 rcases h.2 with h1 | ⟨g, cap', cur, h1, hb', hrow, hrest⟩
 ·exact .inl h1
 ·exact .inr ⟨g, cap', cur, h1, hb', hk.row (by omega) hrow (not_st (by decide) (by decide) (by decide)), hrest⟩
theorem NmAt.kx {w w' : World} {b gn on : Nat} {nms : List ByteArray} (h : NmAt w gn on nms) (hk : KX b w w') (hb : gn ≠ b) : NmAt w' gn on nms := by
 obtain ⟨cur, t, fr, h1, h2, h3⟩ := h; exact ⟨cur, t, fr, hk.row hb h1 h2, h2, h3⟩
theorem runsLen_good {parts : Int} (ls : List (List Ev)) (h : ∀ l ∈ ls, Good parts l) (ht : ls.flatten.length ≤ 320) : runsLen ls ≤ 331 * ls.flatten.length := by
 induction ls with
 | nil => exact Nat.le_refl _
 | cons a r ih =>
  rw [List.flatten_cons, List.length_append] at ht
  have h1 := (h a (List.mem_cons_self ..)).bytes (by omega)
  have h2 := ih (fun l hl => h l (List.mem_cons_of_mem _ hl)) (by omega)
  have h3 : runsLen (a :: r) = (runB a).length + runsLen r := by simp [runsLen]
  rw [h3, List.flatten_cons, List.length_append]; omega
def mrgP (k : Nat) : List (Nat × List Ev) → (Nat × List Ev) × Nat
 | [p] => (p, k)
 | C => ((k, mgL (evP C)), k + 1)
section
variable {W : Bs} {g : Nat} {room ops : Int} {xs : List Fil}
set_option maxHeartbeats 4000000 in
theorem merge_one (b gn on c : Nat) (t : ByteArray) (w : World) (hc : w.cell? ⟨gn, on, none⟩ = some (.string t)) :
  Calls Tryz.prog 60 #[.pointer (some ⟨b, 0, none⟩), .slice (some ⟨gn, on, none⟩) 1 c] w fun e w' => e = .returned (.tuple #[.string t, .int .i64 0]) ∧ w' = w := by
 go_enter Tryz.func60, Tryz.ntmps60
 go_wp2
 exact bodyPost_ret (results_tmp2O rfl _ _ _) rfl ⟨rfl, rfl⟩
theorem merge_any {TT : Nat} {dgs : Nat → ByteArray} (hNm : Namer dgs) (b : Nat) (parts : Int) (N : Option Addr) (nn cn k : Nat) (gn on n c nb bb : Nat) (A C D : List (Nat × List Ev)) (hn : n = C.length) (hn1 : 1 ≤ n) (hn16 : n ≤ 16) (w : World) (HN : NmAt w gn on (nmP dgs C))
  (HRS : RS TT dgs parts nb bb xs (A ++ C ++ D) k) (hk : k < 999)
  (hs : SA W g room false 0 ops xs w) (h : 0 ≤ ops ∧ ops < 900000000) (HR : RunsAt9 w b g parts N nn cn k) (HG : TabsAt W.b) (hg : W.heap.size ≤ g) (hbW : W.b.heap.size ≤ b)
  (hx5 : xs.length < 500) (hroom : room ≤ 16777216) (hfit : ((bb + 700 * TT : Nat) : Int) ≤ room) :
  Calls Tryz.prog 60 #[.pointer (some ⟨b, 0, none⟩), .slice (some ⟨gn, on, none⟩) n c] w fun e w' => e = .returned (.tuple #[.string (rn dgs (mrgP k C).1.1), .int .i64 0]) ∧ ∃ zs ops', RS TT dgs parts nb bb zs (A ++ [(mrgP k C).1] ++ D) (mrgP k C).2 ∧ SA ⟨W.b, w'⟩ g room false 0 ops' zs w' ∧ 0 ≤ ops' ∧ ops' ≤ ops + 20 ∧ RunsAt9 w' b g parts N nn cn (mrgP k C).2 ∧ KX b w w' ∧ (∀ y ∈ zs, y ∈ xs ∨ y.name = rn dgs k) ∧ (2 ≤ C.length → ∀ p ∈ C, ∀ y ∈ zs, cmpKF y.name (rn dgs p.1) ≠ 0) := by
 rcases C with _ | ⟨p, _ | ⟨q, C⟩⟩
 ·simp at hn; omega
 ·have hn0 : n = 1 := hn
  subst hn0
  have hc := HN.cell (j := 0) (s := rn dgs p.1) rfl
  rw [Nat.add_zero] at hc
  refine (merge_one b gn on c (rn dgs p.1) w hc).mono ?_
  rintro e w' ⟨rfl, rfl⟩
  exact ⟨rfl, xs, ops, HRS, hs.now, h.1, by omega, HR, KX.of_kf (KF.refl _), fun y hy => .inl hy, fun h2 => absurd h2 (by simp)⟩
 ·have hn2 : 2 ≤ n := by rw [hn]; simp
  have e : mrgP k (p :: q :: C) = ((k, mgL (evP (p :: q :: C))), k + 1) := rfl
  rw [e]
  generalize p :: q :: C = C' at *
  have hsub : ∀ u ∈ C', u ∈ A ++ C' ++ D := fun u hu => by rw [List.mem_append, List.mem_append]; exact .inl (.inr hu)
  have hgood : ∀ l ∈ evP C', Good parts l := fun l hl => by
   obtain ⟨u, hu, rfl⟩ := List.mem_map.1 hl; exact HRS.good u (hsub u hu)
  have hgA : ∀ l ∈ evP (A ++ C' ++ D), Good parts l := fun l hl => by
   obtain ⟨u, hu, rfl⟩ := List.mem_map.1 hl; exact HRS.good u hu
  have htot := HRS.tot
  have hCt : (evP C').flatten.length ≤ min TT 320 := by
   unfold evP at htot ⊢
   simp only [List.map_append, List.flatten_append, List.length_append] at htot; omega
  have hne : C' ≠ [] := fun e => by rw [e] at hn; simp at hn; omega
  have hM := (Good.merged hgood (by unfold evP; simpa using hne)).bytes (by rw [mgL_len]; omega)
  rw [mgL_len] at hM
  have hL := runsLen_good _ hgA (by omega)
  have hd := HRS.dis
  rw [List.append_assoc, List.pairwise_append, List.pairwise_append] at hd
  have hsum := HRS.sum
  refine (merge_many (W := W) (xs := xs) (ops := ops) (g := g) (room := room) (nm := rn dgs k) (dg := dgs k) b parts N nn cn k gn on n c (nmP dgs C') (evP C') (Lib.hid ⟨by unfold nmP; rw [List.length_map]; exact hn, by unfold evP; rw [List.length_map]; exact hn⟩) hn2 hn16 w (Lib.hid HN)
   (Lib.hid ?_) (Lib.hid fun j t l ht hl => ?_) (Lib.hid fun l hl => (hgood l hl).pos) (Lib.hid (by omega)) (Lib.hid fun l hl => (hgood l hl).fine) (Lib.hid fun l hl => (hgood l hl).form) (Lib.hid fun l hl => (hgood l hl).ord) (Lib.hid hs) (Lib.hid h) (Lib.hid HR) (by omega) (Lib.hid HG) hg hbW
   (Lib.hid (hNm.itoa k (by omega))) (hNm.size k (by omega)) (Lib.hid rfl) (hNm.form k (by omega)) HRS.rises hx5 hroom (by omega) (Lib.hid ?_)).mono ?_
  ·unfold nmP
   rw [List.pairwise_map]
   refine (hd.2.1.1).imp_of_mem fun {u v} hu hv huv => ?_
   have := HRS.lt u (hsub u hu); have := HRS.lt v (hsub v hv)
   exact hNm.inj _ _ (by omega) (by omega) huv
  ·unfold nmP at ht; unfold evP at hl
   rw [List.getElem?_map] at ht hl
   rcases hu : C'[j]? with _ | u
   ·rw [hu] at ht; cases ht
   ·rw [hu] at ht hl; injection ht with ht; injection hl with hl
    subst ht; subst hl
    exact HRS.run u (hsub u (List.mem_of_getElem? hu))
  ·rw [hsum]; unfold mgL at hM; omega
  ·rintro e w' ⟨rfl, hkf, ys, zs, hT, hA, hS⟩
   refine ⟨rfl, zs, ops + n + 1, RS.merge hNm HRS (by omega) hne hT hA, hS, by omega, by omega, ?_, KX.of_set hkf, fun y hy => ?_, fun _ p hp y hy => ?_⟩
   rotate_right 2
   ·obtain ⟨Aa, c9, hm9, -⟩ := app_new (fun x hx => HRS.fresh k (Nat.le_refl _) (by omega) x ((hT.mem x).1 hx).1) hA
    rcases (hm9 y).1 hy with rfl | h9
    ·exact .inr rfl
    ·exact .inl ((hT.mem y).1 h9).1
   ·obtain ⟨Aa, c9, hm9, -⟩ := app_new (fun x hx => HRS.fresh k (Nat.le_refl _) (by omega) x ((hT.mem x).1 hx).1) hA
    have hpk := HRS.lt p (hsub p hp)
    rcases (hm9 y).1 hy with rfl | h9
    ·exact hNm.inj _ _ (by omega) (by omega) (by omega)
    ·have h8 := ((hT.mem y).1 h9).2 (rn dgs p.1) (List.mem_map.2 ⟨p, hp, rfl⟩)
     intro e; rw [ck_neg] at h8; omega
   exact RunsAt9.kf (row_set HR 3 _) hkf
end
def itoaLays_ren : Go.Shelf.Ren := ⟨fun | 171 => 68 | 243 => 82 | 246 => 103 | 283 => 131 | 284 => 132 | 285 => 133 | 286 => 134 | 129 => 148 | 317 => 164 | 318 => 165 | 319 => 166 | 320 => 167 | 337 => 188 | 338 => 189 | n => n, fun | 3 => 3 | 9 => 9 | 2 => 2 | 4 => 4 | 171 => 174 | 0 => 0 | 53 => 48 | 37 => 32 | 5 => 5 | 173 => 177 | 212 => 206 | 51 => 148 | 20 => 20 | 213 => 207 | 46 => 92 | 232 => 230 | 233 => 231 | n => n, fun | 17 => 3 | 18 => 4 | 19 => 5 | n => n⟩
theorem itoaLays : Go.Proofs.LaysM.n171 Tryz.prog itoaLays_ren := {
 mixed := by kernel_rfl
 f129 := Tryz.func148.trans (congrArg some (by kernel_rfl))
 f171 := Tryz.func68.trans (congrArg some (by kernel_rfl))
 f243 := Tryz.func82.trans (congrArg some (by kernel_rfl))
 f246 := Tryz.func103.trans (congrArg some (by kernel_rfl))
 f283 := Tryz.func131.trans (congrArg some (by kernel_rfl))
 f284 := Tryz.func132.trans (congrArg some (by kernel_rfl))
 f285 := Tryz.func133.trans (congrArg some (by kernel_rfl))
 f286 := Tryz.func134.trans (congrArg some (by kernel_rfl))
 f317 := Tryz.func164.trans (congrArg some (by kernel_rfl))
 f318 := Tryz.func165.trans (congrArg some (by kernel_rfl))
 f319 := Tryz.func166.trans (congrArg some (by kernel_rfl))
 f320 := Tryz.func167.trans (congrArg some (by kernel_rfl))
 f337 := Tryz.func188.trans (congrArg some (by kernel_rfl))
 f338 := Tryz.func189.trans (congrArg some (by kernel_rfl))
 t0 := Tryz.underlying0
 a0 := Tryz.isAgg0
 z0 := Tryz.sizeOf0
 v0 := Tryz.zeroValue0
 t2 := Tryz.underlying2
 a2 := Tryz.isAgg2
 z2 := Tryz.sizeOf2
 v2 := Tryz.zeroValue2
 t3 := Tryz.underlying3
 a3 := Tryz.isAgg3
 z3 := Tryz.sizeOf3
 v3 := Tryz.zeroValue3
 t4 := Tryz.underlying4
 a4 := Tryz.isAgg4
 z4 := Tryz.sizeOf4
 v4 := Tryz.zeroValue4
 t5 := Tryz.underlying5
 a5 := Tryz.isAgg5
 z5 := Tryz.sizeOf5
 v5 := Tryz.zeroValue5
 t9 := Tryz.underlying9
 a9 := Tryz.isAgg9
 z9 := Tryz.sizeOf9
 v9 := Tryz.zeroValue9
 t20 := Tryz.underlying20
 a20 := Tryz.isAgg20
 z20 := Tryz.sizeOf20
 v20 := Tryz.zeroValue20
 t37 := Tryz.underlying32
 a37 := Tryz.isAgg32
 z37 := Tryz.sizeOf32
 v37 := Tryz.zeroValue32
 t46 := Tryz.underlying92
 a46 := Tryz.isAgg92
 z46 := Tryz.sizeOf92
 v46 := Tryz.zeroValue92
 t51 := Tryz.underlying148
 a51 := Tryz.isAgg148
 z51 := Tryz.sizeOf148
 v51 := Tryz.zeroValue148
 t53 := Tryz.underlying48
 a53 := Tryz.isAgg48
 z53 := Tryz.sizeOf48
 v53 := Tryz.zeroValue48
 t171 := Tryz.underlying174
 a171 := Tryz.isAgg174
 z171 := Tryz.sizeOf174
 v171 := Tryz.zeroValue174
 t173 := Tryz.underlying177
 a173 := Tryz.isAgg177
 z173 := Tryz.sizeOf177
 v173 := Tryz.zeroValue177
 t212 := Tryz.underlying206
 a212 := Tryz.isAgg206
 z212 := Tryz.sizeOf206
 v212 := Tryz.zeroValue206
 t213 := Tryz.underlying207
 a213 := Tryz.isAgg207
 z213 := Tryz.sizeOf207
 t232 := Tryz.underlying230
 a232 := Tryz.isAgg230
 z232 := Tryz.sizeOf230
 v232 := Tryz.zeroValue230
 t233 := Tryz.underlying231
 a233 := Tryz.isAgg231
 z233 := Tryz.sizeOf231
 v233 := Tryz.zeroValue231
 g17 := by kernel_rfl
 g18 := by kernel_rfl
 g19 := by kernel_rfl
 i0 := by kernel_rfl
 i2 := by kernel_rfl
 i3 := by kernel_rfl
 i4 := by kernel_rfl
 i5 := by kernel_rfl
 i9 := by kernel_rfl
 i20 := by kernel_rfl
 i37 := by kernel_rfl
 i46 := by kernel_rfl
 i51 := by kernel_rfl
 i53 := by kernel_rfl
 i171 := by kernel_rfl
 i173 := by kernel_rfl
 i212 := by kernel_rfl
 i232 := by kernel_rfl
 i233 := by kernel_rfl
 m17 := by kernel_rfl
 m18 := by kernel_rfl
 m19 := by kernel_rfl }
def dgI (k : Nat) : ByteArray := ⟨(Lib.decDigits k).toArray⟩
theorem dd_mem (u : Nat) : ∀ b ∈ Lib.decDigits u, 48 ≤ b.toNat ∧ b.toNat ≤ 57 := fun b hb => by
 rw [Lib.decDigits_eq] at hb
 obtain ⟨t, -, rfl⟩ := List.mem_map.1 hb
 have h : Lib.dg u (Lib.nDigits u - 1 - t) = UInt8.ofNat (48 + u / 10 ^ (Lib.nDigits u - 1 - t) % 10) := rfl
 have h2 := Nat.mod_lt (u / 10 ^ (Lib.nDigits u - 1 - t)) (show 0 < 10 by decide)
 rw [h, UInt8.toNat_ofNat', Nat.mod_eq_of_lt (by omega)]; omega
def ddVal (l : List UInt8) : Nat := l.foldl (fun a b => a * 10 + (b.toNat - 48)) 0
theorem ddVal_snoc (l : List UInt8) (b : UInt8) : ddVal (l ++ [b]) = ddVal l * 10 + (b.toNat - 48) := by unfold ddVal; rw [List.foldl_append]; rfl
theorem ddVal_dd : ∀ (n u : Nat), u < n → ddVal (Lib.decDigits u) = u := by
 intro n
 induction n with
 | zero => intro u h; omega
 | succ n ih =>
  intro u hu
  rw [Lib.decDigits]
  split
  ·rename_i h
   show 0 * 10 + ((UInt8.ofNat (48 + u)).toNat - 48) = u
   rw [UInt8.toNat_ofNat', Nat.mod_eq_of_lt (by omega)]; omega
  ·rename_i h
   rw [ddVal_snoc, ih (u / 10) (by omega), UInt8.toNat_ofNat', Nat.mod_eq_of_lt (by omega)]; omega
theorem dd_inj {j k : Nat} (h : Lib.decDigits j = Lib.decDigits k) : j = k := by
 rw [← ddVal_dd (j + 1) j (by omega), h, ddVal_dd (k + 1) k (by omega)]
theorem dg_size (k : Nat) : (dgI k).size = (Lib.decDigits k).length := by unfold dgI; simp [ByteArray.size]
theorem nd_3 {k : Nat} (h : k < 1000) : 1 ≤ (Lib.decDigits k).length ∧ (Lib.decDigits k).length ≤ 3 := by
 rw [Lib.decDigits_length]
 refine ⟨Lib.nDigits_pos k, ?_⟩
 by_cases h1 : k < 10
 ·rw [Lib.nDigits_small h1]; decide
 ·rw [Lib.nDigits_big h1]
  by_cases h2 : k / 10 < 10
  ·rw [Lib.nDigits_small h2]; decide
  ·rw [Lib.nDigits_big h2, Lib.nDigits_small (by omega)]; decide
theorem rn_list (k : Nat) : (rn dgI k).data.toList = [114, 117, 110, 46] ++ Lib.decDigits k := by
 unfold rn dgI; rw [ByteArray.data_append, Array.toList_append]
theorem namerI : Namer dgI where
 size k hk := by rw [dg_size]; have := nd_3 hk; omega
 form k hk := by
  have h1 := nd_3 hk
  have h4 : ({ data := #[114, 117, 110, 46] } : ByteArray).size = 4 := rfl
  have hs : (rn dgI k).size = 4 + (Lib.decDigits k).length := by unfold rn; rw [ByteArray.size_append, h4, dg_size]
  unfold formK
  rw [hs, rn_list, List.all_append]
  have h2 : (Lib.decDigits k).all (fun b => letK b.toNat) = true := List.all_eq_true.2 fun b hb => by
   have h3 := dd_mem k b hb
   unfold letK; simp [h3.1, h3.2]
  rw [h2, decide_eq_true (by omega), decide_eq_true (by omega)]; rfl
 inj j k hj hk hne h := hne (by
  have h1 := congrArg (fun b : ByteArray => b.data.toList) (ck_eq h)
  rw [rn_list, rn_list, List.append_cancel_left_eq] at h1
  exact dd_inj h1)
 itoa k hk w' hp := by
  have h := Any.strconv_Itoa itoaLays (k : Int) (by omega) (by omega) w' hp
  change Calls Tryz.prog 68 _ _ _ at h
  refine h.mono ?_
  rintro e w2 ⟨rfl, q, os, rfl⟩
  exact ⟨by rw [Lib.itoa_nonneg]; rfl, ⟨rfl, rfl, rfl, by show w'.heap.size ≤ (w'.heap ++ os).size; rw [Array.size_append]; omega, fun j hj => by show (w'.heap ++ os)[j]? = _; rw [Array.getElem?_append_left hj]⟩⟩
section
variable {W : Bs} {g : Nat} {room ops : Int} {pz : Bool} {xs : List Fil} {w : World}
theorem SZ.setF (h : SZ W g room pz ops xs w) (b i : Nat) (v : Value) {cs : Array Value} {t : TypeId} {fr : Nat × Nat} (hrow : w.heap[b]? = some (.cells cs t fr)) (ht : ¬ StT t) (hb : W.b.heap.size ≤ b) (hv : W.v.heap.size ≤ b) : SZ W g room pz ops xs (w.setCell ⟨b, i, none⟩ v) := by
 obtain ⟨a, ha, h⟩ := h
 exact ⟨a, ha, h.setF b i v hrow ht hb hv⟩
end
section
variable {W : Bs} {g : Nat} {room ops : Int} {pz : Bool} {xs : List Fil}
set_option maxHeartbeats 8000000 in
theorem merge_Z {nm dg : ByteArray} (b : Nat) (parts : Int) (N : Option Addr) (nn cn k : Nat) (gn on n c : Nat) (nms : List ByteArray) (ls : List (List Ev)) (hn : Hid (n = nms.length ∧ n = ls.length)) (hn2 : 2 ≤ n) (hn16 : n ≤ 16) (w : World) (HN : Hid (NmAt w gn on nms))
  (hdis : Hid (nms.Pairwise fun a b => cmpKF a b ≠ 0)) (hrun : Hid (∀ (j : Nat) (t : ByteArray) (l : List Ev), nms[j]? = some t → ls[j]? = some l → Run xs t l))
  (hpos : Hid (∀ l ∈ ls, 0 < l.length)) (hall : Hid (ls.flatten.length ≤ 320)) (hfin : Hid (∀ l ∈ ls, ∀ x ∈ l, FineE x)) (hfor : Hid (∀ l ∈ ls, ∀ x ∈ l, formB x parts = true)) (hord : Hid (∀ l ∈ ls, Ordered ltM (l.map canE)))
  (hs : Hid (SZ W g room pz ops xs w)) (h : Hid (0 ≤ ops ∧ ops < 800000000)) (HR : Hid (RunsAt9 w b g parts N nn cn k)) (hk : k < 1000000000) (HG : Hid (TabsAt W.b)) (hg : W.heap.size ≤ g) (hbW : W.b.heap.size ≤ b)
  (HIT : Hid (∀ w', PowAt w' → Calls Tryz.prog 68 #[.int .i64 (k : Int)] w' fun e w2 => e = .returned (.string dg) ∧ Below w'.heap.size w' w2)) (hdg : dg.size ≤ 20) (hnm : Hid (nm = { data := #[114, 117, 110, 46] } ++ dg))
  (hform : formK nm = true) (hN : Hid (Nms xs)) (hx5 : xs.length < 500) (hroom : room ≤ 16777216) (hr0 : 0 ≤ room) (hsum : Hid ((sumN xs : Int) ≤ room)) (F : Prop) (hF : Hid (F → ((runB (isort ltM (canL ls).flatten)).length : Int) + (sumN xs : Nat) ≤ room + (runsLen ls : Nat))) :
  Calls Tryz.prog 60 #[.pointer (some ⟨b, 0, none⟩), .slice (some ⟨gn, on, none⟩) n c] w fun e w' => (e = .returned (.tuple #[.string nm, .int .i64 0]) ∧ KF (w.setCell ⟨b, 3, none⟩ (.int .i64 ((k + 1 : Nat) : Int))) w' ∧ ∃ ys zs, Taken nms (runsLen ls) xs ys ∧ AppRel ys nm (runB (isort ltM (canL ls).flatten)) zs ∧ (sumN zs : Int) ≤ room ∧ Nms zs ∧ SZ ⟨W.b, w'⟩ g room pz (ops + n + 1) zs w') ∨ (∃ (t : ByteArray) (x : Int), e = .returned (.tuple #[.string t, .int .i64 x]) ∧ KX b w w' ∧ Bad W.b g room pz F x w') := by
 obtain ⟨i0, hi, hz0, hz1, hz2⟩ := info_parts infoSl
 have hz2' : i0.bytes * n ≤ 281474976710656 := by rw [hz2]; omega
 have hnml : n ≤ maxLen := by unfold maxLen; omega
 have hn1 : ¬ (n : Int) = 1 := by omega
 obtain ⟨tb, htb⟩ : ∃ tb, tb = w.heap.size := ⟨_, rfl⟩
 have HTB := Lib.hid htb
 clear htb
 go_enter Tryz.func60, Tryz.ntmps60
 go_wp2_with (refine wpList_make_full _ rfl (.tmp 20) (.tmp 20) 114 rfl w.heap.size 22 i0 (.slice none 0 0) 1 Tryz.underlying114 hi hz0 hz1 .i64 .i64 _ _ n rfl rfl rfl rfl hz2' hnml (Nat.le_refl _) ?_; intro w1 own hgr; rw [← HTB.out] at own ⊢; have HO := Lib.hid own; have HGR := Lib.hid hgr; clear own hgr)
 have HB1 : Hid (Below w.heap.size w w1) := Lib.hid ((Below.refl _ w).grown HGR.out (Nat.le_refl _) (by intro k hk; cases hk))
 have HS1 := Lib.hid (hs.out.next HB1.out)
 have hTK := rowz_sl w1.heap.size HO.out
 have HTL : Hid (tb < w1.heap.size) := Lib.hid (by obtain ⟨cur, h1, -⟩ := hTK.row; exact (Array.getElem?_eq_some_iff.1 h1).1)
 have HTK := Lib.hid hTK
 have HWV : Hid (W.b.heap.size ≤ tb ∧ W.v.heap.size ≤ tb) := Lib.hid ⟨by rw [HTB.out]; exact hs.out.below.gb.size, by rw [HTB.out]; exact hs.out.below.kf.size⟩
 clear hTK HO HGR
 go_loopw [24] (fun i wr => ∃ (q : Nat) (ys : List Fil) (S : List Sl), q ≤ n ∧ i = .int .i64 q ∧ Hid (Taken (nms.take q) (runsLen (ls.take q)) xs ys) ∧ Hid (SZ W g room pz (ops + q) ys wr) ∧ Hid (Nms ys) ∧ Hid (KF w wr) ∧ Hid (TkAt wr w1.heap.size tb n S) ∧ Hid (slL S = canL (ls.take q) ∧ S.length = q) ∧ w1.heap.size ≤ wr.heap.size) (fun i _ => n - (intOf i).toNat)
 case atStart => exact ⟨0, xs, [], Nat.zero_le _, rfl, Lib.hid (Taken.nil hN.out.rises), Lib.hid (by simpa using HS1.out), hN, Lib.hid (KF.of_below HB1.out), HTK, Lib.hid ⟨rfl, rfl⟩, Nat.le_refl _⟩
 case round =>
  obtain ⟨q, ys, S, hq, rfl, HT, HS, HNY, HK, HTK, HSL, hsz⟩ := hrel
  have HSZ := Lib.hid hsz
  clear hsz
  have HRq := Lib.hid (HR.out.kf HK.out)
  have HNq := Lib.hid (HN.out.kf HK.out)
  have hyl : ys.length < 500 := by have := HT.out.len; omega
  by_cases hqn : q < n
  ·obtain ⟨t, ht⟩ : ∃ t, nms[q]? = some t := ⟨_, List.getElem?_eq_getElem (by have := hn.out.1; omega)⟩
   obtain ⟨l, hl⟩ : ∃ l, ls[q]? = some l := ⟨_, List.getElem?_eq_getElem (by have := hn.out.2; omega)⟩
   have hlm := List.mem_of_getElem? hl
   obtain ⟨lo, x, hTh, hxl⟩ := ((hrun.out q t l ht hl).keep HT.out (nms_far hdis.out ht)).there HT.out.rises
   have hl6 : l.length ≤ 320 := Nat.le_trans (len_flat hlm) hall.out
   have HTA := Lib.hid (take_Z (pz := pz) (W := W) (xs := ys) (ops := ops + q) b parts N nn cn k l (hpos.out l hlm) hl6 (Lib.hid (hfin.out l hlm)) (Lib.hid (hfor.out l hlm)) F HNY lo x wr HS (Lib.hid hTh) (Lib.hid hxl) (Lib.hid (by have := h.out; omega)) HRq HG hg)
   have HT2 := Lib.hid (HT.out.step hTh)
   have HNE := Lib.hid (HNY.out.erase hTh)
   rw [← nms_take ht, hxl, ← runsLen_take hl] at HT2
   have HX := Lib.hid (And.intro ht hl)
   have hcn := HNq.out.cell ht
   have hqi : (q : Int) < (n : Int) := by omega
   clear ht hl hlm hTh hxl hl6
   go_wp2_with (go_at_call 47; (with_reducible refine HTA.out.mono ?_); rintro e w4 ⟨L, m, c3, x4, rfl, h5, h9⟩; have HK4 := Lib.hid h5; clear h5; obtain ⟨v4, hv4⟩ := (HTK.out.kf HK4.out).cell hqn; have hf4 := (HTK.out.kf HK4.out).frozen q; (rcases h9 with ⟨rfl, h1, h2, h3, h4, h6⟩ | h9); (have HM := Lib.hid h1; have HC := Lib.hid (And.intro h2 h3); have HO4 := Lib.hid h4; have HS4 := Lib.hid h6; clear h1 h2 h3 h4 h6); rotate_left 1; (have HBD := Lib.hid h9; rcases h9.e_pos with rfl | rfl <;> clear h9); rotate_right 1)
   rotate_left 1
   iterate 2 exact bodyPost_ret (results_tmp2O rfl _ _ _) rfl (.inr ⟨_, _, rfl, KX.of_kf (HK.out.trans HK4.out), HBD.out⟩)
   go_roundw
   case rel =>
    have hml : m = (l.map canE).length := by rw [List.length_map]; exact HM.out
    have h4 := HTK.out.kf HK4.out
    obtain ⟨cur, hrow, -⟩ := h4.row
    refine ⟨q + 1, ys.eraseIdx lo, S ++ [⟨L, c3, l.map canE⟩], by omega, by go_num, HT2, Lib.hid ?_, HNE, Lib.hid ?_, Lib.hid ?_, Lib.hid ⟨?_, by rw [List.length_append, HSL.out.2]; rfl⟩, by rw [setCell_size]; exact Nat.le_trans HSZ.out HK4.out.size⟩
    ·have := (HS4.out.setF tb q (.slice L m c3) hrow nst_evs HWV.out.1 HWV.out.2)
     rwa [show ops + (q : Int) + 1 = ops + ((q + 1 : Nat) : Int) by push_cast; omega] at this
    ·exact (HK.out.trans HK4.out).far (by rw [← HTB.out]; exact Nat.le_refl _) _
    ·have h9 := h4.put HSL.out.2 hqn HTL.out ⟨L, c3, l.map canE⟩ ⟨?_, ?_, HC.out.2⟩
     ·unfold Sl.v at h9; dsimp only at h9; rwa [← hml] at h9
     ·dsimp only; rw [← hml]; exact HO4.out.less HSZ.out
     ·dsimp only; rw [← hml]; exact HC.out.1
    ·have e1 : ls.take (q + 1) = ls.take q ++ [l] := by rw [List.take_add_one, HX.out.2]; rfl
     unfold slL canL at *
     rw [e1, List.map_append, List.map_append, HSL.out.1]; rfl
   case measure => simp [intOf]; omega
  ·have hqe : q = n := by omega
   subst hqe
   have hT := HT.out
   rw [List.take_of_length_le (by have := hn.out.1; omega), List.take_of_length_le (by have := hn.out.2; omega)] at hT
   have HT9 := Lib.hid hT
   have hSL := HSL.out.1
   rw [List.take_of_length_le (by have := hn.out.2; omega)] at hSL
   have HSL9 := Lib.hid hSL
   have hfl : (canL ls).flatten.length = ls.flatten.length := by unfold canL; rw [← List.map_flatten, List.length_map]
   have hsm : ∀ s ∈ S, s.l.length ≤ 1000 := fun s hs9 => by
    have h1 : s.l ∈ canL ls := by rw [← hSL]; exact List.mem_map.2 ⟨s, hs9, rfl⟩
    have := len_flat h1; have := hall.out; omega
   have hgood : (slL S).all (ordB ltM) = true := by
    rw [hSL, List.all_eq_true]
    intro r hr9
    obtain ⟨l, hl, rfl⟩ := List.mem_map.1 hr9
    exact (ordB_iff wkE _).2 (hord.out l hl)
   have hAll := all_any tb 0 q q S (Lib.hid HSL.out.2.symm) (by omega) hn16 (Nat.le_refl _) hnml (Lib.hid (by rw [hSL, hfl]; have := hall.out; omega)) wr (Lib.hid (HTK.out.runs hsm))
   have HALL : Hid (Calls Tryz.prog 73 #[.slice (some ⟨tb, 0, none⟩) q q] wr (AllOk wr (canL ls))) := Lib.hid (hAll.mono fun e w' h9 => by
    unfold AllEnds at h9; rw [if_pos hgood, hSL] at h9; exact h9)
   have HFL : Hid (0 < (canL ls).flatten.length ∧ (canL ls).flatten.length ≤ 320) := Lib.hid (by
    rw [hfl]
    obtain ⟨l, hl⟩ : ∃ l, ls[0]? = some l := ⟨_, List.getElem?_eq_getElem (by have := hn.out.2; omega)⟩
    have hl := List.mem_of_getElem? hl
    have := hpos.out l hl; have := len_flat hl; have := hall.out; omega)
   have HFIN9 : Hid (∀ x ∈ isort ltM (canL ls).flatten, FineE x) := Lib.hid fun x hx => by
    have h1 := isort_memM _ _ hx
    obtain ⟨r, hr9, hx9⟩ := List.mem_flatten.1 h1
    obtain ⟨l, hl, rfl⟩ := List.mem_map.1 hr9
    obtain ⟨y, hy, rfl⟩ := List.mem_map.1 hx9
    exact (hfin.out l hl y hy).can
   clear hT hSL hfl hsm hgood hAll HT HSL
   go_wp2_with (first
    | (go_at_call 73; (with_reducible refine HALL.out.mono ?_); rintro e w5 ⟨A, M, cap, rfl, h1, h2, h3, h4, h5, h6⟩; have HM := Lib.hid h1; have HO5 := Lib.hid h2; have HC5 := Lib.hid (And.intro h4 h5); have HB5 := Lib.hid h6; clear h1 h2 h3 h4 h5 h6; obtain ⟨gl, rfl⟩ := ownE_some HO5.out (by rw [HM.out]; exact HFL.out.1) HC5.out.1; have HK5 := Lib.hid (HK.out.trans (KF.of_below HB5.out)); have HLY := Lib.hid (lay_Z (pz := pz) (W := W) (xs := ys) (ops := ops + q) (nm := nm) (dg := dg) (g := g) (room := room) b parts N nn cn k gl 0 M cap (isort ltM (canL ls).flatten) (Lib.hid (by rw [isort_len]; exact HM.out)) (by rw [HM.out]; exact HFL.out.1) (by rw [HM.out]; exact HFL.out.2) HC5.out.1 HC5.out.2 HFIN9 w5 (Lib.hid HO5.out.at') (Lib.hid (HS.out.next HB5.out)) (Lib.hid (by have := h.out; omega)) (Lib.hid (HR.out.kf HK5.out)) hk HG hg hbW HIT hdg hnm hform HNY hyl hroom hr0 (by have := HT9.out.sum; have := hsum.out; omega) F (fun hh => by have := HT9.out.sum; have := hF.out hh; omega)))
    | (go_at_call 57; (with_reducible refine HLY.out.mono ?_); rintro e w6 ⟨x6, rfl, h1, h2⟩; have HK6 := Lib.hid h1; have HA6 := Lib.hid h2; clear h1 h2))
   have hkf := (HK5.out.set2 b 3 _).trans HK6.out
   refine bodyPost_ret (results_tmp2O rfl _ _ _) rfl (HA6.out.imp (fun h => ?_) (fun h => ⟨_, _, rfl, KX.of_set hkf, h⟩))
   obtain ⟨rfl, hsz, zs, h2, h3⟩ := h
   have hfa := h2.facts HNY.out.rises
   refine ⟨rfl, hkf, ys, zs, HT9.out, h2, by have := hfa.2.1; omega, HNY.out.app h2 (by omega) ⟨by rw [hnm.out]; exact runT_pre dg, ?_, hform⟩, h3⟩
   have h4 : ({ data := #[114, 117, 110, 46] } : ByteArray).size = 4 := rfl
   rw [hnm.out, ByteArray.size_append, h4]; omega
end
end Go.Proofs.YtjldamkmdkaiiaaGreatDoor
