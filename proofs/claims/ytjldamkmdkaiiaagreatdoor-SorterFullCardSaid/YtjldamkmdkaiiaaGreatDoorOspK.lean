/-
  Layer sorter: one round of a pass, where the power may go off, or there may be no room.
-/
import Derived.Test.YtjldamkmdkaiiaaGreatDoorOoK
import Derived.Test.YtjldamkmdkaiiaaGreatDoorOsjK
set_option linter.unusedSimpArgs false
set_option linter.unusedVariables false
set_option maxRecDepth 8000
namespace Go.Proofs.YtjldamkmdkaiiaaGreatDoor
open Go.RowKit Go.WideShapes Col Go.Sort Go.Shelf
def ixP (Z nn x : Nat) : Nat := if Z * x < nn then x else 0
theorem st_ix (Z nn x : Nat) : stZ Z nn x = Z * ixP Z nn x := by unfold stZ ixP; split <;> simp
theorem ck_len (Z : Nat) (ps : List (Nat × List Ev)) (i : Nat) : (ckP Z ps i).length = min Z (ps.length - Z * i) := by unfold ckP; rw [List.length_take, List.length_drop]
theorem len_le_flat (ls : List (List Ev)) (h : ∀ l ∈ ls, 0 < l.length) : ls.length ≤ ls.flatten.length := by
 induction ls with
 | nil => exact Nat.le_refl _
 | cons a r ih =>
  have h1 := h a (List.mem_cons_self ..)
  have h2 := ih fun l hl => h l (List.mem_cons_of_mem _ hl)
  rw [List.flatten_cons, List.length_append, List.length_cons]; omega
theorem RS.count {TT : Nat} {dgs : Nat → ByteArray} {parts : Int} {nb bb : Nat} {xs : List Fil} {ps : List (Nat × List Ev)} {k : Nat} (h : RS TT dgs parts nb bb xs ps k) : ps.length ≤ 320 := by
 have h1 := len_le_flat (evP ps) (fun l hl => by obtain ⟨p, hp, rfl⟩ := List.mem_map.1 hl; exact (h.good p hp).pos)
 have h2 : (evP ps).length = ps.length := by unfold evP; rw [List.length_map]
 have := h.tot; omega
structure PassG (TT : Nat) (dgs : Nat → ByteArray) (base w : World) (g : Nat) (room : Int) (b gn nn nb bb Z : Nat) (ps : List (Nat × List Ev)) (N k0 : Nat) (ops0 : Int) (s : Nat) : Prop where
 nmr : Namer dgs
 f : PassF base w b gn s
 hnn : nn = ps.length
 hpos : 0 < nn
 hz : 2 ≤ Z ∧ Z ≤ 16
 hn : ∀ k, Z * k < nn ↔ k < N
 hlt : ∀ p ∈ ps, p.1 < k0
 hk : k0 + N < 999
 hops : 0 ≤ ops0 ∧ ops0 < 800000000
 hg : TabsAt base
 hgg : base.heap.size ≤ g
 hnb : nb < 100
 hroom : room ≤ 16777216
 hfit : ((bb + 700 * TT : Nat) : Int) ≤ room
def PassJ (TT : Nat) (base : World) (g : Nat) (room : Int) (dgs : Nat → ByteArray) (b : Nat) (parts : Int) (gn nn cn nb bb Z : Nat) (ps : List (Nat × List Ev)) (N k0 : Nat) (ops0 : Int) (w : World) (s : Nat) (pre : List Nat) (W : World) (xs : List Fil) (ops : Int) (A : Option Addr) (m cap : Nat) (names : List ByteArray) (dn : List (Nat × List Ev)) (k : Nat) : Prop :=
 PassI base g room b parts gn nn cn Z (nmP dgs ps) w s W xs ops A m cap names k ∧ PassS TT dgs parts nb bb Z ps N k0 (pre.map (ixP Z nn)) xs dn k ∧ names.length = pre.length ∧ (0 ≤ ops ∧ ops ≤ ops0 + 20 * pre.length) ∧ (pre = chZ pre.length → names = nmP dgs dn ∧ dn = (pst Z ps k0 pre.length).1 ∧ k = (pst Z ps k0 pre.length).2)
theorem chZ_snoc {pre : List Nat} {x : Nat} (h : pre ++ [x] = chZ (pre ++ [x]).length) : pre = chZ pre.length ∧ x = pre.length := by
 rw [List.length_append, List.length_singleton, chZ_succ] at h
 have := List.append_inj' h rfl
 exact ⟨this.1, by simpa using this.2⟩
section
variable {TT : Nat} {dgs : Nat → ByteArray} {base w W : World} {g : Nat} {room : Int} {b gn nn cn nb bb Z : Nat} {parts : Int} {ps : List (Nat × List Ev)} {N k0 : Nat} {ops0 : Int} {s : Nat} {pre : List Nat} {xs : List Fil} {ops : Int} {A : Option Addr} {m cap : Nat} {names : List ByteArray} {dn : List (Nat × List Ev)} {k : Nat}
theorem PassG.ix_lt (h : PassG TT dgs base w g room b gn nn nb bb Z ps N k0 ops0 s) (x : Nat) : ixP Z nn x < N ∧ Z * ixP Z nn x < nn := by
 have h1 : Z * ixP Z nn x < nn := by unfold ixP; split; assumption; have := h.hpos; omega
 exact ⟨(h.hn _).1 h1, h1⟩
theorem PassG.ix_eq (h : PassG TT dgs base w g room b gn nn nb bb Z ps N k0 ops0 s) {x : Nat} (hx : x < N) : ixP Z nn x = x := by unfold ixP; rw [if_pos ((h.hn _).2 hx)]
theorem PassG.turn (h : PassG TT dgs base w g room b gn nn nb bb Z ps N k0 ops0 s) (hl : pre.length < N) {x : Nat} (hx : ixP Z nn x ∈ pre.map (ixP Z nn)) : pre ++ [x] ≠ chZ (pre ++ [x]).length := fun e => by
 obtain ⟨h1, h2⟩ := chZ_snoc e
 obtain ⟨y, hy, hyx⟩ := List.mem_map.1 hx
 rw [h1] at hy
 have hyl : y < pre.length := by unfold chZ at hy; simpa using hy
 rw [h.ix_eq (show y < N by omega), h2, h.ix_eq hl] at hyx
 omega
theorem pass_round (h : PassG TT dgs base w g room b gn nn nb bb Z ps N k0 ops0 s) (hJ : PassJ TT base g room dgs b parts gn nn cn nb bb Z ps N k0 ops0 w s pre W xs ops A m cap names dn k) (hl : pre.length < N) (x : Nat) :
  Calls Tryz.prog 60 #[.pointer (some ⟨b, 0, none⟩), .slice (some ⟨gn, 0 + stZ Z nn x, none⟩) (lnZ Z nn x) (lnZ Z nn x)] W fun e v =>
   (∃ nm, e = .returned (.tuple #[.string nm, .int .i64 0]) ∧ KX b W v ∧ ∃ xs' ops' dn' k', PassI base g room b parts gn nn cn Z (nmP dgs ps) w s v xs' ops' A m cap names k' ∧ PassS TT dgs parts nb bb Z ps N k0 ((pre ++ [x]).map (ixP Z nn)) xs' dn' k' ∧ (0 ≤ ops' ∧ ops' ≤ ops0 + 20 * ((pre ++ [x]).length : Nat)) ∧ (pre ++ [x] = chZ (pre ++ [x]).length → names ++ [nm] = nmP dgs dn' ∧ dn' = (pst Z ps k0 (pre ++ [x]).length).1 ∧ k' = (pst Z ps k0 (pre ++ [x]).length).2)) ∨
   (e = .returned (.tuple #[.string { data := #[] }, .int .i64 5]) ∧ Below W.heap.size W v ∧ pre ++ [x] ≠ chZ (pre ++ [x]).length) := by
 obtain ⟨hI, hS, hnl, hops, hgood⟩ := hJ
 obtain ⟨hi, hin⟩ := h.ix_lt x
 have hlf := lnZ_facts (Z := Z) (len := nn) (j := x) (by have := h.hz; omega) h.hpos
 have hckl : (ckP Z ps (ixP Z nn x)).length = lnZ Z nn x := by rw [ck_len, ← h.hnn]; unfold lnZ; rw [st_ix]
 have hmap : (pre ++ [x]).map (ixP Z nn) = pre.map (ixP Z nn) ++ [ixP Z nn x] := by rw [List.map_append]; rfl
 have hcut : NmAt W gn (0 + stZ Z nn x) (nmP dgs (ckP Z ps (ixP Z nn x))) := by
  have := hI.nm.cut (Z * ixP Z nn x) Z
  rw [st_ix]; unfold nmP ckP at *; rwa [← List.map_drop, ← List.map_take] at this
 have hk1 := hS.kle
 rw [List.length_map] at hk1
 have hkk := h.hk
 have hopb := h.hops
 have hlen1 : (pre ++ [x]).length = pre.length + 1 := by simp
 have hlfz := h.hz
 by_cases hx : ixP Z nn x ∈ pre.map (ixP Z nn)
 ·have hturn := h.turn hl hx
  by_cases h2 : 2 ≤ lnZ Z nn x
  ·obtain ⟨p, hp⟩ : ∃ p, (ckP Z ps (ixP Z nn x))[0]? = some p := ⟨_, List.getElem?_eq_getElem (by omega)⟩
   have hpm := List.mem_of_getElem? hp
   have hpp : p ∈ ps := List.mem_of_mem_drop (List.mem_of_mem_take hpm)
   have hc := hcut.cell (j := 0) (s := rn dgs p.1) (by unfold nmP; rw [List.getElem?_map, hp]; rfl)
   rw [Nat.add_zero] at hc
   have hcnt := hS.rs.count
   have hnum := hS.rs.num
   have hnb := h.hnb
   refine (merge_no (W := ⟨base, W⟩) (g := g) (room := room) (ops := ops) (xs := xs) b parts (some ⟨gn, 0, none⟩) nn cn k gn (0 + stZ Z nn x) (lnZ Z nn x) (lnZ Z nn x) (rn dgs p.1) h2 (by omega) W hc (by have := h.f.gl; have := h.f.ws; have := hI.size; omega) (h.nmr.form _ (by have := h.hlt p hpp; omega)) (by omega) hS.rs.rises (fun y hy => hS.gone _ hx (by rw [hckl]; exact h2) p hpm y hy) (Lib.hid hI.sa) (Lib.hid hI.runs)).mono ?_
   rintro e v ⟨rfl, hb⟩
   exact .inr ⟨rfl, hb, hturn⟩
  ·have h1 : lnZ Z nn x = 1 := by omega
   obtain ⟨p, hp⟩ : ∃ p, (ckP Z ps (ixP Z nn x))[0]? = some p := ⟨_, List.getElem?_eq_getElem (by omega)⟩
   have hc := hcut.cell (j := 0) (s := rn dgs p.1) (by unfold nmP; rw [List.getElem?_map, hp]; rfl)
   rw [Nat.add_zero] at hc
   rw [h1]
   refine (merge_one b gn (0 + stZ Z nn x) 1 (rn dgs p.1) W hc).mono ?_
   rintro e v ⟨rfl, rfl⟩
   refine .inl ⟨_, rfl, KX.of_kf (KF.refl _), xs, ops, dn, k, hI, by rw [hmap]; exact hS.twice hx, ⟨hops.1, by rw [hlen1]; omega⟩, fun e => absurd e hturn⟩
 ·have hperm := rest_perm (Z := Z) (ps := ps) hi hx
  have hRS := hS.rs.perm (hperm.append_left dn)
  rw [← List.append_assoc] at hRS
  have hcnt := hRS.count
  have hnum := hRS.num
  have hnb := h.hnb
  have hfit := h.hfit
  refine (merge_any (W := ⟨base, W⟩) (g := g) (room := room) (ops := ops) (xs := xs) h.nmr b parts (some ⟨gn, 0, none⟩) nn cn k gn (0 + stZ Z nn x) (lnZ Z nn x) (lnZ Z nn x) nb bb dn (ckP Z ps (ixP Z nn x)) (restP Z ps N (pre.map (ixP Z nn) ++ [ixP Z nn x])) hckl.symm (by omega) (by omega) W hcut hRS (by omega) hI.sa ⟨hops.1, by omega⟩ hI.runs h.hg h.hgg h.f.bb (by clear hfit; omega) h.hroom hfit).mono ?_
  rintro e v ⟨rfl, zs, ops', hz, hs', ho1, ho2, hr', hkx, hy1, hy2⟩
  refine .inl ⟨_, rfl, hkx, zs, ops', dn ++ [(mrgP k (ckP Z ps (ixP Z nn x))).1], _, hI.next h.f hkx hs' hr', by rw [hmap]; exact hS.step h.nmr h.hlt (by omega) hz hy1 hy2, ⟨ho1, by rw [hlen1]; omega⟩, fun e => ?_⟩
  obtain ⟨e1, e2⟩ := chZ_snoc e
  obtain ⟨g1, g2, g3⟩ := hgood e1
  have hix : ixP Z nn x = pre.length := by rw [e2]; exact h.ix_eq hl
  rw [hlen1]
  refine ⟨by unfold nmP at *; rw [List.map_append, g1]; rfl, ?_, ?_⟩
  ·show _ = (pst Z ps k0 pre.length).1 ++ [(mrgP (pst Z ps k0 pre.length).2 (ckP Z ps pre.length)).1]
   rw [hix, ← g2, ← g3]
  ·show _ = (mrgP (pst Z ps k0 pre.length).2 (ckP Z ps pre.length)).2
   rw [hix, ← g3]
end
end Go.Proofs.YtjldamkmdkaiiaaGreatDoor
namespace Go.Proofs.YtjldamkmdkaiiaaGreatDoor
open Go.RowKit Go.WideShapes Col Go.Sort
section
variable {W : Bs} {g : Nat} {room ops : Int} {pz : Bool} {xs : List Fil}
theorem mergeZ_any {TT : Nat} {dgs : Nat → ByteArray} (hNm : Namer dgs) (b : Nat) (parts : Int) (N : Option Addr) (nn cn k : Nat) (gn on n c nb bb : Nat) (A C D : List (Nat × List Ev)) (hn : n = C.length) (hn1 : 1 ≤ n) (hn16 : n ≤ 16) (w : World) (HN : NmAt w gn on (nmP dgs C))
  (HRS : RS TT dgs parts nb bb xs (A ++ C ++ D) k) (hk : k < 999)
  (hs : SZ W g room pz ops xs w) (hN : Nms xs) (hsm : (sumN xs : Int) ≤ room) (h : 0 ≤ ops ∧ ops < 800000000) (HR : RunsAt9 w b g parts N nn cn k) (HG : TabsAt W.b) (hg : W.heap.size ≤ g) (hbW : W.b.heap.size ≤ b)
  (hx5 : xs.length < 500) (hroom : room ≤ 16777216) (F : Prop) (hF : F → ((bb + 700 * TT : Nat) : Int) ≤ room) :
  Calls Tryz.prog 60 #[.pointer (some ⟨b, 0, none⟩), .slice (some ⟨gn, on, none⟩) n c] w fun e w' => (e = .returned (.tuple #[.string (rn dgs (mrgP k C).1.1), .int .i64 0]) ∧ ∃ zs ops', RS TT dgs parts nb bb zs (A ++ [(mrgP k C).1] ++ D) (mrgP k C).2 ∧ SZ ⟨W.b, w'⟩ g room pz ops' zs w' ∧ Nms zs ∧ (sumN zs : Int) ≤ room ∧ 0 ≤ ops' ∧ ops' ≤ ops + 20 ∧ RunsAt9 w' b g parts N nn cn (mrgP k C).2 ∧ KX b w w' ∧ (∀ y ∈ zs, y ∈ xs ∨ y.name = rn dgs k) ∧ (2 ≤ C.length → ∀ p ∈ C, ∀ y ∈ zs, cmpKF y.name (rn dgs p.1) ≠ 0)) ∨ (∃ (t : ByteArray) (x : Int), e = .returned (.tuple #[.string t, .int .i64 x]) ∧ KX b w w' ∧ Bad W.b g room pz F x w') := by
 rcases C with _ | ⟨p, _ | ⟨q, C⟩⟩
 ·simp at hn; omega
 ·have hn0 : n = 1 := hn
  subst hn0
  have hc := HN.cell (j := 0) (s := rn dgs p.1) rfl
  rw [Nat.add_zero] at hc
  refine (merge_one b gn on c (rn dgs p.1) w hc).mono ?_
  rintro e w' ⟨rfl, rfl⟩
  exact .inl ⟨rfl, xs, ops, HRS, hs.now, hN, hsm, h.1, by omega, HR, KX.of_kf (KF.refl _), fun y hy => .inl hy, fun h2 => absurd h2 (by simp)⟩
 ·have hn2 : 2 ≤ n := by rw [hn]; simp
  have e : mrgP k (p :: q :: C) = ((k, mgL (evP (p :: q :: C))), k + 1) := rfl
  rw [e]
  generalize p :: q :: C = C' at *
  have hsub : ∀ u ∈ C', u ∈ A ++ C' ++ D := fun u hu => by rw [List.mem_append, List.mem_append]; exact .inl (.inr hu)
  have hgood : ∀ l ∈ evP C', Good parts l := fun l hl => by
   obtain ⟨u, hu, rfl⟩ := List.mem_map.1 hl; exact HRS.good u (hsub u hu)
  have hgA : ∀ l ∈ evP (A ++ C' ++ D), Good parts l := fun l hl => by
   obtain ⟨u, hu, rfl⟩ := List.mem_map.1 hl; exact HRS.good u hu
  have htot := HRS.tot
  have hCt : (evP C').flatten.length ≤ min TT 320 := by
   unfold evP at htot ⊢
   simp only [List.map_append, List.flatten_append, List.length_append] at htot; omega
  have hne : C' ≠ [] := fun e => by rw [e] at hn; simp at hn; omega
  have hM := (Good.merged hgood (by unfold evP; simpa using hne)).bytes (by rw [mgL_len]; omega)
  rw [mgL_len] at hM
  have hL := runsLen_good _ hgA (by omega)
  have hd := HRS.dis
  rw [List.append_assoc, List.pairwise_append, List.pairwise_append] at hd
  have hsum := HRS.sum
  refine (merge_Z (pz := pz) (W := W) (xs := xs) (ops := ops) (g := g) (room := room) (nm := rn dgs k) (dg := dgs k) b parts N nn cn k gn on n c (nmP dgs C') (evP C') (Lib.hid ⟨by unfold nmP; rw [List.length_map]; exact hn, by unfold evP; rw [List.length_map]; exact hn⟩) hn2 hn16 w (Lib.hid HN)
   (Lib.hid ?_) (Lib.hid fun j t l ht hl => ?_) (Lib.hid fun l hl => (hgood l hl).pos) (Lib.hid (by omega)) (Lib.hid fun l hl => (hgood l hl).fine) (Lib.hid fun l hl => (hgood l hl).form) (Lib.hid fun l hl => (hgood l hl).ord) (Lib.hid hs) (Lib.hid h) (Lib.hid HR) (by omega) (Lib.hid HG) hg hbW
   (Lib.hid (hNm.itoa k (by omega))) (hNm.size k (by omega)) (Lib.hid rfl) (hNm.form k (by omega)) (Lib.hid hN) hx5 hroom (by omega) (Lib.hid hsm) F (Lib.hid fun hh => ?_)).mono ?_
  ·unfold nmP
   rw [List.pairwise_map]
   refine (hd.2.1.1).imp_of_mem fun {u v} hu hv huv => ?_
   have := HRS.lt u (hsub u hu); have := HRS.lt v (hsub v hv)
   exact hNm.inj _ _ (by omega) (by omega) huv
  ·unfold nmP at ht; unfold evP at hl
   rw [List.getElem?_map] at ht hl
   rcases hu : C'[j]? with _ | u
   ·rw [hu] at ht; cases ht
   ·rw [hu] at ht hl; injection ht with ht; injection hl with hl
    subst ht; subst hl
    exact HRS.run u (hsub u (List.mem_of_getElem? hu))
  ·have hfit := hF hh; rw [hsum]; unfold mgL at hM; omega
  ·rintro e w' (⟨rfl, hkf, ys, zs, hT, hA, hsz, hNz, hS⟩ | h9)
   rotate_left 1
   ·exact .inr h9
   refine .inl ⟨rfl, zs, ops + n + 1, RS.merge hNm HRS (by omega) hne hT hA, hS, hNz, hsz, by omega, by omega, ?_, KX.of_set hkf, fun y hy => ?_, fun _ p hp y hy => ?_⟩
   rotate_right 2
   ·obtain ⟨Aa, c9, hm9, -⟩ := app_new (fun x hx => HRS.fresh k (Nat.le_refl _) (by omega) x ((hT.mem x).1 hx).1) hA
    rcases (hm9 y).1 hy with rfl | h9
    ·exact .inr rfl
    ·exact .inl ((hT.mem y).1 h9).1
   ·obtain ⟨Aa, c9, hm9, -⟩ := app_new (fun x hx => HRS.fresh k (Nat.le_refl _) (by omega) x ((hT.mem x).1 hx).1) hA
    have hpk := HRS.lt p (hsub p hp)
    rcases (hm9 y).1 hy with rfl | h9
    ·exact hNm.inj _ _ (by omega) (by omega) (by omega)
    ·have h8 := ((hT.mem y).1 h9).2 (rn dgs p.1) (List.mem_map.2 ⟨p, hp, rfl⟩)
     intro e; rw [ck_neg] at h8; omega
   exact RunsAt9.kf (row_set HR 3 _) hkf
end
end Go.Proofs.YtjldamkmdkaiiaaGreatDoor
namespace Go.Proofs.YtjldamkmdkaiiaaGreatDoor
open Go.RowKit Go.WideShapes Col Go.Sort Go.Shelf
theorem SZ.grownN {W : Bs} {g : Nat} {room ops : Int} {pz : Bool} {xs : List Fil} {w w' : World} (h : SZ W g room pz ops xs w) {row : Option Nat} (hg : w.grownBy w' row) (hr : ∀ r, row = some r → W.b.heap.size ≤ r ∧ ∃ o : Obj, w.heap[r]? = some o ∧ o.isCells = false) : SZ ⟨W.b, w'⟩ g room pz ops xs w' := by
 obtain ⟨a, ha, h⟩ := h
 exact ⟨a, ha, h.grownN hg hr⟩
theorem SZ.grownT {W : Bs} {g : Nat} {room ops : Int} {pz : Bool} {xs : List Fil} {w w' : World} (h : SZ W g room pz ops xs w) {row : Option Nat} (hg : w.grownBy w' row) (hr : ∀ r, row = some r → W.b.heap.size ≤ r ∧ ∀ cs t fr, w.heap[r]? = some (.cells cs t fr) → ¬ StT t) : SZ ⟨W.b, w'⟩ g room pz ops xs w' := by
 obtain ⟨a, ha, h⟩ := h
 exact ⟨a, ha, h.grownT hg hr⟩
theorem Bad.grownN {Wb : World} {g : Nat} {room e : Int} {pz : Bool} {F : Prop} {w w' : World} (h : Bad Wb g room pz F e w) {row : Option Nat} (hg : w.grownBy w' row) (hr : ∀ r, row = some r → Wb.heap.size ≤ r ∧ ∃ o : Obj, w.heap[r]? = some o ∧ o.isCells = false) : Bad Wb g room pz F e w' := by
 obtain ⟨off, a, o', ys, h1, h2, h3, h4, h⟩ := h
 exact ⟨off, a, o', ys, h1, h2, h3, h4, h.grownN hg hr⟩
theorem Bad.setB {Wb : World} {g : Nat} {room e : Int} {pz : Bool} {F : Prop} {w : World} (h : Bad Wb g room pz F e w) (b i : Nat) (v : Value) {cs : Array Value} {t : TypeId} {fr : Nat × Nat} (hrow : w.heap[b]? = some (.cells cs t fr)) (ht : ¬ StT t) (hb : Wb.heap.size ≤ b) : Bad Wb g room pz F e (w.setCell ⟨b, i, none⟩ v) := by
 obtain ⟨off, a, o', ys, h1, h2, h3, h4, h⟩ := h
 exact ⟨off, a, o', ys, h1, h2, h3, h4, h.setB b i v hrow ht hb⟩
structure PassIZ (base : World) (g : Nat) (room : Int) (pz : Bool) (b : Nat) (parts : Int) (gn nn cn Z : Nat) (nms : List ByteArray) (w : World) (s : Nat) (W : World) (xs : List Fil) (ops : Int) (A : Option Addr) (m cap : Nat) (names : List ByteArray) (k : Nat) : Prop where
 r0 : W.heap[s]? = some (.cells #[.pointer (some ⟨b, 0, none⟩)] 68 (0, 0))
 r1 : W.heap[s + 1]? = some (.cells #[.int .i64 0] 28 (0, 0))
 r2 : W.heap[s + 2]? = some (.cells #[.slice A m cap] 37 (0, 0))
 r3 : W.heap[s + 3]? = some (.cells #[.slice (some ⟨gn, 0, none⟩) nn cn] 37 (0, 0))
 r4 : W.heap[s + 4]? = some (.cells #[.int .i64 (Z : Int)] 3 (0, 0))
 own : OwnT W (s + 5) A m cap names
 sa : SZ ⟨base, W⟩ g room pz ops xs W
 runs : RunsAt9 W b g parts (some ⟨gn, 0, none⟩) nn cn k
 nm : NmAt W gn 0 nms
 size : s + 5 ≤ W.heap.size
 kx : KX b w W
section
variable {base : World} {g : Nat} {room : Int} {pz : Bool} {b : Nat} {parts : Int} {gn nn cn Z : Nat} {nms : List ByteArray} {w : World} {s : Nat} {W W' : World} {xs : List Fil} {ops : Int} {A : Option Addr} {m cap : Nat} {names : List ByteArray} {k : Nat}
theorem PassIZ.grown (h : PassIZ base g room pz b parts gn nn cn Z nms w s W xs ops A m cap names k) (hf : PassF base w b gn s) {row : Option Nat} (hg : W.grownBy W' row) (hr : ∀ r, row = some r → s + 5 ≤ r ∧ ∃ o : Obj, W.heap[r]? = some o ∧ o.isCells = false) :
  PassIZ base g room pz b parts gn nn cn Z nms w s W' xs ops A m cap names k := by
 have no : ∀ k cs t fr, W.heap[k]? = some (.cells cs t fr) → ¬ row = some k := fun k cs t fr hk e => by
  obtain ⟨-, o, ho, hc⟩ := hr k e
  rw [hk] at ho; injection ho with ho; subst ho; cases hc
 have row' : ∀ (k : Nat) (cs : Array Value) (t : TypeId) (fr : Nat × Nat), W.heap[k]? = some (Obj.cells cs t fr) → W'.heap[k]? = some (Obj.cells cs t fr) := fun k cs t fr hk =>
  (hg.block k (Array.getElem?_eq_some_iff.1 hk).1 (fun e => no _ _ _ _ hk e.symm)).trans hk
 refine ⟨row' _ _ _ _ h.r0, row' _ _ _ _ h.r1, row' _ _ _ _ h.r2, row' _ _ _ _ h.r3, row' _ _ _ _ h.r4, ?_, h.sa.grownN hg (fun r e => ⟨by have := (hr r e).1; have := hf.bs; show base.heap.size ≤ r; omega, (hr r e).2⟩), row' _ _ _ _ h.runs, ?_, Nat.le_trans h.size hg.size, ?_⟩
 ·refine ⟨h.own.1, ?_⟩
  rcases h.own.2 with h1 | ⟨a, cap', cur, h1, hb', hrow, hrest⟩
  ·exact .inl h1
  ·exact .inr ⟨a, cap', cur, h1, hb', row' _ _ _ _ hrow, hrest⟩
 ·obtain ⟨cur, t, fr, h1, h2, h3⟩ := h.nm; exact ⟨cur, t, fr, row' _ _ _ _ h1, h2, h3⟩
 ·refine ⟨Nat.le_trans h.kx.size hg.size, fun k o hk hb hn => ?_⟩
  have h1 := h.kx.kept k o hk hb hn
  have hlt := (Array.getElem?_eq_some_iff.1 hk).1
  exact (hg.block k (Array.getElem?_eq_some_iff.1 h1).1 (fun e => by have := (hr k e.symm).1; have := hf.ws; omega)).trans h1
theorem PassIZ.next (h : PassIZ base g room pz b parts gn nn cn Z nms w s W xs ops A m cap names k) (hf : PassF base w b gn s) (hk : KX b W W') {ys : List Fil} {ops' : Int} {k' : Nat} (hs : SZ ⟨base, W'⟩ g room pz ops' ys W') (hr : RunsAt9 W' b g parts (some ⟨gn, 0, none⟩) nn cn k') :
  PassIZ base g room pz b parts gn nn cn Z nms w s W' ys ops' A m cap names k' := by
 have h1 := hf.hb; have h2 := hf.ws
 exact ⟨hk.row (by omega) h.r0 (not_st (by decide) (by decide) (by decide)), hk.row (by omega) h.r1 (not_st (by decide) (by decide) (by decide)), hk.row (by omega) h.r2 (not_st (by decide) (by decide) (by decide)), hk.row (by omega) h.r3 (not_st (by decide) (by decide) (by decide)), hk.row (by omega) h.r4 (not_st (by decide) (by decide) (by decide)),
  h.own.kx hk (by omega), hs, hr, h.nm.kx hk hf.hgn, Nat.le_trans h.size hk.size, h.kx.trans hk⟩
theorem PassIZ.put (h : PassIZ base g room pz b parts gn nn cn Z nms w s W xs ops A m cap names k) (hf : PassF base w b gn s) {t : ByteArray} {v : World} {A' : Option Addr} {cap' : Nat} (ho : OwnT v (s + 5) A' (m + 1) cap' (names ++ [t])) (hg : (W.alloc (.cells #[.string t] 9)).grownBy v (A.map (·.block))) :
  PassIZ base g room pz b parts gn nn cn Z nms w s (v.setCell ⟨s + 2, 0, none⟩ (.slice A' (m + 1) cap')) xs ops A' (m + 1) cap' (names ++ [t]) k ∧ (W.heap.size ≤ (v.setCell ⟨s + 2, 0, none⟩ (.slice A' (m + 1) cap')).heap.size ∧ ∀ (j : Nat) (o : Obj), W.heap[j]? = some o → o.isCells = false → (v.setCell ⟨s + 2, 0, none⟩ (.slice A' (m + 1) cap')).heap[j]? = some o) ∧ v.heap[s + 2]? = some (.cells #[.slice A m cap] 37 (0, 0)) := by
 have hsz := h.size
 have hA : ∀ r, A.map (·.block) = some r → s + 5 ≤ r ∧ ∃ cs fr, W.heap[r]? = some (.cells cs 9 fr) := fun r hr => by
  rcases h.own.2 with ⟨e0, e1⟩ | ⟨q, cap', cur, e0, hb, hq, -⟩
  ·injection e0 with e0 _ _; rw [e0] at hr; cases hr
  ·injection e0 with e0 _ _; rw [e0] at hr; injection hr with hr; subst hr; exact ⟨hb, _, _, hq⟩
 have hal : ∀ (j : Nat) (o : Obj), W.heap[j]? = some o → (W.alloc (.cells #[.string t] 9)).heap[j]? = some o := fun j o hj => by
  have := (Array.getElem?_eq_some_iff.1 hj).1
  show (W.heap.push _)[j]? = _
  rw [Array.getElem?_push, if_neg (by omega)]; exact hj
 have row' : ∀ (j : Nat) (o : Obj), W.heap[j]? = some o → A.map (·.block) ≠ some j → v.heap[j]? = some o := fun j o hj hn =>
  (hg.block j (Array.getElem?_eq_some_iff.1 (hal j o hj)).1 (fun e => hn e.symm)).trans (hal j o hj)
 have low : ∀ (j : Nat) (o : Obj), j < s + 5 → W.heap[j]? = some o → v.heap[j]? = some o := fun j o hj hk => row' j o hk (fun e => by have := (hA j e).1; omega)
 have typ : ∀ (j : Nat) (cs : Array Value) (ty : TypeId) (fr : Nat × Nat), ty ≠ 9 → W.heap[j]? = some (.cells cs ty fr) → v.heap[j]? = some (.cells cs ty fr) := fun j cs ty fr ht hk => row' j _ hk (fun e => by
  obtain ⟨-, cs', fr', h1⟩ := hA j e
  rw [hk] at h1; injection h1 with h1; injection h1 with _ h1 _; exact ht h1)
 have h1 := hf.hb; have h2 := hf.ws; have h3 := hf.bs
 have v2 := low (s + 2) _ (by omega) h.r2
 have vr : v.heap[b]? = _ := low b _ (by omega) h.runs
 have hsa := ((h.sa.next ((Below.refl _ W).alloc (Nat.le_refl _) (.cells #[.string t] 9))).grownT hg (fun r hr => ⟨by have := (hA r hr).1; show base.heap.size ≤ r; omega, fun cs ty fr hk => by
  obtain ⟨-, cs', fr', h1⟩ := hA r hr
  rw [hal r _ h1] at hk; injection hk with hk; injection hk with _ hk _; rw [← hk]; exact not_st (by decide) (by decide) (by decide)⟩)).setB (s + 2) 0 (.slice A' (m + 1) cap') v2 (not_st (by decide) (by decide) (by decide)) (by show base.heap.size ≤ s + 2; omega)
 have hsv : W.heap.size ≤ v.heap.size := by have := hg.size; simp at this; omega
 refine ⟨⟨row_far (by omega) (low s _ (by omega) h.r0), row_far (by omega) (low (s + 1) _ (by omega) h.r1), row_set v2 0 _, row_far (by omega) (low (s + 3) _ (by omega) h.r3), row_far (by omega) (low (s + 4) _ (by omega) h.r4), ?_, hsa, row_far (by omega) vr, ?_, by rw [setCell_size]; omega, ⟨by rw [setCell_size]; have := h.kx.size; omega, fun j o hj hb hn => ?_⟩⟩, ⟨by rw [setCell_size]; exact hsv, fun j o hj hc => ?_⟩, v2⟩
 ·refine ⟨ho.1, ?_⟩
  rcases ho.2 with h1 | ⟨a, cap', cur, h1, hb', hrow, hrest⟩
  ·exact .inl h1
  ·exact .inr ⟨a, cap', cur, h1, hb', row_far (by omega) hrow, hrest⟩
 ·obtain ⟨cur, ty, fr, q1, q2, q3⟩ := h.nm
  have h4 := hf.gl
  exact ⟨cur, ty, fr, row_far (by omega) (low gn _ (by omega) q1), q2, q3⟩
 ·have hlt := (Array.getElem?_eq_some_iff.1 hj).1
  exact row_far (by omega) (low j o (by omega) (h.kx.kept j o hj hb hn))
 ·have hne : s + 2 ≠ j := fun e => by subst e; rw [h.r2] at hj; injection hj with hj; subst hj; cases hc
  exact row_far hne (row' j o hj (fun e => by
   obtain ⟨-, cs', fr', q1⟩ := hA j e
   rw [hj] at q1; injection q1 with q1; subst q1; cases hc))
end
structure PassGZ (F : Prop) (TT : Nat) (dgs : Nat → ByteArray) (base w : World) (g : Nat) (room : Int) (b gn nn nb bb Z : Nat) (ps : List (Nat × List Ev)) (N k0 : Nat) (ops0 : Int) (s : Nat) : Prop where
 nmr : Namer dgs
 f : PassF base w b gn s
 hnn : nn = ps.length
 hpos : 0 < nn
 hz : 2 ≤ Z ∧ Z ≤ 16
 hn : ∀ k, Z * k < nn ↔ k < N
 hlt : ∀ p ∈ ps, p.1 < k0
 hk : k0 + N < 999
 hops : 0 ≤ ops0 ∧ ops0 < 700000000
 hg : TabsAt base
 hgg : base.heap.size ≤ g
 hnb : nb < 100
 hroom : room ≤ 16777216
 hfit : F → ((bb + 700 * TT : Nat) : Int) ≤ room
def PassJZ (TT : Nat) (base : World) (g : Nat) (room : Int) (pz : Bool) (dgs : Nat → ByteArray) (b : Nat) (parts : Int) (gn nn cn nb bb Z : Nat) (ps : List (Nat × List Ev)) (N k0 : Nat) (ops0 : Int) (w : World) (s : Nat) (pre : List Nat) (W : World) (xs : List Fil) (ops : Int) (A : Option Addr) (m cap : Nat) (names : List ByteArray) (dn : List (Nat × List Ev)) (k : Nat) : Prop :=
 PassIZ base g room pz b parts gn nn cn Z (nmP dgs ps) w s W xs ops A m cap names k ∧ PassS TT dgs parts nb bb Z ps N k0 (pre.map (ixP Z nn)) xs dn k ∧ (names.length = pre.length ∧ Nms xs ∧ (sumN xs : Int) ≤ room) ∧ (0 ≤ ops ∧ ops ≤ ops0 + 20 * pre.length) ∧ (pre = chZ pre.length → names = nmP dgs dn ∧ dn = (pst Z ps k0 pre.length).1 ∧ k = (pst Z ps k0 pre.length).2)
section
variable {F : Prop} {pz : Bool} {TT : Nat} {dgs : Nat → ByteArray} {base w W : World} {g : Nat} {room : Int} {b gn nn cn nb bb Z : Nat} {parts : Int} {ps : List (Nat × List Ev)} {N k0 : Nat} {ops0 : Int} {s : Nat} {pre : List Nat} {xs : List Fil} {ops : Int} {A : Option Addr} {m cap : Nat} {names : List ByteArray} {dn : List (Nat × List Ev)} {k : Nat}
theorem PassGZ.ix_lt (h : PassGZ F TT dgs base w g room b gn nn nb bb Z ps N k0 ops0 s) (x : Nat) : ixP Z nn x < N ∧ Z * ixP Z nn x < nn := by
 have h1 : Z * ixP Z nn x < nn := by unfold ixP; split; assumption; have := h.hpos; omega
 exact ⟨(h.hn _).1 h1, h1⟩
theorem PassGZ.ix_eq (h : PassGZ F TT dgs base w g room b gn nn nb bb Z ps N k0 ops0 s) {x : Nat} (hx : x < N) : ixP Z nn x = x := by unfold ixP; rw [if_pos ((h.hn _).2 hx)]
theorem PassGZ.turn (h : PassGZ F TT dgs base w g room b gn nn nb bb Z ps N k0 ops0 s) (hl : pre.length < N) {x : Nat} (hx : ixP Z nn x ∈ pre.map (ixP Z nn)) : pre ++ [x] ≠ chZ (pre ++ [x]).length := fun e => by
 obtain ⟨h1, h2⟩ := chZ_snoc e
 obtain ⟨y, hy, hyx⟩ := List.mem_map.1 hx
 rw [h1] at hy
 have hyl : y < pre.length := by unfold chZ at hy; simpa using hy
 rw [h.ix_eq (show y < N by omega), h2, h.ix_eq hl] at hyx
 omega
theorem pass_roundZ (h : PassGZ F TT dgs base w g room b gn nn nb bb Z ps N k0 ops0 s) (hJ : PassJZ TT base g room pz dgs b parts gn nn cn nb bb Z ps N k0 ops0 w s pre W xs ops A m cap names dn k) (hl : pre.length < N) (x : Nat) :
  Calls Tryz.prog 60 #[.pointer (some ⟨b, 0, none⟩), .slice (some ⟨gn, 0 + stZ Z nn x, none⟩) (lnZ Z nn x) (lnZ Z nn x)] W fun e v =>
   (∃ nm, e = .returned (.tuple #[.string nm, .int .i64 0]) ∧ KX b W v ∧ ∃ xs' ops' dn' k', (Nms xs' ∧ (sumN xs' : Int) ≤ room) ∧ PassIZ base g room pz b parts gn nn cn Z (nmP dgs ps) w s v xs' ops' A m cap names k' ∧ PassS TT dgs parts nb bb Z ps N k0 ((pre ++ [x]).map (ixP Z nn)) xs' dn' k' ∧ (0 ≤ ops' ∧ ops' ≤ ops0 + 20 * ((pre ++ [x]).length : Nat)) ∧ (pre ++ [x] = chZ (pre ++ [x]).length → names ++ [nm] = nmP dgs dn' ∧ dn' = (pst Z ps k0 (pre ++ [x]).length).1 ∧ k' = (pst Z ps k0 (pre ++ [x]).length).2)) ∨
   (∃ (t : ByteArray) (y : Int), y ≠ 0 ∧ e = .returned (.tuple #[.string t, .int .i64 y]) ∧ KX b W v ∧ (pre ++ [x] ≠ chZ (pre ++ [x]).length ∨ Bad base g room pz F y v)) := by
 obtain ⟨hI, hS, ⟨hnl, hNm, hsm⟩, hops, hgood⟩ := hJ
 obtain ⟨armed, -, hsa⟩ := hI.sa
 obtain ⟨hi, hin⟩ := h.ix_lt x
 have hlf := lnZ_facts (Z := Z) (len := nn) (j := x) (by have := h.hz; omega) h.hpos
 have hckl : (ckP Z ps (ixP Z nn x)).length = lnZ Z nn x := by rw [ck_len, ← h.hnn]; unfold lnZ; rw [st_ix]
 have hmap : (pre ++ [x]).map (ixP Z nn) = pre.map (ixP Z nn) ++ [ixP Z nn x] := by rw [List.map_append]; rfl
 have hcut : NmAt W gn (0 + stZ Z nn x) (nmP dgs (ckP Z ps (ixP Z nn x))) := by
  have := hI.nm.cut (Z * ixP Z nn x) Z
  rw [st_ix]; unfold nmP ckP at *; rwa [← List.map_drop, ← List.map_take] at this
 have hk1 := hS.kle
 rw [List.length_map] at hk1
 have hkk := h.hk
 have hopb := h.hops
 have hlen1 : (pre ++ [x]).length = pre.length + 1 := by simp
 have hlfz := h.hz
 by_cases hx : ixP Z nn x ∈ pre.map (ixP Z nn)
 ·have hturn := h.turn hl hx
  by_cases h2 : 2 ≤ lnZ Z nn x
  ·obtain ⟨p, hp⟩ : ∃ p, (ckP Z ps (ixP Z nn x))[0]? = some p := ⟨_, List.getElem?_eq_getElem (by omega)⟩
   have hpm := List.mem_of_getElem? hp
   have hpp : p ∈ ps := List.mem_of_mem_drop (List.mem_of_mem_take hpm)
   have hc := hcut.cell (j := 0) (s := rn dgs p.1) (by unfold nmP; rw [List.getElem?_map, hp]; rfl)
   rw [Nat.add_zero] at hc
   have hcnt := hS.rs.count
   have hnum := hS.rs.num
   have hnb := h.hnb
   refine (merge_no (W := ⟨base, W⟩) (g := g) (room := room) (ops := ops) (xs := xs) b parts (some ⟨gn, 0, none⟩) nn cn k gn (0 + stZ Z nn x) (lnZ Z nn x) (lnZ Z nn x) (rn dgs p.1) h2 (by omega) W hc (by have := h.f.gl; have := h.f.ws; have := hI.size; omega) (h.nmr.form _ (by have := h.hlt p hpp; omega)) (by omega) hS.rs.rises (fun y hy => hS.gone _ hx (by rw [hckl]; exact h2) p hpm y hy) (Lib.hid hsa) (Lib.hid hI.runs)).mono ?_
   rintro e v ⟨rfl, hb⟩
   exact .inr ⟨_, 5, by decide, rfl, KX.of_kf (KF.of_below hb), .inl hturn⟩
  ·have h1 : lnZ Z nn x = 1 := by omega
   obtain ⟨p, hp⟩ : ∃ p, (ckP Z ps (ixP Z nn x))[0]? = some p := ⟨_, List.getElem?_eq_getElem (by omega)⟩
   have hc := hcut.cell (j := 0) (s := rn dgs p.1) (by unfold nmP; rw [List.getElem?_map, hp]; rfl)
   rw [Nat.add_zero] at hc
   rw [h1]
   refine (merge_one b gn (0 + stZ Z nn x) 1 (rn dgs p.1) W hc).mono ?_
   rintro e v ⟨rfl, rfl⟩
   refine .inl ⟨_, rfl, KX.of_kf (KF.refl _), xs, ops, dn, k, ⟨hNm, hsm⟩, hI, by rw [hmap]; exact hS.twice hx, ⟨hops.1, by rw [hlen1]; omega⟩, fun e => absurd e hturn⟩
 ·have hperm := rest_perm (Z := Z) (ps := ps) hi hx
  have hRS := hS.rs.perm (hperm.append_left dn)
  rw [← List.append_assoc] at hRS
  have hcnt := hRS.count
  have hnum := hRS.num
  have hnb := h.hnb
  have hfit := h.hfit
  refine (mergeZ_any (pz := pz) (W := ⟨base, W⟩) (g := g) (room := room) (ops := ops) (xs := xs) h.nmr b parts (some ⟨gn, 0, none⟩) nn cn k gn (0 + stZ Z nn x) (lnZ Z nn x) (lnZ Z nn x) nb bb dn (ckP Z ps (ixP Z nn x)) (restP Z ps N (pre.map (ixP Z nn) ++ [ixP Z nn x])) hckl.symm (by omega) (by omega) W hcut hRS (by omega) hI.sa hNm hsm ⟨hops.1, by omega⟩ hI.runs h.hg h.hgg h.f.bb (by clear hfit; omega) h.hroom F hfit).mono ?_
  rintro e v (⟨rfl, zs, ops', hz, hs', hNz, hsz, ho1, ho2, hr', hkx, hy1, hy2⟩ | ⟨t, y, rfl, hkx, hbd⟩)
  rotate_left 1
  ·exact .inr ⟨t, y, by rcases hbd.e_pos with rfl | rfl <;> decide, rfl, hkx, .inr hbd⟩
  refine .inl ⟨_, rfl, hkx, zs, ops', dn ++ [(mrgP k (ckP Z ps (ixP Z nn x))).1], _, ⟨hNz, hsz⟩, hI.next h.f hkx hs' hr', by rw [hmap]; exact hS.step h.nmr h.hlt (by omega) hz hy1 hy2, ⟨ho1, by rw [hlen1]; omega⟩, fun e => ?_⟩
  obtain ⟨e1, e2⟩ := chZ_snoc e
  obtain ⟨g1, g2, g3⟩ := hgood e1
  have hix : ixP Z nn x = pre.length := by rw [e2]; exact h.ix_eq hl
  rw [hlen1]
  refine ⟨by unfold nmP at *; rw [List.map_append, g1]; rfl, ?_, ?_⟩
  ·show _ = (pst Z ps k0 pre.length).1 ++ [(mrgP (pst Z ps k0 pre.length).2 (ckP Z ps pre.length)).1]
   rw [hix, ← g2, ← g3]
  ·show _ = (mrgP (pst Z ps k0 pre.length).2 (ckP Z ps pre.length)).2
   rw [hix, ← g3]
end
end Go.Proofs.YtjldamkmdkaiiaaGreatDoor
