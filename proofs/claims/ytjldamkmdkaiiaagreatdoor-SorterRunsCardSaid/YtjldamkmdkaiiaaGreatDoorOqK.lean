/-
  Layer sorter: pass: the walk.
-/
import Derived.Test.YtjldamkmdkaiiaaGreatDoorOmK
import Derived.RangeFuncFrom
import Derived.OrdersIn
import Derived.Sort.CutIn
set_option linter.unusedSimpArgs false
set_option linter.unusedVariables false
set_option maxRecDepth 8000
namespace Go.Proofs.YtjldamkmdkaiiaaGreatDoor
open Go.RowKit Go.WideShapes Col Go.Sort
section
variable {W : Bs} {g : Nat} {room ops : Int} {xs : List Fil}
set_option maxHeartbeats 4000000 in
theorem read_noK {t : ByteArray} (hf : formK t = true) (hn : xs.length ≤ 1000) (lo : Nat) (hlo : Hid (Place xs t lo)) (hno : Hid (isAt xs t lo = false)) (w : World) (hs : Hid (SA W g room false 0 ops xs w)) :
  Calls Tryz.prog 61 #[.pointer (some ⟨g, 0, none⟩), .string t] w fun e w' => e = .returned (.tuple #[.slice none 0 0, .int .i64 5]) ∧ Below w.heap.size w w' := by
 have hP := place_A t hn lo hlo w hs
 rw [hno.out] at hP
 have HP : Hid (Calls Tryz.prog 50 #[.pointer (some ⟨g, 0, none⟩), .string t] w fun e w' => e = .returned (.tuple #[.int .i64 0, .int .i64 5]) ∧ Below w.heap.size w w') := Lib.hid (hP.mono fun e w' ⟨he, hb⟩ => ⟨by rw [he]; unfold placeAt; rw [hf]; rfl, hb⟩)
 clear hP hlo hno hs
 go_enter Tryz.func61, Tryz.ntmps61
 go_wp2_with (go_at_call 50; refine HP.out.mono ?_; rintro z w1 ⟨rfl, hb⟩; have HB := Lib.hid hb; clear hb)
 exact bodyPost_ret (results_tmp2O rfl _ _ _) rfl ⟨rfl, HB.out⟩
set_option maxHeartbeats 4000000 in
theorem take_noK {t : ByteArray} (b : Nat) (parts : Int) (N : Option Addr) (nn cn laid : Nat) (hf : formK t = true) (hn : xs.length ≤ 1000) (hr : Rises xs) (hno : ∀ x ∈ xs, cmpKF x.name t ≠ 0) (w : World)
  (hs : Hid (SA W g room false 0 ops xs w)) (HR : Hid (RunsAt9 w b g parts N nn cn laid)) :
  Calls Tryz.prog 47 #[.pointer (some ⟨b, 0, none⟩), .string t] w fun e w' => e = .returned (.tuple #[.slice none 0 0, .int .i64 5]) ∧ Below w.heap.size w w' := by
 have hia : isAt xs t (placeOf xs t) = false := by
  unfold isAt
  rcases hx : xs[placeOf xs t]? with _ | x
  ·rfl
  ·have := hno x (List.mem_of_getElem? hx)
   simp [this]
 have HRD := Lib.hid (read_noK hf hn (placeOf xs t) (Lib.hid (hr.place t)) (Lib.hid hia) w hs)
 have cb0 : w.cell? ⟨b, 0, none⟩ = some (.pointer (some ⟨g, 0, none⟩)) := by rw [cell_of_row _ _ _ _ _ _ HR.out]; rfl
 clear hia
 go_enter Tryz.func47, Tryz.ntmps47
 go_wp2_with (go_at_call 61; (with_reducible refine HRD.out.mono ?_); rintro e w2 ⟨rfl, h1⟩; have HB2 := Lib.hid h1; clear h1)
 exact bodyPost_ret (results_tmp2O rfl _ _ _) rfl ⟨rfl, HB2.out⟩
set_option maxHeartbeats 4000000 in
theorem merge_no (b : Nat) (parts : Int) (N : Option Addr) (nn cn k : Nat) (gn on n c : Nat) (t : ByteArray) (hn2 : 2 ≤ n) (hn16 : n ≤ 16) (w : World) (hc : w.cell? ⟨gn, on, none⟩ = some (.string t)) (hgn : gn < w.heap.size)
  (hf : formK t = true) (hx : xs.length ≤ 1000) (hr : Rises xs) (hno : ∀ x ∈ xs, cmpKF x.name t ≠ 0) (hs : Hid (SA W g room false 0 ops xs w)) (HR : Hid (RunsAt9 w b g parts N nn cn k)) :
  Calls Tryz.prog 60 #[.pointer (some ⟨b, 0, none⟩), .slice (some ⟨gn, on, none⟩) n c] w fun e w' => e = .returned (.tuple #[.string { data := #[] }, .int .i64 5]) ∧ Below w.heap.size w w' := by
 obtain ⟨i0, hi, hz0, hz1, hz2⟩ := info_parts infoSl
 have hz2' : i0.bytes * n ≤ 281474976710656 := by rw [hz2]; omega
 have hnml : n ≤ maxLen := by unfold maxLen; omega
 have hn1 : ¬ (n : Int) = 1 := by omega
 have h0n : (0 : Int) < (n : Int) := by omega
 have HC : Hid (∀ w', Below w.heap.size w w' → w'.cell? ⟨gn, on, none⟩ = some (.string t)) := Lib.hid fun w' hb => (hb.cell (p := ⟨gn, on, none⟩) hgn).trans hc
 clear hc
 go_enter Tryz.func60, Tryz.ntmps60
 go_wp2_with (refine wpList_make_full _ rfl (.tmp 20) (.tmp 20) 114 rfl w.heap.size 22 i0 (.slice none 0 0) 1 Tryz.underlying114 hi hz0 hz1 .i64 .i64 _ _ n rfl rfl rfl rfl hz2' hnml (Nat.le_refl _) ?_; intro w1 own hgr; have HGR := Lib.hid hgr; clear own hgr)
 have HB1 : Hid (Below w.heap.size w w1) := Lib.hid ((Below.refl _ w).grown HGR.out (Nat.le_refl _) (by intro k hk; cases hk))
 have HTN := Lib.hid (take_noK (W := W) (g := g) (room := room) (ops := ops) b parts N nn cn k hf hx hr hno w1 (Lib.hid (hs.out.next HB1.out)) (Lib.hid (HR.out.keep HB1.out)))
 have hc1 := HC.out w1 HB1.out
 refine wp_loop_rounds 1 ?_
 rw [rounds_succ]
 go_wp2_with (go_at_call 47; (with_reducible refine HTN.out.mono ?_); rintro e w2 ⟨rfl, h1⟩; have HB2 := Lib.hid h1; clear h1)
 exact bodyPost_ret (results_tmp2O rfl _ _ _) rfl ⟨rfl, below_to HB1.out HB2.out⟩
end
theorem RS.perm {TT : Nat} {dgs : Nat → ByteArray} {parts : Int} {nb bb : Nat} {xs : List Fil} {ps qs : List (Nat × List Ev)} {k : Nat} (h : RS TT dgs parts nb bb xs ps k) (hp : ps.Perm qs) : RS TT dgs parts nb bb xs qs k := by
 have h1 : runsLen (evP ps) = runsLen (evP qs) := by unfold runsLen evP; exact ((hp.map _).map _).sum_nat
 have h2 : (evP ps).flatten.length = (evP qs).flatten.length := by
  rw [List.length_flatten, List.length_flatten]; unfold evP; exact ((hp.map _).map _).sum_nat
 exact ⟨h.rises, fun p hq => h.lt p (hp.mem_iff.2 hq), h.dis.perm hp (fun h => h.symm), fun p hq => h.run p (hp.mem_iff.2 hq), h.fresh, by rw [h.num, hp.length_eq], by rw [h.sum, h1], fun p hq => h.good p (hp.mem_iff.2 hq), by rw [← h2]; exact h.tot⟩
def ckP (Z : Nat) (ps : List (Nat × List Ev)) (j : Nat) : List (Nat × List Ev) := (ps.drop (Z * j)).take Z
theorem ck_all (Z : Nat) (ps : List (Nat × List Ev)) (m : Nat) : (List.range m).flatMap (ckP Z ps) = ps.take (Z * m) := by
 induction m with
 | zero => simp
 | succ m ih =>
  rw [List.range_succ, List.flatMap_append, ih]
  simp only [List.flatMap_cons, List.flatMap_nil, List.append_nil]
  unfold ckP
  rw [Nat.mul_succ, List.take_add]
def restP (Z : Nat) (ps : List (Nat × List Ev)) (N : Nat) (T : List Nat) : List (Nat × List Ev) := ((List.range N).filter (fun j => decide (j ∉ T))).flatMap (ckP Z ps)
theorem rest_perm {Z : Nat} {ps : List (Nat × List Ev)} {N : Nat} {T : List Nat} {i : Nat} (hi : i < N) (hT : i ∉ T) : (restP Z ps N T).Perm (ckP Z ps i ++ restP Z ps N (T ++ [i])) := by
 unfold restP
 have h : ((List.range N).filter (fun j => decide (j ∉ T))).Perm (i :: (List.range N).filter (fun j => decide (j ∉ T ++ [i]))) := by
  refine (List.perm_ext_iff_of_nodup (List.nodup_range.filter _) (List.nodup_cons.2 ⟨by simp, List.nodup_range.filter _⟩)).2 fun a => ?_
  simp only [List.mem_filter, List.mem_range, decide_eq_true_eq, List.mem_cons, List.mem_append, List.not_mem_nil, or_false, not_or]
  constructor
  ·rintro ⟨h1, h2⟩
   by_cases e : a = i
   ·exact .inl e
   ·exact .inr ⟨h1, h2, e⟩
  ·rintro (rfl | ⟨h1, h2, -⟩)
   ·exact ⟨hi, hT⟩
   ·exact ⟨h1, h2⟩
 exact h.flatMap_right _
theorem rest_twice {Z : Nat} {ps : List (Nat × List Ev)} {N : Nat} {T : List Nat} {i : Nat} (hT : i ∈ T) : restP Z ps N (T ++ [i]) = restP Z ps N T := by
 unfold restP
 congr 1
 refine List.filter_congr fun a _ => ?_
 have : (a ∉ T ++ [i]) ↔ (a ∉ T) := by
  simp only [List.mem_append, List.mem_singleton, not_or]
  exact ⟨fun h => h.1, fun h => ⟨h, fun e => h (e ▸ hT)⟩⟩
 exact decide_eq_decide.2 this
theorem rest_nil {Z : Nat} {ps : List (Nat × List Ev)} {N : Nat} : restP Z ps N (List.range N) = [] := by
 unfold restP
 rw [List.filter_eq_nil_iff.2 (fun a ha => by simpa using ha)]; rfl
theorem rest_all {Z : Nat} {ps : List (Nat × List Ev)} {N : Nat} (hN : ps.length ≤ Z * N) : restP Z ps N [] = ps := by
 unfold restP
 rw [List.filter_eq_self.2 (fun a _ => by simp), ck_all, List.take_of_length_le hN]
structure PassS (TT : Nat) (dgs : Nat → ByteArray) (parts : Int) (nb bb Z : Nat) (ps : List (Nat × List Ev)) (N k0 : Nat) (T : List Nat) (xs : List Fil) (dn : List (Nat × List Ev)) (k : Nat) : Prop where
 rs : RS TT dgs parts nb bb xs (dn ++ restP Z ps N T) k
 kle : k ≤ k0 + T.length
 ge : k0 ≤ k
 len : dn.length ≤ T.length
 gone : ∀ i ∈ T, 2 ≤ (ckP Z ps i).length → ∀ p ∈ ckP Z ps i, ∀ y ∈ xs, cmpKF y.name (rn dgs p.1) ≠ 0
theorem PassS.start {TT : Nat} {dgs : Nat → ByteArray} {parts : Int} {nb bb Z : Nat} {ps : List (Nat × List Ev)} {N k0 : Nat} {xs : List Fil} (h : RS TT dgs parts nb bb xs ps k0) (hN : ps.length ≤ Z * N) : PassS TT dgs parts nb bb Z ps N k0 [] xs [] k0 :=
 ⟨by rw [rest_all hN]; exact h, Nat.le_refl _, Nat.le_refl _, Nat.le_refl _, fun i hi => nomatch hi⟩
theorem PassS.step {TT : Nat} {dgs : Nat → ByteArray} {parts : Int} {nb bb Z : Nat} {ps : List (Nat × List Ev)} {N k0 : Nat} {T : List Nat} {xs zs : List Fil} {dn : List (Nat × List Ev)} {k i : Nat} (hNm : Namer dgs) (h : PassS TT dgs parts nb bb Z ps N k0 T xs dn k) (hps : ∀ p ∈ ps, p.1 < k0) (hk : k < 999)
  (hz : RS TT dgs parts nb bb zs (dn ++ [(mrgP k (ckP Z ps i)).1] ++ restP Z ps N (T ++ [i])) (mrgP k (ckP Z ps i)).2) (h1 : ∀ y ∈ zs, y ∈ xs ∨ y.name = rn dgs k) (h2 : 2 ≤ (ckP Z ps i).length → ∀ p ∈ ckP Z ps i, ∀ y ∈ zs, cmpKF y.name (rn dgs p.1) ≠ 0) :
  PassS TT dgs parts nb bb Z ps N k0 (T ++ [i]) zs (dn ++ [(mrgP k (ckP Z ps i)).1]) (mrgP k (ckP Z ps i)).2 := by
 refine ⟨hz, ?_, ?_, ?_, fun j hj hl p hp y hy => ?_⟩
 ·have := mrgP_le k (ckP Z ps i); have := h.kle; rw [List.length_append, List.length_singleton]; omega
 ·have := h.ge; unfold mrgP; split <;> dsimp only <;> omega
 ·have := h.len; simp; omega
 ·rcases List.mem_append.1 hj with hj | hj
  ·rcases h1 y hy with h3 | h3
   ·exact h.gone j hj hl p hp y h3
   ·rw [h3]
    have hp' : p ∈ ps := List.mem_of_mem_drop (List.mem_of_mem_take hp)
    have := hps p hp'
    have := h.ge
    exact hNm.inj _ _ (by omega) (by omega) (by omega)
  ·rw [List.mem_singleton.1 hj] at hl hp
   exact h2 hl p hp y hy
theorem PassS.twice {TT : Nat} {dgs : Nat → ByteArray} {parts : Int} {nb bb Z : Nat} {ps : List (Nat × List Ev)} {N k0 : Nat} {T : List Nat} {xs : List Fil} {dn : List (Nat × List Ev)} {k i : Nat} (h : PassS TT dgs parts nb bb Z ps N k0 T xs dn k) (hi : i ∈ T) : PassS TT dgs parts nb bb Z ps N k0 (T ++ [i]) xs dn k := by
 refine ⟨by rw [rest_twice hi]; exact h.rs, by have := h.kle; rw [List.length_append]; omega, h.ge, by have := h.len; rw [List.length_append]; omega, fun j hj => ?_⟩
 rcases List.mem_append.1 hj with hj | hj
 ·exact h.gone j hj
 ·rw [List.mem_singleton.1 hj]; exact h.gone i hi
end Go.Proofs.YtjldamkmdkaiiaaGreatDoor
namespace Go.Proofs.YtjldamkmdkaiiaaGreatDoor
open Go.RowKit Go.WideShapes Col Go.Sort Go.Shelf
def ixP (Z nn x : Nat) : Nat := if Z * x < nn then x else 0
theorem st_ix (Z nn x : Nat) : stZ Z nn x = Z * ixP Z nn x := by unfold stZ ixP; split <;> simp
theorem ck_len (Z : Nat) (ps : List (Nat × List Ev)) (i : Nat) : (ckP Z ps i).length = min Z (ps.length - Z * i) := by unfold ckP; rw [List.length_take, List.length_drop]
theorem len_le_flat (ls : List (List Ev)) (h : ∀ l ∈ ls, 0 < l.length) : ls.length ≤ ls.flatten.length := by
 induction ls with
 | nil => exact Nat.le_refl _
 | cons a r ih =>
  have h1 := h a (List.mem_cons_self ..)
  have h2 := ih fun l hl => h l (List.mem_cons_of_mem _ hl)
  rw [List.flatten_cons, List.length_append, List.length_cons]; omega
theorem RS.count {TT : Nat} {dgs : Nat → ByteArray} {parts : Int} {nb bb : Nat} {xs : List Fil} {ps : List (Nat × List Ev)} {k : Nat} (h : RS TT dgs parts nb bb xs ps k) : ps.length ≤ 320 := by
 have h1 := len_le_flat (evP ps) (fun l hl => by obtain ⟨p, hp, rfl⟩ := List.mem_map.1 hl; exact (h.good p hp).pos)
 have h2 : (evP ps).length = ps.length := by unfold evP; rw [List.length_map]
 have := h.tot; omega
structure PassG (TT : Nat) (dgs : Nat → ByteArray) (base w : World) (g : Nat) (room : Int) (b gn nn nb bb Z : Nat) (ps : List (Nat × List Ev)) (N k0 : Nat) (ops0 : Int) (s : Nat) : Prop where
 nmr : Namer dgs
 f : PassF base w b gn s
 hnn : nn = ps.length
 hpos : 0 < nn
 hz : 2 ≤ Z ∧ Z ≤ 16
 hn : ∀ k, Z * k < nn ↔ k < N
 hlt : ∀ p ∈ ps, p.1 < k0
 hk : k0 + N < 999
 hops : 0 ≤ ops0 ∧ ops0 < 800000000
 hg : TabsAt base
 hgg : base.heap.size ≤ g
 hnb : nb < 100
 hroom : room ≤ 16777216
 hfit : ((bb + 700 * TT : Nat) : Int) ≤ room
def PassJ (TT : Nat) (base : World) (g : Nat) (room : Int) (dgs : Nat → ByteArray) (b : Nat) (parts : Int) (gn nn cn nb bb Z : Nat) (ps : List (Nat × List Ev)) (N k0 : Nat) (ops0 : Int) (w : World) (s : Nat) (pre : List Nat) (W : World) (xs : List Fil) (ops : Int) (A : Option Addr) (m cap : Nat) (names : List ByteArray) (dn : List (Nat × List Ev)) (k : Nat) : Prop :=
 PassI base g room b parts gn nn cn Z (nmP dgs ps) w s W xs ops A m cap names k ∧ PassS TT dgs parts nb bb Z ps N k0 (pre.map (ixP Z nn)) xs dn k ∧ names.length = pre.length ∧ (0 ≤ ops ∧ ops ≤ ops0 + 20 * pre.length) ∧ (pre = chZ pre.length → names = nmP dgs dn ∧ dn = (pst Z ps k0 pre.length).1 ∧ k = (pst Z ps k0 pre.length).2)
theorem chZ_snoc {pre : List Nat} {x : Nat} (h : pre ++ [x] = chZ (pre ++ [x]).length) : pre = chZ pre.length ∧ x = pre.length := by
 rw [List.length_append, List.length_singleton, chZ_succ] at h
 have := List.append_inj' h rfl
 exact ⟨this.1, by simpa using this.2⟩
section
variable {TT : Nat} {dgs : Nat → ByteArray} {base w W : World} {g : Nat} {room : Int} {b gn nn cn nb bb Z : Nat} {parts : Int} {ps : List (Nat × List Ev)} {N k0 : Nat} {ops0 : Int} {s : Nat} {pre : List Nat} {xs : List Fil} {ops : Int} {A : Option Addr} {m cap : Nat} {names : List ByteArray} {dn : List (Nat × List Ev)} {k : Nat}
theorem PassG.ix_lt (h : PassG TT dgs base w g room b gn nn nb bb Z ps N k0 ops0 s) (x : Nat) : ixP Z nn x < N ∧ Z * ixP Z nn x < nn := by
 have h1 : Z * ixP Z nn x < nn := by unfold ixP; split; assumption; have := h.hpos; omega
 exact ⟨(h.hn _).1 h1, h1⟩
theorem PassG.ix_eq (h : PassG TT dgs base w g room b gn nn nb bb Z ps N k0 ops0 s) {x : Nat} (hx : x < N) : ixP Z nn x = x := by unfold ixP; rw [if_pos ((h.hn _).2 hx)]
theorem PassG.turn (h : PassG TT dgs base w g room b gn nn nb bb Z ps N k0 ops0 s) (hl : pre.length < N) {x : Nat} (hx : ixP Z nn x ∈ pre.map (ixP Z nn)) : pre ++ [x] ≠ chZ (pre ++ [x]).length := fun e => by
 obtain ⟨h1, h2⟩ := chZ_snoc e
 obtain ⟨y, hy, hyx⟩ := List.mem_map.1 hx
 rw [h1] at hy
 have hyl : y < pre.length := by unfold chZ at hy; simpa using hy
 rw [h.ix_eq (show y < N by omega), h2, h.ix_eq hl] at hyx
 omega
theorem pass_round (h : PassG TT dgs base w g room b gn nn nb bb Z ps N k0 ops0 s) (hJ : PassJ TT base g room dgs b parts gn nn cn nb bb Z ps N k0 ops0 w s pre W xs ops A m cap names dn k) (hl : pre.length < N) (x : Nat) :
  Calls Tryz.prog 60 #[.pointer (some ⟨b, 0, none⟩), .slice (some ⟨gn, 0 + stZ Z nn x, none⟩) (lnZ Z nn x) (lnZ Z nn x)] W fun e v =>
   (∃ nm, e = .returned (.tuple #[.string nm, .int .i64 0]) ∧ KX b W v ∧ ∃ xs' ops' dn' k', PassI base g room b parts gn nn cn Z (nmP dgs ps) w s v xs' ops' A m cap names k' ∧ PassS TT dgs parts nb bb Z ps N k0 ((pre ++ [x]).map (ixP Z nn)) xs' dn' k' ∧ (0 ≤ ops' ∧ ops' ≤ ops0 + 20 * ((pre ++ [x]).length : Nat)) ∧ (pre ++ [x] = chZ (pre ++ [x]).length → names ++ [nm] = nmP dgs dn' ∧ dn' = (pst Z ps k0 (pre ++ [x]).length).1 ∧ k' = (pst Z ps k0 (pre ++ [x]).length).2)) ∨
   (e = .returned (.tuple #[.string { data := #[] }, .int .i64 5]) ∧ Below W.heap.size W v ∧ pre ++ [x] ≠ chZ (pre ++ [x]).length) := by
 obtain ⟨hI, hS, hnl, hops, hgood⟩ := hJ
 obtain ⟨hi, hin⟩ := h.ix_lt x
 have hlf := lnZ_facts (Z := Z) (len := nn) (j := x) (by have := h.hz; omega) h.hpos
 have hckl : (ckP Z ps (ixP Z nn x)).length = lnZ Z nn x := by rw [ck_len, ← h.hnn]; unfold lnZ; rw [st_ix]
 have hmap : (pre ++ [x]).map (ixP Z nn) = pre.map (ixP Z nn) ++ [ixP Z nn x] := by rw [List.map_append]; rfl
 have hcut : NmAt W gn (0 + stZ Z nn x) (nmP dgs (ckP Z ps (ixP Z nn x))) := by
  have := hI.nm.cut (Z * ixP Z nn x) Z
  rw [st_ix]; unfold nmP ckP at *; rwa [← List.map_drop, ← List.map_take] at this
 have hk1 := hS.kle
 rw [List.length_map] at hk1
 have hkk := h.hk
 have hopb := h.hops
 have hlen1 : (pre ++ [x]).length = pre.length + 1 := by simp
 have hlfz := h.hz
 by_cases hx : ixP Z nn x ∈ pre.map (ixP Z nn)
 ·have hturn := h.turn hl hx
  by_cases h2 : 2 ≤ lnZ Z nn x
  ·obtain ⟨p, hp⟩ : ∃ p, (ckP Z ps (ixP Z nn x))[0]? = some p := ⟨_, List.getElem?_eq_getElem (by omega)⟩
   have hpm := List.mem_of_getElem? hp
   have hpp : p ∈ ps := List.mem_of_mem_drop (List.mem_of_mem_take hpm)
   have hc := hcut.cell (j := 0) (s := rn dgs p.1) (by unfold nmP; rw [List.getElem?_map, hp]; rfl)
   rw [Nat.add_zero] at hc
   have hcnt := hS.rs.count
   have hnum := hS.rs.num
   have hnb := h.hnb
   refine (merge_no (W := ⟨base, W⟩) (g := g) (room := room) (ops := ops) (xs := xs) b parts (some ⟨gn, 0, none⟩) nn cn k gn (0 + stZ Z nn x) (lnZ Z nn x) (lnZ Z nn x) (rn dgs p.1) h2 (by omega) W hc (by have := h.f.gl; have := h.f.ws; have := hI.size; omega) (h.nmr.form _ (by have := h.hlt p hpp; omega)) (by omega) hS.rs.rises (fun y hy => hS.gone _ hx (by rw [hckl]; exact h2) p hpm y hy) (Lib.hid hI.sa) (Lib.hid hI.runs)).mono ?_
   rintro e v ⟨rfl, hb⟩
   exact .inr ⟨rfl, hb, hturn⟩
  ·have h1 : lnZ Z nn x = 1 := by omega
   obtain ⟨p, hp⟩ : ∃ p, (ckP Z ps (ixP Z nn x))[0]? = some p := ⟨_, List.getElem?_eq_getElem (by omega)⟩
   have hc := hcut.cell (j := 0) (s := rn dgs p.1) (by unfold nmP; rw [List.getElem?_map, hp]; rfl)
   rw [Nat.add_zero] at hc
   rw [h1]
   refine (merge_one b gn (0 + stZ Z nn x) 1 (rn dgs p.1) W hc).mono ?_
   rintro e v ⟨rfl, rfl⟩
   refine .inl ⟨_, rfl, KX.of_kf (KF.refl _), xs, ops, dn, k, hI, by rw [hmap]; exact hS.twice hx, ⟨hops.1, by rw [hlen1]; omega⟩, fun e => absurd e hturn⟩
 ·have hperm := rest_perm (Z := Z) (ps := ps) hi hx
  have hRS := hS.rs.perm (hperm.append_left dn)
  rw [← List.append_assoc] at hRS
  have hcnt := hRS.count
  have hnum := hRS.num
  have hnb := h.hnb
  have hfit := h.hfit
  refine (merge_any (W := ⟨base, W⟩) (g := g) (room := room) (ops := ops) (xs := xs) h.nmr b parts (some ⟨gn, 0, none⟩) nn cn k gn (0 + stZ Z nn x) (lnZ Z nn x) (lnZ Z nn x) nb bb dn (ckP Z ps (ixP Z nn x)) (restP Z ps N (pre.map (ixP Z nn) ++ [ixP Z nn x])) hckl.symm (by omega) (by omega) W hcut hRS (by omega) hI.sa ⟨hops.1, by omega⟩ hI.runs h.hg h.hgg h.f.bb (by clear hfit; omega) h.hroom hfit).mono ?_
  rintro e v ⟨rfl, zs, ops', hz, hs', ho1, ho2, hr', hkx, hy1, hy2⟩
  refine .inl ⟨_, rfl, hkx, zs, ops', dn ++ [(mrgP k (ckP Z ps (ixP Z nn x))).1], _, hI.next h.f hkx hs' hr', by rw [hmap]; exact hS.step h.nmr h.hlt (by omega) hz hy1 hy2, ⟨ho1, by rw [hlen1]; omega⟩, fun e => ?_⟩
  obtain ⟨e1, e2⟩ := chZ_snoc e
  obtain ⟨g1, g2, g3⟩ := hgood e1
  have hix : ixP Z nn x = pre.length := by rw [e2]; exact h.ix_eq hl
  rw [hlen1]
  refine ⟨by unfold nmP at *; rw [List.map_append, g1]; rfl, ?_, ?_⟩
  ·show _ = (pst Z ps k0 pre.length).1 ++ [(mrgP (pst Z ps k0 pre.length).2 (ckP Z ps pre.length)).1]
   rw [hix, ← g2, ← g3]
  ·show _ = (mrgP (pst Z ps k0 pre.length).2 (ckP Z ps pre.length)).2
   rw [hix, ← g3]
end
attribute [local go_sem] Oper.semAt_some
theorem OwnT.caps {w : World} {B n cap : Nat} {A : Option Addr} {l : List ByteArray} (h : OwnT w B A n cap l) (h0 : 0 < n) : ∃ q, A = some ⟨q, 0, none⟩ ∧ B ≤ q ∧ NmAt w q 0 l ∧ n ≤ cap ∧ cap ≤ maxLen ∧ ∃ cur, w.heap[q]? = some (.cells cur 9 (0, 0)) := by
 obtain ⟨q, rfl, h2, h3⟩ := h.nm h0
 rcases h.2 with ⟨h1, -⟩ | ⟨g, cap', cur, h1, hb, hrow, hn, hm, hs, ht⟩
 ·cases h1
 ·injection h1 with h4 h5 h6
  injection h4 with h4; injection h4 with h4 _ _
  subst h4; subst h6
  exact ⟨q, rfl, h2, h3, hn, hm, cur, hrow⟩
theorem wpListIn_append_T {F : Fence} {n1 : Nat} {w : World} {ops : Array Oper} {rest : List Oper} {o : Oper} {ac : Act} {Q : Exit → Act → World → Prop} (hgd : o.guard = none) (s x : Operand)
  (ho : o.op = .call { callee := .builtin .append, args := #[s, x], argTypes := #[37, 37] })
  (B : Nat) (A : Option Addr) (n cap : Nat) (l : List ByteArray) (hs : ac.eval s = .slice A n cap) (hown : OwnT w B A n cap l) (aq ao : Nat) (t : ByteArray) (hx : ac.eval x = .slice (some ⟨aq, ao, none⟩) 1 1) (h2 : w.cell? ⟨aq, ao, none⟩ = some (.string t))
  (hbytes : n ≤ 1000) (hbase : B ≤ w.heap.size)
  (h : ∀ A' cap' w', OwnT w' B A' (n + 1) cap' (l ++ [t]) → w.grownBy w' (A.map (·.block)) → wpListIn F n1 Tryz.prog ops Q rest (ac.put o.dst (.slice A' (n + 1) cap')) w') : wpListIn F n1 Tryz.prog ops Q (o :: rest) ac w := by
 obtain ⟨i0, hi, hz0, hz1, hz2⟩ := info_parts infoStrF
 refine wpListIn_append_own w hgd s x 37 ho B 9 i0 _ 1 16 Tryz.underlying37 hi hz0 hz1 hz2 rfl (by decide) (.slice A n cap) n (tvT l) hs hown ⟨aq, ao, none⟩ 1 1 (tvT [t]) hx rfl (fun j u hu => ?_) (fun u hu => ?_) (by unfold maxLen; omega) (by omega) hbase ?_
 ·rcases j with _ | j
  ·injection hu with hu; subst hu
   rw [Addr.add_lit, Nat.add_zero]; exact h2
  ·cases hu
 ·obtain ⟨y, -, rfl⟩ := List.mem_map.1 hu; rfl
 ·intro v' w2 hown2 hgr _
  have e : tvT l ++ tvT [t] = tvT (l ++ [t]) := by unfold tvT; rw [List.map_append]
  rw [e] at hown2
  obtain ⟨A1, c1, rfl⟩ : ∃ A1 c1, v' = .slice A1 (n + 1) c1 := by
   rcases hown2.2 with ⟨h1, h3⟩ | ⟨g, cap', cur, h1, -⟩
   ·omega
   ·exact ⟨_, _, h1⟩
  exact h A1 c1 w2 hown2 (by rcases A with _ | a <;> exact hgr)
theorem results_errO {fn : Func} {p : Tmp} (h : fn.results = #[.cell p 28]) (tmps : Array Value) (w : World) (g : Nat) (v : Value) (hp : tmps.getD p undef = .pointer (some ⟨g, 0, none⟩)) (hc : w.cell? ⟨g, 0, none⟩ = some v) : (results fn tmps).run Tryz.prog w = .ok v w := by
 rw [Array.getD_eq_getD_getElem?] at hp
 simp [results, h, hp]
 go_simp
theorem round_rows {base w W v : World} {g : Nat} {room : Int} {b gn nn cn Z : Nat} {parts : Int} {nms names : List ByteArray} {s : Nat} {xs : List Fil} {ops : Int} {A : Option Addr} {m cap k : Nat} {e : Ending} {P : ByteArray → Prop} {R : Prop} (hf : PassF base w b gn s) (hI : PassI base g room b parts gn nn cn Z nms w s W xs ops A m cap names k)
  (h : (∃ nm, e = .returned (.tuple #[.string nm, .int .i64 0]) ∧ KX b W v ∧ P nm) ∨ (e = .returned (.tuple #[.string { data := #[] }, .int .i64 5]) ∧ Below W.heap.size W v ∧ R)) :
  v.heap[s + 1]? = some (.cells #[.int .i64 0] 28 (0, 0)) ∧ v.heap[s + 2]? = some (.cells #[.slice A m cap] 37 (0, 0)) ∧ OwnT v (s + 5) A m cap names ∧ s + 5 ≤ v.heap.size := by
 have hk : KX b W v := by
  rcases h with ⟨nm, -, h, -⟩ | ⟨-, h, -⟩
  ·exact h
  ·exact KX.of_kf (KF.of_below h)
 have h1 := hf.hb; have h2 := hf.ws
 exact ⟨hk.row (by omega) hI.r1 (not_st (by decide) (by decide) (by decide)), hk.row (by omega) hI.r2 (not_st (by decide) (by decide) (by decide)), hI.own.kx hk (by omega), Nat.le_trans hI.size hk.size⟩
section
variable {TT : Nat} {dgs : Nat → ByteArray} {W : Bs} {w : World} {g : Nat} {room : Int} {b gn nn cn nb bb Z : Nat} {parts : Int} {ps : List (Nat × List Ev)} {N k0 : Nat} {ops0 : Int} {xs : List Fil}
set_option maxHeartbeats 8000000 in
theorem pass_any (hG : PassG TT dgs W.b w g room b gn nn nb bb Z ps N k0 ops0 w.heap.size) (HRS : RS TT dgs parts nb bb xs ps k0) (hs : SA W g room false 0 ops0 xs w) (HR : RunsAt9 w b g parts (some ⟨gn, 0, none⟩) nn cn k0) (HN : NmAt w gn 0 (nmP dgs ps)) (hncn : nn ≤ cn) (hcm : cn ≤ maxLen) :
  Calls Tryz.prog 46 #[.pointer (some ⟨b, 0, none⟩), .int .i64 (Z : Int)] w fun e w' => e = .returned (.int .i64 0) ∧ ∃ xs' ops' gn' cap', RS TT dgs parts nb bb xs' (pst Z ps k0 N).1 (pst Z ps k0 N).2 ∧ SA ⟨W.b, w'⟩ g room false 0 ops' xs' w' ∧ (0 ≤ ops' ∧ ops' ≤ ops0 + 20 * N) ∧ RunsAt9 w' b g parts (some ⟨gn', 0, none⟩) N cap' (pst Z ps k0 N).2 ∧ NmAt w' gn' 0 (nmP dgs (pst Z ps k0 N).1) ∧ w.heap.size ≤ gn' ∧ N ≤ cap' ∧ cap' ≤ maxLen ∧ KX b w w' := by
 have hch := chunkF_anyT Z (by have := hG.hz; omega) (some ⟨gn, 0, none⟩) nn cn
 have HCH := Lib.hid hch
 clear hch
 obtain ⟨s, hss⟩ : ∃ s, s = w.heap.size := ⟨_, rfl⟩
 have HG := Lib.hid hG
 have HS := Lib.hid hss
 have hrb : ∀ w', Below w.heap.size w w' → w'.cell? ⟨b, 2, none⟩ = some (.slice (some ⟨gn, 0, none⟩) nn cn) := fun w' hb => by
  rw [cell_of_row _ _ _ _ _ _ (HR.keep hb)]; rfl
 have hbl : b < w.heap.size := hG.f.hb
 have c2 : ∀ (o1 o2 o3 : Obj), (((w.alloc o1).alloc o2).alloc o3).cell? ⟨b, 2, none⟩ = some (.slice (some ⟨gn, 0, none⟩) nn cn) := fun o1 o2 o3 => hrb _ ((((Below.refl _ _).alloc (Nat.le_refl _) _).alloc (by simp) _).alloc (by simp; omega) _)
 have HRS' := Lib.hid HRS; have Hs := Lib.hid hs; have HR' := Lib.hid HR; have HN' := Lib.hid HN
 clear HRS hs HR HN hG hrb
 refine (callsIn_wide (n := 5)).1 ?_
 refine callsIn_of_wp_marks Tryz.func46 rfl trivial ?_ rfl
 refine wpIn_wide.2 (wp_mono ?_ (noPanicO_imp _))
 simp only [Tryz.ntmps46, List.size_toArray, List.length_cons, List.length_nil, Nat.reduceAdd, Nat.reduceSub, Array.replicate_succ, Array.replicate_zero, List.push_toArray, List.append_toArray, List.nil_append, List.cons_append]
 have c2' := c2 (.cells #[.pointer (some ⟨b, 0, none⟩)] 68) (.cells #[.int .i64 0] 28) (.cells #[.slice none 0 0] 37)
 go_wp2_with (go_at_call 59; (with_reducible refine (HCH.out _).mono ?_); rintro e w2 ⟨rfl, rfl⟩)
 have H0 := pw_new w b gn nn cn Z
 generalize ((((w.alloc (.cells #[.pointer (some ⟨b, 0, none⟩)] 68)).alloc (.cells #[.int .i64 0] 28)).alloc (.cells #[.slice none 0 0] 37)).alloc (.cells #[.slice (some ⟨gn, 0, none⟩) nn cn] 37)).alloc (.cells #[.int .i64 (Z : Int)] 3) = W4 at *
 rw [← HS.out] at H0 HG ⊢
 have HW0 := Lib.hid H0
 have HS4 := Lib.hid H0.size
 have c3 : W4.cell? ⟨s + 3, 0, none⟩ = some (.slice (some ⟨gn, 0, none⟩) nn cn) := by rw [cell_of_row _ _ _ _ _ _ H0.r3]; rfl
 have c4 : W4.cell? ⟨s + 4, 0, none⟩ = some (.int .i64 (Z : Int)) := by rw [cell_of_row _ _ _ _ _ _ H0.r4]; rfl
 have HC3 := Lib.hid c3; have HC4 := Lib.hid c4
 have hb4 : Below w.heap.size w W4 := by have := H0.below; rwa [HS.out] at this
 have HJ0 : Hid (PassJ TT W.b g room dgs b parts gn nn cn nb bb Z ps N k0 ops0 w s [] W4 xs ops0 none 0 0 [] [] k0) := Lib.hid ⟨⟨H0.r0, H0.r1, H0.r2, H0.r3, H0.r4, World.ownsRow_nil _ _ _ 1, (Hs.out.next hb4).now, HR'.out.keep hb4, HN'.out.kf (KF.of_below hb4), by rw [H0.size]; exact Nat.le_refl _, KX.of_kf (KF.of_below hb4)⟩,
  PassS.start HRS'.out (by have h1 := HG.out.hn N; have := HG.out.hnn; omega), rfl, ⟨HG.out.hops.1, by simp⟩, fun _ => ⟨rfl, rfl, rfl⟩⟩
 clear hss H0 c2 c2' hbl HCH c3 c4 hb4
 refine wpIn_wide (n := 5).1 ?_
 refine wpIn_rangeFunc_ownF rfl (by decide) (gf := 72) (lb := #[.pointer (some ⟨s + 3, 0, none⟩), .pointer (some ⟨s + 4, 0, none⟩)]) rfl trivial (enters_of Tryz.func72 (by kernel_rfl) rfl)
  (chunk_stopsT (5 - 1) (by decide) Z (by have := HG.out.hz; omega) (by have := HG.out.hz; omega) (s + 3) (s + 4) gn 0 nn cn N HG.out.hn (by have := HG.out.hnn; have := HRS'.out.count; omega) hncn hcm W4 (by have := HS4.out; omega) (by have := HS4.out; omega) HC3.out HC4.out) KpZ.trans (fun W l o o' hl _ _ _ => KpZ.putObj W l o' (by have := HS4.out; omega) (by have := HS4.out; omega)) (Below.refl _ _) (fun _ => rfl)
  (fun pre V => ∃ xs ops A m cap names dn k, PassJ TT W.b g room dgs b parts gn nn cn nb bb Z ps N k0 ops0 w s pre V xs ops A m cap names dn k) (fun _ pre _ => pre ≠ chZ pre.length)
  (fun pre A B row h hg hr => by
   obtain ⟨xs, ops, A1, m, cap, names, dn, k, h1, h2⟩ := h
   exact ⟨xs, ops, A1, m, cap, names, dn, k, h1.grown HG.out.f hg (fun r e => ⟨by have := (hr r e).1; have := HS4.out; omega, (hr r e).2⟩), h2⟩)
  (fun _ _ _ _ _ hs _ _ => hs)
  ⟨xs, ops0, none, 0, 0, [], [], k0, HJ0.out⟩
  ?a1 ?assign ?body ?done ?stop
 case assign =>
  intro l x W K hK
  unfold encZT
  try simp only [List.zip_toArray, List.zip_cons_cons, List.zip_nil_right, List.zip_nil_left, List.foldl_toArray, List.foldl_cons, List.foldl_nil, List.setIfInBounds_toArray, List.set_cons_succ, List.set_cons_zero]
  gi_wp2
  exact hK
 case stop =>
  rintro D c pre V _ hsp h _
  exact absurd hsp h
 case body =>
  rintro lp pre x W6 ⟨xs6, ops6, A, m, cap, names, dn, k, hJ⟩ hlt
  have HJ := Lib.hid hJ
  have hI := hJ.1
  have c0 : W6.cell? ⟨s, 0, none⟩ = some (.pointer (some ⟨b, 0, none⟩)) := by rw [cell_of_row _ _ _ _ _ _ hI.r0]; rfl
  have hrd := pass_round HG.out hJ hlt x
  rw [Nat.zero_add] at hrd
  have HRD := Lib.hid hrd
  clear hrd
  have HI6 := Lib.hid hI
  have HML : Hid (m = pre.length ∧ pre.length < N) := Lib.hid ⟨by rw [hI.own.len]; exact hJ.2.2.1, hlt⟩
  clear hJ hI hlt
  gi_wp2_with (first
   | (gi_at_call 60; refine (CallsIn.inRound lp (callsIn_wide.2 HRD.out)).mono ?_; rintro e v5 h5; have R1 := Lib.hid (round_rows HG.out.f HI6.out h5).1; have R2 := Lib.hid (round_rows HG.out.f HI6.out h5).2.1; have HOX := Lib.hid (round_rows HG.out.f HI6.out h5).2.2.1; have HSZ5 := Lib.hid (round_rows HG.out.f HI6.out h5).2.2.2; have c2 : v5.cell? ⟨s + 2, 0, none⟩ = some (.slice A m cap) := (by rw [cell_of_row _ _ _ _ _ _ R2.out]; rfl); have c1 : v5.cell? ⟨s + 1, 0, none⟩ = some (.int .i64 0) := (by rw [cell_of_row _ _ _ _ _ _ R1.out]; rfl); have f1 : v5.frozen? ⟨s + 1, 0, none⟩ = false := row_frozen R1.out 0; rcases h5 with ⟨nm, rfl, hkx5, h1⟩ | ⟨rfl, hkx5, h1⟩ <;> have H5 := Lib.hid (And.intro hkx5 h1) <;> clear h1 hkx5)
   | (refine ⟨trivial, ?_⟩; gi_at_call 60; refine (CallsIn.inRound lp (callsIn_wide.2 HRD.out)).mono ?_; rintro e v5 h5; have R1 := Lib.hid (round_rows HG.out.f HI6.out h5).1; have R2 := Lib.hid (round_rows HG.out.f HI6.out h5).2.1; have HOX := Lib.hid (round_rows HG.out.f HI6.out h5).2.2.1; have HSZ5 := Lib.hid (round_rows HG.out.f HI6.out h5).2.2.2; have c2 : v5.cell? ⟨s + 2, 0, none⟩ = some (.slice A m cap) := (by rw [cell_of_row _ _ _ _ _ _ R2.out]; rfl); have c1 : v5.cell? ⟨s + 1, 0, none⟩ = some (.int .i64 0) := (by rw [cell_of_row _ _ _ _ _ _ R1.out]; rfl); have f1 : v5.frozen? ⟨s + 1, 0, none⟩ = false := row_frozen R1.out 0; rcases h5 with ⟨nm, rfl, hkx5, h1⟩ | ⟨rfl, hkx5, h1⟩ <;> have H5 := Lib.hid (And.intro hkx5 h1) <;> clear h1 hkx5)
   | (refine wpListIn_append_T rfl (.tmp 25) (.tmp 27) rfl (s + 5) A m cap names rfl (HOX.out.kf (KF.of_below ((Below.refl _ v5).alloc (Nat.le_refl _) _))) v5.heap.size 0 nm rfl (by simp [World.cell?_alloc_new]) (by have := HML.out; have := HG.out.hk; omega) (by have := HSZ5.out; simp; omega) ?_; intro A7 c7 w7 ho hg; have HO7 := Lib.hid ho; have HG7 := Lib.hid hg; obtain ⟨-, xs', ops', dn', k', hPI, -⟩ := H5.out; have hp7 := (hPI.put HG.out.f ho hg).2.2; have H27 := Lib.hid hp7; have c27 : w7.cell? ⟨s + 2, 0, none⟩ = some (.slice A m cap) := (by rw [cell_of_row _ _ _ _ _ _ hp7]; rfl); have f27 : w7.frozen? ⟨s + 2, 0, none⟩ = false := row_frozen hp7 0; clear ho hg hPI hp7))
  ·obtain ⟨hkx, xs', ops', dn', k', hPI, hPS, hop, hgd⟩ := H5.out
   obtain ⟨hI', ⟨hsz, hnc⟩, -⟩ := hPI.put HG.out.f HO7.out HG7.out
   have hI6 := HI6.out
   refine ⟨⟨Nat.le_trans hkx.size hsz, fun j o ho hc => ?_⟩, ⟨?_, ?_⟩, xs', ops', A7, m + 1, c7, names ++ [nm], dn', k', hI', hPS, ?_, hop, hgd⟩
   ·have hjb : j ≠ b := fun e => by subst e; rw [hI6.runs] at ho; injection ho with ho; subst ho; cases hc
    exact hnc j o (hkx.kept j o ho hjb (fun cs t fr e => by subst e; cases hc)) hc
   ·have h1 := hI'.r3; rw [cell_of_row _ _ _ _ _ _ hI6.r3]; exact cell_of_row _ _ _ _ _ _ h1
   ·have h1 := hI'.r4; rw [cell_of_row _ _ _ _ _ _ hI6.r4]; exact cell_of_row _ _ _ _ _ _ h1
   ·rw [List.length_append, List.length_append, HJ.out.2.2.1]; rfl
  ·refine ⟨⟨?_, fun j o ho hc => ?_⟩, H5.out.2⟩
   ·rw [setCell_size]; exact H5.out.1.size
   ·have hne : s + 1 ≠ j := fun e => by subst e; rw [HI6.out.r1] at ho; injection ho with ho; subst ho; cases hc
    exact row_far hne (row_kept ho H5.out.1)
 case done =>
  rintro D qs W5 hD rfl ⟨xs5, ops5, A, m, cap, names, dn, k, hI, hS, hnl, hop, hgd⟩ hKD
  have HI := Lib.hid hI
  have HDD := Lib.hid hKD
  have HDS : Hid (s + 5 ≤ D) := Lib.hid (by have := HS4.out; omega)
  obtain ⟨e1, e2, e3⟩ := hgd (by rw [chZ_len])
  rw [chZ_len] at e2 e3 hnl hop
  have hmN : m = N := by rw [hI.own.len]; exact hnl
  have hN0 : 0 < N := by have h1 := (HG.out.hn 0).1 (by have := HG.out.hpos; omega); exact h1
  obtain ⟨gq, hA, hgq, hnm, hmc, hcmx, cur, hrow⟩ := hI.own.caps (by omega)
  subst hA
  have c0 : W5.cell? ⟨s, 0, none⟩ = some (.pointer (some ⟨b, 0, none⟩)) := by rw [cell_of_row _ _ _ _ _ _ hI.r0]; rfl
  have c2 : W5.cell? ⟨s + 2, 0, none⟩ = some (.slice (some ⟨gq, 0, none⟩) m cap) := by rw [cell_of_row _ _ _ _ _ _ hI.r2]; rfl
  have cb : W5.cell? ⟨b, 2, none⟩ = some (.slice (some ⟨gn, 0, none⟩) nn cn) := by rw [cell_of_row _ _ _ _ _ _ hI.runs]; rfl
  have fb : W5.frozen? ⟨b, 2, none⟩ = false := row_frozen hI.runs 2
  have hr1 : (W5.setCell ⟨b, 2, none⟩ (.slice (some ⟨gq, 0, none⟩) m cap)).heap[s + 1]? = some (.cells #[.int .i64 0] 28 (0, 0)) := row_far (by have := HG.out.f.hb; have := HG.out.f.ws; omega) hI.r1
  have cx : (W5.setCell ⟨b, 2, none⟩ (.slice (some ⟨gq, 0, none⟩) m cap)).cell? ⟨s + 1, 0, none⟩ = some (.int .i64 0) := by rw [cell_of_row _ _ _ _ _ _ hr1]; rfl
  have fx : (W5.setCell ⟨b, 2, none⟩ (.slice (some ⟨gq, 0, none⟩) m cap)).frozen? ⟨s + 1, 0, none⟩ = false := row_frozen hr1 0
  have HSS := Lib.hid hS; have HOP := Lib.hid hop; have HE1 := Lib.hid e1; have HE2 := Lib.hid e2; have HE3 := Lib.hid e3; have HMN := Lib.hid hmN; have HGQ := Lib.hid hgq; have HNM := Lib.hid hnm; have HCP := Lib.hid (And.intro hmc hcmx); have HRW := Lib.hid hrow
  clear hI hKD hgd hD hS hnl hop e1 e2 e3 hmN hgq hnm hmc hrow hr1 HJ0 HW0
  go_wp2_with fail
  have hf := HG.out.f
  have hbw := hf.hb; have hws := hf.ws; have hds := HDS.out; have hbb := hf.bb; have hbs := hf.bs
  obtain ⟨W8, hW8⟩ : ∃ W8, W8 = (W5.setCell ⟨b, 2, none⟩ (.slice (some ⟨gq, 0, none⟩) m cap)).setCell ⟨s + 1, 0, none⟩ (.int .i64 0) := ⟨_, rfl⟩
  rw [← hW8]
  have far : ∀ (j : Nat) (o : Obj), W5.heap[j]? = some o → j ≠ b → j ≠ s + 1 → W8.heap[j]? = some o := fun j o hj h1 h2 => by
   rw [hW8]; exact row_far (Ne.symm h2) (row_far (Ne.symm h1) hj)
  have HD8 : W8.heap[D]? = some (.deferred (some [])) := far D _ HDD.out (by omega) (by omega)
  have hr1 : W8.heap[s + 1]? = some (.cells #[.int .i64 0] 28 (0, 0)) := by
   rw [hW8]; exact row_set (row_far (by omega) HI.out.r1) 0 _
  have hrb : W8.heap[b]? = some (.cells #[.pointer (some ⟨g, 0, none⟩), .int .i64 parts, .slice (some ⟨gq, 0, none⟩) m cap, .int .i64 (k : Int)] 70 (0, 0)) := by
   rw [hW8]; exact row_far (by omega) (row_set HI.out.runs 2 _)
  have put : ∀ (j : Nat) (o : Obj), W8.heap[j]? = some o → j ≠ D → (W8.putObj D (.deferred none)).heap[j]? = some o := fun j o hj hn => by
   rw [World.putObj_heap_other hn]; exact hj
  have hsa : SA ⟨W.b, W8⟩ g room false 0 ops5 xs5 W8 := by
   have h1 := HI.out.sa.setB b 2 (.slice (some ⟨gq, 0, none⟩) m cap) HI.out.runs (not_st (by decide) (by decide) (by decide)) (by show W.b.heap.size ≤ b; omega)
   have h2 := h1.setB (s + 1) 0 (.int .i64 0) (row_far (by omega) HI.out.r1) (not_st (by decide) (by decide) (by decide)) (by show W.b.heap.size ≤ s + 1; omega)
   rw [hW8]; exact h2
  try dsimp only [noPanicO, bodyPostM]
  refine ⟨by simp, .inl ⟨_, _, rfl, run_takeDeferred HD8, ?_⟩⟩
  have hmap : (chZ N).map (ixP Z nn) = List.range N := by
   unfold chZ
   conv => rhs; rw [← List.map_id (List.range N)]
   exact List.map_congr_left fun x hx => HG.out.ix_eq (by simpa using hx)
  have hrs := HSS.out.rs
  rw [hmap, rest_nil, List.append_nil, HE2.out, HE3.out] at hrs
  refine ⟨_, results_errO rfl _ _ (s + 1) (.int .i64 0) rfl (by rw [cell_of_row _ _ _ _ _ _ (put _ _ hr1 (by omega))]; rfl), rfl, xs5, ops5, gq, cap, hrs, ?_, HOP.out, ?_, ?_, by rw [← HS.out]; have := HGQ.out; omega, by rw [← HMN.out]; exact HCP.out.1, HCP.out.2, ⟨?_, fun j o hj hb hn => ?_⟩⟩
  ·have h1 := hsa.seen { W8 with heap := #[] } ⟨Nat.zero_le _, fun j o hj => by simp at hj⟩
   exact (h1.putD D _ HD8 (by show W.b.heap.size ≤ D; omega) (Nat.zero_le _)).now
  ·have h1 := put _ _ hrb (by omega)
   rw [HMN.out, HE3.out] at h1; exact h1
  ·obtain ⟨cur, t, fr, q1, q2, q3⟩ := HNM.out
   rw [HE1.out, HE2.out] at q3
   have hq := HGQ.out
   exact ⟨cur, t, fr, put _ _ (far _ _ q1 (by omega) (by omega)) (fun e => by subst e; rw [HDD.out] at q1; cases q1), q2, q3⟩
  ·have h1 := HI.out.kx.size
   have h2 : W8.heap.size = W5.heap.size := by rw [hW8, setCell_size, setCell_size]
   simp [World.putObj]; omega
  ·have hlt := (Array.getElem?_eq_some_iff.1 hj).1
   exact put _ _ (far _ _ (HI.out.kx.kept j o hj hb hn) hb (by omega)) (by omega)
end
end Go.Proofs.YtjldamkmdkaiiaaGreatDoor
