/-
  Layer column: the document's own Texts: the texts that there are.
-/
import Derived.Test.YtifabkbdiiolfaaDoorUdK
open List renaming getElem_toArray → qz0, getElem_cons_zero → qz1, getElem_cons_succ → qz2, setIfInBounds_toArray → qz3, set_cons_zero → qz4, set_cons_succ → qz5
set_option linter.unusedSimpArgs false
set_option linter.unusedVariables false
set_option maxRecDepth 8000
namespace Go.Proofs.YtifabkbdiiolfaaDoor
open Go.RowKit Go.WideShapes Col
theorem two_filters (x : List Nat) (m : List (List Nat)) : (m.filter (fun a => tls a x)).length + (m.filter (fun a => tls x a)).length ≤ m.length := by
 induction m with
 | nil => exact Nat.le_refl _
 | cons a m ih2 =>
  rw [List.filter_cons, List.filter_cons]
  rcases h1 : tls a x with _ | _
  ·rcases h2 : tls x a with _ | _ <;> simp <;> omega
  ·rw [tls_asy h1]; simp; omega
theorem insK_len (x : List Nat) (all : List (List Nat)) (k : Nat) : (insK x all k).1.length ≤ k + 1 := by
 unfold insK
 have h := two_filters x (all.take k)
 have h2 : (all.take k).length ≤ k := by rw [List.length_take]; omega
 simp only [List.length_append]
 split <;> simp <;> omega
def TX1 (W : World) (l : List (List Nat)) (n : Nat) (uA v : Value) (wr : World) : Prop :=
 ∃ (i m : Nat) (A : Option Addr) (cap : Nat), i ≤ n ∧ v = .int .i64 (i : Int) ∧ uA = .slice A m cap ∧ OwnX wr W.heap.size A m cap (uqL (l.take i)) ∧ Below W.heap.size W wr
def TX2 (wa : World) (x : List Nat) (all : List (List Nat)) (m : Nat) (u5 u6 v7 : Value) (wr : World) : Prop :=
 ∃ (k q : Nat) (A2 : Option Addr) (c2 : Nat) (nx : List (List Nat)) (d : Bool), k ≤ m ∧ v7 = .int .i64 (k : Int) ∧ u5 = .slice A2 q c2 ∧ u6 = .bool d ∧ insK x all k = (nx, d) ∧ OwnX wr wa.heap.size A2 q c2 nx ∧ Below wa.heap.size wa wr
theorem ints_few (l : List Int) (hl : ∀ x ∈ l, Wf64 x) (hn : l.length ≤ 5000) : (intsL l).length ≤ 1000000 := by
 have h1 := best_le 3 l 0 (by omega)
 have h2 := lpl_len l hl
 have h3 := ub10 (n := l.length) (by omega)
 have h4 : (asL 0 l).length = 1 + (ub l.length).length + (lpl l).length := by unfold asL; rw [if_pos rfl, List.length_append, List.length_append]; rfl
 have h5 : (intsL l).length ≤ (asL 0 l).length := h1
 omega
/-- At which place a text stands. -/
def plc : List (List Nat) → List Nat → Nat
 | [], _ => 0
 | a :: r, x => if a = x then 0 else plc r x + 1
theorem plc_le (all : List (List Nat)) (x : List Nat) : plc all x ≤ all.length := by
 induction all with
 | nil => exact Nat.le_refl _
 | cons a r ih => rw [plc]; split <;> simp <;> omega
theorem plc_eq {all : List (List Nat)} {x : List Nat} {k : Nat} (hk : all[k]? = some x) (hno : x ∉ all.take k) : plc all x = k := by
 induction all generalizing k with
 | nil => cases hk
 | cons a r ih =>
  rcases k with _ | k
  ·have hk : a = x := by simpa using hk
   rw [plc, if_pos hk]
  ·have hk : r[k]? = some x := by simpa using hk
   rw [List.take_succ_cons, List.mem_cons, not_or] at hno
   rw [plc, if_neg (fun e => hno.1 e.symm), ih hk hno.2]
/-- What is told of a text by the first k. -/
def pre (all : List (List Nat)) (k : Nat) (x : List Nat) : List Int := if x ∈ all.take k then [(plc all x : Int)] else []
theorem pre_step {all : List (List Nat)} (hr : Rise all) {k : Nat} {a : List Nat} (ha : all[k]? = some a) (x : List Nat) : (a = x → pre all (k + 1) x = [(k : Int)] ∧ pre all k x = []) ∧ (a ≠ x → pre all (k + 1) x = pre all k x) := by
 have e : all.take (k + 1) = all.take k ++ [a] := by rw [List.take_add_one, ha]; rfl
 refine ⟨fun h => ?_, fun h => ?_⟩
 ·subst h
  have hno : a ∉ all.take k := fun hm => by
   obtain ⟨j, hj⟩ := List.getElem?_of_mem hm
   rw [List.getElem?_take] at hj
   split at hj
   ·rename_i hjk
    obtain ⟨hj1, hj2⟩ := List.getElem?_eq_some_iff.1 hj
    obtain ⟨hk1, hk2⟩ := List.getElem?_eq_some_iff.1 ha
    have := List.pairwise_iff_getElem.1 hr j k hj1 hk1 hjk
    rw [hj2, hk2, tls_irr] at this; cases this
   ·cases hj
  unfold pre
  rw [e, if_pos (by simp), if_neg hno, plc_eq ha hno]
  exact ⟨rfl, rfl⟩
 ·unfold pre
  rw [e]
  congr 1
  rw [List.mem_append, List.mem_singleton]
  exact propext ⟨fun h2 => h2.elim id fun h3 => absurd h3.symm h, Or.inl⟩
/-- Texts as bytes. -/
def textsL (l : List (List Nat)) : List Nat := ub (uqL l).length ++ ((uqL l).map txL).flatten ++ intsL (l.map fun x => (plc (uqL l) x : Int))
def TX4 (wp : World) (l all : List (List Nat)) (n : Nat) (u v : Value) (wr : World) : Prop :=
 ∃ (i2 : Nat) (A : Option Addr) (c : Nat), i2 ≤ n ∧ v = .int .i64 (i2 : Int) ∧ u = .slice A i2 c ∧ OwnI wr wp.heap.size A i2 c ((l.take i2).map fun x => (plc all x : Int)) ∧ Below wp.heap.size wp wr
def TX5 (wp : World) (ps : List Int) (x : List Nat) (all : List (List Nat)) (i2 m : Nat) (u v : Value) (wr : World) : Prop :=
 ∃ (k q : Nat) (A : Option Addr) (c : Nat), k ≤ m ∧ v = .int .i64 (k : Int) ∧ u = .slice A q c ∧ q ≤ i2 + 1 ∧ OwnI wr wp.heap.size A q c (ps ++ pre all k x) ∧ Below wp.heap.size wp wr
def TX3 (wa : World) (all : List (List Nat)) (m : Nat) (up v : Value) (wr : World) : Prop :=
 ∃ (j N : Nat) (Ap : Option Addr) (cp : Nat), j ≤ m ∧ v = .int .i64 (j : Int) ∧ up = .slice Ap N cp ∧ N ≤ 10 + 1000010 * j ∧ OwnS wr wa.heap.size Ap N cp (ub m ++ ((all.take j).map txL).flatten) ∧ Below wa.heap.size wa wr
set_option maxHeartbeats 32000000 in
theorem refTexts_any (A0 : Option Addr) (n c : Nat) (l : List (List Nat)) (hn : Hid (n = l.length)) (hnc : n ≤ c) (hcm : c ≤ maxLen) (hn5 : n ≤ 5000) (hl1 : Hid (∀ y ∈ l, y.length ≤ 1000000)) (W : World) (HL : Hid (TxAt W A0 l)) :
  Calls Tryd.prog 41 #[.slice A0 n c] W (Puts W.heap.size W (textsL l)) := by
 unfold maxLen at hcm
 have HST1 : Hid (TX1 W l n (.slice none 0 0) (.int .i64 0) W) := Lib.hid ⟨0, 0, none, 0, Nat.zero_le _, rfl, rfl, OwnX.nil _ _, Below.refl _ _⟩
 go_enter Tryd.func41, Tryd.ntmps41
 go_wp2
 go_loopw [3, 4] (fun uA v wr => TX1 W l n uA v wr) (fun _ v _ => n - (intOf v).toNat)
 case atStart => exact HST1.out
 case round =>
  obtain ⟨wa, rfl⟩ : ∃ wa, wa = wr := ⟨_, rfl⟩
  obtain ⟨i, m, A, cap, hi, rfl, rfl, hox, hb⟩ := hrel
  have HOX := Lib.hid hox; have HB := Lib.hid hb
  have hml : m ≤ i := by rw [hox.len]; exact Nat.le_trans (uqL_len _) (by rw [List.length_take]; omega)
  have HML : Hid (m = (uqL (l.take i)).length) := Lib.hid hox.len
  clear hox hb HST1
  by_cases hin : i < n
  ·have hii : (i : Int) < (n : Int) := by omega
   obtain ⟨x, hx⟩ : ∃ x, l[i]? = some x := ⟨_, List.getElem?_eq_getElem (by have := hn.out; omega)⟩
   have HX := Lib.hid hx
   have HWX : Hid (WfT x) := Lib.hid (HL.out.wf x (List.mem_of_getElem? hx))
   obtain ⟨gl, ol, hA0, hgl, hcl⟩ := HL.out.spot (by have := hn.out; omega)
   subst hA0
   have HCXX : Hid (∀ w, Below wa.heap.size wa w → w.cell? ⟨gl, ol + i, none⟩ = some (.string (strB x))) := Lib.hid fun w h => ((below_to HB.out h).cell (p := ⟨gl, ol + i, none⟩) hgl).trans (hcl i x hx)
   obtain ⟨all, hall⟩ : ∃ all, all = uqL (l.take i) := ⟨_, rfl⟩
   have hwt : ∀ y ∈ l.take i, WfT y := fun y hy => HL.out.wf y (List.mem_of_mem_take hy)
   have HRI : Hid (Rise all) := Lib.hid (by rw [hall]; exact (uqL_facts _ hwt).1)
   have HWALL : Hid (∀ y ∈ all, WfT y) := Lib.hid (by rw [hall]; exact uqL_wf hwt)
   rw [← hall] at HOX HML
   have HALL := Lib.hid hall
   clear hx hgl hcl hall hwt
   have HST2 : Hid (TX2 wa x all m (.slice none 0 0) (.bool false) (.int .i64 0) wa) := Lib.hid ⟨0, 0, none, 0, [], false, Nat.zero_le _, rfl, rfl, rfl, insK_zero _ _, OwnX.nil _ _, Below.refl _ _⟩
   go_wp2
   go_loopw [5, 6, 7] (fun u5 u6 v7 wr => TX2 wa x all m u5 u6 v7 wr) (fun _ _ v7 _ => m - (intOf v7).toNat)
   case atStart => exact HST2.out
   case round =>
    obtain ⟨k, q, A2, c2, nx, d, hk, rfl, rfl, rfl, hins, ho, hbw⟩ := hrel
    have HINS := Lib.hid hins; have HO := Lib.hid ho; have HBW := Lib.hid hbw
    have hq : q ≤ k + 1 := by rw [ho.len]; have := insK_len x all k; rw [hins] at this; exact this
    clear hins ho hbw HST2
    by_cases hkm : k < m
    ·have hki : (k : Int) < (m : Int) := by omega
     obtain ⟨a, ha⟩ : ∃ a, all[k]? = some a := ⟨_, List.getElem?_eq_getElem (by have := HML.out; omega)⟩
     have HWA : Hid (WfT a) := Lib.hid (HWALL.out a (List.mem_of_getElem? ha))
     have HST := Lib.hid (insK_step HRI.out HWX.out HWA.out ha)
     obtain ⟨ga, oa, hA, hga, hca⟩ := HOX.out.isAt.spot (by have := HML.out; omega)
     subst hA
     have HCAA : Hid (∀ w, Below wa.heap.size wa w → w.cell? ⟨ga, oa + k, none⟩ = some (.string (strB a))) := Lib.hid fun w h => (h.cell (p := ⟨ga, oa + k, none⟩) hga).trans (hca k a ha)
     have HCA : Hid (∀ w, Below wr.heap.size wr w → w.cell? ⟨ga, oa + k, none⟩ = some (.string (strB a))) := Lib.hid fun w h => HCAA.out w (below_to HBW.out h)
     have HCX : Hid (∀ w, Below wr.heap.size wr w → w.cell? ⟨gl, ol + i, none⟩ = some (.string (strB x))) := Lib.hid fun w h => HCXX.out w (below_to HBW.out h)
     clear ha hga hca
     obtain ⟨lt, hlt⟩ : ∃ lt, tls a x = lt := ⟨_, rfl⟩
     have hlt' : Op.bytesLess (strB a).toList (strB x).toList = lt := hlt
     have HLT := Lib.hid hlt
     by_cases heq : a = x
     ·have HEQ : Hid ((a = x) = True) := Lib.hid (eq_true heq)
      have heqb : ((strB a).toList == (strB x).toList) = true := by rw [beq_strB HWA.out HWX.out]; exact decide_eq_true heq
      have hl0 : lt = false := by rw [← hlt, heq]; exact tls_irr x
      subst hl0
      clear heq hlt
      cases d
      ·go_upto_region 10 with fail
       have hh0 : Below wr.heap.size wr wr.drew := (Below.refl _ _).drew
       have HOD := Lib.hid (HO.out.keep hh0)
       have HBAwd : Hid (Below wa.heap.size wa wr.drew) := Lib.hid HBW.out.drew
       refine wp_region_held_drew (S := fun w2 => Below wr.heap.size wr w2) (by kernel_rfl) hh0 (fun hHeld => ?_)
       generalize wr.drew = wd at *
       refine wpAnyH_take (i := 0) (v := .bool false) rfl (by kernel_rfl) (by kernel_rfl) (by kernel_rfl) (fun _ _ _ h => h) (Or.inl ⟨by rfl, fun _ _ => rfl⟩) hHeld ?_
       try dsimp only
       try simp only [Act.put, qz0, qz1, qz2, qz3, qz4, qz5]
       refine wpAnyH_take (i := 1) (v := .bool true) rfl (by kernel_rfl) (by kernel_rfl) (by kernel_rfl) (fun _ _ _ h => h) (Or.inl ⟨by rfl, fun w _ => by go_simp⟩) hHeld ?_
       try dsimp only
       try simp only [Act.put, qz0, qz1, qz2, qz3, qz4, qz5]
       refine wpAnyH_take (i := 2) (v := .bool true) rfl (by kernel_rfl) (by kernel_rfl) (by kernel_rfl) (fun _ _ _ h => h) (Or.inl ⟨by rfl, fun _ _ => rfl⟩) hHeld ?_
       try dsimp only
       try simp only [Act.put, qz0, qz1, qz2, qz3, qz4, qz5]
       refine wpAnyH_take (i := 3) (v := .slice (some ⟨ga, oa, none⟩) m cap) rfl (by kernel_rfl) (by kernel_rfl) (by kernel_rfl) (fun _ _ _ h => h) (Or.inl ⟨by rfl, fun _ _ => rfl⟩) hHeld ?_
       try dsimp only
       try simp only [Act.put, qz0, qz1, qz2, qz3, qz4, qz5]
       refine wpAnyH_take (i := 4) (v := .int .i64 (k : Int)) rfl (by kernel_rfl) (by kernel_rfl) (by kernel_rfl) (fun _ _ _ h => h) (Or.inl ⟨by rfl, fun _ _ => rfl⟩) hHeld ?_
       try dsimp only
       try simp only [Act.put, qz0, qz1, qz2, qz3, qz4, qz5]
       refine wpAnyH_take (i := 5) (v := .pointer (some ⟨ga, oa + k, none⟩)) rfl (by kernel_rfl) (by kernel_rfl) (by kernel_rfl) (fun _ _ _ h => h) (Or.inl ⟨by rfl, fun w _ => by go_simp⟩) hHeld ?_
       try dsimp only
       try simp only [Act.put, qz0, qz1, qz2, qz3, qz4, qz5]
       refine wpAnyH_take (i := 6) (v := .string (strB a)) rfl (by kernel_rfl) (by kernel_rfl) (by kernel_rfl) (fun _ _ _ h => h) (Or.inl ⟨by rfl, fun w hw => by have hc : w.cell? ⟨ga, oa + k, none⟩ = some (.string (strB a)) := HCA.out w hw; go_simp⟩) hHeld ?_
       try dsimp only
       try simp only [Act.put, qz0, qz1, qz2, qz3, qz4, qz5]
       refine wpAnyH_take (i := 7) (v := .slice (some ⟨gl, ol, none⟩) n c) rfl (by kernel_rfl) (by kernel_rfl) (by kernel_rfl) (fun _ _ _ h => h) (Or.inl ⟨by rfl, fun _ _ => rfl⟩) hHeld ?_
       try dsimp only
       try simp only [Act.put, qz0, qz1, qz2, qz3, qz4, qz5]
       refine wpAnyH_take (i := 8) (v := .int .i64 (i : Int)) rfl (by kernel_rfl) (by kernel_rfl) (by kernel_rfl) (fun _ _ _ h => h) (Or.inl ⟨by rfl, fun _ _ => rfl⟩) hHeld ?_
       try dsimp only
       try simp only [Act.put, qz0, qz1, qz2, qz3, qz4, qz5]
       refine wpAnyH_take (i := 9) (v := .pointer (some ⟨gl, ol + i, none⟩)) rfl (by kernel_rfl) (by kernel_rfl) (by kernel_rfl) (fun _ _ _ h => h) (Or.inl ⟨by rfl, fun w _ => by go_simp⟩) hHeld ?_
       try dsimp only
       try simp only [Act.put, qz0, qz1, qz2, qz3, qz4, qz5]
       refine wpAnyH_take (i := 10) (v := .string (strB x)) rfl (by kernel_rfl) (by kernel_rfl) (by kernel_rfl) (fun _ _ _ h => h) (Or.inl ⟨by rfl, fun w hw => by have hc : w.cell? ⟨gl, ol + i, none⟩ = some (.string (strB x)) := HCX.out w hw; go_simp⟩) hHeld ?_
       try dsimp only
       try simp only [Act.put, qz0, qz1, qz2, qz3, qz4, qz5]
       refine wpAnyH_take (i := 11) (v := .bool true) rfl (by kernel_rfl) (by kernel_rfl) (by kernel_rfl) (fun _ _ _ h => h) (Or.inl ⟨by rfl, fun w _ => by go_simp⟩) hHeld ?_
       try dsimp only
       try simp only [Act.put, qz0, qz1, qz2, qz3, qz4, qz5]
       refine wpAnyH_ready (rs := [12]) (by kernel_rfl) (by simp) (AllReadyH.cons rfl (fun K hK => ?_) AllReadyH.nil)
       go_simp
       refine hK.out _ _ hHeld (fun hHeld => ?_)
       clear hK K
       refine wpAnyH_done (by kernel_rfl) ?_ _
       have HWD := Lib.hid hh0
       have HBXwd : Hid (∀ y : List Nat, Below wd.heap.size wd (wd.alloc (.cells #[.string (strB y)] 9))) := Lib.hid fun y => (Below.refl _ _).alloc (Nat.le_refl _) _
       have hBwd : wa.heap.size ≤ wd.heap.size := HBAwd.out.size
       clear hHeld hh0
       have hcxd := HCXX.out wd HBAwd.out
       go_upto_region 13 with (at_builtin; refine wpList_append_tx rfl (.tmp 38) (.tmp 43) rfl wa.heap.size A2 q c2 nx rfl (HOD.out.keep (HBXwd.out x)) ⟨wd.heap.size, 0, none⟩ 1 1 [x] rfl rfl (tx_one wd x HWX.out) (by omega) (Nat.le_trans hBwd (HBXwd.out x).size) ?_; intro A3 c3 w5 ho hg; have HOw5 := Lib.hid ho; have HBw5 : Hid (Below wa.heap.size wa w5) := Lib.hid ((HBAwd.out.trans ((HBXwd.out x).mono hBwd)).grown hg (Nat.le_trans hBwd (HBXwd.out x).size) (by first | exact (HOD.out.keep (HBXwd.out x)).base | (intro k hk; cases hk))); clear ho hg)
       have HBAw5 := HBw5
       clear hcxd
       have HCA2 : Hid (∀ w, Below wa.heap.size wa w → w.cell? ⟨ga, oa + k, none⟩ = some (.string (strB a))) := HCAA
       have HCX2 : Hid (∀ w, Below wa.heap.size wa w → w.cell? ⟨gl, ol + i, none⟩ = some (.string (strB x))) := HCXX
       have hh1 : Below wa.heap.size wa w5.drew := HBAw5.out.drew
       have HOE := Lib.hid (HOw5.out.keep (Below.refl w5.heap.size w5).drew)
       refine wp_region_held_drew (S := fun w2 => Below wa.heap.size wa w2) (by kernel_rfl) hh1 (fun hHeld => ?_)
       generalize w5.drew = we at *
       refine wpAnyH_take (i := 0) (v := .slice (some ⟨ga, oa, none⟩) m cap) rfl (by kernel_rfl) (by kernel_rfl) (by kernel_rfl) (fun _ _ _ h => h) (Or.inl ⟨by rfl, fun _ _ => rfl⟩) hHeld ?_
       try dsimp only
       try simp only [Act.put, qz0, qz1, qz2, qz3, qz4, qz5]
       refine wpAnyH_take (i := 1) (v := .int .i64 (k : Int)) rfl (by kernel_rfl) (by kernel_rfl) (by kernel_rfl) (fun _ _ _ h => h) (Or.inl ⟨by rfl, fun _ _ => rfl⟩) hHeld ?_
       try dsimp only
       try simp only [Act.put, qz0, qz1, qz2, qz3, qz4, qz5]
       refine wpAnyH_take (i := 2) (v := .pointer (some ⟨ga, oa + k, none⟩)) rfl (by kernel_rfl) (by kernel_rfl) (by kernel_rfl) (fun _ _ _ h => h) (Or.inl ⟨by rfl, fun w _ => by go_simp⟩) hHeld ?_
       try dsimp only
       try simp only [Act.put, qz0, qz1, qz2, qz3, qz4, qz5]
       refine wpAnyH_take (i := 3) (v := .string (strB a)) rfl (by kernel_rfl) (by kernel_rfl) (by kernel_rfl) (fun _ _ _ h => h) (Or.inl ⟨by rfl, fun w hw => by have hc : w.cell? ⟨ga, oa + k, none⟩ = some (.string (strB a)) := HCA2.out w hw; go_simp⟩) hHeld ?_
       try dsimp only
       try simp only [Act.put, qz0, qz1, qz2, qz3, qz4, qz5]
       refine wpAnyH_take (i := 4) (v := .slice (some ⟨gl, ol, none⟩) n c) rfl (by kernel_rfl) (by kernel_rfl) (by kernel_rfl) (fun _ _ _ h => h) (Or.inl ⟨by rfl, fun _ _ => rfl⟩) hHeld ?_
       try dsimp only
       try simp only [Act.put, qz0, qz1, qz2, qz3, qz4, qz5]
       refine wpAnyH_take (i := 5) (v := .int .i64 (i : Int)) rfl (by kernel_rfl) (by kernel_rfl) (by kernel_rfl) (fun _ _ _ h => h) (Or.inl ⟨by rfl, fun _ _ => rfl⟩) hHeld ?_
       try dsimp only
       try simp only [Act.put, qz0, qz1, qz2, qz3, qz4, qz5]
       refine wpAnyH_take (i := 6) (v := .pointer (some ⟨gl, ol + i, none⟩)) rfl (by kernel_rfl) (by kernel_rfl) (by kernel_rfl) (fun _ _ _ h => h) (Or.inl ⟨by rfl, fun w _ => by go_simp⟩) hHeld ?_
       try dsimp only
       try simp only [Act.put, qz0, qz1, qz2, qz3, qz4, qz5]
       refine wpAnyH_take (i := 7) (v := .string (strB x)) rfl (by kernel_rfl) (by kernel_rfl) (by kernel_rfl) (fun _ _ _ h => h) (Or.inl ⟨by rfl, fun w hw => by have hc : w.cell? ⟨gl, ol + i, none⟩ = some (.string (strB x)) := HCX2.out w hw; go_simp⟩) hHeld ?_
       try dsimp only
       try simp only [Act.put, qz0, qz1, qz2, qz3, qz4, qz5]
       refine wpAnyH_ready (rs := [8]) (by kernel_rfl) (by simp) (AllReadyH.cons rfl (fun K hK => ?_) AllReadyH.nil)
       go_simp
       refine hK.out _ _ hHeld (fun hHeld => ?_)
       clear hK K
       refine wpAnyH_done (by kernel_rfl) ?_ _
       have HBAwe := Lib.hid hh1
       have HBXwe : Hid (∀ y : List Nat, Below we.heap.size we (we.alloc (.cells #[.string (strB y)] 9))) := Lib.hid fun y => (Below.refl _ _).alloc (Nat.le_refl _) _
       have hBwe : wa.heap.size ≤ we.heap.size := HBAwe.out.size
       clear hHeld hh1
       go_wp2
       go_roundw
       case rel => exact ⟨k + 1, (q + 1), A3, c3, (nx ++ [x]), true, by omega, by go_num, rfl, rfl, by rw [HST.out, HINS.out]; simp [HLT.out, HEQ.out], HOE.out, HBAwe.out⟩
       case measure => simp [intOf]; omega
      ·clear hlt'
       go_upto_region 10 with fail
       have hh0 : Below wr.heap.size wr wr.drew := (Below.refl _ _).drew
       have HOD := Lib.hid (HO.out.keep hh0)
       have HBAwd : Hid (Below wa.heap.size wa wr.drew) := Lib.hid HBW.out.drew
       refine wp_region_held_drew (S := fun w2 => Below wr.heap.size wr w2) (by kernel_rfl) hh0 (fun hHeld => ?_)
       generalize wr.drew = wd at *
       refine wpAnyH_take (i := 0) (v := .bool true) rfl (by kernel_rfl) (by kernel_rfl) (by kernel_rfl) (fun _ _ _ h => h) (Or.inl ⟨by rfl, fun _ _ => rfl⟩) hHeld ?_
       try dsimp only
       try simp only [Act.put, qz0, qz1, qz2, qz3, qz4, qz5]
       refine wpAnyH_take (i := 1) (v := .bool false) rfl (by kernel_rfl) (by kernel_rfl) (by kernel_rfl) (fun _ _ _ h => h) (Or.inl ⟨by rfl, fun w _ => by go_simp⟩) hHeld ?_
       try dsimp only
       try simp only [Act.put, qz0, qz1, qz2, qz3, qz4, qz5]
       refine wpAnyH_take (i := 2) (v := .bool false) rfl (by kernel_rfl) (by kernel_rfl) (by kernel_rfl) (fun _ _ _ h => h) (Or.inl ⟨by rfl, fun _ _ => rfl⟩) hHeld ?_
       try dsimp only
       try simp only [Act.put, qz0, qz1, qz2, qz3, qz4, qz5]
       refine wpAnyH_take (i := 3) (v := undef) rfl (by kernel_rfl) (by kernel_rfl) (by kernel_rfl) (fun _ _ _ h => h) (Or.inr ⟨by rfl, rfl⟩) hHeld ?_
       try dsimp only
       try simp only [Act.put, qz0, qz1, qz2, qz3, qz4, qz5]
       refine wpAnyH_take (i := 4) (v := undef) rfl (by kernel_rfl) (by kernel_rfl) (by kernel_rfl) (fun _ _ _ h => h) (Or.inr ⟨by rfl, rfl⟩) hHeld ?_
       try dsimp only
       try simp only [Act.put, qz0, qz1, qz2, qz3, qz4, qz5]
       refine wpAnyH_take (i := 5) (v := undef) rfl (by kernel_rfl) (by kernel_rfl) (by kernel_rfl) (fun _ _ _ h => h) (Or.inr ⟨by rfl, rfl⟩) hHeld ?_
       try dsimp only
       try simp only [Act.put, qz0, qz1, qz2, qz3, qz4, qz5]
       refine wpAnyH_take (i := 6) (v := undef) rfl (by kernel_rfl) (by kernel_rfl) (by kernel_rfl) (fun _ _ _ h => h) (Or.inr ⟨by rfl, rfl⟩) hHeld ?_
       try dsimp only
       try simp only [Act.put, qz0, qz1, qz2, qz3, qz4, qz5]
       refine wpAnyH_take (i := 7) (v := undef) rfl (by kernel_rfl) (by kernel_rfl) (by kernel_rfl) (fun _ _ _ h => h) (Or.inr ⟨by rfl, rfl⟩) hHeld ?_
       try dsimp only
       try simp only [Act.put, qz0, qz1, qz2, qz3, qz4, qz5]
       refine wpAnyH_take (i := 8) (v := undef) rfl (by kernel_rfl) (by kernel_rfl) (by kernel_rfl) (fun _ _ _ h => h) (Or.inr ⟨by rfl, rfl⟩) hHeld ?_
       try dsimp only
       try simp only [Act.put, qz0, qz1, qz2, qz3, qz4, qz5]
       refine wpAnyH_take (i := 9) (v := undef) rfl (by kernel_rfl) (by kernel_rfl) (by kernel_rfl) (fun _ _ _ h => h) (Or.inr ⟨by rfl, rfl⟩) hHeld ?_
       try dsimp only
       try simp only [Act.put, qz0, qz1, qz2, qz3, qz4, qz5]
       refine wpAnyH_take (i := 10) (v := undef) rfl (by kernel_rfl) (by kernel_rfl) (by kernel_rfl) (fun _ _ _ h => h) (Or.inr ⟨by rfl, rfl⟩) hHeld ?_
       try dsimp only
       try simp only [Act.put, qz0, qz1, qz2, qz3, qz4, qz5]
       refine wpAnyH_take (i := 11) (v := undef) rfl (by kernel_rfl) (by kernel_rfl) (by kernel_rfl) (fun _ _ _ h => h) (Or.inr ⟨by rfl, rfl⟩) hHeld ?_
       try dsimp only
       try simp only [Act.put, qz0, qz1, qz2, qz3, qz4, qz5]
       refine wpAnyH_ready (rs := [12]) (by kernel_rfl) (by simp) (AllReadyH.cons rfl (fun K hK => ?_) AllReadyH.nil)
       go_simp
       refine hK.out _ _ hHeld (fun hHeld => ?_)
       clear hK K
       refine wpAnyH_done (by kernel_rfl) ?_ _
       have HWD := Lib.hid hh0
       have HBXwd : Hid (∀ y : List Nat, Below wd.heap.size wd (wd.alloc (.cells #[.string (strB y)] 9))) := Lib.hid fun y => (Below.refl _ _).alloc (Nat.le_refl _) _
       have hBwd : wa.heap.size ≤ wd.heap.size := HBAwd.out.size
       clear hHeld hh0
       go_upto_region 13 with fail
       have HCA2 : Hid (∀ w, Below wa.heap.size wa w → w.cell? ⟨ga, oa + k, none⟩ = some (.string (strB a))) := HCAA
       have HCX2 : Hid (∀ w, Below wa.heap.size wa w → w.cell? ⟨gl, ol + i, none⟩ = some (.string (strB x))) := HCXX
       have hh1 : Below wa.heap.size wa wd.drew := HBAwd.out.drew
       have HOE := Lib.hid (HOD.out.keep (Below.refl wd.heap.size wd).drew)
       refine wp_region_held_drew (S := fun w2 => Below wa.heap.size wa w2) (by kernel_rfl) hh1 (fun hHeld => ?_)
       generalize wd.drew = we at *
       refine wpAnyH_take (i := 0) (v := .slice (some ⟨ga, oa, none⟩) m cap) rfl (by kernel_rfl) (by kernel_rfl) (by kernel_rfl) (fun _ _ _ h => h) (Or.inl ⟨by rfl, fun _ _ => rfl⟩) hHeld ?_
       try dsimp only
       try simp only [Act.put, qz0, qz1, qz2, qz3, qz4, qz5]
       refine wpAnyH_take (i := 1) (v := .int .i64 (k : Int)) rfl (by kernel_rfl) (by kernel_rfl) (by kernel_rfl) (fun _ _ _ h => h) (Or.inl ⟨by rfl, fun _ _ => rfl⟩) hHeld ?_
       try dsimp only
       try simp only [Act.put, qz0, qz1, qz2, qz3, qz4, qz5]
       refine wpAnyH_take (i := 2) (v := .pointer (some ⟨ga, oa + k, none⟩)) rfl (by kernel_rfl) (by kernel_rfl) (by kernel_rfl) (fun _ _ _ h => h) (Or.inl ⟨by rfl, fun w _ => by go_simp⟩) hHeld ?_
       try dsimp only
       try simp only [Act.put, qz0, qz1, qz2, qz3, qz4, qz5]
       refine wpAnyH_take (i := 3) (v := .string (strB a)) rfl (by kernel_rfl) (by kernel_rfl) (by kernel_rfl) (fun _ _ _ h => h) (Or.inl ⟨by rfl, fun w hw => by have hc : w.cell? ⟨ga, oa + k, none⟩ = some (.string (strB a)) := HCA2.out w hw; go_simp⟩) hHeld ?_
       try dsimp only
       try simp only [Act.put, qz0, qz1, qz2, qz3, qz4, qz5]
       refine wpAnyH_take (i := 4) (v := .slice (some ⟨gl, ol, none⟩) n c) rfl (by kernel_rfl) (by kernel_rfl) (by kernel_rfl) (fun _ _ _ h => h) (Or.inl ⟨by rfl, fun _ _ => rfl⟩) hHeld ?_
       try dsimp only
       try simp only [Act.put, qz0, qz1, qz2, qz3, qz4, qz5]
       refine wpAnyH_take (i := 5) (v := .int .i64 (i : Int)) rfl (by kernel_rfl) (by kernel_rfl) (by kernel_rfl) (fun _ _ _ h => h) (Or.inl ⟨by rfl, fun _ _ => rfl⟩) hHeld ?_
       try dsimp only
       try simp only [Act.put, qz0, qz1, qz2, qz3, qz4, qz5]
       refine wpAnyH_take (i := 6) (v := .pointer (some ⟨gl, ol + i, none⟩)) rfl (by kernel_rfl) (by kernel_rfl) (by kernel_rfl) (fun _ _ _ h => h) (Or.inl ⟨by rfl, fun w _ => by go_simp⟩) hHeld ?_
       try dsimp only
       try simp only [Act.put, qz0, qz1, qz2, qz3, qz4, qz5]
       refine wpAnyH_take (i := 7) (v := .string (strB x)) rfl (by kernel_rfl) (by kernel_rfl) (by kernel_rfl) (fun _ _ _ h => h) (Or.inl ⟨by rfl, fun w hw => by have hc : w.cell? ⟨gl, ol + i, none⟩ = some (.string (strB x)) := HCX2.out w hw; go_simp⟩) hHeld ?_
       try dsimp only
       try simp only [Act.put, qz0, qz1, qz2, qz3, qz4, qz5]
       refine wpAnyH_ready (rs := [8]) (by kernel_rfl) (by simp) (AllReadyH.cons rfl (fun K hK => ?_) AllReadyH.nil)
       go_simp
       refine hK.out _ _ hHeld (fun hHeld => ?_)
       clear hK K
       refine wpAnyH_done (by kernel_rfl) ?_ _
       have HBAwe := Lib.hid hh1
       have HBXwe : Hid (∀ y : List Nat, Below we.heap.size we (we.alloc (.cells #[.string (strB y)] 9))) := Lib.hid fun y => (Below.refl _ _).alloc (Nat.le_refl _) _
       have hBwe : wa.heap.size ≤ we.heap.size := HBAwe.out.size
       clear hHeld hh1
       go_wp2
       go_roundw
       case rel => exact ⟨k + 1, q, A2, c2, nx, true, by omega, by go_num, rfl, rfl, by rw [HST.out, HINS.out]; simp [HLT.out, HEQ.out], HOE.out, HBAwe.out⟩
       case measure => simp [intOf]; omega
     ·have HEQ : Hid ((a = x) = False) := Lib.hid (eq_false heq)
      have heqb : ((strB a).toList == (strB x).toList) = false := by rw [beq_strB HWA.out HWX.out]; exact decide_eq_false heq
      clear heq hlt
      cases d
      ·cases lt
       ·go_upto_region 10 with fail
        have hh0 : Below wr.heap.size wr wr.drew := (Below.refl _ _).drew
        have HOD := Lib.hid (HO.out.keep hh0)
        have HBAwd : Hid (Below wa.heap.size wa wr.drew) := Lib.hid HBW.out.drew
        refine wp_region_held_drew (S := fun w2 => Below wr.heap.size wr w2) (by kernel_rfl) hh0 (fun hHeld => ?_)
        generalize wr.drew = wd at *
        refine wpAnyH_take (i := 0) (v := .bool false) rfl (by kernel_rfl) (by kernel_rfl) (by kernel_rfl) (fun _ _ _ h => h) (Or.inl ⟨by rfl, fun _ _ => rfl⟩) hHeld ?_
        try dsimp only
        try simp only [Act.put, qz0, qz1, qz2, qz3, qz4, qz5]
        refine wpAnyH_take (i := 1) (v := .bool true) rfl (by kernel_rfl) (by kernel_rfl) (by kernel_rfl) (fun _ _ _ h => h) (Or.inl ⟨by rfl, fun w _ => by go_simp⟩) hHeld ?_
        try dsimp only
        try simp only [Act.put, qz0, qz1, qz2, qz3, qz4, qz5]
        refine wpAnyH_take (i := 2) (v := .bool true) rfl (by kernel_rfl) (by kernel_rfl) (by kernel_rfl) (fun _ _ _ h => h) (Or.inl ⟨by rfl, fun _ _ => rfl⟩) hHeld ?_
        try dsimp only
        try simp only [Act.put, qz0, qz1, qz2, qz3, qz4, qz5]
        refine wpAnyH_take (i := 3) (v := .slice (some ⟨ga, oa, none⟩) m cap) rfl (by kernel_rfl) (by kernel_rfl) (by kernel_rfl) (fun _ _ _ h => h) (Or.inl ⟨by rfl, fun _ _ => rfl⟩) hHeld ?_
        try dsimp only
        try simp only [Act.put, qz0, qz1, qz2, qz3, qz4, qz5]
        refine wpAnyH_take (i := 4) (v := .int .i64 (k : Int)) rfl (by kernel_rfl) (by kernel_rfl) (by kernel_rfl) (fun _ _ _ h => h) (Or.inl ⟨by rfl, fun _ _ => rfl⟩) hHeld ?_
        try dsimp only
        try simp only [Act.put, qz0, qz1, qz2, qz3, qz4, qz5]
        refine wpAnyH_take (i := 5) (v := .pointer (some ⟨ga, oa + k, none⟩)) rfl (by kernel_rfl) (by kernel_rfl) (by kernel_rfl) (fun _ _ _ h => h) (Or.inl ⟨by rfl, fun w _ => by go_simp⟩) hHeld ?_
        try dsimp only
        try simp only [Act.put, qz0, qz1, qz2, qz3, qz4, qz5]
        refine wpAnyH_take (i := 6) (v := .string (strB a)) rfl (by kernel_rfl) (by kernel_rfl) (by kernel_rfl) (fun _ _ _ h => h) (Or.inl ⟨by rfl, fun w hw => by have hc : w.cell? ⟨ga, oa + k, none⟩ = some (.string (strB a)) := HCA.out w hw; go_simp⟩) hHeld ?_
        try dsimp only
        try simp only [Act.put, qz0, qz1, qz2, qz3, qz4, qz5]
        refine wpAnyH_take (i := 7) (v := .slice (some ⟨gl, ol, none⟩) n c) rfl (by kernel_rfl) (by kernel_rfl) (by kernel_rfl) (fun _ _ _ h => h) (Or.inl ⟨by rfl, fun _ _ => rfl⟩) hHeld ?_
        try dsimp only
        try simp only [Act.put, qz0, qz1, qz2, qz3, qz4, qz5]
        refine wpAnyH_take (i := 8) (v := .int .i64 (i : Int)) rfl (by kernel_rfl) (by kernel_rfl) (by kernel_rfl) (fun _ _ _ h => h) (Or.inl ⟨by rfl, fun _ _ => rfl⟩) hHeld ?_
        try dsimp only
        try simp only [Act.put, qz0, qz1, qz2, qz3, qz4, qz5]
        refine wpAnyH_take (i := 9) (v := .pointer (some ⟨gl, ol + i, none⟩)) rfl (by kernel_rfl) (by kernel_rfl) (by kernel_rfl) (fun _ _ _ h => h) (Or.inl ⟨by rfl, fun w _ => by go_simp⟩) hHeld ?_
        try dsimp only
        try simp only [Act.put, qz0, qz1, qz2, qz3, qz4, qz5]
        refine wpAnyH_take (i := 10) (v := .string (strB x)) rfl (by kernel_rfl) (by kernel_rfl) (by kernel_rfl) (fun _ _ _ h => h) (Or.inl ⟨by rfl, fun w hw => by have hc : w.cell? ⟨gl, ol + i, none⟩ = some (.string (strB x)) := HCX.out w hw; go_simp⟩) hHeld ?_
        try dsimp only
        try simp only [Act.put, qz0, qz1, qz2, qz3, qz4, qz5]
        refine wpAnyH_take (i := 11) (v := .bool true) rfl (by kernel_rfl) (by kernel_rfl) (by kernel_rfl) (fun _ _ _ h => h) (Or.inl ⟨by rfl, fun w _ => by go_simp⟩) hHeld ?_
        try dsimp only
        try simp only [Act.put, qz0, qz1, qz2, qz3, qz4, qz5]
        refine wpAnyH_ready (rs := [12]) (by kernel_rfl) (by simp) (AllReadyH.cons rfl (fun K hK => ?_) AllReadyH.nil)
        go_simp
        refine hK.out _ _ hHeld (fun hHeld => ?_)
        clear hK K
        refine wpAnyH_done (by kernel_rfl) ?_ _
        have HWD := Lib.hid hh0
        have HBXwd : Hid (∀ y : List Nat, Below wd.heap.size wd (wd.alloc (.cells #[.string (strB y)] 9))) := Lib.hid fun y => (Below.refl _ _).alloc (Nat.le_refl _) _
        have hBwd : wa.heap.size ≤ wd.heap.size := HBAwd.out.size
        clear hHeld hh0
        have hcxd := HCXX.out wd HBAwd.out
        go_upto_region 13 with (at_builtin; refine wpList_append_tx rfl (.tmp 38) (.tmp 43) rfl wa.heap.size A2 q c2 nx rfl (HOD.out.keep (HBXwd.out x)) ⟨wd.heap.size, 0, none⟩ 1 1 [x] rfl rfl (tx_one wd x HWX.out) (by omega) (Nat.le_trans hBwd (HBXwd.out x).size) ?_; intro A3 c3 w5 ho hg; have HOw5 := Lib.hid ho; have HBw5 : Hid (Below wa.heap.size wa w5) := Lib.hid ((HBAwd.out.trans ((HBXwd.out x).mono hBwd)).grown hg (Nat.le_trans hBwd (HBXwd.out x).size) (by first | exact (HOD.out.keep (HBXwd.out x)).base | (intro k hk; cases hk))); clear ho hg)
        have HBAw5 := HBw5
        clear hcxd
        have HCA2 : Hid (∀ w, Below wa.heap.size wa w → w.cell? ⟨ga, oa + k, none⟩ = some (.string (strB a))) := HCAA
        have HCX2 : Hid (∀ w, Below wa.heap.size wa w → w.cell? ⟨gl, ol + i, none⟩ = some (.string (strB x))) := HCXX
        have hh1 : Below wa.heap.size wa w5.drew := HBAw5.out.drew
        have HOE := Lib.hid (HOw5.out.keep (Below.refl w5.heap.size w5).drew)
        refine wp_region_held_drew (S := fun w2 => Below wa.heap.size wa w2) (by kernel_rfl) hh1 (fun hHeld => ?_)
        generalize w5.drew = we at *
        refine wpAnyH_take (i := 0) (v := .slice (some ⟨ga, oa, none⟩) m cap) rfl (by kernel_rfl) (by kernel_rfl) (by kernel_rfl) (fun _ _ _ h => h) (Or.inl ⟨by rfl, fun _ _ => rfl⟩) hHeld ?_
        try dsimp only
        try simp only [Act.put, qz0, qz1, qz2, qz3, qz4, qz5]
        refine wpAnyH_take (i := 1) (v := .int .i64 (k : Int)) rfl (by kernel_rfl) (by kernel_rfl) (by kernel_rfl) (fun _ _ _ h => h) (Or.inl ⟨by rfl, fun _ _ => rfl⟩) hHeld ?_
        try dsimp only
        try simp only [Act.put, qz0, qz1, qz2, qz3, qz4, qz5]
        refine wpAnyH_take (i := 2) (v := .pointer (some ⟨ga, oa + k, none⟩)) rfl (by kernel_rfl) (by kernel_rfl) (by kernel_rfl) (fun _ _ _ h => h) (Or.inl ⟨by rfl, fun w _ => by go_simp⟩) hHeld ?_
        try dsimp only
        try simp only [Act.put, qz0, qz1, qz2, qz3, qz4, qz5]
        refine wpAnyH_take (i := 3) (v := .string (strB a)) rfl (by kernel_rfl) (by kernel_rfl) (by kernel_rfl) (fun _ _ _ h => h) (Or.inl ⟨by rfl, fun w hw => by have hc : w.cell? ⟨ga, oa + k, none⟩ = some (.string (strB a)) := HCA2.out w hw; go_simp⟩) hHeld ?_
        try dsimp only
        try simp only [Act.put, qz0, qz1, qz2, qz3, qz4, qz5]
        refine wpAnyH_take (i := 4) (v := .slice (some ⟨gl, ol, none⟩) n c) rfl (by kernel_rfl) (by kernel_rfl) (by kernel_rfl) (fun _ _ _ h => h) (Or.inl ⟨by rfl, fun _ _ => rfl⟩) hHeld ?_
        try dsimp only
        try simp only [Act.put, qz0, qz1, qz2, qz3, qz4, qz5]
        refine wpAnyH_take (i := 5) (v := .int .i64 (i : Int)) rfl (by kernel_rfl) (by kernel_rfl) (by kernel_rfl) (fun _ _ _ h => h) (Or.inl ⟨by rfl, fun _ _ => rfl⟩) hHeld ?_
        try dsimp only
        try simp only [Act.put, qz0, qz1, qz2, qz3, qz4, qz5]
        refine wpAnyH_take (i := 6) (v := .pointer (some ⟨gl, ol + i, none⟩)) rfl (by kernel_rfl) (by kernel_rfl) (by kernel_rfl) (fun _ _ _ h => h) (Or.inl ⟨by rfl, fun w _ => by go_simp⟩) hHeld ?_
        try dsimp only
        try simp only [Act.put, qz0, qz1, qz2, qz3, qz4, qz5]
        refine wpAnyH_take (i := 7) (v := .string (strB x)) rfl (by kernel_rfl) (by kernel_rfl) (by kernel_rfl) (fun _ _ _ h => h) (Or.inl ⟨by rfl, fun w hw => by have hc : w.cell? ⟨gl, ol + i, none⟩ = some (.string (strB x)) := HCX2.out w hw; go_simp⟩) hHeld ?_
        try dsimp only
        try simp only [Act.put, qz0, qz1, qz2, qz3, qz4, qz5]
        refine wpAnyH_ready (rs := [8]) (by kernel_rfl) (by simp) (AllReadyH.cons rfl (fun K hK => ?_) AllReadyH.nil)
        go_simp
        refine hK.out _ _ hHeld (fun hHeld => ?_)
        clear hK K
        refine wpAnyH_done (by kernel_rfl) ?_ _
        have HBAwe := Lib.hid hh1
        have HBXwe : Hid (∀ y : List Nat, Below we.heap.size we (we.alloc (.cells #[.string (strB y)] 9))) := Lib.hid fun y => (Below.refl _ _).alloc (Nat.le_refl _) _
        have hBwe : wa.heap.size ≤ we.heap.size := HBAwe.out.size
        clear hHeld hh1
        have hcae := HCAA.out we HBAwe.out
        go_wp2_with (at_builtin; refine wpList_append_tx rfl (.tmp 54) (.tmp 59) rfl wa.heap.size A3 (q + 1) c3 (nx ++ [x]) rfl (HOE.out.keep (HBXwe.out a)) ⟨we.heap.size, 0, none⟩ 1 1 [a] rfl rfl (tx_one we a HWA.out) (by omega) (Nat.le_trans hBwe (HBXwe.out a).size) ?_; intro A6 c6 w6 ho hg; have HOw6 := Lib.hid ho; have HBw6 : Hid (Below wa.heap.size wa w6) := Lib.hid ((HBAwe.out.trans ((HBXwe.out a).mono hBwe)).grown hg (Nat.le_trans hBwe (HBXwe.out a).size) (by first | exact (HOE.out.keep (HBXwe.out a)).base | (intro k hk; cases hk))); clear ho hg)
        go_roundw
        case rel => exact ⟨k + 1, (q + 1) + 1, A6, c6, (nx ++ [x]) ++ [a], true, by omega, by go_num, rfl, rfl, by rw [HST.out, HINS.out]; simp [HLT.out, HEQ.out], HOw6.out, HBw6.out⟩
        case measure => simp [intOf]; omega
       ·go_upto_region 10 with fail
        have hh0 : Below wr.heap.size wr wr.drew := (Below.refl _ _).drew
        have HOD := Lib.hid (HO.out.keep hh0)
        have HBAwd : Hid (Below wa.heap.size wa wr.drew) := Lib.hid HBW.out.drew
        refine wp_region_held_drew (S := fun w2 => Below wr.heap.size wr w2) (by kernel_rfl) hh0 (fun hHeld => ?_)
        generalize wr.drew = wd at *
        refine wpAnyH_take (i := 0) (v := .bool false) rfl (by kernel_rfl) (by kernel_rfl) (by kernel_rfl) (fun _ _ _ h => h) (Or.inl ⟨by rfl, fun _ _ => rfl⟩) hHeld ?_
        try dsimp only
        try simp only [Act.put, qz0, qz1, qz2, qz3, qz4, qz5]
        refine wpAnyH_take (i := 1) (v := .bool true) rfl (by kernel_rfl) (by kernel_rfl) (by kernel_rfl) (fun _ _ _ h => h) (Or.inl ⟨by rfl, fun w _ => by go_simp⟩) hHeld ?_
        try dsimp only
        try simp only [Act.put, qz0, qz1, qz2, qz3, qz4, qz5]
        refine wpAnyH_take (i := 2) (v := .bool true) rfl (by kernel_rfl) (by kernel_rfl) (by kernel_rfl) (fun _ _ _ h => h) (Or.inl ⟨by rfl, fun _ _ => rfl⟩) hHeld ?_
        try dsimp only
        try simp only [Act.put, qz0, qz1, qz2, qz3, qz4, qz5]
        refine wpAnyH_take (i := 3) (v := .slice (some ⟨ga, oa, none⟩) m cap) rfl (by kernel_rfl) (by kernel_rfl) (by kernel_rfl) (fun _ _ _ h => h) (Or.inl ⟨by rfl, fun _ _ => rfl⟩) hHeld ?_
        try dsimp only
        try simp only [Act.put, qz0, qz1, qz2, qz3, qz4, qz5]
        refine wpAnyH_take (i := 4) (v := .int .i64 (k : Int)) rfl (by kernel_rfl) (by kernel_rfl) (by kernel_rfl) (fun _ _ _ h => h) (Or.inl ⟨by rfl, fun _ _ => rfl⟩) hHeld ?_
        try dsimp only
        try simp only [Act.put, qz0, qz1, qz2, qz3, qz4, qz5]
        refine wpAnyH_take (i := 5) (v := .pointer (some ⟨ga, oa + k, none⟩)) rfl (by kernel_rfl) (by kernel_rfl) (by kernel_rfl) (fun _ _ _ h => h) (Or.inl ⟨by rfl, fun w _ => by go_simp⟩) hHeld ?_
        try dsimp only
        try simp only [Act.put, qz0, qz1, qz2, qz3, qz4, qz5]
        refine wpAnyH_take (i := 6) (v := .string (strB a)) rfl (by kernel_rfl) (by kernel_rfl) (by kernel_rfl) (fun _ _ _ h => h) (Or.inl ⟨by rfl, fun w hw => by have hc : w.cell? ⟨ga, oa + k, none⟩ = some (.string (strB a)) := HCA.out w hw; go_simp⟩) hHeld ?_
        try dsimp only
        try simp only [Act.put, qz0, qz1, qz2, qz3, qz4, qz5]
        refine wpAnyH_take (i := 7) (v := .slice (some ⟨gl, ol, none⟩) n c) rfl (by kernel_rfl) (by kernel_rfl) (by kernel_rfl) (fun _ _ _ h => h) (Or.inl ⟨by rfl, fun _ _ => rfl⟩) hHeld ?_
        try dsimp only
        try simp only [Act.put, qz0, qz1, qz2, qz3, qz4, qz5]
        refine wpAnyH_take (i := 8) (v := .int .i64 (i : Int)) rfl (by kernel_rfl) (by kernel_rfl) (by kernel_rfl) (fun _ _ _ h => h) (Or.inl ⟨by rfl, fun _ _ => rfl⟩) hHeld ?_
        try dsimp only
        try simp only [Act.put, qz0, qz1, qz2, qz3, qz4, qz5]
        refine wpAnyH_take (i := 9) (v := .pointer (some ⟨gl, ol + i, none⟩)) rfl (by kernel_rfl) (by kernel_rfl) (by kernel_rfl) (fun _ _ _ h => h) (Or.inl ⟨by rfl, fun w _ => by go_simp⟩) hHeld ?_
        try dsimp only
        try simp only [Act.put, qz0, qz1, qz2, qz3, qz4, qz5]
        refine wpAnyH_take (i := 10) (v := .string (strB x)) rfl (by kernel_rfl) (by kernel_rfl) (by kernel_rfl) (fun _ _ _ h => h) (Or.inl ⟨by rfl, fun w hw => by have hc : w.cell? ⟨gl, ol + i, none⟩ = some (.string (strB x)) := HCX.out w hw; go_simp⟩) hHeld ?_
        try dsimp only
        try simp only [Act.put, qz0, qz1, qz2, qz3, qz4, qz5]
        refine wpAnyH_take (i := 11) (v := .bool false) rfl (by kernel_rfl) (by kernel_rfl) (by kernel_rfl) (fun _ _ _ h => h) (Or.inl ⟨by rfl, fun w _ => by go_simp⟩) hHeld ?_
        try dsimp only
        try simp only [Act.put, qz0, qz1, qz2, qz3, qz4, qz5]
        refine wpAnyH_ready (rs := [12]) (by kernel_rfl) (by simp) (AllReadyH.cons rfl (fun K hK => ?_) AllReadyH.nil)
        go_simp
        refine hK.out _ _ hHeld (fun hHeld => ?_)
        clear hK K
        refine wpAnyH_done (by kernel_rfl) ?_ _
        have HWD := Lib.hid hh0
        have HBXwd : Hid (∀ y : List Nat, Below wd.heap.size wd (wd.alloc (.cells #[.string (strB y)] 9))) := Lib.hid fun y => (Below.refl _ _).alloc (Nat.le_refl _) _
        have hBwd : wa.heap.size ≤ wd.heap.size := HBAwd.out.size
        clear hHeld hh0
        go_upto_region 13 with fail
        have HCA2 : Hid (∀ w, Below wa.heap.size wa w → w.cell? ⟨ga, oa + k, none⟩ = some (.string (strB a))) := HCAA
        have HCX2 : Hid (∀ w, Below wa.heap.size wa w → w.cell? ⟨gl, ol + i, none⟩ = some (.string (strB x))) := HCXX
        have hh1 : Below wa.heap.size wa wd.drew := HBAwd.out.drew
        have HOE := Lib.hid (HOD.out.keep (Below.refl wd.heap.size wd).drew)
        refine wp_region_held_drew (S := fun w2 => Below wa.heap.size wa w2) (by kernel_rfl) hh1 (fun hHeld => ?_)
        generalize wd.drew = we at *
        refine wpAnyH_take (i := 0) (v := .slice (some ⟨ga, oa, none⟩) m cap) rfl (by kernel_rfl) (by kernel_rfl) (by kernel_rfl) (fun _ _ _ h => h) (Or.inl ⟨by rfl, fun _ _ => rfl⟩) hHeld ?_
        try dsimp only
        try simp only [Act.put, qz0, qz1, qz2, qz3, qz4, qz5]
        refine wpAnyH_take (i := 1) (v := .int .i64 (k : Int)) rfl (by kernel_rfl) (by kernel_rfl) (by kernel_rfl) (fun _ _ _ h => h) (Or.inl ⟨by rfl, fun _ _ => rfl⟩) hHeld ?_
        try dsimp only
        try simp only [Act.put, qz0, qz1, qz2, qz3, qz4, qz5]
        refine wpAnyH_take (i := 2) (v := .pointer (some ⟨ga, oa + k, none⟩)) rfl (by kernel_rfl) (by kernel_rfl) (by kernel_rfl) (fun _ _ _ h => h) (Or.inl ⟨by rfl, fun w _ => by go_simp⟩) hHeld ?_
        try dsimp only
        try simp only [Act.put, qz0, qz1, qz2, qz3, qz4, qz5]
        refine wpAnyH_take (i := 3) (v := .string (strB a)) rfl (by kernel_rfl) (by kernel_rfl) (by kernel_rfl) (fun _ _ _ h => h) (Or.inl ⟨by rfl, fun w hw => by have hc : w.cell? ⟨ga, oa + k, none⟩ = some (.string (strB a)) := HCA2.out w hw; go_simp⟩) hHeld ?_
        try dsimp only
        try simp only [Act.put, qz0, qz1, qz2, qz3, qz4, qz5]
        refine wpAnyH_take (i := 4) (v := .slice (some ⟨gl, ol, none⟩) n c) rfl (by kernel_rfl) (by kernel_rfl) (by kernel_rfl) (fun _ _ _ h => h) (Or.inl ⟨by rfl, fun _ _ => rfl⟩) hHeld ?_
        try dsimp only
        try simp only [Act.put, qz0, qz1, qz2, qz3, qz4, qz5]
        refine wpAnyH_take (i := 5) (v := .int .i64 (i : Int)) rfl (by kernel_rfl) (by kernel_rfl) (by kernel_rfl) (fun _ _ _ h => h) (Or.inl ⟨by rfl, fun _ _ => rfl⟩) hHeld ?_
        try dsimp only
        try simp only [Act.put, qz0, qz1, qz2, qz3, qz4, qz5]
        refine wpAnyH_take (i := 6) (v := .pointer (some ⟨gl, ol + i, none⟩)) rfl (by kernel_rfl) (by kernel_rfl) (by kernel_rfl) (fun _ _ _ h => h) (Or.inl ⟨by rfl, fun w _ => by go_simp⟩) hHeld ?_
        try dsimp only
        try simp only [Act.put, qz0, qz1, qz2, qz3, qz4, qz5]
        refine wpAnyH_take (i := 7) (v := .string (strB x)) rfl (by kernel_rfl) (by kernel_rfl) (by kernel_rfl) (fun _ _ _ h => h) (Or.inl ⟨by rfl, fun w hw => by have hc : w.cell? ⟨gl, ol + i, none⟩ = some (.string (strB x)) := HCX2.out w hw; go_simp⟩) hHeld ?_
        try dsimp only
        try simp only [Act.put, qz0, qz1, qz2, qz3, qz4, qz5]
        refine wpAnyH_ready (rs := [8]) (by kernel_rfl) (by simp) (AllReadyH.cons rfl (fun K hK => ?_) AllReadyH.nil)
        go_simp
        refine hK.out _ _ hHeld (fun hHeld => ?_)
        clear hK K
        refine wpAnyH_done (by kernel_rfl) ?_ _
        have HBAwe := Lib.hid hh1
        have HBXwe : Hid (∀ y : List Nat, Below we.heap.size we (we.alloc (.cells #[.string (strB y)] 9))) := Lib.hid fun y => (Below.refl _ _).alloc (Nat.le_refl _) _
        have hBwe : wa.heap.size ≤ we.heap.size := HBAwe.out.size
        clear hHeld hh1
        have hcae := HCAA.out we HBAwe.out
        go_wp2_with (at_builtin; refine wpList_append_tx rfl (.tmp 54) (.tmp 59) rfl wa.heap.size A2 q c2 nx rfl (HOE.out.keep (HBXwe.out a)) ⟨we.heap.size, 0, none⟩ 1 1 [a] rfl rfl (tx_one we a HWA.out) (by omega) (Nat.le_trans hBwe (HBXwe.out a).size) ?_; intro A6 c6 w6 ho hg; have HOw6 := Lib.hid ho; have HBw6 : Hid (Below wa.heap.size wa w6) := Lib.hid ((HBAwe.out.trans ((HBXwe.out a).mono hBwe)).grown hg (Nat.le_trans hBwe (HBXwe.out a).size) (by first | exact (HOE.out.keep (HBXwe.out a)).base | (intro k hk; cases hk))); clear ho hg)
        go_roundw
        case rel => exact ⟨k + 1, q + 1, A6, c6, nx ++ [a], false, by omega, by go_num, rfl, rfl, by rw [HST.out, HINS.out]; simp [HLT.out, HEQ.out], HOw6.out, HBw6.out⟩
        case measure => simp [intOf]; omega
      ·clear hlt'
       go_upto_region 10 with fail
       have hh0 : Below wr.heap.size wr wr.drew := (Below.refl _ _).drew
       have HOD := Lib.hid (HO.out.keep hh0)
       have HBAwd : Hid (Below wa.heap.size wa wr.drew) := Lib.hid HBW.out.drew
       refine wp_region_held_drew (S := fun w2 => Below wr.heap.size wr w2) (by kernel_rfl) hh0 (fun hHeld => ?_)
       generalize wr.drew = wd at *
       refine wpAnyH_take (i := 0) (v := .bool true) rfl (by kernel_rfl) (by kernel_rfl) (by kernel_rfl) (fun _ _ _ h => h) (Or.inl ⟨by rfl, fun _ _ => rfl⟩) hHeld ?_
       try dsimp only
       try simp only [Act.put, qz0, qz1, qz2, qz3, qz4, qz5]
       refine wpAnyH_take (i := 1) (v := .bool false) rfl (by kernel_rfl) (by kernel_rfl) (by kernel_rfl) (fun _ _ _ h => h) (Or.inl ⟨by rfl, fun w _ => by go_simp⟩) hHeld ?_
       try dsimp only
       try simp only [Act.put, qz0, qz1, qz2, qz3, qz4, qz5]
       refine wpAnyH_take (i := 2) (v := .bool false) rfl (by kernel_rfl) (by kernel_rfl) (by kernel_rfl) (fun _ _ _ h => h) (Or.inl ⟨by rfl, fun _ _ => rfl⟩) hHeld ?_
       try dsimp only
       try simp only [Act.put, qz0, qz1, qz2, qz3, qz4, qz5]
       refine wpAnyH_take (i := 3) (v := undef) rfl (by kernel_rfl) (by kernel_rfl) (by kernel_rfl) (fun _ _ _ h => h) (Or.inr ⟨by rfl, rfl⟩) hHeld ?_
       try dsimp only
       try simp only [Act.put, qz0, qz1, qz2, qz3, qz4, qz5]
       refine wpAnyH_take (i := 4) (v := undef) rfl (by kernel_rfl) (by kernel_rfl) (by kernel_rfl) (fun _ _ _ h => h) (Or.inr ⟨by rfl, rfl⟩) hHeld ?_
       try dsimp only
       try simp only [Act.put, qz0, qz1, qz2, qz3, qz4, qz5]
       refine wpAnyH_take (i := 5) (v := undef) rfl (by kernel_rfl) (by kernel_rfl) (by kernel_rfl) (fun _ _ _ h => h) (Or.inr ⟨by rfl, rfl⟩) hHeld ?_
       try dsimp only
       try simp only [Act.put, qz0, qz1, qz2, qz3, qz4, qz5]
       refine wpAnyH_take (i := 6) (v := undef) rfl (by kernel_rfl) (by kernel_rfl) (by kernel_rfl) (fun _ _ _ h => h) (Or.inr ⟨by rfl, rfl⟩) hHeld ?_
       try dsimp only
       try simp only [Act.put, qz0, qz1, qz2, qz3, qz4, qz5]
       refine wpAnyH_take (i := 7) (v := undef) rfl (by kernel_rfl) (by kernel_rfl) (by kernel_rfl) (fun _ _ _ h => h) (Or.inr ⟨by rfl, rfl⟩) hHeld ?_
       try dsimp only
       try simp only [Act.put, qz0, qz1, qz2, qz3, qz4, qz5]
       refine wpAnyH_take (i := 8) (v := undef) rfl (by kernel_rfl) (by kernel_rfl) (by kernel_rfl) (fun _ _ _ h => h) (Or.inr ⟨by rfl, rfl⟩) hHeld ?_
       try dsimp only
       try simp only [Act.put, qz0, qz1, qz2, qz3, qz4, qz5]
       refine wpAnyH_take (i := 9) (v := undef) rfl (by kernel_rfl) (by kernel_rfl) (by kernel_rfl) (fun _ _ _ h => h) (Or.inr ⟨by rfl, rfl⟩) hHeld ?_
       try dsimp only
       try simp only [Act.put, qz0, qz1, qz2, qz3, qz4, qz5]
       refine wpAnyH_take (i := 10) (v := undef) rfl (by kernel_rfl) (by kernel_rfl) (by kernel_rfl) (fun _ _ _ h => h) (Or.inr ⟨by rfl, rfl⟩) hHeld ?_
       try dsimp only
       try simp only [Act.put, qz0, qz1, qz2, qz3, qz4, qz5]
       refine wpAnyH_take (i := 11) (v := undef) rfl (by kernel_rfl) (by kernel_rfl) (by kernel_rfl) (fun _ _ _ h => h) (Or.inr ⟨by rfl, rfl⟩) hHeld ?_
       try dsimp only
       try simp only [Act.put, qz0, qz1, qz2, qz3, qz4, qz5]
       refine wpAnyH_ready (rs := [12]) (by kernel_rfl) (by simp) (AllReadyH.cons rfl (fun K hK => ?_) AllReadyH.nil)
       go_simp
       refine hK.out _ _ hHeld (fun hHeld => ?_)
       clear hK K
       refine wpAnyH_done (by kernel_rfl) ?_ _
       have HWD := Lib.hid hh0
       have HBXwd : Hid (∀ y : List Nat, Below wd.heap.size wd (wd.alloc (.cells #[.string (strB y)] 9))) := Lib.hid fun y => (Below.refl _ _).alloc (Nat.le_refl _) _
       have hBwd : wa.heap.size ≤ wd.heap.size := HBAwd.out.size
       clear hHeld hh0
       go_upto_region 13 with fail
       have HCA2 : Hid (∀ w, Below wa.heap.size wa w → w.cell? ⟨ga, oa + k, none⟩ = some (.string (strB a))) := HCAA
       have HCX2 : Hid (∀ w, Below wa.heap.size wa w → w.cell? ⟨gl, ol + i, none⟩ = some (.string (strB x))) := HCXX
       have hh1 : Below wa.heap.size wa wd.drew := HBAwd.out.drew
       have HOE := Lib.hid (HOD.out.keep (Below.refl wd.heap.size wd).drew)
       refine wp_region_held_drew (S := fun w2 => Below wa.heap.size wa w2) (by kernel_rfl) hh1 (fun hHeld => ?_)
       generalize wd.drew = we at *
       refine wpAnyH_take (i := 0) (v := .slice (some ⟨ga, oa, none⟩) m cap) rfl (by kernel_rfl) (by kernel_rfl) (by kernel_rfl) (fun _ _ _ h => h) (Or.inl ⟨by rfl, fun _ _ => rfl⟩) hHeld ?_
       try dsimp only
       try simp only [Act.put, qz0, qz1, qz2, qz3, qz4, qz5]
       refine wpAnyH_take (i := 1) (v := .int .i64 (k : Int)) rfl (by kernel_rfl) (by kernel_rfl) (by kernel_rfl) (fun _ _ _ h => h) (Or.inl ⟨by rfl, fun _ _ => rfl⟩) hHeld ?_
       try dsimp only
       try simp only [Act.put, qz0, qz1, qz2, qz3, qz4, qz5]
       refine wpAnyH_take (i := 2) (v := .pointer (some ⟨ga, oa + k, none⟩)) rfl (by kernel_rfl) (by kernel_rfl) (by kernel_rfl) (fun _ _ _ h => h) (Or.inl ⟨by rfl, fun w _ => by go_simp⟩) hHeld ?_
       try dsimp only
       try simp only [Act.put, qz0, qz1, qz2, qz3, qz4, qz5]
       refine wpAnyH_take (i := 3) (v := .string (strB a)) rfl (by kernel_rfl) (by kernel_rfl) (by kernel_rfl) (fun _ _ _ h => h) (Or.inl ⟨by rfl, fun w hw => by have hc : w.cell? ⟨ga, oa + k, none⟩ = some (.string (strB a)) := HCA2.out w hw; go_simp⟩) hHeld ?_
       try dsimp only
       try simp only [Act.put, qz0, qz1, qz2, qz3, qz4, qz5]
       refine wpAnyH_take (i := 4) (v := .slice (some ⟨gl, ol, none⟩) n c) rfl (by kernel_rfl) (by kernel_rfl) (by kernel_rfl) (fun _ _ _ h => h) (Or.inl ⟨by rfl, fun _ _ => rfl⟩) hHeld ?_
       try dsimp only
       try simp only [Act.put, qz0, qz1, qz2, qz3, qz4, qz5]
       refine wpAnyH_take (i := 5) (v := .int .i64 (i : Int)) rfl (by kernel_rfl) (by kernel_rfl) (by kernel_rfl) (fun _ _ _ h => h) (Or.inl ⟨by rfl, fun _ _ => rfl⟩) hHeld ?_
       try dsimp only
       try simp only [Act.put, qz0, qz1, qz2, qz3, qz4, qz5]
       refine wpAnyH_take (i := 6) (v := .pointer (some ⟨gl, ol + i, none⟩)) rfl (by kernel_rfl) (by kernel_rfl) (by kernel_rfl) (fun _ _ _ h => h) (Or.inl ⟨by rfl, fun w _ => by go_simp⟩) hHeld ?_
       try dsimp only
       try simp only [Act.put, qz0, qz1, qz2, qz3, qz4, qz5]
       refine wpAnyH_take (i := 7) (v := .string (strB x)) rfl (by kernel_rfl) (by kernel_rfl) (by kernel_rfl) (fun _ _ _ h => h) (Or.inl ⟨by rfl, fun w hw => by have hc : w.cell? ⟨gl, ol + i, none⟩ = some (.string (strB x)) := HCX2.out w hw; go_simp⟩) hHeld ?_
       try dsimp only
       try simp only [Act.put, qz0, qz1, qz2, qz3, qz4, qz5]
       refine wpAnyH_ready (rs := [8]) (by kernel_rfl) (by simp) (AllReadyH.cons rfl (fun K hK => ?_) AllReadyH.nil)
       go_simp
       refine hK.out _ _ hHeld (fun hHeld => ?_)
       clear hK K
       refine wpAnyH_done (by kernel_rfl) ?_ _
       have HBAwe := Lib.hid hh1
       have HBXwe : Hid (∀ y : List Nat, Below we.heap.size we (we.alloc (.cells #[.string (strB y)] 9))) := Lib.hid fun y => (Below.refl _ _).alloc (Nat.le_refl _) _
       have hBwe : wa.heap.size ≤ we.heap.size := HBAwe.out.size
       clear hHeld hh1
       have hcae := HCAA.out we HBAwe.out
       go_wp2_with (at_builtin; refine wpList_append_tx rfl (.tmp 54) (.tmp 59) rfl wa.heap.size A2 q c2 nx rfl (HOE.out.keep (HBXwe.out a)) ⟨we.heap.size, 0, none⟩ 1 1 [a] rfl rfl (tx_one we a HWA.out) (by omega) (Nat.le_trans hBwe (HBXwe.out a).size) ?_; intro A6 c6 w6 ho hg; have HOw6 := Lib.hid ho; have HBw6 : Hid (Below wa.heap.size wa w6) := Lib.hid ((HBAwe.out.trans ((HBXwe.out a).mono hBwe)).grown hg (Nat.le_trans hBwe (HBXwe.out a).size) (by first | exact (HOE.out.keep (HBXwe.out a)).base | (intro k hk; cases hk))); clear ho hg)
       go_roundw
       case rel => exact ⟨k + 1, q + 1, A6, c6, nx ++ [a], true, by omega, by go_num, rfl, rfl, by rw [HST.out, HINS.out]; simp [HLT.out, HEQ.out], HOw6.out, HBw6.out⟩
       case measure => simp [intOf]; omega
    ·obtain rfl : k = m := by omega
     have hki : ¬ (k : Int) < (k : Int) := by omega
     have HEND : Hid ((if d = true then nx else nx ++ [x]) = insU x all) := Lib.hid (by
      have h := insK_end x all
      rw [← HML.out, HINS.out] at h; exact h)
     have HUQ : Hid (uqL (l.take (i + 1)) = insU x all) := Lib.hid (by
      rw [List.take_add_one, HX.out]
      show uqL (l.take i ++ [x]) = _
      rw [uqL_snoc, ← HALL.out])
     have HBAwr := HBW
     have hcxr := HCXX.out wr HBW.out
     have hWa : W.heap.size ≤ wa.heap.size := HB.out.size
     have HBXwr : Hid (∀ y : List Nat, Below wr.heap.size wr (wr.alloc (.cells #[.string (strB y)] 9))) := Lib.hid fun y => (Below.refl _ _).alloc (Nat.le_refl _) _
     have hBwr : wa.heap.size ≤ wr.heap.size := HBAwr.out.size
     cases d
     ·go_wp2_with (at_builtin; refine wpList_append_tx rfl (.tmp 63) (.tmp 68) rfl wa.heap.size A2 q c2 nx rfl (HO.out.keep (HBXwr.out x)) ⟨wr.heap.size, 0, none⟩ 1 1 [x] rfl rfl (tx_one wr x HWX.out) (by omega) (Nat.le_trans hBwr (HBXwr.out x).size) ?_; intro A3 c3 w5 ho hg; have HOw5 := Lib.hid ho; have HBw5 : Hid (Below wa.heap.size wa w5) := Lib.hid ((HBAwr.out.trans ((HBXwr.out x).mono hBwr)).grown hg (Nat.le_trans hBwr (HBXwr.out x).size) (by first | exact (HO.out.keep (HBXwr.out x)).base | (intro k hk; cases hk))); clear ho hg)
      go_roundw
      case rel => exact ⟨i + 1, q + 1, A3, c3, by omega, by go_num, rfl, by rw [HUQ.out, ← HEND.out]; exact HOw5.out.more hWa, below_to HB.out HBw5.out⟩
      case measure => simp [intOf]; omega
     ·go_wp2
      go_roundw
      case rel => exact ⟨i + 1, q, A2, c2, by omega, by go_num, rfl, by rw [HUQ.out, ← HEND.out]; exact HO.out.more hWa, below_to HB.out HBW.out⟩
      case measure => simp [intOf]; omega
  ·obtain rfl : i = n := by omega
   have hii : ¬ (i : Int) < (i : Int) := by omega
   have HTK : Hid (l.take i = l) := Lib.hid (List.take_of_length_le (by have := hn.out; omega))
   rw [HTK.out] at HOX HML
   have HWT : Hid (∀ y ∈ l, WfT y) := Lib.hid HL.out.wf
   have HUW : Hid (∀ y ∈ uqL l, WfT y ∧ y.length ≤ 1000000) := Lib.hid fun y hy => ⟨uqL_wf HWT.out y hy, hl1.out y (((uqL_facts l HWT.out).2 y).1 hy)⟩
   have HU := Lib.hid (refU_any m (by omega))
   have H10 : Hid ((ub m).length ≤ 10) := Lib.hid (ub10 (show m < 18446744073709551616 by omega))
   have hmw : IntKind.u64.wrap (m : Int) = (m : Int) := by rw [IntKind.wrap_u64]; omega
   go_wp2_with (go_at_call 17; refine (HU.out _).mono ?_; rintro e w2 hp; obtain ⟨A2, n2, c2, rfl, HO2, HB2, hn2⟩ := hp.at; have HN2 := Lib.hid hn2; have hn10 : n2 ≤ 10 := (by have := H10.out; omega); clear hp hn2)
   have HST3 : Hid (TX3 wa (uqL l) m (.slice A2 n2 c2) (.int .i64 0) w2) := Lib.hid ⟨0, n2, A2, c2, Nat.zero_le _, rfl, rfl, by omega, by show OwnS w2 wa.heap.size A2 n2 c2 (ub m ++ ([] : List (List Nat)).flatten); rw [List.flatten_nil, List.append_nil]; exact HO2.out, HB2.out⟩
   go_loopw [8, 9] (fun up v wr => TX3 wa (uqL l) m up v wr) (fun _ v _ => m - (intOf v).toNat)
   case atStart => exact HST3.out
   case round =>
    obtain ⟨j, N, Ap, cp, hj, rfl, rfl, hN, hop, hbp⟩ := hrel
    have HOP := Lib.hid hop; have HBP := Lib.hid hbp
    clear hop hbp HST3
    by_cases hjm : j < m
    ·have hji : (j : Int) < (m : Int) := by omega
     obtain ⟨s, hs⟩ : ∃ s, (uqL l)[j]? = some s := ⟨_, List.getElem?_eq_getElem (by have := HML.out; omega)⟩
     have HS := Lib.hid hs
     have HSW := Lib.hid (HUW.out s (List.mem_of_getElem? hs))
     obtain ⟨ga, oa, hA, hga, hca⟩ := HOX.out.isAt.spot (by have := HML.out; omega)
     subst hA
     have hcs := (HBP.out.cell (p := ⟨ga, oa + j, none⟩) hga).trans (hca j s hs)
     have HT := Lib.hid (refText_any s HSW.out.1 HSW.out.2)
     have HTL : Hid ((txL s).length ≤ 1000010) := Lib.hid (by unfold txL; rw [List.length_append]; have := HSW.out.2; have := ub10 (show s.length < 18446744073709551616 by omega); omega)
     have hWr : wa.heap.size ≤ wr.heap.size := HBP.out.size
     clear hs hga hca
     go_wp2_with (first
      | (go_at_call 19; refine (HT.out _).mono ?_; rintro e w3 hp; obtain ⟨A3, n3, c3, rfl, HO3, HB3, hn3⟩ := hp.at; have HN3 := Lib.hid hn3; have hn3' : n3 ≤ 1000010 := (by have := HTL.out; omega); have HOP3 := Lib.hid (HOP.out.keep HB3.out); have HBP3 := Lib.hid (below_to HBP.out HB3.out); clear hp hn3)
      | (refine wpList_append_by rfl (.tmp 81) (.tmp 86) rfl wa.heap.size Ap N cp _ rfl HOP3.out A3 n3 c3 (txL s) rfl HN3.out HO3.out.byAt (by omega) HBP3.out.size ?_; intro A4 c4 w4 ho4 hg4 hr4; have HO4 := Lib.hid ho4; have HB4 := Lib.hid (HBP3.out.grown hg4 HBP3.out.size HOP3.out.base); clear ho4 hg4 hr4))
     go_roundw
     case rel => exact ⟨j + 1, N + n3, A4, c4, by omega, by go_num, rfl, by omega, by rw [List.take_add_one, HS.out]; simpa [List.append_assoc] using HO4.out, HB4.out⟩
     case measure => simp [intOf]; omega
    ·obtain rfl : j = m := by omega
     have hji : ¬ (j : Int) < (j : Int) := by omega
     obtain ⟨wp, rfl⟩ : ∃ wp, wp = wr := ⟨_, rfl⟩
     have hRise := (uqL_facts l HWT.out).1
     have hMem := (uqL_facts l HWT.out).2
     have HRI := Lib.hid hRise; have HMEM := Lib.hid hMem
     obtain ⟨all, hall⟩ : ∃ all, all = uqL l := ⟨_, rfl⟩
     have HTX : Hid (textsL l = ub j ++ ((all.take j).map txL).flatten ++ intsL (l.map fun x => (plc all x : Int))) := Lib.hid (by
      unfold textsL
      rw [hall, List.take_of_length_le (by have := HML.out; omega), ← HML.out])
     rw [← hall] at HOX HML HOP HRI HMEM HUW
     have HPL : Hid (∀ x, Wf64 (plc all x : Int)) := Lib.hid fun x => by
      have := plc_le all x; have := HML.out; unfold Wf64; omega
     clear hall hRise hMem
     have HST4 : Hid (TX4 wp l all i (.slice none 0 0) (.int .i64 0) wp) := Lib.hid ⟨0, none, 0, Nat.zero_le _, rfl, rfl, OwnI.nil _ _, Below.refl _ _⟩
     go_wp2
     go_loopw [10, 11] (fun u v wr => TX4 wp l all i u v wr) (fun _ v _ => i - (intOf v).toNat)
     case atStart => exact HST4.out
     case round =>
      obtain ⟨i2, A4, c4, hi2, rfl, rfl, ho4, hb4⟩ := hrel
      have HO4 := Lib.hid ho4; have HB4 := Lib.hid hb4
      clear ho4 hb4 HST4
      by_cases hin2 : i2 < i
      ·have hii2 : (i2 : Int) < (i : Int) := by omega
       obtain ⟨x, hx⟩ : ∃ x, l[i2]? = some x := ⟨_, List.getElem?_eq_getElem (by have := hn.out; omega)⟩
       have HX := Lib.hid hx
       have HWX : Hid (WfT x) := Lib.hid (HWT.out x (List.mem_of_getElem? hx))
       obtain ⟨gl, ol, hA0, hgl, hcl⟩ := HL.out.spot (by have := hn.out; omega)
       subst hA0
       have HCX : Hid (∀ w, Below wp.heap.size wp w → w.cell? ⟨gl, ol + i2, none⟩ = some (.string (strB x))) := Lib.hid fun w h => ((below_to (below_to HB.out HBP.out) h).cell (p := ⟨gl, ol + i2, none⟩) hgl).trans (hcl i2 x hx)
       have HXIN : Hid (x ∈ all) := Lib.hid ((HMEM.out x).2 (List.mem_of_getElem? hx))
       clear hx hgl hcl
       have HST5 : Hid (TX5 wp ((l.take i2).map fun x => (plc all x : Int)) x all i2 j (.slice A4 i2 c4) (.int .i64 0) wr) := Lib.hid ⟨0, i2, A4, c4, Nat.zero_le _, rfl, rfl, by omega, by show OwnI wr _ _ _ _ (_ ++ pre all 0 x); unfold pre; rw [List.take_zero, if_neg (by simp), List.append_nil]; exact HO4.out, HB4.out⟩
       go_wp2
       go_loopw [10, 12] (fun u v wr => TX5 wp ((l.take i2).map fun x => (plc all x : Int)) x all i2 j u v wr) (fun _ v _ => j - (intOf v).toNat)
       case atStart => exact HST5.out
       case round =>
        obtain ⟨k, q, A5, c5, hk, rfl, rfl, hq, ho5, hb5⟩ := hrel
        have HO5 := Lib.hid ho5; have HB5 := Lib.hid hb5
        clear ho5 hb5 HST5
        by_cases hkj : k < j
        ·have hki : (k : Int) < (j : Int) := by omega
         obtain ⟨a, ha⟩ : ∃ a, all[k]? = some a := ⟨_, List.getElem?_eq_getElem (by have := HML.out; omega)⟩
         have HAK := Lib.hid ha
         have HWA : Hid (WfT a) := Lib.hid (HUW.out a (List.mem_of_getElem? ha)).1
         obtain ⟨ga, oa, hA, hga, hca⟩ := HOX.out.isAt.spot (by have := HML.out; omega)
         subst hA
         have HCA : Hid (∀ w, Below wp.heap.size wp w → w.cell? ⟨ga, oa + k, none⟩ = some (.string (strB a))) := Lib.hid fun w h => ((below_to HBP.out h).cell (p := ⟨ga, oa + k, none⟩) hga).trans (hca k a ha)
         have HSTEP := Lib.hid (pre_step HRI.out ha x)
         clear ha hga hca
         by_cases heq : a = x
         ·have heqb : ((strB a).toList == (strB x).toList) = true := by rw [beq_strB HWA.out HWX.out]; exact decide_eq_true heq
          have HST6 := Lib.hid (HSTEP.out.1 heq)
          clear heq
          go_upto_region 30 with fail
          have hh0 : Below wp.heap.size wp wr.drew := HB5.out.drew
          have HOE := Lib.hid (HO5.out.keep (Below.refl wr.heap.size wr).drew)
          refine wp_region_held_drew (S := fun w2 => Below wp.heap.size wp w2) (by kernel_rfl) hh0 (fun hHeld => ?_)
          generalize wr.drew = we at *
          refine wpAnyH_take (i := 0) (v := .slice (some ⟨ga, oa, none⟩) j cap) rfl (by kernel_rfl) (by kernel_rfl) (by kernel_rfl) (fun _ _ _ h => h) (Or.inl ⟨by rfl, fun _ _ => rfl⟩) hHeld ?_
          try dsimp only
          try simp only [Act.put, qz0, qz1, qz2, qz3, qz4, qz5]
          refine wpAnyH_take (i := 1) (v := .int .i64 (k : Int)) rfl (by kernel_rfl) (by kernel_rfl) (by kernel_rfl) (fun _ _ _ h => h) (Or.inl ⟨by rfl, fun _ _ => rfl⟩) hHeld ?_
          try dsimp only
          try simp only [Act.put, qz0, qz1, qz2, qz3, qz4, qz5]
          refine wpAnyH_take (i := 2) (v := .pointer (some ⟨ga, oa + k, none⟩)) rfl (by kernel_rfl) (by kernel_rfl) (by kernel_rfl) (fun _ _ _ h => h) (Or.inl ⟨by rfl, fun w _ => by go_simp⟩) hHeld ?_
          try dsimp only
          try simp only [Act.put, qz0, qz1, qz2, qz3, qz4, qz5]
          refine wpAnyH_take (i := 3) (v := .string (strB a)) rfl (by kernel_rfl) (by kernel_rfl) (by kernel_rfl) (fun _ _ _ h => h) (Or.inl ⟨by rfl, fun w hw => by have hc : w.cell? ⟨ga, oa + k, none⟩ = some (.string (strB a)) := HCA.out w hw; go_simp⟩) hHeld ?_
          try dsimp only
          try simp only [Act.put, qz0, qz1, qz2, qz3, qz4, qz5]
          refine wpAnyH_take (i := 4) (v := .slice (some ⟨gl, ol, none⟩) i c) rfl (by kernel_rfl) (by kernel_rfl) (by kernel_rfl) (fun _ _ _ h => h) (Or.inl ⟨by rfl, fun _ _ => rfl⟩) hHeld ?_
          try dsimp only
          try simp only [Act.put, qz0, qz1, qz2, qz3, qz4, qz5]
          refine wpAnyH_take (i := 5) (v := .int .i64 (i2 : Int)) rfl (by kernel_rfl) (by kernel_rfl) (by kernel_rfl) (fun _ _ _ h => h) (Or.inl ⟨by rfl, fun _ _ => rfl⟩) hHeld ?_
          try dsimp only
          try simp only [Act.put, qz0, qz1, qz2, qz3, qz4, qz5]
          refine wpAnyH_take (i := 6) (v := .pointer (some ⟨gl, ol + i2, none⟩)) rfl (by kernel_rfl) (by kernel_rfl) (by kernel_rfl) (fun _ _ _ h => h) (Or.inl ⟨by rfl, fun w _ => by go_simp⟩) hHeld ?_
          try dsimp only
          try simp only [Act.put, qz0, qz1, qz2, qz3, qz4, qz5]
          refine wpAnyH_take (i := 7) (v := .string (strB x)) rfl (by kernel_rfl) (by kernel_rfl) (by kernel_rfl) (fun _ _ _ h => h) (Or.inl ⟨by rfl, fun w hw => by have hc : w.cell? ⟨gl, ol + i2, none⟩ = some (.string (strB x)) := HCX.out w hw; go_simp⟩) hHeld ?_
          try dsimp only
          try simp only [Act.put, qz0, qz1, qz2, qz3, qz4, qz5]
          refine wpAnyH_ready (rs := [8]) (by kernel_rfl) (by simp) (AllReadyH.cons rfl (fun K hK => ?_) AllReadyH.nil)
          go_simp
          refine hK.out _ _ hHeld (fun hHeld => ?_)
          clear hK K
          refine wpAnyH_done (by kernel_rfl) ?_ _
          have HBE := Lib.hid hh0
          clear hHeld hh0
          go_wp2_with (at_builtin; refine wpList_append_is rfl (.tmp 109) (.tmp 111) rfl wp.heap.size A5 q c5 _ rfl (HOE.out.keep ((Below.refl we.heap.size we).alloc (Nat.le_refl _) (.cells #[.int .i64 (k : Int)] 2))) ⟨we.heap.size, 0, none⟩ 1 1 [(k : Int)] rfl rfl (is_one we (k : Int) (by unfold Wf64; omega)) (by omega) (by have := HBE.out.size; simp; omega) ?_; intro A6 c6 w6 ho hg; have HO6 := Lib.hid ho; have HB6 : Hid (Below wp.heap.size wp w6) := Lib.hid ((HBE.out.alloc HBE.out.size _).grown hg (by have := HBE.out.size; simp; omega) HOE.out.base); clear ho hg)
          go_roundw
          case rel => exact ⟨k + 1, q + 1, A6, c6, by omega, by go_num, rfl, by have := HO6.out.len; rw [HST6.out.2] at this; simp at this; have h2 := hn.out; omega, by rw [HST6.out.1]; have h := HO6.out; rw [HST6.out.2, List.append_nil] at h; exact h, HB6.out⟩
          case measure => simp [intOf]; omega
         ·have heqb : ((strB a).toList == (strB x).toList) = false := by rw [beq_strB HWA.out HWX.out]; exact decide_eq_false heq
          have HST6 := Lib.hid (HSTEP.out.2 heq)
          clear heq
          go_upto_region 30 with fail
          have hh0 : Below wp.heap.size wp wr.drew := HB5.out.drew
          have HOE := Lib.hid (HO5.out.keep (Below.refl wr.heap.size wr).drew)
          refine wp_region_held_drew (S := fun w2 => Below wp.heap.size wp w2) (by kernel_rfl) hh0 (fun hHeld => ?_)
          generalize wr.drew = we at *
          refine wpAnyH_take (i := 0) (v := .slice (some ⟨ga, oa, none⟩) j cap) rfl (by kernel_rfl) (by kernel_rfl) (by kernel_rfl) (fun _ _ _ h => h) (Or.inl ⟨by rfl, fun _ _ => rfl⟩) hHeld ?_
          try dsimp only
          try simp only [Act.put, qz0, qz1, qz2, qz3, qz4, qz5]
          refine wpAnyH_take (i := 1) (v := .int .i64 (k : Int)) rfl (by kernel_rfl) (by kernel_rfl) (by kernel_rfl) (fun _ _ _ h => h) (Or.inl ⟨by rfl, fun _ _ => rfl⟩) hHeld ?_
          try dsimp only
          try simp only [Act.put, qz0, qz1, qz2, qz3, qz4, qz5]
          refine wpAnyH_take (i := 2) (v := .pointer (some ⟨ga, oa + k, none⟩)) rfl (by kernel_rfl) (by kernel_rfl) (by kernel_rfl) (fun _ _ _ h => h) (Or.inl ⟨by rfl, fun w _ => by go_simp⟩) hHeld ?_
          try dsimp only
          try simp only [Act.put, qz0, qz1, qz2, qz3, qz4, qz5]
          refine wpAnyH_take (i := 3) (v := .string (strB a)) rfl (by kernel_rfl) (by kernel_rfl) (by kernel_rfl) (fun _ _ _ h => h) (Or.inl ⟨by rfl, fun w hw => by have hc : w.cell? ⟨ga, oa + k, none⟩ = some (.string (strB a)) := HCA.out w hw; go_simp⟩) hHeld ?_
          try dsimp only
          try simp only [Act.put, qz0, qz1, qz2, qz3, qz4, qz5]
          refine wpAnyH_take (i := 4) (v := .slice (some ⟨gl, ol, none⟩) i c) rfl (by kernel_rfl) (by kernel_rfl) (by kernel_rfl) (fun _ _ _ h => h) (Or.inl ⟨by rfl, fun _ _ => rfl⟩) hHeld ?_
          try dsimp only
          try simp only [Act.put, qz0, qz1, qz2, qz3, qz4, qz5]
          refine wpAnyH_take (i := 5) (v := .int .i64 (i2 : Int)) rfl (by kernel_rfl) (by kernel_rfl) (by kernel_rfl) (fun _ _ _ h => h) (Or.inl ⟨by rfl, fun _ _ => rfl⟩) hHeld ?_
          try dsimp only
          try simp only [Act.put, qz0, qz1, qz2, qz3, qz4, qz5]
          refine wpAnyH_take (i := 6) (v := .pointer (some ⟨gl, ol + i2, none⟩)) rfl (by kernel_rfl) (by kernel_rfl) (by kernel_rfl) (fun _ _ _ h => h) (Or.inl ⟨by rfl, fun w _ => by go_simp⟩) hHeld ?_
          try dsimp only
          try simp only [Act.put, qz0, qz1, qz2, qz3, qz4, qz5]
          refine wpAnyH_take (i := 7) (v := .string (strB x)) rfl (by kernel_rfl) (by kernel_rfl) (by kernel_rfl) (fun _ _ _ h => h) (Or.inl ⟨by rfl, fun w hw => by have hc : w.cell? ⟨gl, ol + i2, none⟩ = some (.string (strB x)) := HCX.out w hw; go_simp⟩) hHeld ?_
          try dsimp only
          try simp only [Act.put, qz0, qz1, qz2, qz3, qz4, qz5]
          refine wpAnyH_ready (rs := [8]) (by kernel_rfl) (by simp) (AllReadyH.cons rfl (fun K hK => ?_) AllReadyH.nil)
          go_simp
          refine hK.out _ _ hHeld (fun hHeld => ?_)
          clear hK K
          refine wpAnyH_done (by kernel_rfl) ?_ _
          have HBE := Lib.hid hh0
          clear hHeld hh0
          go_wp2
          go_roundw
          case rel => exact ⟨k + 1, q, A5, c5, by omega, by go_num, rfl, by omega, by rw [HST6.out]; exact HOE.out, HBE.out⟩
          case measure => simp [intOf]; omega
        ·obtain rfl : k = j := by omega
         have hki : ¬ (k : Int) < (k : Int) := by omega
         have HFIN : Hid (pre all k x = [(plc all x : Int)]) := Lib.hid (by
          unfold pre
          rw [List.take_of_length_le (by have := HML.out; omega), if_pos HXIN.out])
         have HQ : Hid (q = i2 + 1) := Lib.hid (by have := HO5.out.len; rw [HFIN.out] at this; simp at this; have h2 := hn.out; omega)
         have hqi := HQ.out
         subst hqi
         go_wp2
         go_roundw
         case rel => exact ⟨i2 + 1, A5, c5, by omega, by go_num, rfl, by rw [List.take_add_one, HX.out]; have h := HO5.out; rw [HFIN.out] at h; simpa using h, HB5.out⟩
         case measure => simp [intOf]; omega
      ·obtain rfl : i2 = i := by omega
       have hii2 : ¬ (i2 : Int) < (i2 : Int) := by omega
       have HO4' : Hid (OwnI wr wp.heap.size A4 i2 c4 (l.map fun x => (plc all x : Int))) := Lib.hid (by have h := HO4.out; rw [HTK.out] at h; exact h)
       have HIN := Lib.hid (refInts_any A4 i2 c4 (l.map fun x => (plc all x : Int)) (Lib.hid (by rw [List.length_map]; exact hn.out)) HO4'.out.caps.1 (by have := HO4'.out.caps.2; unfold maxLen at this; omega) hn5 wr (Lib.hid HO4'.out.isAt))
       have HOP4 := Lib.hid (HOP.out.keep HB4.out)
       have HBW4 : Hid (Below W.heap.size W wr) := Lib.hid (below_to (below_to HB.out HBP.out) HB4.out)
       have hLI : (intsL (l.map fun x => (plc all x : Int))).length ≤ 1000000 := ints_few _ (fun y hy => by obtain ⟨x, -, rfl⟩ := List.mem_map.1 hy; exact HPL.out x) (by rw [List.length_map]; have := hn.out; omega)
       have HLI := Lib.hid hLI
       clear hLI
       go_wp2_with (first
        | (go_at_call 40; (with_reducible refine (HIN.out).mono ?_); rintro e w7 hp; obtain ⟨A7, n7, c7, rfl, HO7, HB7, hn7⟩ := hp.at; have HN7 := Lib.hid hn7; have hn7' : n7 ≤ 1000000 := (by rw [hn7]; exact HLI.out); have HOP7 := Lib.hid (HOP4.out.keep HB7.out); have HBW7 := Lib.hid (below_to HBW4.out HB7.out); have hWw : wa.heap.size ≤ w7.heap.size := (by have h1 := HBP.out.size; have h2 := HB4.out.size; have h3 := HB7.out.size; omega); clear hp hn7)
        | (refine wpList_append_by rfl (.tmp 113) (.tmp 115) rfl wa.heap.size Ap N cp _ rfl HOP7.out A7 n7 c7 _ rfl HN7.out HO7.out.byAt (by omega) hWw ?_; intro A8 c8 w8 ho8 hg8 hr8; have HO8 := Lib.hid ho8; have HB8 : Hid (Below W.heap.size W w8) := Lib.hid (HBW7.out.grown hg8 HBW7.out.size (fun k hk => Nat.le_trans HB.out.size (HOP7.out.base k hk))); clear ho8 hg8 hr8))
       go_ret
       exact ⟨A8, _, c8, rfl, by rw [HTX.out]; exact HO8.out.more HB.out.size, HB8.out, HB8.out.size⟩
end Go.Proofs.YtifabkbdiiolfaaDoor
