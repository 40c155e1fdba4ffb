/-
  Layer segment: the contracts of layNumbers, layFoot.
-/
import Derived.Test.YtifabkbdiiolfaaDoorYaK
import Derived.Test.YtifabkbdiiolfaaDoorUdK
import Derived.BigRegion
import Derived.Deep.CutBlock
import Derived.Deep.RegionHeld
import Derived.Test.YtifabkbdiiolfaaDoorYfK
set_option linter.unusedSimpArgs false
set_option linter.unusedVariables false
set_option maxRecDepth 8000
namespace Go.Proofs.YtifabkbdiiolfaaDoor
open Go.RowKit Go.WideShapes Col
/-- The list's own block. -/
def MineK (A : Option Addr) (k : Nat) : Prop := A.map (·.block) = some k
theorem kept_grown {w0 w w' : World} {A A0 : Option Addr} (h : Kept (MineK A0) w0 w) (hA : ∀ k, MineK A k → MineK A0 k ∨ w0.heap.size ≤ k) (hg : w.grownBy w' (A.map (·.block))) : Kept (MineK A0) w0 w' :=
 h.trans' (S' := MineK A) ⟨hg.os, hg.tape, hg.output, hg.size, fun k hk hn => hg.block k hk (fun e => hn e.symm)⟩ hA
theorem mine_next {w0 w : World} {A A0 A2 : Option Addr} (hA : ∀ k, MineK A k → MineK A0 k ∨ w0.heap.size ≤ k) (hs : w0.heap.size ≤ w.heap.size) (hr : A2.map (·.block) = A.map (·.block) ∨ A2.map (·.block) = some w.heap.size) : ∀ k, MineK A2 k → MineK A0 k ∨ w0.heap.size ≤ k := fun k hk => by
 unfold MineK at hk
 rcases hr with h | h
 ·rw [h] at hk; exact hA k hk
 ·rw [h] at hk; injection hk with hk; exact .inr (by omega)
theorem kept_own {w w' : World} {A : Option Addr} {B n cap : Nat} {l : List Nat} (h : Kept (MineK A) w w') (ho : OwnS w B A n cap l) (hB : B ≤ w.heap.size) : Below B w w' := h.below hB fun k hk => ho.base k hk
/-- What a call ends with that appends bytes. -/
def PutK (B : Nat) (w : World) (A : Option Addr) (l : List Nat) (e : Ending) (w' : World) : Prop := ∃ A' n cap, e = .returned (.slice A' n cap) ∧ OwnS w' B A' n cap l ∧ Kept (MineK A) w w' ∧ (∀ k, MineK A' k → MineK A k ∨ w.heap.size ≤ k)
theorem PutK.at {B : Nat} {w w' : World} {A : Option Addr} {l : List Nat} {e : Ending} (h : PutK B w A l e w') : ∃ A' n cap, e = .returned (.slice A' n cap) ∧ Hid (OwnS w' B A' n cap l) ∧ Hid (Kept (MineK A) w w') ∧ Hid (∀ k, MineK A' k → MineK A k ∨ w.heap.size ≤ k) ∧ n = l.length := by
 obtain ⟨A', n, cap, he, ho, hk, hm⟩ := h
 exact ⟨A', n, cap, he, ho, hk, hm, ho.len⟩
set_option maxHeartbeats 1000000 in
theorem putU_k (B : Nat) (A : Option Addr) (n cap : Nat) (l : List Nat) (x : Nat) (hx : x < 18446744073709551616) (w : World) (H : Hid (OwnS w B A n cap l)) (hn : n ≤ 1099511627776) (hB : B ≤ w.heap.size) :
  Calls Tryd.prog 52 #[.slice A n cap, .int .u64 (x : Int)] w (PutK B w A (l ++ ub x)) := by
 have HBB := Lib.hid hB
 go_enter Tryd.func52, Tryd.ntmps52
 go_wp2
 go_loopw [0, 1] (fun p y wr => ∃ (A' : Option Addr) (n' cap' : Nat) (l' : List Nat) (x' : Nat), p = .slice A' n' cap' ∧ y = .int .u64 (x' : Int) ∧ x' ≤ x ∧ n' + (ub x').length ≤ n + (ub x).length ∧ l' ++ ub x' = l ++ ub x ∧ OwnS wr B A' n' cap' l' ∧ Kept (MineK A) w wr ∧ (∀ k, MineK A' k → MineK A k ∨ w.heap.size ≤ k)) (fun _ y _ => (intOf y).toNat)
 case atStart => exact ⟨A, n, cap, l, x, rfl, rfl, Nat.le_refl _, Nat.le_refl _, rfl, H.out, Kept.refl _ _, fun k hk => .inl hk⟩
 case round =>
  obtain ⟨A', n', cap', l', x', rfl, rfl, hx', hn', hl, hown, hb, hmi⟩ := hrel
  have HN := Lib.hid hn'
  have HL := Lib.hid hl
  have HO := Lib.hid hown
  have HB := Lib.hid hb
  have HMI := Lib.hid hmi
  have hub := Lib.hid (ub_len 9 x (Nat.lt_trans hx (by decide)))
  have hub' := Lib.hid (ub_pos x')
  clear hn' hl hown hb hmi
  have hbs : B ≤ wr.heap.size := Nat.le_trans HBB.out HB.out.size
  by_cases h : x' < 128
  ·have hw8 : IntKind.u8.wrap (x' : Int) = (x' : Int) := by rw [IntKind.wrap_u8]; omega
   have HB1 := Lib.hid (by_one wr x' (by omega))
   have HO1 := Lib.hid (HO.out.keep ((Below.refl _ _).alloc (Nat.le_refl _) (.cells #[.int .u8 (x' : Int)] 5)))
   have hbs1 : B ≤ (wr.alloc (.cells #[.int .u8 (x' : Int)] 5)).heap.size := by simp; omega
   go_wp2_with (refine wpList_append_by rfl (.tmp 15) (.tmp 18) rfl B A' n' cap' l' rfl HO1.out (some ⟨wr.heap.size, 0, none⟩) 1 1 [x'] rfl rfl HB1.out (by have := HN.out; have := hub.out; have := hub'.out; omega) hbs1 ?_; intro A2 cap2 w2 ho2 hg2 hr2)
   have HF := Lib.hid ho2
   have HG := Lib.hid hg2
   have HR2 := Lib.hid hr2
   clear ho2 hg2 hr2
   go_ret
   exact ⟨A2, n' + 1, cap2, rfl, by rw [← HL.out, ub_lt h]; exact HF.out, kept_grown (HB.out.alloc _) HMI.out HG.out, mine_next HMI.out (HB.out.alloc _).size HR2.out⟩
  ·have h8 := or128 x'
   have HB1 := Lib.hid (by_one wr (x' % 128 + 128) (by omega))
   have HO1 := Lib.hid (HO.out.keep ((Below.refl _ _).alloc (Nat.le_refl _) (.cells #[.int .u8 ((x' % 128 + 128 : Nat) : Int)] 5)))
   have hbs1 : B ≤ (wr.alloc (.cells #[.int .u8 ((x' % 128 + 128 : Nat) : Int)] 5)).heap.size := by simp; omega
   obtain ⟨c, hc⟩ : ∃ c, c = x' % 128 + 128 := ⟨_, rfl⟩
   rw [← hc] at h8 HB1 HO1 hbs1
   have HC := Lib.hid hc
   clear hc
   go_wp2_with (refine wpList_append_by rfl (.tmp 7) (.tmp 11) rfl B A' n' cap' l' rfl HO1.out (some ⟨wr.heap.size, 0, none⟩) 1 1 [c] rfl rfl HB1.out (by have := HN.out; have := hub.out; have := hub'.out; omega) hbs1 ?_; intro A2 cap2 w2 ho2 hg2 hr2; have HF := Lib.hid ho2; have HG := Lib.hid hg2; have HR2 := Lib.hid hr2; clear ho2 hg2 hr2)
   go_roundw
   case rel => exact ⟨A2, n' + 1, cap2, l' ++ [c], x' / 128, rfl, by go_num, by omega, by have := HN.out; rw [ub_ge (by omega), List.length_cons] at this; omega, by rw [← HL.out, ub_ge (n := x') (by omega), List.append_assoc, HC.out]; rfl, HF.out, kept_grown (HB.out.alloc _) HMI.out HG.out, mine_next HMI.out (HB.out.alloc _).size HR2.out⟩
   case measure => simp [intOf]; omega
set_option maxHeartbeats 1000000 in
theorem putI_k (B : Nat) (A : Option Addr) (n cap : Nat) (l : List Nat) (x : Int) (hx : Hid (Wf64 x)) (w : World) (H : Hid (OwnS w B A n cap l)) (hn : n ≤ 1099511627776) (hB : B ≤ w.heap.size) :
  Calls Tryd.prog 39 #[.slice A n cap, .int .i64 x] w (PutK B w A (l ++ ub (zz x))) := by
 have hz := Lib.hid (zz_lt hx.out)
 obtain ⟨h1, h2⟩ := hx.out
 obtain ⟨z, hzz⟩ : ∃ z, z = zz x := ⟨_, rfl⟩
 rw [← hzz] at hz
 have HZ := Lib.hid hzz
 have hz2 := hz.out
 by_cases h : x < 0
 ·have hb := xor_zz_neg x hx.out h
  have hd : x / 9223372036854775808 = -1 := by omega
  have hw : IntKind.u64.wrap (-1) = 18446744073709551615 := rfl
  rw [← hzz] at hb
  clear hzz
  go_enter Tryd.func39, Tryd.ntmps39
  go_wp2_with (go_at_call 52; (refine (putU_k B A n cap l z hz.out _ H hn hB).mono ?_); rintro e w1 ⟨A1, n1, c1, rfl, h1, h2, h3⟩)
  go_ret
  exact ⟨A1, n1, c1, rfl, by rw [← HZ.out]; exact h1, h2, h3⟩
 ·have hb := xor_zz_pos x hx.out h
  have hd : x / 9223372036854775808 = 0 := by omega
  rw [← hzz] at hb
  clear hzz
  go_enter Tryd.func39, Tryd.ntmps39
  go_wp2_with (go_at_call 52; (refine (putU_k B A n cap l z hz.out _ H hn hB).mono ?_); rintro e w1 ⟨A1, n1, c1, rfl, h1, h2, h3⟩)
  go_ret
  exact ⟨A1, n1, c1, rfl, by rw [← HZ.out]; exact h1, h2, h3⟩
/-- An owned list of bytes lies in no row of another type. -/
theorem own_ne {w : World} {B n cap g : Nat} {A : Option Addr} {l : List Nat} {cs : Array Value} {t : TypeId} {fr : Nat × Nat} (h : OwnS w B A n cap l) (hg : w.heap[g]? = some (.cells cs t fr)) (ht : t ≠ 5) : ¬ MineK A g := fun hm => by
 rcases h.1.2 with ⟨e0, e1⟩ | ⟨g', cap', cur, e0, hb, hg', -⟩
 ·injection e0 with e0 _ _
  rw [e0] at hm; cases hm
 ·injection e0 with e0 _ _
  rw [e0] at hm
  have e : g' = g := by injection hm
  rw [e, hg] at hg'
  injection hg' with hg'
  injection hg' with _ h2 _
  exact ht h2
/-- All rows that are no bytes are kept, too. -/
structure KU (B : Nat) (w w' : World) : Prop where
 below : Below B w w'
 rows : ∀ (k : Nat) (cs : Array Value) (t : TypeId) (fr : Nat × Nat), w.heap[k]? = some (.cells cs t fr) → t ≠ 5 → w'.heap[k]? = some (.cells cs t fr)
theorem KU.refl (B : Nat) (w : World) : KU B w w := ⟨Below.refl _ _, fun _ _ _ _ h _ => h⟩
theorem KU.trans {B : Nat} {a b c : World} (h : KU B a b) (h' : KU B b c) : KU B a c := ⟨h.below.trans h'.below, fun k cs t fr hk ht => h'.rows k cs t fr (h.rows k cs t fr hk ht) ht⟩
theorem KU.of {B : Nat} {w w' : World} (hB : B ≤ w.heap.size) (h : Below w.heap.size w w') : KU B w w' := ⟨h.mono hB, fun k cs t fr hk _ => (h.block k (Array.getElem?_eq_some_iff.1 hk).1).trans hk⟩
theorem KU.kept {B n cap : Nat} {A : Option Addr} {l : List Nat} {w w' : World} (hB : B ≤ w.heap.size) (ho : OwnS w B A n cap l) (h : Kept (MineK A) w w') : KU B w w' :=
 ⟨kept_own h ho hB, fun k cs t fr hk ht => h.heap hk (own_ne ho hk ht)⟩
theorem KU.more {B B' : Nat} {w w' : World} (h : KU B w w') (hB : B' ≤ B) : KU B' w w' := ⟨h.below.mono hB, h.rows⟩
/-- What a call ends with that appends bytes: all rows that are no bytes are kept. -/
def PutU (B : Nat) (w : World) (l : List Nat) (e : Ending) (w' : World) : Prop := ∃ A' n cap, e = .returned (.slice A' n cap) ∧ OwnS w' B A' n cap l ∧ KU B w w'
theorem putU_u (B : Nat) (A : Option Addr) (n cap : Nat) (l : List Nat) (x : Nat) (hx : x < 18446744073709551616) (w : World) (H : Hid (OwnS w B A n cap l)) (hn : n ≤ 1099511627776) (hB : B ≤ w.heap.size) :
  Calls Tryd.prog 52 #[.slice A n cap, .int .u64 (x : Int)] w (PutU B w (l ++ ub x)) :=
 (putU_k B A n cap l x hx w H hn hB).mono fun e w' ⟨A', n', c', he, ho, hk, _⟩ => ⟨A', n', c', he, ho, KU.kept hB H.out hk⟩
theorem putI_u (B : Nat) (A : Option Addr) (n cap : Nat) (l : List Nat) (x : Int) (hx : Hid (Wf64 x)) (w : World) (H : Hid (OwnS w B A n cap l)) (hn : n ≤ 1099511627776) (hB : B ≤ w.heap.size) :
  Calls Tryd.prog 39 #[.slice A n cap, .int .i64 x] w (PutU B w (l ++ ub (zz x))) :=
 (putI_k B A n cap l x hx w H hn hB).mono fun e w' ⟨A', n', c', he, ho, hk, _⟩ => ⟨A', n', c', he, ho, KU.kept hB H.out hk⟩
theorem own_blockS (A : Option Addr) (n c : Nat) : (Value.slice A n c).ownBlock = A.map (·.block) := by cases A <;> rfl
set_option maxHeartbeats 2000000 in
theorem putT_u (B : Nat) (A : Option Addr) (n cap : Nat) (l s : List Nat) (hs : WfT s) (hl : s.length ≤ 1000000) (w : World) (H : Hid (OwnS w B A n cap l)) (hn : n ≤ 1099511627776) (hB : B ≤ w.heap.size) :
  Calls Tryd.prog 31 #[.slice A n cap, .string (strB s)] w (PutU B w (l ++ txL s)) := by
 obtain ⟨m, hm⟩ : ∃ m, m = s.length := ⟨_, rfl⟩
 have hsz : (strB s).size = m := by rw [strB_size, hm]
 have HSZ := Lib.hid hsz
 have hmw : IntKind.u64.wrap (m : Int) = (m : Int) := by rw [IntKind.wrap_u64]; omega
 have HU := Lib.hid (putU_u B A n cap l m (by omega) w H hn hB)
 have H10 : Hid ((ub m).length ≤ 10) := Lib.hid (ub10 (show m < 18446744073709551616 by omega))
 have HWS := Lib.hid hs
 have HM := Lib.hid hm
 have HLN : Hid (n = l.length) := Lib.hid H.out.len
 have hml : m ≤ 1000000 := by omega
 obtain ⟨i0, hi, hz0, hz1, hz2⟩ := info_parts infoU8
 have HI := Lib.hid (And.intro hi (And.intro hz0 (And.intro hz1 hz2)))
 clear hs hm hl hi hz0 hz1 hz2
 go_enter Tryd.func31, Tryd.ntmps31
 go_wp2_with (first
  | (go_at_call 52; (with_reducible refine (HU.out).mono ?_); rintro e w2 ⟨A2, n2, c2, rfl, ho2, hk2⟩; have HO2 := Lib.hid ho2; have HK2 := Lib.hid hk2; have hn2 := ho2.len; have HN2 := Lib.hid hn2; have hn10 : n2 ≤ n + 10 := (by have := H10.out; have := HLN.out; rw [hn2, List.length_append]; omega); have hB2 : B ≤ w2.heap.size := Nat.le_trans hB HK2.out.below.size; clear ho2 hk2 hn2)
  | (at_builtin; refine Go.Lib.wpList_append_own_string _ rfl (.tmp 9) (.tmp 10) 24 9 rfl B 5 i0 Tryd.underlying24 Tryd.underlying9 HI.out.1 HI.out.2.1 HI.out.2.2.1 HI.out.2.2.2 (.slice A2 n2 c2) n2 _ rfl HO2.out.1 (strB s) rfl (by rw [HSZ.out]; unfold maxLen; omega) (by rw [HSZ.out]; omega) hB2 ?_; intro v4 w4 ho4 hg4 hr4; rw [HSZ.out, strCells_by s HWS.out] at ho4; obtain ⟨A5, c5, hv4⟩ := ownStr ho4; subst hv4; have HO4 := Lib.hid ho4; have HG4 := Lib.hid hg4; clear ho4 hg4 hr4))
 have ho := HO4.out
 rw [show bys (l ++ ub m) ++ bys s = bys (l ++ txL s) by unfold txL bys; rw [← HM.out]; simp] at ho
 go_ret
 have HX4 : Hid (KU B w w4) := Lib.hid (HK2.out.trans (KU.kept hB2 HO2.out (by
  have h := HG4.out
  rw [own_blockS] at h
  exact ⟨h.os, h.tape, h.output, h.size, fun k hk hn => h.block k hk (fun e => hn e.symm)⟩)))
 refine ⟨A5, _, c5, rfl, ⟨ho, fun x hx => ?_⟩, HX4.out⟩
 rcases List.mem_append.1 hx with h | h
 ·exact H.out.2 x h
 ·unfold txL at h
  rcases List.mem_append.1 h with h2 | h2
  ·exact HO2.out.2 x (List.mem_append.2 (.inr (by rw [HM.out]; exact h2)))
  ·exact HWS.out x h2
end Go.Proofs.YtifabkbdiiolfaaDoor

namespace Go.Proofs.YtifabkbdiiolfaaDoor
open Go.RowKit Go.WideShapes Col
def numC (ns : List Nat) : List Value := ns.map fun (x : Nat) => Value.int .u64 (x : Int)
theorem numC_get (ns : List Nat) (k x : Nat) (h : ns[k]? = some x) : (numC ns).toArray[k]? = some (.int .u64 (x : Int)) := by
 unfold numC; simp [h]
def nsB (ns : List Nat) : List Nat := ns.flatMap ub
theorem nsB_snoc (ns : List Nat) (k x : Nat) (h : ns[k]? = some x) : nsB (ns.take (k + 1)) = nsB (ns.take k) ++ ub x := by
 unfold nsB; rw [List.take_add_one, h]; simp
theorem nsB_len {ns : List Nat} (h : ∀ x ∈ ns, x < 18446744073709551616) : (nsB ns).length ≤ 10 * ns.length := by
 induction ns with
 | nil => simp [nsB]
 | cons x r ih =>
  have h1 := ub10 (h x (by simp))
  have h2 := ih fun y hy => h y (by simp [hy])
  unfold nsB at *
  rw [List.flatMap_cons, List.length_append, List.length_cons]; omega
set_option maxHeartbeats 2000000 in
theorem layNums_any (B : Nat) (A : Option Addr) (n cap : Nat) (l : List Nat) (g m : Nat) (ns : List Nat) (hm : Hid (m = ns.length)) (hm9 : m ≤ 100) (hns : Hid (∀ x ∈ ns, x < 18446744073709551616)) (W : World) (H : Hid (OwnS W B A n cap l)) (hn : n ≤ 900000000) (hB : B ≤ W.heap.size)
  (HR : Hid (W.heap[g]? = some (.cells (numC ns).toArray 31 (0, 0)))) :
  Calls Tryd.prog 38 #[.slice A n cap, .slice (some ⟨g, 0, none⟩) m m] W (PutU B W (l ++ nsB ns)) := by
 have HLN := Lib.hid H.out.len
 have HBB := Lib.hid hB
 go_enter Tryd.func38, Tryd.ntmps38
 go_wp2
 go_loopw [0, 9] (fun p i wr => ∃ k : Nat, k ≤ m ∧ i = .int .i64 (k : Int) ∧ ∃ A' n' cap', p = .slice A' n' cap' ∧ Hid (OwnS wr B A' n' cap' (l ++ nsB (ns.take k))) ∧ Hid (KU B W wr)) (fun _ i _ => m - (intOf i).toNat)
 case atStart => exact ⟨0, by omega, rfl, A, n, cap, rfl, Lib.hid (by rw [show nsB (ns.take 0) = [] from rfl, List.append_nil]; exact H.out), KU.refl _ _⟩
 case round =>
  obtain ⟨k, hk, rfl, A', n', cap', rfl, HO, HK⟩ := hrel
  by_cases hlt : k < m
  ·obtain ⟨x, hx⟩ : ∃ x, ns[k]? = some x := ⟨ns[k]'(by have := hm.out; omega), List.getElem?_eq_getElem _⟩
   have hx64 := hns.out x (List.mem_of_getElem? hx)
   have hrow := HK.out.rows _ _ _ _ HR.out (by decide)
   have hcx : wr.cell? ⟨g, k, none⟩ = some (.int .u64 (x : Int)) := by rw [cell_of_row _ _ _ _ _ _ hrow]; exact numC_get ns k x hx
   have HSN := Lib.hid (nsB_snoc ns k x hx)
   have hn' : n' ≤ 1099511627776 := by
    have h1 := HO.out.len
    have h2 := nsB_len (ns := ns.take k) (fun y hy => hns.out y (List.mem_of_mem_take hy))
    have h3 := HLN.out
    rw [List.length_append] at h1
    have h4 : (ns.take k).length ≤ k := by rw [List.length_take]; omega
    omega
   have hBw : B ≤ wr.heap.size := Nat.le_trans HBB.out HK.out.below.size
   have hkm : (k : Int) < (m : Int) := by omega
   clear hx hrow
   go_wp2_with (go_at_call 52; (with_reducible refine (putU_u B A' n' cap' _ x hx64 _ HO hn' hBw).mono ?_); rintro e w2 ⟨A2, n2, c2, rfl, ho, hk2⟩; have HO2 := Lib.hid ho; have HK2 := Lib.hid hk2; clear ho hk2)
   have HO3 : Hid (OwnS w2 B A2 n2 c2 (l ++ nsB (ns.take (k + 1)))) := Lib.hid (by rw [HSN.out, ← List.append_assoc]; exact HO2.out)
   have HK3 : Hid (KU B W w2) := Lib.hid (HK.out.trans HK2.out)
   go_roundw
   case rel => exact ⟨k + 1, by omega, by go_num, A2, n2, c2, rfl, HO3, HK3⟩
   case measure => simp [intOf]; omega
  ·obtain rfl : k = m := by omega
   have HO3 : Hid (OwnS wr B A' n' cap' (l ++ nsB ns)) := Lib.hid (by have := HO.out; rwa [List.take_of_length_le (by have := hm.out; omega)] at this)
   go_wp2
   go_ret
   exact ⟨A', n', cap', rfl, HO3.out, HK.out⟩
end Go.Proofs.YtifabkbdiiolfaaDoor
