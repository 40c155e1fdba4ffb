/-
  Layer column: Try itself.
-/
import Derived.LaidEqlPtr
import Derived.Defers
import Derived.Test.YtifabkbdiiolfaaDoorCuK
set_option linter.unusedSimpArgs false
set_option linter.unusedVariables false
set_option maxRecDepth 8000
namespace Go.Proofs.YtifabkbdiiolfaaDoor
open Go.RowKit Go.WideShapes Col
theorem assert_gu (v : Value) (w : World) : (Instr.typeAssert (.iface 100 v) 20 100 true).run Tryd.prog w = .ok (.tuple #[v, .bool true]) w := by kernel_rfl
theorem infoRd : (Tryd.prog.info? 83).isSome = true := by kernel_rfl
theorem eql_ptr (g : Nat) (w : World) : (binOp BinOp.eql 81 (.pointer (some ⟨g, 0, none⟩)) (.pointer (some ⟨g, 0, none⟩))).run Tryd.prog w = .ok (.bool true) w := by
 obtain ⟨j, hj⟩ := Option.isSome_iff_exists.1 infoRd
 exact run_eql_ptr_same w _ Tryd.underlying81 hj
set_option maxHeartbeats 1000000 in
theorem threw_yes (g : Nat) (w : World) :
  Calls Tryd.prog 47 #[.pointer (some ⟨g, 0, none⟩), .iface 100 (.agg #[.pointer (some ⟨g, 0, none⟩)])] w fun e w' => e = .returned (.bool true) ∧ Below w.heap.size w w' := by
 have ha := assert_gu (.agg #[.pointer (some ⟨g, 0, none⟩)])
 have hp := eql_ptr g
 go_enter Tryd.func47, Tryd.ntmps47
 go_wp2
 go_ret
 exact ⟨rfl, (Below.refl _ _).alloc (Nat.le_refl _) _⟩
theorem try1_tmps (x : Value) : (#[x] ++ Array.replicate (Tryd.f46.ntmps - (#[x] : Array Value).size) undef) = #[x, undef, undef, undef, undef, undef, undef, undef, undef, undef, undef, undef, undef, undef, undef] := by
 rw [Tryd.ntmps46]; rfl
theorem Gone.cells {w : World} {g : Nat} (h : Gone w g) : ∃ x y z, w.cell? ⟨g, 0, none⟩ = some x ∧ w.cell? ⟨g, 1, none⟩ = some (.bool y) ∧ w.cell? ⟨g, 2, none⟩ = some (.bool z) ∧ w.frozen? ⟨g, 0, none⟩ = false ∧ w.frozen? ⟨g, 1, none⟩ = false ∧ w.frozen? ⟨g, 2, none⟩ = false := by
 obtain ⟨x, y, z, hrow⟩ := h
 exact ⟨x, y, z, by rw [cell_of_row _ _ _ _ _ _ hrow]; rfl, by rw [cell_of_row _ _ _ _ _ _ hrow]; rfl, by rw [cell_of_row _ _ _ _ _ _ hrow]; rfl, row_frozen hrow 0, row_frozen hrow 1, row_frozen hrow 2⟩
theorem kept_wipe (w : World) (g : Nat) (a b c : Value) : Kept (Only g) w (((w.setCell ⟨g, 0, none⟩ a).setCell ⟨g, 1, none⟩ b).setCell ⟨g, 2, none⟩ c) :=
 (((Kept.refl (Only g) w).setCell ⟨g, 0, none⟩ a (.inl rfl)).setCell ⟨g, 1, none⟩ b (.inl rfl)).setCell ⟨g, 2, none⟩ c (.inl rfl)
/-- The deferred closure, where the reader gave up: what was thrown is caught. -/
theorem try1_panicking (v g : Nat) (older : List PanicEntry) (w : World) (hv : w.cell? ⟨v, 0, none⟩ = some (.pointer (some ⟨g, 0, none⟩))) (hG : Hid (Gone w g)) (hvg : v ≠ g) (hlt : v < w.heap.size) :
  CallsD Tryd.prog 46 #[.pointer (some ⟨v, 0, none⟩)] (.panicking (gu g :: older)) w fun e u' w' =>
   e = .returned (.tuple #[]) ∧ u' = .panicking ({ v := .iface 100 (.agg #[.pointer (some ⟨g, 0, none⟩)]), recovered := true } :: older) ∧ Kept (Only g) w w' := by
 obtain ⟨x, y, z, c0, c1, c2, f0, f1, f2⟩ := hG.out.cells
 refine callsD_of_wpS Tryd.func46 rfl fun c₀ cs hu => ?_
 rw [try1_tmps]
 apply wpS_seq
 refine wpS_of_wp ?_
 go_wp2
 simp only [Exit.thenS]
 have hk := kept_wipe w g (.slice none 0 0) (.bool false) (.bool false)
 have hv2 := (hk.cell (p := ⟨v, 0, none⟩) hlt hvg).trans hv
 have HK := Lib.hid hk
 clear hk
 generalize ((w.setCell ⟨g, 0, none⟩ (.slice none 0 0)).setCell ⟨g, 1, none⟩ (.bool false)).setCell ⟨g, 2, none⟩ (.bool false) = w2 at *
 clear c0 c1 c2 f0 f1 f2 hv
 apply wpS_seq
 apply wpS_region
 simp [wpOpsS, go_sem, recoverD, hu, gu, Exit.thenS]
 refine wpS_of_wp ?_
 go_wp2_with (go_at_call 47; refine (threw_yes g _).mono ?_; rintro e w3 ⟨rfl, hb⟩)
 exact ⟨rfl, _, rfl, _, results_none rfl _ _ _, rfl, rfl, HK.out.trans (Kept.of_below hb)⟩
/-- Where all went well it only forgets. -/
theorem try1_returning (v g : Nat) (w : World) (hv : w.cell? ⟨v, 0, none⟩ = some (.pointer (some ⟨g, 0, none⟩))) (hG : Hid (Gone w g)) (hvg : v ≠ g) (hlt : v < w.heap.size) :
  CallsD Tryd.prog 46 #[.pointer (some ⟨v, 0, none⟩)] .returning w fun e u' w' => e = .returned (.tuple #[]) ∧ u' = .returning ∧ Kept (Only g) w w' := by
 obtain ⟨x, y, z, c0, c1, c2, f0, f1, f2⟩ := hG.out.cells
 refine callsD_of_wpS Tryd.func46 rfl fun c₀ cs hu => ?_
 rw [try1_tmps]
 apply wpS_seq
 refine wpS_of_wp ?_
 go_wp2
 simp only [Exit.thenS]
 have hk := kept_wipe w g (.slice none 0 0) (.bool false) (.bool false)
 have HK := Lib.hid hk
 clear hk
 generalize ((w.setCell ⟨g, 0, none⟩ (.slice none 0 0)).setCell ⟨g, 1, none⟩ (.bool false)).setCell ⟨g, 2, none⟩ (.bool false) = w2 at *
 clear c0 c1 c2 f0 f1 f2 hv
 apply wpS_seq
 apply wpS_region
 simp [wpOpsS, go_sem, recoverD, hu, gu, Exit.thenS]
 refine wpS_of_wp ?_
 go_wp2
 exact ⟨rfl, .returning, by rw [← hu], _, results_none rfl _ _ _, rfl, rfl, HK.out⟩
end Go.Proofs.YtifabkbdiiolfaaDoor

namespace Go.Proofs.YtifabkbdiiolfaaDoor
open Go.RowKit Go.WideShapes Col
/-- How a function ends that Try calls. -/
def Tried (g : Nat) (S : Nat → Prop) (R : Bool → World → Prop) (w1 : World) (e : Ending) (w2 : World) : Prop :=
 Kept (fun k => S k ∨ k = g) w1 w2 ∧ ((∃ q', e = .returned (.tuple #[]) ∧ Rd w2 g q' ∧ R (decide (q' = [])) w2) ∨ (e = .panicked [gu g] ∧ Gone w2 g ∧ R false w2))
/-- How Try ends. -/
def TryEnds (S : Nat → Prop) (R : Bool → World → Prop) (w : World) (e : Ending) (w' : World) : Prop := ∃ b, e = .returned (.bool b) ∧ R b w' ∧ Kept S w w'
set_option maxHeartbeats 1000000 in
theorem try_any (F : Nat) (first cap : Array Value) (A : Option Addr) (C : Nat) (q : List Nat) (n : Nat) (hn : Hid (n = q.length)) (hC : n ≤ C) (hC' : C ≤ maxLen) (w : World) (HA : Hid (ByAt w A q)) (S : Nat → Prop) (hS : ∀ k, S k → k < w.heap.size) (R : Nat → Bool → World → Prop) (R' : Bool → World → Prop)
  (hR : ∀ g b w2 w3, w.heap.size ≤ g → R g b w2 → Kept (Only g) w2 w3 → R' b w3)
  (hf : ∀ g w1, w.heap.size ≤ g → Rd w1 g q → Below w.heap.size w w1 → Calls Tryd.prog F (first.push (.pointer (some ⟨g, 0, none⟩)) ++ cap) w1 (Tried g S (R g) w1))
  (hent : ∀ (args : Array Value) (w : World), (callFunc F args).run Tryd.prog w = .ok (.enter F args) w) :
  Calls Tryd.prog 25 #[.slice A n C, .func (.func F) first cap] w (TryEnds S R' w) := by
 have hmf : ∀ (fn : Fn) (first cap : Array Value) (w : World), (Instr.makeFunc fn first cap).run Tryd.prog w = .ok (.func fn first cap) w := fun _ _ _ _ => rfl
 have hnil : ∀ w : World, (binOp BinOp.eql 64 (.func (.func F) first cap) .nilFunc).run Tryd.prog w = .ok (.bool false) w := fun _ => by kernel_rfl
 have HS := Lib.hid hS
 have HR := Lib.hid hR
 have HF := Lib.hid hf
 clear hS hR hf
 obtain ⟨W2, hW2⟩ : ∃ W2, W2 = (w.alloc (.cells #[.slice A n C, .bool true, .bool false] 83)).alloc (.cells #[.pointer (some ⟨w.heap.size, 0, none⟩)] 81) := ⟨_, rfl⟩
 have hbl : Below w.heap.size w W2 := by
  rw [hW2]; exact ((Below.refl _ _).alloc (Nat.le_refl _) _).alloc (by simp) _
 have hrow : W2.heap[w.heap.size]? = some (.cells #[.slice A n C, .bool true, .bool false] 83 (0, 0)) := by
  rw [hW2]; exact heap_alloc2_old w _ _
 have hrd : Rd W2 w.heap.size q := ⟨A, C, by rw [← hn.out]; exact hrow, by rw [← hn.out]; exact hC, hC', HA.out.keep hbl, fun a ha h0 => by
  obtain ⟨b, off, e, hb, -⟩ := HA.out.spot h0
  rw [e] at ha; injection ha with ha; subst ha; exact hb⟩
 have hv : W2.cell? ⟨w.heap.size + 1, 0, none⟩ = some (.pointer (some ⟨w.heap.size, 0, none⟩)) := by
  rw [hW2]; have h := heap_alloc2_new w (.cells #[.slice A n C, .bool true, .bool false] 83) (.cells #[.pointer (some ⟨w.heap.size, 0, none⟩)] 81)
  rw [cell_of_row _ _ _ _ _ _ h]; rfl
 have hsz : w.heap.size + 1 < W2.heap.size := by rw [hW2]; simp
 have HW := Lib.hid hW2
 have HBL := Lib.hid hbl
 have HRD := Lib.hid hrd
 have HV := Lib.hid hv
 have HSZ := Lib.hid hsz
 clear hrow hbl hrd hv hsz hW2
 go_enter_defers Tryd.func25, Tryd.ntmps25
 go_wp2_with fail
 rw [← HW.out]
 refine (HF.out w.heap.size _ (Nat.le_refl _) HRD.out HBL.out).mono ?_
 have hvg : w.heap.size + 1 ≠ w.heap.size := by omega
 have fin : ∀ (w3 w4 : World) (b : Bool), Kept (fun k => S k ∨ k = w.heap.size) W2 w3 → Kept (Only w.heap.size) w3 w4 → R w.heap.size b w3 → TryEnds S R' w (.returned (.bool b)) w4 := fun w3 w4 b h1 h2 hr =>
  ⟨b, rfl, HR.out w.heap.size b w3 w4 (Nat.le_refl _) hr h2,
   ((Kept.of_below HBL.out).trans' h1 (fun i hi => by
    rcases hi with h | h
    ·exact .inl h
    ·exact .inr (by subst h; exact Nat.le_refl _))).trans' h2 (fun i hi => .inr (by have hi : i = w.heap.size := hi; subst hi; exact Nat.le_refl _))⟩
 have FIN := Lib.hid fin
 clear fin
 have keepv : ∀ (w3 : World), Kept (fun k => S k ∨ k = w.heap.size) W2 w3 → w3.cell? ⟨w.heap.size + 1, 0, none⟩ = some (.pointer (some ⟨w.heap.size, 0, none⟩)) ∧ w.heap.size + 1 < w3.heap.size := fun w3 h1 =>
  ⟨(h1.cell (p := ⟨w.heap.size + 1, 0, none⟩) HSZ.out (by
   rintro (h | h)
   ·have h2 := HS.out _ h
    have h2 : w.heap.size + 1 < w.heap.size := h2
    omega
   ·exact hvg h)).trans HV.out, Nat.lt_of_lt_of_le HSZ.out h1.size⟩
 have KV := Lib.hid keepv
 clear keepv
 rintro e w3 ⟨hk, ⟨q', rfl, hrd, hr⟩ | ⟨rfl, hg, hr⟩⟩
 ·obtain ⟨hv3, hz3⟩ := KV.out _ hk
  obtain ⟨A', C', hA⟩ := hrd
  have HK := Lib.hid hk
  have HRR := Lib.hid hr
  have HAA := Lib.hid hA
  have c0 := hA.c0
  have c2 := hA.c2
  have HG := Lib.hid hA.gone
  clear hk hr hA
  obtain ⟨N, hN⟩ : ∃ N, N = q'.length := ⟨_, rfl⟩
  rw [← hN] at c0
  have HN := Lib.hid hN
  clear hN
  by_cases hz : N = 0
  ·subst hz
   have hq : q' = [] := List.eq_nil_of_length_eq_zero HN.out.symm
   subst hq
   have HRT : Hid (R w.heap.size true w3) := Lib.hid (by have := HRR.out; simpa using this)
   clear HRR
   go_wp2
   refine leaves_cons (f := 46) (args := #[.pointer (some ⟨w.heap.size + 1, 0, none⟩)]) (by simp) (by simp [go_sem]) ?_
   refine (try1_returning _ _ _ hv3 HG hvg hz3).mono ?_
   rintro e u' w4 ⟨rfl, rfl, hk4⟩
   refine ⟨_, results_tmp (t := 4) rfl _ _ _, ?_⟩
   exact FIN.out _ _ _ HK.out hk4 HRT.out
  ·have hz2 : ((N : Int) == 0) = false := by rw [beq_eq_false_iff_ne]; omega
   have HZ := Lib.hid hz
   have hq : decide (q' = []) = false := by
    rw [decide_eq_false_iff_not]; intro h
    have := HN.out; rw [h] at this; exact HZ.out this
   rw [hq] at HRR
   clear hz hq
   go_wp2
   refine leaves_cons (f := 46) (args := #[.pointer (some ⟨w.heap.size + 1, 0, none⟩)]) (by simp) (by simp [go_sem]) ?_
   refine (try1_returning _ _ _ hv3 HG hvg hz3).mono ?_
   rintro e u' w4 ⟨rfl, rfl, hk4⟩
   refine ⟨_, results_tmp (t := 4) rfl _ _ _, ?_⟩
   exact FIN.out _ _ _ HK.out hk4 HRR.out
 ·obtain ⟨hv3, hz3⟩ := KV.out _ hk
  have HK := Lib.hid hk
  have HRR := Lib.hid hr
  have HG := Lib.hid hg
  clear hk hr hg
  go_wp2
  refine leaves_cons (f := 46) (args := #[.pointer (some ⟨w.heap.size + 1, 0, none⟩)]) (by simp) (by simp [go_sem]) ?_
  refine (try1_panicking _ _ [] _ hv3 HG hvg hz3).mono ?_
  rintro e u' w4 ⟨rfl, rfl, hk4⟩
  simp [Leaves, settle, results, Tryd.results25, go_sem]
  exact FIN.out _ _ _ HK.out hk4 HRR.out
end Go.Proofs.YtifabkbdiiolfaaDoor
