/-
  Layer event: readColumn of any bytes.
-/
import Derived.Test.YtifabkbdiiolfaaGreatDoorYoK
import Derived.Test.YtifabkbdiiolfaaGreatDoorScK
import Derived.Test.YtifabkbdiiolfaaGreatDoorCoK
set_option linter.unusedSimpArgs false
set_option linter.unusedVariables false
set_option maxRecDepth 8000
namespace Go.Proofs.YtifabkbdiiolfaaGreatDoor
open Go.RowKit Go.Sort Go.WideShapes Col
/-- A column of any bytes, and what is left. -/
def rcA {α : Type} (rd : List Nat → Option α) (q : List Nat) : Option (α × List Nat) := (tP 1048576 q).bind fun p => (rd p.1).map fun l => (l, p.2)
def ColA {α : Type} (P : α → Option Addr → Nat → Nat → World → Prop) (g : Nat) (o : Option (α × List Nat)) (w : World) (e : Ending) (w' : World) : Prop := match o with
 | some p => ∃ A n c, e = .returned (.slice A n c) ∧ P p.1 A n c w' ∧ Rd w' g p.2 ∧ Kept (Only g) w w'
 | none => e = .panicked [gu g] ∧ Gone w' g ∧ Kept (Only g) w w'
/-- How a list's reading ends. -/
def RdA2 {α : Type} (P : α → Option Addr → Nat → Nat → World → Prop) (o : Option α) (w : World) (e : Ending) (w' : World) : Prop :=
 (match o with
 | some l => ∃ A' n' c', e = .returned (.tuple #[.slice A' n' c', .int .i64 0]) ∧ P l A' n' c' w'
 | none => e = .returned (.tuple #[.slice none 0 0, .int .i64 3])) ∧ Below w.heap.size w w'
theorem tP_sub {most : Nat} {q D r : List Nat} (h : tP most q = some (D, r)) : D.length ≤ q.length ∧ r.length ≤ q.length ∧ (∀ x ∈ D, x ∈ q) ∧ (∀ x ∈ r, x ∈ q) := by
 obtain ⟨n, q', h1, h2, h3, h4⟩ := tP_some h
 obtain ⟨-, -, m, -, hm, -⟩ := grp_lt _ _ _ _ (uP_some h1).1
 subst hm
 subst h3; subst h4
 refine ⟨?_, ?_, fun x hx => List.mem_of_mem_drop (List.mem_of_mem_take hx), fun x hx => List.mem_of_mem_drop (List.mem_of_mem_drop hx)⟩
 ·rw [List.length_take, List.length_drop]; omega
 ·rw [List.length_drop, List.length_drop]; omega
theorem Rd.wfY {w : World} {g : Nat} {q : List Nat} (h : Rd w g q) : ∀ x ∈ q, x < 256 := by
 obtain ⟨A, C, h⟩ := h
 exact h.bytes.lt
set_option maxHeartbeats 4000000 in
theorem rcolA_int64 {α : Type} (rd : List Nat → Option α) (P : α → Option Addr → Nat → Nat → World → Prop) (HRD : Hid (∀ A C D w, WfT D → D.length ≤ 1000000 → D.length ≤ C → C ≤ maxLen → ByAt w A D → Calls Tryz.prog 136 #[.slice A D.length C] w (RdA2 P (rd D) w)))
  (g : Nat) (q : List Nat) (hql : q.length ≤ 1000000) (w : World) (H : Hid (Rd w g q)) :
  Calls Tryz.prog 135 #[.pointer (some ⟨g, 0, none⟩), .func (.func 136) #[] #[]] w (ColA P g (rcA rd q) w) := by
 have hent : ∀ (args : Array Value) (w : World), (callFunc 136 args).run Tryz.prog w = .ok (.enter 136 args) w := fun _ _ => by first | rfl | kernel_rfl
 rcases ht : tP 1048576 q with _ | ⟨D, r⟩
 ·have HO : Hid (rcA rd q = none) := Lib.hid (by unfold rcA; rw [ht]; rfl)
  have HN := Lib.hid (text_no g 1048576 (by decide) q (Lib.hid ht) q.length (Lib.hid rfl) (by omega) w H)
  rw [HO.out]
  clear ht
  go_enter Tryz.func135, Tryz.ntmps135
  go_wp2_with (go_at_call 109; refine (HN.out).mono ?_; rintro e w1 ⟨rfl, h1, h2⟩)
  exact ⟨rfl, rfl, h1, h2⟩
 ·obtain ⟨hDl, hrl, hDs, hrs⟩ := tP_sub ht
  have hD : WfT D := fun x hx => H.out.wfY x (hDs x hx)
  have HTX := Lib.hid (text_yes g 1048576 (by decide) q D r (Lib.hid ht) (by omega) w H)
  obtain ⟨n, hn⟩ : ∃ n, n = D.length := ⟨_, rfl⟩
  have HCV := Lib.hid fun (w : World) => conv_sbY D hD (by omega) n hn w
  have HR2 := Lib.hid fun (A : Option Addr) (C : Nat) (w : World) (h1 : n ≤ C) (h2 : C ≤ maxLen) (h3 : ByAt w A D) => HRD.out A C D w hD (by omega) (by omega) h2 h3
  rw [← hn] at HR2
  rcases hr : rd D with _ | l
  ·have HO : Hid (rcA rd q = none) := Lib.hid (by unfold rcA; rw [ht]; simp [hr])
   rw [hr] at HR2
   have HR3 : Hid (∀ A C w, n ≤ C → C ≤ maxLen → ByAt w A D → Calls Tryz.prog 136 #[.slice A n C] w fun e w' => e = .returned (.tuple #[.slice none 0 0, .int .i64 3]) ∧ Below w.heap.size w w') := HR2
   rw [HO.out]
   clear ht hr hn hD hDl hrl hDs hrs HR2 HRD
   go_enter Tryz.func135, Tryz.ntmps135
   go_wp2_with (first
    | (go_at_call 109; refine (HTX.out).mono ?_; rintro e w1 hy; obtain ⟨rfl, HR1, HK1⟩ := Yes.rd hy; clear hy; obtain ⟨w2, C2, hcv, hby, hb2, hC2, hM2⟩ := HCV.out w1; have HBY := Lib.hid hby; have HB2 := Lib.hid hb2; clear hby hb2)
    | (refine (HR3.out _ C2 _ hC2 hM2 HBY.out).mono ?_; rintro e w3 ⟨rfl, hb3⟩; have HB3 := Lib.hid (below_to HB2.out hb3); have hRd := HR1.out.highY (S := fun _ => False) (Kept.of_below HB3.out) (fun _ h => h.elim); obtain ⟨A9, C9, hRA⟩ := hRd; have HRA := Lib.hid hRA; clear hcv hb3 hRA)
    | (go_at_call 80; (with_reducible refine (check_false g C9 A9 r _ HRA).mono ?_); rintro e w9 ⟨rfl, h1, h2⟩))
   exact ⟨rfl, rfl, h1, (HK1.out.trans (Kept.of_below HB3.out)).trans h2⟩
  ·have HO : Hid (rcA rd q = some (l, r)) := Lib.hid (by unfold rcA; rw [ht]; simp [hr])
   rw [hr] at HR2
   have HR3 : Hid (∀ A C w, n ≤ C → C ≤ maxLen → ByAt w A D → Calls Tryz.prog 136 #[.slice A n C] w fun e w' => (∃ A' n' c', e = .returned (.tuple #[.slice A' n' c', .int .i64 0]) ∧ P l A' n' c' w') ∧ Below w.heap.size w w') := HR2
   rw [HO.out]
   clear ht hr hn hD hDl hrl hDs hrs HR2 HRD
   go_enter Tryz.func135, Tryz.ntmps135
   go_wp2_with (first
    | (go_at_call 109; refine (HTX.out).mono ?_; rintro e w1 hy; obtain ⟨rfl, HR1, HK1⟩ := Yes.rd hy; clear hy; obtain ⟨w2, C2, hcv, hby, hb2, hC2, hM2⟩ := HCV.out w1; have HBY := Lib.hid hby; have HB2 := Lib.hid hb2; clear hby hb2)
    | (refine (HR3.out _ C2 _ hC2 hM2 HBY.out).mono ?_; rintro e w3 ⟨⟨A3, n3, c3, rfl, hp⟩, hb3⟩; have HP := Lib.hid hp; have HB3 := Lib.hid (below_to HB2.out hb3); clear hcv hp hb3)
    | (go_at_call 80; (with_reducible refine (check_true _ _).mono ?_); rintro e w9 ⟨rfl, rfl⟩))
   go_ret
   exact ⟨A3, n3, c3, rfl, HP.out, HR1.out.highY (S := fun _ => False) (Kept.of_below HB3.out) (fun _ h => h.elim), HK1.out.trans (Kept.of_below HB3.out)⟩
set_option maxHeartbeats 4000000 in
theorem rcolA_string {α : Type} (rd : List Nat → Option α) (P : α → Option Addr → Nat → Nat → World → Prop) (HRD : Hid (∀ A C D w, WfT D → D.length ≤ 1000000 → D.length ≤ C → C ≤ maxLen → ByAt w A D → Calls Tryz.prog 138 #[.slice A D.length C] w (RdA2 P (rd D) w)))
  (g : Nat) (q : List Nat) (hql : q.length ≤ 1000000) (w : World) (H : Hid (Rd w g q)) :
  Calls Tryz.prog 137 #[.pointer (some ⟨g, 0, none⟩), .func (.func 138) #[] #[]] w (ColA P g (rcA rd q) w) := by
 have hent : ∀ (args : Array Value) (w : World), (callFunc 138 args).run Tryz.prog w = .ok (.enter 138 args) w := fun _ _ => by first | rfl | kernel_rfl
 rcases ht : tP 1048576 q with _ | ⟨D, r⟩
 ·have HO : Hid (rcA rd q = none) := Lib.hid (by unfold rcA; rw [ht]; rfl)
  have HN := Lib.hid (text_no g 1048576 (by decide) q (Lib.hid ht) q.length (Lib.hid rfl) (by omega) w H)
  rw [HO.out]
  clear ht
  go_enter Tryz.func137, Tryz.ntmps137
  go_wp2_with (go_at_call 109; refine (HN.out).mono ?_; rintro e w1 ⟨rfl, h1, h2⟩)
  exact ⟨rfl, rfl, h1, h2⟩
 ·obtain ⟨hDl, hrl, hDs, hrs⟩ := tP_sub ht
  have hD : WfT D := fun x hx => H.out.wfY x (hDs x hx)
  have HTX := Lib.hid (text_yes g 1048576 (by decide) q D r (Lib.hid ht) (by omega) w H)
  obtain ⟨n, hn⟩ : ∃ n, n = D.length := ⟨_, rfl⟩
  have HCV := Lib.hid fun (w : World) => conv_sbY D hD (by omega) n hn w
  have HR2 := Lib.hid fun (A : Option Addr) (C : Nat) (w : World) (h1 : n ≤ C) (h2 : C ≤ maxLen) (h3 : ByAt w A D) => HRD.out A C D w hD (by omega) (by omega) h2 h3
  rw [← hn] at HR2
  rcases hr : rd D with _ | l
  ·have HO : Hid (rcA rd q = none) := Lib.hid (by unfold rcA; rw [ht]; simp [hr])
   rw [hr] at HR2
   have HR3 : Hid (∀ A C w, n ≤ C → C ≤ maxLen → ByAt w A D → Calls Tryz.prog 138 #[.slice A n C] w fun e w' => e = .returned (.tuple #[.slice none 0 0, .int .i64 3]) ∧ Below w.heap.size w w') := HR2
   rw [HO.out]
   clear ht hr hn hD hDl hrl hDs hrs HR2 HRD
   go_enter Tryz.func137, Tryz.ntmps137
   go_wp2_with (first
    | (go_at_call 109; refine (HTX.out).mono ?_; rintro e w1 hy; obtain ⟨rfl, HR1, HK1⟩ := Yes.rd hy; clear hy; obtain ⟨w2, C2, hcv, hby, hb2, hC2, hM2⟩ := HCV.out w1; have HBY := Lib.hid hby; have HB2 := Lib.hid hb2; clear hby hb2)
    | (refine (HR3.out _ C2 _ hC2 hM2 HBY.out).mono ?_; rintro e w3 ⟨rfl, hb3⟩; have HB3 := Lib.hid (below_to HB2.out hb3); have hRd := HR1.out.highY (S := fun _ => False) (Kept.of_below HB3.out) (fun _ h => h.elim); obtain ⟨A9, C9, hRA⟩ := hRd; have HRA := Lib.hid hRA; clear hcv hb3 hRA)
    | (go_at_call 80; (with_reducible refine (check_false g C9 A9 r _ HRA).mono ?_); rintro e w9 ⟨rfl, h1, h2⟩))
   exact ⟨rfl, rfl, h1, (HK1.out.trans (Kept.of_below HB3.out)).trans h2⟩
  ·have HO : Hid (rcA rd q = some (l, r)) := Lib.hid (by unfold rcA; rw [ht]; simp [hr])
   rw [hr] at HR2
   have HR3 : Hid (∀ A C w, n ≤ C → C ≤ maxLen → ByAt w A D → Calls Tryz.prog 138 #[.slice A n C] w fun e w' => (∃ A' n' c', e = .returned (.tuple #[.slice A' n' c', .int .i64 0]) ∧ P l A' n' c' w') ∧ Below w.heap.size w w') := HR2
   rw [HO.out]
   clear ht hr hn hD hDl hrl hDs hrs HR2 HRD
   go_enter Tryz.func137, Tryz.ntmps137
   go_wp2_with (first
    | (go_at_call 109; refine (HTX.out).mono ?_; rintro e w1 hy; obtain ⟨rfl, HR1, HK1⟩ := Yes.rd hy; clear hy; obtain ⟨w2, C2, hcv, hby, hb2, hC2, hM2⟩ := HCV.out w1; have HBY := Lib.hid hby; have HB2 := Lib.hid hb2; clear hby hb2)
    | (refine (HR3.out _ C2 _ hC2 hM2 HBY.out).mono ?_; rintro e w3 ⟨⟨A3, n3, c3, rfl, hp⟩, hb3⟩; have HP := Lib.hid hp; have HB3 := Lib.hid (below_to HB2.out hb3); clear hcv hp hb3)
    | (go_at_call 80; (with_reducible refine (check_true _ _).mono ?_); rintro e w9 ⟨rfl, rfl⟩))
   go_ret
   exact ⟨A3, n3, c3, rfl, HP.out, HR1.out.highY (S := fun _ => False) (Kept.of_below HB3.out) (fun _ h => h.elim), HK1.out.trans (Kept.of_below HB3.out)⟩
set_option maxHeartbeats 4000000 in
theorem rcolA_float64 {α : Type} (rd : List Nat → Option α) (P : α → Option Addr → Nat → Nat → World → Prop) (HRD : Hid (∀ A C D w, WfT D → D.length ≤ 1000000 → D.length ≤ C → C ≤ maxLen → ByAt w A D → Calls Tryz.prog 140 #[.slice A D.length C] w (RdA2 P (rd D) w)))
  (g : Nat) (q : List Nat) (hql : q.length ≤ 1000000) (w : World) (H : Hid (Rd w g q)) :
  Calls Tryz.prog 139 #[.pointer (some ⟨g, 0, none⟩), .func (.func 140) #[] #[]] w (ColA P g (rcA rd q) w) := by
 have hent : ∀ (args : Array Value) (w : World), (callFunc 140 args).run Tryz.prog w = .ok (.enter 140 args) w := fun _ _ => by first | rfl | kernel_rfl
 rcases ht : tP 1048576 q with _ | ⟨D, r⟩
 ·have HO : Hid (rcA rd q = none) := Lib.hid (by unfold rcA; rw [ht]; rfl)
  have HN := Lib.hid (text_no g 1048576 (by decide) q (Lib.hid ht) q.length (Lib.hid rfl) (by omega) w H)
  rw [HO.out]
  clear ht
  go_enter Tryz.func139, Tryz.ntmps139
  go_wp2_with (go_at_call 109; refine (HN.out).mono ?_; rintro e w1 ⟨rfl, h1, h2⟩)
  exact ⟨rfl, rfl, h1, h2⟩
 ·obtain ⟨hDl, hrl, hDs, hrs⟩ := tP_sub ht
  have hD : WfT D := fun x hx => H.out.wfY x (hDs x hx)
  have HTX := Lib.hid (text_yes g 1048576 (by decide) q D r (Lib.hid ht) (by omega) w H)
  obtain ⟨n, hn⟩ : ∃ n, n = D.length := ⟨_, rfl⟩
  have HCV := Lib.hid fun (w : World) => conv_sbY D hD (by omega) n hn w
  have HR2 := Lib.hid fun (A : Option Addr) (C : Nat) (w : World) (h1 : n ≤ C) (h2 : C ≤ maxLen) (h3 : ByAt w A D) => HRD.out A C D w hD (by omega) (by omega) h2 h3
  rw [← hn] at HR2
  rcases hr : rd D with _ | l
  ·have HO : Hid (rcA rd q = none) := Lib.hid (by unfold rcA; rw [ht]; simp [hr])
   rw [hr] at HR2
   have HR3 : Hid (∀ A C w, n ≤ C → C ≤ maxLen → ByAt w A D → Calls Tryz.prog 140 #[.slice A n C] w fun e w' => e = .returned (.tuple #[.slice none 0 0, .int .i64 3]) ∧ Below w.heap.size w w') := HR2
   rw [HO.out]
   clear ht hr hn hD hDl hrl hDs hrs HR2 HRD
   go_enter Tryz.func139, Tryz.ntmps139
   go_wp2_with (first
    | (go_at_call 109; refine (HTX.out).mono ?_; rintro e w1 hy; obtain ⟨rfl, HR1, HK1⟩ := Yes.rd hy; clear hy; obtain ⟨w2, C2, hcv, hby, hb2, hC2, hM2⟩ := HCV.out w1; have HBY := Lib.hid hby; have HB2 := Lib.hid hb2; clear hby hb2)
    | (refine (HR3.out _ C2 _ hC2 hM2 HBY.out).mono ?_; rintro e w3 ⟨rfl, hb3⟩; have HB3 := Lib.hid (below_to HB2.out hb3); have hRd := HR1.out.highY (S := fun _ => False) (Kept.of_below HB3.out) (fun _ h => h.elim); obtain ⟨A9, C9, hRA⟩ := hRd; have HRA := Lib.hid hRA; clear hcv hb3 hRA)
    | (go_at_call 80; (with_reducible refine (check_false g C9 A9 r _ HRA).mono ?_); rintro e w9 ⟨rfl, h1, h2⟩))
   exact ⟨rfl, rfl, h1, (HK1.out.trans (Kept.of_below HB3.out)).trans h2⟩
  ·have HO : Hid (rcA rd q = some (l, r)) := Lib.hid (by unfold rcA; rw [ht]; simp [hr])
   rw [hr] at HR2
   have HR3 : Hid (∀ A C w, n ≤ C → C ≤ maxLen → ByAt w A D → Calls Tryz.prog 140 #[.slice A n C] w fun e w' => (∃ A' n' c', e = .returned (.tuple #[.slice A' n' c', .int .i64 0]) ∧ P l A' n' c' w') ∧ Below w.heap.size w w') := HR2
   rw [HO.out]
   clear ht hr hn hD hDl hrl hDs hrs HR2 HRD
   go_enter Tryz.func139, Tryz.ntmps139
   go_wp2_with (first
    | (go_at_call 109; refine (HTX.out).mono ?_; rintro e w1 hy; obtain ⟨rfl, HR1, HK1⟩ := Yes.rd hy; clear hy; obtain ⟨w2, C2, hcv, hby, hb2, hC2, hM2⟩ := HCV.out w1; have HBY := Lib.hid hby; have HB2 := Lib.hid hb2; clear hby hb2)
    | (refine (HR3.out _ C2 _ hC2 hM2 HBY.out).mono ?_; rintro e w3 ⟨⟨A3, n3, c3, rfl, hp⟩, hb3⟩; have HP := Lib.hid hp; have HB3 := Lib.hid (below_to HB2.out hb3); clear hcv hp hb3)
    | (go_at_call 80; (with_reducible refine (check_true _ _).mono ?_); rintro e w9 ⟨rfl, rfl⟩))
   go_ret
   exact ⟨A3, n3, c3, rfl, HP.out, HR1.out.highY (S := fun _ => False) (Kept.of_below HB3.out) (fun _ h => h.elim), HK1.out.trans (Kept.of_below HB3.out)⟩
theorem readI_all (A : Option Addr) (C : Nat) (D : List Nat) (w : World) (hl : D.length ≤ 1000000) (hC : D.length ≤ C) (hC' : C ≤ maxLen) (HA : ByAt w A D) :
  Calls Tryz.prog 136 #[.slice A D.length C] w (RdA2 PI (riL D) w) := by
 have h := readIntsC_any A C D D.length (Lib.hid rfl) (by omega) hC hC' w (Lib.hid HA)
 refine h.mono fun e w' h1 => ?_
 rcases ho : riL D with _ | l
 ·rw [ho] at h1; exact h1
 ·rw [ho] at h1
  obtain ⟨⟨A6, n6, c6, he, ho⟩, hb⟩ := h1
  refine ⟨⟨A6, n6, c6, he, ⟨ho.len, ho.caps.1, ho.caps.2, ho.isAt, fun b hb2 => ?_⟩⟩, hb⟩
  rcases ho.1.2 with ⟨h1, h2⟩ | ⟨g, cap', cur, h1, hb', hrow, _⟩
  ·cases h1; cases hb2
  ·cases h1; injection hb2 with hb2; subst hb2; exact ⟨_, _, hrow⟩
theorem readT_all (A : Option Addr) (C : Nat) (D : List Nat) (w : World) (hD : WfT D) (hl : D.length ≤ 1000000) (hC : D.length ≤ C) (hC' : C ≤ maxLen) (HA : ByAt w A D) (hwf : ∀ us, rTL D = some us → ∀ x ∈ us, WfT x) :
  Calls Tryz.prog 138 #[.slice A D.length C] w (RdA2 PT (rTL D) w) := by
 have h := readTextsC_any A C D D.length (Lib.hid rfl) (by omega) hC hC' w (Lib.hid HA)
 refine h.mono fun e w' h1 => ?_
 rcases ho : rTL D with _ | us
 ·rw [ho] at h1; exact h1
 ·rw [ho] at h1
  obtain ⟨⟨L, n, he, hnl, hr⟩, hb⟩ := h1
  exact ⟨⟨_, n, n, he, ⟨hnl, Nat.le_refl _, TxAt.of_row us (hwf us ho) hr ⟨[], by simp⟩, fun b hb2 => by injection hb2 with hb2; subst hb2; exact ⟨_, _, hr⟩⟩⟩, hb⟩
theorem rFL_lt {D us : List Nat} (h : rFL D = some us) : ∀ x ∈ us, x < 18446744073709551616 := by
 unfold rFL at h
 rcases hr : rF D with _ | ⟨vs, r⟩
 ·rw [hr] at h; cases h
 ·rw [hr] at h
  have hv : ∀ x ∈ vs, x < 18446744073709551616 := by
   unfold rF at hr
   rcases hi : rI D with _ | ⟨xs, r2⟩
   ·rw [hi] at hr; cases hr
   ·rw [hi] at hr
    simp only at hr
    split at hr
    ·injection hr with hr; injection hr with h1 h2
     intro x hx
     rw [← h1] at hx
     obtain ⟨y, -, rfl⟩ := List.mem_map.1 hx
     exact (u64N_eq y).2
    ·cases hr
  rcases r with _ | ⟨a, r⟩
  ·injection h with h; rw [← h]; exact hv
  ·cases h
theorem readF_all (A : Option Addr) (C : Nat) (D : List Nat) (w : World) (hl : D.length ≤ 1000000) (hC : D.length ≤ C) (hC' : C ≤ maxLen) (HA : ByAt w A D) :
  Calls Tryz.prog 140 #[.slice A D.length C] w (RdA2 PF (rFL D) w) := by
 have h := readRealsC_any A C D D.length (Lib.hid rfl) (by omega) hC hC' w (Lib.hid HA)
 refine h.mono fun e w' h1 => ?_
 rcases ho : rFL D with _ | us
 ·rw [ho] at h1; exact h1
 ·rw [ho] at h1
  obtain ⟨⟨L, n, he, hnl, hr⟩, hb⟩ := h1
  exact ⟨⟨_, n, n, he, ⟨hnl, Nat.le_refl _, hr.isAt (rFL_lt ho), fun b hb2 => by injection hb2 with hb2; subst hb2; exact ⟨_, _, hr⟩⟩⟩, hb⟩
end Go.Proofs.YtifabkbdiiolfaaGreatDoor
