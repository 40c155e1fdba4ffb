/-
  Layer segment: a foot out of bytes: plain.
-/
import Derived.Test.YtifabkbdiiolfaaGreatDoorYaK
import Derived.Test.YtifabkbdiiolfaaGreatDoorUeK
import Derived.Test.YtifabkbdiiolfaaGreatDoorYhK
import Derived.Test.YtifabkbdiiolfaaGreatDoorCoK
set_option linter.unusedSimpArgs false
set_option linter.unusedVariables false
set_option maxRecDepth 8000
namespace Go.Proofs.YtifabkbdiiolfaaGreatDoor
open Go.RowKit Go.Sort Go.WideShapes Col
theorem conv_sbY (s : List Nat) (hs : WfT s) (h1 : s.length ≤ 1000000) (n : Nat) (hn : n = s.length) (w : World) : ∃ (w' : World) (C : Nat), (convert 9 29 (.string (strB s))).run Tryz.prog w = .ok (.slice (some ⟨w.heap.size, 0, none⟩) n C) w' ∧ ByAt w' (some ⟨w.heap.size, 0, none⟩) s ∧ Below w.heap.size w w' ∧ n ≤ C ∧ C ≤ maxLen := by
 have h := Go.Lib.run_convert_string_bytes w 9 29 5 (strB s) Tryz.underlying9 Tryz.underlying29 Tryz.underlying5
 obtain ⟨w', C, h1', h2, h3⟩ := conv_sb s hs n hn w
 have e := h.symm.trans h1'
 injection e with e1 e2
 injection e1 with e3 e4 e5
 exact ⟨w', C, h1', h2, h3, by rw [← e5, ← e4]; exact grownCap_ge _ _ _ _, by rw [← e5]; exact grownCap_le_maxLen _ _ _ _ (by rw [strB_size]; unfold maxLen; omega)⟩
theorem tP_backY {most : Nat} (s : List Nat) (h : s.length ≤ most) (hl : s.length < 18446744073709551616) (r : List Nat) : tP most (txL s ++ r) = some (s, r) := by
 unfold tP txL
 rw [List.append_assoc, uP_back h hl]
 simp
theorem Rd.highY {w w' : World} {g : Nat} {q : List Nat} {S : Nat → Prop} (h : Rd w g q) (hk : Kept S w w') (hS : ∀ k, S k → g < k) : Rd w' g q := by
 obtain ⟨A, C, h⟩ := h
 exact ⟨A, C, h.keep hk (fun e => by have := hS _ e; omega) (fun a ha h0 e => by have := hS _ e; have := h.low a ha h0; omega)⟩
/-- How the reading of a column ends, where all goes well. -/
def ColY (P : Option Addr → Nat → Nat → World → Prop) (g : Nat) (r : List Nat) (w : World) (e : Ending) (w' : World) : Prop := ∃ A n c, e = .returned (.slice A n c) ∧ P A n c w' ∧ Rd w' g r ∧ Kept (Only g) w w'
set_option maxHeartbeats 4000000 in
theorem rcol_int64 (P : Option Addr → Nat → Nat → World → Prop) (D : List Nat) (hD : WfT D) (hDl : D.length ≤ 1000000) (HRD : Hid (∀ A C w, D.length ≤ C → C ≤ maxLen → ByAt w A D → Calls Tryz.prog 136 #[.slice A D.length C] w fun e w' => ∃ A' n' c', e = .returned (.tuple #[.slice A' n' c', .int .i64 0]) ∧ P A' n' c' w' ∧ Below w.heap.size w w'))
  (g : Nat) (r : List Nat) (hql : (txL D ++ r).length ≤ 1099511627776) (w : World) (H : Hid (Rd w g (txL D ++ r))) :
  Calls Tryz.prog 135 #[.pointer (some ⟨g, 0, none⟩), .func (.func 136) #[] #[]] w (ColY P g r w) := by
 have HT : Hid (tP 1048576 (txL D ++ r) = some (D, r)) := Lib.hid (tP_backY D (by omega) (by omega) r)
 obtain ⟨n, hn⟩ : ∃ n, n = D.length := ⟨_, rfl⟩
 have HCV := Lib.hid fun (w : World) => conv_sbY D hD hDl n hn w
 rw [← hn] at HRD
 have hent : ∀ (args : Array Value) (w : World), (callFunc 136 args).run Tryz.prog w = .ok (.enter 136 args) w := fun _ _ => by first | rfl | kernel_rfl
 clear hn hD hDl
 go_enter Tryz.func135, Tryz.ntmps135
 go_wp2_with (first
  | (go_at_call 109; refine (text_yes g 1048576 (by decide) _ D r HT (by omega) _ H).mono ?_; rintro e w1 hy; obtain ⟨rfl, HR1, HK1⟩ := Yes.rd hy; clear hy; obtain ⟨w2, C2, hcv, hby, hb2, hC2, hM2⟩ := HCV.out w1; have HBY := Lib.hid hby; have HB2 := Lib.hid hb2; clear hby hb2)
  | (refine (HRD.out _ C2 _ hC2 hM2 HBY.out).mono ?_; rintro e w3 ⟨A3, n3, c3, rfl, hp, hb3⟩; have HP := Lib.hid hp; have HB3 := Lib.hid (below_to HB2.out hb3); clear hcv hp hb3)
  | (go_at_call 80; (with_reducible refine (check_true _ _).mono ?_); rintro e w9 ⟨rfl, rfl⟩))
 go_ret
 exact ⟨A3, n3, c3, rfl, HP.out, HR1.out.highY (S := fun _ => False) (Kept.of_below HB3.out) (fun _ h => h.elim), HK1.out.trans (Kept.of_below HB3.out)⟩
set_option maxHeartbeats 4000000 in
theorem rcol_string (P : Option Addr → Nat → Nat → World → Prop) (D : List Nat) (hD : WfT D) (hDl : D.length ≤ 1000000) (HRD : Hid (∀ A C w, D.length ≤ C → C ≤ maxLen → ByAt w A D → Calls Tryz.prog 138 #[.slice A D.length C] w fun e w' => ∃ A' n' c', e = .returned (.tuple #[.slice A' n' c', .int .i64 0]) ∧ P A' n' c' w' ∧ Below w.heap.size w w'))
  (g : Nat) (r : List Nat) (hql : (txL D ++ r).length ≤ 1099511627776) (w : World) (H : Hid (Rd w g (txL D ++ r))) :
  Calls Tryz.prog 137 #[.pointer (some ⟨g, 0, none⟩), .func (.func 138) #[] #[]] w (ColY P g r w) := by
 have HT : Hid (tP 1048576 (txL D ++ r) = some (D, r)) := Lib.hid (tP_backY D (by omega) (by omega) r)
 obtain ⟨n, hn⟩ : ∃ n, n = D.length := ⟨_, rfl⟩
 have HCV := Lib.hid fun (w : World) => conv_sbY D hD hDl n hn w
 rw [← hn] at HRD
 have hent : ∀ (args : Array Value) (w : World), (callFunc 138 args).run Tryz.prog w = .ok (.enter 138 args) w := fun _ _ => by first | rfl | kernel_rfl
 clear hn hD hDl
 go_enter Tryz.func137, Tryz.ntmps137
 go_wp2_with (first
  | (go_at_call 109; refine (text_yes g 1048576 (by decide) _ D r HT (by omega) _ H).mono ?_; rintro e w1 hy; obtain ⟨rfl, HR1, HK1⟩ := Yes.rd hy; clear hy; obtain ⟨w2, C2, hcv, hby, hb2, hC2, hM2⟩ := HCV.out w1; have HBY := Lib.hid hby; have HB2 := Lib.hid hb2; clear hby hb2)
  | (refine (HRD.out _ C2 _ hC2 hM2 HBY.out).mono ?_; rintro e w3 ⟨A3, n3, c3, rfl, hp, hb3⟩; have HP := Lib.hid hp; have HB3 := Lib.hid (below_to HB2.out hb3); clear hcv hp hb3)
  | (go_at_call 80; (with_reducible refine (check_true _ _).mono ?_); rintro e w9 ⟨rfl, rfl⟩))
 go_ret
 exact ⟨A3, n3, c3, rfl, HP.out, HR1.out.highY (S := fun _ => False) (Kept.of_below HB3.out) (fun _ h => h.elim), HK1.out.trans (Kept.of_below HB3.out)⟩
set_option maxHeartbeats 4000000 in
theorem rcol_float64 (P : Option Addr → Nat → Nat → World → Prop) (D : List Nat) (hD : WfT D) (hDl : D.length ≤ 1000000) (HRD : Hid (∀ A C w, D.length ≤ C → C ≤ maxLen → ByAt w A D → Calls Tryz.prog 140 #[.slice A D.length C] w fun e w' => ∃ A' n' c', e = .returned (.tuple #[.slice A' n' c', .int .i64 0]) ∧ P A' n' c' w' ∧ Below w.heap.size w w'))
  (g : Nat) (r : List Nat) (hql : (txL D ++ r).length ≤ 1099511627776) (w : World) (H : Hid (Rd w g (txL D ++ r))) :
  Calls Tryz.prog 139 #[.pointer (some ⟨g, 0, none⟩), .func (.func 140) #[] #[]] w (ColY P g r w) := by
 have HT : Hid (tP 1048576 (txL D ++ r) = some (D, r)) := Lib.hid (tP_backY D (by omega) (by omega) r)
 obtain ⟨n, hn⟩ : ∃ n, n = D.length := ⟨_, rfl⟩
 have HCV := Lib.hid fun (w : World) => conv_sbY D hD hDl n hn w
 rw [← hn] at HRD
 have hent : ∀ (args : Array Value) (w : World), (callFunc 140 args).run Tryz.prog w = .ok (.enter 140 args) w := fun _ _ => by first | rfl | kernel_rfl
 clear hn hD hDl
 go_enter Tryz.func139, Tryz.ntmps139
 go_wp2_with (first
  | (go_at_call 109; refine (text_yes g 1048576 (by decide) _ D r HT (by omega) _ H).mono ?_; rintro e w1 hy; obtain ⟨rfl, HR1, HK1⟩ := Yes.rd hy; clear hy; obtain ⟨w2, C2, hcv, hby, hb2, hC2, hM2⟩ := HCV.out w1; have HBY := Lib.hid hby; have HB2 := Lib.hid hb2; clear hby hb2)
  | (refine (HRD.out _ C2 _ hC2 hM2 HBY.out).mono ?_; rintro e w3 ⟨A3, n3, c3, rfl, hp, hb3⟩; have HP := Lib.hid hp; have HB3 := Lib.hid (below_to HB2.out hb3); clear hcv hp hb3)
  | (go_at_call 80; (with_reducible refine (check_true _ _).mono ?_); rintro e w9 ⟨rfl, rfl⟩))
 go_ret
 exact ⟨A3, n3, c3, rfl, HP.out, HR1.out.highY (S := fun _ => False) (Kept.of_below HB3.out) (fun _ h => h.elim), HK1.out.trans (Kept.of_below HB3.out)⟩
theorem IsAt.keptY {S : Nat → Prop} {w w' : World} {a : Option Addr} {l : List Int} (h : IsAt w a l) (hk : Kept S w w') (ho : ∀ b, a = some b → ¬ S b.block) : IsAt w' a l := h.kept hk ho
theorem TxAt.keptY {S : Nat → Prop} {w w' : World} {a : Option Addr} {l : List (List Nat)} (h : TxAt w a l) (hk : Kept S w w') (ho : ∀ b, a = some b → ¬ S b.block) : TxAt w' a l := fun k x hx => by
 obtain ⟨h1, g, off, h2, h3, h4⟩ := h k x hx
 exact ⟨h1, g, off, h2, Nat.lt_of_lt_of_le h3 hk.size, (hk.cell (p := ⟨g, off + k, none⟩) h3 (fun e => ho ⟨g, off, none⟩ h2 e)).trans h4⟩
theorem FlAt.keptY {S : Nat → Prop} {w w' : World} {a : Option Addr} {l : List Nat} (h : FlAt w a l) (hk : Kept S w w') (ho : ∀ b, a = some b → ¬ S b.block) : FlAt w' a l := fun k x hx => by
 obtain ⟨h1, g, off, h2, h3, h4⟩ := h k x hx
 exact ⟨h1, g, off, h2, Nat.lt_of_lt_of_le h3 hk.size, (hk.cell (p := ⟨g, off + k, none⟩) h3 (fun e => ho ⟨g, off, none⟩ h2 e)).trans h4⟩
/-- A row that is no reader's. -/
theorem no_rd {w : World} {g L : Nat} {q : List Nat} {cs : Array Value} {t : TypeId} {fr : Nat × Nat} (h : Rd w g q) (hr : w.heap[L]? = some (.cells cs t fr)) (ht : t ≠ 135) : L ≠ g := fun e => by
 obtain ⟨A, C, h⟩ := h
 have h1 := h.row
 rw [← e, hr] at h1
 injection h1 with h1
 injection h1 with h2 h3
 exact ht h3
/-- What was read of a column of whole numbers, and so on. -/
def PI (l : List Int) (A : Option Addr) (n c : Nat) (w : World) : Prop := n = l.length ∧ n ≤ c ∧ c ≤ maxLen ∧ IsAt w A l ∧ ∀ b, A = some b → ∃ cs fr, w.heap[b.block]? = some (.cells cs 2 fr)
def PT (l : List (List Nat)) (A : Option Addr) (n c : Nat) (w : World) : Prop := n = l.length ∧ n ≤ c ∧ TxAt w A l ∧ ∀ b, A = some b → ∃ cs fr, w.heap[b.block]? = some (.cells cs 9 fr)
def PF (l : List Nat) (A : Option Addr) (n c : Nat) (w : World) : Prop := n = l.length ∧ n ≤ c ∧ FlAt w A l ∧ ∀ b, A = some b → ∃ cs fr, w.heap[b.block]? = some (.cells cs 43 fr)
section
variable {S : Nat → Prop} {w w' : World} {A : Option Addr} {n c g : Nat} {q : List Nat}
theorem PI.off {l : List Int} (h : PI l A n c w) (hr : Rd w g q) : ∀ b, A = some b → b.block ≠ g := fun b hb => by
 obtain ⟨cs, fr, h1⟩ := h.2.2.2.2 b hb
 exact no_rd hr h1 (by decide)
theorem PT.off {l : List (List Nat)} (h : PT l A n c w) (hr : Rd w g q) : ∀ b, A = some b → b.block ≠ g := fun b hb => by
 obtain ⟨cs, fr, h1⟩ := h.2.2.2 b hb
 exact no_rd hr h1 (by decide)
theorem PF.off {l : List Nat} (h : PF l A n c w) (hr : Rd w g q) : ∀ b, A = some b → b.block ≠ g := fun b hb => by
 obtain ⟨cs, fr, h1⟩ := h.2.2.2 b hb
 exact no_rd hr h1 (by decide)
theorem PI.kept {l : List Int} (h : PI l A n c w) (hk : Kept S w w') (ho : ∀ b, A = some b → ¬ S b.block) : PI l A n c w' := ⟨h.1, h.2.1, h.2.2.1, h.2.2.2.1.keptY hk ho, fun b hb => by
 obtain ⟨cs, fr, h1⟩ := h.2.2.2.2 b hb
 exact ⟨cs, fr, hk.heap h1 (ho b hb)⟩⟩
theorem PT.kept {l : List (List Nat)} (h : PT l A n c w) (hk : Kept S w w') (ho : ∀ b, A = some b → ¬ S b.block) : PT l A n c w' := ⟨h.1, h.2.1, h.2.2.1.keptY hk ho, fun b hb => by
 obtain ⟨cs, fr, h1⟩ := h.2.2.2 b hb
 exact ⟨cs, fr, hk.heap h1 (ho b hb)⟩⟩
theorem PF.kept {l : List Nat} (h : PF l A n c w) (hk : Kept S w w') (ho : ∀ b, A = some b → ¬ S b.block) : PF l A n c w' := ⟨h.1, h.2.1, h.2.2.1.keptY hk ho, fun b hb => by
 obtain ⟨cs, fr, h1⟩ := h.2.2.2 b hb
 exact ⟨cs, fr, hk.heap h1 (ho b hb)⟩⟩
end
theorem readI_yes (l : List Int) (hw : ∀ y ∈ l, Wf64 y) (hn : l.length ≤ 64) (A : Option Addr) (C : Nat) (w : World) (hC : (intsL l).length ≤ C) (hC' : C ≤ maxLen) (HA : ByAt w A (intsL l)) :
  Calls Tryz.prog 136 #[.slice A (intsL l).length C] w fun e w' => ∃ A' n' c', e = .returned (.tuple #[.slice A' n' c', .int .i64 0]) ∧ PI l A' n' c' w' ∧ Below w.heap.size w w' := by
 have h := readIntsC_any A C (intsL l) (intsL l).length (Lib.hid rfl) (by have := ints_60 l hw hn; omega) hC hC' w (Lib.hid HA)
 rw [riL_some (ints_back l hw (by omega))] at h
 refine h.mono fun e w' h1 => ?_
 obtain ⟨⟨A6, n6, c6, he, ho⟩, hb⟩ := h1
 refine ⟨A6, n6, c6, he, ⟨ho.len, ho.caps.1, ho.caps.2, ho.isAt, fun b hb2 => ?_⟩, hb⟩
 rcases ho.1.2 with ⟨h1, h2⟩ | ⟨g, cap', cur, h1, hb', hrow, _⟩
 ·cases h1; cases hb2
 ·cases h1; injection hb2 with hb2; subst hb2; exact ⟨_, _, hrow⟩
theorem readT_yes (l : List (List Nat)) (hw : ∀ x ∈ l, WfT x) (h32 : ∀ y ∈ l, y.length ≤ 32) (hn : l.length ≤ 64) (A : Option Addr) (C : Nat) (w : World) (hC : (textsL l).length ≤ C) (hC' : C ≤ maxLen) (HA : ByAt w A (textsL l)) :
  Calls Tryz.prog 138 #[.slice A (textsL l).length C] w fun e w' => ∃ A' n' c', e = .returned (.tuple #[.slice A' n' c', .int .i64 0]) ∧ PT l A' n' c' w' ∧ Below w.heap.size w w' := by
 have h := readTextsC_any A C (textsL l) (textsL l).length (Lib.hid rfl) (by have := texts_60 l hw h32 hn; omega) hC hC' w (Lib.hid HA)
 rw [rTL_some (texts_back l hw h32 (by omega))] at h
 refine h.mono fun e w' h1 => ?_
 obtain ⟨⟨L, n, he, hnl, hr⟩, hb⟩ := h1
 exact ⟨_, n, n, he, ⟨hnl, Nat.le_refl _, TxAt.of_row l hw hr ⟨[], by simp⟩, fun b hb2 => by injection hb2 with hb2; subst hb2; exact ⟨_, _, hr⟩⟩, hb⟩
theorem readF_yes (vs : List Nat) (hv : ∀ y ∈ vs, y < 18446744073709551616) (hn : vs.length ≤ 64) (A : Option Addr) (C : Nat) (w : World) (hC : (intsL (vs.map rwI)).length ≤ C) (hC' : C ≤ maxLen) (HA : ByAt w A (intsL (vs.map rwI))) :
  Calls Tryz.prog 140 #[.slice A (intsL (vs.map rwI)).length C] w fun e w' => ∃ A' n' c', e = .returned (.tuple #[.slice A' n' c', .int .i64 0]) ∧ PF (vs.map Fl.canon) A' n' c' w' ∧ Below w.heap.size w w' := by
 have hwf : ∀ y ∈ vs.map rwI, Wf64 y := fun y hy => by obtain ⟨u, -, rfl⟩ := List.mem_map.1 hy; exact rwI_wf u
 have hl : (vs.map rwI).length ≤ 64 := by rw [List.length_map]; exact hn
 have hmap : (vs.map rwI).map u64N = vs.map Fl.canon := by
  rw [List.map_map]
  exact List.map_congr_left fun y hy => u64N_rw y (hv y hy)
 have h := readRealsC_yes A C (intsL (vs.map rwI)) _ (Lib.hid rfl) (by have := ints_60 _ hwf hl; omega) hC hC' (vs.map rwI) (Lib.hid (ints_back _ hwf (by omega))) (Lib.hid fun y hy => by
  obtain ⟨u, hu, rfl⟩ := List.mem_map.1 hy
  rw [u64N_rw u (hv u hu), Fl.canon_canon]) (vs.map rwI).length (Lib.hid rfl) (by omega) w (Lib.hid HA)
 rw [hmap] at h
 refine h.mono fun e w' ⟨L, he, hr, hb⟩ => ?_
 exact ⟨_, _, _, he, ⟨by rw [List.length_map, List.length_map], Nat.le_refl _, hr.isAt (fun y hy => by obtain ⟨u, hu, rfl⟩ := List.mem_map.1 hy; exact Fl.canon_lt u (hv u hu)), fun b hb2 => by injection hb2 with hb2; subst hb2; exact ⟨_, _, hr⟩⟩, hb⟩
end Go.Proofs.YtifabkbdiiolfaaGreatDoor

namespace Go.Proofs.YtifabkbdiiolfaaGreatDoor
open Go.RowKit Go.WideShapes Col
/-- Is what is told of a chunk such, if its page is to stand below so many bytes? -/
def ckG (foot : Nat) (x : Ck) : Bool := decide (1 ≤ x.rows) && (decide (x.ob = x.oa + (x.rows - 1)) && decide (x.pl < foot))
def ck8 (foot rows pl oa ob : Nat) (ta tz : Int) (ka q : List Nat) : Option (Ck × List Nat) := (tP 32 q).bind fun y => if ckG foot ⟨rows, pl, oa, ob, ta, tz, strB ka, strB y.1⟩ = true then some (⟨rows, pl, oa, ob, ta, tz, strB ka, strB y.1⟩, y.2) else none
def ck7 (foot rows pl oa ob : Nat) (ta tz : Int) (q : List Nat) : Option (Ck × List Nat) := (tP 32 q).bind fun y => ck8 foot rows pl oa ob ta tz y.1 y.2
def ck6 (foot rows pl oa ob : Nat) (ta : Int) (q : List Nat) : Option (Ck × List Nat) := (zP q).bind fun y => ck7 foot rows pl oa ob ta y.1 y.2
def ck5 (foot rows pl oa ob : Nat) (q : List Nat) : Option (Ck × List Nat) := (zP q).bind fun y => ck6 foot rows pl oa ob y.1 y.2
def ck4 (foot rows pl oa : Nat) (q : List Nat) : Option (Ck × List Nat) := (uP 1099511627775 q).bind fun y => ck5 foot rows pl oa y.1 y.2
def ck3 (foot rows pl : Nat) (q : List Nat) : Option (Ck × List Nat) := (uP 1099511627775 q).bind fun y => ck4 foot rows pl y.1 y.2
def ck2 (foot rows : Nat) (q : List Nat) : Option (Ck × List Nat) := (uP foot q).bind fun y => ck3 foot rows y.1 y.2
/-- What is told of a chunk, out of bytes. -/
def ckP (foot : Nat) (q : List Nat) : Option (Ck × List Nat) := (uP 64 q).bind fun y => ck2 foot y.1 y.2
/-- Does a chunk stand behind those? -/
def flw (m : List Ck) (c : Ck) : Bool := match m.getLast? with
 | none => decide (c.pl = 0)
 | some a => decide (a.pl < c.pl) && decide (c.oa = a.ob + 1)
def cksP (foot : Nat) : Nat → List Ck → List Nat → Option (List Ck × List Nat)
 | 0, m, q => some (m, q)
 | n + 1, m, q => (ckP foot q).bind fun y => if flw m y.1 = true then cksP foot n (m ++ [y.1]) y.2 else none
theorem cksP_succ (foot n : Nat) (m : List Ck) (q : List Nat) : cksP foot (n + 1) m q = (ckP foot q).bind fun y => if flw m y.1 = true then cksP foot n (m ++ [y.1]) y.2 else none := rfl
def ft2 (foot p : Nat) (q : List Nat) : Option ((Nat × List Ck) × List Nat) := (uP 18446744073709551615 q).bind fun z => if 1 ≤ p ∧ 1 ≤ z.1 then (cksP foot z.1 [] z.2).map fun t => ((p, t.1), t.2) else none
/-- A foot out of bytes. -/
def footP (foot : Nat) (q : List Nat) : Option ((Nat × List Ck) × List Nat) := (uP 8 q).bind fun y => ft2 foot y.1 y.2
/-- Chunks that are as a foot is to tell them. -/
structure CkIn (foot : Nat) (x : Ck) : Prop where
 ok : CkOk x
 rows : x.rows ≤ 64
 pl : x.pl ≤ foot
 oa : x.oa < 1099511627776
 ob : x.ob < 1099511627776
 good : ckG foot x = true
theorem ckP_back {foot : Nat} {x : Ck} (h : CkIn foot x) (r : List Nat) : ckP foot (ckB x ++ r) = some (x, r) := by
 have e : ckB x ++ r = ub x.rows ++ (ub x.pl ++ (ub x.oa ++ (ub x.ob ++ (ub (zz x.ta) ++ (ub (zz x.tz) ++ (txL (kbS x.ka) ++ (txL (kbS x.kz) ++ r))))))) := by
  unfold ckB nums nsB
  simp [List.append_assoc]
 have h1 := h.rows; have h2 := h.ok.pl; have h3 := h.oa; have h4 := h.ob; have h5 := h.ok.ka; have h6 := h.ok.kz
 rw [e]
 unfold ckP
 rw [uP_back (by omega) (by omega)]
 show ck2 foot x.rows _ = _
 unfold ck2
 rw [uP_back h.pl (by omega)]
 show ck3 foot x.rows x.pl _ = _
 unfold ck3
 rw [uP_back (by omega) (by omega)]
 show ck4 foot x.rows x.pl x.oa _ = _
 unfold ck4
 rw [uP_back (by omega) (by omega)]
 show ck5 foot x.rows x.pl x.oa x.ob _ = _
 unfold ck5
 rw [zP_back h.ok.ta]
 show ck6 foot x.rows x.pl x.oa x.ob x.ta _ = _
 unfold ck6
 rw [zP_back h.ok.tz]
 show ck7 foot x.rows x.pl x.oa x.ob x.ta x.tz _ = _
 unfold ck7
 rw [tP_backY (kbS x.ka) (by rw [kbS_len]; omega) (by rw [kbS_len]; omega)]
 show ck8 foot x.rows x.pl x.oa x.ob x.ta x.tz _ _ = _
 unfold ck8
 rw [tP_backY (kbS x.kz) (by rw [kbS_len]; omega) (by rw [kbS_len]; omega)]
 show (if ckG foot ⟨x.rows, x.pl, x.oa, x.ob, x.ta, x.tz, strB (kbS x.ka), strB (kbS x.kz)⟩ = true then _ else none) = _
 rw [kbS_strB, kbS_strB, if_pos h.good]
/-- Do chunks stand one behind the other? -/
def Foll (m : List Ck) : List Ck → Prop
 | [] => True
 | c :: r => flw m c = true ∧ Foll (m ++ [c]) r
theorem cksP_back {foot : Nat} : ∀ (l m : List Ck) (r : List Nat), (∀ x ∈ l, CkIn foot x) → Foll m l → cksP foot l.length m (cksB l ++ r) = some (m ++ l, r)
 | [], m, r, _, _ => by show some (m, r) = _; rw [List.append_nil]
 | c :: l, m, r, h, hf => by
  have e : cksB (c :: l) ++ r = ckB c ++ (cksB l ++ r) := by unfold cksB; rw [List.flatMap_cons, List.append_assoc]
  rw [e, List.length_cons, cksP_succ, ckP_back (h c (by simp))]
  show (if flw m c = true then cksP foot l.length (m ++ [c]) (cksB l ++ r) else none) = _
  rw [if_pos hf.1, cksP_back l (m ++ [c]) r (fun x hx => h x (by simp [hx])) hf.2, List.append_assoc]; rfl
theorem footP_back {foot p : Nat} {l : List Ck} (hp : 1 ≤ p) (hp8 : p ≤ 8) (hl : 1 ≤ l.length) (hl2 : l.length < 1000000) (h : ∀ x ∈ l, CkIn foot x) (hf : Foll [] l) : footP foot (footB p l) = some ((p, l), []) := by
 have e : footB p l = ub p ++ (ub l.length ++ (cksB l ++ [])) := by unfold footB nsB; simp
 rw [e]
 unfold footP
 rw [uP_back hp8 (by omega)]
 show ft2 foot p _ = _
 unfold ft2
 rw [uP_back (by omega) (by omega)]
 show (if 1 ≤ p ∧ 1 ≤ l.length then (cksP foot l.length [] (cksB l ++ [])).map _ else none) = _
 rw [if_pos ⟨hp, hl⟩, cksP_back l [] [] h hf]; rfl
end Go.Proofs.YtifabkbdiiolfaaGreatDoor
