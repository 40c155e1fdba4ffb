/-
  Layer event: readEvents of any columns of one length.
-/
import Derived.Test.YtpobfgokikfmbaaDoorQPrds10
import Derived.Test.YtpobfgokikfmbaaDoorQPrds8
import Derived.Test.YtpobfgokikfmbaaDoorQPrds3
import Derived.Test.YtpobfgokikfmbaaDoorQPrds2
set_option linter.unusedSimpArgs false
set_option linter.unusedVariables false
set_option maxRecDepth 8000
namespace Go.Proofs.YtpobfgokikfmbaaDoor
open Go.RowKit Go.Sort Go.WideShapes Col
theorem c_iuA (z : Int) (x : Ev) (hx : IntKind.u64.wrap z = (x.off : Int)) (w : World) : (convert 2 33 (.int .i64 z)).run Tryd.prog w = .ok (.int .u64 (x.off : Int)) w := by
  go_simp
/-- Columns, and the events that they make. -/
def ZipE (O P T : List Int) (K : List (List Nat)) (V : List Nat) (l : List Ev) : Prop := ∀ (i : Nat) (x : Ev), l[i]? = some x → ∃ (z : Int) (s : List Nat), IntKind.u64.wrap z = (x.off : Int) ∧ O[i]? = some z ∧ P[i]? = some x.part ∧ T[i]? = some x.time ∧ K[i]? = some s ∧ strB s = x.key ∧ V[i]? = some x.val
def EvEndsA (g : Nat) (l : List Ev) (p : Int) (qz : List Nat) (w : World) (e : Ending) (w' : World) : Prop :=
  ((∀ x ∈ l, formB x p = true) ∧ ∃ L n, e = .returned (.slice (some ⟨L, 0, none⟩) n n) ∧ n = l.length ∧ EvAt w' (some ⟨L, 0, none⟩) l ∧ Rd w' g qz ∧ Kept (Only g) w w' ∧ w.heap.size ≤ L) ∨
  ((∃ x ∈ l, formB x p = false) ∧ e = .panicked [gu g] ∧ Gone w' g ∧ Kept (Only g) w w')

set_option maxHeartbeats 32000000 in
theorem readEv_all (g : Nat) (O P T : List Int) (K0 : List (List Nat)) (V : List Nat) (l : List Ev) (n : Nat) (hn : Hid (n = l.length)) (hn6 : n ≤ 4096) (hN1 : Hid (n = O.length)) (hN2 : Hid (n = P.length)) (hN3 : Hid (n = T.length)) (hN4 : Hid (n = K0.length)) (hN5 : Hid (n = V.length)) (HZ : Hid (ZipE O P T K0 V l)) (p : Int) (q1 q2 q3 q4 q5 qz : List Nat) (w : World) (HR0 : Hid (Rd w g q1))
    (HC1 : Hid (∀ w', Rd w' g q1 → Calls Tryd.prog 28 #[.pointer (some ⟨g, 0, none⟩), .func (.func 29) #[] #[]] w' (ColY (PI O) g q2 w')))
    (HC2 : Hid (∀ w', Rd w' g q2 → Calls Tryd.prog 28 #[.pointer (some ⟨g, 0, none⟩), .func (.func 29) #[] #[]] w' (ColY (PI P) g q3 w')))
    (HC3 : Hid (∀ w', Rd w' g q3 → Calls Tryd.prog 28 #[.pointer (some ⟨g, 0, none⟩), .func (.func 29) #[] #[]] w' (ColY (PI T) g q4 w')))
    (HC4 : Hid (∀ w', Rd w' g q4 → Calls Tryd.prog 30 #[.pointer (some ⟨g, 0, none⟩), .func (.func 31) #[] #[]] w' (ColY (PT K0) g q5 w')))
    (HC5 : Hid (∀ w', Rd w' g q5 → Calls Tryd.prog 32 #[.pointer (some ⟨g, 0, none⟩), .func (.func 33) #[] #[]] w' (ColY (PF V) g qz w'))) :
    Calls Tryd.prog 12 #[.pointer (some ⟨g, 0, none⟩), .int .i64 p] w (EvEndsA g l p qz w) := by
  obtain ⟨ie, hie, iez0, iez1, iez2⟩ := info_parts infoEv
  have ieb : ie.bytes * n ≤ 281474976710656 := by rw [iez2]; omega
  have hnm : n ≤ maxLen := by unfold maxLen; omega
  go_enter Tryd.func12, Tryd.ntmps12
  go_upto_region 6 with (first
    | (go_at_call 28; (with_reducible refine (HC1.out w HR0.out).mono ?_); rintro e w1 ⟨A1, n1, c1, rfl, hp, hr, hk⟩; have P1 := Lib.hid hp; have Rg1 := Lib.hid hr; have K1 := Lib.hid hk; clear hp hr hk)
    | (go_at_call 28; (with_reducible refine (HC2.out w1 Rg1.out).mono ?_); rintro e w2 ⟨A2, n2, c2, rfl, hp, hr, hk⟩; have P2 := Lib.hid hp; have Rg2 := Lib.hid hr; have K2 := Lib.hid hk; clear hp hr hk)
    | (go_at_call 28; (with_reducible refine (HC3.out w2 Rg2.out).mono ?_); rintro e w3 ⟨A3, n3, c3, rfl, hp, hr, hk⟩; have P3 := Lib.hid hp; have Rg3 := Lib.hid hr; have K3 := Lib.hid hk; clear hp hr hk)
    | (go_at_call 30; (with_reducible refine (HC4.out w3 Rg3.out).mono ?_); rintro e w4 ⟨A4, n4, c4, rfl, hp, hr, hk⟩; have P4 := Lib.hid hp; have Rg4 := Lib.hid hr; have K4 := Lib.hid hk; clear hp hr hk)
    | (go_at_call 32; (with_reducible refine (HC5.out w4 Rg4.out).mono ?_); rintro e w5 ⟨A5, n5, c5, rfl, hp, hr, hk⟩; have P5 := Lib.hid hp; have Rg5 := Lib.hid hr; have K5 := Lib.hid hk; clear hp hr hk))
  have P1_ := Lib.hid (P1.out.kept K2.out (fun b hb => P1.out.off Rg1.out b hb))
  have P1__ := Lib.hid (P1_.out.kept K3.out (fun b hb => P1_.out.off Rg2.out b hb))
  have P1___ := Lib.hid (P1__.out.kept K4.out (fun b hb => P1__.out.off Rg3.out b hb))
  have P1____ := Lib.hid (P1___.out.kept K5.out (fun b hb => P1___.out.off Rg4.out b hb))
  have Q1 := P1____
  have P2_ := Lib.hid (P2.out.kept K3.out (fun b hb => P2.out.off Rg2.out b hb))
  have P2__ := Lib.hid (P2_.out.kept K4.out (fun b hb => P2_.out.off Rg3.out b hb))
  have P2___ := Lib.hid (P2__.out.kept K5.out (fun b hb => P2__.out.off Rg4.out b hb))
  have Q2 := P2___
  have P3_ := Lib.hid (P3.out.kept K4.out (fun b hb => P3.out.off Rg3.out b hb))
  have P3__ := Lib.hid (P3_.out.kept K5.out (fun b hb => P3_.out.off Rg4.out b hb))
  have Q3 := P3__
  have P4_ := Lib.hid (P4.out.kept K5.out (fun b hb => P4.out.off Rg4.out b hb))
  have Q4 := P4_
  have Q5 := P5
  have e1 : n1 = n := Q1.out.1.trans hN1.out.symm
  have e2 : n2 = n := Q2.out.1.trans hN2.out.symm
  have e3 : n3 = n := Q3.out.1.trans hN3.out.symm
  have e4 : n4 = n := Q4.out.1.trans hN4.out.symm
  have e5 : n5 = n := Q5.out.1.trans hN5.out.symm
  have K := Lib.hid ((((K1.out.trans K2.out).trans K3.out).trans K4.out).trans K5.out)
  have HRd := Rg5
  clear P1 P2 P3 P4 P5 Rg1 Rg2 Rg3 Rg4 Rg5 K1 K2 K3 K4 K5 HC1 HC2 HC3 HC4 HC5 HR0
  obtain rfl : n1 = n := e1
  obtain rfl : n2 = n1 := e2
  obtain rfl : n3 = n2 := e3
  obtain rfl : n4 = n3 := e4
  obtain rfl : n5 = n4 := e5
  have hnn : ((n5 : Int) == (n5 : Int)) = true := by simp
  go_wp2_with (first
    | (refine wpList_make_full _ rfl (.tmp 24) (.tmp 24) 24 rfl w5.heap.size 36 ie (.agg #[Value.int .u64 0, .int .i64 0, .int .i64 0, .string ByteArray.empty, .float .f64 0]) 5 Tryd.underlying24 hie iez0 iez1 .i64 .i64 _ _ n5 rfl rfl rfl rfl ieb hnm (Nat.le_refl _) ?_; intro w6 own hgr; have HOW := Lib.hid own; have HG6 : Hid (Below w5.heap.size w5 w6) := Lib.hid ((Below.refl _ w5).grown hgr (Nat.le_refl _) (by intro k hk; cases hk)); clear own hgr)
    | (go_at_call 34; (with_reducible refine (check_true _ _).mono ?_); rintro e w9 ⟨rfl, rfl⟩))
  have HRE : Hid (RowE w6 w5.heap.size n5 []) := Lib.hid (by
    rcases HOW.out.2 with ⟨e0, h0⟩ | ⟨L', cap', cur, e0, hb, hrow, h1, h2, hs, ht⟩
    · cases e0
    · cases e0; exact ⟨⟨cur, hrow, hs⟩, fun j v hv => by simp [evs] at hv⟩)
  have KB : Kept (fun _ => False) w5 w6 := Kept.of_below HG6.out
  have l1 : Hid (∀ b, A1 = some b → b.block < w5.heap.size) := Lib.hid fun b hb => lblk (Q1.out.2.2.2.2 b hb)
  have l2 : Hid (∀ b, A2 = some b → b.block < w5.heap.size) := Lib.hid fun b hb => lblk (Q2.out.2.2.2.2 b hb)
  have l3 : Hid (∀ b, A3 = some b → b.block < w5.heap.size) := Lib.hid fun b hb => lblk (Q3.out.2.2.2.2 b hb)
  have l4 : Hid (∀ b, A4 = some b → b.block < w5.heap.size) := Lib.hid fun b hb => lblk (Q4.out.2.2.2 b hb)
  have l5 : Hid (∀ b, A5 = some b → b.block < w5.heap.size) := Lib.hid fun b hb => lblk (Q5.out.2.2.2 b hb)
  have V1 := Lib.hid (Q1.out.kept KB (fun _ _ h => h)); have V2 := Lib.hid (Q2.out.kept KB (fun _ _ h => h)); have V3 := Lib.hid (Q3.out.kept KB (fun _ _ h => h)); have V4 := Lib.hid (Q4.out.kept KB (fun _ _ h => h)); have V5 := Lib.hid (Q5.out.kept KB (fun _ _ h => h))
  have HR6 := Lib.hid (HRd.out.highY KB (fun _ h => h.elim))
  have HGL : Hid (g < w5.heap.size) := Lib.hid (by obtain ⟨A, C, h⟩ := HRd.out; exact h.lt)
  have KW := Lib.hid (K.out.trans (KB.mono fun k h => h.elim))
  have HWS : Hid (w.heap.size ≤ w5.heap.size) := Lib.hid K.out.size
  clear Q1 Q2 Q3 Q4 Q5 HRd KB K HOW HG6
  generalize w5.heap.size = L at *
  go_loopw [56] (fun v wr => ∃ i : Nat, i ≤ n5 ∧ v = .int .i64 (i : Int) ∧ RowE wr L n5 ((l.take i)) ∧ Kept (fun j => j = L) w6 wr ∧ ∀ x ∈ l.take i, formB x p = true) (fun v _ => n5 - (intOf v).toNat)
  case atStart => exact ⟨0, Nat.zero_le _, rfl, by rw [List.take_zero]; exact HRE.out, Kept.refl _ _, fun x hx => by rw [List.take_zero] at hx; cases hx⟩
  case round =>
    obtain ⟨i, hi, rfl, hre, hk, hfo⟩ := hrel
    have HRR := Lib.hid hre; have HKK := Lib.hid hk; have HFF := Lib.hid hfo
    clear hre hk hfo HRE
    have KWr := Lib.hid (KW.out.trans' HKK.out (fun j hj => .inr (by have hj : j = L := hj; have := HWS.out; omega)))
    have HRr := Lib.hid (HR6.out.highY HKK.out (fun j hj => by have hj : j = L := hj; have := HGL.out; omega))
    by_cases hlt : i < n5
    · have hii : (i : Int) < (n5 : Int) := by omega
      have hil : i < l.length := by have := hn.out; omega
      obtain ⟨x, hx⟩ : ∃ x, l[i]? = some x := ⟨_, List.getElem?_eq_getElem hil⟩
      have HX := Lib.hid hx
      obtain ⟨z1, s4, g1, g2, g3, g4, g5, g6, g7⟩ := HZ.out i x hx
      have HF := Lib.hid g1
      have HS4 := Lib.hid g6
      have u1 := V1.out.kept HKK.out (fun b hb e => by have e : b.block = L := e; have := l1.out b hb; omega)
      have u2 := V2.out.kept HKK.out (fun b hb e => by have e : b.block = L := e; have := l2.out b hb; omega)
      have u3 := V3.out.kept HKK.out (fun b hb e => by have e : b.block = L := e; have := l3.out b hb; omega)
      have u4 := V4.out.kept HKK.out (fun b hb e => by have e : b.block = L := e; have := l4.out b hb; omega)
      have u5 := V5.out.kept HKK.out (fun b hb e => by have e : b.block = L := e; have := l5.out b hb; omega)
      obtain ⟨-, b1, o1, hA1, hb1, hc1⟩ := u1.2.2.2.1 i z1 g2
      obtain ⟨-, b2, o2, hA2, hb2, hc2⟩ := u2.2.2.2.1 i x.part g3
      obtain ⟨-, b3, o3, hA3, hb3, hc3⟩ := u3.2.2.2.1 i x.time g4
      obtain ⟨-, b4, o4, hA4, hb4, hc4⟩ := u4.2.2.1 i s4 g5
      obtain ⟨-, b5, o5, hA5, hb5, hc5⟩ := u5.2.2.1 i x.val g7
      subst hA1; subst hA2; subst hA3; subst hA4; subst hA5
      have HB2 := Lib.hid hb2; have HC2 := Lib.hid hc2
      clear u1 u2 u3 u4 u5 hx g1 g2 g3 g4 g5 g6 g7
      go_upto_region 11 with fail
      refine wp_region_held_drew (S := fun w' => Below wr.heap.size wr w') (by kernel_rfl) ((Below.refl _ _).drew) (fun hHeld => ?_)
      refine wpAnyH_take (i := 0) (v := .slice (some ⟨b1, o1, none⟩) n5 c1) rfl (by kernel_rfl) (by kernel_rfl) (by kernel_rfl) (fun _ _ _ h => h) (Or.inl ⟨by rfl, fun _ _ => rfl⟩) hHeld ?_
      try dsimp only
      try simp only [Act.put, List.getElem_toArray, List.getElem_cons_zero, List.getElem_cons_succ, List.setIfInBounds_toArray, List.set_cons_zero, List.set_cons_succ]
      refine wpAnyH_take (i := 1) (v := .int .i64 (i : Int)) rfl (by kernel_rfl) (by kernel_rfl) (by kernel_rfl) (fun _ _ _ h => h) (Or.inl ⟨by rfl, fun _ _ => rfl⟩) hHeld ?_
      try dsimp only
      try simp only [Act.put, List.getElem_toArray, List.getElem_cons_zero, List.getElem_cons_succ, List.setIfInBounds_toArray, List.set_cons_zero, List.set_cons_succ]
      refine wpAnyH_take (i := 2) (v := .pointer (some ⟨b1, o1 + i, none⟩)) rfl (by kernel_rfl) (by kernel_rfl) (by kernel_rfl) (fun _ _ _ h => h) (Or.inl ⟨by rfl, fun w _ => by go_simp⟩) hHeld ?_
      try dsimp only
      try simp only [Act.put, List.getElem_toArray, List.getElem_cons_zero, List.getElem_cons_succ, List.setIfInBounds_toArray, List.set_cons_zero, List.set_cons_succ]
      refine wpAnyH_take (i := 3) (v := .int .i64 z1) rfl (by kernel_rfl) (by kernel_rfl) (by kernel_rfl) (fun _ _ _ h => h) (Or.inl ⟨by rfl, fun w hw => by have hc : w.cell? ⟨b1, o1 + i, none⟩ = some (.int .i64 z1) := (hw.cell (p := ⟨b1, o1 + i, none⟩) hb1).trans hc1; go_simp⟩) hHeld ?_
      try dsimp only
      try simp only [Act.put, List.getElem_toArray, List.getElem_cons_zero, List.getElem_cons_succ, List.setIfInBounds_toArray, List.set_cons_zero, List.set_cons_succ]
      refine wpAnyH_take (i := 4) (v := .int .u64 (x.off : Int)) rfl (by kernel_rfl) (by kernel_rfl) (by kernel_rfl) (fun _ _ _ h => h) (yb_cv rfl 2 33 (.tmp 62) rfl _ _ rfl (fun w => c_iuA z1 x HF.out w)) hHeld ?_
      try dsimp only
      try simp only [Act.put, List.getElem_toArray, List.getElem_cons_zero, List.getElem_cons_succ, List.setIfInBounds_toArray, List.set_cons_zero, List.set_cons_succ]
      refine wpAnyH_take (i := 5) (v := .slice (some ⟨b2, o2, none⟩) n5 c2) rfl (by kernel_rfl) (by kernel_rfl) (by kernel_rfl) (fun _ _ _ h => h) (Or.inl ⟨by rfl, fun _ _ => rfl⟩) hHeld ?_
      try dsimp only
      try simp only [Act.put, List.getElem_toArray, List.getElem_cons_zero, List.getElem_cons_succ, List.setIfInBounds_toArray, List.set_cons_zero, List.set_cons_succ]
      refine wpAnyH_take (i := 6) (v := .int .i64 (i : Int)) rfl (by kernel_rfl) (by kernel_rfl) (by kernel_rfl) (fun _ _ _ h => h) (Or.inl ⟨by rfl, fun _ _ => rfl⟩) hHeld ?_
      try dsimp only
      try simp only [Act.put, List.getElem_toArray, List.getElem_cons_zero, List.getElem_cons_succ, List.setIfInBounds_toArray, List.set_cons_zero, List.set_cons_succ]
      refine wpAnyH_take (i := 7) (v := .pointer (some ⟨b2, o2 + i, none⟩)) rfl (by kernel_rfl) (by kernel_rfl) (by kernel_rfl) (fun _ _ _ h => h) (Or.inl ⟨by rfl, fun w _ => by go_simp⟩) hHeld ?_
      try dsimp only
      try simp only [Act.put, List.getElem_toArray, List.getElem_cons_zero, List.getElem_cons_succ, List.setIfInBounds_toArray, List.set_cons_zero, List.set_cons_succ]
      refine wpAnyH_take (i := 8) (v := .int .i64 x.part) rfl (by kernel_rfl) (by kernel_rfl) (by kernel_rfl) (fun _ _ _ h => h) (Or.inl ⟨by rfl, fun w hw => by have hc : w.cell? ⟨b2, o2 + i, none⟩ = some (.int .i64 x.part) := (hw.cell (p := ⟨b2, o2 + i, none⟩) hb2).trans hc2; go_simp⟩) hHeld ?_
      try dsimp only
      try simp only [Act.put, List.getElem_toArray, List.getElem_cons_zero, List.getElem_cons_succ, List.setIfInBounds_toArray, List.set_cons_zero, List.set_cons_succ]
      refine wpAnyH_take (i := 9) (v := .slice (some ⟨b3, o3, none⟩) n5 c3) rfl (by kernel_rfl) (by kernel_rfl) (by kernel_rfl) (fun _ _ _ h => h) (Or.inl ⟨by rfl, fun _ _ => rfl⟩) hHeld ?_
      try dsimp only
      try simp only [Act.put, List.getElem_toArray, List.getElem_cons_zero, List.getElem_cons_succ, List.setIfInBounds_toArray, List.set_cons_zero, List.set_cons_succ]
      refine wpAnyH_take (i := 10) (v := .int .i64 (i : Int)) rfl (by kernel_rfl) (by kernel_rfl) (by kernel_rfl) (fun _ _ _ h => h) (Or.inl ⟨by rfl, fun _ _ => rfl⟩) hHeld ?_
      try dsimp only
      try simp only [Act.put, List.getElem_toArray, List.getElem_cons_zero, List.getElem_cons_succ, List.setIfInBounds_toArray, List.set_cons_zero, List.set_cons_succ]
      refine wpAnyH_take (i := 11) (v := .pointer (some ⟨b3, o3 + i, none⟩)) rfl (by kernel_rfl) (by kernel_rfl) (by kernel_rfl) (fun _ _ _ h => h) (Or.inl ⟨by rfl, fun w _ => by go_simp⟩) hHeld ?_
      try dsimp only
      try simp only [Act.put, List.getElem_toArray, List.getElem_cons_zero, List.getElem_cons_succ, List.setIfInBounds_toArray, List.set_cons_zero, List.set_cons_succ]
      refine wpAnyH_take (i := 12) (v := .int .i64 x.time) rfl (by kernel_rfl) (by kernel_rfl) (by kernel_rfl) (fun _ _ _ h => h) (Or.inl ⟨by rfl, fun w hw => by have hc : w.cell? ⟨b3, o3 + i, none⟩ = some (.int .i64 x.time) := (hw.cell (p := ⟨b3, o3 + i, none⟩) hb3).trans hc3; go_simp⟩) hHeld ?_
      try dsimp only
      try simp only [Act.put, List.getElem_toArray, List.getElem_cons_zero, List.getElem_cons_succ, List.setIfInBounds_toArray, List.set_cons_zero, List.set_cons_succ]
      refine wpAnyH_take (i := 13) (v := .slice (some ⟨b4, o4, none⟩) n5 c4) rfl (by kernel_rfl) (by kernel_rfl) (by kernel_rfl) (fun _ _ _ h => h) (Or.inl ⟨by rfl, fun _ _ => rfl⟩) hHeld ?_
      try dsimp only
      try simp only [Act.put, List.getElem_toArray, List.getElem_cons_zero, List.getElem_cons_succ, List.setIfInBounds_toArray, List.set_cons_zero, List.set_cons_succ]
      refine wpAnyH_take (i := 14) (v := .int .i64 (i : Int)) rfl (by kernel_rfl) (by kernel_rfl) (by kernel_rfl) (fun _ _ _ h => h) (Or.inl ⟨by rfl, fun _ _ => rfl⟩) hHeld ?_
      try dsimp only
      try simp only [Act.put, List.getElem_toArray, List.getElem_cons_zero, List.getElem_cons_succ, List.setIfInBounds_toArray, List.set_cons_zero, List.set_cons_succ]
      refine wpAnyH_take (i := 15) (v := .pointer (some ⟨b4, o4 + i, none⟩)) rfl (by kernel_rfl) (by kernel_rfl) (by kernel_rfl) (fun _ _ _ h => h) (Or.inl ⟨by rfl, fun w _ => by go_simp⟩) hHeld ?_
      try dsimp only
      try simp only [Act.put, List.getElem_toArray, List.getElem_cons_zero, List.getElem_cons_succ, List.setIfInBounds_toArray, List.set_cons_zero, List.set_cons_succ]
      refine wpAnyH_take (i := 16) (v := .string (strB s4)) rfl (by kernel_rfl) (by kernel_rfl) (by kernel_rfl) (fun _ _ _ h => h) (Or.inl ⟨by rfl, fun w hw => by have hc : w.cell? ⟨b4, o4 + i, none⟩ = some (.string (strB s4)) := (hw.cell (p := ⟨b4, o4 + i, none⟩) hb4).trans hc4; go_simp⟩) hHeld ?_
      try dsimp only
      try simp only [Act.put, List.getElem_toArray, List.getElem_cons_zero, List.getElem_cons_succ, List.setIfInBounds_toArray, List.set_cons_zero, List.set_cons_succ]
      refine wpAnyH_take (i := 17) (v := .slice (some ⟨b5, o5, none⟩) n5 c5) rfl (by kernel_rfl) (by kernel_rfl) (by kernel_rfl) (fun _ _ _ h => h) (Or.inl ⟨by rfl, fun _ _ => rfl⟩) hHeld ?_
      try dsimp only
      try simp only [Act.put, List.getElem_toArray, List.getElem_cons_zero, List.getElem_cons_succ, List.setIfInBounds_toArray, List.set_cons_zero, List.set_cons_succ]
      refine wpAnyH_take (i := 18) (v := .int .i64 (i : Int)) rfl (by kernel_rfl) (by kernel_rfl) (by kernel_rfl) (fun _ _ _ h => h) (Or.inl ⟨by rfl, fun _ _ => rfl⟩) hHeld ?_
      try dsimp only
      try simp only [Act.put, List.getElem_toArray, List.getElem_cons_zero, List.getElem_cons_succ, List.setIfInBounds_toArray, List.set_cons_zero, List.set_cons_succ]
      refine wpAnyH_take (i := 19) (v := .pointer (some ⟨b5, o5 + i, none⟩)) rfl (by kernel_rfl) (by kernel_rfl) (by kernel_rfl) (fun _ _ _ h => h) (Or.inl ⟨by rfl, fun w _ => by go_simp⟩) hHeld ?_
      try dsimp only
      try simp only [Act.put, List.getElem_toArray, List.getElem_cons_zero, List.getElem_cons_succ, List.setIfInBounds_toArray, List.set_cons_zero, List.set_cons_succ]
      refine wpAnyH_take (i := 20) (v := .float .f64 x.val) rfl (by kernel_rfl) (by kernel_rfl) (by kernel_rfl) (fun _ _ _ h => h) (Or.inl ⟨by rfl, fun w hw => by have hc : w.cell? ⟨b5, o5 + i, none⟩ = some (.float .f64 x.val) := (hw.cell (p := ⟨b5, o5 + i, none⟩) hb5).trans hc5; go_simp⟩) hHeld ?_
      try dsimp only
      try simp only [Act.put, List.getElem_toArray, List.getElem_cons_zero, List.getElem_cons_succ, List.setIfInBounds_toArray, List.set_cons_zero, List.set_cons_succ]
      refine wpAnyH_take (i := 21) (v := .agg #[.int .u64 (x.off : Int), .int .i64 x.part, .int .i64 x.time, .string (strB s4), .float .f64 x.val]) rfl (by kernel_rfl) (by kernel_rfl) (by kernel_rfl) (fun _ _ _ h => h) (Or.inl ⟨by rfl, fun w _ => by go_simp⟩) hHeld ?_
      try dsimp only
      try simp only [Act.put, List.getElem_toArray, List.getElem_cons_zero, List.getElem_cons_succ, List.setIfInBounds_toArray, List.set_cons_zero, List.set_cons_succ]
      refine wpAnyH_ready (rs := [22]) (by kernel_rfl) (by simp) (AllReadyH.cons rfl (fun K hK => ?_) AllReadyH.nil)
      go_simp
      refine hK.out _ _ (hHeld.alloc ((Below.refl wr.heap.size wr).drew).size _) (fun _ => ?_)
      clear hK K
      try dsimp only
      try simp only [Act.put, List.getElem_toArray, List.getElem_cons_zero, List.getElem_cons_succ, List.setIfInBounds_toArray, List.set_cons_zero, List.set_cons_succ]
      refine wpAnyH_ready (rs := [23]) (by kernel_rfl) (by simp) (AllReadyH.cons rfl (fun K hK => ?_) AllReadyH.nil)
      rw [if_pos (by rfl)]
      refine wp_store_row 36 (.tmp 12) (.tmp 80) rfl _ #[.int .u64 (x.off : Int), .int .i64 x.part, .int .i64 x.time, .string (strB s4), .float .f64 x.val] rfl rfl _ _ (heap_alloc_new' _ _) (iEvC x) rfl (by simp [Value.oneCell']) ?_
      refine hK.out _ _ (below_setRowY (((Below.refl wr.heap.size wr).alloc (Nat.le_refl _) _).drew) (Nat.le_refl _) _) (fun _ => ?_)
      clear hK K
      refine wpAnyH_done (by kernel_rfl) ?_ _
      have hcE : x.cells.toArray = #[.int .u64 (x.off : Int), .int .i64 x.part, .int .i64 x.time, .string (strB s4), .float .f64 x.val] := by rw [HS4.out]; rfl
      rw [← hcE]
      obtain ⟨w7, hw7⟩ : ∃ w7, w7 = ((wr.alloc (.cells #[.int .u64 0, .int .i64 0, .int .i64 0, .string { data := #[] }, .float .f64 0] 36)).drew).setRow wr.heap.size x.cells.toArray := ⟨_, rfl⟩
      obtain ⟨bE, hbE⟩ : ∃ bE, bE = wr.heap.size := ⟨_, rfl⟩
      have hb7 : Below wr.heap.size wr w7 := by rw [hw7]; exact below_setRowY (((Below.refl wr.heap.size wr).alloc (Nat.le_refl _) _).drew) (Nat.le_refl _) _
      have HEV : Hid (w7.heap[bE]? = some (.cells x.cells.toArray 36 (0, 0))) := Lib.hid (by rw [hw7, hbE]; exact setRow_heap _ _ _ _ _ _ (heap_alloc_new' wr (.cells #[.int .u64 0, .int .i64 0, .int .i64 0, .string { data := #[] }, .float .f64 0] 36)))
      have HBE : Hid (bE < w7.heap.size) := Lib.hid (Array.getElem?_eq_some_iff.1 HEV.out).1
      have HR7 := Lib.hid (HRr.out.highY (S := fun _ => False) (Kept.of_below hb7) (fun _ h => h.elim))
      have HK7 := Lib.hid (KWr.out.trans (Kept.of_below hb7))
      have HB7 := Lib.hid hb7
      have HB2' : Hid (b2 < w7.heap.size) := Lib.hid (Nat.lt_of_lt_of_le HB2.out hb7.size)
      have HC2' : Hid (w7.cell? ⟨b2, o2 + i, none⟩ = some (.int .i64 x.part)) := Lib.hid ((hb7.cell (p := ⟨b2, o2 + i, none⟩) HB2.out).trans HC2.out)
      have HLR : Hid (L < bE) := Lib.hid (by rw [hbE]; exact HRR.out.lt)
      have HW7 := Lib.hid hw7; have HBB := Lib.hid hbE
      clear hw7 hbE hb7 hHeld hb1 hb2 hb3 hb4 hb5 hc1 hc2 hc3 hc4 hc5 HB2 HC2 hcE
      rw [← HW7.out, ← HBB.out]
      have HB2 := HB2'; have HC2 := HC2'
      clear HB2' HC2'
      go_upto_region 12 with fail
      rcases hfx : formB x p with _ | _
      · have HFO : Hid (formB x p = false) := Lib.hid hfx
        have HFO0 := Lib.hid hfx
        clear hfx
        refine wp_region_held_drew (S := fun w' => Below w7.heap.size w7 w') (by kernel_rfl) ((Below.refl _ _).drew) (fun hHeld => ?_)
        refine wpAnyH_take (i := 0) (v := .pointer (some ⟨g, 0, none⟩)) rfl (by kernel_rfl) (by kernel_rfl) (by kernel_rfl) (fun _ _ _ h => h) (Or.inl ⟨by rfl, fun _ _ => rfl⟩) hHeld ?_
        try dsimp only
        try simp only [Act.put, List.getElem_toArray, List.getElem_cons_zero, List.getElem_cons_succ, List.setIfInBounds_toArray, List.set_cons_zero, List.set_cons_succ]
        refine wpAnyH_take (i := 1) (v := .agg x.cells.toArray) rfl (by kernel_rfl) (by kernel_rfl) (by kernel_rfl) (fun _ _ _ h => h) (yrowY rfl 36 (.tmp 12) rfl bE rfl _ _ (0, 0) _ (fun w' hw => hw.block bE HBE.out |>.trans HEV.out) uEvB rfl (iEvC x)) hHeld ?_
        try dsimp only
        try simp only [Act.put, List.getElem_toArray, List.getElem_cons_zero, List.getElem_cons_succ, List.setIfInBounds_toArray, List.set_cons_zero, List.set_cons_succ]
        refine wpAnyH_take (i := 2) (v := .int .i64 p) rfl (by kernel_rfl) (by kernel_rfl) (by kernel_rfl) (fun _ _ _ h => h) (Or.inl ⟨by rfl, fun _ _ => rfl⟩) hHeld ?_
        try dsimp only
        try simp only [Act.put, List.getElem_toArray, List.getElem_cons_zero, List.getElem_cons_succ, List.setIfInBounds_toArray, List.set_cons_zero, List.set_cons_succ]
        refine wpAnyH_ready (rs := [3]) (by kernel_rfl) (by simp) (AllReadyH.cons rfl (fun K hK => ?_) AllReadyH.nil)
        go_simp
        refine (form_any x p _).mono ?_
        rintro e v1 ⟨rfl, hb1⟩
        replace hHeld := below_to hHeld hb1
        rw [HFO.out]
        refine hK.out _ _ hHeld (fun hHeld => ?_)
        clear hK K
        try dsimp only
        try simp only [Act.put, List.getElem_toArray, List.getElem_cons_zero, List.getElem_cons_succ, List.setIfInBounds_toArray, List.set_cons_zero, List.set_cons_succ]
        refine wpAnyH_take (i := 4) (v := .bool false) rfl (by kernel_rfl) (by kernel_rfl) (by kernel_rfl) (fun _ _ _ h => h) (Or.inl ⟨by rfl, fun _ _ => rfl⟩) hHeld ?_
        try dsimp only
        try simp only [Act.put, List.getElem_toArray, List.getElem_cons_zero, List.getElem_cons_succ, List.setIfInBounds_toArray, List.set_cons_zero, List.set_cons_succ]
        refine wpAnyH_take (i := 5) (v := undef) rfl (by kernel_rfl) (by kernel_rfl) (by kernel_rfl) (fun _ _ _ h => h) (Or.inr ⟨by rfl, rfl⟩) hHeld ?_
        try dsimp only
        try simp only [Act.put, List.getElem_toArray, List.getElem_cons_zero, List.getElem_cons_succ, List.setIfInBounds_toArray, List.set_cons_zero, List.set_cons_succ]
        refine wpAnyH_take (i := 6) (v := undef) rfl (by kernel_rfl) (by kernel_rfl) (by kernel_rfl) (fun _ _ _ h => h) (Or.inr ⟨by rfl, rfl⟩) hHeld ?_
        try dsimp only
        try simp only [Act.put, List.getElem_toArray, List.getElem_cons_zero, List.getElem_cons_succ, List.setIfInBounds_toArray, List.set_cons_zero, List.set_cons_succ]
        refine wpAnyH_take (i := 7) (v := undef) rfl (by kernel_rfl) (by kernel_rfl) (by kernel_rfl) (fun _ _ _ h => h) (Or.inr ⟨by rfl, rfl⟩) hHeld ?_
        try dsimp only
        try simp only [Act.put, List.getElem_toArray, List.getElem_cons_zero, List.getElem_cons_succ, List.setIfInBounds_toArray, List.set_cons_zero, List.set_cons_succ]
        refine wpAnyH_take (i := 8) (v := undef) rfl (by kernel_rfl) (by kernel_rfl) (by kernel_rfl) (fun _ _ _ h => h) (Or.inr ⟨by rfl, rfl⟩) hHeld ?_
        try dsimp only
        try simp only [Act.put, List.getElem_toArray, List.getElem_cons_zero, List.getElem_cons_succ, List.setIfInBounds_toArray, List.set_cons_zero, List.set_cons_succ]
        refine wpAnyH_take (i := 9) (v := undef) rfl (by kernel_rfl) (by kernel_rfl) (by kernel_rfl) (fun _ _ _ h => h) (Or.inr ⟨by rfl, rfl⟩) hHeld ?_
        try dsimp only
        try simp only [Act.put, List.getElem_toArray, List.getElem_cons_zero, List.getElem_cons_succ, List.setIfInBounds_toArray, List.set_cons_zero, List.set_cons_succ]
        refine wpAnyH_take (i := 10) (v := undef) rfl (by kernel_rfl) (by kernel_rfl) (by kernel_rfl) (fun _ _ _ h => h) (Or.inr ⟨by rfl, rfl⟩) hHeld ?_
        try dsimp only
        try simp only [Act.put, List.getElem_toArray, List.getElem_cons_zero, List.getElem_cons_succ, List.setIfInBounds_toArray, List.set_cons_zero, List.set_cons_succ]
        refine wpAnyH_take (i := 11) (v := undef) rfl (by kernel_rfl) (by kernel_rfl) (by kernel_rfl) (fun _ _ _ h => h) (Or.inr ⟨by rfl, rfl⟩) hHeld ?_
        try dsimp only
        try simp only [Act.put, List.getElem_toArray, List.getElem_cons_zero, List.getElem_cons_succ, List.setIfInBounds_toArray, List.set_cons_zero, List.set_cons_succ]
        refine wpAnyH_take (i := 12) (v := .bool false) rfl (by kernel_rfl) (by kernel_rfl) (by kernel_rfl) (fun _ _ _ h => h) (yb_pick rfl (.tmp 85) (.tmp 92) (.const (.bool false)) rfl false _ rfl rfl) hHeld ?_
        try dsimp only
        try simp only [Act.put, List.getElem_toArray, List.getElem_cons_zero, List.getElem_cons_succ, List.setIfInBounds_toArray, List.set_cons_zero, List.set_cons_succ]
        refine wpAnyH_ready (rs := [13]) (by kernel_rfl) (by simp) (AllReadyH.cons rfl (fun K hK => ?_) AllReadyH.nil)
        go_simp
        obtain ⟨A9, C9, hRA⟩ := HR7.out.highY (S := fun _ => False) (Kept.of_below hHeld) (fun _ h => h.elim)
        refine (check_false g C9 A9 qz _ (Lib.hid hRA)).mono ?_
        rintro e v2 ⟨rfl, h1, h2⟩
        exact ⟨rfl, .inr ⟨⟨x, List.mem_of_getElem? HX.out, HFO0.out⟩, rfl, h1, (HK7.out.trans (Kept.of_below hHeld)).trans h2⟩⟩
      · have HFO : Hid (formB x p = true) := Lib.hid hfx
        have HFX := Lib.hid hfx
        clear hfx
        refine wp_region_held_drew (S := fun w' => Below w7.heap.size w7 w') (by kernel_rfl) ((Below.refl _ _).drew) (fun hHeld => ?_)
        refine wpAnyH_take (i := 0) (v := .pointer (some ⟨g, 0, none⟩)) rfl (by kernel_rfl) (by kernel_rfl) (by kernel_rfl) (fun _ _ _ h => h) (Or.inl ⟨by rfl, fun _ _ => rfl⟩) hHeld ?_
        try dsimp only
        try simp only [Act.put, List.getElem_toArray, List.getElem_cons_zero, List.getElem_cons_succ, List.setIfInBounds_toArray, List.set_cons_zero, List.set_cons_succ]
        refine wpAnyH_take (i := 1) (v := .agg x.cells.toArray) rfl (by kernel_rfl) (by kernel_rfl) (by kernel_rfl) (fun _ _ _ h => h) (yrowY rfl 36 (.tmp 12) rfl bE rfl _ _ (0, 0) _ (fun w' hw => hw.block bE HBE.out |>.trans HEV.out) uEvB rfl (iEvC x)) hHeld ?_
        try dsimp only
        try simp only [Act.put, List.getElem_toArray, List.getElem_cons_zero, List.getElem_cons_succ, List.setIfInBounds_toArray, List.set_cons_zero, List.set_cons_succ]
        refine wpAnyH_take (i := 2) (v := .int .i64 p) rfl (by kernel_rfl) (by kernel_rfl) (by kernel_rfl) (fun _ _ _ h => h) (Or.inl ⟨by rfl, fun _ _ => rfl⟩) hHeld ?_
        try dsimp only
        try simp only [Act.put, List.getElem_toArray, List.getElem_cons_zero, List.getElem_cons_succ, List.setIfInBounds_toArray, List.set_cons_zero, List.set_cons_succ]
        refine wpAnyH_ready (rs := [3]) (by kernel_rfl) (by simp) (AllReadyH.cons rfl (fun K hK => ?_) AllReadyH.nil)
        go_simp
        refine (form_any x p _).mono ?_
        rintro e v1 ⟨rfl, hb1⟩
        replace hHeld := below_to hHeld hb1
        rw [HFO.out]
        refine hK.out _ _ hHeld (fun hHeld => ?_)
        clear hK K
        try dsimp only
        try simp only [Act.put, List.getElem_toArray, List.getElem_cons_zero, List.getElem_cons_succ, List.setIfInBounds_toArray, List.set_cons_zero, List.set_cons_succ]
        refine wpAnyH_take (i := 4) (v := .bool true) rfl (by kernel_rfl) (by kernel_rfl) (by kernel_rfl) (fun _ _ _ h => h) (Or.inl ⟨by rfl, fun _ _ => rfl⟩) hHeld ?_
        try dsimp only
        try simp only [Act.put, List.getElem_toArray, List.getElem_cons_zero, List.getElem_cons_succ, List.setIfInBounds_toArray, List.set_cons_zero, List.set_cons_succ]
        refine wpAnyH_take (i := 5) (v := .pointer (some ⟨bE, 1, none⟩)) rfl (by kernel_rfl) (by kernel_rfl) (by kernel_rfl) (fun _ _ _ h => h) (Or.inl ⟨by rfl, fun w _ => by go_simp⟩) hHeld ?_
        try dsimp only
        try simp only [Act.put, List.getElem_toArray, List.getElem_cons_zero, List.getElem_cons_succ, List.setIfInBounds_toArray, List.set_cons_zero, List.set_cons_succ]
        refine wpAnyH_take (i := 6) (v := .int .i64 x.part) rfl (by kernel_rfl) (by kernel_rfl) (by kernel_rfl) (fun _ _ _ h => h) (Or.inl ⟨by rfl, fun w hw => by have hc : w.cell? ⟨bE, 1, none⟩ = some (.int .i64 x.part) := EvRow.c (x := x) ((hw.block bE HBE.out).trans HEV.out) 1 _ rfl; go_simp⟩) hHeld ?_
        try dsimp only
        try simp only [Act.put, List.getElem_toArray, List.getElem_cons_zero, List.getElem_cons_succ, List.setIfInBounds_toArray, List.set_cons_zero, List.set_cons_succ]
        refine wpAnyH_take (i := 7) (v := .slice (some ⟨b2, o2, none⟩) n5 c2) rfl (by kernel_rfl) (by kernel_rfl) (by kernel_rfl) (fun _ _ _ h => h) (Or.inl ⟨by rfl, fun _ _ => rfl⟩) hHeld ?_
        try dsimp only
        try simp only [Act.put, List.getElem_toArray, List.getElem_cons_zero, List.getElem_cons_succ, List.setIfInBounds_toArray, List.set_cons_zero, List.set_cons_succ]
        refine wpAnyH_take (i := 8) (v := .int .i64 (i : Int)) rfl (by kernel_rfl) (by kernel_rfl) (by kernel_rfl) (fun _ _ _ h => h) (Or.inl ⟨by rfl, fun _ _ => rfl⟩) hHeld ?_
        try dsimp only
        try simp only [Act.put, List.getElem_toArray, List.getElem_cons_zero, List.getElem_cons_succ, List.setIfInBounds_toArray, List.set_cons_zero, List.set_cons_succ]
        refine wpAnyH_take (i := 9) (v := .pointer (some ⟨b2, o2 + i, none⟩)) rfl (by kernel_rfl) (by kernel_rfl) (by kernel_rfl) (fun _ _ _ h => h) (Or.inl ⟨by rfl, fun w _ => by go_simp⟩) hHeld ?_
        try dsimp only
        try simp only [Act.put, List.getElem_toArray, List.getElem_cons_zero, List.getElem_cons_succ, List.setIfInBounds_toArray, List.set_cons_zero, List.set_cons_succ]
        refine wpAnyH_take (i := 10) (v := .int .i64 x.part) rfl (by kernel_rfl) (by kernel_rfl) (by kernel_rfl) (fun _ _ _ h => h) (Or.inl ⟨by rfl, fun w hw => by have hc : w.cell? ⟨b2, o2 + i, none⟩ = some (.int .i64 x.part) := (hw.cell (p := ⟨b2, o2 + i, none⟩) HB2.out).trans HC2.out; go_simp⟩) hHeld ?_
        try dsimp only
        try simp only [Act.put, List.getElem_toArray, List.getElem_cons_zero, List.getElem_cons_succ, List.setIfInBounds_toArray, List.set_cons_zero, List.set_cons_succ]
        refine wpAnyH_take (i := 11) (v := .bool true) rfl (by kernel_rfl) (by kernel_rfl) (by kernel_rfl) (fun _ _ _ h => h) (yb_bin rfl .eql 2 2 (.tmp 87) (.tmp 91) rfl _ _ _ rfl rfl (fun _ => rfl) (b_eqI _)) hHeld ?_
        try dsimp only
        try simp only [Act.put, List.getElem_toArray, List.getElem_cons_zero, List.getElem_cons_succ, List.setIfInBounds_toArray, List.set_cons_zero, List.set_cons_succ]
        refine wpAnyH_take (i := 12) (v := .bool true) rfl (by kernel_rfl) (by kernel_rfl) (by kernel_rfl) (fun _ _ _ h => h) (yb_pick rfl (.tmp 85) (.tmp 92) (.const (.bool false)) rfl true _ rfl rfl) hHeld ?_
        try dsimp only
        try simp only [Act.put, List.getElem_toArray, List.getElem_cons_zero, List.getElem_cons_succ, List.setIfInBounds_toArray, List.set_cons_zero, List.set_cons_succ]
        refine wpAnyH_ready (rs := [13]) (by kernel_rfl) (by simp) (AllReadyH.cons rfl (fun K hK => ?_) AllReadyH.nil)
        go_simp
        refine (check_true _ _).mono ?_
        rintro e v2 ⟨rfl, rfl⟩
        refine hK.out _ _ hHeld (fun hHeld => ?_)
        clear hK K
        refine wpAnyH_done (by kernel_rfl) ?_ _
        have HB8 := Lib.hid hHeld
        have HE8 := Lib.hid ((hHeld.block bE HBE.out).trans HEV.out)
        have HR8 : Hid (RowE v1 L n5 ((l.take i))) := Lib.hid ((HRR.out.keep (S := fun _ => False) (Kept.of_below HB7.out) (fun h => h)).keep (S := fun _ => False) (Kept.of_below hHeld) (fun h => h))
        have hmi : (l.take i).length = i := by rw [List.length_take]; omega
        have hth := HR8.out.there (by omega) x
        have hpu := HR8.out.put (by omega) x
        rw [hmi] at hth hpu
        have HTH := Lib.hid hth
        have HPU : Hid (RowE (v1.setCells L (i * 5) x.cells.toArray.toList) L n5 (((l.take i)) ++ [x])) := Lib.hid hpu
        have HIC := Lib.hid (iEvC x)
        have HON := Lib.hid (oneEvB x)
        clear hHeld HEV HBE hth hpu HR8 hmi
        generalize x.cells.toArray = CE at *
        go_wp2_with (first
          | (refine wpList_load_row rfl 36 (.tmp 12) rfl bE rfl _ CE (0, 0) _ HE8.out uEvB rfl HIC.out ?_)
          | (refine wpList_store_mid rfl 36 (.tmp 98) (.tmp 97) rfl L (i * 5) CE rfl rfl HTH.out HIC.out HON.out ?_))
        go_roundw
        case rel =>
          have htk : l.take (i + 1) = l.take i ++ [x] := by rw [List.take_add_one, HX.out]; rfl
          refine ⟨i + 1, by omega, by go_num, ?_, ?_, fun y hy => ?_⟩
          · rw [htk]; exact HPU.out
          · exact ((HKK.out.trans (Kept.of_below HB7.out)).trans (Kept.of_below HB8.out)).trans (kept_setCells L _ _ _)
          · rw [htk, List.mem_append] at hy
            rcases hy with h | h
            · exact HFF.out y h
            · rw [List.mem_singleton] at h; subst h; exact HFX.out
        case measure => simp [intOf]; omega
    · obtain rfl : i = n5 := by omega
      have hii : ¬ (i : Int) < (i : Int) := by omega
      have htk : l.take i = l := List.take_of_length_le (by have := hn.out; omega)
      rw [htk] at HRR HFF
      go_wp2
      go_ret
      exact .inl ⟨HFF.out, L, i, rfl, hn.out, HRR.out.evAt, HRr.out, KWr.out, HWS.out⟩
end Go.Proofs.YtpobfgokikfmbaaDoor

set_option linter.unusedSimpArgs false
set_option linter.unusedVariables false
set_option maxRecDepth 8000
namespace Go.Proofs.YtpobfgokikfmbaaDoor
open Go.RowKit Go.WideShapes Col
namespace Col
theorem runS_pre {σ α : Type} {step : σ → Option (α × σ)} {k : Nat} {s s1 : σ} {xs : List α} (h : runS step k s = some (xs, s1)) : ∀ n, k ≤ n → ∀ ys s2, runS step n s = some (ys, s2) → ys.take k = xs := by
  intro n hn
  induction n with
  | zero =>
    intro ys s2 h2
    obtain rfl : k = 0 := by omega
    rw [h] at h2; injection h2 with h2; injection h2 with h2 h3
    rw [← h2]; have := runS_len h; exact List.take_of_length_le (by omega)
  | succ n ih =>
    intro ys s2 h2
    by_cases hk : k = n + 1
    · subst hk
      rw [h] at h2; injection h2 with h2; injection h2 with h2 h3
      rw [← h2]; have := runS_len h; exact List.take_of_length_le (by omega)
    · rw [runS] at h2
      rcases hr : runS step n s with _ | ⟨zs, s3⟩
      · rw [hr] at h2; cases h2
      · rw [hr] at h2
        simp only [Option.bind_some] at h2
        rcases hs : step s3 with _ | ⟨z, s4⟩
        · rw [hs] at h2; cases h2
        · rw [hs] at h2
          injection h2 with h2; injection h2 with h2 h3
          have h4 := ih (by omega) zs s3 hr
          have h5 := runS_len hr
          rw [← h2, List.take_append_of_le_length (by omega)]; exact h4
/-- Two texts that don't rise: there are none. -/
theorem rU_fall {q r : List Nat} {n k : Nat} {l : List (List Nat)} {s' : List Nat} {s t : List Nat} (h : uP 4096 q = some (n, r)) (hr : runS (tP 32) (k + 1) r = some (l, s')) (hk : k + 1 ≤ n) (j : Nat) (hj : j + 1 = k) (hs : l[j]? = some s) (ht : l[k]? = some t) (hls : tls s t = false) : rU q = none := by
  rcases hr2 : runS (tP 32) n r with _ | ⟨ys, s2⟩
  · exact rU_no2 h hr2
  · rcases hri : rising ys with _ | _
    · exact rU_no3 h hr2 hri
    · have h3 := runS_pre hr n hk ys s2 hr2
      have h4 : ys[j]? = some s := by rw [← h3, List.getElem?_take] at hs; split at hs; exact hs; cases hs
      have h5 : ys[j + 1]? = some t := by rw [hj]; rw [← h3, List.getElem?_take] at ht; split at ht; exact ht; cases ht
      have := rising_get hri j s t h4 h5
      rw [hls] at this; cases this
theorem rising_snoc {l : List (List Nat)} {t : List Nat} (h : rising l = true) (h2 : ∀ (j : Nat) (s : List Nat), j + 1 = l.length → l[j]? = some s → tls s t = true) : rising (l ++ [t]) = true := by
  refine rising_of fun i s t2 hs ht => ?_
  have hi : i < l.length := by
    have := (List.getElem?_eq_some_iff.1 ht).1
    simp at this; omega
  rw [List.getElem?_append_left hi] at hs
  by_cases e : i + 1 < l.length
  · rw [List.getElem?_append_left e] at ht
    exact rising_get h i s t2 hs ht
  · have e2 : i + 1 = l.length := by omega
    rw [e2] at ht
    simp at ht
    subst ht
    exact h2 i s e2 hs
theorem tls_nil (s : List Nat) : tls s [] = false := by
  unfold tls; rw [str_nil]
  have e : ({ data := #[] } : ByteArray).toList = [] := by rw [ByteArray.toList_eq]
  rw [e]
  rcases (strB s).toList <;> rfl
theorem rTL_no {q r : List Nat} {ts : List (List Nat)} (h : rU q = some (ts, r)) (h2 : riL r = none) : rTL q = none := by
  rcases hi : rI r with _ | ⟨xs, _ | ⟨y, ys⟩⟩
  · exact rTL_none (rT_no2 h hi)
  · rw [riL_some hi] at h2; cases h2
  · rcases ho : okT ts xs with _ | _
    · exact rTL_none (rT_no3 h hi ho)
    · exact rTL_left (rT_yes h hi ho) (by simp)
end Col
/-- How the document's ReadTexts ends. -/
def RTRef (w : World) (o : Option (List (List Nat))) (e : Ending) (w' : World) : Prop := match o with
  | some l => (∃ A' n' cap', e = .returned (.tuple #[.slice A' n' cap', .bool true]) ∧ OwnX w' w.heap.size A' n' cap' l) ∧ Below w.heap.size w w'
  | none => e = .returned (.tuple #[.slice none 0 0, .bool false]) ∧ Below w.heap.size w w'
/-- The texts that there are, read so far. -/
def RA1 (w : World) (B m C : Nat) (A : Option Addr) (p q r : List Nat) (n : Nat) (u v : Value) (wr : World) : Prop :=
  ∃ (k : Nat) (A' : Option Addr) (cap' : Nat) (l : List (List Nat)) (s' : Option (List Nat)), k ≤ n ∧ v = .int .u64 (k : Int) ∧ u = .slice A' k cap' ∧ OwnX wr B A' k cap' l ∧ RRA wr m A C p s' ∧ Kept (Only m) w wr ∧
    ((∃ r', s' = some r' ∧ uP 4096 q = some (n, r) ∧ runS (tP 32) k r = some (l, r') ∧ rising l = true) ∨ (s' = none ∧ rU q = none))
structure RA2 (w : World) (B ub B3 : Nat) (A1 : Option Addr) (n1 c1 : Nat) (ts : List (List Nat)) (A2 : Option Addr) (n2 c2 : Nat) (xs : List Int) (A3 : Option Addr) (k c3 : Nat) (wr : World) : Prop where
  own1 : OwnX wr B A1 n1 c1 ts
  own2 : OwnI wr B A2 n2 c2 xs
  off1 : ∀ b, A1.map (·.block) = some b → b < ub
  off2 : ∀ b, A2.map (·.block) = some b → b < ub
  hub : w.heap.size ≤ ub
  ubB : ub < B3
  used : RowBo wr ub (usedL n1 (xs.take k))
  own3 : OwnX wr B3 A3 k c3 ((xs.take k).map (pickT ts))
  below : Below w.heap.size w wr
  size : B3 ≤ wr.heap.size
  ok : ∀ (j : Nat) (x : Int), j < k → xs[j]? = some x → 0 ≤ x ∧ x < (n1 : Int)
set_option maxHeartbeats 8000000 in
theorem refReadTexts (A : Option Addr) (C : Nat) (p : List Nat) (np : Nat) (hnp : Hid (np = p.length)) (hn4 : np ≤ 1000000) (hC : np ≤ C) (hC' : C ≤ maxLen) (w : World) (HA : Hid (ByAt w A p)) :
    Calls Tryd.prog 16 #[.slice A np C] w (RTRef w (rTL p)) := by
  obtain ⟨ib, hib, hb0, hb1, hb2⟩ := info_parts infoBool
  obtain ⟨m, hm⟩ : ∃ m, m = w.heap.size := ⟨_, rfl⟩
  obtain ⟨w1, hw1⟩ : ∃ w1, w1 = w.alloc (.cells #[.slice A np C, .int .i64 0] 47) := ⟨_, rfl⟩
  have HR1 : Hid (RRA w1 m A C p (some p)) := Lib.hid (by rw [hw1, hm, hnp.out]; exact rra_new (by have := hnp.out; omega) (by have := hnp.out; omega) hC' HA.out)
  have HB1 : Hid (Below w.heap.size w w1) := Lib.hid (by rw [hw1]; exact (Below.refl w.heap.size w).alloc (Nat.le_refl _) _)
  have HSZ : Hid (w1.heap.size = m + 1) := Lib.hid (by rw [hw1, hm]; simp)
  have HBLK : Hid (∀ a, A = some a → 0 < p.length → a.block < m) := Lib.hid fun a ha h0 => by
    obtain ⟨-, g, off, e, hg, -⟩ := HA.out 0 (p[0]'h0) (List.getElem?_eq_getElem h0)
    rw [ha] at e; injection e with e; rw [e, hm]; exact hg
  have HM := Lib.hid hm
  have HW : Hid (w.alloc (.cells #[.slice A np C, .int .i64 0] 47) = w1) := Lib.hid hw1.symm
  obtain ⟨n, hn⟩ : ∃ n, n = (uintS 4096 (some p)).1 := ⟨_, rfl⟩
  obtain ⟨s1, hs1⟩ : ∃ s1, s1 = (uintS 4096 (some p)).2 := ⟨_, rfl⟩
  have HU : Hid (Calls Tryd.prog 38 #[.pointer (some ⟨m, 0, none⟩), .int .u64 4096] w1 (RByte w1 m A C p (.int .u64 (n : Int)) s1)) := Lib.hid (by
    have := ruint_any m C A p 4096 (some p) w1 HR1
    rw [← hn, ← hs1] at this; exact this)
  have HSTEP : Hid ((∃ r, s1 = some r ∧ uP 4096 p = some (n, r)) ∨ (s1 = none ∧ n = 0 ∧ rU p = none)) := Lib.hid (by
    rcases hu : uP 4096 p with _ | ⟨n', r⟩
    · rw [uintS_none hu] at hn hs1; exact .inr ⟨hs1, hn, rU_no1 hu⟩
    · rw [uintS_some hu] at hn hs1; subst hn; exact .inl ⟨r, hs1, rfl⟩)
  have hn4096 : n ≤ 4096 := by
    rcases HSTEP.out with ⟨r, -, h⟩ | ⟨-, h, -⟩
    · exact (uP_some h).2
    · omega
  clear hn hs1 hw1 hm
  go_enter Tryd.func16, Tryd.ntmps16
  go_upto_region 2 with fail
  rw [HW.out, ← HM.out]
  go_wp2_with (go_at_call 38; (with_reducible refine (HU.out).mono ?_); rintro e w2 hy; obtain ⟨rfl, HR2, HK2⟩ := hy.at; clear hy)
  obtain ⟨B, hB⟩ : ∃ B, B = w1.heap.size := ⟨_, rfl⟩
  have HBE := Lib.hid hB
  have hmB : m < B := by rw [hB, HSZ.out]; omega
  clear hB
  have HFAIL : Hid (∀ w9 : World, rTL p = none → Kept (Only m) w1 w9 → RTRef w (rTL p) (.returned (.tuple #[.slice none 0 0, .bool false])) w9) := Lib.hid fun w9 h1 h2 => by
    rw [h1]; exact ⟨rfl, HB1.out.trans (h2.below (B := w.heap.size) (by rw [HSZ.out, HM.out]; omega) fun k hk => by have hk : k = m := hk; rw [hk, HM.out]; exact Nat.le_refl _)⟩
  obtain ⟨r, hr⟩ : ∃ r, r = s1.getD [] := ⟨_, rfl⟩
  have HST : Hid (RA1 w1 B m C A p p r n (.slice none 0 0) (.int .u64 0) w2) := Lib.hid ⟨0, none, 0, [], s1, Nat.zero_le _, rfl, rfl, ⟨World.ownsRow_nil _ _ _ 1, fun x hx => by cases hx⟩, HR2.out, HK2.out, by
    rcases HSTEP.out with ⟨r', h1, h2⟩ | ⟨h1, -, h2⟩
    · rw [h1] at hr; exact .inl ⟨r', h1, by rw [hr]; exact h2, by rw [hr]; rfl, rfl⟩
    · exact .inr ⟨h1, h2⟩⟩
  clear HSTEP hr HR2 HK2 HU
  go_loopw [6, 7] (fun u v wr => RA1 w1 B m C A p p r n u v wr) (fun _ v _ => n - (intOf v).toNat)
  case atStart => exact HST.out
  case round =>
    obtain ⟨k, A', cap', l, s', hk, rfl, rfl, ho, hr, hkp, hcase⟩ := hrel
    have HO := Lib.hid ho; have HR := Lib.hid hr; have HK := Lib.hid hkp
    clear ho hr hkp HST
    have c1 := HR.out.c1
    by_cases hgo : k < n ∧ ∃ r', s' = some r'
    · obtain ⟨hlt, r', rfl⟩ := hgo
      obtain ⟨hup, hrun, hris⟩ : uP 4096 p = some (n, r) ∧ runS (tP 32) k r = some (l, r') ∧ rising l = true := by
        rcases hcase with ⟨r2, h1, h2⟩ | ⟨h1, -⟩
        · injection h1 with h1; subst h1; exact h2
        · cases h1
      clear hcase
      have HUPN := Lib.hid hup
      clear hup
      obtain ⟨z, hz, hzl⟩ := atR_pos HR.out
      rw [hz] at c1
      have hz0 : (0 : Int) ≤ (z : Int) := by omega
      obtain ⟨t, ht⟩ : ∃ t, t = (textS 32 (some r')).1 := ⟨_, rfl⟩
      obtain ⟨s2, hs2⟩ : ∃ s2, s2 = (textS 32 (some r')).2 := ⟨_, rfl⟩
      have HT : Hid (Calls Tryd.prog 14 #[.pointer (some ⟨m, 0, none⟩), .int .i64 32] wr (RByte wr m A C p (.string (strB t)) s2)) := Lib.hid (by
        have := rtext_any m C A p 32 (by decide) (some r') wr HR
        rw [← ht, ← hs2] at this; exact this)
      have hlk : l.length = k := runS_len hrun
      have HLK := Lib.hid hlk
      have HRUN := Lib.hid hrun; have HRIS := Lib.hid hris
      have HNX : Hid (WfT t ∧ ((∃ r2, s2 = some r2 ∧ runS (tP 32) (k + 1) r = some (l ++ [t], r2)) ∨ (s2 = none ∧ t = [] ∧ rU p = none))) := Lib.hid (by
        rcases htp : tP 32 r' with _ | ⟨t2, r2⟩
        · rw [textS_none htp] at ht hs2
          exact ⟨by rw [ht]; intro c hc; (cases hc), .inr ⟨hs2, ht, rU_no2 HUPN.out (runS_none hrun htp n hlt)⟩⟩
        · rw [textS_some htp] at ht hs2
          refine ⟨by rw [ht]; exact fun c hc => HR.out.wf c ((tP_left htp).2.1 c hc), .inl ⟨r2, hs2, by rw [ht]; exact runS_some hrun htp⟩⟩)
      have hbs0 := HK.out.size
      clear hrun hris ht hs2 hz hzl
      by_cases hgood : k = 0 ∨ ∃ s, l[k - 1]? = some s ∧ tls s t = true
      · have HRIS2 : Hid (∀ r2, s2 = some r2 → rising (l ++ [t]) = true) := Lib.hid fun r2 _ => rising_snoc HRIS.out fun j s hj hs => by
          rcases hgood with h | ⟨s3, h1, h2⟩
          · omega
          · rw [show k - 1 = j by omega, hs] at h1; injection h1 with h1; subst h1; exact h2
        have HAX := Lib.hid (fun w9 => tx_one w9 t HNX.out.1)
        have HKB : Hid (∀ w9 : World, Kept (fun _ => False) w9 (w9.alloc (.cells #[.string (strB t)] 9))) := Lib.hid fun w9 => (Kept.refl _ _).alloc _
        have hk0c : k = 0 ∨ ∃ (j : Nat) (g off : Nat) (s : List Nat), k = j + 1 ∧ A' = some ⟨g, off, none⟩ ∧ g < wr.heap.size ∧ B ≤ g ∧ wr.cell? ⟨g, off + j, none⟩ = some (.string (strB s)) ∧ tls s t = true := by
          rcases hgood with h | ⟨s3, h1, h2⟩
          · exact .inl h
          · by_cases h0 : k = 0
            · exact .inl h0
            · obtain ⟨g, off, e, hg, hc⟩ := HO.out.isAt.spot (by omega)
              exact .inr ⟨k - 1, g, off, s3, by omega, e, hg, HO.out.base g (by rw [e]; rfl), hc (k - 1) s3 h1, h2⟩
        have HREL : Hid (∀ (A3 : Option Addr) (c3 : Nat) (w4 w5 : World), RRA w4 m A C p s2 → Kept (Only m) wr w4 → OwnX w5 B A3 (k + 1) c3 (l ++ [t]) → Kept (fun b => A'.map (·.block) = some b) (w4.alloc (.cells #[.string (strB t)] 9)) w5 → RA1 w1 B m C A p p r n (.slice A3 (k + 1) c3) (.int .u64 ((k + 1 : Nat) : Int)) w5) := Lib.hid fun A3 c3 w4 w5 h1 h2 h3 h4 => by
          have hb := HO.out.base
          have hm1 : ¬ A'.map (·.block) = some m := fun e => by have := hb m e; omega
          have ho1 : Off (fun k => A'.map (·.block) = some k) A p := fun a ha h0 e => by have := hb _ e; have := HBLK.out a ha h0; omega
          refine ⟨k + 1, A3, c3, l ++ [t], s2, by omega, rfl, rfl, h3, (h1.keep (HKB.out w4) (fun e => e) (fun a _ _ e => e)).keep h4 hm1 ho1, ((HK.out.trans h2).trans' (HKB.out w4) (fun i h => h.elim)).trans' h4 (fun i h => .inr (by have := hb i h; rw [← HBE.out]; exact this)), ?_⟩
          rcases HNX.out.2 with ⟨r2, e1, e2⟩ | ⟨e1, -, e2⟩
          · exact .inl ⟨r2, e1, HUPN.out, e2, HRIS2.out r2 e1⟩
          · exact .inr ⟨e1, e2⟩
        clear hgood hlk
        rcases hk0c with h0 | ⟨j, g, off, s, hkj, rfl, hg, hgB, hcs, hts⟩
        · subst h0
          go_wp2_with (first
            | (go_at_call 14; (with_reducible refine (HT.out).mono ?_); rintro e w4 hy; obtain ⟨rfl, HR4, HK4⟩ := hy.at; have HO4 := Lib.hid (HO.out.keptGX HK4.out hmB); have HOX := Lib.hid (HO4.out.keep ((Below.refl w4.heap.size w4).alloc (Nat.le_refl _) (.cells #[.string (strB t)] 9))); have hbs : B ≤ (w4.alloc (.cells #[.string (strB t)] 9)).heap.size := (by rw [HBE.out]; exact Nat.le_trans hbs0 (Nat.le_trans HK4.out.size (HKB.out w4).size)); clear hy)
            | (refine wpList_append_tx rfl (.tmp 44) (.tmp 46) rfl B A' 0 cap' _ rfl HOX.out ⟨w4.heap.size, 0, none⟩ 1 1 [t] rfl rfl (HAX.out w4) (by omega) hbs ?_; intro A3 c3 w5 ho hg; have HO5 := Lib.hid ho; have HK5 : Hid (Kept (fun k => A'.map (·.block) = some k) (w4.alloc (.cells #[.string (strB t)] 9)) w5) := Lib.hid (Kept.of_grown hg); clear ho hg))
          go_roundw
          case rel => exact HREL.out A3 c3 w4 w5 HR4.out HK4.out HO5.out HK5.out
          case measure => simp [intOf]; omega
        · have hsub : (k : Int) - 1 = (j : Int) := by omega
          have hjk : (j : Int) < (k : Int) := by omega
          have hk1 : (0 : Int) < (k : Int) := by omega
          have hts' : Op.bytesLess (strB s).toList (strB t).toList = true := hts
          have hne : ¬ Only m g := fun e => by have e : g = m := e; omega
          have HGG := Lib.hid hg; have HCS := Lib.hid hcs; have HNE := Lib.hid hne
          clear hkj hts hg hcs hgB hne
          go_wp2_with (first
            | (go_at_call 14; (with_reducible refine (HT.out).mono ?_); rintro e w4 hy; obtain ⟨rfl, HR4, HK4⟩ := hy.at; have HO4 := Lib.hid (HO.out.keptGX HK4.out hmB); have HOX := Lib.hid (HO4.out.keep ((Below.refl w4.heap.size w4).alloc (Nat.le_refl _) (.cells #[.string (strB t)] 9))); have hbs : B ≤ (w4.alloc (.cells #[.string (strB t)] 9)).heap.size := (by rw [HBE.out]; exact Nat.le_trans hbs0 (Nat.le_trans HK4.out.size (HKB.out w4).size)); have hcs4 : w4.cell? ⟨g, off + j, none⟩ = some (.string (strB s)) := (HK4.out.cell (p := ⟨g, off + j, none⟩) HGG.out HNE.out).trans HCS.out; clear hy)
            | (refine wpList_append_tx rfl (.tmp 44) (.tmp 46) rfl B (some ⟨g, off, none⟩) k cap' _ rfl HOX.out ⟨w4.heap.size, 0, none⟩ 1 1 [t] rfl rfl (HAX.out w4) (by omega) hbs ?_; intro A3 c3 w5 ho hg; have HO5 := Lib.hid ho; have HK5 : Hid (Kept (fun k => (some ⟨g, off, none⟩ : Option Addr).map (·.block) = some k) (w4.alloc (.cells #[.string (strB t)] 9)) w5) := Lib.hid (Kept.of_grown hg); clear ho hg))
          go_roundw
          case rel => exact HREL.out A3 c3 w4 w5 HR4.out HK4.out HO5.out HK5.out
          case measure => simp [intOf]; omega
      · have hk0 : k ≠ 0 := fun e => hgood (.inl e)
        obtain ⟨j, hkj⟩ : ∃ j, k = j + 1 := ⟨k - 1, by omega⟩
        obtain ⟨s, hs⟩ : ∃ s, l[j]? = some s := ⟨_, List.getElem?_eq_getElem (by omega)⟩
        have hts : tls s t = false := by
          rcases h : tls s t with _ | _
          · rfl
          · exact (hgood (.inr ⟨s, by rw [show k - 1 = j by omega]; exact hs, h⟩)).elim
        have HNO : Hid (rTL p = none) := Lib.hid (rTL_none (rT_no1 (by
          rcases HNX.out.2 with ⟨r2, e1, e2⟩ | ⟨e1, -, e2⟩
          · exact rU_fall HUPN.out e2 (by omega) j (by omega) (s := s) (t := t) (by rw [List.getElem?_append_left (by omega)]; exact hs) (by rw [List.getElem?_append_right (by omega), hlk]; simp) hts
          · exact e2)))
        obtain ⟨g, off, rfl, hg, hc⟩ := HO.out.isAt.spot (by omega)
        have hcs := hc j s hs
        have hgB := HO.out.base g rfl
        have hsub : (k : Int) - 1 = (j : Int) := by omega
        have hjk : (j : Int) < (k : Int) := by omega
        have hk1 : (0 : Int) < (k : Int) := by omega
        have hts' : Op.bytesLess (strB s).toList (strB t).toList = false := hts
        have hne : ¬ Only m g := fun e => by have e : g = m := e; omega
        have HGG := Lib.hid hg; have HCS := Lib.hid hcs; have HNE := Lib.hid hne
        clear hkj hts hg hcs hgB hne hc hs hk0 hgood hlk
        go_wp2_with (go_at_call 14; (with_reducible refine (HT.out).mono ?_); rintro e w4 hy; obtain ⟨rfl, HR4, HK4⟩ := hy.at; have hcs4 : w4.cell? ⟨g, off + j, none⟩ = some (.string (strB s)) := (HK4.out.cell (p := ⟨g, off + j, none⟩) HGG.out HNE.out).trans HCS.out; clear hy)
        go_ret2
        exact HFAIL.out _ HNO.out (HK.out.trans HK4.out)
    · have hnlen : (p.length : Int) = (np : Int) := by have := hnp.out; omega
      rcases s' with _ | r'
      · have c1 : wr.cell? ⟨m, 1, none⟩ = some (.int .i64 (-1)) := c1
        have HNO : Hid (rTL p = none) := Lib.hid (rTL_none (rT_no1 (by
          rcases hcase with ⟨r2, h1, -⟩ | ⟨-, h2⟩
          · cases h1
          · exact h2)))
        have HI := Lib.hid (rintsNo_any m C A p none none none 0 0 (Lib.hid rfl) (Lib.hid rfl) (by omega) (.inl rfl) wr HR)
        clear hgo hcase
        by_cases hkn : k < n
        · go_wp2_with (go_at_call 39; refine (HI.out).mono ?_; rintro e w4 ⟨A4, n4, c4, s4, rfl, h1, h2, h3⟩; have c4' := h2.c1; have hne4 := atR_ne (p := p) h1; rw [hnlen] at hne4; have HK4 := Lib.hid (HK.out.trans h3); clear h1 h2 h3)
          go_ret2
          exact HFAIL.out _ HNO.out HK4.out
        · go_wp2_with (go_at_call 39; refine (HI.out).mono ?_; rintro e w4 ⟨A4, n4, c4, s4, rfl, h1, h2, h3⟩; have c4' := h2.c1; have hne4 := atR_ne (p := p) h1; rw [hnlen] at hne4; have HK4 := Lib.hid (HK.out.trans h3); clear h1 h2 h3)
          go_ret2
          exact HFAIL.out _ HNO.out HK4.out
      · obtain rfl : k = n := by
          by_cases h : k < n
          · exact (hgo ⟨h, r', rfl⟩).elim
          · omega
        obtain ⟨hup, hrun, hris⟩ : uP 4096 p = some (k, r) ∧ runS (tP 32) k r = some (l, r') ∧ rising l = true := by
          rcases hcase with ⟨r2, h1, h2⟩ | ⟨h1, -⟩
          · injection h1 with h1; subst h1; exact h2
          · cases h1
        have HRU := Lib.hid (rU_yes hup hrun hris)
        have HI := Lib.hid (refIntsRd_any m C A p r' wr HR)
        obtain ⟨z, hz, hzl⟩ := atR_pos HR.out
        rw [hz] at c1
        have hz0 : (0 : Int) ≤ (z : Int) := by omega
        clear hgo hcase hup hrun hris hz hzl
        rcases hri : riL r' with _ | xs
        · rw [hri] at HI
          have HNO := Lib.hid (rTL_no HRU.out hri)
          clear hri
          go_wp2_with (go_at_call 39; refine (HI.out).mono ?_; rintro e w4 ⟨A4, n4, c4, s4, rfl, h1, h2, h3⟩; have c4' := h2.c1; have hne4 := atR_ne (p := p) h1; rw [hnlen] at hne4; have HK4 := Lib.hid (HK.out.trans h3); clear h1 h2 h3)
          go_ret2
          exact HFAIL.out _ HNO.out HK4.out
        · rw [hri] at HI
          have HII := Lib.hid (riL_inv hri)
          clear hri
          have hxl := rI_len HII.out
          have HB4 : Hid (∀ w9 : World, Kept (Only m) w1 w9 → Below w.heap.size w w9) := Lib.hid fun w9 h2 => HB1.out.trans (h2.below (B := w.heap.size) (by rw [HSZ.out, HM.out]; omega) fun k hk => by have hk : k = m := hk; rw [hk, HM.out]; exact Nat.le_refl _)
          have hzb1 : ib.bytes * k ≤ 281474976710656 := by rw [hb2]; omega
          have hnm1 : k ≤ maxLen := by unfold maxLen; omega
          have HN1 : Hid (k = l.length) := Lib.hid HO.out.len
          have hnn : ((np : Int) != (np : Int)) = false := by simp
          go_upto_region 14 with (go_at_call 39; refine (HI.out).mono ?_; rintro e w4 ⟨⟨A2, n2, c2, rfl, h1⟩, h2, h3⟩; have HO2 := Lib.hid h1; have c4' : w4.cell? ⟨m, 1, none⟩ = some (.int .i64 (np : Int)) := (by have := h2.c1; rw [this]; have e : atR p (some []) = (np : Int) := (by show (p.length : Int) - (([] : List Nat).length : Int) = _; rw [List.length_nil]; omega); rw [e]); have HK4 := Lib.hid (HK.out.trans h3); have HO4 := Lib.hid (HO.out.keptGX h3 hmB); clear h1 h2 h3)
          obtain ⟨ub, hub⟩ : ∃ ub, ub = w4.heap.size := ⟨_, rfl⟩
          go_upto_region 15 with (refine wpList_make_full _ rfl (.tmp 58) (.tmp 58) 78 rfl w4.heap.size 4 ib (.bool false) 1 Tryd.underlying78 hib hb0 hb1 .i64 .i64 _ _ k rfl rfl rfl rfl hzb1 hnm1 (Nat.le_refl _) ?_; intro w5 own hgr; have HRB := Lib.hid (rowBo_zeros own); have HB5 : Hid (Below w4.heap.size w4 w5) := Lib.hid ((Below.refl _ w4).grown hgr (Nat.le_refl _) (by intro k hk; cases hk)); clear own hgr)
          rw [← hub]
          have HN2 : Hid (n2 = xs.length) := Lib.hid HO2.out.len
          have hn2 : n2 ≤ 4096 := by have := HN2.out; omega
          obtain ⟨B3, hB3⟩ : ∃ B3, B3 = w5.heap.size := ⟨_, rfl⟩
          have HST2 : Hid (RA2 w B ub B3 A' k cap' l A2 n2 c2 xs none 0 0 w5) := Lib.hid (by
            have h4 : ub < w5.heap.size := by rw [hub]; exact (Array.getElem?_eq_some_iff.1 HRB.out).1
            have h5 : Below w.heap.size w w4 := HB4.out _ HK4.out
            refine ⟨HO4.out.keep HB5.out, (HO2.out.more (by rw [HBE.out]; exact HK.out.size)).keep HB5.out, fun b hb => ?_, fun b hb => ?_, by rw [hub]; exact h5.size, by omega, ?_, ⟨World.ownsRow_nil _ _ _ 1, fun x hx => by cases hx⟩, h5.trans (HB5.out.mono h5.size), by omega, fun j x h => by omega⟩
            · have := HO4.out.ltX b hb; omega
            · have := HO2.out.ltI b hb; omega
            · rw [List.take_zero, usedL_nil, hub]; exact HRB.out)
          have HFAIL2 : Hid (∀ w9 : World, okT l xs = false → Below w.heap.size w w9 → RTRef w (rTL p) (.returned (.tuple #[.slice none 0 0, .bool false])) w9) := Lib.hid fun w9 h1 h2 => by
            rw [rTL_none (rT_no3 HRU.out HII.out h1)]; exact ⟨rfl, h2⟩
          clear HI HO HR HK HO2 HK4 HO4 HRB HB5 HB4 HFAIL hub hB3 c1 hz0 c4' hnn hzb1 hnm1
          go_wp2
          go_loopw [11, 12] (fun u v wr => ∃ (j : Nat) (A3 : Option Addr) (c3 : Nat), j ≤ n2 ∧ v = .int .i64 (j : Int) ∧ u = .slice A3 j c3 ∧ RA2 w B ub B3 A' k cap' l A2 n2 c2 xs A3 j c3 wr) (fun _ v _ => n2 - (intOf v).toNat)
          case atStart => exact ⟨0, none, 0, Nat.zero_le _, rfl, rfl, HST2.out⟩
          case round =>
            obtain ⟨j, A3, c3, hj, rfl, rfl, hra⟩ := hrel
            have HX := Lib.hid hra
            clear hra HST2
            by_cases hlt : j < n2
            · obtain ⟨x, hx⟩ : ∃ x, xs[j]? = some x := ⟨_, List.getElem?_eq_getElem (by have := HN2.out; omega)⟩
              obtain ⟨g2, o2, rfl, hg2, hcx⟩ := HX.out.own2.isAt.spot (by have := HN2.out; omega)
              have hc2 := hcx j x hx
              have HXK := Lib.hid hx
              have hoff2 := HX.out.off2 g2 rfl
              clear hx hcx
              by_cases hok : 0 ≤ x ∧ x < (k : Int)
              · obtain ⟨i, hi⟩ : ∃ i : Nat, x = (i : Int) := ⟨x.toNat, by omega⟩
                subst hi
                obtain ⟨hx0, hxn⟩ := hok
                have hin : i < k := by omega
                obtain ⟨t, ht⟩ : ∃ t, l[i]? = some t := ⟨_, List.getElem?_eq_getElem (by have := HN1.out; omega)⟩
                obtain ⟨g1, o1, rfl, hg1, hct⟩ := HX.out.own1.isAt.spot (by have := HN1.out; omega)
                have hc1 := hct i t ht
                have hoff1 := HX.out.off1 g1 rfl
                have hne1 : ¬ ub = g1 := by omega
                have hne1' : ¬ g1 = ub := by omega
                have hne2 : ¬ ub = g2 := by omega
                have hne2' : ¬ g2 = ub := by omega
                have HPT := Lib.hid (pickT_at ht)
                have fu := HX.out.used.fr i
                obtain ⟨u1, cu⟩ := HX.out.used.at i (by rw [usedL_len]; exact hin)
                have HTK : Hid (xs.take (j + 1) = xs.take j ++ [(i : Int)]) := Lib.hid (by rw [List.take_add_one, HXK.out]; rfl)
                have hk1 : Kept (fun b => b = ub) wr (wr.setCell ⟨ub, i, none⟩ (.bool true)) := (Kept.refl _ _).setCell _ _ (.inl rfl)
                obtain ⟨w6, hw6⟩ : ∃ w6, w6 = wr.setCell ⟨ub, i, none⟩ (.bool true) := ⟨_, rfl⟩
                rw [← hw6] at hk1
                have HK1 := Lib.hid hk1
                have HWT : Hid (WfT t) := Lib.hid (HX.out.own1.2 t (List.mem_of_getElem? ht))
                have HU6 : Hid (RowBo w6 ub (usedL k (xs.take (j + 1)))) := Lib.hid (by rw [HTK.out, usedL_snoc, hw6]; exact HX.out.used.set i true)
                have HO16 := Lib.hid (HX.out.own1.keptS hk1 (fun b hb => by have := HX.out.off1 b hb; omega))
                have HO26 := Lib.hid (HX.out.own2.keptSI hk1 (fun b hb => by have := HX.out.off2 b hb; omega))
                have HO36 := Lib.hid (HX.out.own3.keptS hk1 (fun b hb => by have := HX.out.own3.base b hb; have := HX.out.ubB; omega))
                have HBL6 : Hid (Below w.heap.size w w6) := Lib.hid (HX.out.below.trans (hk1.below (B := w.heap.size) HX.out.below.size fun b hb => by have hb : b = ub := hb; rw [hb]; exact HX.out.hub))
                have HSZ6 : Hid (B3 ≤ w6.heap.size) := Lib.hid (Nat.le_trans HX.out.size hk1.size)
                have HW6 : Hid (wr.setCell ⟨ub, i, none⟩ (.bool true) = w6) := Lib.hid hw6.symm
                have hc26 : w6.cell? ⟨g2, o2 + j, none⟩ = some (.int .i64 (i : Int)) := (hk1.cell (p := ⟨g2, o2 + j, none⟩) hg2 (fun e => by have e : g2 = ub := e; omega)).trans hc2
                have hc16 : w6.cell? ⟨g1, o1 + i, none⟩ = some (.string (strB t)) := (hk1.cell (p := ⟨g1, o1 + i, none⟩) hg1 (fun e => by have e : g1 = ub := e; omega)).trans hc1
                have HAX := Lib.hid (tx_one w6 t HWT.out)
                have HBX : Hid (Below w6.heap.size w6 (w6.alloc (.cells #[.string (strB t)] 9))) := Lib.hid ((Below.refl _ _).alloc (Nat.le_refl _) _)
                have HOX := Lib.hid (HO36.out.keep HBX.out)
                have hbs : B3 ≤ (w6.alloc (.cells #[.string (strB t)] 9)).heap.size := Nat.le_trans HSZ6.out HBX.out.size
                clear ht hct hw6 hk1 hg1 hg2
                go_upto_region 22 with fail
                rw [HW6.out]
                clear cu fu hne1 hne1' hne2 hne2' hc1 hc2
                go_wp2_with (refine wpList_append_tx rfl (.tmp 86) (.tmp 94) rfl B3 A3 j c3 _ rfl HOX.out ⟨w6.heap.size, 0, none⟩ 1 1 [t] rfl rfl HAX.out (by omega) hbs ?_; intro A5 c5 w7 ho hg; have HO7 := Lib.hid ho; have HK7 : Hid (Kept (fun b => A3.map (·.block) = some b) (w6.alloc (.cells #[.string (strB t)] 9)) w7) := Lib.hid (Kept.of_grown hg); clear ho hg)
                go_roundw
                case rel =>
                  have hb3 := HO36.out.base
                  have X := HX.out
                  have hubB := X.ubB
                  refine ⟨j + 1, A5, c5, by omega, by go_num, rfl, (HO16.out.keep HBX.out).keptS HK7.out (fun b hb h => ?_), (HO26.out.keep HBX.out).keptSI HK7.out (fun b hb h => ?_), X.off1, X.off2, X.hub, X.ubB, ?_, ?_, ?_, Nat.le_trans hbs HK7.out.size, ?_⟩
                  · have h1 := X.off1 b hb; have h2 := hb3 b h; omega
                  · have h1 := X.off2 b hb; have h2 := hb3 b h; omega
                  · exact (HU6.out.keep (Kept.of_below (S := fun _ => False) HBX.out) fun e => e).keep HK7.out fun h => by have h2 := hb3 ub h; omega
                  · rw [HTK.out, List.map_append, List.map_cons, List.map_nil, HPT.out]; exact HO7.out
                  · exact (HBL6.out.trans (HBX.out.mono HBL6.out.size)).trans (HK7.out.below (B := w.heap.size) (Nat.le_trans HBL6.out.size HBX.out.size) fun b h => by have h2 := hb3 b h; have := X.hub; omega)
                  · intro j2 y hj2 hy
                    by_cases e : j2 = j
                    · subst e; rw [HXK.out] at hy; injection hy with hy; subst hy; exact ⟨hx0, hxn⟩
                    · exact X.ok j2 y (by omega) hy
                case measure => simp [intOf]; omega
              · have HNO : Hid (okT l xs = false) := Lib.hid (okT_bad HXK.out (by rw [← HN1.out]; exact hok))
                by_cases hx0 : x < 0
                · clear hok
                  go_wp2
                  go_ret2
                  exact HFAIL2.out _ HNO.out HX.out.below
                · have hxn : (k : Int) ≤ x := by omega
                  clear hok
                  go_wp2
                  go_ret2
                  exact HFAIL2.out _ HNO.out HX.out.below
            · obtain rfl : j = n2 := by omega
              have hall : xs.take j = xs := List.take_of_length_le (by have := HN2.out; omega)
              have HRU2 : Hid (RowBo wr ub (usedL k xs)) := Lib.hid (by have := HX.out.used; rwa [hall] at this)
              have HO3 : Hid (OwnX wr B3 A3 j c3 (xs.map (pickT l))) := Lib.hid (by have := HX.out.own3; rwa [hall] at this)
              have HOK : Hid (okT l xs = !(usedL k xs).contains false) := Lib.hid (by
                rw [HN1.out]
                exact okT_end fun j2 x hj2 => by
                  have h9 := HX.out.ok j2 x (by have := (List.getElem?_eq_some_iff.1 hj2).1; have := HN2.out; omega) hj2
                  rw [HN1.out] at h9; exact h9)
              obtain ⟨wo, hwo⟩ : ∃ wo, wo = wr := ⟨_, rfl⟩
              subst hwo
              clear hall
              go_wp2
              go_loop [13] (fun v => ∃ i : Nat, i ≤ k ∧ v = .int .i64 (i : Int) ∧ ∀ b, b < i → (usedL k xs)[b]? = some true) (fun v => k - (intOf v).toNat)
              case atStart => exact ⟨0, Nat.zero_le _, rfl, fun b h => by omega⟩
              case round =>
                obtain ⟨i, hi, rfl, hus⟩ := hrel
                have HUS := Lib.hid hus
                clear hus
                by_cases hik : i < k
                · obtain ⟨b, hb⟩ : ∃ b, (usedL k xs)[i]? = some b := ⟨_, List.getElem?_eq_getElem (by rw [usedL_len]; exact hik)⟩
                  have HBI := Lib.hid hb
                  have hcell := HRU2.out.cell i b hb
                  clear hb
                  cases b
                  · have HNO : Hid (okT l xs = false) := Lib.hid (by
                      rw [HOK.out]
                      have : (usedL k xs).contains false = true := by simpa using List.mem_of_getElem? HBI.out
                      rw [this]; rfl)
                    go_wp2
                    go_ret2
                    exact HFAIL2.out _ HNO.out HX.out.below
                  · go_wp2
                    go_round
                    case rel => exact ⟨i + 1, by omega, by go_num, fun b hb => by
                      by_cases e : b = i
                      · subst e; exact HBI.out
                      · exact HUS.out b (by omega)⟩
                    case measure => simp [intOf]; omega
                · obtain rfl : i = k := by omega
                  have HYES : Hid (okT l xs = true) := Lib.hid (by
                    rw [HOK.out]
                    have : (usedL i xs).contains false = false := by
                      rw [List.contains_eq_any_beq, List.any_eq_false]
                      intro x hx
                      obtain ⟨b, hb⟩ := List.getElem?_of_mem hx
                      have h9 := HUS.out b (by have := (List.getElem?_eq_some_iff.1 hb).1; rwa [usedL_len] at this)
                      rw [hb] at h9; injection h9 with h9; subst h9; simp
                    rw [this]; rfl)
                  go_wp2
                  go_ret2
                  rw [rTL_some (rT_yes HRU.out HII.out HYES.out)]
                  exact ⟨⟨A3, j, c3, rfl, HO3.out.more (by have := HX.out.hub; have := HX.out.ubB; omega)⟩, HX.out.below⟩
end Go.Proofs.YtpobfgokikfmbaaDoor

set_option linter.unusedSimpArgs false
set_option linter.unusedVariables false
set_option maxRecDepth 100000
namespace Go.Proofs.YtpobfgokikfmbaaDoor
open Go.RowKit Go.WideShapes Col
def OkErr (b : Bool) (E : Int) : Prop := b = true ∧ E = 0 ∨ b = false ∧ E = 3
end Go.Proofs.YtpobfgokikfmbaaDoor

set_option linter.unusedSimpArgs false
set_option linter.unusedVariables false
set_option maxRecDepth 8000
namespace Go.Proofs.YtpobfgokikfmbaaDoor
open Go.RowKit Go.WideShapes Col
theorem runT_wf : ∀ (k : Nat) (q r : List Nat) (l : List (List Nat)), runS (tP 32) k q = some (l, r) → (∀ x ∈ q, x < 256) → (∀ t ∈ l, WfT t) ∧ ∀ x ∈ r, x < 256
  | 0, q, r, l, h, hq => by
    rw [runS] at h; injection h with h; injection h with h1 h2
    subst h1; subst h2
    exact ⟨fun t ht => (by cases ht), hq⟩
  | k + 1, q, r, l, h, hq => by
    rw [runS] at h
    rcases hr : runS (tP 32) k q with _ | ⟨ys, s1⟩
    · rw [hr] at h; cases h
    · rw [hr] at h
      simp only [Option.bind_some] at h
      rcases hs : tP 32 s1 with _ | ⟨x, s2⟩
      · rw [hs] at h; cases h
      · rw [hs] at h; injection h with h; injection h with h1 h2
        obtain ⟨i1, i2⟩ := runT_wf k q s1 ys hr hq
        obtain ⟨n, q', h3, h4, h5, h6⟩ := tP_some hs
        obtain ⟨-, -, m, -, hm, -⟩ := grp_lt _ _ _ _ (uP_some h3).1
        refine ⟨fun t ht => ?_, fun y hy => ?_⟩
        · rw [← h1] at ht
          rcases List.mem_append.1 ht with h | h
          · exact i1 t h
          · rw [List.mem_singleton.1 h]; exact fun c hc => i2 c ((tP_left hs).2.1 c hc)
        · rw [← h2, h6, hm] at hy
          exact i2 y (List.mem_of_mem_drop (List.mem_of_mem_drop hy))
theorem rU_wf {q r : List Nat} {ts : List (List Nat)} (h : rU q = some (ts, r)) (hq : ∀ x ∈ q, x < 256) : ∀ t ∈ ts, WfT t := by
  unfold rU at h
  rcases hu : uP 4096 q with _ | ⟨n, r1⟩
  · rw [hu] at h; cases h
  · rw [hu] at h
    simp only [Option.bind_some] at h
    obtain ⟨-, -, m, -, hm, -⟩ := grp_lt _ _ _ _ (uP_some hu).1
    rcases hr : runS (tP 32) n r1 with _ | ⟨l, r2⟩
    · rw [hr] at h; cases h
    · rw [hr] at h
      simp only [Option.bind_some] at h
      split at h
      · injection h with h; injection h with h1 h2
        rw [← h1]
        exact (runT_wf n r1 r2 l hr fun x hx => hq x (List.mem_of_mem_drop (hm ▸ hx))).1
      · cases h
theorem rTL_few {q : List Nat} {l : List (List Nat)} (h : rTL q = some l) : l.length ≤ 4096 := by
  unfold rTL at h
  rcases hT : rT q with _ | ⟨us, _ | ⟨x, r⟩⟩
  · rw [hT] at h; cases h
  · rw [hT] at h; injection h with h; subst h
    unfold rT at hT
    rcases hu : rU q with _ | ⟨ts, r⟩
    · rw [hu] at hT; cases hT
    · rw [hu] at hT
      simp only [Option.bind_some] at hT
      rcases hi : rI r with _ | ⟨xs, r2⟩
      · rw [hi] at hT; cases hT
      · rw [hi] at hT
        simp only [Option.bind_some] at hT
        split at hT
        · injection hT with hT; injection hT with h1 h2
          rw [← h1, List.length_map]; exact rI_len hi
        · cases hT
  · rw [hT] at h; cases h
theorem rTL_wf {q : List Nat} {l : List (List Nat)} (h : rTL q = some l) (hq : ∀ x ∈ q, x < 256) : ∀ t ∈ l, WfT t := by
  unfold rTL at h
  rcases hT : rT q with _ | ⟨us, _ | ⟨x, r⟩⟩
  · rw [hT] at h; cases h
  · rw [hT] at h; injection h with h; subst h
    unfold rT at hT
    rcases hu : rU q with _ | ⟨ts, r⟩
    · rw [hu] at hT; cases hT
    · have hts := rU_wf hu hq
      rw [hu] at hT
      simp only [Option.bind_some] at hT
      rcases hi : rI r with _ | ⟨xs, r2⟩
      · rw [hi] at hT; cases hT
      · rw [hi] at hT
        simp only [Option.bind_some] at hT
        split at hT
        · injection hT with hT; injection hT with h1 h2
          rw [← h1]
          intro t ht
          obtain ⟨x, -, rfl⟩ := List.mem_map.1 ht
          unfold pickT
          rw [List.getD_eq_getElem?_getD]
          rcases hg : ts[x.toNat]? with _ | y
          · intro c hc; simp at hc
          · exact hts y (List.mem_of_getElem? hg)
        · cases hT
  · rw [hT] at h; cases h
theorem rFL_few {q us : List Nat} (h : rFL q = some us) : us.length ≤ 4096 := by
  rcases hi : riL q with _ | xs
  · rw [rFL_no hi] at h; cases h
  · rcases hb : okF xs with _ | _
    · rw [rFL_bad hi hb] at h; cases h
    · rw [rFL_ok hi hb] at h; injection h with h; rw [← h, List.length_map]; exact rI_len (riL_inv hi)
theorem rFL_wf {q us : List Nat} (h : rFL q = some us) : ∀ x ∈ us, x < 18446744073709551616 := by
  rcases hi : riL q with _ | xs
  · rw [rFL_no hi] at h; cases h
  · rcases hb : okF xs with _ | _
    · rw [rFL_bad hi hb] at h; cases h
    · rw [rFL_ok hi hb] at h; injection h with h
      intro x hx
      rw [← h] at hx
      obtain ⟨y, -, rfl⟩ := List.mem_map.1 hx
      exact (u64N_eq y).2
end Go.Proofs.YtpobfgokikfmbaaDoor
