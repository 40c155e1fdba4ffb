/-
  Layer event: Read of any bytes, from any place on.
-/
import Derived.Test.YtifabkbdiiolfaaGreatDoorJmK
import Derived.Test.YtifabkbdiiolfaaGreatDoorYkK
set_option linter.unusedSimpArgs false
set_option linter.unusedVariables false
set_option maxRecDepth 8000
namespace Go.Proofs.YtifabkbdiiolfaaGreatDoor
open Go.RowKit Go.Sort Go.WideShapes Col
/-- What is read of a body. -/
def RERA (o : Option (List Ev × List Nat)) (bl : Nat) (X : Nat → Prop) (b : Bool) (w : World) : Prop := match o with
 | some p => b = decide (p.2 = []) ∧ ∃ L n, w.heap[bl]? = some (.cells #[.slice (some ⟨L, 0, none⟩) n n] 22 (0, 0)) ∧ n = p.1.length ∧ EvAt w (some ⟨L, 0, none⟩) p.1 ∧ ¬ X L
 | none => b = false
set_option maxHeartbeats 2000000 in
theorem evFnA_any (g bp bl : Nat) (q : List Nat) (hq : q.length ≤ 1000000) (p : Int) (w : World) (hbp : bp < g) (hbl : bl < g) (hne : bp ≠ bl)
  (HP : Hid (w.heap[bp]? = some (.cells #[.int .i64 p] 3 (0, 0)))) (HL : Hid (w.heap[bl]? = some (.cells #[.slice none 0 0] 22 (0, 0)))) (H : Hid (Rd w g q)) (hoff : Hid (∀ (w' : World) (r : List Nat), Rd w' g r → Kept (fun k => k = g) w w' → w'.heap[bl]? = some (.cells #[.slice none 0 0] 22 (0, 0)) → ∀ v, Rd (w'.setCell ⟨bl, 0, none⟩ v) g r)) :
  Calls Tryz.prog 110 #[.pointer (some ⟨g, 0, none⟩), .pointer (some ⟨bp, 0, none⟩), .pointer (some ⟨bl, 0, none⟩)] w (Tried g (fun k => k = bl) (RERA (evR p q) bl (fun k => k = g)) w) := by
 have HRE := Lib.hid (readEvB_any g p q hq w H)
 have cp : w.cell? ⟨bp, 0, none⟩ = some (.int .i64 p) := by rw [cell_of_row _ _ _ _ _ _ HP.out]; rfl
 have hbw : bl < w.heap.size := (Array.getElem?_eq_some_iff.1 HL.out).1
 have hgw : g < w.heap.size := by obtain ⟨A, C, h⟩ := H.out; exact h.lt
 rcases he : evR p q with _ | ⟨l, r⟩
 ·rw [he] at HRE
  have HRN : Hid (Calls Tryz.prog 111 #[.pointer (some ⟨g, 0, none⟩), .int .i64 p] w fun e w' => e = .panicked [gu g] ∧ Gone w' g ∧ Kept (Only g) w w') := HRE
  clear HRE he
  go_enter Tryz.func110, Tryz.ntmps110
  go_wp2_with (go_at_call 111; (with_reducible refine (HRN.out).mono ?_); rintro e w1 ⟨rfl, h1, h2⟩)
  exact ⟨rfl, h2.mono (fun k h => .inl (.inr h)), .inr ⟨rfl, h1, rfl⟩⟩
 ·rw [he] at HRE
  have HRY : Hid (Calls Tryz.prog 111 #[.pointer (some ⟨g, 0, none⟩), .int .i64 p] w fun e w' => ∃ L n, e = .returned (.slice (some ⟨L, 0, none⟩) n n) ∧ n = l.length ∧ EvAt w' (some ⟨L, 0, none⟩) l ∧ Rd w' g r ∧ Kept (Only g) w w' ∧ w.heap.size ≤ L) := HRE
  clear HRE he
  go_enter Tryz.func110, Tryz.ntmps110
  go_wp2_with (go_at_call 111; (with_reducible refine (HRY.out).mono ?_); rintro e w1 ⟨L, n, rfl, h1, h2, h3, h4, h5⟩; have HN := Lib.hid h1; have HE := Lib.hid h2; have HR := Lib.hid h3; have HK := Lib.hid h4; have HLL := Lib.hid h5; have HL1 := Lib.hid (h4.heap HL.out (fun e => by have e : bl = g := e; omega)); have cl : w1.cell? ⟨bl, 0, none⟩ = some (.slice none 0 0) := (by rw [cell_of_row _ _ _ _ _ _ HL1.out]; rfl); have fl := row_frozen HL1.out 0; clear h1 h2 h3 h4 h5)
  have hkc : Kept (fun k => k = bl) w1 (w1.setCell ⟨bl, 0, none⟩ (.slice (some ⟨L, 0, none⟩) n n)) := (Kept.refl _ _).setCell _ _ (.inl rfl)
  refine bodyPost_ret (results_none rfl _ _ _) rfl ⟨?_, .inl ⟨r, rfl, hoff.out _ r HR.out HK.out HL1.out _, ?_⟩⟩
  ·exact (HK.out.mono (S' := fun k => k = bl ∨ k = g) (fun k h => .inl (.inr h))).trans' hkc (fun i hi => .inl (.inl hi))
  ·refine ⟨rfl, L, n, ?_, HN.out, HE.out.keptY hkc (fun b hb => by injection hb with hb; subst hb; intro e; have e : L = bl := e; have := HLL.out; omega), fun e => by have e : L = g := e; have := HLL.out; omega⟩
   rw [World.setCell]
   simp [Array.getElem?_modify, HL1.out]
theorem rera_keep {o : Option (List Ev × List Nat)} {bl g : Nat} {b : Bool} {w w' : World} (h : RERA o bl (fun k => k = g) b w) (hk : Kept (Only g) w w') (hg : bl < g) : RERA o bl (fun _ => False) b w' := by
 rcases o with _ | p
 ·exact h
 ·obtain ⟨h2, L, n, h3, h4, h5, h6⟩ := h
  exact ⟨h2, L, n, hk.heap h3 (fun e => by have e : bl = g := e; omega), h4, h5.keptY hk (fun b hb => by injection hb with hb; subst hb; exact h6), fun h => h⟩
/-- What Read answers: an error's number, or events and the place behind them. -/
def evOut (p : Int) (Q : List Nat) (i : Int) : Nat ⊕ (List Ev × Int) :=
 if Pg.errAt Q i ≠ 0 then .inl (Pg.errAt Q i) else if Pg.kindAt Q i ≠ 101 then .inl 3 else match evR p (Pg.bodyAt Q i) with
  | some (l, []) => .inr (l, Pg.endAt Q i)
  | _ => .inl 3
def EvRet (o : Nat ⊕ (List Ev × Int)) (w : World) (e : Ending) (w' : World) : Prop := match o with
 | .inl c => e = .returned (.tuple #[.slice none 0 0, .int .i64 0, .int .i64 (c : Int)]) ∧ Below w.heap.size w w'
 | .inr p => ∃ L n, e = .returned (.tuple #[.slice (some ⟨L, 0, none⟩) n n, .int .i64 p.2, .int .i64 0]) ∧ n = p.1.length ∧ EvAt w' (some ⟨L, 0, none⟩) p.1 ∧ Below w.heap.size w w'
/-- A reader's bytes lie in no row of slices: to write there leaves the reader as it is. -/
theorem rd_cellY {w : World} {g bl : Nat} {r : List Nat} (h : Rd w g r) (hrow : w.heap[bl]? = some (.cells #[.slice none 0 0] 22 (0, 0))) (hg : bl < g) (v : Value) : Rd (w.setCell ⟨bl, 0, none⟩ v) g r := by
 obtain ⟨A, C, h⟩ := h
 have hk : Kept (fun k => k = bl) w (w.setCell ⟨bl, 0, none⟩ v) := (Kept.refl _ _).setCell _ _ (.inl rfl)
 refine ⟨A, C, h.keep hk (fun e => by have e : g = bl := e; omega) (fun a ha h0 e => ?_)⟩
 have e : a.block = bl := e
 obtain ⟨b, off, h2, h3, hc⟩ := h.bytes.spot h0
 rw [h2] at ha; injection ha with ha; subst ha
 have e : b = bl := e
 subst e
 have hc0 := hc 0 r[0] (List.getElem?_eq_getElem h0)
 rw [cell_of_row _ _ _ _ _ _ hrow] at hc0
 have hj : off + 0 < 1 := (Array.getElem?_eq_some_iff.1 hc0).1
 rw [show off + 0 = 0 by omega] at hc0
 simp at hc0
set_option maxHeartbeats 8000000 in
theorem evReadA_E (A : Option Addr) (N cap : Nat) (i p : Int) (q : List Nat) (m : Nat) (hm : Hid (m = q.length)) (hq : m ≤ 1000000) (E : Int) (kd : Nat) (c : Nat) (hc : ¬ (c : Int) = 0) (w : World)
  (HPR : Hid (∀ w1, Below w.heap.size w w1 → Calls Tryz.prog 45 #[.slice A N cap, .int .i64 i] w1 fun e w' => ∃ A6 C6, e = .returned (.tuple #[.int .u8 (kd : Int), .slice A6 m C6, .int .i64 E, .int .i64 (c : Int)]) ∧ ByAt w' A6 q ∧ m ≤ C6 ∧ C6 ≤ maxLen ∧ Below w1.heap.size w1 w')) :
  Calls Tryz.prog 83 #[.slice A N cap, .int .i64 i, .int .i64 p] w fun e w' => e = .returned (.tuple #[.slice none 0 0, .int .i64 0, .int .i64 (c : Int)]) ∧ Below w.heap.size w w' := by
 obtain ⟨w0, hw0⟩ : ∃ w0, w0 = w.alloc (.cells #[.int .i64 p] 3) := ⟨_, rfl⟩
 obtain ⟨bp, hbp⟩ : ∃ bp, bp = w.heap.size := ⟨_, rfl⟩
 have HB0 : Hid (Below w.heap.size w w0) := Lib.hid (by rw [hw0]; exact (Below.refl _ _).alloc (Nat.le_refl _) _)
 have HP0 : Hid (w0.heap[bp]? = some (.cells #[.int .i64 p] 3 (0, 0))) := Lib.hid (by rw [hw0, hbp]; exact alloc_newY w _)
 have HW0 := Lib.hid hw0; have HBP := Lib.hid hbp
 clear hw0 hbp
 go_enter Tryz.func83, Tryz.ntmps83
 go_upto_region 1 with fail
 rw [← HW0.out, ← HBP.out]
 have hc2 : ((c : Int) != 0) = true := by simpa using hc
 go_wp2_with (go_at_call 45; (with_reducible refine (HPR.out w0 HB0.out).mono ?_); rintro e w1 ⟨A6, C6, rfl, h1, h2, h3, h4⟩; have HBY := Lib.hid h1; have hC6 := h2; have hM6 := h3; have HB1 := Lib.hid (below_to HB0.out h4); have HP1 : Hid (w1.heap[bp]? = some (.cells #[.int .i64 p] 3 (0, 0))) := Lib.hid ((h4.block bp (Array.getElem?_eq_some_iff.1 HP0.out).1).trans HP0.out); clear h1 h2 h3 h4)
 refine bodyPost_ret (results_tmp3Y rfl _ _ _) rfl ?_
 exact ⟨rfl, HB1.out⟩
set_option maxHeartbeats 8000000 in
theorem evReadA_K (A : Option Addr) (N cap : Nat) (i p : Int) (q : List Nat) (m : Nat) (hm : Hid (m = q.length)) (hq : m ≤ 1000000) (E : Int) (kd : Nat) (hkd : ¬ (kd : Int) = 101) (w : World)
  (HPR : Hid (∀ w1, Below w.heap.size w w1 → Calls Tryz.prog 45 #[.slice A N cap, .int .i64 i] w1 fun e w' => ∃ A6 C6, e = .returned (.tuple #[.int .u8 (kd : Int), .slice A6 m C6, .int .i64 E, .int .i64 0]) ∧ ByAt w' A6 q ∧ m ≤ C6 ∧ C6 ≤ maxLen ∧ Below w1.heap.size w1 w')) :
  Calls Tryz.prog 83 #[.slice A N cap, .int .i64 i, .int .i64 p] w fun e w' => e = .returned (.tuple #[.slice none 0 0, .int .i64 0, .int .i64 3]) ∧ Below w.heap.size w w' := by
 obtain ⟨w0, hw0⟩ : ∃ w0, w0 = w.alloc (.cells #[.int .i64 p] 3) := ⟨_, rfl⟩
 obtain ⟨bp, hbp⟩ : ∃ bp, bp = w.heap.size := ⟨_, rfl⟩
 have HB0 : Hid (Below w.heap.size w w0) := Lib.hid (by rw [hw0]; exact (Below.refl _ _).alloc (Nat.le_refl _) _)
 have HP0 : Hid (w0.heap[bp]? = some (.cells #[.int .i64 p] 3 (0, 0))) := Lib.hid (by rw [hw0, hbp]; exact alloc_newY w _)
 have HW0 := Lib.hid hw0; have HBP := Lib.hid hbp
 clear hw0 hbp
 go_enter Tryz.func83, Tryz.ntmps83
 go_upto_region 1 with fail
 rw [← HW0.out, ← HBP.out]
 have hk2 : ((kd : Int) != 101) = true := by simpa using hkd
 go_wp2_with (go_at_call 45; (with_reducible refine (HPR.out w0 HB0.out).mono ?_); rintro e w1 ⟨A6, C6, rfl, h1, h2, h3, h4⟩; have HBY := Lib.hid h1; have hC6 := h2; have hM6 := h3; have HB1 := Lib.hid (below_to HB0.out h4); have HP1 : Hid (w1.heap[bp]? = some (.cells #[.int .i64 p] 3 (0, 0))) := Lib.hid ((h4.block bp (Array.getElem?_eq_some_iff.1 HP0.out).1).trans HP0.out); clear h1 h2 h3 h4)
 refine bodyPost_ret (results_tmp3Y rfl _ _ _) rfl ?_
 exact ⟨rfl, HB1.out.alloc HB1.out.size _⟩
set_option maxHeartbeats 8000000 in
theorem evReadA_B (A : Option Addr) (N cap : Nat) (i p : Int) (q : List Nat) (m : Nat) (hm : Hid (m = q.length)) (hq : m ≤ 1000000) (E : Int) (o : Option (List Ev × List Nat)) (ho : ∀ (b : Bool) (bl : Nat) (X : Nat → Prop) (w : World), RERA o bl X b w → b = false) (hev : evR p q = o) (w : World)
  (HPR : Hid (∀ w1, Below w.heap.size w w1 → Calls Tryz.prog 45 #[.slice A N cap, .int .i64 i] w1 fun e w' => ∃ A6 C6, e = .returned (.tuple #[.int .u8 101, .slice A6 m C6, .int .i64 E, .int .i64 0]) ∧ ByAt w' A6 q ∧ m ≤ C6 ∧ C6 ≤ maxLen ∧ Below w1.heap.size w1 w')) :
  Calls Tryz.prog 83 #[.slice A N cap, .int .i64 i, .int .i64 p] w fun e w' => e = .returned (.tuple #[.slice none 0 0, .int .i64 0, .int .i64 3]) ∧ Below w.heap.size w w' := by
 obtain ⟨w0, hw0⟩ : ∃ w0, w0 = w.alloc (.cells #[.int .i64 p] 3) := ⟨_, rfl⟩
 obtain ⟨bp, hbp⟩ : ∃ bp, bp = w.heap.size := ⟨_, rfl⟩
 have HB0 : Hid (Below w.heap.size w w0) := Lib.hid (by rw [hw0]; exact (Below.refl _ _).alloc (Nat.le_refl _) _)
 have HP0 : Hid (w0.heap[bp]? = some (.cells #[.int .i64 p] 3 (0, 0))) := Lib.hid (by rw [hw0, hbp]; exact alloc_newY w _)
 have HW0 := Lib.hid hw0; have HBP := Lib.hid hbp
 clear hw0 hbp
 go_enter Tryz.func83, Tryz.ntmps83
 go_upto_region 1 with fail
 rw [← HW0.out, ← HBP.out]
 go_upto_region 5 with (go_at_call 45; (with_reducible refine (HPR.out w0 HB0.out).mono ?_); rintro e w1 ⟨A6, C6, rfl, h1, h2, h3, h4⟩; have HBY := Lib.hid h1; have hC6 := h2; have hM6 := h3; have HB1 := Lib.hid (below_to HB0.out h4); have HP1 : Hid (w1.heap[bp]? = some (.cells #[.int .i64 p] 3 (0, 0))) := Lib.hid ((h4.block bp (Array.getElem?_eq_some_iff.1 HP0.out).1).trans HP0.out); clear h1 h2 h3 h4)
 obtain ⟨w2, hw2⟩ : ∃ w2, w2 = w1.alloc (.cells #[.slice none 0 0] 22) := ⟨_, rfl⟩
 obtain ⟨bl, hbl⟩ : ∃ bl, bl = w1.heap.size := ⟨_, rfl⟩
 have hb2 : Below w1.heap.size w1 w2 := by rw [hw2]; exact (Below.refl _ _).alloc (Nat.le_refl _) _
 have HBW := Lib.hid (below_to HB1.out hb2)
 have HL2 : Hid (w2.heap[bl]? = some (.cells #[.slice none 0 0] 22 (0, 0))) := Lib.hid (by rw [hw2, hbl]; exact alloc_newY w1 _)
 have hbpl : bp < bl := by rw [hbl]; exact (Array.getElem?_eq_some_iff.1 HP1.out).1
 have HP2 : Hid (w2.heap[bp]? = some (.cells #[.int .i64 p] 3 (0, 0))) := Lib.hid ((hb2.block bp (by omega)).trans HP1.out)
 have hblw : bl < w2.heap.size := (Array.getElem?_eq_some_iff.1 HL2.out).1
 have HBL : Hid (w.heap.size ≤ bl) := Lib.hid (by rw [hbl]; exact HB1.out.size)
 have ht := try_any 110 #[] #[.pointer (some ⟨bp, 0, none⟩), .pointer (some ⟨bl, 0, none⟩)] A6 C6 q m hm hC6 hM6 w2 (Lib.hid (HBY.out.keep hb2)) (fun k => k = bl) (fun k hk => by omega)
  (fun g b w' => RERA o bl (fun k => k = g) b w') (fun b w' => RERA o bl (fun _ => False) b w')
  (fun g b v2 v3 hg h hk => rera_keep h hk (by omega))
  (fun g v2 hg hr hb => by
   have h := evFnA_any g bp bl q (by rw [← hm.out]; exact hq) p v2 (by omega) (by omega) (by omega) (Lib.hid ((hb.block bp (by omega)).trans HP2.out)) (Lib.hid ((hb.block bl hblw).trans HL2.out)) (Lib.hid hr) (Lib.hid fun w' r hr2 hk2 hrow v => rd_cellY hr2 hrow (by omega) v)
   rw [hev] at h
   exact h)
  (fun _ _ => by first | rfl | kernel_rfl)
 have HT := Lib.hid ht
 have HW2 := Lib.hid hw2; have HBLL := Lib.hid hbl
 have hmf : ∀ (fn : Fn) (first cap : Array Value) (w : World), (Instr.makeFunc fn first cap).run Tryz.prog w = .ok (.func fn first cap) w := fun _ _ _ _ => rfl
 clear ht hw2 hbl hb2 hblw hbpl HPR HB0 HP0 HW0 HBP HBY
 rw [← HW2.out, ← HBLL.out]
 go_wp2_with (go_at_call 46; (with_reducible refine (HT.out).mono ?_); rintro e w8 ⟨b, rfl, hr, hk⟩; obtain rfl := ho _ _ _ _ hr; have HB8 := Lib.hid hk; clear hr hk)
 refine bodyPost_ret (results_tmp3Y rfl _ _ _) rfl ?_
 exact ⟨rfl, (HBW.out.trans (HB8.out.below HBW.out.size (fun k hk => by have hk : k = bl := hk; have := HBL.out; omega)))⟩
set_option maxHeartbeats 8000000 in
theorem evReadA_Y (A : Option Addr) (N cap : Nat) (i p : Int) (q : List Nat) (m : Nat) (hm : Hid (m = q.length)) (hq : m ≤ 1000000) (E : Int) (l : List Ev) (hev : evR p q = some (l, [])) (w : World)
  (HPR : Hid (∀ w1, Below w.heap.size w w1 → Calls Tryz.prog 45 #[.slice A N cap, .int .i64 i] w1 fun e w' => ∃ A6 C6, e = .returned (.tuple #[.int .u8 101, .slice A6 m C6, .int .i64 E, .int .i64 0]) ∧ ByAt w' A6 q ∧ m ≤ C6 ∧ C6 ≤ maxLen ∧ Below w1.heap.size w1 w')) :
  Calls Tryz.prog 83 #[.slice A N cap, .int .i64 i, .int .i64 p] w fun e w' => ∃ L n, e = .returned (.tuple #[.slice (some ⟨L, 0, none⟩) n n, .int .i64 E, .int .i64 0]) ∧ n = l.length ∧ EvAt w' (some ⟨L, 0, none⟩) l ∧ Below w.heap.size w w' := by
 obtain ⟨w0, hw0⟩ : ∃ w0, w0 = w.alloc (.cells #[.int .i64 p] 3) := ⟨_, rfl⟩
 obtain ⟨bp, hbp⟩ : ∃ bp, bp = w.heap.size := ⟨_, rfl⟩
 have HB0 : Hid (Below w.heap.size w w0) := Lib.hid (by rw [hw0]; exact (Below.refl _ _).alloc (Nat.le_refl _) _)
 have HP0 : Hid (w0.heap[bp]? = some (.cells #[.int .i64 p] 3 (0, 0))) := Lib.hid (by rw [hw0, hbp]; exact alloc_newY w _)
 have HW0 := Lib.hid hw0; have HBP := Lib.hid hbp
 clear hw0 hbp
 go_enter Tryz.func83, Tryz.ntmps83
 go_upto_region 1 with fail
 rw [← HW0.out, ← HBP.out]
 go_upto_region 5 with (go_at_call 45; (with_reducible refine (HPR.out w0 HB0.out).mono ?_); rintro e w1 ⟨A6, C6, rfl, h1, h2, h3, h4⟩; have HBY := Lib.hid h1; have hC6 := h2; have hM6 := h3; have HB1 := Lib.hid (below_to HB0.out h4); have HP1 : Hid (w1.heap[bp]? = some (.cells #[.int .i64 p] 3 (0, 0))) := Lib.hid ((h4.block bp (Array.getElem?_eq_some_iff.1 HP0.out).1).trans HP0.out); clear h1 h2 h3 h4)
 obtain ⟨w2, hw2⟩ : ∃ w2, w2 = w1.alloc (.cells #[.slice none 0 0] 22) := ⟨_, rfl⟩
 obtain ⟨bl, hbl⟩ : ∃ bl, bl = w1.heap.size := ⟨_, rfl⟩
 have hb2 : Below w1.heap.size w1 w2 := by rw [hw2]; exact (Below.refl _ _).alloc (Nat.le_refl _) _
 have HBW := Lib.hid (below_to HB1.out hb2)
 have HL2 : Hid (w2.heap[bl]? = some (.cells #[.slice none 0 0] 22 (0, 0))) := Lib.hid (by rw [hw2, hbl]; exact alloc_newY w1 _)
 have hbpl : bp < bl := by rw [hbl]; exact (Array.getElem?_eq_some_iff.1 HP1.out).1
 have HP2 : Hid (w2.heap[bp]? = some (.cells #[.int .i64 p] 3 (0, 0))) := Lib.hid ((hb2.block bp (by omega)).trans HP1.out)
 have hblw : bl < w2.heap.size := (Array.getElem?_eq_some_iff.1 HL2.out).1
 have HBL : Hid (w.heap.size ≤ bl) := Lib.hid (by rw [hbl]; exact HB1.out.size)
 have ht := try_any 110 #[] #[.pointer (some ⟨bp, 0, none⟩), .pointer (some ⟨bl, 0, none⟩)] A6 C6 q m hm hC6 hM6 w2 (Lib.hid (HBY.out.keep hb2)) (fun k => k = bl) (fun k hk => by omega)
  (fun g b w' => RERA (some (l, [])) bl (fun k => k = g) b w') (fun b w' => RERA (some (l, [])) bl (fun _ => False) b w')
  (fun g b v2 v3 hg h hk => rera_keep h hk (by omega))
  (fun g v2 hg hr hb => by
   have h := evFnA_any g bp bl q (by rw [← hm.out]; exact hq) p v2 (by omega) (by omega) (by omega) (Lib.hid ((hb.block bp (by omega)).trans HP2.out)) (Lib.hid ((hb.block bl hblw).trans HL2.out)) (Lib.hid hr) (Lib.hid fun w' r hr2 hk2 hrow v => rd_cellY hr2 hrow (by omega) v)
   rw [hev] at h
   exact h)
  (fun _ _ => by first | rfl | kernel_rfl)
 have HT := Lib.hid ht
 have HW2 := Lib.hid hw2; have HBLL := Lib.hid hbl
 have hmf : ∀ (fn : Fn) (first cap : Array Value) (w : World), (Instr.makeFunc fn first cap).run Tryz.prog w = .ok (.func fn first cap) w := fun _ _ _ _ => rfl
 clear ht hw2 hbl hb2 hblw hbpl HPR HB0 HP0 HW0 HBP HBY
 rw [← HW2.out, ← HBLL.out]
 go_wp2_with (go_at_call 46; (with_reducible refine (HT.out).mono ?_); rintro e w8 ⟨b, rfl, hr, hk⟩; obtain ⟨rfl, L, n, hrow, hnl, hev8, -⟩ : b = true ∧ ∃ L n, w8.heap[bl]? = some (.cells #[.slice (some ⟨L, 0, none⟩) n n] 22 (0, 0)) ∧ n = l.length ∧ EvAt w8 (some ⟨L, 0, none⟩) l ∧ ¬ False := (by simpa [RERA] using hr); have HE8 := Lib.hid hev8; have HN8 := Lib.hid hnl; have HB8 := Lib.hid hk; have cl : w8.cell? ⟨bl, 0, none⟩ = some (.slice (some ⟨L, 0, none⟩) n n) := (by rw [cell_of_row _ _ _ _ _ _ hrow]; rfl); clear hr hrow hnl hev8 hk)
 refine bodyPost_ret (results_tmp3Y rfl _ _ _) rfl ?_
 exact ⟨L, n, rfl, HN8.out, HE8.out, (HBW.out.trans (HB8.out.below HBW.out.size (fun k hk => by have hk : k = bl := hk; have := HBL.out; omega)))⟩
theorem evReadA_any (A : Option Addr) (N cap : Nat) (i p : Int) (Q : List Nat) (hN : Hid (N = Q.length)) (hQ : N ≤ 100000) (hc : N ≤ cap) (hcm : cap ≤ maxLen) (w : World) (HA : Hid (ByAt w A Q)) (HG : Hid (HalvesAt w)) :
  Calls Tryz.prog 83 #[.slice A N cap, .int .i64 i, .int .i64 p] w (EvRet (evOut p Q i) w) := by
 have hlen : (Pg.bodyAt Q i).length ≤ 1000000 := by
  unfold Pg.bodyAt
  split
  ·rw [List.length_take, List.length_drop, List.length_drop]; have := hN.out; omega
  ·exact Nat.zero_le _
 have HPR : ∀ w1, Below w.heap.size w w1 → Calls Tryz.prog 45 #[.slice A N cap, .int .i64 i] w1 fun e w' => ∃ A6 C6, e = .returned (.tuple #[.int .u8 (Pg.kindAt Q i : Nat), .slice A6 (Pg.bodyAt Q i).length C6, .int .i64 (Pg.endAt Q i), .int .i64 (Pg.errAt Q i : Nat)]) ∧ ByAt w' A6 (Pg.bodyAt Q i) ∧ (Pg.bodyAt Q i).length ≤ C6 ∧ C6 ≤ maxLen ∧ Below w1.heap.size w1 w' := fun w1 hb =>
  read_any A Q N cap i hN hc hcm w1 (Lib.hid (HA.out.keep hb)) (Lib.hid (HG.out.keep hb))
 by_cases he : Pg.errAt Q i = 0
 ·by_cases hk : Pg.kindAt Q i = 101
  ·rw [he, hk] at HPR
   rcases hev : evR p (Pg.bodyAt Q i) with _ | ⟨l, r⟩
   ·have ho : evOut p Q i = .inl 3 := by unfold evOut; rw [if_neg (fun h => h he), if_neg (fun h => h hk), hev]
    rw [ho]
    exact evReadA_B A N cap i p _ _ (Lib.hid rfl) hlen _ none (fun b bl X w h => h) hev w (Lib.hid HPR)
   ·rcases r with _ | ⟨a, r⟩
    ·have ho : evOut p Q i = .inr (l, Pg.endAt Q i) := by unfold evOut; rw [if_neg (fun h => h he), if_neg (fun h => h hk), hev]
     rw [ho]
     exact evReadA_Y A N cap i p _ _ (Lib.hid rfl) hlen _ l hev w (Lib.hid HPR)
    ·have ho : evOut p Q i = .inl 3 := by unfold evOut; rw [if_neg (fun h => h he), if_neg (fun h => h hk), hev]
     rw [ho]
     exact evReadA_B A N cap i p _ _ (Lib.hid rfl) hlen _ (some (l, a :: r)) (fun b bl X w h => by simpa using h.1) hev w (Lib.hid HPR)
  ·have ho : evOut p Q i = .inl 3 := by unfold evOut; rw [if_neg (fun h => h he), if_pos hk]
   rw [ho]
   rw [he] at HPR
   exact evReadA_K A N cap i p _ _ (Lib.hid rfl) hlen _ _ (by omega) w (Lib.hid HPR)
 ·have ho : evOut p Q i = .inl (Pg.errAt Q i) := by unfold evOut; rw [if_pos he]
  rw [ho]
  exact evReadA_E A N cap i p _ _ (Lib.hid rfl) hlen _ _ _ (by omega) w (Lib.hid HPR)
end Go.Proofs.YtifabkbdiiolfaaGreatDoor
