/-
  The document's sums: Add and Of in units and kinds.
-/
import Derived.Test.YtbimfopbilcdgaaQdR
import Derived.Test.YtbimfopbilcdgaaZyQ
set_option linter.unusedSimpArgs false
set_option linter.unusedVariables false
set_option maxRecDepth 100000
namespace Go.Proofs.Ytbimfopbilcdgaa
open Go.RowKit Sm Qb

theorem kind_bits (k : Nat) (hk : k < 32) : k = (if k.testBit 0 then 1 else 0) + (if k.testBit 1 then 2 else 0) + (if k.testBit 2 then 4 else 0) + (if k.testBit 3 then 8 else 0) + (if k.testBit 4 then 16 else 0) := by
  have : ∀ k : _root_.Fin 32, k.val = (if k.val.testBit 0 then 1 else 0) + (if k.val.testBit 1 then 2 else 0) + (if k.val.testBit 2 then 4 else 0) + (if k.val.testBit 3 then 8 else 0) + (if k.val.testBit 4 then 16 else 0) := by decide +kernel
  exact this ⟨k, hk⟩
theorem sum_ends {w : World} {n h : Nat} {c0 c1 c2 c3 c4 : Bool} {e : Ending} {w' : World} (H : Qb.AddEnds w c0 c1 c2 c3 c4 n e w') (h0 : h.testBit 0 = c0) (h1 : h.testBit 1 = c1) (h2 : h.testBit 2 = c2) (h3 : h.testBit 3 = c3) (h4 : h.testBit 4 = c4) : SumEnds w n h e w' := by
  obtain ⟨A, C, he, hb, hl⟩ := H
  exact ⟨A, C, by rw [he]; unfold R6; rw [h0, h1, h2, h3, h4], hb, hl⟩
theorem cb_gives (b : Nat) (hb : b < 18446744073709551616) : CbGives b ((Fl.canon b : Nat) : Int) := fun w => refBits_any b hb w
set_option maxHeartbeats 1000000 in
theorem refAdd_any (A : Option Addr) (C n h b : Nat) (hn : n < top) (hb : b < 18446744073709551616) (w : World) (HA : Hid (BitAt w A n)) :
    Calls Try.prog 123 #[.agg (R6 A C h), .float .f64 b] w (SumEnds w ((n + unit b) % top) (h ||| kindB b)) := by
  have hc := Fl.canon_lt b hb
  have hcb := cb_gives b hb
  unfold R6
  by_cases hnan : Fl.nan b = true
  · have ec : Fl.canon b = 9221120237041090560 := by unfold Fl.canon; rw [hnan]; rfl
    have ek : kindB b = 25 := by unfold kindB; rw [if_pos hnan]
    have eu : unit b = 0 := by
      unfold unit
      rw [if_pos]
      unfold Fl.nan at hnan; rw [decide_eq_true_eq] at hnan; omega
    rw [ec] at hcb
    refine (radd_inf A C _ _ _ _ _ b _ (by decide) (by decide) hcb (by decide) true false (by decide) (by decide) w).mono ?_
    rintro e w' ⟨rfl, hbl⟩
    rw [ek, eu, Nat.add_zero, Nat.mod_eq_of_lt hn]
    refine ⟨A, C, ?_, HA.out.keep hbl, hbl⟩
    unfold R6
    simp only [Nat.testBit_or]
    rw [show Nat.testBit 25 0 = true from rfl, show Nat.testBit 25 1 = false from rfl, show Nat.testBit 25 2 = false from rfl, show Nat.testBit 25 3 = true from rfl, show Nat.testBit 25 4 = true from rfl]
    simp
  · have hnan' : Fl.nan b = false := by simpa using hnan
    have ec : Fl.canon b = b := Fl.canon_num b hnan'
    have hr : ¬ 9218868437227405312 < Fl.rung b := by unfold Fl.nan at hnan'; simpa using hnan'
    rw [ec] at hcb
    by_cases hinf : Fl.rung b = 9218868437227405312
    · have eu : unit b = 0 := by unfold unit; rw [if_pos (by omega)]
      have hrb := hinf
      unfold Fl.rung at hrb
      by_cases hs : 9223372036854775808 ≤ b
      · have ek : kindB b = 28 := by unfold kindB; rw [if_neg hnan, if_pos hinf, if_pos hs]
        refine (radd_inf A C _ _ _ _ _ b _ (by omega) (by omega) hcb (by omega) false true (by rw [bne_eq_false_iff_eq]; omega) (by rw [beq_iff_eq]; omega) w).mono ?_
        rintro e w' ⟨rfl, hbl⟩
        rw [ek, eu, Nat.add_zero, Nat.mod_eq_of_lt hn]
        refine ⟨A, C, ?_, HA.out.keep hbl, hbl⟩
        unfold R6
        simp only [Nat.testBit_or]
        rw [show Nat.testBit 28 0 = false from rfl, show Nat.testBit 28 1 = false from rfl, show Nat.testBit 28 2 = true from rfl, show Nat.testBit 28 3 = true from rfl, show Nat.testBit 28 4 = true from rfl]
        simp
      · have ek : kindB b = 26 := by unfold kindB; rw [if_neg hnan, if_pos hinf, if_neg hs]
        refine (radd_inf A C _ _ _ _ _ b _ (by omega) (by omega) hcb (by omega) false false (by rw [bne_eq_false_iff_eq]; omega) (by rw [beq_eq_false_iff_ne]; omega) w).mono ?_
        rintro e w' ⟨rfl, hbl⟩
        rw [ek, eu, Nat.add_zero, Nat.mod_eq_of_lt hn]
        refine ⟨A, C, ?_, HA.out.keep hbl, hbl⟩
        unfold R6
        simp only [Nat.testBit_or]
        rw [show Nat.testBit 26 0 = false from rfl, show Nat.testBit 26 1 = true from rfl, show Nat.testBit 26 2 = false from rfl, show Nat.testBit 26 3 = true from rfl, show Nat.testBit 26 4 = true from rfl]
        simp
    · have hfin : ¬ 9218868437227405312 ≤ Fl.rung b := by omega
      have ek : kindB b = if b = 9223372036854775808 then 8 else 24 := by unfold kindB; rw [if_neg hnan, if_neg hinf]
      have hrd : Fl.rung b = b % 9223372036854775808 := rfl
      obtain ⟨sg, hsg⟩ : ∃ sg, sg = decide (9223372036854775808 ≤ b) := ⟨_, rfl⟩
      have hsI : ((b : Int) / 9223372036854775808 == 1) = sg := by
        rw [hsg, Bool.eq_iff_iff, beq_iff_eq, decide_eq_true_eq]; omega
      have eu : unit b = if sg then neg (Fl.val (Fl.rung b)) else Fl.val (Fl.rung b) := by
        unfold unit; rw [if_neg hfin, hsg]; simp only [decide_eq_true_eq]
      by_cases hlo : Fl.rung b < 4503599627370496
      · have ev : Fl.val (Fl.rung b) = Fl.rung b * 2 ^ 0 := by unfold Fl.val Fl.mant Fl.shf; rw [if_pos hlo, if_pos hlo]
        refine (radd_lo A C n hn _ _ _ _ _ b _ (by omega) (by omega) hcb (Fl.rung b) (by omega) (by omega) hlo sg (decide (b ≠ 9223372036854775808)) hsI (by rw [Bool.eq_iff_iff, bne_iff_ne, decide_eq_true_eq]; omega) _ (Lib.hid rfl) w HA).mono ?_
        intro e w' H
        rw [← ev, ← eu] at H
        refine sum_ends H ?_ ?_ ?_ ?_ ?_
        all_goals
          rw [Nat.testBit_or, ek]
          by_cases h8 : b = 9223372036854775808
          · rw [if_pos h8]; simp [h8, show Nat.testBit 8 0 = false from rfl, show Nat.testBit 8 1 = false from rfl, show Nat.testBit 8 2 = false from rfl, show Nat.testBit 8 3 = true from rfl, show Nat.testBit 8 4 = false from rfl]
          · rw [if_neg h8]; simp [h8, show Nat.testBit 24 0 = false from rfl, show Nat.testBit 24 1 = false from rfl, show Nat.testBit 24 2 = false from rfl, show Nat.testBit 24 3 = true from rfl, show Nat.testBit 24 4 = true from rfl]
      · have ev : Fl.val (Fl.rung b) = (b % 4503599627370496 + 4503599627370496) * 2 ^ (Fl.rung b / 4503599627370496 - 1) := by
          unfold Fl.val Fl.mant Fl.shf
          rw [if_neg hlo, if_neg hlo, hrd, show b % 9223372036854775808 % 4503599627370496 = b % 4503599627370496 by omega, Nat.add_comm]
        have h8 : b ≠ 9223372036854775808 := fun h => by rw [h] at hlo; exact hlo (by decide)
        refine (radd_hi A C n hn _ _ _ _ _ b _ (by omega) (by omega) hcb (Fl.rung b / 4503599627370496) (b % 4503599627370496) _ _ (by omega) (by omega) (by omega) (by omega) (by omega) rfl rfl sg hsI (by rw [bne_iff_ne]; omega) _ (Lib.hid rfl) w HA).mono ?_
        intro e w' H
        rw [← ev, ← eu] at H
        refine sum_ends H ?_ ?_ ?_ ?_ ?_
        all_goals
          rw [Nat.testBit_or, ek, if_neg h8]
          simp [show Nat.testBit 24 0 = false from rfl, show Nat.testBit 24 1 = false from rfl, show Nat.testBit 24 2 = false from rfl, show Nat.testBit 24 3 = true from rfl, show Nat.testBit 24 4 = true from rfl]

theorem one6 (A : Option Addr) (C h : Nat) : (R6 A C h).all (·.oneCell') = true := by unfold R6; simp [Value.oneCell']
/-- While Of runs: the result's own block, the sum's block, and its bits. -/
structure RQo (w : World) (gs : Nat) (A : Option Addr) (C n h : Nat) (wr : World) : Prop where
  below : Below w.heap.size w wr
  res : wr.heap[w.heap.size]? = some (.cells #[.slice none 0 0, .bool false, .bool false, .bool false, .bool false, .bool false] 158 (0, 0))
  row : wr.heap[gs]? = some (.cells (R6 A C h) 158 (0, 0))
  bits : BitAt wr A n
  lt : w.heap.size < gs
theorem RQo.next {w wr w' : World} {A : Option Addr} {gs C n h : Nat} (H : RQo w gs A C n h wr) (hb : Below wr.heap.size wr w') : RQo w gs A C n h w' :=
  ⟨below_to H.below hb, row_keep H.res hb, row_keep H.row hb, H.bits.keep hb, H.lt⟩
theorem RQo.drew {w wr : World} {A : Option Addr} {gs C n h : Nat} (H : RQo w gs A C n h wr) : RQo w gs A C n h wr.drew := H.next (Below.refl _ _).drew
theorem bits_apart {w : World} {A : Option Addr} {n g : Nat} {cs : Array Value} {t : TypeId} {fr : Nat × Nat} (h : BitAt w A n) (hr : w.heap[g]? = some (.cells cs t fr)) (hc : ∀ (i : Nat) (x : Nat), cs[i]? ≠ some (.int .u8 (x : Int))) {w' : World} (hk : Kept (fun k => k = g) w w') : BitAt w' A n :=
  ByAt.kept h hk (fun x hx _ e => by
    obtain ⟨b, off, e1, hb, hcl⟩ := h.get
    rw [e1] at hx
    injection hx with hx
    subst hx
    have e : b = g := e
    subst e
    have h0 := hcl 0 (by decide)
    rw [cell_of_row _ _ _ _ _ _ hr] at h0
    exact hc _ _ h0)
theorem R6_not (A : Option Addr) (C h : Nat) (i x : Nat) : (R6 A C h)[i]? ≠ some (.int .u8 (x : Int)) := by
  unfold R6
  intro e
  rcases (by omega : i = 0 ∨ i = 1 ∨ i = 2 ∨ i = 3 ∨ i = 4 ∨ i = 5 ∨ 6 ≤ i) with rfl | rfl | rfl | rfl | rfl | rfl | h6
  · simp at e
  · simp at e
  · simp at e
  · simp at e
  · simp at e
  · simp at e
  · rw [Array.getElem?_eq_none (by simpa using h6)] at e; cases e
theorem zero6_not (i x : Nat) : (#[.slice none 0 0, .bool false, .bool false, .bool false, .bool false, .bool false] : Array Value)[i]? ≠ some (.int .u8 (x : Int)) := by
  intro e
  rcases (by omega : i = 0 ∨ i = 1 ∨ i = 2 ∨ i = 3 ∨ i = 4 ∨ i = 5 ∨ 6 ≤ i) with rfl | rfl | rfl | rfl | rfl | rfl | h6
  · simp at e
  · simp at e
  · simp at e
  · simp at e
  · simp at e
  · simp at e
  · rw [Array.getElem?_eq_none (by simpa using h6)] at e; cases e
theorem RQo.put {w wr : World} {A0 : Option Addr} {gs C0 n0 h0 : Nat} (H : RQo w gs A0 C0 n0 h0 wr) (A : Option Addr) (C h n : Nat) (hb : BitAt wr A n) : RQo w gs A C n h (wr.setRow gs (R6 A C h)) :=
  ⟨below_setRow H.below (Nat.le_of_lt H.lt) _, (setRow_other _ _ _ _ (Nat.ne_of_lt H.lt)).trans H.res, setRow_heap _ _ _ _ _ _ H.row, bits_apart hb H.row (R6_not _ _ _) (kept_setRowQ _ _ _), H.lt⟩
set_option maxHeartbeats 4000000 in
theorem refOf_any2 (a : Option Addr) (l : List Nat) (len cap : Nat) (hlen : Hid (len = l.length)) (hl : len ≤ 1000000) (w : World) (HA : Hid (FlAt w a l)) :
    Calls Try.prog 95 #[.slice a len cap] w (SumEnds w (accN l) (accH l)) := by
  have HZ : Hid (∀ w, Calls Try.prog 122 #[] w (SumEnds w 0 0)) := Lib.hid rnew_any
  go_enter Try.func95, Try.ntmps95
  go_wp2_with (first
    | (go_at_call 122; refine (HZ.out _).mono ?_; rintro e w1 ⟨A0, C0, rfl, hbt, hb1⟩; have HB1 := Lib.hid hb1; have HBT := Lib.hid hbt; clear hb1 hbt)
    | (refine wpList_store_row rfl 158 (.tmp 3) (.tmp 5) rfl _ (R6 A0 C0 0) rfl rfl _ _ (heap_alloc_new _ _) (iR6 _ _ _ _ _ _) rfl (one6 _ _ _) ?_; rw [World.setRow_alloc_new]))
  have HQ0 : Hid (RQo w w1.heap.size A0 C0 0 0 (w1.alloc (.cells (R6 A0 C0 0) 158))) := Lib.hid (by
    have hb : Below w1.heap.size w1 (w1.alloc (.cells (R6 A0 C0 0) 158)) := (Below.refl _ _).alloc (Nat.le_refl _) _
    have h0 : Below w.heap.size w (w.alloc (.cells #[.slice none 0 0, .bool false, .bool false, .bool false, .bool false, .bool false] 158)) := (Below.refl _ _).alloc (Nat.le_refl _) _
    exact ⟨below_to (below_to h0 HB1.out) hb, row_keep (row_keep (heap_alloc_new' w _) HB1.out) hb, heap_alloc_new' w1 _, HBT.out.keep hb, by have := HB1.out.size; simp at this; omega⟩)
  obtain ⟨gs, hgs⟩ : ∃ gs, gs = w1.heap.size := ⟨_, rfl⟩
  rw [← hgs] at HQ0 ⊢
  clear hgs HBT HB1 HZ
  go_loopw [4] (fun i wr => ∃ (k : Nat) (Ak : Option Addr) (Ck : Nat), k ≤ len ∧ i = .int .i64 k ∧ RQo w gs Ak Ck (accN (l.take k)) (accH (l.take k)) wr) (fun i _ => len - (intOf i).toNat)
  case atStart => exact ⟨0, A0, C0, by omega, rfl, HQ0.out⟩
  case round =>
    clear HQ0
    obtain ⟨k, Ak, Ck, hk, rfl, hq⟩ := hrel
    have HQ0 := Lib.hid hq
    clear hq
    by_cases hlt : k < len
    · have hkl : k < l.length := by have := hlen.out; omega
      obtain ⟨hx, g, off, rfl, hg, hc0⟩ := HA.out k l[k] (List.getElem?_eq_getElem hkl)
      have HADD : ∀ w, Hid (BitAt w Ak (accN (l.take k))) → Calls Try.prog 123 #[.agg (R6 Ak Ck (accH (l.take k))), .float .f64 l[k]] w (SumEnds w (accN (l.take (k + 1))) (accH (l.take (k + 1)))) := fun w hb => by
        rw [List.take_succ_eq_append_getElem hkl, accN_snoc, accH_snoc]
        exact refAdd_any Ak Ck _ _ _ (accN_lt _) hx w hb
      have HADD := Lib.hid HADD
      have HC0 := Lib.hid hc0
      clear hc0
      generalize l[k] = X at *
      have hkI : (k : Int) < (len : Int) := by omega
      go_wp2
      refine wp_region_held_drew (S := Below w.heap.size w) (by kernel_rfl) HQ0.out.below.drew (fun hHeld => ?_)
      have HQ := HQ0.out.drew
      have hc0 := HC0.out
      refine wpAnyH_take (i := 1) (v := .slice (some ⟨g, off, none⟩) len cap) rfl (by kernel_rfl) (by kernel_rfl) (by kernel_rfl) (fun _ _ _ h => h) (Or.inl ⟨by rfl, fun _ _ => rfl⟩) hHeld ?_
      try dsimp only
      try simp only [Act.put, List.getElem_toArray, List.getElem_cons_zero, List.getElem_cons_succ, List.setIfInBounds_toArray, List.set_cons_zero, List.set_cons_succ]
      refine wpAnyH_take (i := 2) (v := .int .i64 k) rfl (by kernel_rfl) (by kernel_rfl) (by kernel_rfl) (fun _ _ _ h => h) (Or.inl ⟨by rfl, fun _ _ => rfl⟩) hHeld ?_
      try dsimp only
      try simp only [Act.put, List.getElem_toArray, List.getElem_cons_zero, List.getElem_cons_succ, List.setIfInBounds_toArray, List.set_cons_zero, List.set_cons_succ]
      refine wpAnyH_take (i := 3) (v := .pointer (some ⟨g, off + k, none⟩)) rfl (by kernel_rfl) (by kernel_rfl) (by kernel_rfl) (fun _ _ _ h => h) (Or.inl ⟨by rfl, fun w _ => by go_simp⟩) hHeld ?_
      try dsimp only
      try simp only [Act.put, List.getElem_toArray, List.getElem_cons_zero, List.getElem_cons_succ, List.setIfInBounds_toArray, List.set_cons_zero, List.set_cons_succ]
      refine wpAnyH_take (i := 4) (v := .float .f64 X) rfl (by kernel_rfl) (by kernel_rfl) (by kernel_rfl) (fun _ _ _ h => h) (Or.inl ⟨by rfl, fun w hw => by have hc : w.cell? ⟨g, off + k, none⟩ = some (.float .f64 X) := (hw.cell (p := ⟨g, off + k, none⟩) hg).trans hc0; go_simp⟩) hHeld ?_
      try dsimp only
      try simp only [Act.put, List.getElem_toArray, List.getElem_cons_zero, List.getElem_cons_succ, List.setIfInBounds_toArray, List.set_cons_zero, List.set_cons_succ]
      refine wpAnyH_ready (rs := [0]) (by kernel_rfl) (by simp) (AllReadyH.cons rfl (fun K hK => ?_) AllReadyH.nil)
      rw [if_pos (by rfl)]
      refine wp_load_row 158 (.tmp 3) rfl gs rfl _ (R6 Ak Ck (accH (l.take k))) (0, 0) _ HQ.row uR6 rfl (iR6 _ _ _ _ _ _) ?_
      refine hK.out _ _ hHeld (fun hHeld => ?_)
      clear hK K
      try dsimp only
      try simp only [Act.put, List.getElem_toArray, List.getElem_cons_zero, List.getElem_cons_succ, List.setIfInBounds_toArray, List.set_cons_zero, List.set_cons_succ]
      refine wpAnyH_ready (rs := [5]) (by kernel_rfl) (by simp) (AllReadyH.cons rfl (fun K hK => ?_) AllReadyH.nil)
      go_simp
      refine (HADD.out _ (Lib.hid HQ.bits)).mono ?_
      rintro e w1 ⟨A2, C2, rfl, hbt, hb1⟩
      replace hHeld := below_to hHeld hb1
      replace HQ := HQ.next hb1
      refine hK.out _ _ hHeld (fun hHeld => ?_)
      clear hK K
      try dsimp only
      try simp only [Act.put, List.getElem_toArray, List.getElem_cons_zero, List.getElem_cons_succ, List.setIfInBounds_toArray, List.set_cons_zero, List.set_cons_succ]
      refine wpAnyH_ready (rs := [6]) (by kernel_rfl) (by simp) (AllReadyH.cons rfl (fun K hK => ?_) AllReadyH.nil)
      rw [if_pos (by rfl)]
      refine wp_store_row 158 (.tmp 3) (.tmp 17) rfl gs (R6 A2 C2 (accH (l.take (k + 1)))) rfl rfl _ _ HQ.row (iR6 _ _ _ _ _ _) rfl (one6 _ _ _) ?_
      have HQ2 := Lib.hid (HQ.put A2 C2 (accH (l.take (k + 1))) (accN (l.take (k + 1))) hbt)
      refine hK.out _ _ HQ2.out.below (fun _ => ?_)
      clear hK K
      refine wpAnyH_done (by kernel_rfl) ?_ _
      clear HQ0 HQ hc0 hHeld HADD hbt
      go_wp2
      go_roundw
      case rel => exact ⟨k + 1, A2, C2, by omega, by go_num, HQ2.out⟩
      case measure => simp [intOf]; omega
    · have hkl : l.take k = l := List.take_of_length_le (by have := hlen.out; omega)
      rw [hkl] at HQ0
      go_wp2_with (first
        | (refine wpList_load_row rfl 158 (.tmp 3) rfl gs rfl _ (R6 Ak Ck (accH l)) (0, 0) _ HQ0.out.row uR6 rfl (iR6 _ _ _ _ _ _) ?_)
        | (refine wpList_store_row rfl 158 (.tmp 2) (.tmp 18) rfl w.heap.size (R6 Ak Ck (accH l)) rfl rfl _ _ HQ0.out.res (iR6 _ _ _ _ _ _) rfl (one6 _ _ _) ?_))
      have hb2 : BitAt (wr.setRow w.heap.size (R6 Ak Ck (accH l))) Ak (accN l) := bits_apart HQ0.out.bits HQ0.out.res zero6_not (kept_setRowQ _ _ _)
      exact post_row 2 158 Try.results95 rfl w.heap.size 158 _ (0, 0) _ rfl (setRow_heap _ _ _ _ _ _ HQ0.out.res) uR6 rfl (iR6 _ _ _ _ _ _) ⟨Ak, Ck, rfl, hb2, below_setRow HQ0.out.below (Nat.le_refl _) _⟩
end Go.Proofs.Ytbimfopbilcdgaa
