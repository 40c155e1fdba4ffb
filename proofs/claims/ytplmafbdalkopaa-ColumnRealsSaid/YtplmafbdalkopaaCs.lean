/-
  Layer column: As, Ints; the example.
-/
import Derived.Test.YtplmafbdalkopaaCq
set_option linter.unusedSimpArgs false
set_option linter.unusedVariables false
set_option maxRecDepth 8000
namespace Go.Proofs.Ytplmafbdalkopaa
open Go.RowKit Go.WideShapes Col
namespace Col
/-- Whole numbers, laid in a way. -/
def asL (way : Nat) (l : List Int) : List Nat := [way] ++ ub l.length ++ (if way = 0 then lpl l else if way = 1 then lde 0 l else if way = 2 then lru l else lpk l)
theorem lpl_len : ∀ l : List Int, (∀ x ∈ l, Wf64 x) → (lpl l).length ≤ 10 * l.length
  | [], _ => Nat.le_refl _
  | x :: l, h => by
    have h1 := zz10 (h x (List.mem_cons_self ..))
    have h2 := lpl_len l fun y hy => h y (List.mem_cons_of_mem _ hy)
    unfold lpl at *
    rw [List.flatMap_cons, List.length_append, List.length_cons]; omega
theorem lde_len : ∀ (l : List Int) (p : Int), (lde p l).length ≤ 10 * l.length
  | [], _ => Nat.le_refl _
  | x :: l, p => by
    have h1 := zz10 (sub64_wf x p)
    have h2 := lde_len l x
    rw [lde, List.length_append, List.length_cons]; omega
theorem lru_len (n : Nat) : ∀ l : List Int, l.length ≤ n → l.length ≤ 1000000 → (∀ x ∈ l, Wf64 x) → (lru l).length ≤ 20 * l.length := by
  induction n with
  | zero => intro l h _ _; rw [List.eq_nil_of_length_eq_zero (by omega : l.length = 0), lru_nil]; simp
  | succ n ih =>
    intro l h h1 h2
    rcases l with _ | ⟨x, l⟩
    · rw [lru_nil]; simp
    · rw [lru]
      have hr := runN_le x l
      have h3 := ih (l.drop (runN x l)) (by rw [List.length_drop]; simp at h; omega) (by rw [List.length_drop]; simp at h1; omega) fun y hy => h2 y (List.mem_cons_of_mem _ (List.mem_of_mem_drop hy))
      have h4 := zz10 (h2 x (List.mem_cons_self ..))
      have h5 : (ub (runN x l)).length ≤ 10 := ub10 (by simp at h1; omega)
      rw [List.length_drop] at h3
      rw [List.length_append, List.length_append, List.length_cons]; omega
theorem lpk_len (l : List Int) (h : ∀ x ∈ l, Wf64 x) : (lpk l).length ≤ 12 + 8 * l.length := by
  by_cases h0 : 0 < l.length
  · rw [lpk_some h0, List.length_append, List.length_append, leb_length]
    have h1 := zz10 (mnL_wf h)
    have h2 := wid_le h
    have h3 : l.length * wid l ≤ l.length * 64 := Nat.mul_le_mul_left _ h2
    simp only [List.length_cons, List.length_nil]; omega
  · rw [List.eq_nil_of_length_eq_zero (by omega : l.length = 0), lpk_nil]; simp
theorem asL_len (way : Nat) (l : List Int) (h : ∀ x ∈ l, Wf64 x) (hl : l.length ≤ 1000000) : (asL way l).length ≤ 23 + 20 * l.length := by
  have h1 : (ub l.length).length ≤ 10 := ub10 (by omega)
  unfold asL
  rw [List.length_append, List.length_append]
  have h2 := lpl_len l h; have h3 := lde_len l 0; have h4 := lru_len _ l (Nat.le_refl _) hl h; have h5 := lpk_len l h
  simp only [List.length_cons, List.length_nil]
  split
  · omega
  · split
    · omega
    · split <;> omega
end Col
set_option maxHeartbeats 2000000 in
theorem as_any (way : Nat) (hway : way < 4) (b : Option Addr) (m c : Nat) (l : List Int) (hm : Hid (m = l.length)) (hmc : m ≤ c) (hc : c ≤ 9223372036854775807) (hm1 : m ≤ 900000) (w : World) (HL : Hid (IsAt w b l)) :
    Calls Try.prog 13 #[.int .u8 (way : Int), .slice b m c] w (Puts w.heap.size w (asL way l)) := by
  obtain ⟨B, hB⟩ : ∃ B, B = w.heap.size := ⟨_, rfl⟩
  rw [← hB]
  have HBB := Lib.hid hB
  obtain ⟨w1, hw1⟩ : ∃ w1, w1 = w.alloc (.cells #[.int .u8 (way : Int)] 5) := ⟨_, rfl⟩
  have HA : Hid (w.alloc (.cells #[.int .u8 (way : Int)] 5) = w1) := Lib.hid hw1.symm
  have HB1 : Hid (Below B w w1) := Lib.hid (by rw [hw1]; exact (Below.refl _ _).alloc (by omega) _)
  have HO : Hid (OwnS w1 B (some ⟨B, 0, none⟩) 1 1 [way]) := Lib.hid (OwnS.of_row (cs := [.int .u8 (way : Int)]) (by rw [hw1, hB]; exact heap_alloc_new' w _) rfl (by decide) rfl rfl (Nat.le_refl _) (fun x hx => by simp at hx; omega))
  have hu := ub10 (show m < 18446744073709551616 by omega)
  have HU := Lib.hid hu
  have HM := Lib.hid hm.out
  have hmw : IntKind.u64.wrap (m : Int) = (m : Int) := by rw [IntKind.wrap_u64]; omega
  have HPU := Lib.hid (putU_any B _ 1 1 [way] m (by omega) w1 HO (by omega) (by have := HB1.out.size; omega))
  clear hu hB hw1
  have hway4 : way = 0 ∨ way = 1 ∨ way = 2 ∨ way = 3 := by omega
  rcases hway4 with rfl | rfl | rfl | rfl
  all_goals
    go_enter Try.func13, Try.ntmps13
    go_wp2_with (first
      | (go_at_call 39; have e := HA.out; (first | rw [← HBB.out, e] | (change World.alloc w (.cells #[.int .u8 0] 5) = w1 at e; rw [← HBB.out, e]) | (change World.alloc w (.cells #[.int .u8 1] 5) = w1 at e; rw [← HBB.out, e]) | (change World.alloc w (.cells #[.int .u8 2] 5) = w1 at e; rw [← HBB.out, e]) | (change World.alloc w (.cells #[.int .u8 3] 5) = w1 at e; rw [← HBB.out, e])); clear e; refine (HPU.out).mono ?_; rintro e w2 ⟨A2, n2, c2, rfl, h1, h2, h3⟩; have HO2 := Lib.hid h1; have HB2 := Lib.hid (HB1.out.trans h2); have hn2 : n2 ≤ 11 := (by have e1 := h1.len; have e2 := HU.out; simp at e1; omega); clear h1 h2 h3)
      | (go_at_call 40; refine (layPlain_any B A2 n2 c2 _ b m c l HM (by omega) (by omega) w HL HBB.out _ HB2 HO2).mono ?_; rintro e w3 ⟨A3, n3, c3, rfl, h1, h2, h3⟩; have HO3 := Lib.hid h1; have HB3 := Lib.hid (HB2.out.trans h2); clear h1 h2 h3)
      | (go_at_call 41; refine (layDelta_any B A2 n2 c2 _ b m c l HM (by omega) (by omega) w HL HBB.out _ HB2 HO2).mono ?_; rintro e w3 ⟨A3, n3, c3, rfl, h1, h2, h3⟩; have HO3 := Lib.hid h1; have HB3 := Lib.hid (HB2.out.trans h2); clear h1 h2 h3)
      | (go_at_call 42; refine (layRuns_any B A2 n2 c2 _ b m c l HM hmc hc (by omega) (by omega) w HL HBB.out _ HB2 HO2).mono ?_; rintro e w3 ⟨A3, n3, c3, rfl, h1, h2, h3⟩; have HO3 := Lib.hid h1; have HB3 := Lib.hid (HB2.out.trans h2); clear h1 h2 h3)
      | (go_at_call 43; refine (layPacked_any B A2 n2 c2 _ b m c l HM (by omega) (by omega) w HL HBB.out _ HB2 HO2).mono ?_; rintro e w3 ⟨A3, n3, c3, rfl, h1, h2, h3⟩; have HO3 := Lib.hid h1; have HB3 := Lib.hid (HB2.out.trans h2); clear h1 h2 h3))
    go_ret
    exact ⟨A3, n3, c3, rfl, by have := HO3.out; rw [HM.out] at this; exact this, HB3.out, HB3.out.size⟩
end Go.Proofs.Ytplmafbdalkopaa
