/-
  Layer column: times: a list of what a function tells, one call behind the other.
-/
import Derived.Test.YtifabkbdiiolfaaDoorCqK
import Derived.Test.YtifabkbdiiolfaaDoorCyK
set_option linter.unusedSimpArgs false
set_option linter.unusedVariables false
set_option maxRecDepth 8000
namespace Go.Proofs.YtifabkbdiiolfaaDoor
open Go.RowKit Go.WideShapes Col
namespace Col
/-- Whole numbers, laid in a way. -/
def asL (way : Nat) (l : List Int) : List Nat := [way] ++ ub l.length ++ (if way = 0 then lpl l else if way = 1 then lde 0 l else if way = 2 then lru l else lpk l)
theorem lpl_len : ∀ l : List Int, (∀ x ∈ l, Wf64 x) → (lpl l).length ≤ 10 * l.length
 | [], _ => Nat.le_refl _
 | x :: l, h => by
  have h1 := zz10 (h x (List.mem_cons_self ..))
  have h2 := lpl_len l fun y hy => h y (List.mem_cons_of_mem _ hy)
  unfold lpl at *
  rw [List.flatMap_cons, List.length_append, List.length_cons]; omega
theorem lde_len : ∀ (l : List Int) (p : Int), (lde p l).length ≤ 10 * l.length
 | [], _ => Nat.le_refl _
 | x :: l, p => by
  have h1 := zz10 (sub64_wf x p)
  have h2 := lde_len l x
  rw [lde, List.length_append, List.length_cons]; omega
theorem lru_len (n : Nat) : ∀ l : List Int, l.length ≤ n → l.length ≤ 1000000 → (∀ x ∈ l, Wf64 x) → (lru l).length ≤ 20 * l.length := by
 induction n with
 | zero => intro l h _ _; rw [List.eq_nil_of_length_eq_zero (by omega : l.length = 0), lru_nil]; simp
 | succ n ih =>
  intro l h h1 h2
  rcases l with _ | ⟨x, l⟩
  ·rw [lru_nil]; simp
  ·rw [lru]
   have hr := runN_le x l
   have h3 := ih (l.drop (runN x l)) (by rw [List.length_drop]; simp at h; omega) (by rw [List.length_drop]; simp at h1; omega) fun y hy => h2 y (List.mem_cons_of_mem _ (List.mem_of_mem_drop hy))
   have h4 := zz10 (h2 x (List.mem_cons_self ..))
   have h5 : (ub (runN x l)).length ≤ 10 := ub10 (by simp at h1; omega)
   rw [List.length_drop] at h3
   rw [List.length_append, List.length_append, List.length_cons]; omega
theorem lpk_len (l : List Int) (h : ∀ x ∈ l, Wf64 x) : (lpk l).length ≤ 12 + 8 * l.length := by
 by_cases h0 : 0 < l.length
 ·rw [lpk_some h0, List.length_append, List.length_append, leb_length]
  have h1 := zz10 (mnL_wf h)
  have h2 := wid_le h
  have h3 : l.length * wid l ≤ l.length * 64 := Nat.mul_le_mul_left _ h2
  simp only [List.length_cons, List.length_nil]; omega
 ·rw [List.eq_nil_of_length_eq_zero (by omega : l.length = 0), lpk_nil]; simp
theorem asL_len (way : Nat) (l : List Int) (h : ∀ x ∈ l, Wf64 x) (hl : l.length ≤ 1000000) : (asL way l).length ≤ 23 + 20 * l.length := by
 have h1 : (ub l.length).length ≤ 10 := ub10 (by omega)
 unfold asL
 rw [List.length_append, List.length_append]
 have h2 := lpl_len l h; have h3 := lde_len l 0; have h4 := lru_len _ l (Nat.le_refl _) hl h; have h5 := lpk_len l h
 simp only [List.length_cons, List.length_nil]
 split
 ·omega
 ·split
  ·omega
  ·split <;> omega
end Col
set_option maxHeartbeats 2000000 in
theorem as_any (way : Nat) (hway : way < 4) (b : Option Addr) (m c : Nat) (l : List Int) (hm : Hid (m = l.length)) (hmc : m ≤ c) (hc : c ≤ 9223372036854775807) (hm1 : m ≤ 900000) (w : World) (HL : Hid (IsAt w b l)) :
  Calls Tryd.prog 53 #[.int .u8 (way : Int), .slice b m c] w (Puts w.heap.size w (asL way l)) := by
 obtain ⟨B, hB⟩ : ∃ B, B = w.heap.size := ⟨_, rfl⟩
 rw [← hB]
 have HBB := Lib.hid hB
 obtain ⟨w1, hw1⟩ : ∃ w1, w1 = w.alloc (.cells #[.int .u8 (way : Int)] 5) := ⟨_, rfl⟩
 have HA : Hid (w.alloc (.cells #[.int .u8 (way : Int)] 5) = w1) := Lib.hid hw1.symm
 have HB1 : Hid (Below B w w1) := Lib.hid (by rw [hw1]; exact (Below.refl _ _).alloc (by omega) _)
 have HO : Hid (OwnS w1 B (some ⟨B, 0, none⟩) 1 1 [way]) := Lib.hid (OwnS.of_row (cs := [.int .u8 (way : Int)]) (by rw [hw1, hB]; exact heap_alloc_new' w _) rfl (by decide) rfl rfl (Nat.le_refl _) (fun x hx => by simp at hx; omega))
 have hu := ub10 (show m < 18446744073709551616 by omega)
 have HU := Lib.hid hu
 have HM := Lib.hid hm.out
 have hmw : IntKind.u64.wrap (m : Int) = (m : Int) := by rw [IntKind.wrap_u64]; omega
 have HPU := Lib.hid (putU_any B _ 1 1 [way] m (by omega) w1 HO (by omega) (by have := HB1.out.size; omega))
 clear hu hB hw1
 have hway4 : way = 0 ∨ way = 1 ∨ way = 2 ∨ way = 3 := by omega
 rcases hway4 with rfl | rfl | rfl | rfl
 all_goals
  go_enter Tryd.func53, Tryd.ntmps53
  go_wp2_with (first
   | (go_at_call 52; have e := HA.out; (first | rw [← HBB.out, e] | (change World.alloc w (.cells #[.int .u8 0] 5) = w1 at e; rw [← HBB.out, e]) | (change World.alloc w (.cells #[.int .u8 1] 5) = w1 at e; rw [← HBB.out, e]) | (change World.alloc w (.cells #[.int .u8 2] 5) = w1 at e; rw [← HBB.out, e]) | (change World.alloc w (.cells #[.int .u8 3] 5) = w1 at e; rw [← HBB.out, e])); clear e; refine (HPU.out).mono ?_; rintro e w2 ⟨A2, n2, c2, rfl, h1, h2, h3⟩; have HO2 := Lib.hid h1; have HB2 := Lib.hid (HB1.out.trans h2); have hn2 : n2 ≤ 11 := (by have e1 := h1.len; have e2 := HU.out; simp at e1; omega); clear h1 h2 h3)
   | (go_at_call 65; refine (layPlain_any B A2 n2 c2 _ b m c l HM (by omega) (by omega) w HL HBB.out _ HB2 HO2).mono ?_; rintro e w3 ⟨A3, n3, c3, rfl, h1, h2, h3⟩; have HO3 := Lib.hid h1; have HB3 := Lib.hid (HB2.out.trans h2); clear h1 h2 h3)
   | (go_at_call 66; refine (layDelta_any B A2 n2 c2 _ b m c l HM (by omega) (by omega) w HL HBB.out _ HB2 HO2).mono ?_; rintro e w3 ⟨A3, n3, c3, rfl, h1, h2, h3⟩; have HO3 := Lib.hid h1; have HB3 := Lib.hid (HB2.out.trans h2); clear h1 h2 h3)
   | (go_at_call 67; refine (layRuns_any B A2 n2 c2 _ b m c l HM hmc hc (by omega) (by omega) w HL HBB.out _ HB2 HO2).mono ?_; rintro e w3 ⟨A3, n3, c3, rfl, h1, h2, h3⟩; have HO3 := Lib.hid h1; have HB3 := Lib.hid (HB2.out.trans h2); clear h1 h2 h3)
   | (go_at_call 68; refine (layPacked_any B A2 n2 c2 _ b m c l HM (by omega) (by omega) w HL HBB.out _ HB2 HO2).mono ?_; rintro e w3 ⟨A3, n3, c3, rfl, h1, h2, h3⟩; have HO3 := Lib.hid h1; have HB3 := Lib.hid (HB2.out.trans h2); clear h1 h2 h3))
  go_ret
  exact ⟨A3, n3, c3, rfl, by have := HO3.out; rw [HM.out] at this; exact this, HB3.out, HB3.out.size⟩
end Go.Proofs.YtifabkbdiiolfaaDoor

namespace Go.Proofs.YtifabkbdiiolfaaDoor
open Go.RowKit Go.WideShapes Col
namespace Col
/-- The shorter one, and of two the first. -/
def pickL (best : List Nat) (p : List Nat) : List Nat := if p.length < best.length then p else best
def bestL (k : Nat) (l : List Int) : List Nat := match k with
 | 0 => asL 0 l
 | k + 1 => pickL (bestL k l) (asL (k + 1) l)
def intsL (l : List Int) : List Nat := bestL 3 l
end Col
def RI (W : World) (l : List Int) (u v : Value) (wr : World) : Prop := ∃ (k : Nat) (A : Option Addr) (n cap : Nat), k ≤ 3 ∧ v = .int .u8 ((k + 1 : Nat) : Int) ∧ u = .slice A n cap ∧ OwnS wr W.heap.size A n cap (bestL k l) ∧ Below W.heap.size W wr
set_option maxHeartbeats 2000000 in
theorem ints_any (b : Option Addr) (m c : Nat) (l : List Int) (hm : Hid (m = l.length)) (hmc : m ≤ c) (hc : c ≤ 9223372036854775807) (hm1 : m ≤ 900000) (W : World) (HL : Hid (IsAt W b l)) :
  Calls Tryd.prog 32 #[.slice b m c] W (Puts W.heap.size W (intsL l)) := by
 have HA := Lib.hid fun way hway w hl => as_any way hway b m c l hm hmc hc hm1 w hl
 have HWF : Hid (∀ x ∈ l, Wf64 x) := Lib.hid HL.out.wf
 have HA0 : Hid (Calls Tryd.prog 53 #[.int .u8 0, .slice b m c] W (Puts W.heap.size W (asL 0 l))) := Lib.hid (HA.out 0 (by decide) W HL)
 go_enter Tryd.func32, Tryd.ntmps32
 go_wp2_with (go_at_call 53; (with_reducible refine (HA0.out).mono ?_); rintro e w1 ⟨A1, n1, c1, rfl, h1, h2, h3⟩; have HO1 := Lib.hid h1; have HB1 := Lib.hid h2; clear h1 h2 h3)
 go_loopw [3, 4] (fun u v wr => RI W l u v wr) (fun _ v _ => 4 - (intOf v).toNat)
 case atStart => exact ⟨0, A1, n1, c1, by decide, rfl, rfl, HO1.out, HB1.out⟩
 case round =>
  obtain ⟨k, A, n, cap, hk, rfl, rfl, ho, hb⟩ := hrel
  have HO := Lib.hid ho; have HB := Lib.hid hb
  clear ho hb HA0
  have hk4 : k = 0 ∨ k = 1 ∨ k = 2 ∨ k = 3 := by omega
  by_cases h3 : k = 3
  ·subst h3
   go_wp2
   go_ret
   exact ⟨A, n, cap, rfl, HO.out, HB.out, HB.out.size⟩
  ·obtain ⟨K, hK⟩ : ∃ K, K = k + 1 := ⟨_, rfl⟩
   have HK := Lib.hid hK
   have hK4 : K < 4 := by omega
   have hK3 : K ≤ 3 := by omega
   rw [← hK]
   clear hK hk hk4 h3
   have HAK := Lib.hid (HA.out K hK4 wr (Lib.hid (HL.out.keep HB.out)))
   have HNL := Lib.hid HO.out.len
   go_upto_region 6 with (go_at_call 53; (with_reducible refine (HAK.out).mono ?_); rintro e w2 ⟨A2, n2, c2, rfl, h1, h2, h3⟩; have HO2 := Lib.hid (h1.more HB.out.size); have HB2 := Lib.hid (below_to HB.out h2); have HOK := Lib.hid (HO.out.keep h2); clear h1 h2 h3)
   have HN2 := Lib.hid HO2.out.len
   by_cases hlt : n2 < n
   ·have HS : Hid (bestL K l = asL K l) := Lib.hid (by rw [HK.out]; unfold bestL pickL; rw [if_pos (by have := HNL.out; have := HN2.out; rw [← HK.out]; omega)])
    go_wp2
    go_roundw
    case rel => exact ⟨K, A2, n2, c2, hK3, by go_num, rfl, by rw [HS.out]; exact HO2.out, HB2.out⟩
    case measure => have := HK.out; simp [intOf]; omega
   ·have HS : Hid (bestL K l = bestL k l) := Lib.hid (by rw [HK.out]; unfold bestL; unfold pickL; rw [if_neg (by have := HNL.out; have := HN2.out; rw [← HK.out]; omega)]; cases k <;> rfl)
    go_wp2
    go_roundw
    case rel => exact ⟨K, A, n, cap, hK3, by go_num, rfl, by rw [HS.out]; exact HOK.out, HB2.out⟩
    case measure => have := HK.out; simp [intOf]; omega
end Go.Proofs.YtifabkbdiiolfaaDoor

namespace Go.Proofs.YtifabkbdiiolfaaDoor
open Go.RowKit Go.WideShapes Col
namespace Col
/-- So many steps, one behind the other: what they tell, and what is left. -/
def runS {σ α : Type} (step : σ → Option (α × σ)) : Nat → σ → Option (List α × σ)
 | 0, s => some ([], s)
 | k + 1, s => (runS step k s).bind fun p => (step p.2).map fun r => (p.1 ++ [r.1], r.2)
end Col
/-- A row of whole numbers that is all of a slice. -/
def RowI (w : World) (g : Nat) (l : List Int) : Prop := w.heap[g]? = some (.cells (ivs l).toArray 2 (0, 0))
section
variable {w : World} {g : Nat} {l : List Int}
theorem RowI.fr (h : RowI w g l) (i : Nat) : w.frozen? ⟨g, i, none⟩ = false := row_frozen h i
theorem RowI.at (h : RowI w g l) (i : Nat) (hi : i < l.length) : ∃ u, w.cell? ⟨g, i, none⟩ = some u := by
 rw [cell_of_row _ _ _ _ _ _ h, List.getElem?_toArray]
 exact ⟨_, List.getElem?_eq_getElem (by rw [ivs_length]; exact hi)⟩
theorem RowI.set (h : RowI w g l) (i : Nat) (x : Int) : RowI (w.setCell ⟨g, i, none⟩ (.int .i64 x)) g (l.set i x) := by
 unfold RowI at *
 rw [World.setCell]
 simp only [Array.getElem?_modify, if_pos, h, Option.map_some]
 have e : (ivs l).toArray.setIfInBounds i (.int .i64 x) = (ivs (l.set i x)).toArray := by
  unfold ivs; rw [List.map_set]; simp; rfl
 simp [e]
theorem RowI.keep {S : Nat → Prop} {w' : World} (h : RowI w g l) (hk : Kept S w w') (hg : ¬ S g) : RowI w' g l := hk.heap h hg
theorem RowI.own {B : Nat} (h : RowI w g l) (hB : B ≤ g) (hl : ∀ x ∈ l, Wf64 x) (hm : l.length ≤ maxLen) : OwnI w B (some ⟨g, 0, none⟩) l.length l.length l := by
 refine ⟨⟨by rw [ivs_length]; omega, .inr ⟨g, l.length, _, rfl, hB, h, Nat.le_refl _, hm, by simp [ivs_length], by rw [Nat.mul_one]; simp [ivs_length, List.take_of_length_le]⟩⟩, hl⟩
end
theorem rowI_zeros {w : World} {B g q : Nat} (h : w.ownsRow B 2 1 (.slice (some ⟨g, 0, none⟩) q q) q (madeCells (Value.int .i64 0).cells (q * 1)).toList) : RowI w g (List.replicate q 0) := by
 have e : ivs (List.replicate q 0) = List.replicate q (.int .i64 0) := by unfold ivs; rw [List.map_replicate]; rfl
 rw [Nat.mul_one, show (Value.int .i64 0).cells = #[.int .i64 0] from rfl, toList_madeCells_one, ← e] at h
 rcases h.2 with ⟨h1, h2⟩ | ⟨g', cap', cur, h1, hb, hrow, -, -, hs, ht⟩
 ·cases h1
 ·cases h1
  unfold RowI
  rw [hrow]
  have hc : cur = (ivs (List.replicate q 0)).toArray := by
   apply Array.ext'
   rw [← ht, Nat.mul_one, List.take_of_length_le (by rw [Array.length_toList, hs]; omega)]
  rw [hc]
theorem fill_set (xs : List Int) (n k : Nat) (hx : xs.length = k) (hk : k < n) (x : Int) : (xs ++ List.replicate (n - k) 0).set k x = (xs ++ [x]) ++ List.replicate (n - (k + 1)) 0 := by
 obtain ⟨m, rfl⟩ : ∃ m, n = k + 1 + m := ⟨n - k - 1, by omega⟩
 rw [show k + 1 + m - k = m + 1 by omega, show k + 1 + m - (k + 1) = m by omega, List.replicate_succ, List.set_append_right _ _ (by omega), hx, Nat.sub_self, List.set_cons_zero, List.append_assoc]; rfl
/-- How a reading of a list ends. -/
def ListEnds {σ : Type} (g : Nat) (Sw : Nat → Prop) (St : σ → World → Prop) (o : Option (List Int × σ)) (w : World) (e : Ending) (w' : World) : Prop :=
 match o with
 | some p => (∃ A n cap, e = .returned (.slice A n cap) ∧ OwnI w' w.heap.size A n cap p.1) ∧ St p.2 w' ∧ Kept Sw w w'
 | none => e = .panicked [gu g] ∧ Gone w' g ∧ Kept Sw w w'
theorem infoI64' : (Tryd.prog.info? 2).map (fun i => (i.zero, i.size, i.bytes)) = some (some (.int .i64 0), 1, 8) := by kernel_rfl
end Go.Proofs.YtifabkbdiiolfaaDoor
