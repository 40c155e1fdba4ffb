/-
  Layer mark: the contract of See.
-/
import Derived.Test.YtgoibcolehcgcaaKb
set_option linter.unusedSimpArgs false
set_option linter.unusedVariables false
set_option maxRecDepth 8000
namespace Go.Proofs.Ytgoibcolehcgcaa
open Go.RowKit Go.WideShapes Mk
theorem row_setK {w : World} {g : Nat} {cs : Array Value} {t : TypeId} {fr : Nat × Nat} (h : w.heap[g]? = some (.cells cs t fr)) (i : Nat) (u : Value) : (w.setCell ⟨g, i, none⟩ u).heap[g]? = some (.cells (cs.setIfInBounds i u) t fr) := by
  rw [World.setCell]; simp [Array.getElem?_modify, h]
/-- Marks in one block, zero marks in the next one. -/
structure Mk2 (w0 : World) (c0 c1 : Array Value) (w : World) : Prop where
  below : Below w0.heap.size w0 w
  r0 : w.heap[w0.heap.size]? = some (.cells c0 28 (0, 0))
  r1 : w.heap[w0.heap.size + 1]? = some (.cells c1 28 (0, 0))
theorem Mk2.start (w : World) (c0 c1 : Array Value) : Mk2 w c0 c1 ((w.alloc (.cells c0 28)).alloc (.cells c1 28)) :=
  ⟨((Below.refl _ _).alloc (Nat.le_refl _) _).alloc (by simp) _, heap_alloc2_old w _ _, heap_alloc2_new w _ _⟩
theorem Mk2.next {w0 w w' : World} {c0 c1 : Array Value} (h : Mk2 w0 c0 c1 w) (hb : Below w.heap.size w w') : Mk2 w0 c0 c1 w' := ⟨below_to h.below hb, row_keep h.r0 hb, row_keep h.r1 hb⟩
theorem Mk2.put {w0 w : World} {n : Int} {g : Nat → Option Int} {c1 : Array Value} (h : Mk2 w0 (MC n g) c1 w) (p : Nat) (h8 : p < 8) (t : Int) :
    Mk2 w0 (MC n (fun k => if k = p then some t else g k)) c1 ((w.setCell ⟨w0.heap.size, 1 + p * 2, none⟩ (.bool true)).setCell ⟨w0.heap.size, 1 + p * 2 + 1, none⟩ (.int .i64 t)) := by
  refine ⟨(h.below.setCell (by exact Nat.le_refl _) _).setCell (by exact Nat.le_refl _) _, ?_, ?_⟩
  · rw [row_setK (row_setK h.r0 _ _), MC_set n g p h8 t]
  · rw [Below.heap_setCell _ _ _ _ (by show w0.heap.size + 1 ≠ w0.heap.size; omega), Below.heap_setCell _ _ _ _ (by show w0.heap.size + 1 ≠ w0.heap.size; omega)]; exact h.r1
theorem Mk2.c0 {w0 w : World} {n : Int} {g : Nat → Option Int} {c1 : Array Value} (h : Mk2 w0 (MC n g) c1 w) : w.cell? ⟨w0.heap.size, 0, none⟩ = some (.int .i64 n) := by rw [cell_of_row _ _ _ _ _ _ h.r0, MC_n]
theorem Mk2.cs {w0 w : World} {n : Int} {g : Nat → Option Int} {c1 : Array Value} (h : Mk2 w0 (MC n g) c1 w) (p : Nat) (h8 : p < 8) : w.cell? ⟨w0.heap.size, 1 + p * 2, none⟩ = some (.bool (g p).isSome) ∧ w.cell? ⟨w0.heap.size, 1 + p * 2 + 1, none⟩ = some (.int .i64 ((g p).getD 0)) ∧ ∀ i, w.frozen? ⟨w0.heap.size, i, none⟩ = false :=
  ⟨by rw [cell_of_row _ _ _ _ _ _ h.r0, MC_seen n g p h8], by rw [cell_of_row _ _ _ _ _ _ h.r0, MC_time n g p h8], fun i => row_frozen h.r0 i⟩
/-- What a call ends with that answers marks. -/
def MEnds (w : World) (n : Int) (g : Nat → Option Int) (e : Ending) (w' : World) : Prop := e = .returned (.agg (MC n g)) ∧ Below w.heap.size w w'
set_option maxHeartbeats 2000000 in
theorem seeM_out (n p t : Int) (g : Nat → Option Int) (hp : p < 0 ∨ n ≤ p) (w : World) :
    Calls Try.prog 10 #[.agg (MC n g), .int .i64 p, .int .i64 t] w (MEnds w n g) := by
  have H2 := Lib.hid (Mk2.start w (MC n g) (MC 0 (fun _ => none)))
  have h0 := MC_n n g
  by_cases h : p < 0
  · go_enter Try.func10, Try.ntmps10
    go_wp2_with (first
    | (rw [zerosM]; refine wpList_load_row rfl 28 (.tmp 3) rfl w.heap.size rfl _ (MC n g) (0, 0) _ H2.out.r0 uM rfl (iM _ _) ?_)
    | (refine wpList_store_row rfl 28 (.tmp 6) (.tmp 17) rfl (w.heap.size + 1) (MC n g) rfl rfl _ _ H2.out.r1 (iM _ _) (by rw [MC_size, MC_size]) (MC_one _ _) ?_))
    exact post_rowK 6 28 Try.results10 rfl (w.heap.size + 1) 28 _ (0, 0) _ rfl (setRow_heap _ _ _ _ _ _ H2.out.r1) uM rfl (iM _ _) ⟨rfl, below_setRowK H2.out.below (by omega) _⟩
  · have h9 : n ≤ p := by omega
    go_enter Try.func10, Try.ntmps10
    go_wp2_with (first
    | (rw [zerosM]; refine wpList_load_row rfl 28 (.tmp 3) rfl w.heap.size rfl _ (MC n g) (0, 0) _ H2.out.r0 uM rfl (iM _ _) ?_)
    | (refine wpList_store_row rfl 28 (.tmp 6) (.tmp 17) rfl (w.heap.size + 1) (MC n g) rfl rfl _ _ H2.out.r1 (iM _ _) (by rw [MC_size, MC_size]) (MC_one _ _) ?_))
    exact post_rowK 6 28 Try.results10 rfl (w.heap.size + 1) 28 _ (0, 0) _ rfl (setRow_heap _ _ _ _ _ _ H2.out.r1) uM rfl (iM _ _) ⟨rfl, below_setRowK H2.out.below (by omega) _⟩
set_option maxHeartbeats 2000000 in
theorem seeM_new (n t : Int) (p : Nat) (g : Nat → Option Int) (hp : (p : Int) < n) (h8 : p < 8) (HG : Hid (g p = none)) (w : World) :
    Calls Try.prog 10 #[.agg (MC n g), .int .i64 (p : Int), .int .i64 t] w (MEnds w n (fun k => if k = p then some t else g k)) := by
  have H2 := Lib.hid (Mk2.start w (MC n g) (MC 0 (fun _ => none)))
  have h0 := MC_n n g
  go_enter Try.func10, Try.ntmps10
  go_wp2_with (first
    | (rw [zerosM]; refine wpList_load_row rfl 28 (.tmp 3) rfl w.heap.size rfl _ (MC n g) (0, 0) _ H2.out.r0 uM rfl (iM _ _) ?_)
    | (go_at_call 11; (with_reducible refine (ofM_in n p g hp h8 _).mono ?_); rintro e w1 ⟨rfl, hb⟩; rw [HG.out]; have H3 := Lib.hid (H2.out.next hb); clear hb; obtain ⟨k1, k2, k3⟩ := H3.out.cs p h8; have k4 := k3 (1 + p * 2); have k5 := k3 (1 + p * 2 + 1))
    | (refine wpList_load_row rfl 28 (.tmp 3) rfl w.heap.size rfl _ (MC n (fun k => if k = p then some t else g k)) (0, 0) _ (H3.out.put p h8 t).r0 uM rfl (iM _ _) ?_)
    | (refine wpList_store_row rfl 28 (.tmp 6) (.tmp 36) rfl (w.heap.size + 1) (MC n (fun k => if k = p then some t else g k)) rfl rfl _ _ (H3.out.put p h8 t).r1 (iM _ _) (by rw [MC_size, MC_size]) (MC_one _ _) ?_))
  have H4 := Lib.hid (H3.out.put p h8 t)
  exact post_rowK 6 28 Try.results10 rfl (w.heap.size + 1) 28 _ (0, 0) _ rfl (setRow_heap _ _ _ _ _ _ H4.out.r1) uM rfl (iM _ _) ⟨rfl, below_setRowK H4.out.below (by omega) _⟩
set_option maxHeartbeats 2000000 in
theorem seeM_up (n t : Int) (p : Nat) (g : Nat → Option Int) (hp : (p : Int) < n) (h8 : p < 8) (u : Int) (HG : Hid (g p = some u)) (hu : u < t) (w : World) :
    Calls Try.prog 10 #[.agg (MC n g), .int .i64 (p : Int), .int .i64 t] w (MEnds w n (fun k => if k = p then some t else g k)) := by
  have H2 := Lib.hid (Mk2.start w (MC n g) (MC 0 (fun _ => none)))
  have h0 := MC_n n g
  go_enter Try.func10, Try.ntmps10
  go_wp2_with (first
    | (rw [zerosM]; refine wpList_load_row rfl 28 (.tmp 3) rfl w.heap.size rfl _ (MC n g) (0, 0) _ H2.out.r0 uM rfl (iM _ _) ?_)
    | (go_at_call 11; (with_reducible refine (ofM_in n p g hp h8 _).mono ?_); rintro e w1 ⟨rfl, hb⟩; rw [HG.out]; have H3 := Lib.hid (H2.out.next hb); clear hb; obtain ⟨k1, k2, k3⟩ := H3.out.cs p h8; have k4 := k3 (1 + p * 2); have k5 := k3 (1 + p * 2 + 1))
    | (refine wpList_load_row rfl 28 (.tmp 3) rfl w.heap.size rfl _ (MC n (fun k => if k = p then some t else g k)) (0, 0) _ (H3.out.put p h8 t).r0 uM rfl (iM _ _) ?_)
    | (refine wpList_store_row rfl 28 (.tmp 6) (.tmp 36) rfl (w.heap.size + 1) (MC n (fun k => if k = p then some t else g k)) rfl rfl _ _ (H3.out.put p h8 t).r1 (iM _ _) (by rw [MC_size, MC_size]) (MC_one _ _) ?_))
  have H4 := Lib.hid (H3.out.put p h8 t)
  exact post_rowK 6 28 Try.results10 rfl (w.heap.size + 1) 28 _ (0, 0) _ rfl (setRow_heap _ _ _ _ _ _ H4.out.r1) uM rfl (iM _ _) ⟨rfl, below_setRowK H4.out.below (by omega) _⟩
set_option maxHeartbeats 2000000 in
theorem seeM_not (n t : Int) (p : Nat) (g : Nat → Option Int) (hp : (p : Int) < n) (h8 : p < 8) (u : Int) (HG : Hid (g p = some u)) (hu : ¬ u < t) (w : World) :
    Calls Try.prog 10 #[.agg (MC n g), .int .i64 (p : Int), .int .i64 t] w (MEnds w n g) := by
  have H2 := Lib.hid (Mk2.start w (MC n g) (MC 0 (fun _ => none)))
  have h0 := MC_n n g
  go_enter Try.func10, Try.ntmps10
  go_wp2_with (first
    | (rw [zerosM]; refine wpList_load_row rfl 28 (.tmp 3) rfl w.heap.size rfl _ (MC n g) (0, 0) _ H2.out.r0 uM rfl (iM _ _) ?_)
    | (go_at_call 11; (with_reducible refine (ofM_in n p g hp h8 _).mono ?_); rintro e w1 ⟨rfl, hb⟩; rw [HG.out]; have H3 := Lib.hid (H2.out.next hb); clear hb; obtain ⟨k1, k2, k3⟩ := H3.out.cs p h8; have k4 := k3 (1 + p * 2); have k5 := k3 (1 + p * 2 + 1))
    | (refine wpList_load_row rfl 28 (.tmp 3) rfl w.heap.size rfl _ (MC n g) (0, 0) _ H3.out.r0 uM rfl (iM _ _) ?_)
    | (refine wpList_store_row rfl 28 (.tmp 6) (.tmp 36) rfl (w.heap.size + 1) (MC n g) rfl rfl _ _ H3.out.r1 (iM _ _) (by rw [MC_size, MC_size]) (MC_one _ _) ?_))
  exact post_rowK 6 28 Try.results10 rfl (w.heap.size + 1) 28 _ (0, 0) _ rfl (setRow_heap _ _ _ _ _ _ H3.out.r1) uM rfl (iM _ _) ⟨rfl, below_setRowK H3.out.below (by omega) _⟩
theorem seeM_any (n p t : Int) (g : Nat → Option Int) (hn : n ≤ 8) (w : World) :
    Calls Try.prog 10 #[.agg (MC n g), .int .i64 p, .int .i64 t] w (MEnds w n (see n g p t)) := by
  by_cases h : 0 ≤ p ∧ p < n
  · obtain ⟨k, rfl⟩ : ∃ k : Nat, p = (k : Int) := ⟨p.toNat, by omega⟩
    rcases hk : g k with _ | u
    · rw [← see_upd n g k t h.2 (fun u hu => by rw [hk] at hu; cases hu)]
      exact seeM_new n t k g h.2 (by omega) (Lib.hid hk) w
    · by_cases hu : u < t
      · rw [← see_upd n g k t h.2 (fun v hv => by rw [hk] at hv; injection hv with hv; omega)]
        exact seeM_up n t k g h.2 (by omega) u (Lib.hid hk) hu w
      · rw [see_same n g k t u hk hu]
        exact seeM_not n t k g h.2 (by omega) u (Lib.hid hk) hu w
  · rw [see_out n g p t (by omega)]
    exact seeM_out n p t g (by omega) w
end Go.Proofs.Ytgoibcolehcgcaa
