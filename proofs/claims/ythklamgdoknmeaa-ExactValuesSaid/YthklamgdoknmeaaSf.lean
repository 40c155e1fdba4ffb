/-
  The law's own 'of': the sum of a slice of numbers.
-/
import Derived.Test.YthklamgdoknmeaaSv
set_option linter.unusedSimpArgs false
set_option linter.unusedVariables false
set_option maxRecDepth 8000
namespace Go.Proofs.Ythklamgdoknmeaa
open Go.RowKit Sm

/-- The numbers of a sum of some words, and what it has. -/
def accN (l : List Nat) : Nat := l.foldl (fun n b => (n + unit b) % top) 0
def accH (l : List Nat) : Nat := l.foldl (fun h b => h ||| kindB b) 0
theorem accN_snoc (l : List Nat) (b : Nat) : accN (l ++ [b]) = (accN l + unit b) % top := by unfold accN; rw [List.foldl_append]; rfl
theorem accH_snoc (l : List Nat) (b : Nat) : accH (l ++ [b]) = accH l ||| kindB b := by unfold accH; rw [List.foldl_append]; rfl
theorem list_snoc {p : List Nat → Prop} (h0 : p []) (h : ∀ l b, p l → p (l ++ [b])) (l : List Nat) : p l := by
  rw [← List.reverse_reverse l]
  induction l.reverse with
  | nil => exact h0
  | cons b r ih => rw [List.reverse_cons]; exact h _ _ ih
theorem accN_lt (l : List Nat) : accN l < top := list_snoc (p := fun l => accN l < top) top_pos (fun l b _ => by rw [accN_snoc]; exact Nat.mod_lt _ top_pos) l
theorem accH_lt (l : List Nat) : accH l < 32 := list_snoc (p := fun l => accH l < 32) (by decide) (fun l b h => by rw [accH_snoc]; exact Nat.or_lt_two_pow (n := 5) h (kindB_lt b)) l

/-- A slice value that holds some words, in a world. -/
def FlAt (w : World) (a : Option Addr) (l : List Nat) : Prop := ∀ k x, l[k]? = some x → x < 18446744073709551616 ∧ ∃ g off, a = some ⟨g, off, none⟩ ∧ g < w.heap.size ∧ w.cell? ⟨g, off + k, none⟩ = some (.float .f64 x)

theorem Kp2.drew {w0 : World} {g1 g2 : Nat} {c1 c2 : Array Value} {t1 t2 : TypeId} {w : World} (h : Kp2 w0 g1 c1 t1 g2 c2 t2 w) : Kp2 w0 g1 c1 t1 g2 c2 t2 w.drew :=
  ⟨h.below.drew, h.row1, h.row2⟩

set_option maxHeartbeats 2000000 in
theorem of_slice (a : Option Addr) (l : List Nat) (len cap : Nat) (hlen : Hid (len = l.length)) (hl : len ≤ 4611686018427387904) (w : World) (HA : Hid (FlAt w a l)) :
    Calls Try.prog 12 #[.slice a len cap] w fun e w' => e = .returned (.agg (P36 (wd (accN l)) (accH l))) ∧ Below w.heap.size w w' := by
  go_enter Try.func12, Try.ntmps12
  go_wp2
  rw [zeros36]
  go_loopw [4] (fun i wr => ∃ k : Nat, k ≤ len ∧ i = .int .i64 k ∧ Kp2 w w.heap.size (P36 (fun _ => 0) 0) 27 (w.heap.size + 1) (P36 (wd (accN (l.take k))) (accH (l.take k))) 27 wr) (fun i _ => len - (intOf i).toNat)
  case atStart =>
    refine ⟨0, by omega, rfl, ?_⟩
    have h := Kp2.start w (P36 (fun _ => 0) 0) (P36 (fun _ => 0) 0) 27 27
    have e : P36 (wd (accN (l.take 0))) (accH (l.take 0)) = P36 (fun _ => 0) 0 := by rw [List.take_zero]; exact P36_congr 0 (A35_congr fun i _ => by unfold wd accN; simp)
    rw [e]
    exact ⟨((Below.refl _ _).alloc (Nat.le_refl _) _).alloc (by simp) _, h.row1, h.row2⟩
  case round =>
    obtain ⟨k, hk, rfl, hq⟩ := hrel
    by_cases hlt : k < len
    · have hkl : k < l.length := by have := hlen.out; omega
      obtain ⟨hx, g, off, rfl, hg, hc0⟩ := HA.out k l[k] (List.getElem?_eq_getElem hkl)
      have hc : wr.cell? ⟨g, off + k, none⟩ = some (.float .f64 l[k]) := (hq.below.cell (p := ⟨g, off + k, none⟩) hg).trans hc0
      have HX := Lib.hid (show l.take (k + 1) = l.take k ++ [l[k]] from List.take_succ_eq_append_getElem hkl)
      have hH : accH (l.take k) < 256 := Nat.lt_trans (accH_lt _) (by decide)
      clear hc0
      generalize hX0 : l[k] = X at *
      go_wp2
      refine wp_region_any (by kernel_rfl) ?_
      try (change wpAny _ _ _ _ _ _ _ (World.drew _))
      refine wpAny_take (i := 1) (v := .slice (some ⟨g, off, none⟩) len cap) rfl (by kernel_rfl) (by kernel_rfl) (by kernel_rfl) (fun _ _ _ h => h) (Or.inl ⟨by rfl, fun _ => rfl⟩) ?_
      try dsimp only
      try simp only [Act.put, List.setIfInBounds_toArray, List.set_cons_zero, List.set_cons_succ]
      refine wpAny_take (i := 2) (v := .int .i64 k) rfl (by kernel_rfl) (by kernel_rfl) (by kernel_rfl) (fun _ _ _ h => h) (Or.inl ⟨by rfl, fun _ => rfl⟩) ?_
      try dsimp only
      try simp only [Act.put, List.setIfInBounds_toArray, List.set_cons_zero, List.set_cons_succ]
      refine wpAny_take (i := 3) (v := .pointer (some ⟨g, off + k, none⟩)) rfl (by kernel_rfl) (by kernel_rfl) (by kernel_rfl) (fun _ _ _ h => h) (Or.inl ⟨by rfl, fun w => ?_⟩) ?_
      · go_simp
      try dsimp only
      try simp only [Act.put, List.setIfInBounds_toArray, List.set_cons_zero, List.set_cons_succ]
      refine wpAny_ready (rs := [0, 4]) (by kernel_rfl) (by simp) (AllReady.cons rfl (fun K hK => ?_) (AllReady.cons rfl (fun K hK => ?_) AllReady.nil))
      · rw [if_pos (by rfl)]
        refine wp_load_row 27 (.tmp 3) rfl (w.heap.size + 1) rfl _ (P36 (wd (accN (l.take k))) (accH (l.take k))) (0, 0) _ hq.row2 u27 rfl (i36 _ _) ?_
        refine hK _ _ ?_
        clear hK K
        try dsimp only
        try simp only [Act.put, List.setIfInBounds_toArray, List.set_cons_zero, List.set_cons_succ]
        refine wpAny_ready (rs := [4]) (by kernel_rfl) (by simp) (AllReady.cons rfl (fun K hK => ?_) AllReady.nil)
        go_simp
        refine hK _ _ ?_
        clear hK K
        try dsimp only
        try simp only [Act.put, List.setIfInBounds_toArray, List.set_cons_zero, List.set_cons_succ]
        refine wpAny_ready (rs := [5]) (by kernel_rfl) (by simp) (AllReady.cons rfl (fun K hK => ?_) AllReady.nil)
        go_simp
        refine (add_any _ _ _ hH hx _).mono ?_
        rintro e w1 ⟨rfl, hb1⟩
        refine hK _ _ ?_
        clear hK K
        have hq1 : Kp2 w w.heap.size (P36 (fun _ => 0) 0) 27 (w.heap.size + 1) (P36 (wd (accN (l.take k))) (accH (l.take k))) 27 w1 := hq.drew.next hb1
        try dsimp only
        try simp only [Act.put, List.setIfInBounds_toArray, List.set_cons_zero, List.set_cons_succ]
        refine wpAny_ready (rs := [6]) (by kernel_rfl) (by simp) (AllReady.cons rfl (fun K hK => ?_) AllReady.nil)
        rw [if_pos (by rfl)]
        refine wp_store_row 27 (.tmp 3) (.tmp 16) rfl (w.heap.size + 1) (P36 (wd _) _) rfl rfl _ _ hq1.row2 (i36 _ _) (by rw [P36_size, P36_size]) (one36 _ _) ?_
        have hq2 := hq1.put2 (by omega) (by omega) (P36 (wd ((accN (l.take k) + unit X) % top)) (accH (l.take k) ||| kindB X))
        rw [← accN_snoc, ← accH_snoc, ← HX.out] at hq2 ⊢
        refine hK _ _ ?_
        clear hK K
        refine wpAny_done (by kernel_rfl) ?_ _
        have HQ := Lib.hid hq2
        clear hq2 hq1 hq hc
        go_wp2
        go_roundw
        case rel => exact ⟨k + 1, by omega, by go_num, HQ.out⟩
        case measure => simp [intOf]; omega
      · go_simp
        refine hK _ _ ?_
        clear hK K
        try dsimp only
        try simp only [Act.put, List.setIfInBounds_toArray, List.set_cons_zero, List.set_cons_succ]
        refine wpAny_ready (rs := [0]) (by kernel_rfl) (by simp) (AllReady.cons rfl (fun K hK => ?_) AllReady.nil)
        rw [if_pos (by rfl)]
        refine wp_load_row 27 (.tmp 3) rfl (w.heap.size + 1) rfl _ (P36 (wd (accN (l.take k))) (accH (l.take k))) (0, 0) _ hq.row2 u27 rfl (i36 _ _) ?_
        refine hK _ _ ?_
        clear hK K
        try dsimp only
        try simp only [Act.put, List.setIfInBounds_toArray, List.set_cons_zero, List.set_cons_succ]
        refine wpAny_ready (rs := [5]) (by kernel_rfl) (by simp) (AllReady.cons rfl (fun K hK => ?_) AllReady.nil)
        go_simp
        refine (add_any _ _ _ hH hx _).mono ?_
        rintro e w1 ⟨rfl, hb1⟩
        refine hK _ _ ?_
        clear hK K
        have hq1 : Kp2 w w.heap.size (P36 (fun _ => 0) 0) 27 (w.heap.size + 1) (P36 (wd (accN (l.take k))) (accH (l.take k))) 27 w1 := hq.drew.next hb1
        try dsimp only
        try simp only [Act.put, List.setIfInBounds_toArray, List.set_cons_zero, List.set_cons_succ]
        refine wpAny_ready (rs := [6]) (by kernel_rfl) (by simp) (AllReady.cons rfl (fun K hK => ?_) AllReady.nil)
        rw [if_pos (by rfl)]
        refine wp_store_row 27 (.tmp 3) (.tmp 16) rfl (w.heap.size + 1) (P36 (wd _) _) rfl rfl _ _ hq1.row2 (i36 _ _) (by rw [P36_size, P36_size]) (one36 _ _) ?_
        have hq2 := hq1.put2 (by omega) (by omega) (P36 (wd ((accN (l.take k) + unit X) % top)) (accH (l.take k) ||| kindB X))
        rw [← accN_snoc, ← accH_snoc, ← HX.out] at hq2 ⊢
        refine hK _ _ ?_
        clear hK K
        refine wpAny_done (by kernel_rfl) ?_ _
        have HQ := Lib.hid hq2
        clear hq2 hq1 hq hc
        go_wp2
        go_roundw
        case rel => exact ⟨k + 1, by omega, by go_num, HQ.out⟩
        case measure => simp [intOf]; omega
    · have hkl : l.take k = l := List.take_of_length_le (by have := hlen.out; omega)
      rw [hkl] at hq
      go_wp2_with (first
        | (refine wpList_load_row rfl 27 (.tmp 3) rfl (w.heap.size + 1) rfl _ (P36 (wd (accN l)) (accH l)) (0, 0) _ hq.row2 u27 rfl (i36 _ _) ?_)
        | (refine wpList_store_row rfl 27 (.tmp 2) (.tmp 17) rfl w.heap.size (P36 (wd _) _) rfl rfl _ _ hq.row1 (i36 _ _) (by rw [P36_size, P36_size]) (one36 _ _) ?_))
      exact post_row 2 27 Try.results12 rfl w.heap.size 27 _ (0, 0) _ rfl (setRow_heap _ _ _ _ _ _ hq.row1) u27 rfl (i36 _ _) ⟨rfl, below_setRow hq.below (Nat.le_refl _) _⟩

end Go.Proofs.Ythklamgdoknmeaa
