/-
  Layer agg: the contracts of Add, Value, Len; what a list of values comes to.
-/
import Derived.Test.YthklamgdoknmeaaAc
set_option linter.unusedSimpArgs false
set_option linter.unusedVariables false
set_option maxRecDepth 8000
namespace Go.Proofs.Ythklamgdoknmeaa
open Go.RowKit Sm
def anyH (h : Nat) : Bool := bits .and .u8 (h : Int) 8 != 0
theorem anyH_tests : ∀ h k : _root_.Fin 32, anyH (h.val ||| k.val) = (anyH h.val || anyH k.val) := by decide +kernel
theorem anyH_or (h k : Nat) (hh : h < 32) (hk : k < 32) : anyH (h ||| k) = (anyH h || anyH k) := anyH_tests ⟨h, hh⟩ ⟨k, hk⟩
theorem anyH_kind (b : Nat) : anyH (kindB b) = true := by
  unfold kindB
  repeat' split
  all_goals decide
theorem anyH_zero : anyH 0 = false := by decide
theorem P36_none : P36 (fun _ => 0) 0 = P36 (wd 0) 0 := P36_congr 0 (A35_congr fun i _ => by unfold wd; simp)
/-- The least, the greatest of some numbers' bits. -/
def accLo : List Nat → Nat
  | [] => 0
  | x :: r => r.foldl minC (Fl.canon x)
def accHi : List Nat → Nat
  | [] => 0
  | x :: r => r.foldl maxC (Fl.canon x)
theorem accLo_one (b : Nat) : accLo [b] = Fl.canon b := rfl
theorem accHi_one (b : Nat) : accHi [b] = Fl.canon b := rfl
theorem accLo_snoc (l : List Nat) (b : Nat) (h : l ≠ []) : accLo (l ++ [b]) = minC (accLo l) b := by
  cases l with
  | nil => exact absurd rfl h
  | cons x r => show (r ++ [b]).foldl minC (Fl.canon x) = _; rw [List.foldl_append]; rfl
theorem accHi_snoc (l : List Nat) (b : Nat) (h : l ≠ []) : accHi (l ++ [b]) = maxC (accHi l) b := by
  cases l with
  | nil => exact absurd rfl h
  | cons x r => show (r ++ [b]).foldl maxC (Fl.canon x) = _; rw [List.foldl_append]; rfl
theorem minC_canon (a b : Nat) : minC a (Fl.canon b) = minC a b := by rw [minC_eq, minC_eq, Fl.canon_canon]
theorem maxC_canon (a b : Nat) : maxC a (Fl.canon b) = maxC a b := by rw [maxC_eq, maxC_eq, Fl.canon_canon]
theorem minC_lt (a b : Nat) (ha : a < 18446744073709551616) (hb : b < 18446744073709551616) : minC a b < 18446744073709551616 := by rw [minC_eq]; exact Fl.canon_lt _ (minv_lt ha hb)
theorem maxC_lt (a b : Nat) (ha : a < 18446744073709551616) (hb : b < 18446744073709551616) : maxC a b < 18446744073709551616 := by rw [maxC_eq]; exact Fl.canon_lt _ (maxv_lt ha hb)
theorem accLo_lt (l : List Nat) (hl : ∀ x ∈ l, x < 18446744073709551616) : accLo l < 18446744073709551616 := by
  revert hl
  refine list_snoc (p := fun l => (∀ x ∈ l, x < 18446744073709551616) → accLo l < 18446744073709551616) (fun _ => by decide) (fun l b ih hl => ?_) l
  have hb := hl b (by simp)
  by_cases h : l = []
  · subst h; exact Fl.canon_lt _ hb
  · rw [accLo_snoc l b h]; exact minC_lt _ _ (ih fun x hx => hl x (by simp [hx])) hb
theorem accHi_lt (l : List Nat) (hl : ∀ x ∈ l, x < 18446744073709551616) : accHi l < 18446744073709551616 := by
  revert hl
  refine list_snoc (p := fun l => (∀ x ∈ l, x < 18446744073709551616) → accHi l < 18446744073709551616) (fun _ => by decide) (fun l b ih hl => ?_) l
  have hb := hl b (by simp)
  by_cases h : l = []
  · subst h; exact Fl.canon_lt _ hb
  · rw [accHi_snoc l b h]; exact maxC_lt _ _ (ih fun x hx => hl x (by simp [hx])) hb
theorem anyH_acc (l : List Nat) : anyH (accH l) = !l.isEmpty := by
  refine list_snoc (p := fun l => anyH (accH l) = !l.isEmpty) rfl (fun l b _ => ?_) l
  rw [accH_snoc, anyH_or _ _ (accH_lt l) (kindB_lt b), anyH_kind]
  simp
/-- The state of some values. -/
abbrev TL (l : List Nat) : Array Value := T39 l.length (wd (accN l)) (accH l) (accLo l) (accHi l)
attribute [irreducible] accLo accHi

theorem lenS_any (n : Nat) (f : Nat → Nat) (h lo hi : Nat) (w : World) : Calls Try.prog 25 #[.agg (T39 n f h lo hi)] w fun e w' => e = .returned (.int .u64 (n : Int)) ∧ Below w.heap.size w w' := by
  have hc := StAt.c0 (w := w.alloc (.cells (T39 n f h lo hi) 40)) (g := w.heap.size) (n := n) (f := f) (h := h) (lo := lo) (hi := hi) (heap_alloc_new' w _)
  go_enter Try.func25, Try.ntmps25
  go_wp2
  go_ret
  exact ⟨rfl, (Below.refl _ _).alloc (Nat.le_refl _) _⟩

theorem uA : Try.prog.underlying 44 = some (.struct (Try.prog.fieldsOf 44)) := by kernel_rfl
theorem iA (a b c d e : Value) : (Try.prog.info? 44).map (·.size) = some (#[a, b, c, d, e] : Array Value).size := by kernel_rfl
/-- What a call ends with that answers a telling. -/
def TelEnds (w : World) (t : Tel) (e : Ending) (w' : World) : Prop := e = .returned (.agg #[.int .u64 (t.c : Int), .float .f64 t.s, .bool t.o, .float .f64 t.lo, .float .f64 t.hi]) ∧ Below w.heap.size w w'
set_option maxHeartbeats 4000000 in
theorem valueS_core (n N h lo hi V : Nat) (o : Bool) (hv : VaGives N h V o) (kv : V < 18446744073709551616) (k1 : lo < 18446744073709551616) (k2 : hi < 18446744073709551616) (w : World) :
    Calls Try.prog 23 #[.agg (T39 n (wd N) h lo hi)] w (TelEnds w ⟨n, Fl.canon V, o, Fl.canon lo, Fl.canon hi⟩) := by
  have HJ := Lib.hid (Kp2.start w (T39 n (wd N) h lo hi) #[.int .u64 0, .float .f64 0, .bool false, .float .f64 0, .float .f64 0] 40 44)
  have H1 : Hid (StAt ((w.alloc (.cells (T39 n (wd N) h lo hi) 40)).alloc (.cells #[.int .u64 0, .float .f64 0, .bool false, .float .f64 0, .float .f64 0] 44)) w.heap.size n (wd N) h lo hi) := Lib.hid HJ.out.row1
  go_enter Try.func23, Try.ntmps23
  go_wp2_with (first
    | (refine wpList_load_sum rfl (.tmp 6) rfl w.heap.size rfl n (wd N) h lo hi H1.out ?_)
    | (go_at_call 14; (with_reducible refine (hv.at _).mono ?_); rintro e w' ⟨rfl, hb⟩; have HK : Hid (Kp2 w w.heap.size (T39 n (wd N) h lo hi) 40 (w.heap.size + 1) #[.int .u64 0, .float .f64 0, .bool false, .float .f64 0, .float .f64 0] 44 w') := Lib.hid (Kp2.next (w := (w.alloc (.cells (T39 n (wd N) h lo hi) 40)).alloc (.cells #[.int .u64 0, .float .f64 0, .bool false, .float .f64 0, .float .f64 0] 44)) ⟨((Below.refl _ _).alloc (Nat.le_refl _) _).alloc (by simp) _, HJ.out.row1, HJ.out.row2⟩ hb); clear hb))
  refine wp_region_held_drew (S := Kp w w.heap.size (T39 n (wd N) h lo hi) 40) (by kernel_rfl) ⟨HK.out.below.drew, HK.out.row1⟩ (fun hHeld => ?_)
  have HR := HK.out.drew.row2
  refine wpAnyH_take (i := 0) (v := .pointer (some ⟨w.heap.size, 0, none⟩)) rfl (by kernel_rfl) (by kernel_rfl) (by kernel_rfl) (fun _ _ _ h => h) (Or.inl ⟨by rfl, fun w _ => by first | rfl | go_simp⟩) hHeld ?_
  try dsimp only
  try simp only [Act.put, List.getElem_toArray, List.getElem_cons_zero, List.getElem_cons_succ, List.setIfInBounds_toArray, List.set_cons_zero, List.set_cons_succ]
  refine wpAnyH_take (i := 1) (v := .int .u64 (n : Int)) rfl (by kernel_rfl) (by kernel_rfl) (by kernel_rfl) (fun _ _ _ h => h) (yb_u64 rfl (.tmp 11) rfl w.heap.size 0 rfl _ (fun w' hw' => StAt.c0 hw'.row)) hHeld ?_
  try dsimp only
  try simp only [Act.put, List.getElem_toArray, List.getElem_cons_zero, List.getElem_cons_succ, List.setIfInBounds_toArray, List.set_cons_zero, List.set_cons_succ]
  refine wpAnyH_take (i := 2) (v := .float .f64 V) rfl (by kernel_rfl) (by kernel_rfl) (by kernel_rfl) (fun _ _ _ h => h) (Or.inl ⟨by rfl, fun _ _ => rfl⟩) hHeld ?_
  try dsimp only
  try simp only [Act.put, List.getElem_toArray, List.getElem_cons_zero, List.getElem_cons_succ, List.setIfInBounds_toArray, List.set_cons_zero, List.set_cons_succ]
  refine wpAnyH_take (i := 4) (v := .bool o) rfl (by kernel_rfl) (by kernel_rfl) (by kernel_rfl) (fun _ _ _ h => h) (Or.inl ⟨by rfl, fun _ _ => rfl⟩) hHeld ?_
  try dsimp only
  try simp only [Act.put, List.getElem_toArray, List.getElem_cons_zero, List.getElem_cons_succ, List.setIfInBounds_toArray, List.set_cons_zero, List.set_cons_succ]
  refine wpAnyH_take (i := 5) (v := .pointer (some ⟨w.heap.size, 37, none⟩)) rfl (by kernel_rfl) (by kernel_rfl) (by kernel_rfl) (fun _ _ _ h => h) (Or.inl ⟨by rfl, fun w _ => by first | rfl | go_simp⟩) hHeld ?_
  try dsimp only
  try simp only [Act.put, List.getElem_toArray, List.getElem_cons_zero, List.getElem_cons_succ, List.setIfInBounds_toArray, List.set_cons_zero, List.set_cons_succ]
  refine wpAnyH_take (i := 6) (v := .int .u64 (lo : Int)) rfl (by kernel_rfl) (by kernel_rfl) (by kernel_rfl) (fun _ _ _ h => h) (yb_u64 rfl (.tmp 16) rfl w.heap.size 37 rfl _ (fun w' hw' => StAt.c2 hw'.row)) hHeld ?_
  try dsimp only
  try simp only [Act.put, List.getElem_toArray, List.getElem_cons_zero, List.getElem_cons_succ, List.setIfInBounds_toArray, List.set_cons_zero, List.set_cons_succ]
  refine wpAnyH_take (i := 8) (v := .pointer (some ⟨w.heap.size, 38, none⟩)) rfl (by kernel_rfl) (by kernel_rfl) (by kernel_rfl) (fun _ _ _ h => h) (Or.inl ⟨by rfl, fun w _ => by first | rfl | go_simp⟩) hHeld ?_
  try dsimp only
  try simp only [Act.put, List.getElem_toArray, List.getElem_cons_zero, List.getElem_cons_succ, List.setIfInBounds_toArray, List.set_cons_zero, List.set_cons_succ]
  refine wpAnyH_take (i := 9) (v := .int .u64 (hi : Int)) rfl (by kernel_rfl) (by kernel_rfl) (by kernel_rfl) (fun _ _ _ h => h) (yb_u64 rfl (.tmp 19) rfl w.heap.size 38 rfl _ (fun w' hw' => StAt.c3 hw'.row)) hHeld ?_
  try dsimp only
  try simp only [Act.put, List.getElem_toArray, List.getElem_cons_zero, List.getElem_cons_succ, List.setIfInBounds_toArray, List.set_cons_zero, List.set_cons_succ]
  refine wpAnyH_ready (rs := [3]) (by kernel_rfl) (by simp) (AllReadyH.cons rfl (fun K hK => ?_) AllReadyH.nil)
  go_simp
  refine (canon_any V kv _).mono ?_
  rintro e w' ⟨rfl, rfl⟩
  refine hK.out _ _ hHeld (fun hHeld => ?_)
  clear hK K
  try dsimp only
  try simp only [Act.put, List.getElem_toArray, List.getElem_cons_zero, List.getElem_cons_succ, List.setIfInBounds_toArray, List.set_cons_zero, List.set_cons_succ]
  refine wpAnyH_ready (rs := [7]) (by kernel_rfl) (by simp) (AllReadyH.cons rfl (fun K hK => ?_) AllReadyH.nil)
  go_simp
  refine (of_any lo k1 _).mono ?_
  rintro e w' ⟨rfl, rfl⟩
  refine hK.out _ _ hHeld (fun hHeld => ?_)
  clear hK K
  try dsimp only
  try simp only [Act.put, List.getElem_toArray, List.getElem_cons_zero, List.getElem_cons_succ, List.setIfInBounds_toArray, List.set_cons_zero, List.set_cons_succ]
  refine wpAnyH_ready (rs := [10]) (by kernel_rfl) (by simp) (AllReadyH.cons rfl (fun K hK => ?_) AllReadyH.nil)
  go_simp
  refine (of_any hi k2 _).mono ?_
  rintro e w' ⟨rfl, rfl⟩
  refine hK.out _ _ hHeld (fun hHeld => ?_)
  clear hK K
  try dsimp only
  try simp only [Act.put, List.getElem_toArray, List.getElem_cons_zero, List.getElem_cons_succ, List.setIfInBounds_toArray, List.set_cons_zero, List.set_cons_succ]
  refine wpAnyH_take (i := 11) (v := .agg #[.int .u64 (n : Int), .float .f64 (Fl.canon V), .bool o, .float .f64 (Fl.canon lo), .float .f64 (Fl.canon hi)]) rfl (by kernel_rfl) (by kernel_rfl) (by kernel_rfl) (fun _ _ _ h => h) (Or.inl ⟨by rfl, fun w _ => by go_simp⟩) hHeld ?_
  try dsimp only
  try simp only [Act.put, List.getElem_toArray, List.getElem_cons_zero, List.getElem_cons_succ, List.setIfInBounds_toArray, List.set_cons_zero, List.set_cons_succ]
  refine wpAnyH_ready (rs := [12]) (by kernel_rfl) (by simp) (AllReadyH.cons rfl (fun K hK => ?_) AllReadyH.nil)
  rw [if_pos (by rfl)]
  refine wp_store_row 44 (.tmp 2) (.tmp 22) rfl (w.heap.size + 1) #[.int .u64 (n : Int), .float .f64 (Fl.canon V), .bool o, .float .f64 (Fl.canon lo), .float .f64 (Fl.canon hi)] rfl rfl _ _ HR (iA _ _ _ _ _) rfl (by simp [Value.oneCell']) ?_
  have hp := setRow_heap _ _ _ #[.int .u64 (n : Int), .float .f64 (Fl.canon V), .bool o, .float .f64 (Fl.canon lo), .float .f64 (Fl.canon hi)] _ _ HR
  refine hK.out _ _ ?_ (fun _ => ?_)
  · exact ⟨below_setRow hHeld.below (by omega) _, (setRow_other _ _ _ _ (by omega)).trans hHeld.row⟩
  clear hK K
  refine wpAnyH_done (by kernel_rfl) ?_ _
  go_wp2
  exact post_row 2 44 Try.results23 rfl (w.heap.size + 1) 44 _ (0, 0) _ rfl hp uA rfl (iA _ _ _ _ _) ⟨rfl, below_setRow hHeld.below (by omega) _⟩

structure Ad3 (w0 : World) (c1 c3 : Array Value) (w : World) : Prop where
  below : Below w0.heap.size w0 w
  r1 : w.heap[w0.heap.size]? = some (.cells c1 40 (0, 0))
  r3 : w.heap[w0.heap.size + 2]? = some (.cells c3 27 (0, 0))
theorem Ad3.next {w0 w w' : World} {c1 c3 : Array Value} (h : Ad3 w0 c1 c3 w) (hb : Below w.heap.size w w') : Ad3 w0 c1 c3 w' := ⟨below_to h.below hb, row_keep h.r1 hb, row_keep h.r3 hb⟩
def JnGives (n N h lo hi m M k lo2 hi2 n' N' h' lo' hi' : Nat) : Prop := ∀ w, Calls Try.prog 26 #[.agg (T39 n (wd N) h lo hi), .agg (T39 m (wd M) k lo2 hi2)] w (StEnds w n' N' h' lo' hi')
theorem JnGives.at {n N h lo hi m M k lo2 hi2 n' N' h' lo' hi' : Nat} (H : JnGives n N h lo hi m M k lo2 hi2 n' N' h' lo' hi') (w : World) : Calls Try.prog 26 #[.agg (T39 n (wd N) h lo hi), .agg (T39 m (wd M) k lo2 hi2)] w (StEnds w n' N' h' lo' hi') := H w
theorem ad3_start (w : World) (c1 c2 c3 : Array Value) : Ad3 w c1 c3 (((w.alloc (.cells c1 40)).alloc (.cells c2 40)).alloc (.cells c3 27)).drew ∧ (((w.alloc (.cells c1 40)).alloc (.cells c2 40)).alloc (.cells c3 27)).drew.heap[w.heap.size + 1]? = some (.cells c2 40 (0, 0)) := by
  have e1 : (w.alloc (.cells c1 40)).heap.size = w.heap.size + 1 := by simp
  have e2 : ((w.alloc (.cells c1 40)).alloc (.cells c2 40)).heap.size = w.heap.size + 2 := by simp
  refine ⟨⟨((((Below.refl _ _).alloc (Nat.le_refl _) _).alloc (by rw [e1]; omega) _).alloc (by rw [e2]; omega) _).drew, ?_, ?_⟩, ?_⟩
  · show (((w.alloc _).alloc _).alloc _).heap[_]? = _
    rw [Below.heap_alloc _ _ _ (by rw [e2]; omega)]; exact heap_alloc2_old w _ _
  · have h := heap_alloc_new ((w.alloc (.cells c1 40)).alloc (.cells c2 40)) (.cells c3 27)
    rwa [e2] at h
  · show (((w.alloc _).alloc _).alloc _).heap[_]? = _
    rw [Below.heap_alloc _ _ _ (by rw [e2]; omega)]; exact heap_alloc2_new w _ _
set_option maxHeartbeats 4000000 in
theorem addS_core (n N h lo hi x n' N' h' lo' hi' : Nat) (kx : x < 18446744073709551616) (HJN : JnGives n N h lo hi 1 (unit x) (kindB x) (Fl.canon x) (Fl.canon x) n' N' h' lo' hi') (w : World) :
    Calls Try.prog 32 #[.agg (T39 n (wd N) h lo hi), .float .f64 x] w (StEnds w n' N' h' lo' hi') := by
  have HS := Lib.hid (ad3_start w (T39 n (wd N) h lo hi) (T39 0 (fun _ => 0) 0 0 0) (P36 (wd 0) 0))
  go_enter Try.func32, Try.ntmps32
  go_wp2_with (go_at_call 59; (with_reducible refine (bits_any x kx _).mono ?_); rintro e w' ⟨rfl, rfl⟩)
  rw [zeros39, zeros36, P36_none]
  refine wp_region_held_drew (S := Ad3 w (T39 n (wd N) h lo hi) (P36 (wd 0) 0)) (by kernel_rfl) HS.out.1 (fun hHeld => ?_)
  have HR := HS.out.2
  refine wpAnyH_take (i := 0) (v := .agg (T39 n (wd N) h lo hi)) rfl (by kernel_rfl) (by kernel_rfl) (by kernel_rfl) (fun _ _ _ h => h) (yieldsIf_row rfl 40 (.tmp 2) rfl w.heap.size rfl _ _ _ _ (fun w' hw' => hw'.r1) uT rfl (iT _ _ _ _ _)) hHeld ?_
  try dsimp only
  try simp only [Act.put, List.getElem_toArray, List.getElem_cons_zero, List.getElem_cons_succ, List.setIfInBounds_toArray, List.set_cons_zero, List.set_cons_succ]
  refine wpAnyH_take (i := 1) (v := .agg (P36 (wd 0) 0)) rfl (by kernel_rfl) (by kernel_rfl) (by kernel_rfl) (fun _ _ _ h => h) (yieldsIf_row rfl 27 (.tmp 5) rfl (w.heap.size + 2) rfl _ _ _ _ (fun w' hw' => hw'.r3) u27 rfl (i36 _ _)) hHeld ?_
  try dsimp only
  try simp only [Act.put, List.getElem_toArray, List.getElem_cons_zero, List.getElem_cons_succ, List.setIfInBounds_toArray, List.set_cons_zero, List.set_cons_succ]
  refine wpAnyH_take (i := 2) (v := .float .f64 x) rfl (by kernel_rfl) (by kernel_rfl) (by kernel_rfl) (fun _ _ _ h => h) (Or.inl ⟨by rfl, fun _ _ => rfl⟩) hHeld ?_
  try dsimp only
  try simp only [Act.put, List.getElem_toArray, List.getElem_cons_zero, List.getElem_cons_succ, List.setIfInBounds_toArray, List.set_cons_zero, List.set_cons_succ]
  refine wpAnyH_take (i := 4) (v := .int .u64 (Fl.canon x : Nat)) rfl (by kernel_rfl) (by kernel_rfl) (by kernel_rfl) (fun _ _ _ h => h) (Or.inl ⟨by rfl, fun _ _ => rfl⟩) hHeld ?_
  try dsimp only
  try simp only [Act.put, List.getElem_toArray, List.getElem_cons_zero, List.getElem_cons_succ, List.setIfInBounds_toArray, List.set_cons_zero, List.set_cons_succ]
  refine wpAnyH_take (i := 5) (v := .int .u64 (Fl.canon x : Nat)) rfl (by kernel_rfl) (by kernel_rfl) (by kernel_rfl) (fun _ _ _ h => h) (Or.inl ⟨by rfl, fun _ _ => rfl⟩) hHeld ?_
  try dsimp only
  try simp only [Act.put, List.getElem_toArray, List.getElem_cons_zero, List.getElem_cons_succ, List.setIfInBounds_toArray, List.set_cons_zero, List.set_cons_succ]
  refine wpAnyH_ready (rs := [3]) (by kernel_rfl) (by simp) (AllReadyH.cons rfl (fun K hK => ?_) AllReadyH.nil)
  go_simp
  refine (add_any 0 0 x (by decide) kx _).mono ?_
  rintro e w9 ⟨rfl, hb9⟩
  replace hHeld := hHeld.next hb9
  replace HR := row_keep HR hb9
  rw [Nat.zero_or, Nat.zero_add, Nat.mod_eq_of_lt (unit_lt x)]
  refine hK.out _ _ hHeld (fun hHeld => ?_)
  clear hK K
  try dsimp only
  try simp only [Act.put, List.getElem_toArray, List.getElem_cons_zero, List.getElem_cons_succ, List.setIfInBounds_toArray, List.set_cons_zero, List.set_cons_succ]
  refine wpAnyH_take (i := 6) (v := .agg (T39 1 (wd (unit x)) (kindB x) (Fl.canon x) (Fl.canon x))) rfl (by kernel_rfl) (by kernel_rfl) (by kernel_rfl) (fun _ _ _ h => h) (yb_build39 rfl _ _ _ _ rfl 1 (wd (unit x)) (kindB x) (Fl.canon x) (Fl.canon x) rfl rfl rfl rfl) hHeld ?_
  try dsimp only
  try simp only [Act.put, List.getElem_toArray, List.getElem_cons_zero, List.getElem_cons_succ, List.setIfInBounds_toArray, List.set_cons_zero, List.set_cons_succ]
  refine wpAnyH_ready (rs := [7]) (by kernel_rfl) (by simp) (AllReadyH.cons rfl (fun K hK => ?_) AllReadyH.nil)
  go_simp
  refine (HJN.at _).mono ?_
  rintro e wA ⟨rfl, hbA⟩
  replace hHeld := hHeld.next hbA
  replace HR := row_keep HR hbA
  refine hK.out _ _ hHeld (fun hHeld => ?_)
  clear hK K
  try dsimp only
  try simp only [Act.put, List.getElem_toArray, List.getElem_cons_zero, List.getElem_cons_succ, List.setIfInBounds_toArray, List.set_cons_zero, List.set_cons_succ]
  refine wpAnyH_ready (rs := [8]) (by kernel_rfl) (by simp) (AllReadyH.cons rfl (fun K hK => ?_) AllReadyH.nil)
  rw [if_pos (by rfl)]
  refine wp_store_row 40 (.tmp 4) (.tmp 16) rfl (w.heap.size + 1) (T39 n' (wd N') h' lo' hi') rfl rfl _ _ HR (iT _ _ _ _ _) (by rw [T39_size, T39_size]) (one39 _ _ _ _ _) ?_
  have hp := setRow_heap _ _ _ (T39 n' (wd N') h' lo' hi') _ _ HR
  refine hK.out _ _ ?_ (fun _ => ?_)
  · exact ⟨below_setRow hHeld.below (by omega) _, (setRow_other _ _ _ _ (by omega)).trans hHeld.r1, (setRow_other _ _ _ _ (by omega)).trans hHeld.r3⟩
  clear hK K
  refine wpAnyH_done (by kernel_rfl) ?_ _
  go_wp2
  exact post_row 4 40 Try.results32 rfl (w.heap.size + 1) 40 _ (0, 0) _ rfl hp uT rfl (iT _ _ _ _ _) ⟨rfl, below_setRow hHeld.below (by omega) _⟩

end Go.Proofs.Ythklamgdoknmeaa
