/-
  Layer agg: the document's own Value of a list.
-/
import Derived.Test.YtbimfopbilcdgaaZyQ
import Derived.Test.YtbimfopbilcdgaaQhR
set_option linter.unusedSimpArgs false
set_option linter.unusedVariables false
set_option maxRecDepth 8000
namespace Go.Proofs.Ytbimfopbilcdgaa
open Go.RowKit Go.WideShapes  Sm Qb

theorem run_store_flT (w : World) (a : Addr) (y : Nat) (u : Value) (hc : w.cell? a = some u) (hf : w.frozen? a = false) : (store a (.float .f64 y)).run Try.prog w = .ok () (w.setCell a (.float .f64 y)) := by
  rw [run_store Try.prog w a _ _ rfl]
  simp [stored, hc, hf]
/-- The least of the first k values, and of one more. -/
structure PLo (l : List Nat) (k m : Nat) : Prop where
  mem : m ∈ l
  le : ∀ x ∈ l.take k, Fl.rank m ≤ Fl.rank x
structure PHi (l : List Nat) (k m : Nat) : Prop where
  mem : m ∈ l
  le : ∀ x ∈ l.take k, Fl.rank x ≤ Fl.rank m
theorem PLo.step {l : List Nat} {k m x : Nat} (h : PLo l k m) (hx : l[k]? = some x) : PLo l (k + 1) (if Fl.rank x < Fl.rank m then x else m) := by
  have ht : l.take (k + 1) = l.take k ++ [x] := by rw [List.take_add_one, hx]; rfl
  by_cases c : Fl.rank x < Fl.rank m
  · rw [if_pos c]
    refine ⟨List.mem_of_getElem? hx, fun y hy => ?_⟩
    rw [ht] at hy
    rcases List.mem_append.1 hy with hy | hy
    · have := h.le y hy; omega
    · have e : y = x := by simpa using hy
      subst e; exact Nat.le_refl _
  · rw [if_neg c]
    refine ⟨h.mem, fun y hy => ?_⟩
    rw [ht] at hy
    rcases List.mem_append.1 hy with hy | hy
    · exact h.le y hy
    · have e : y = x := by simpa using hy
      subst e; omega
theorem PHi.step {l : List Nat} {k m x : Nat} (h : PHi l k m) (hx : l[k]? = some x) : PHi l (k + 1) (if Fl.rank m < Fl.rank x then x else m) := by
  have ht : l.take (k + 1) = l.take k ++ [x] := by rw [List.take_add_one, hx]; rfl
  by_cases c : Fl.rank m < Fl.rank x
  · rw [if_pos c]
    refine ⟨List.mem_of_getElem? hx, fun y hy => ?_⟩
    rw [ht] at hy
    rcases List.mem_append.1 hy with hy | hy
    · have := h.le y hy; omega
    · have e : y = x := by simpa using hy
      subst e; exact Nat.le_refl _
  · rw [if_neg c]
    refine ⟨h.mem, fun y hy => ?_⟩
    rw [ht] at hy
    rcases List.mem_append.1 hy with hy | hy
    · exact h.le y hy
    · have e : y = x := by simpa using hy
      subst e; omega
theorem PLo.done {l : List Nat} {k m : Nat} (h : PLo l k m) (hk : l.length ≤ k) (hl : ∀ x ∈ l, x < 18446744073709551616) : Fl.canon m = accLo l := by
  have hne : l ≠ [] := fun e => by have := h.mem; rw [e] at this; cases this
  have hle := h.le
  rw [List.take_of_length_le hk] at hle
  exact IsLo.unique hl hl (fun _ => Iff.rfl) ⟨Fl.canon_canon m, ⟨m, h.mem, rfl⟩, fun x hx => by rw [Fl.rank_canon]; exact hle x hx⟩ (accLo_is l hne)
theorem PHi.done {l : List Nat} {k m : Nat} (h : PHi l k m) (hk : l.length ≤ k) (hl : ∀ x ∈ l, x < 18446744073709551616) : Fl.canon m = accHi l := by
  have hne : l ≠ [] := fun e => by have := h.mem; rw [e] at this; cases this
  have hle := h.le
  rw [List.take_of_length_le hk] at hle
  exact IsHi.unique hl hl (fun _ => Iff.rfl) ⟨Fl.canon_canon m, ⟨m, h.mem, rfl⟩, fun x hx => by rw [Fl.rank_canon]; exact hle x hx⟩ (accHi_is l hne)
/-- While Value runs: the result's own block, the telling so far. -/
structure RVv (w : World) (gA n X : Nat) (O : Bool) (m M : Nat) (wr : World) : Prop where
  below : Below w.heap.size w wr
  res : wr.heap[w.heap.size]? = some (.cells #[.int .u64 0, .float .f64 0, .bool false, .float .f64 0, .float .f64 0] 95 (0, 0))
  row : wr.heap[gA]? = some (.cells #[.int .u64 (n : Int), .float .f64 X, .bool O, .float .f64 m, .float .f64 M] 95 (0, 0))
  lt : w.heap.size < gA
section
variable {w wr w' : World} {gA n X m M : Nat} {O : Bool}
theorem RVv.next (H : RVv w gA n X O m M wr) (hb : Below wr.heap.size wr w') : RVv w gA n X O m M w' := ⟨below_to H.below hb, row_keep H.res hb, row_keep H.row hb, H.lt⟩
theorem RVv.set3 (H : RVv w gA n X O m M wr) (x : Nat) : RVv w gA n X O x M (wr.setCell ⟨gA, 3, none⟩ (.float .f64 x)) :=
  ⟨H.below.setCell (by show _ ≤ gA; have := H.lt; omega) _, (Below.heap_setCell _ _ _ _ (by show _ ≠ gA; have := H.lt; omega)).trans H.res, row_set (cs := [.int .u64 (n : Int), .float .f64 X, .bool O, .float .f64 m, .float .f64 M]) H.row 3 _, H.lt⟩
theorem RVv.set4 (H : RVv w gA n X O m M wr) (x : Nat) : RVv w gA n X O m x (wr.setCell ⟨gA, 4, none⟩ (.float .f64 x)) :=
  ⟨H.below.setCell (by show _ ≤ gA; have := H.lt; omega) _, (Below.heap_setCell _ _ _ _ (by show _ ≠ gA; have := H.lt; omega)).trans H.res, row_set (cs := [.int .u64 (n : Int), .float .f64 X, .bool O, .float .f64 m, .float .f64 M]) H.row 4 _, H.lt⟩
theorem RVv.c3 (H : RVv w gA n X O m M wr) : wr.cell? ⟨gA, 3, none⟩ = some (.float .f64 m) ∧ wr.frozen? ⟨gA, 3, none⟩ = false := ⟨by rw [cell_of_row _ _ _ _ _ _ H.row]; rfl, row_frozen H.row 3⟩
theorem RVv.c4 (H : RVv w gA n X O m M wr) : wr.cell? ⟨gA, 4, none⟩ = some (.float .f64 M) ∧ wr.frozen? ⟨gA, 4, none⟩ = false := ⟨by rw [cell_of_row _ _ _ _ _ _ H.row]; rfl, row_frozen H.row 4⟩
end
set_option maxHeartbeats 1000000 in
theorem refVal_nil (a : Option Addr) (cap : Nat) (w : World) : Calls Try.prog 71 #[.slice a 0 cap] w (TelEnds w ⟨0, 0, false, 0, 0⟩) := by
  go_enter Try.func71, Try.ntmps71
  go_wp2_with (refine wpList_store_row rfl 95 (.tmp 2) (.tmp 10) rfl w.heap.size #[.int .u64 0, .float .f64 0, .bool false, .float .f64 0, .float .f64 0] rfl rfl _ _ (heap_alloc_new' w _) (iA _ _ _ _ _) rfl (by simp [Value.oneCell']) ?_)
  exact post_row 2 95 Try.results71 rfl w.heap.size 95 _ (0, 0) _ rfl (setRow_heap _ _ _ _ _ _ (heap_alloc_new' w _)) uA rfl (iA _ _ _ _ _) ⟨rfl, below_setRow ((Below.refl _ _).alloc (Nat.le_refl _) _) (Nat.le_refl _) _⟩

set_option maxHeartbeats 8000000 in
theorem refVal_cons (a : Option Addr) (l : List Nat) (n cap : Nat) (hlen : Hid (n = l.length)) (h0 : 0 < n) (hn : n ≤ 1000000) (w : World) (HA : Hid (FlAt w a l)) :
    Calls Try.prog 71 #[.slice a n cap] w (TelEnds w ⟨n, valW (accN l) (accH l), valO (accN l) (accH l), accLo l, accHi l⟩) := by
  have HLTS : Hid (∀ x ∈ l, x < 18446744073709551616) := Lib.hid fun x hx => by
    obtain ⟨k, hk⟩ := List.getElem?_of_mem hx
    exact (HA.out k x hk).1
  have hnz : ((n : Int) == 0) = false := by rw [beq_eq_false_iff_ne]; omega
  have hnw : IntKind.u64.wrap (n : Int) = (n : Int) := by rw [IntKind.wrap_u64]; omega
  obtain ⟨x0, hx0⟩ : ∃ x0, l[0]? = some x0 := ⟨l[0]'(by have := hlen.out; omega), List.getElem?_eq_getElem _⟩
  obtain ⟨-, ga, off, rfl, hga, hc0⟩ := HA.out 0 x0 hx0
  replace hc0 : w.cell? ⟨ga, off, none⟩ = some (.float .f64 x0) := by simpa using hc0
  have HM0 : Hid (PLo l 0 x0 ∧ PHi l 0 x0) := Lib.hid ⟨⟨List.mem_of_getElem? hx0, fun x hx => by simp at hx⟩, ⟨List.mem_of_getElem? hx0, fun x hx => by simp at hx⟩⟩
  have HOF := Lib.hid fun (w1 : World) (hb : Below w.heap.size w w1) => refOf_any2 (some ⟨ga, off, none⟩) l n cap hlen hn w1 (Lib.hid (HA.out.keep hb))
  have HVA := Lib.hid fun (A : Option Addr) (C : Nat) (w1 : World) (hb : Hid (BitAt w1 A (accN l))) => rvalue_any A C (accN l) (accH l) (accN_lt l) (accH_lt l) (acc8 l) w1 hb
  have HXK : Hid (valW (accN l) (accH l) < 18446744073709551616) := Lib.hid (valW_lt _ _)
  have HXD : Hid (∀ m M, PLo l n m → PHi l n M → Fl.canon m = accLo l ∧ Fl.canon M = accHi l) := Lib.hid fun m M h1 h2 => ⟨h1.done (by have := hlen.out; omega) HLTS.out, h2.done (by have := hlen.out; omega) HLTS.out⟩
  generalize valW (accN l) (accH l) = X at *
  generalize valO (accN l) (accH l) = O at *
  have hb0 : Below w.heap.size w (w.alloc (.cells #[.int .u64 0, .float .f64 0, .bool false, .float .f64 0, .float .f64 0] 95)) := (Below.refl _ _).alloc (Nat.le_refl _) _
  have HB0 := Lib.hid hb0
  clear hb0 hx0
  go_enter Try.func71, Try.ntmps71
  go_upto_region 4 with (first
    | (go_at_call 95; refine (HOF.out _ HB0.out).mono ?_; rintro e w1 ⟨Ab, Cb, rfl, hbt, hb1⟩; have HBT := Lib.hid hbt; have HB1 := Lib.hid (below_to HB0.out hb1); have HR1 := Lib.hid (row_keep (heap_alloc_new' w _) hb1); clear hbt hb1)
    | (go_at_call 96; (with_reducible refine (HVA.out Ab Cb _ HBT).mono ?_); rintro e w2 ⟨rfl, hb2⟩; have HB2 := Lib.hid (below_to HB1.out hb2); have HRS := Lib.hid (row_keep HR1.out hb2); clear hb2))
  have HLT : Hid (w.heap.size < w2.heap.size) := Lib.hid (Array.getElem?_eq_some_iff.1 HRS.out).1
  refine wp_region_held_drew (S := Below w.heap.size w) (by kernel_rfl) HB2.out.drew (fun hHeld => ?_)
  refine wpAnyH_take (i := 0) (v := .slice (some ⟨ga, off, none⟩) n cap) rfl (by kernel_rfl) (by kernel_rfl) (by kernel_rfl) (fun _ _ _ h => h) (Or.inl ⟨by rfl, fun _ _ => rfl⟩) hHeld ?_
  try dsimp only
  try simp only [Act.put, List.getElem_toArray, List.getElem_cons_zero, List.getElem_cons_succ, List.setIfInBounds_toArray, List.set_cons_zero, List.set_cons_succ]
  refine wpAnyH_take (i := 3) (v := .float .f64 X) rfl (by kernel_rfl) (by kernel_rfl) (by kernel_rfl) (fun _ _ _ h => h) (Or.inl ⟨by rfl, fun _ _ => rfl⟩) hHeld ?_
  try dsimp only
  try simp only [Act.put, List.getElem_toArray, List.getElem_cons_zero, List.getElem_cons_succ, List.setIfInBounds_toArray, List.set_cons_zero, List.set_cons_succ]
  refine wpAnyH_take (i := 4) (v := .bool O) rfl (by kernel_rfl) (by kernel_rfl) (by kernel_rfl) (fun _ _ _ h => h) (Or.inl ⟨by rfl, fun _ _ => rfl⟩) hHeld ?_
  try dsimp only
  try simp only [Act.put, List.getElem_toArray, List.getElem_cons_zero, List.getElem_cons_succ, List.setIfInBounds_toArray, List.set_cons_zero, List.set_cons_succ]
  refine wpAnyH_take (i := 5) (v := .slice (some ⟨ga, off, none⟩) n cap) rfl (by kernel_rfl) (by kernel_rfl) (by kernel_rfl) (fun _ _ _ h => h) (Or.inl ⟨by rfl, fun _ _ => rfl⟩) hHeld ?_
  try dsimp only
  try simp only [Act.put, List.getElem_toArray, List.getElem_cons_zero, List.getElem_cons_succ, List.setIfInBounds_toArray, List.set_cons_zero, List.set_cons_succ]
  refine wpAnyH_take (i := 8) (v := .slice (some ⟨ga, off, none⟩) n cap) rfl (by kernel_rfl) (by kernel_rfl) (by kernel_rfl) (fun _ _ _ h => h) (Or.inl ⟨by rfl, fun _ _ => rfl⟩) hHeld ?_
  try dsimp only
  try simp only [Act.put, List.getElem_toArray, List.getElem_cons_zero, List.getElem_cons_succ, List.setIfInBounds_toArray, List.set_cons_zero, List.set_cons_succ]
  refine wpAnyH_take (i := 1) (v := .int .i64 (n : Int)) rfl (by kernel_rfl) (by kernel_rfl) (by kernel_rfl) (fun _ _ _ h => h) (Or.inl ⟨by rfl, fun w _ => by go_simp⟩) hHeld ?_
  try dsimp only
  try simp only [Act.put, List.getElem_toArray, List.getElem_cons_zero, List.getElem_cons_succ, List.setIfInBounds_toArray, List.set_cons_zero, List.set_cons_succ]
  refine wpAnyH_take (i := 2) (v := .int .u64 (n : Int)) rfl (by kernel_rfl) (by kernel_rfl) (by kernel_rfl) (fun _ _ _ h => h) (Or.inl ⟨by rfl, fun w _ => by have := hnw; go_simp⟩) hHeld ?_
  try dsimp only
  try simp only [Act.put, List.getElem_toArray, List.getElem_cons_zero, List.getElem_cons_succ, List.setIfInBounds_toArray, List.set_cons_zero, List.set_cons_succ]
  refine wpAnyH_take (i := 6) (v := .pointer (some ⟨ga, off, none⟩)) rfl (by kernel_rfl) (by kernel_rfl) (by kernel_rfl) (fun _ _ _ h => h) (Or.inl ⟨by rfl, fun w _ => by go_simp⟩) hHeld ?_
  try dsimp only
  try simp only [Act.put, List.getElem_toArray, List.getElem_cons_zero, List.getElem_cons_succ, List.setIfInBounds_toArray, List.set_cons_zero, List.set_cons_succ]
  refine wpAnyH_take (i := 9) (v := .pointer (some ⟨ga, off, none⟩)) rfl (by kernel_rfl) (by kernel_rfl) (by kernel_rfl) (fun _ _ _ h => h) (Or.inl ⟨by rfl, fun w _ => by go_simp⟩) hHeld ?_
  try dsimp only
  try simp only [Act.put, List.getElem_toArray, List.getElem_cons_zero, List.getElem_cons_succ, List.setIfInBounds_toArray, List.set_cons_zero, List.set_cons_succ]
  refine wpAnyH_take (i := 7) (v := .float .f64 x0) rfl (by kernel_rfl) (by kernel_rfl) (by kernel_rfl) (fun _ _ _ h => h) (Or.inl ⟨by rfl, fun w hw => by have hc : w.cell? ⟨ga, off, none⟩ = some (.float .f64 x0) := (hw.cell (p := ⟨ga, off, none⟩) hga).trans hc0; go_simp⟩) hHeld ?_
  try dsimp only
  try simp only [Act.put, List.getElem_toArray, List.getElem_cons_zero, List.getElem_cons_succ, List.setIfInBounds_toArray, List.set_cons_zero, List.set_cons_succ]
  refine wpAnyH_take (i := 10) (v := .float .f64 x0) rfl (by kernel_rfl) (by kernel_rfl) (by kernel_rfl) (fun _ _ _ h => h) (Or.inl ⟨by rfl, fun w hw => by have hc : w.cell? ⟨ga, off, none⟩ = some (.float .f64 x0) := (hw.cell (p := ⟨ga, off, none⟩) hga).trans hc0; go_simp⟩) hHeld ?_
  try dsimp only
  try simp only [Act.put, List.getElem_toArray, List.getElem_cons_zero, List.getElem_cons_succ, List.setIfInBounds_toArray, List.set_cons_zero, List.set_cons_succ]
  refine wpAnyH_take (i := 11) (v := .agg #[.int .u64 (n : Int), .float .f64 X, .bool O, .float .f64 x0, .float .f64 x0]) rfl (by kernel_rfl) (by kernel_rfl) (by kernel_rfl) (fun _ _ _ h => h) (Or.inl ⟨by rfl, fun w _ => by go_simp⟩) hHeld ?_
  try dsimp only
  try simp only [Act.put, List.getElem_toArray, List.getElem_cons_zero, List.getElem_cons_succ, List.setIfInBounds_toArray, List.set_cons_zero, List.set_cons_succ]
  refine wpAnyH_ready (rs := [12]) (by kernel_rfl) (by simp) (AllReadyH.cons rfl (fun K hK => ?_) AllReadyH.nil)
  go_simp
  have hA : Below w.heap.size w (w2.drew.alloc (.cells #[.int .u64 0, .float .f64 0, .bool false, .float .f64 0, .float .f64 0] 95)) := HB2.out.drew.alloc HB2.out.drew.size _
  refine hK.out _ _ hA (fun hHeld => ?_)
  clear hK K
  try dsimp only
  try simp only [Act.put, List.getElem_toArray, List.getElem_cons_zero, List.getElem_cons_succ, List.setIfInBounds_toArray, List.set_cons_zero, List.set_cons_succ]
  refine wpAnyH_ready (rs := [13]) (by kernel_rfl) (by simp) (AllReadyH.cons rfl (fun K hK => ?_) AllReadyH.nil)
  rw [if_pos (by rfl)]
  refine wp_store_row 95 (.tmp 5) (.tmp 28) rfl w2.heap.size #[.int .u64 (n : Int), .float .f64 X, .bool O, .float .f64 x0, .float .f64 x0] rfl rfl _ _ (heap_alloc_new' w2.drew _) (iA _ _ _ _ _) rfl (by simp [Value.oneCell']) ?_
  have HV0 : Hid (RVv w w2.heap.size n X O x0 x0 ((w2.drew.alloc (.cells #[.int .u64 0, .float .f64 0, .bool false, .float .f64 0, .float .f64 0] 95)).setRow w2.heap.size #[.int .u64 (n : Int), .float .f64 X, .bool O, .float .f64 x0, .float .f64 x0])) := Lib.hid ⟨below_setRow hA HB2.out.size _, (setRow_other _ _ _ _ (Nat.ne_of_lt HLT.out)).trans (row_keep HRS.out ((Below.refl _ _).drew.alloc (Nat.le_refl _) _)), setRow_heap _ _ _ _ _ _ (heap_alloc_new' w2.drew _), HLT.out⟩
  refine hK.out _ _ HV0.out.below (fun _ => ?_)
  clear hK K
  refine wpAnyH_done (by kernel_rfl) ?_ _
  clear hHeld hA HB2 HRS HR1 HB1 HBT HOF HVA HB0 hc0
  obtain ⟨gA, hgA⟩ : ∃ gA, gA = w2.heap.size := ⟨_, rfl⟩
  rw [← hgA] at HV0 HLT ⊢
  generalize World.setRow _ _ _ = w3 at *
  clear hgA
  go_wp2_with fail
  go_loopw [6] (fun i wr => ∃ (k m M : Nat), k ≤ n ∧ i = .int .i64 (k : Int) ∧ RVv w gA n X O m M wr ∧ PLo l k m ∧ PHi l k M) (fun i _ => n - (intOf i).toNat)
  case atStart => exact ⟨0, x0, x0, by omega, rfl, HV0.out, HM0.out.1, HM0.out.2⟩
  case round =>
    clear HV0 HM0
    obtain ⟨k, m, M, hk, rfl, hv, hpl, hph⟩ := hrel
    have HV := Lib.hid hv
    by_cases hlt : k < n
    · obtain ⟨x, hx⟩ : ∃ x, l[k]? = some x := ⟨l[k]'(by have := hlen.out; omega), List.getElem?_eq_getElem _⟩
      obtain ⟨hx64, ga', off', e, -, hck0⟩ := HA.out k x hx
      injection e with e; injection e with e1 e2
      subst e1; subst e2
      have HCK := Lib.hid hck0
      have hm64 : m < 18446744073709551616 := HLTS.out m hpl.mem
      have hM64 : M < 18446744073709551616 := HLTS.out M hph.mem
      have HPL := Lib.hid (hpl.step hx)
      have HPH := Lib.hid (hph.step hx)
      have HBF := fun w => before_any x m hx64 hm64 w
      have HBG := fun w => before_any M x hM64 hx64 w
      obtain ⟨c1, hc1⟩ : ∃ c1, c1 = decide (Fl.rank x < Fl.rank m) := ⟨_, rfl⟩
      obtain ⟨c2, hc2⟩ : ∃ c2, c2 = decide (Fl.rank M < Fl.rank x) := ⟨_, rfl⟩
      rw [← hc1] at HBF
      rw [← hc2] at HBG
      replace HPL : Hid (PLo l (k + 1) (if c1 = true then x else m)) := Lib.hid (by have h := HPL.out; rw [hc1]; simpa using h)
      replace HPH : Hid (PHi l (k + 1) (if c2 = true then x else M)) := Lib.hid (by have h := HPH.out; rw [hc2]; simpa using h)
      clear hc1 hc2 hv hpl hph hck0 hx hx64 hm64 hM64
      have hkI : (k : Int) < (n : Int) := by omega
      go_upto_region 8 with fail
      refine wp_region_held_drew (S := RVv w gA n X O m M) (by kernel_rfl) (HV.out.next (Below.refl _ _).drew) (fun hHeld => ?_)
      refine wpAnyH_take (i := 0) (v := .slice (some ⟨ga, off, none⟩) n cap) rfl (by kernel_rfl) (by kernel_rfl) (by kernel_rfl) (fun _ _ _ h => h) (Or.inl ⟨by rfl, fun _ _ => rfl⟩) hHeld ?_
      try dsimp only
      try simp only [Act.put, List.getElem_toArray, List.getElem_cons_zero, List.getElem_cons_succ, List.setIfInBounds_toArray, List.set_cons_zero, List.set_cons_succ]
      refine wpAnyH_take (i := 1) (v := .int .i64 (k : Int)) rfl (by kernel_rfl) (by kernel_rfl) (by kernel_rfl) (fun _ _ _ h => h) (Or.inl ⟨by rfl, fun _ _ => rfl⟩) hHeld ?_
      try dsimp only
      try simp only [Act.put, List.getElem_toArray, List.getElem_cons_zero, List.getElem_cons_succ, List.setIfInBounds_toArray, List.set_cons_zero, List.set_cons_succ]
      refine wpAnyH_take (i := 2) (v := .pointer (some ⟨ga, off + k, none⟩)) rfl (by kernel_rfl) (by kernel_rfl) (by kernel_rfl) (fun _ _ _ h => h) (Or.inl ⟨by rfl, fun w _ => by go_simp⟩) hHeld ?_
      try dsimp only
      try simp only [Act.put, List.getElem_toArray, List.getElem_cons_zero, List.getElem_cons_succ, List.setIfInBounds_toArray, List.set_cons_zero, List.set_cons_succ]
      refine wpAnyH_take (i := 3) (v := .float .f64 x) rfl (by kernel_rfl) (by kernel_rfl) (by kernel_rfl) (fun _ _ _ h => h) (Or.inl ⟨by rfl, fun w hw => by have hc : w.cell? ⟨ga, off + k, none⟩ = some (.float .f64 x) := (hw.below.cell (p := ⟨ga, off + k, none⟩) hga).trans HCK.out; go_simp⟩) hHeld ?_
      try dsimp only
      try simp only [Act.put, List.getElem_toArray, List.getElem_cons_zero, List.getElem_cons_succ, List.setIfInBounds_toArray, List.set_cons_zero, List.set_cons_succ]
      refine wpAnyH_take (i := 4) (v := .pointer (some ⟨gA, 3, none⟩)) rfl (by kernel_rfl) (by kernel_rfl) (by kernel_rfl) (fun _ _ _ h => h) (Or.inl ⟨by rfl, fun w _ => by first | rfl | go_simp⟩) hHeld ?_
      try dsimp only
      try simp only [Act.put, List.getElem_toArray, List.getElem_cons_zero, List.getElem_cons_succ, List.setIfInBounds_toArray, List.set_cons_zero, List.set_cons_succ]
      refine wpAnyH_take (i := 5) (v := .float .f64 m) rfl (by kernel_rfl) (by kernel_rfl) (by kernel_rfl) (fun _ _ _ h => h) (Or.inl ⟨by rfl, fun w hw => by have hc : w.cell? ⟨gA, 3, none⟩ = some (.float .f64 m) := hw.c3.1; go_simp⟩) hHeld ?_
      try dsimp only
      try simp only [Act.put, List.getElem_toArray, List.getElem_cons_zero, List.getElem_cons_succ, List.setIfInBounds_toArray, List.set_cons_zero, List.set_cons_succ]
      refine wpAnyH_ready (rs := [6]) (by kernel_rfl) (by simp) (AllReadyH.cons rfl (fun K hK => ?_) AllReadyH.nil)
      go_simp
      refine (HBF _).mono ?_
      rintro e w' ⟨rfl, rfl⟩
      refine hK.out _ _ hHeld (fun hHeld => ?_)
      clear hK K
      try dsimp only
      try simp only [Act.put, List.getElem_toArray, List.getElem_cons_zero, List.getElem_cons_succ, List.setIfInBounds_toArray, List.set_cons_zero, List.set_cons_succ]
      refine wpAnyH_done (by kernel_rfl) ?_ _
      have HW := Lib.hid (HV.out.next (Below.refl _ _).drew)
      clear HV hHeld
      generalize wr.drew = wy at *
      cases c1
      · skip
        go_upto_region 10 with fail
        refine wp_region_held_drew (S := RVv w gA n X O m M) (by kernel_rfl) (HW.out.next (Below.refl _ _).drew) (fun hHeld => ?_)
        refine wpAnyH_take (i := 0) (v := .pointer (some ⟨gA, 4, none⟩)) rfl (by kernel_rfl) (by kernel_rfl) (by kernel_rfl) (fun _ _ _ h => h) (Or.inl ⟨by rfl, fun w _ => by first | rfl | go_simp⟩) hHeld ?_
        try dsimp only
        try simp only [Act.put, List.getElem_toArray, List.getElem_cons_zero, List.getElem_cons_succ, List.setIfInBounds_toArray, List.set_cons_zero, List.set_cons_succ]
        refine wpAnyH_take (i := 1) (v := .float .f64 M) rfl (by kernel_rfl) (by kernel_rfl) (by kernel_rfl) (fun _ _ _ h => h) (Or.inl ⟨by rfl, fun w hw => by have hc : w.cell? ⟨gA, 4, none⟩ = some (.float .f64 M) := hw.c4.1; go_simp⟩) hHeld ?_
        try dsimp only
        try simp only [Act.put, List.getElem_toArray, List.getElem_cons_zero, List.getElem_cons_succ, List.setIfInBounds_toArray, List.set_cons_zero, List.set_cons_succ]
        refine wpAnyH_take (i := 2) (v := .slice (some ⟨ga, off, none⟩) n cap) rfl (by kernel_rfl) (by kernel_rfl) (by kernel_rfl) (fun _ _ _ h => h) (Or.inl ⟨by rfl, fun _ _ => rfl⟩) hHeld ?_
        try dsimp only
        try simp only [Act.put, List.getElem_toArray, List.getElem_cons_zero, List.getElem_cons_succ, List.setIfInBounds_toArray, List.set_cons_zero, List.set_cons_succ]
        refine wpAnyH_take (i := 3) (v := .int .i64 (k : Int)) rfl (by kernel_rfl) (by kernel_rfl) (by kernel_rfl) (fun _ _ _ h => h) (Or.inl ⟨by rfl, fun _ _ => rfl⟩) hHeld ?_
        try dsimp only
        try simp only [Act.put, List.getElem_toArray, List.getElem_cons_zero, List.getElem_cons_succ, List.setIfInBounds_toArray, List.set_cons_zero, List.set_cons_succ]
        refine wpAnyH_take (i := 4) (v := .pointer (some ⟨ga, off + k, none⟩)) rfl (by kernel_rfl) (by kernel_rfl) (by kernel_rfl) (fun _ _ _ h => h) (Or.inl ⟨by rfl, fun w _ => by go_simp⟩) hHeld ?_
        try dsimp only
        try simp only [Act.put, List.getElem_toArray, List.getElem_cons_zero, List.getElem_cons_succ, List.setIfInBounds_toArray, List.set_cons_zero, List.set_cons_succ]
        refine wpAnyH_take (i := 5) (v := .float .f64 x) rfl (by kernel_rfl) (by kernel_rfl) (by kernel_rfl) (fun _ _ _ h => h) (Or.inl ⟨by rfl, fun w hw => by have hc : w.cell? ⟨ga, off + k, none⟩ = some (.float .f64 x) := (hw.below.cell (p := ⟨ga, off + k, none⟩) hga).trans HCK.out; go_simp⟩) hHeld ?_
        try dsimp only
        try simp only [Act.put, List.getElem_toArray, List.getElem_cons_zero, List.getElem_cons_succ, List.setIfInBounds_toArray, List.set_cons_zero, List.set_cons_succ]
        refine wpAnyH_ready (rs := [6]) (by kernel_rfl) (by simp) (AllReadyH.cons rfl (fun K hK => ?_) AllReadyH.nil)
        go_simp
        refine (HBG _).mono ?_
        rintro e w' ⟨rfl, rfl⟩
        refine hK.out _ _ hHeld (fun hHeld => ?_)
        clear hK K
        try dsimp only
        try simp only [Act.put, List.getElem_toArray, List.getElem_cons_zero, List.getElem_cons_succ, List.setIfInBounds_toArray, List.set_cons_zero, List.set_cons_succ]
        refine wpAnyH_done (by kernel_rfl) ?_ _
        have HD := Lib.hid (HW.out.next (Below.refl _ _).drew)
        clear hHeld HW
        generalize World.drew wy = wx at *
        cases c2
        · go_wp2
          go_roundw
          case rel => exact ⟨k + 1, m, M, by omega, by go_num, HD.out, by have h := HPL.out; simpa using h, by have h := HPH.out; simpa using h⟩
          case measure => simp [intOf]; omega
        · obtain ⟨d4, f4⟩ := HD.out.c4
          have s4 := run_store_flT _ _ x _ d4 f4
          have HE := Lib.hid (HD.out.set4 x)
          have hck : wx.cell? ⟨ga, off + k, none⟩ = some (.float .f64 x) := (HD.out.below.cell (p := ⟨ga, off + k, none⟩) hga).trans HCK.out
          go_wp2
          go_roundw
          case rel => exact ⟨k + 1, m, x, by omega, by go_num, HE.out, by have h := HPL.out; simpa using h, by have h := HPH.out; simpa using h⟩
          case measure => simp [intOf]; omega
      · obtain ⟨d3, f3⟩ := HW.out.c3
        have s3 := run_store_flT _ _ x _ d3 f3
        have HW2 := Lib.hid (HW.out.set3 x)
        have hck : wy.cell? ⟨ga, off + k, none⟩ = some (.float .f64 x) := (HW.out.below.cell (p := ⟨ga, off + k, none⟩) hga).trans HCK.out
        go_upto_region 10 with fail
        refine wp_region_held_drew (S := RVv w gA n X O x M) (by kernel_rfl) (HW2.out.next (Below.refl _ _).drew) (fun hHeld => ?_)
        refine wpAnyH_take (i := 0) (v := .pointer (some ⟨gA, 4, none⟩)) rfl (by kernel_rfl) (by kernel_rfl) (by kernel_rfl) (fun _ _ _ h => h) (Or.inl ⟨by rfl, fun w _ => by first | rfl | go_simp⟩) hHeld ?_
        try dsimp only
        try simp only [Act.put, List.getElem_toArray, List.getElem_cons_zero, List.getElem_cons_succ, List.setIfInBounds_toArray, List.set_cons_zero, List.set_cons_succ]
        refine wpAnyH_take (i := 1) (v := .float .f64 M) rfl (by kernel_rfl) (by kernel_rfl) (by kernel_rfl) (fun _ _ _ h => h) (Or.inl ⟨by rfl, fun w hw => by have hc : w.cell? ⟨gA, 4, none⟩ = some (.float .f64 M) := hw.c4.1; go_simp⟩) hHeld ?_
        try dsimp only
        try simp only [Act.put, List.getElem_toArray, List.getElem_cons_zero, List.getElem_cons_succ, List.setIfInBounds_toArray, List.set_cons_zero, List.set_cons_succ]
        refine wpAnyH_take (i := 2) (v := .slice (some ⟨ga, off, none⟩) n cap) rfl (by kernel_rfl) (by kernel_rfl) (by kernel_rfl) (fun _ _ _ h => h) (Or.inl ⟨by rfl, fun _ _ => rfl⟩) hHeld ?_
        try dsimp only
        try simp only [Act.put, List.getElem_toArray, List.getElem_cons_zero, List.getElem_cons_succ, List.setIfInBounds_toArray, List.set_cons_zero, List.set_cons_succ]
        refine wpAnyH_take (i := 3) (v := .int .i64 (k : Int)) rfl (by kernel_rfl) (by kernel_rfl) (by kernel_rfl) (fun _ _ _ h => h) (Or.inl ⟨by rfl, fun _ _ => rfl⟩) hHeld ?_
        try dsimp only
        try simp only [Act.put, List.getElem_toArray, List.getElem_cons_zero, List.getElem_cons_succ, List.setIfInBounds_toArray, List.set_cons_zero, List.set_cons_succ]
        refine wpAnyH_take (i := 4) (v := .pointer (some ⟨ga, off + k, none⟩)) rfl (by kernel_rfl) (by kernel_rfl) (by kernel_rfl) (fun _ _ _ h => h) (Or.inl ⟨by rfl, fun w _ => by go_simp⟩) hHeld ?_
        try dsimp only
        try simp only [Act.put, List.getElem_toArray, List.getElem_cons_zero, List.getElem_cons_succ, List.setIfInBounds_toArray, List.set_cons_zero, List.set_cons_succ]
        refine wpAnyH_take (i := 5) (v := .float .f64 x) rfl (by kernel_rfl) (by kernel_rfl) (by kernel_rfl) (fun _ _ _ h => h) (Or.inl ⟨by rfl, fun w hw => by have hc : w.cell? ⟨ga, off + k, none⟩ = some (.float .f64 x) := (hw.below.cell (p := ⟨ga, off + k, none⟩) hga).trans HCK.out; go_simp⟩) hHeld ?_
        try dsimp only
        try simp only [Act.put, List.getElem_toArray, List.getElem_cons_zero, List.getElem_cons_succ, List.setIfInBounds_toArray, List.set_cons_zero, List.set_cons_succ]
        refine wpAnyH_ready (rs := [6]) (by kernel_rfl) (by simp) (AllReadyH.cons rfl (fun K hK => ?_) AllReadyH.nil)
        go_simp
        refine (HBG _).mono ?_
        rintro e w' ⟨rfl, rfl⟩
        refine hK.out _ _ hHeld (fun hHeld => ?_)
        clear hK K
        try dsimp only
        try simp only [Act.put, List.getElem_toArray, List.getElem_cons_zero, List.getElem_cons_succ, List.setIfInBounds_toArray, List.set_cons_zero, List.set_cons_succ]
        refine wpAnyH_done (by kernel_rfl) ?_ _
        have HD := Lib.hid (HW2.out.next (Below.refl _ _).drew)
        clear hHeld HW2
        generalize World.drew (wy.setCell ⟨gA, 3, none⟩ (.float .f64 x)) = wx at *
        cases c2
        · go_wp2
          go_roundw
          case rel => exact ⟨k + 1, x, M, by omega, by go_num, HD.out, by have h := HPL.out; simpa using h, by have h := HPH.out; simpa using h⟩
          case measure => simp [intOf]; omega
        · obtain ⟨d4, f4⟩ := HD.out.c4
          have s4 := run_store_flT _ _ x _ d4 f4
          have HE := Lib.hid (HD.out.set4 x)
          have hck : wx.cell? ⟨ga, off + k, none⟩ = some (.float .f64 x) := (HD.out.below.cell (p := ⟨ga, off + k, none⟩) hga).trans HCK.out
          go_wp2
          go_roundw
          case rel => exact ⟨k + 1, x, x, by omega, by go_num, HE.out, by have h := HPL.out; simpa using h, by have h := HPH.out; simpa using h⟩
          case measure => simp [intOf]; omega
    · obtain rfl : n = k := by omega
      obtain ⟨e1, e2⟩ := HXD.out m M hpl hph
      have HE := Lib.hid (And.intro e1 e2)
      have hm64 : m < 18446744073709551616 := HLTS.out m hpl.mem
      have hM64 : M < 18446744073709551616 := HLTS.out M hph.mem
      have HC1 : Hid (∀ w, Calls Try.prog 99 #[.float .f64 m] w fun e w' => e = .returned (.int .u64 (accLo l : Nat)) ∧ w = w') := Lib.hid fun w => by rw [← e1]; exact refBits_any m hm64 w
      have HC2 : Hid (∀ w, Calls Try.prog 99 #[.float .f64 M] w fun e w' => e = .returned (.int .u64 (accHi l : Nat)) ∧ w = w') := Lib.hid fun w => by rw [← e2]; exact refBits_any M hM64 w
      have HC3 : Hid (∀ w, Calls Try.prog 98 #[.int .u64 (accLo l : Nat)] w fun e w' => e = .returned (.float .f64 (accLo l)) ∧ w = w') := Lib.hid fun w => by
        have h := refOf_any (accLo l) (accLo_lt l HLTS.out) w
        rwa [← e1, Fl.canon_canon, e1] at h
      have HC4 : Hid (∀ w, Calls Try.prog 98 #[.int .u64 (accHi l : Nat)] w fun e w' => e = .returned (.float .f64 (accHi l)) ∧ w = w') := Lib.hid fun w => by
        have h := refOf_any (accHi l) (accHi_lt l HLTS.out) w
        rwa [← e2, Fl.canon_canon, e2] at h
      have HV1 := Lib.hid (hv.set3 (accLo l))
      obtain ⟨d3, f3⟩ := hv.c3
      have s3 := run_store_flT _ _ (accLo l) _ d3 f3
      obtain ⟨d4, f4⟩ := HV1.out.c4
      have s4 := run_store_flT _ _ (accHi l) _ d4 f4
      have HV2 := Lib.hid (HV1.out.set4 (accHi l))
      generalize accLo l = L1 at *
      generalize accHi l = L2 at *
      clear e1 e2 hpl hph hv hm64 hM64
      go_wp2_with (first
        | (go_at_call 99; (first | (with_reducible refine (HC1.out _).mono ?_) | (with_reducible refine (HC2.out _).mono ?_)); rintro e w' ⟨rfl, rfl⟩)
        | (go_at_call 98; (first | (with_reducible refine (HC3.out _).mono ?_) | (with_reducible refine (HC4.out _).mono ?_)); rintro e w' ⟨rfl, rfl⟩)
        | (refine wpList_load_row rfl 95 (.tmp 5) rfl gA rfl _ #[.int .u64 (n : Int), .float .f64 X, .bool O, .float .f64 L1, .float .f64 L2] (0, 0) _ HV2.out.row uA rfl (iA _ _ _ _ _) ?_)
        | (refine wpList_store_row rfl 95 (.tmp 2) (.tmp 69) rfl w.heap.size #[.int .u64 (n : Int), .float .f64 X, .bool O, .float .f64 L1, .float .f64 L2] rfl rfl _ _ HV2.out.res (iA _ _ _ _ _) rfl (by simp [Value.oneCell']) ?_))
      exact post_row 2 95 Try.results71 rfl w.heap.size 95 _ (0, 0) _ rfl (setRow_heap _ _ _ _ _ _ HV2.out.res) uA rfl (iA _ _ _ _ _) ⟨rfl, below_setRow HV2.out.below (Nat.le_refl _) _⟩
theorem tel_none2 : telB (telL []) ⟨0, 0, false, 0, 0⟩ = true := by
  unfold telL accLo accHi telB
  decide +kernel
theorem refVal_any (a : Option Addr) (l : List Nat) (n cap : Nat) (hlen : Hid (n = l.length)) (hn : n ≤ 1000000) (w : World) (HA : Hid (FlAt w a l)) :
    ∃ t : Tel, t.Ok ∧ telB (telL l) t = true ∧ Calls Try.prog 71 #[.slice a n cap] w (TelEnds w t) := by
  have hlt : ∀ x ∈ l, x < 18446744073709551616 := fun x hx => by
    obtain ⟨k, hk⟩ := List.getElem?_of_mem hx
    exact (HA.out k x hk).1
  by_cases h0 : n = 0
  · have hl : l = [] := List.length_eq_zero_iff.1 (by rw [← hlen.out]; exact h0)
    subst h0
    subst hl
    exact ⟨⟨0, 0, false, 0, 0⟩, ⟨by decide, by decide, by decide, by decide⟩, tel_none2, refVal_nil a cap w⟩
  · refine ⟨_, ⟨?_, ?_, ?_, ?_⟩, ?_, refVal_cons a l n cap hlen (by omega) hn w HA⟩
    · show n < _; omega
    · exact valW_lt _ _
    · exact accLo_lt l hlt
    · exact accHi_lt l hlt
    · have := hlen.out
      unfold telB telL
      simp [Fl.canon_canon, this]
end Go.Proofs.Ytbimfopbilcdgaa
