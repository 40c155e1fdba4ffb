/-
  Layer ledger: Len, All; the order of panes.
-/
import Derived.Test.YtbimfopbilcdgaaDoorNfK
import Derived.Test.YtbimfopbilcdgaaDoorEaK
set_option linter.unusedSimpArgs false
set_option linter.unusedVariables false
set_option maxRecDepth 8000
namespace Go.Proofs.YtbimfopbilcdgaaDoor
open Go.RowKit Go.Sort

set_option maxHeartbeats 400000 in
theorem len_any {S : Nat → Prop} (g : Nat) (l : List Chg) (W : World) (hL : LedE S W g l) (hlen : l.length ≤ 1000) : Calls Tryd.prog 9 #[.pointer (some ⟨g, 0, none⟩)] W fun e w' => e = .returned (.int .i64 (l.length : Int)) ∧ w' = W := by
  obtain ⟨A, n, cap, mv, M, hL⟩ := hL
  have hc := cell_of_row W g 0 _ _ _ hL.row
  obtain rfl := hL.own.len
  clear hL
  go_enter Tryd.func9, Tryd.ntmps9
  go_wp2
  go_ret
  exact ⟨rfl, rfl⟩
set_option maxHeartbeats 400000 in
theorem len_nil (W : World) : Calls Tryd.prog 9 #[.pointer none] W fun e w' => e = .returned (.int .i64 0) ∧ w' = W := by
  go_enter Tryd.func9, Tryd.ntmps9
  go_wp2
  go_ret
  exact ⟨rfl, rfl⟩
set_option maxHeartbeats 400000 in
theorem add_nil (a : Option Addr) (n c : Nat) (W : World) : Calls Tryd.prog 7 #[.pointer none, .slice a n c] W fun e w' => e = .returned (.int .i64 5) ∧ w' = W := by
  go_enter Tryd.func7, Tryd.ntmps7
  go_wp2
  go_ret
  exact ⟨rfl, rfl⟩
/-- Which pane stands ahead. -/
def plCmp (x y : Pl) : Int := or3 (cmpK x.key y.key) (cmpI x.s y.s) (cmpI x.e y.e)
def pwCmp (x y : Pw) : Int := plCmp x.p y.p
/-- Two windows in two boxes. -/
structure Bw (g h : Nat) (sa ea sb eb : Int) (w : World) : Prop where
  rx : w.heap[g]? = some (.cells #[.int .i64 sa, .int .i64 ea] 34 (0, 0))
  ry : w.heap[h]? = some (.cells #[.int .i64 sb, .int .i64 eb] 34 (0, 0))
theorem Bw.cx {g h : Nat} {sa ea sb eb : Int} {w : World} (H : Bw g h sa ea sb eb w) (j : Nat) (v : Value) (hv : (#[.int .i64 sa, .int .i64 ea] : Array Value)[j]? = some v) : w.cell? ⟨g, j, none⟩ = some v := by
  rw [cell_of_row w g j _ _ _ H.rx]; exact hv
theorem Bw.cy {g h : Nat} {sa ea sb eb : Int} {w : World} (H : Bw g h sa ea sb eb w) (j : Nat) (v : Value) (hv : (#[.int .i64 sb, .int .i64 eb] : Array Value)[j]? = some v) : w.cell? ⟨h, j, none⟩ = some v := by
  rw [cell_of_row w h j _ _ _ H.ry]; exact hv
theorem Bw.alloc {g h : Nat} {sa ea sb eb : Int} {w : World} (H : Bw g h sa ea sb eb w) (o : Obj) : Bw g h sa ea sb eb (w.alloc o) := ⟨row_alloc' H.rx o, row_alloc' H.ry o⟩
theorem Bw.start (w : World) (sa ea sb eb : Int) : Bw w.heap.size (w.heap.size + 1) sa ea sb eb ((w.alloc (.cells #[.int .i64 sa, .int .i64 ea] 34)).alloc (.cells #[.int .i64 sb, .int .i64 eb] 34)).drew :=
  ⟨row_alloc' (heap_new' _ _ _ rfl) _, heap_new' _ _ _ (by simp)⟩
set_option maxHeartbeats 2000000 in
theorem order_any (ka : ByteArray) (sa ea : Int) (kb : ByteArray) (sb eb : Int) (w : World) : Calls Tryd.prog 22 #[.string ka, .agg #[.int .i64 sa, .int .i64 ea], .string kb, .agg #[.int .i64 sb, .int .i64 eb]] w fun e w' => e = .returned (.int .i64 (or3 (cmpK ka kb) (cmpI sa sb) (cmpI ea eb))) ∧ Grew w w' := by
  have h1 := fun w => strCompare_any ka kb w
  have h2 := fun w => cmpInt_any sa sb w
  have h3 := fun w => cmpInt_any ea eb w
  have hr : or3 (cmpK ka kb) (cmpI sa sb) (cmpI ea eb) = or3 (cmpK ka kb) (cmpI sa sb) (cmpI ea eb) := rfl
  generalize hro : or3 (cmpK ka kb) (cmpI sa sb) (cmpI ea eb) = r at *
  generalize cmpK ka kb = c1 at *
  generalize cmpI sa sb = c2 at *
  generalize cmpI ea eb = c3 at *
  have HR := Lib.hid hro
  have H1 := Lib.hid h1
  have H2 := Lib.hid h2
  have H3 := Lib.hid h3
  clear h1 h2 h3 hr hro
  have HS := Lib.hid (Bw.start w sa ea sb eb)
  have HW : Hid (∀ o, Grew w (((w.alloc (.cells #[.int .i64 sa, .int .i64 ea] 34)).alloc (.cells #[.int .i64 sb, .int .i64 eb] 34)).drew.alloc o)) := Lib.hid fun o => (((Grew.refl w).alloc _).alloc _).drew.alloc o
  go_enter Tryd.func22, Tryd.ntmps22
  go_wp2
  have hS := HS.out
  clear HS
  generalize World.alloc (World.alloc w _) _ = wz at *
  generalize w.heap.size + 1 = h at *
  generalize w.heap.size = g at *
  refine wp_region_held_drew (S := Bw g h sa ea sb eb) (by kernel_rfl) hS (fun hHeld => ?_)
  refine wpAnyH_take (i := 0) (v := .string ka) rfl (by kernel_rfl) (by kernel_rfl) (by kernel_rfl) (fun _ _ _ h => h) (Or.inl ⟨by rfl, fun _ _ => rfl⟩) hHeld ?_
  try dsimp only
  try simp only [Act.put, List.getElem_toArray, List.getElem_cons_zero, List.getElem_cons_succ, List.setIfInBounds_toArray, List.set_cons_zero, List.set_cons_succ]
  refine wpAnyH_take (i := 1) (v := .string kb) rfl (by kernel_rfl) (by kernel_rfl) (by kernel_rfl) (fun _ _ _ h => h) (Or.inl ⟨by rfl, fun _ _ => rfl⟩) hHeld ?_
  try dsimp only
  try simp only [Act.put, List.getElem_toArray, List.getElem_cons_zero, List.getElem_cons_succ, List.setIfInBounds_toArray, List.set_cons_zero, List.set_cons_succ]
  refine wpAnyH_take (i := 3) (v := .pointer (some ⟨g, 0, none⟩)) rfl (by kernel_rfl) (by kernel_rfl) (by kernel_rfl) (fun _ _ _ h => h) (Or.inl ⟨by rfl, fun w _ => by go_simp⟩) hHeld ?_
  try dsimp only
  try simp only [Act.put, List.getElem_toArray, List.getElem_cons_zero, List.getElem_cons_succ, List.setIfInBounds_toArray, List.set_cons_zero, List.set_cons_succ]
  refine wpAnyH_take (i := 4) (v := .int .i64 sa) rfl (by kernel_rfl) (by kernel_rfl) (by kernel_rfl) (fun _ _ _ h => h) (Or.inl ⟨by rfl, fun w hw => by have hc : w.cell? ⟨g, 0, none⟩ = some (.int .i64 sa) := hw.cx 0 _ rfl; go_simp⟩) hHeld ?_
  try dsimp only
  try simp only [Act.put, List.getElem_toArray, List.getElem_cons_zero, List.getElem_cons_succ, List.setIfInBounds_toArray, List.set_cons_zero, List.set_cons_succ]
  refine wpAnyH_take (i := 5) (v := .pointer (some ⟨h, 0, none⟩)) rfl (by kernel_rfl) (by kernel_rfl) (by kernel_rfl) (fun _ _ _ h => h) (Or.inl ⟨by rfl, fun w _ => by go_simp⟩) hHeld ?_
  try dsimp only
  try simp only [Act.put, List.getElem_toArray, List.getElem_cons_zero, List.getElem_cons_succ, List.setIfInBounds_toArray, List.set_cons_zero, List.set_cons_succ]
  refine wpAnyH_take (i := 6) (v := .int .i64 sb) rfl (by kernel_rfl) (by kernel_rfl) (by kernel_rfl) (fun _ _ _ h => h) (Or.inl ⟨by rfl, fun w hw => by have hc : w.cell? ⟨h, 0, none⟩ = some (.int .i64 sb) := hw.cy 0 _ rfl; go_simp⟩) hHeld ?_
  try dsimp only
  try simp only [Act.put, List.getElem_toArray, List.getElem_cons_zero, List.getElem_cons_succ, List.setIfInBounds_toArray, List.set_cons_zero, List.set_cons_succ]
  refine wpAnyH_take (i := 8) (v := .pointer (some ⟨g, 1, none⟩)) rfl (by kernel_rfl) (by kernel_rfl) (by kernel_rfl) (fun _ _ _ h => h) (Or.inl ⟨by rfl, fun w _ => by go_simp⟩) hHeld ?_
  try dsimp only
  try simp only [Act.put, List.getElem_toArray, List.getElem_cons_zero, List.getElem_cons_succ, List.setIfInBounds_toArray, List.set_cons_zero, List.set_cons_succ]
  refine wpAnyH_take (i := 9) (v := .int .i64 ea) rfl (by kernel_rfl) (by kernel_rfl) (by kernel_rfl) (fun _ _ _ h => h) (Or.inl ⟨by rfl, fun w hw => by have hc : w.cell? ⟨g, 1, none⟩ = some (.int .i64 ea) := hw.cx 1 _ rfl; go_simp⟩) hHeld ?_
  try dsimp only
  try simp only [Act.put, List.getElem_toArray, List.getElem_cons_zero, List.getElem_cons_succ, List.setIfInBounds_toArray, List.set_cons_zero, List.set_cons_succ]
  refine wpAnyH_take (i := 10) (v := .pointer (some ⟨h, 1, none⟩)) rfl (by kernel_rfl) (by kernel_rfl) (by kernel_rfl) (fun _ _ _ h => h) (Or.inl ⟨by rfl, fun w _ => by go_simp⟩) hHeld ?_
  try dsimp only
  try simp only [Act.put, List.getElem_toArray, List.getElem_cons_zero, List.getElem_cons_succ, List.setIfInBounds_toArray, List.set_cons_zero, List.set_cons_succ]
  refine wpAnyH_take (i := 11) (v := .int .i64 eb) rfl (by kernel_rfl) (by kernel_rfl) (by kernel_rfl) (fun _ _ _ h => h) (Or.inl ⟨by rfl, fun w hw => by have hc : w.cell? ⟨h, 1, none⟩ = some (.int .i64 eb) := hw.cy 1 _ rfl; go_simp⟩) hHeld ?_
  try dsimp only
  try simp only [Act.put, List.getElem_toArray, List.getElem_cons_zero, List.getElem_cons_succ, List.setIfInBounds_toArray, List.set_cons_zero, List.set_cons_succ]
  refine wpAnyH_ready (rs := [2]) (by kernel_rfl) (by simp) (AllReadyH.cons rfl (fun K hK => ?_) AllReadyH.nil)
  go_simp
  refine (H1.out _).mono ?_
  rintro e w' ⟨rfl, rfl⟩
  refine hK.out _ _ hHeld (fun hHeld => ?_)
  clear hK K
  try dsimp only
  try simp only [Act.put, List.getElem_toArray, List.getElem_cons_zero, List.getElem_cons_succ, List.setIfInBounds_toArray, List.set_cons_zero, List.set_cons_succ]
  refine wpAnyH_ready (rs := [7]) (by kernel_rfl) (by simp) (AllReadyH.cons rfl (fun K hK => ?_) AllReadyH.nil)
  go_simp
  refine (H2.out _).mono ?_
  rintro e w' ⟨rfl, rfl⟩
  refine hK.out _ _ hHeld (fun hHeld => ?_)
  clear hK K
  try dsimp only
  try simp only [Act.put, List.getElem_toArray, List.getElem_cons_zero, List.getElem_cons_succ, List.setIfInBounds_toArray, List.set_cons_zero, List.set_cons_succ]
  refine wpAnyH_ready (rs := [12]) (by kernel_rfl) (by simp) (AllReadyH.cons rfl (fun K hK => ?_) AllReadyH.nil)
  go_simp
  refine (H3.out _).mono ?_
  rintro e w' ⟨rfl, rfl⟩
  refine hK.out _ _ hHeld (fun hHeld => ?_)
  clear hK K
  try dsimp only
  try simp only [Act.put, List.getElem_toArray, List.getElem_cons_zero, List.getElem_cons_succ, List.setIfInBounds_toArray, List.set_cons_zero, List.set_cons_succ]
  refine wpAnyH_ready (rs := [13]) (by kernel_rfl) (by simp) (AllReadyH.cons rfl (fun K hK => ?_) AllReadyH.nil)
  go_simp
  refine hK.out _ _ (hHeld.alloc _) (fun hHeld => ?_)
  clear hK K
  try dsimp only
  try simp only [Act.put, List.getElem_toArray, List.getElem_cons_zero, List.getElem_cons_succ, List.setIfInBounds_toArray, List.set_cons_zero, List.set_cons_succ]
  refine wpAnyH_ready (rs := [14]) (by kernel_rfl) (by simp) (AllReadyH.cons rfl (fun K hK => ?_) AllReadyH.nil)
  go_simp
  refine (or_any _ c1 c2 c3 r HR.out _ (by simp [World.cell?_alloc_new]) (by simp [World.cell?_alloc_new]) (by simp [World.cell?_alloc_new])).mono ?_
  rintro e w' ⟨rfl, rfl⟩
  refine hK.out _ _ hHeld (fun hHeld => ?_)
  clear hK K
  try dsimp only
  try simp only [Act.put, List.getElem_toArray, List.getElem_cons_zero, List.getElem_cons_succ, List.setIfInBounds_toArray, List.set_cons_zero, List.set_cons_succ]
  refine wpAnyH_ready (rs := [15]) (by kernel_rfl) (by simp) (AllReadyH.cons rfl (fun K hK => ?_) AllReadyH.nil)
  go_simp
  refine hK.out _ _ hHeld (fun hHeld => ?_)
  clear hK K
  refine wpAnyH_done (by kernel_rfl) ?_ _
  go_wp2
  go_ret
  exact ⟨rfl, HW.out _⟩
set_option maxHeartbeats 2000000 in
theorem viewCmp_any (x y : Pw) (w : World) : Calls Tryd.prog 21 #[.agg #[.string x.p.key, .int .i64 x.p.s, .int .i64 x.p.e, .int .u64 (x.t.c : Int), .float .f64 x.t.s, .bool x.t.o, .float .f64 x.t.lo, .float .f64 x.t.hi], .agg #[.string y.p.key, .int .i64 y.p.s, .int .i64 y.p.e, .int .u64 (y.t.c : Int), .float .f64 y.t.s, .bool y.t.o, .float .f64 y.t.lo, .float .f64 y.t.hi]] w fun e w' => e = .returned (.int .i64 (pwCmp x y)) ∧ Grew w w' := by
  have H := Lib.hid fun w => order_any x.p.key x.p.s x.p.e y.p.key y.p.s y.p.e w
  have HR : Hid (or3 (cmpK x.p.key y.p.key) (cmpI x.p.s y.p.s) (cmpI x.p.e y.p.e) = pwCmp x y) := Lib.hid rfl
  generalize pwCmp x y = r at *
  have HW : Hid (Grew w ((w.alloc (.cells #[.string x.p.key, .int .i64 x.p.s, .int .i64 x.p.e, .int .u64 (x.t.c : Int), .float .f64 x.t.s, .bool x.t.o, .float .f64 x.t.lo, .float .f64 x.t.hi] 40)).alloc (.cells #[.string y.p.key, .int .i64 y.p.s, .int .i64 y.p.e, .int .u64 (y.t.c : Int), .float .f64 y.t.s, .bool y.t.o, .float .f64 y.t.lo, .float .f64 y.t.hi] 40))) := Lib.hid (((Grew.refl w).alloc _).alloc _)
  go_enter Tryd.func21, Tryd.ntmps21
  go_wp2_with (go_at_call 22; with_reducible refine (H.out _).mono ?_; rintro e w' ⟨rfl, hg⟩; have HG := Lib.hid hg; clear hg)
  go_ret
  exact ⟨ret_eq (congrArg _ HR.out), HW.out.trans HG.out⟩
end Go.Proofs.YtbimfopbilcdgaaDoor

set_option linter.unusedSimpArgs false
set_option linter.unusedVariables false
set_option maxRecDepth 8000
namespace Go.Proofs.YtbimfopbilcdgaaDoor
open Go.RowKit Go.Sort

/-- Less, said by the parts. -/
def LssP (x y : Pw) : Prop := cmpK x.p.key y.p.key < 0 ∨ (x.p.key = y.p.key ∧ (x.p.s < y.p.s ∨ (x.p.s = y.p.s ∧ x.p.e < y.p.e)))
theorem lssP_iff (x y : Pw) : pwCmp x y < 0 ↔ LssP x y := by
  unfold pwCmp plCmp or3 LssP
  by_cases h1 : cmpK x.p.key y.p.key = 0
  · have hk := ek_eq h1
    have hs := ek_self y.p.key
    rw [if_neg (by omega)]
    unfold cmpI
    by_cases h2 : x.p.s < y.p.s
    · simp [h1, hk, hs, h2]
    · by_cases h3 : y.p.s < x.p.s
      · simp [h1, hk, hs, h2, h3]; omega
      · have ht : x.p.s = y.p.s := by omega
        simp [h1, hk, hs, ht]
        by_cases h4 : x.p.e < y.p.e
        · simp [h4]
        · by_cases h5 : y.p.e < x.p.e <;> simp [h4, h5]
  · rw [if_pos h1]
    constructor
    · intro h; exact .inl h
    · rintro (h | ⟨h, -⟩)
      · exact h
      · rw [h, ek_self] at h1; exact absurd rfl h1
theorem ltP_iff (x y : Pw) : ltOf pwCmp x y = true ↔ LssP x y := by unfold ltOf; rw [decide_eq_true_eq, lssP_iff]
theorem ltP_no (x y : Pw) : ltOf pwCmp x y = false ↔ ¬ LssP x y := by rw [← ltP_iff]; simp
theorem wkP : Wk (ltOf pwCmp) := by
  refine ⟨fun x y z h1 h2 => ?_, fun x y h => ?_, fun x y z h1 h2 => ?_⟩
  · rw [ltP_iff] at *
    rcases h1 with h1 | ⟨e1, h1⟩ <;> rcases h2 with h2 | ⟨e2, h2⟩
    · exact .inl (kb_trans _ _ _ h1 h2)
    · exact .inl (by rw [← e2]; exact h1)
    · exact .inl (by rw [e1]; exact h2)
    · exact .inr ⟨e1.trans e2, by omega⟩
  · rw [ltP_iff] at h; rw [ltP_no]
    rintro h2
    rcases h with h | ⟨e, h⟩ <;> rcases h2 with h2 | ⟨e2, h2⟩
    · rw [ek_neg] at h2; omega
    · rw [e2, ek_self] at h; omega
    · rw [e, ek_self] at h2; omega
    · omega
  · rw [ltP_no] at *
    rintro h
    have key : ∀ a b : Pw, ¬ LssP a b → cmpK b.p.key a.p.key < 0 ∨ (a.p.key = b.p.key ∧ (b.p.s < a.p.s ∨ (b.p.s = a.p.s ∧ b.p.e ≤ a.p.e))) := fun a b hn => by
      unfold LssP at hn
      by_cases hk : cmpK a.p.key b.p.key = 0
      · right; have := ek_eq hk; refine ⟨this, ?_⟩
        have h3 : ¬ (a.p.s < b.p.s ∨ (a.p.s = b.p.s ∧ a.p.e < b.p.e)) := fun h => hn (.inr ⟨this, h⟩)
        omega
      · left; rw [ek_neg]
        have h3 : ¬ cmpK a.p.key b.p.key < 0 := fun h => hn (.inl h)
        omega
    have k1 := key x y h1
    have k2 := key y z h2
    rcases k1 with k1 | ⟨e1, k1⟩ <;> rcases k2 with k2 | ⟨e2, k2⟩ <;> rcases h with h | ⟨e, h⟩
    · have h3 := kb_trans _ _ _ k2 k1; have h4 : cmpK x.p.key z.p.key < 0 := h; rw [ek_neg] at h4; have h5 : cmpK z.p.key x.p.key < 0 := h3; omega
    · have h3 : cmpK z.p.key x.p.key < 0 := kb_trans _ _ _ k2 k1; rw [e, ek_self] at h3; omega
    · rw [e2] at k1; rw [ek_neg] at h; omega
    · rw [e2, ← e, ek_self] at k1; omega
    · rw [← e1] at k2; rw [ek_neg] at h; omega
    · rw [← e1, e, ek_self] at k2; omega
    · rw [e1, e2, ek_self] at h; omega
    · omega
theorem extP_get! {l m : List Pw} (h : l.length = m.length) (hg : ∀ i, i < l.length → l[i]! = m[i]!) : l = m := by
  apply List.ext_getElem h
  intro i h1 h2
  have := hg i h1
  rwa [getElem!_pos l i h1, getElem!_pos m i h2] at this
theorem taP_get (l : List Pw) (i : Nat) : l.toArray[i]! = l[i]! := by simp
/-- Two are exchanged. -/
def lswpP (l : List Pw) (i j : Nat) : List Pw := (swp l.toArray i j).toList
theorem lswpP_arr (l : List Pw) (i j : Nat) : swp l.toArray i j = (lswpP l i j).toArray := by unfold lswpP; simp
theorem lswpP_len (l : List Pw) (i j : Nat) : (lswpP l i j).length = l.length := by unfold lswpP; rw [Array.length_toList, swp_size]; simp
theorem lswpP_get (l : List Pw) {i j : Nat} (hi : i < l.length) (hj : j < l.length) (k : Nat) : (lswpP l i j)[k]! = if k = j then l[i]! else if k = i then l[j]! else l[k]! := by
  have h := swp_get l.toArray (i := i) (j := j) (by simpa using hi) (by simpa using hj) k
  rw [lswpP_arr, taP_get, taP_get, taP_get, taP_get] at h; exact h
theorem getP!_left (l m : List Pw) (i : Nat) (h : i < l.length) : (l ++ m)[i]! = l[i]! := by
  rw [getElem!_pos (l ++ m) i (by rw [List.length_append]; omega), getElem!_pos l i h, List.getElem_append_left h]
theorem getP!_right (l m : List Pw) (i : Nat) (h1 : l.length ≤ i) (h2 : i < l.length + m.length) : (l ++ m)[i]! = m[i - l.length]! := by
  rw [getElem!_pos (l ++ m) i (by rw [List.length_append]; omega), getElem!_pos m (i - l.length) (by omega), List.getElem_append_right h1]
/-- Neighbours are exchanged. -/
theorem lswpP_adj (P Q : List Pw) (x y : Pw) : lswpP (P ++ x :: y :: Q) (P.length + 1) P.length = P ++ y :: x :: Q ∧ lswpP (P ++ x :: y :: Q) P.length (P.length + 1) = P ++ y :: x :: Q := by
  have hl : (P ++ x :: y :: Q).length = P.length + 2 + Q.length := by simp; omega
  have hx : (P ++ x :: y :: Q)[P.length]! = x := by rw [getP!_right _ _ _ (Nat.le_refl _) (by simp), Nat.sub_self]; rfl
  have hy : (P ++ x :: y :: Q)[P.length + 1]! = y := by rw [getP!_right _ _ _ (by omega) (by simp), show P.length + 1 - P.length = 1 by omega]; rfl
  have goal : ∀ k, k < (P ++ x :: y :: Q).length → (P ++ y :: x :: Q)[k]! = if k = P.length then y else if k = P.length + 1 then x else (P ++ x :: y :: Q)[k]! := fun k hk => by
    rcases Nat.lt_trichotomy k P.length with h | h | h
    · rw [if_neg (by omega), if_neg (by omega), getP!_left _ _ _ h, getP!_left _ _ _ h]
    · subst h; rw [if_pos rfl, getP!_right _ _ _ (Nat.le_refl _) (by simp), Nat.sub_self]; rfl
    · rw [if_neg (by omega), getP!_right P (y :: x :: Q) _ (by omega) (by simp at hk ⊢; omega), getP!_right P (x :: y :: Q) _ (by omega) (by simp at hk ⊢; omega)]
      rcases h2 : k - P.length with _ | _ | n
      · omega
      · rw [if_pos (by omega)]; rfl
      · rw [if_neg (by omega)]; rfl
  constructor
  · refine extP_get! (by rw [lswpP_len]; simp) fun k hk => ?_
    rw [lswpP_len] at hk
    rw [lswpP_get _ (by omega) (by omega), hx, hy, goal k hk]
  · refine extP_get! (by rw [lswpP_len]; simp) fun k hk => ?_
    rw [lswpP_len] at hk
    rw [lswpP_get _ (by omega) (by omega), hx, hy, goal k hk]
    by_cases h1 : k = P.length
    · rw [if_neg (by omega), if_pos h1, if_pos h1]
    · rw [if_neg h1, if_neg h1]
/-- The library's sort by insertions, as lists. -/
theorem innerP_list (P : List Pw) (x : Pw) : ∀ (n : Nat) (s Q : List Pw), s.length = n → insInner (ltOf pwCmp) P.length (P.length + n) (P ++ (s ++ x :: Q)).toArray = (P ++ (insB (ltOf pwCmp) x s ++ Q)).toArray := by
  intro n
  induction n with
  | zero =>
    intro s Q hs
    obtain rfl : s = [] := List.eq_nil_of_length_eq_zero hs
    rw [insInner_stop _ _ _ _ (.inl (by omega)), insB_nil]; rfl
  | succ n ih =>
    intro s Q hs
    rcases snoc_cases s with rfl | ⟨r, e, rfl⟩
    · simp at hs
    · have hr : r.length = n := by simpa using hs
      have e1 : P ++ (r ++ [e] ++ x :: Q) = (P ++ r) ++ e :: x :: Q := by simp
      have hj : (P ++ r).length = P.length + n := by simp [hr]
      have hx : ((P ++ r) ++ e :: x :: Q)[P.length + (n + 1)]! = x := by rw [getP!_right _ _ _ (by omega) (by simp; omega), show P.length + (n + 1) - (P ++ r).length = 1 by omega]; rfl
      have he : ((P ++ r) ++ e :: x :: Q)[P.length + n]! = e := by rw [getP!_right _ _ _ (by omega) (by simp; omega), show P.length + n - (P ++ r).length = 0 by omega]; rfl
      rw [e1, insB_snoc]
      by_cases h : ltOf pwCmp x e = true
      · rw [if_pos h, insInner_go _ _ _ _ (by omega) (by rw [taP_get, taP_get, hx, show P.length + (n + 1) - 1 = P.length + n by omega, he]; exact h), show P.length + (n + 1) - 1 = P.length + n by omega, lswpP_arr]
        have h2 := (lswpP_adj (P ++ r) Q e x).1
        rw [hj] at h2
        rw [show P.length + (n + 1) = P.length + n + 1 by omega, h2, show P ++ r ++ x :: e :: Q = P ++ (r ++ x :: (e :: Q)) by simp, ih r (e :: Q) hr]
        simp
      · rw [if_neg h, insInner_stop _ _ _ _ (.inr (by rw [taP_get, taP_get, hx, show P.length + (n + 1) - 1 = P.length + n by omega, he]; simpa using h))]
        try simp
theorem outerP_list (P Q : List Pw) : ∀ (n : Nat) (s t : List Pw), t.length = n → insOuter (ltOf pwCmp) P.length (P.length + s.length + n) (P.length + s.length) (P ++ (s ++ (t ++ Q))).toArray = (P ++ (smerge (ltOf pwCmp) s t ++ Q)).toArray := by
  intro n
  induction n with
  | zero =>
    intro s t ht
    obtain rfl : t = [] := List.eq_nil_of_length_eq_zero ht
    rw [insOuter_stop _ _ _ _ _ (by omega)]; rfl
  | succ n ih =>
    intro s t ht
    rcases t with _ | ⟨x, r⟩
    · simp at ht
    · have hr : r.length = n := by simpa using ht
      rw [insOuter_go _ _ _ _ _ (by omega), show s ++ (x :: r ++ Q) = s ++ x :: (r ++ Q) by simp, innerP_list P x s.length s (r ++ Q) rfl, sm_cons, ← ih (insB (ltOf pwCmp) x s) r hr, insB_len]
      rw [show P.length + s.length + (n + 1) = P.length + (s.length + 1) + n by omega, show P.length + s.length + 1 = P.length + (s.length + 1) by omega]
theorem insP_srt (l : List Pw) (a b : Nat) (hab : a ≤ b) (hb : b ≤ l.length) : insertionSort (ltOf pwCmp) l.toArray a b = (srt (ltOf pwCmp) l a b).toArray := by
  have hP : (l.take a).length = a := by rw [List.length_take]; omega
  have hc := cut3 l a b hab
  have hsl := seg_len l a b hb
  unfold srt isort insertionSort
  conv => lhs; rw [hc]
  rcases hs : seg l a b with _ | ⟨x, r⟩
  · rw [hs] at hsl; simp at hsl
    rw [insOuter_stop _ _ _ _ _ (by omega)]; rfl
  · rw [hs] at hsl
    have h := outerP_list (l.take a) (l.drop b) r.length [x] r rfl
    rw [hP] at h
    rw [show a + [x].length + r.length = b by simp at hsl ⊢; omega] at h
    rw [sm_cons, insB_nil]
    exact h
end Go.Proofs.YtbimfopbilcdgaaDoor
