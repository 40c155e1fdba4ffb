/-
  Layer ledger: Len, All; the order of panes.
-/
import Derived.Test.YtkhldnihboklaaaNg
import Derived.Test.YtkhldnihboklaaaEb
set_option linter.unusedSimpArgs false
set_option linter.unusedVariables false
set_option maxRecDepth 8000
namespace Go.Proofs.Ytkhldnihboklaaa
open Go.RowKit Go.Sort

set_option maxHeartbeats 400000 in
theorem len_any {S : Nat → Prop} (g : Nat) (l : List Chg) (W : World) (hL : LedE S W g l) (hlen : l.length ≤ 1000) : Calls Try.prog 13 #[.pointer (some ⟨g, 0, none⟩)] W fun e w' => e = .returned (.int .i64 (l.length : Int)) ∧ w' = W := by
  obtain ⟨A, n, cap, mv, M, hL⟩ := hL
  have hc := cell_of_row W g 0 _ _ _ hL.row
  obtain rfl := hL.own.len
  clear hL
  go_enter Try.func13, Try.ntmps13
  go_wp2
  go_ret
  exact ⟨rfl, rfl⟩
set_option maxHeartbeats 400000 in
theorem len_nil (W : World) : Calls Try.prog 13 #[.pointer none] W fun e w' => e = .returned (.int .i64 0) ∧ w' = W := by
  go_enter Try.func13, Try.ntmps13
  go_wp2
  go_ret
  exact ⟨rfl, rfl⟩
set_option maxHeartbeats 400000 in
theorem all_any {S : Nat → Prop} (g : Nat) (l : List Chg) (W : World) (hL : LedE S W g l) (hlen : l.length ≤ 1000) : Calls Try.prog 12 #[.pointer (some ⟨g, 0, none⟩)] W (CloEnd W l.length l) := by
  obtain ⟨A, n, cap, mv, M, hL⟩ := hL
  have hc := cell_of_row W g 0 _ _ _ hL.row
  have hn := hL.own.len
  have HC := Lib.hid (chClone_any A n cap l hn (by omega) ⟨hL.nl, hL.nc, fun x hx => (by rcases ch_roaddr hL.own with h | ⟨g', h⟩ <;> rw [h] at hx <;> cases hx; exact ⟨_, _, rfl⟩), hL.cm⟩ W (Lib.hid hL.own.at'))
  obtain rfl := hn
  clear hL
  go_enter Try.func12, Try.ntmps12
  go_wp2_with (go_at_call 22; refine HC.out.mono ?_; rintro e w1 ⟨A1, cap1, rfl, ho1, hc1, hc2, hc3, hb1⟩; have HO1 := Lib.hid ho1; have HB1 := Lib.hid hb1; have HC3 := Lib.hid hc3; clear ho1 hb1 hc3)
  go_ret
  exact ⟨A1, cap1, rfl, HO1.out, hc1, hc2, HC3.out, HB1.out⟩
set_option maxHeartbeats 400000 in
theorem all_nil (W : World) : Calls Try.prog 12 #[.pointer none] W fun e w' => e = .returned (.slice none 0 0) ∧ w' = W := by
  go_enter Try.func12, Try.ntmps12
  go_wp2
  go_ret
  exact ⟨rfl, rfl⟩
set_option maxHeartbeats 400000 in
theorem add_nil (a : Option Addr) (n c : Nat) (W : World) : Calls Try.prog 10 #[.pointer none, .slice a n c] W fun e w' => e = .returned (.int .i64 5) ∧ w' = W := by
  go_enter Try.func10, Try.ntmps10
  go_wp2
  go_ret
  exact ⟨rfl, rfl⟩
/-- Which pane stands ahead. -/
def plCmp (x y : Pl) : Int := or3 (cmpK x.key y.key) (cmpI x.s y.s) (cmpI x.e y.e)
def pwCmp (x y : Pw) : Int := plCmp x.p y.p
/-- Two windows in two boxes. -/
structure Bw (g h : Nat) (sa ea sb eb : Int) (w : World) : Prop where
  rx : w.heap[g]? = some (.cells #[.int .i64 sa, .int .i64 ea] 31 (0, 0))
  ry : w.heap[h]? = some (.cells #[.int .i64 sb, .int .i64 eb] 31 (0, 0))
theorem Bw.cx {g h : Nat} {sa ea sb eb : Int} {w : World} (H : Bw g h sa ea sb eb w) (j : Nat) (v : Value) (hv : (#[.int .i64 sa, .int .i64 ea] : Array Value)[j]? = some v) : w.cell? ⟨g, j, none⟩ = some v := by
  rw [cell_of_row w g j _ _ _ H.rx]; exact hv
theorem Bw.cy {g h : Nat} {sa ea sb eb : Int} {w : World} (H : Bw g h sa ea sb eb w) (j : Nat) (v : Value) (hv : (#[.int .i64 sb, .int .i64 eb] : Array Value)[j]? = some v) : w.cell? ⟨h, j, none⟩ = some v := by
  rw [cell_of_row w h j _ _ _ H.ry]; exact hv
theorem Bw.alloc {g h : Nat} {sa ea sb eb : Int} {w : World} (H : Bw g h sa ea sb eb w) (o : Obj) : Bw g h sa ea sb eb (w.alloc o) := ⟨row_alloc' H.rx o, row_alloc' H.ry o⟩
theorem Bw.start (w : World) (sa ea sb eb : Int) : Bw w.heap.size (w.heap.size + 1) sa ea sb eb ((w.alloc (.cells #[.int .i64 sa, .int .i64 ea] 31)).alloc (.cells #[.int .i64 sb, .int .i64 eb] 31)).drew :=
  ⟨row_alloc' (heap_new' _ _ _ rfl) _, heap_new' _ _ _ (by simp)⟩
set_option maxHeartbeats 2000000 in
theorem order_any (ka : ByteArray) (sa ea : Int) (kb : ByteArray) (sb eb : Int) (w : World) : Calls Try.prog 25 #[.string ka, .agg #[.int .i64 sa, .int .i64 ea], .string kb, .agg #[.int .i64 sb, .int .i64 eb]] w fun e w' => e = .returned (.int .i64 (or3 (cmpK ka kb) (cmpI sa sb) (cmpI ea eb))) ∧ Grew w w' := by
  have h1 := fun w => strCompare_any ka kb w
  have h2 := fun w => cmpInt_any sa sb w
  have h3 := fun w => cmpInt_any ea eb w
  have hr : or3 (cmpK ka kb) (cmpI sa sb) (cmpI ea eb) = or3 (cmpK ka kb) (cmpI sa sb) (cmpI ea eb) := rfl
  generalize hro : or3 (cmpK ka kb) (cmpI sa sb) (cmpI ea eb) = r at *
  generalize cmpK ka kb = c1 at *
  generalize cmpI sa sb = c2 at *
  generalize cmpI ea eb = c3 at *
  have HR := Lib.hid hro
  have H1 := Lib.hid h1
  have H2 := Lib.hid h2
  have H3 := Lib.hid h3
  clear h1 h2 h3 hr hro
  have HS := Lib.hid (Bw.start w sa ea sb eb)
  have HW : Hid (∀ o, Grew w (((w.alloc (.cells #[.int .i64 sa, .int .i64 ea] 31)).alloc (.cells #[.int .i64 sb, .int .i64 eb] 31)).drew.alloc o)) := Lib.hid fun o => (((Grew.refl w).alloc _).alloc _).drew.alloc o
  go_enter Try.func25, Try.ntmps25
  go_wp2
  have hS := HS.out
  clear HS
  generalize World.alloc (World.alloc w _) _ = wz at *
  generalize w.heap.size + 1 = h at *
  generalize w.heap.size = g at *
  refine wp_region_held_drew (S := Bw g h sa ea sb eb) (by kernel_rfl) hS (fun hHeld => ?_)
  refine wpAnyH_take (i := 0) (v := .string ka) rfl (by kernel_rfl) (by kernel_rfl) (by kernel_rfl) (fun _ _ _ h => h) (Or.inl ⟨by rfl, fun _ _ => rfl⟩) hHeld ?_
  try dsimp only
  try simp only [Act.put, List.getElem_toArray, List.getElem_cons_zero, List.getElem_cons_succ, List.setIfInBounds_toArray, List.set_cons_zero, List.set_cons_succ]
  refine wpAnyH_take (i := 1) (v := .string kb) rfl (by kernel_rfl) (by kernel_rfl) (by kernel_rfl) (fun _ _ _ h => h) (Or.inl ⟨by rfl, fun _ _ => rfl⟩) hHeld ?_
  try dsimp only
  try simp only [Act.put, List.getElem_toArray, List.getElem_cons_zero, List.getElem_cons_succ, List.setIfInBounds_toArray, List.set_cons_zero, List.set_cons_succ]
  refine wpAnyH_take (i := 3) (v := .pointer (some ⟨g, 0, none⟩)) rfl (by kernel_rfl) (by kernel_rfl) (by kernel_rfl) (fun _ _ _ h => h) (Or.inl ⟨by rfl, fun w _ => by go_simp⟩) hHeld ?_
  try dsimp only
  try simp only [Act.put, List.getElem_toArray, List.getElem_cons_zero, List.getElem_cons_succ, List.setIfInBounds_toArray, List.set_cons_zero, List.set_cons_succ]
  refine wpAnyH_take (i := 4) (v := .int .i64 sa) rfl (by kernel_rfl) (by kernel_rfl) (by kernel_rfl) (fun _ _ _ h => h) (Or.inl ⟨by rfl, fun w hw => by have hc : w.cell? ⟨g, 0, none⟩ = some (.int .i64 sa) := hw.cx 0 _ rfl; go_simp⟩) hHeld ?_
  try dsimp only
  try simp only [Act.put, List.getElem_toArray, List.getElem_cons_zero, List.getElem_cons_succ, List.setIfInBounds_toArray, List.set_cons_zero, List.set_cons_succ]
  refine wpAnyH_take (i := 5) (v := .pointer (some ⟨h, 0, none⟩)) rfl (by kernel_rfl) (by kernel_rfl) (by kernel_rfl) (fun _ _ _ h => h) (Or.inl ⟨by rfl, fun w _ => by go_simp⟩) hHeld ?_
  try dsimp only
  try simp only [Act.put, List.getElem_toArray, List.getElem_cons_zero, List.getElem_cons_succ, List.setIfInBounds_toArray, List.set_cons_zero, List.set_cons_succ]
  refine wpAnyH_take (i := 6) (v := .int .i64 sb) rfl (by kernel_rfl) (by kernel_rfl) (by kernel_rfl) (fun _ _ _ h => h) (Or.inl ⟨by rfl, fun w hw => by have hc : w.cell? ⟨h, 0, none⟩ = some (.int .i64 sb) := hw.cy 0 _ rfl; go_simp⟩) hHeld ?_
  try dsimp only
  try simp only [Act.put, List.getElem_toArray, List.getElem_cons_zero, List.getElem_cons_succ, List.setIfInBounds_toArray, List.set_cons_zero, List.set_cons_succ]
  refine wpAnyH_take (i := 8) (v := .pointer (some ⟨g, 1, none⟩)) rfl (by kernel_rfl) (by kernel_rfl) (by kernel_rfl) (fun _ _ _ h => h) (Or.inl ⟨by rfl, fun w _ => by go_simp⟩) hHeld ?_
  try dsimp only
  try simp only [Act.put, List.getElem_toArray, List.getElem_cons_zero, List.getElem_cons_succ, List.setIfInBounds_toArray, List.set_cons_zero, List.set_cons_succ]
  refine wpAnyH_take (i := 9) (v := .int .i64 ea) rfl (by kernel_rfl) (by kernel_rfl) (by kernel_rfl) (fun _ _ _ h => h) (Or.inl ⟨by rfl, fun w hw => by have hc : w.cell? ⟨g, 1, none⟩ = some (.int .i64 ea) := hw.cx 1 _ rfl; go_simp⟩) hHeld ?_
  try dsimp only
  try simp only [Act.put, List.getElem_toArray, List.getElem_cons_zero, List.getElem_cons_succ, List.setIfInBounds_toArray, List.set_cons_zero, List.set_cons_succ]
  refine wpAnyH_take (i := 10) (v := .pointer (some ⟨h, 1, none⟩)) rfl (by kernel_rfl) (by kernel_rfl) (by kernel_rfl) (fun _ _ _ h => h) (Or.inl ⟨by rfl, fun w _ => by go_simp⟩) hHeld ?_
  try dsimp only
  try simp only [Act.put, List.getElem_toArray, List.getElem_cons_zero, List.getElem_cons_succ, List.setIfInBounds_toArray, List.set_cons_zero, List.set_cons_succ]
  refine wpAnyH_take (i := 11) (v := .int .i64 eb) rfl (by kernel_rfl) (by kernel_rfl) (by kernel_rfl) (fun _ _ _ h => h) (Or.inl ⟨by rfl, fun w hw => by have hc : w.cell? ⟨h, 1, none⟩ = some (.int .i64 eb) := hw.cy 1 _ rfl; go_simp⟩) hHeld ?_
  try dsimp only
  try simp only [Act.put, List.getElem_toArray, List.getElem_cons_zero, List.getElem_cons_succ, List.setIfInBounds_toArray, List.set_cons_zero, List.set_cons_succ]
  refine wpAnyH_ready (rs := [2]) (by kernel_rfl) (by simp) (AllReadyH.cons rfl (fun K hK => ?_) AllReadyH.nil)
  go_simp
  refine (H1.out _).mono ?_
  rintro e w' ⟨rfl, rfl⟩
  refine hK.out _ _ hHeld (fun hHeld => ?_)
  clear hK K
  try dsimp only
  try simp only [Act.put, List.getElem_toArray, List.getElem_cons_zero, List.getElem_cons_succ, List.setIfInBounds_toArray, List.set_cons_zero, List.set_cons_succ]
  refine wpAnyH_ready (rs := [7]) (by kernel_rfl) (by simp) (AllReadyH.cons rfl (fun K hK => ?_) AllReadyH.nil)
  go_simp
  refine (H2.out _).mono ?_
  rintro e w' ⟨rfl, rfl⟩
  refine hK.out _ _ hHeld (fun hHeld => ?_)
  clear hK K
  try dsimp only
  try simp only [Act.put, List.getElem_toArray, List.getElem_cons_zero, List.getElem_cons_succ, List.setIfInBounds_toArray, List.set_cons_zero, List.set_cons_succ]
  refine wpAnyH_ready (rs := [12]) (by kernel_rfl) (by simp) (AllReadyH.cons rfl (fun K hK => ?_) AllReadyH.nil)
  go_simp
  refine (H3.out _).mono ?_
  rintro e w' ⟨rfl, rfl⟩
  refine hK.out _ _ hHeld (fun hHeld => ?_)
  clear hK K
  try dsimp only
  try simp only [Act.put, List.getElem_toArray, List.getElem_cons_zero, List.getElem_cons_succ, List.setIfInBounds_toArray, List.set_cons_zero, List.set_cons_succ]
  refine wpAnyH_ready (rs := [13]) (by kernel_rfl) (by simp) (AllReadyH.cons rfl (fun K hK => ?_) AllReadyH.nil)
  go_simp
  refine hK.out _ _ (hHeld.alloc _) (fun hHeld => ?_)
  clear hK K
  try dsimp only
  try simp only [Act.put, List.getElem_toArray, List.getElem_cons_zero, List.getElem_cons_succ, List.setIfInBounds_toArray, List.set_cons_zero, List.set_cons_succ]
  refine wpAnyH_ready (rs := [14]) (by kernel_rfl) (by simp) (AllReadyH.cons rfl (fun K hK => ?_) AllReadyH.nil)
  go_simp
  refine (or_any _ c1 c2 c3 r HR.out _ (by simp [World.cell?_alloc_new]) (by simp [World.cell?_alloc_new]) (by simp [World.cell?_alloc_new])).mono ?_
  rintro e w' ⟨rfl, rfl⟩
  refine hK.out _ _ hHeld (fun hHeld => ?_)
  clear hK K
  try dsimp only
  try simp only [Act.put, List.getElem_toArray, List.getElem_cons_zero, List.getElem_cons_succ, List.setIfInBounds_toArray, List.set_cons_zero, List.set_cons_succ]
  refine wpAnyH_ready (rs := [15]) (by kernel_rfl) (by simp) (AllReadyH.cons rfl (fun K hK => ?_) AllReadyH.nil)
  go_simp
  refine hK.out _ _ hHeld (fun hHeld => ?_)
  clear hK K
  refine wpAnyH_done (by kernel_rfl) ?_ _
  go_wp2
  go_ret
  exact ⟨rfl, HW.out _⟩
set_option maxHeartbeats 2000000 in
theorem viewCmp_any (x y : Pw) (w : World) : Calls Try.prog 24 #[.agg #[.string x.p.key, .int .i64 x.p.s, .int .i64 x.p.e, .int .u64 (x.t.c : Int), .float .f64 x.t.s, .bool x.t.o, .float .f64 x.t.lo, .float .f64 x.t.hi], .agg #[.string y.p.key, .int .i64 y.p.s, .int .i64 y.p.e, .int .u64 (y.t.c : Int), .float .f64 y.t.s, .bool y.t.o, .float .f64 y.t.lo, .float .f64 y.t.hi]] w fun e w' => e = .returned (.int .i64 (pwCmp x y)) ∧ Grew w w' := by
  have H := Lib.hid fun w => order_any x.p.key x.p.s x.p.e y.p.key y.p.s y.p.e w
  have HR : Hid (or3 (cmpK x.p.key y.p.key) (cmpI x.p.s y.p.s) (cmpI x.p.e y.p.e) = pwCmp x y) := Lib.hid rfl
  generalize pwCmp x y = r at *
  have HW : Hid (Grew w ((w.alloc (.cells #[.string x.p.key, .int .i64 x.p.s, .int .i64 x.p.e, .int .u64 (x.t.c : Int), .float .f64 x.t.s, .bool x.t.o, .float .f64 x.t.lo, .float .f64 x.t.hi] 36)).alloc (.cells #[.string y.p.key, .int .i64 y.p.s, .int .i64 y.p.e, .int .u64 (y.t.c : Int), .float .f64 y.t.s, .bool y.t.o, .float .f64 y.t.lo, .float .f64 y.t.hi] 36))) := Lib.hid (((Grew.refl w).alloc _).alloc _)
  go_enter Try.func24, Try.ntmps24
  go_wp2_with (go_at_call 25; with_reducible refine (H.out _).mono ?_; rintro e w' ⟨rfl, hg⟩; have HG := Lib.hid hg; clear hg)
  go_ret
  exact ⟨ret_eq (congrArg _ HR.out), HW.out.trans HG.out⟩
end Go.Proofs.Ytkhldnihboklaaa
