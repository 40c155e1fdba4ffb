/-
  Layer files: slices.Insert of one file in the midst of the row: where there is room, and where there is none.
-/
import Derived.Test.YtjldamkmdkaiiaaGreatDoorIaK
import Derived.Test.YtjldamkmdkaiiaaGreatDoorTkK
set_option linter.unusedSimpArgs false
set_option linter.unusedVariables false
set_option maxRecDepth 8000
namespace Go.Proofs.YtjldamkmdkaiiaaGreatDoor
open Go.RowKit Go.WideShapes
theorem sz_file (w : World) : (Go.sizeOf 64).run Tryz.prog w = .ok 3 w := by kernel_rfl
theorem ov_run (w : World) (h f o lb cb : Nat) (c0 c1 c2 : Value) (cs : List Value) (hne : h ≠ f) (hrow : w.heap[h]? = some (.cells #[c0, c1, c2] 64 (0, 0))) (hf : w.heap[f]? = some (.cells cs.toArray 64 (0, 0))) (hcs : cs.length ≠ 0) :
  (callFunc 41 #[.slice (some ⟨h, 0, none⟩) 1 1, .slice (some ⟨f, o, none⟩) lb cb]).run Tryz.prog w = .ok (.value (.bool false)) w := by
 rw [run_callFunc_extern Tryz.func41 (by kernel_rfl) (by kernel_rfl) (by kernel_rfl) (e := Extern.SlicesOverlaps.overlaps #[56, 56] #[4]) (by kernel_rfl),
  Lib.run_overlaps_apart w 56 4 64 Tryz.underlying56 3 sz_file ⟨h, 0, none⟩ ⟨f, o, none⟩ 1 1 lb cb hne 64 64 3 cs.length (by simp [World.shape?, hrow]) (by simp [World.shape?, hf]) hcs (row_frozen hrow 0) (row_frozen hrow 3)]
 rfl
theorem mid_row (i k n : Nat) (xs ys cs : List Value) (hi : i < k) (hx : xs.length = k * 3) (hy : ys.length = 3) (hc : cs.take (k * 3) = xs) (hn : cs.length = n * 3) (hk : k + 1 ≤ n) :
  let c2 := cs.take ((i + 1) * 3) ++ xs.drop (i * 3) ++ cs.drop ((i + 1) * 3 + (xs.drop (i * 3)).length)
  let c3 := c2.take (i * 3) ++ ys ++ c2.drop (i * 3 + ys.length)
  c3.length = n * 3 ∧ c3.take ((k + 1) * 3) = xs.take (i * 3) ++ (ys ++ xs.drop (i * 3)) := by
 intro c2 c3
 have hd : (xs.drop (i * 3)).length = k * 3 - i * 3 := by rw [List.length_drop, hx]
 have e1 : c2.take (i * 3) = xs.take (i * 3) := by
  show (cs.take ((i + 1) * 3) ++ xs.drop (i * 3) ++ cs.drop ((i + 1) * 3 + (xs.drop (i * 3)).length)).take (i * 3) = _
  rw [List.append_assoc, List.take_append_of_le_length (by rw [List.length_take]; omega), List.take_take, ← hc, List.take_take, Nat.min_eq_left (by omega), Nat.min_eq_left (by omega)]
 have e2 : c2.drop (i * 3 + ys.length) = xs.drop (i * 3) ++ cs.drop ((i + 1) * 3 + (xs.drop (i * 3)).length) := by
  show (cs.take ((i + 1) * 3) ++ xs.drop (i * 3) ++ cs.drop ((i + 1) * 3 + (xs.drop (i * 3)).length)).drop (i * 3 + ys.length) = _
  have hl : (cs.take ((i + 1) * 3)).length = i * 3 + ys.length := by rw [List.length_take, hy]; omega
  rw [List.append_assoc, ← hl, List.drop_left]
 have e3 : c3 = (xs.take (i * 3) ++ (ys ++ xs.drop (i * 3))) ++ cs.drop ((i + 1) * 3 + (xs.drop (i * 3)).length) := by
  show c2.take (i * 3) ++ ys ++ c2.drop (i * 3 + ys.length) = _
  rw [e1, e2]; simp only [List.append_assoc]
 have hl : (xs.take (i * 3) ++ (ys ++ xs.drop (i * 3))).length = (k + 1) * 3 := by
  rw [List.length_append, List.length_append, List.length_take, hd, hx, hy]; omega
 refine ⟨?_, ?_⟩
 ·rw [e3, List.length_append, hl, List.length_drop, hd, hn]; omega
 ·rw [e3, ← hl, List.take_left]
theorem mid_new (i k G : Nat) (xs ys z : List Value) (hi : i < k) (hx : xs.length = k * 3) (hy : ys.length = 3) (hz : z.length = (G - i) * 3) (hk : k + 1 ≤ G) :
  let c1 := xs.take (i * 3) ++ z
  let c2 := c1.take (i * 3) ++ ys ++ c1.drop (i * 3 + ys.length)
  let c3 := c2.take ((i + 1) * 3) ++ xs.drop (i * 3) ++ c2.drop ((i + 1) * 3 + (xs.drop (i * 3)).length)
  c2.length = G * 3 ∧ c3.length = G * 3 ∧ c3.take ((k + 1) * 3) = xs.take (i * 3) ++ (ys ++ xs.drop (i * 3)) := by
 intro c1 c2 c3
 have hd : (xs.drop (i * 3)).length = k * 3 - i * 3 := by rw [List.length_drop, hx]
 have ht : (xs.take (i * 3)).length = i * 3 := by rw [List.length_take, hx]; omega
 have l1 : c1.length = G * 3 := by show (xs.take (i * 3) ++ z).length = _; rw [List.length_append, ht, hz]; omega
 have e1 : c1.take (i * 3) = xs.take (i * 3) := by
  show (xs.take (i * 3) ++ z).take (i * 3) = _
  exact List.take_left' ht
 have l2 : c2.length = G * 3 := by
  show (c1.take (i * 3) ++ ys ++ c1.drop (i * 3 + ys.length)).length = _
  rw [List.length_append, List.length_append, List.length_take, List.length_drop, l1, hy]; omega
 have e2 : c2.take ((i + 1) * 3) = xs.take (i * 3) ++ ys := by
  show (c1.take (i * 3) ++ ys ++ c1.drop (i * 3 + ys.length)).take ((i + 1) * 3) = _
  have hl : (xs.take (i * 3) ++ ys).length = (i + 1) * 3 := by rw [List.length_append, ht, hy]; omega
  rw [e1, ← hl, List.take_left]
 have e3 : c3 = (xs.take (i * 3) ++ (ys ++ xs.drop (i * 3))) ++ c2.drop ((i + 1) * 3 + (xs.drop (i * 3)).length) := by
  show c2.take ((i + 1) * 3) ++ xs.drop (i * 3) ++ c2.drop ((i + 1) * 3 + (xs.drop (i * 3)).length) = _
  rw [e2]; simp only [List.append_assoc]
 have hl : (xs.take (i * 3) ++ (ys ++ xs.drop (i * 3))).length = (k + 1) * 3 := by
  rw [List.length_append, List.length_append, ht, hd, hy]; omega
 refine ⟨l2, ?_, ?_⟩
 ·rw [e3, List.length_append, hl, List.length_drop, hd, l2]; omega
 ·rw [e3, ← hl, List.take_left]
theorem srow_size (w : World) (f : Nat) (row : Array Value) : (w.setRow f row).heap.size = w.heap.size := by unfold World.setRow; simp
theorem gb_setRow {w w' : World} {f : Nat} {row : Array Value} (h : w.grownBy w' (some f)) : w.grownBy (w'.setRow f row) (some f) :=
 ⟨h.os, h.tape, h.output, by unfold World.setRow; simpa using h.size, fun k hk hn => (setRow_other w' f k _ (fun e => hn (by rw [e]))).trans (h.block k hk hn)⟩
theorem gb_drew {w w' : World} {r : Option Nat} (h : w.grownBy w' r) : w.grownBy w'.drew r := ⟨h.os, h.tape, h.output, h.size, h.block⟩
theorem gb_refl (w : World) (r : Option Nat) : w.grownBy w r := ⟨rfl, rfl, rfl, Nat.le_refl _, fun _ _ _ => rfl⟩
set_option maxHeartbeats 4000000 in
theorem insert_room (B f k cap i h : Nat) (xs : List Value) (c0 c1 c2 : Value) (hi : i < k) (hk : k ≤ 100000) (hroom : Hid (k + 1 ≤ cap)) (hcap : Hid (cap ≤ maxLen)) (w : World) (hown : Hid (OwnXF w B (some ⟨f, 0, none⟩) k cap xs)) (hx1 : Hid (∀ u ∈ xs, u.oneCell' = true)) (h1 : Hid (∀ u ∈ [c0, c1, c2], u.oneCell' = true))
  (hc : Hid (w.heap[h]? = some (.cells #[c0, c1, c2] 64 (0, 0)))) (hne : Hid (h ≠ f)) :
  Calls Tryz.prog 26 #[.slice (some ⟨f, 0, none⟩) k cap, .int .i64 i, .slice (some ⟨h, 0, none⟩) 1 1] w (InsM w B f k i xs [c0, c1, c2]) := by
 obtain ⟨cs, RX⟩ := hown.out.row
 have HB0 := Lib.hid RX
 have HR : Hid (RowX w.drew B f k cap xs cs) := Lib.hid ⟨RX.row, RX.hlen, RX.hcap, RX.first, RX.base, RX.xlen, RX.le⟩
 have hr1 : k + 1 ≤ cap := hroom.out
 have HS0 := Lib.hid (sl_from f k cap i (by omega) (by omega))
 have HST := Lib.hid (sl_to1 f k cap k hr1)
 have HS1 := Lib.hid (sl_from1 f (k + 1) cap i (by omega) (by omega))
 have HS2 := Lib.hid (sl_from f (k + 1) cap i (by omega) (by omega))
 have hov := fun lb cb => ov_run w h f ((i + 1) * 3) lb cb c0 c1 c2 cs hne.out hc.out RX.row (by have := RX.hlen; omega)
 have HOV := Lib.hid hov
 have HL : Hid ((xs.drop (i * 3)).length = (k - i) * 3) := Lib.hid (by rw [List.length_drop, RX.xlen]; omega)
 have HA : Hid (∀ (j : Nat) (u : Value), (xs.drop (i * 3))[j]? = some u → w.drew.cell? ((⟨f, i * 3, none⟩ : Addr).add j) = some u) := Lib.hid fun j u hu => by rw [addr_add]; exact RX.cells _ j u hu
 have HFIT : Hid ((i + 1) * 3 + (xs.drop (i * 3)).length ≤ cs.length) := Lib.hid (by rw [HL.out, RX.hlen]; omega)
 have HD1 : Hid (∀ u ∈ xs.drop (i * 3), u.oneCell' = true) := Lib.hid fun u hu => hx1.out u (List.mem_of_mem_drop hu)
 have hne1 : ((i : Int) == (k : Int)) = false := by simp; omega
 have hgt : decide ((cap : Int) < (k : Int) + 1) = false := by simp; omega
 have hwi : IntKind.i64.wrap ((i : Int) + 1) = (i : Int) + 1 := IntWalk.i64_in _ (by omega)
 have hs0 := HS0.out
 have hst := HST.out
 have hs1 := HS1.out
 clear RX hown hov hr1
 have hov := HOV.out
 go_enter Tryz.func26, Tryz.ntmps26
 go_upto_region 15 with (simp only [hov])
 clear hs0 hst hs1 hov
 refine wp_region_held_drew (S := fun _ => True) (by kernel_rfl) trivial (fun hHeld => ?_)
 refine tkm 0 (.slice (some ⟨f, 0, none⟩) (k + 1) cap) rfl hHeld ?_
 try simp only [qz]
 refine tkm 1 (.int .i64 (i : Nat)) rfl hHeld ?_
 try simp only [qz]
 refine tkm 2 (.int .i64 1) rfl hHeld ?_
 try simp only [qz]
 refine tks 3 (.int .i64 ((i : Int) + 1)) rfl hHeld ?_
 try simp only [qz]
 refine tk 4 (.slice (some ⟨f, (i + 1) * 3, none⟩) (k + 1 - (i + 1)) (cap - (i + 1))) rfl (Or.inl ⟨by rfl, fun w _ => by have := HS1.out w; go_simp⟩) hHeld ?_
 try simp only [qz]
 refine tkm 5 (.slice (some ⟨f, 0, none⟩) (k + 1) cap) rfl hHeld ?_
 try simp only [qz]
 refine tkm 6 (.int .i64 (i : Nat)) rfl hHeld ?_
 try simp only [qz]
 refine tk 7 (.slice (some ⟨f, i * 3, none⟩) (k + 1 - i) (cap - i)) rfl (Or.inl ⟨by rfl, fun w _ => by have := HS2.out w; go_simp⟩) hHeld ?_
 try simp only [qz]
 refine rd1 8 rfl (fun K hK => ?_)
 rw [if_pos (by rfl)]
 refine wp_copy_x (.tmp 73) (.tmp 76) rfl f ((i + 1) * 3) (k + 1 - (i + 1)) (cap - (i + 1)) ⟨f, i * 3, none⟩ (k + 1 - i) (cap - i) (k - i) rfl rfl cs (xs.drop (i * 3)) HR.out.row (by simp only [Nat.min_def]; split <;> omega) HL.out HA.out HFIT.out HD1.out ?_
 intro w1 hw1
 have HW1 := Lib.hid hw1
 clear hw1
 refine hK.out _ _ trivial (fun hHeld => ?_)
 clear hK K
 refine wpAnyH_done (by kernel_rfl) ?_ _
 have hs2 := HS2.out
 have HM := mid_row i k cap xs [c0, c1, c2] cs hi HR.out.xlen rfl HR.out.first HR.out.hlen hroom.out
 have HM := Lib.hid HM
 obtain ⟨cu, hcu⟩ : ∃ cu, cu = cs.take ((i + 1) * 3) ++ xs.drop (i * 3) ++ cs.drop ((i + 1) * 3 + (xs.drop (i * 3)).length) := ⟨_, rfl⟩
 have HCU := Lib.hid hcu
 have HRW : Hid (w1.heap[f]? = some (.cells cu.toArray 64 (0, 0))) := Lib.hid (by rw [HW1.out, ← hcu]; exact setRow_heap _ _ _ _ _ _ HR.out.row)
 have HSRC : Hid (∀ (j : Nat) (v : Value), [c0, c1, c2][j]? = some v → w1.cell? ((⟨h, 0, none⟩ : Addr).add j) = some v) := Lib.hid fun j v hv => by
  have e : w1.heap[h]? = some (.cells #[c0, c1, c2] 64 (0, 0)) := by rw [HW1.out, setRow_other _ _ _ _ hne.out]; exact hc.out
  rw [addr_add, Nat.zero_add, cell_of_row _ _ _ _ _ _ e, ← hv]; simp
 have HF3 : Hid (i * 3 + [c0, c1, c2].length ≤ cu.length) := Lib.hid (by
  have h2 := HR.out.hlen; have h4 := hroom.out; have h5 := HR.out.xlen
  rw [hcu]; simp only [List.length_append, List.length_take, List.length_drop, h2, h5, List.length_cons, List.length_nil]; omega)
 clear hcu
 go_wp2_with (refine wpList_copy_x rfl (.tmp 80) (.tmp 81) rfl f (i * 3) (k + 1 - i) (cap - i) ⟨h, 0, none⟩ 1 1 1 rfl rfl cu [c0, c1, c2] HRW.out (by simp only [Nat.min_def]; split <;> omega) rfl HSRC.out HF3.out h1.out ?_; intro w2 hw2; have HW2 := Lib.hid hw2; clear hw2)
 go_ret
 have hm := HM.out
 rw [← HCU.out] at hm
 refine ⟨some ⟨f, 0, none⟩, cap, rfl, RowX.own (cs := cu.take (i * 3) ++ [c0, c1, c2] ++ cu.drop (i * 3 + [c0, c1, c2].length)) ⟨?_, hm.1, HR.out.hcap, hm.2, HR.out.base, ?_, hroom.out⟩, ?_, .inl rfl⟩
 ·rw [HW2.out]; exact setRow_heap _ _ _ _ _ _ HRW.out
 ·have h2 := HR.out.xlen; have h5 := HL.out
  rw [List.length_append, List.length_append, List.length_take, h5, h2]; simp; omega
 ·rw [HW2.out, HW1.out]; exact gb_setRow (gb_setRow (gb_drew (gb_refl _ _)))
set_option maxHeartbeats 4000000 in
theorem insert_full (B f k cap i h : Nat) (xs : List Value) (c0 c1 c2 : Value) (hi : i < k) (hk : k ≤ 100000) (hfull : Hid (cap < k + 1)) (w : World) (hB : Hid (B ≤ w.heap.size)) (hown : Hid (OwnXF w B (some ⟨f, 0, none⟩) k cap xs)) (hx1 : Hid (∀ u ∈ xs, u.oneCell' = true)) (h1 : Hid (∀ u ∈ [c0, c1, c2], u.oneCell' = true))
  (hc : Hid (w.heap[h]? = some (.cells #[c0, c1, c2] 64 (0, 0)))) (hne : Hid (h ≠ f)) :
  Calls Tryz.prog 26 #[.slice (some ⟨f, 0, none⟩) k cap, .int .i64 i, .slice (some ⟨h, 0, none⟩) 1 1] w (InsM w B f k i xs [c0, c1, c2]) := by
 obtain ⟨cs, RX⟩ := hown.out.row
 have HR := Lib.hid RX
 have hkc := RX.le
 have hfl := hfull.out
 have HS0 := Lib.hid (sl_from f k cap i (by omega) (by omega))
 have HST := Lib.hid (sl_to f k cap i (by omega))
 have HL : Hid ((xs.drop (i * 3)).length = (k - i) * 3) := Lib.hid (by rw [List.length_drop, RX.xlen]; omega)
 have HD1 : Hid (∀ u ∈ xs.drop (i * 3), u.oneCell' = true) := Lib.hid fun u hu => hx1.out u (List.mem_of_mem_drop hu)
 have hlf : f < w.heap.size := (Array.getElem?_eq_some_iff.1 RX.row).1
 have hlh : h < w.heap.size := (Array.getElem?_eq_some_iff.1 hc.out).1
 obtain ⟨G, z, hz, hG1, hG2, hz3⟩ := run_zeros_x w 56 f i cap (k + 1 - i) (xs.take (i * 3)) (by rw [List.length_take, RX.xlen]; omega) (fun j v hj => by
  have h2 := RX.cells 0 j v (by
   rw [List.getElem?_take] at hj
   split at hj
   ·simpa using hj
   ·cases hj)
  simpa using h2) (by omega) (by omega) (by omega)
 rw [show ((k + 1 - i : Nat) : Int) = (k : Int) + 1 - (i : Int) by omega, show i + (k + 1 - i) = k + 1 by omega] at hz
 rw [show i + (k + 1 - i) = k + 1 by omega] at hG1
 obtain ⟨N, hN⟩ : ∃ N, N = w.heap.size := ⟨_, rfl⟩
 have HN := Lib.hid hN
 obtain ⟨W1, hW1⟩ : ∃ W1, W1 = w.drew.alloc (.cells (xs.take (i * 3) ++ z).toArray 64) := ⟨_, rfl⟩
 have HW1 := Lib.hid hW1
 rw [← hN, ← hW1] at hz
 have HZ := Lib.hid hz
 have HS3 := Lib.hid (sl_from N (k + 1) G i (by omega) (by omega))
 have HS1 := Lib.hid (sl_from1 N (k + 1) G i (by omega) (by omega))
 have HS2 := Lib.hid (sl_from f k cap i (by omega) (by omega))
 have HM := Lib.hid (mid_new i k G xs [c0, c1, c2] z hi RX.xlen rfl hz3 hG1)
 have hne1 : ((i : Int) == (k : Int)) = false := by simp; omega
 have hgt : decide ((cap : Int) < (k : Int) + 1) = true := by simp; omega
 have hwi : IntKind.i64.wrap ((i : Int) + 1) = (i : Int) + 1 := IntWalk.i64_in _ (by omega)
 have HRW1 : Hid (W1.heap[N]? = some (.cells (xs.take (i * 3) ++ z).toArray 64 (0, 0))) := Lib.hid (by rw [hW1, hN]; exact heap_alloc_new' w.drew _)
 have hold : ∀ q, q < w.heap.size → W1.heap[q]? = w.heap[q]? := fun q hq => by rw [hW1]; exact heap_alloc_old w.drew _ hq
 have HOLD := Lib.hid hold
 have HSRC : Hid (∀ (j : Nat) (v : Value), [c0, c1, c2][j]? = some v → W1.cell? ((⟨h, 0, none⟩ : Addr).add j) = some v) := Lib.hid fun j v hv => by
  rw [addr_add, Nat.zero_add, cell_of_row _ _ _ _ _ _ ((hold h hlh).trans hc.out), ← hv]; simp
 have HF3 : Hid (i * 3 + [c0, c1, c2].length ≤ (xs.take (i * 3) ++ z).length) := Lib.hid (by
  simp only [List.length_append, List.length_take, RX.xlen, hz3, List.length_cons, List.length_nil]; omega)
 have HNF : Hid (N ≠ f ∧ N ≠ h) := Lib.hid ⟨by omega, by omega⟩
 have hs0 := HS0.out
 have hst := HST.out
 have hs3 := HS3.out
 clear RX hown hN hW1 hz hold hz3 hlf hlh
 go_enter Tryz.func26, Tryz.ntmps26
 go_upto_region 11 with (first
  | (at_builtin; refine Lib.wpList_append_run _ rfl (.tmp 34) (.tmp 39) _ _ rfl _ _ rfl rfl _ _ HZ.out ?_)
  | (refine wpList_copy_x rfl (.tmp 43) (.tmp 44) rfl N (i * 3) (k + 1 - i) (G - i) ⟨h, 0, none⟩ 1 1 1 rfl rfl (xs.take (i * 3) ++ z) [c0, c1, c2] HRW1.out (by simp only [Nat.min_def]; split <;> omega) rfl HSRC.out HF3.out h1.out ?_; intro w2 hw2; have HW2 := Lib.hid hw2; clear hw2))
 clear hs0 hst hs3
 obtain ⟨cu, hcu⟩ : ∃ cu, cu = (xs.take (i * 3) ++ z).take (i * 3) ++ [c0, c1, c2] ++ (xs.take (i * 3) ++ z).drop (i * 3 + [c0, c1, c2].length) := ⟨_, rfl⟩
 have hm := HM.out
 simp only [← hcu] at hm
 have HM2 := Lib.hid hm
 have HRW2 : Hid (w2.drew.heap[N]? = some (.cells cu.toArray 64 (0, 0))) := Lib.hid (by
  show w2.heap[N]? = _
  rw [HW2.out, ← hcu]; exact setRow_heap _ _ _ _ _ _ HRW1.out)
 have hfr : w2.drew.heap[f]? = some (.cells cs.toArray 64 (0, 0)) := by
  show w2.heap[f]? = _
  rw [HW2.out, setRow_other _ _ _ _ HNF.out.1.symm, HOLD.out f (Array.getElem?_eq_some_iff.1 HR.out.row).1]; exact HR.out.row
 have HA2 : Hid (∀ (j : Nat) (u : Value), (xs.drop (i * 3))[j]? = some u → w2.drew.cell? ((⟨f, i * 3, none⟩ : Addr).add j) = some u) := Lib.hid fun j u hu => by
  have RY : RowX w2.drew B f k cap xs cs := ⟨hfr, HR.out.hlen, HR.out.hcap, HR.out.first, HR.out.base, HR.out.xlen, HR.out.le⟩
  rw [addr_add]; exact RY.cells _ j u hu
 have HFIT2 : Hid ((i + 1) * 3 + (xs.drop (i * 3)).length ≤ cu.length) := Lib.hid (by rw [HL.out, hm.1]; omega)
 clear hcu hm hfr HM
 refine wp_region_held_drew (S := fun _ => True) (by kernel_rfl) trivial (fun hHeld => ?_)
 refine tkm 0 (.slice (some ⟨N, 0, none⟩) (k + 1) G) rfl hHeld ?_
 try simp only [qz]
 refine tkm 1 (.int .i64 (i : Nat)) rfl hHeld ?_
 try simp only [qz]
 refine tkm 2 (.int .i64 1) rfl hHeld ?_
 try simp only [qz]
 refine tks 3 (.int .i64 ((i : Int) + 1)) rfl hHeld ?_
 try simp only [qz]
 refine tk 4 (.slice (some ⟨N, (i + 1) * 3, none⟩) (k + 1 - (i + 1)) (G - (i + 1))) rfl (Or.inl ⟨by rfl, fun w _ => by have := HS1.out w; go_simp⟩) hHeld ?_
 try simp only [qz]
 refine tkm 5 (.slice (some ⟨f, 0, none⟩) k cap) rfl hHeld ?_
 try simp only [qz]
 refine tkm 6 (.int .i64 (i : Nat)) rfl hHeld ?_
 try simp only [qz]
 refine tk 7 (.slice (some ⟨f, i * 3, none⟩) (k - i) (cap - i)) rfl (Or.inl ⟨by rfl, fun w _ => by have := HS2.out w; go_simp⟩) hHeld ?_
 try simp only [qz]
 refine rd1 8 rfl (fun K hK => ?_)
 rw [if_pos (by rfl)]
 refine wp_copy_x (.tmp 50) (.tmp 53) rfl N ((i + 1) * 3) (k + 1 - (i + 1)) (G - (i + 1)) ⟨f, i * 3, none⟩ (k - i) (cap - i) (k - i) rfl rfl _ (xs.drop (i * 3)) HRW2.out (by simp only [Nat.min_def]; split <;> omega) HL.out HA2.out HFIT2.out HD1.out ?_
 intro w3 hw3
 have HW3 := Lib.hid hw3
 clear hw3
 refine hK.out _ _ trivial (fun hHeld => ?_)
 clear hK K
 refine wpAnyH_done (by kernel_rfl) ?_ _
 go_wp2
 go_ret
 refine ⟨some ⟨N, 0, none⟩, G, rfl, RowX.own (cs := cu.take ((i + 1) * 3) ++ xs.drop (i * 3) ++ cu.drop ((i + 1) * 3 + (xs.drop (i * 3)).length)) ⟨?_, HM2.out.2.1, hG2, HM2.out.2.2, ?_, ?_, hG1⟩, ?_, .inr (by rw [HN.out]; rfl)⟩
 ·rw [HW3.out]; exact setRow_heap _ _ _ _ _ _ HRW2.out
 ·have := hB.out; have := HN.out; omega
 ·have h2 := HR.out.xlen; have h5 := HL.out
  rw [List.length_append, List.length_append, List.length_take, h5, h2]; simp; omega
 ·rw [HW3.out, HW2.out, HW1.out]
  refine ⟨rfl, rfl, rfl, by rw [srow_size]; show _ ≤ ((w.drew.alloc _).setRow N _).heap.size; rw [srow_size]; simp, fun q hq _ => ?_⟩
  have e : q ≠ N := by have := HN.out; omega
  rw [setRow_other _ _ _ _ e]
  show ((w.drew.alloc _).setRow N _).heap[q]? = _
  rw [setRow_other _ _ _ _ e]; exact heap_alloc_old w.drew _ hq
end Go.Proofs.YtjldamkmdkaiiaaGreatDoor
