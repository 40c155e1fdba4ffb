/-
  Layer files: slices.Insert of one file in the midst of the row.
-/
import Derived.Test.YtjldamkmdkaiiaaGreatDoorHbK
import Derived.Laws.OwnMore
import Derived.Laws.CopyRow
import Derived.Lib.Overlaps
import Derived.Lib.AppendZerosOnto
import Derived.Laws.NewBlocks
import Derived.Test.YtjldamkmdkaiiaaGreatDoorHcK
import Derived.Test.YtjldamkmdkaiiaaGreatDoorTkK
set_option linter.unusedSimpArgs false
set_option linter.unusedVariables false
set_option maxRecDepth 8000
namespace Go.Proofs.YtjldamkmdkaiiaaGreatDoor
open Go.RowKit Go.WideShapes
theorem own_nil (w : World) (B : Nat) : OwnXF w B none 0 0 [] := w.ownsRow_nil B _ 3
structure SF (W : Bs) (g : Nat) (room : Int) (off : Bool) (armed ops : Int) (f cap : Nat) (r : List Value) (w : World) : Prop where
 z : S0 W g room off armed ops w
 fb : W.heap.size ≤ f
 ne : g ≠ f
 fl : w.heap[f]? = some (.cells (flC none 0 0 0 ++ r).toArray 64 (0, 0))
 fc : r.length + 3 = cap * 3 ∧ cap ≤ maxLen
theorem SF.cg {W : Bs} {g f cap : Nat} {room armed ops : Int} {off : Bool} {r : List Value} {w : World} (h : SF W g room off armed ops f cap r w) : w.cell? ⟨g, 1, none⟩ = some (.slice none 0 0) := h.z.g1
theorem SF.kg {W : Bs} {g f cap : Nat} {room armed ops : Int} {off : Bool} {r : List Value} {w : World} (h : SF W g room off armed ops f cap r w) : w.frozen? ⟨g, 1, none⟩ = false := h.z.gf 1
theorem SF.done {W : Bs} {g f cap : Nat} {room armed ops : Int} {off : Bool} {r : List Value} {w : World} (h : SF W g room off armed ops f cap r w) : S1F W g room off armed ops f cap r none 0 [] 0 (w.setCell ⟨g, 1, none⟩ (.slice (some ⟨f, 0, none⟩) 1 cap)) :=
 ⟨gb_set h.z.below (.inl rfl) (isT_st h.z.st) _ _, h.fb, h.ne, row_set h.z.st 1 _, row_far h.ne h.fl, h.fc, OwnS.nil _ _, by simp, by simp⟩
theorem ByAt.grown {w w' : World} {p : Option Addr} {m : List Nat} {row : Option Nat} (h : ByAt w p m) (hg : w.grownBy w' row) (hr : row = none) : ByAt w' p m := fun k x hx => by
 obtain ⟨h1, b, off, h2, h3, h4⟩ := h k x hx
 exact ⟨h1, b, off, h2, Nat.lt_of_lt_of_le h3 hg.size, hg.cell h4 (by rw [hr]; exact fun e => by cases e)⟩
theorem ByAt.put {W : Bs} {g f cap : Nat} {room armed ops : Int} {off : Bool} {r : List Value} {w : World} {p : Option Addr} {m : List Nat} {v : Value} (h : ByAt w p m) (hs : SF W g room off armed ops f cap r w) : ByAt (w.setCell ⟨g, 1, none⟩ v) p m := fun k x hx => by
 obtain ⟨h1, b, off, h2, h3, h4⟩ := h k x hx
 refine ⟨h1, b, off, h2, by rw [setCell_size]; exact h3, ?_⟩
 by_cases e : b = g
 ·subst e
  rw [cell_of_row w b (off + k) _ _ _ hs.z.st] at h4
  exfalso
  rcases hj : off + k with _ | _ | _ | _ | _ | j
  all_goals (rw [hj] at h4; simp [stC] at h4)
 ·rw [World.cell?_setCell_other _ _ _ _ (fun e' => e (congrArg Addr.block e').symm)]
  exact h4
section
variable {W : Bs} {g f fcap cap : Nat} {room armed ops : Int} {off : Bool} {r : List Value} {A : Option Addr} {l : List Nat}
end
/-! A nil store -/
set_option maxHeartbeats 400000 in
theorem nil_refuses (s : Value) (w : World) : Calls Tryz.prog 24 #[.pointer none, s] w fun e w' => e = .returned (.int .i64 5) ∧ w = w' := by
 go_enter Tryz.func24, Tryz.ntmps24
 go_wp2
 go_ret
 exact ⟨rfl, rfl⟩
set_option maxHeartbeats 400000 in
theorem nil_place (s : ByteArray) (w : World) : Calls Tryz.prog 50 #[.pointer none, .string s] w fun e w' => e = .returned (.tuple #[.int .i64 0, .int .i64 5]) ∧ Below w.heap.size w w' := by
 go_enter Tryz.func50, Tryz.ntmps50
 go_wp2_with (go_at_call 24; refine (nil_refuses _ _).mono ?_; rintro x w1 ⟨rfl, rfl⟩)
 go_ret2
 exact ⟨rfl, (Below.refl w.heap.size w).alloc (Nat.le_refl _) _⟩
set_option maxHeartbeats 1000000 in
theorem nil_append (s : ByteArray) (p : Option Addr) (n c : Nat) (w : World) : Calls Tryz.prog 12 #[.pointer none, .string s, .slice p n c] w fun e w' => e = .returned (.int .i64 5) ∧ Below w.heap.size w w' := by
 go_enter Tryz.func12, Tryz.ntmps12
 go_wp2_with (first | (go_at_call 24; refine (nil_refuses _ _).mono ?_; rintro x w1 ⟨rfl, rfl⟩) | (go_at_call 50; refine (nil_place _ _).mono ?_; rintro x w1 ⟨rfl, hb⟩; have HB := Lib.hid hb; clear hb))
 go_ret
 exact ⟨rfl, (Below.refl w.heap.size w).alloc (Nat.le_refl _) _⟩
def flZ : List Value := [.string { data := #[] }, .slice none 0 0, .int .i64 0]
structure RowX (w : World) (B f k cap : Nat) (xs cs : List Value) : Prop where
 row : w.heap[f]? = some (.cells cs.toArray 64 (0, 0))
 hlen : cs.length = cap * 3
 hcap : cap ≤ maxLen
 first : cs.take (k * 3) = xs
 base : B ≤ f
 xlen : xs.length = k * 3
 le : k ≤ cap
theorem OwnXF.row {w : World} {B f k cap : Nat} {xs : List Value} (h : OwnXF w B (some ⟨f, 0, none⟩) k cap xs) : ∃ cs, RowX w B f k cap xs cs := by
 rcases h.2 with ⟨h1, h2⟩ | ⟨g, cap', cur, h1, hb, hrow, hkc, hc, hs, ht⟩
 ·cases h1
 ·cases h1
  exact ⟨cur.toList, by simpa using hrow, by rw [Array.length_toList, hs], hc, ht, hb, h.1, hkc⟩
theorem RowX.own {w : World} {B f k cap : Nat} {xs cs : List Value} (h : RowX w B f k cap xs cs) : OwnXF w B (some ⟨f, 0, none⟩) k cap xs :=
 ⟨h.xlen, .inr ⟨f, cap, cs.toArray, rfl, h.base, h.row, h.le, h.hcap, by simpa using h.hlen, by simpa using h.first⟩⟩
theorem RowX.cut {w : World} {B f k cap : Nat} {xs cs : List Value} (h : RowX w B f k cap xs cs) (i : Nat) (hi : i ≤ k) : RowX w B f i cap (xs.take (i * 3)) cs :=
 ⟨h.row, h.hlen, h.hcap, by rw [← h.first, List.take_take, Nat.min_eq_left (by omega)], h.base, by rw [List.length_take, h.xlen]; omega, by have := h.le; omega⟩
theorem RowX.cells {w : World} {B f k cap : Nat} {xs cs : List Value} (h : RowX w B f k cap xs cs) (i : Nat) (j : Nat) (u : Value) (hu : (xs.drop i)[j]? = some u) : w.cell? ⟨f, i + j, none⟩ = some u := by
 rw [cell_of_row w f _ cs.toArray _ (0, 0) h.row]
 rw [List.getElem?_drop] at hu
 have hl := (List.getElem?_eq_some_iff.1 hu).1
 rw [← h.first, List.getElem?_take] at hu
 rw [h.xlen] at hl
 rw [if_pos hl] at hu
 simpa using hu
theorem slice3_run (f k cap i : Nat) (hi : i < k) (hk : k ≤ cap) : ∃ R, ∀ w, (Instr.slice 56 (.slice (some ⟨f, 0, none⟩) k cap) (some (.int .i64 (i : Int))) (some (.int .i64 ((i : Int) + 1))) (some (.int .i64 (k : Int)))).run Tryz.prog w = .ok R w := by
 refine ⟨sliced (some ⟨f, 0, none⟩) i (i + 1) k 3, fun w => ?_⟩
 rw [run_slice_lhm w 56 (some ⟨f, 0, none⟩) k cap Tryz.underlying56 .i64 .i64 .i64 (i : Int) ((i : Int) + 1) (k : Int) (by omega) (by omega) (by omega) (by omega)]
 rw [show (Go.sizeOf (Tryz.prog.elem 56)).run Tryz.prog w = .ok 3 w from by kernel_rfl]
 simp [Result.andThen, sliced, show ((i : Int) + 1).toNat = i + 1 by omega]
theorem sliceTo_run (f k cap i : Nat) (hi : i ≤ k) (hk : k ≤ cap) : ∀ w, (Instr.slice 56 (.slice (some ⟨f, 0, none⟩) k cap) none (some (.int .i64 (i : Int))) none).run Tryz.prog w = .ok (.slice (some ⟨f, 0, none⟩) i cap) w := fun w => by
 rw [run_slice_h w 56 (some ⟨f, 0, none⟩) k cap Tryz.underlying56 .i64 (i : Int) (by omega) (by omega)]
 rw [show (Go.sizeOf (Tryz.prog.elem 56)).run Tryz.prog w = .ok 3 w from by kernel_rfl]
 simp [Result.andThen, sliced, Addr.add]
theorem sliceFrom_run (f k cap i : Nat) (hi : i < k) (hk : k ≤ cap) : ∃ a, (∀ w, (Instr.slice 56 (.slice (some ⟨f, 0, none⟩) k cap) (some (.int .i64 ((i : Int) + 1))) none none).run Tryz.prog w = .ok (.slice (some a) (k - (i + 1)) (cap - (i + 1))) w) ∧ (i + 1 < k → a = ⟨f, (i + 1) * 3, none⟩) := by
 refine ⟨if cap = i + 1 then ⟨f, 0, none⟩ else ⟨f, (i + 1) * 3, none⟩, fun w => ?_, fun h => by rw [if_neg (by omega)]⟩
 rw [run_slice_l w 56 (some ⟨f, 0, none⟩) k cap Tryz.underlying56 .i64 ((i : Int) + 1) (by omega) (by omega)]
 rw [show (Go.sizeOf (Tryz.prog.elem 56)).run Tryz.prog w = .ok 3 w from by kernel_rfl]
 simp only [Result.andThen, sliced, show ((i : Int) + 1).toNat = i + 1 by omega]
 split <;> simp [addr_add]
theorem sliceTail_run (f k K cap : Nat) (hk : k < cap) (hK : K = k + 1) : ∀ w, (Instr.slice 56 (.slice (some ⟨f, 0, none⟩) k cap) (some (.int .i64 (k : Int))) (some (.int .i64 (K : Int))) none).run Tryz.prog w = .ok (.slice (some ⟨f, k * 3, none⟩) 1 (cap - k)) w := fun w => by
 subst hK
 rw [run_slice_lh w 56 (some ⟨f, 0, none⟩) k cap Tryz.underlying56 .i64 .i64 (k : Int) ((k + 1 : Nat) : Int) (by omega) (by omega) (by omega)]
 rw [show (Go.sizeOf (Tryz.prog.elem 56)).run Tryz.prog w = .ok 3 w from by kernel_rfl]
 simp only [Result.andThen, sliced, Int.toNat_natCast]
 rw [if_neg (by omega)]
 simp [addr_add]
theorem wp_append_xf {o : Oper} {a : Act} {w : World} {K : Act → World → Prop} {Q : Exit → Act → World → Prop} (s x : Operand)
  (ho : o.op = .call { callee := .builtin .append, args := #[s, x], argTypes := #[56, 56] })
  (B f k cap : Nat) (xs : List Value) (hs : a.eval s = .slice (some ⟨f, 0, none⟩) k cap) (hown : OwnXF w B (some ⟨f, 0, none⟩) k cap xs) (ad : Addr) (m c : Nat) (ys : List Value) (hx : a.eval x = .slice (some ad) m c) (hl : ys.length = m * 3) (h2 : ∀ j u, ys[j]? = some u → w.cell? (ad.add j) = some u) (h1 : ∀ u ∈ ys, u.oneCell' = true)
  (hroom : k + m ≤ cap) (J : Nat) (hJ : k + m = J)
  (h : ∀ w', OwnXF w' B (some ⟨f, 0, none⟩) J cap (xs ++ ys) → w.grownBy w' (some f) → K (a.put o.dst (.slice (some ⟨f, 0, none⟩) J cap)) w') : o.wp Tryz.prog a w K Q := by
 obtain ⟨i0, hi, hz0, hz1, hz2⟩ := info_parts infoFile
 subst hJ
 obtain ⟨w', hr, h3, h4⟩ := run_append_fits (P := Tryz.prog) w B 56 o.type 64 i0 3 Tryz.underlying56 hi hz1 f k cap xs hown ad m c ys hl h2 h1 hroom
 unfold Oper.wp execOp
 simp only [ho, resolve, invoke, builtin, Sem.run_bind, Sem.run_pure, Result.andThen_ok, List.map_toArray, List.map_cons, List.map_nil, hs, hx, hr]
 exact h w' h3 h4
theorem run_clear_x {w : World} {f n : Nat} {cs : List Value} (hrow : w.heap[f]? = some (.cells cs.toArray 64 (0, 0))) (hn : n * 3 + 3 ≤ cs.length) (c : Nat) (ty : TypeId) :
  ∃ w', (Builtin.clear_ #[56] ty #[.slice (some ⟨f, n * 3, none⟩) 1 c]).run Tryz.prog w = .ok (.tuple #[]) w' ∧ w' = w.setRow f (cs.take (n * 3) ++ flZ ++ cs.drop (n * 3 + 3)).toArray := by
 have hz : ∀ w, (zeroValue 64).run Tryz.prog w = .ok (.agg flZ.toArray) w := fun w => by kernel_rfl
 have hst := run_storeCells_at (P := Tryz.prog) f (n * 3) 64 flZ 0 cs.toArray w hrow (by simpa [flZ] using hn) (fun v hv => by
  simp only [flZ, List.mem_cons, List.not_mem_nil, or_false] at hv
  rcases hv with rfl | rfl | rfl <;> rfl)
 have hzc : (Builtin.zeroCells (Value.agg flZ.toArray).cells 1).toList = flZ := by kernel_rfl
 refine ⟨_, ?_, rfl⟩
 simp [Builtin.clear_, run_underlying Tryz.underlying56, hz, hzc, hst]
 rfl
theorem row_cleared {w w2 w3 : World} {B f J cap : Nat} {zs cs : List Value} (R : RowX w2 B f J cap zs cs) (hJ : J < cap) (h : w3 = w2.setRow f (cs.take (J * 3) ++ flZ ++ cs.drop (J * 3 + 3)).toArray) (hg : w.grownBy w2 (some f)) :
  OwnXF w3 B (some ⟨f, 0, none⟩) J cap zs ∧ w.grownBy w3 (some f) := by
 subst h
 have hl := R.hlen
 refine ⟨RowX.own (cs := cs.take (J * 3) ++ flZ ++ cs.drop (J * 3 + 3)) ⟨setRow_heap _ _ _ _ _ _ R.row, ?_, R.hcap, ?_, R.base, R.xlen, R.le⟩, ⟨hg.os, hg.tape, hg.output, ?_, fun k hk hn => ?_⟩⟩
 ·simp [flZ]; omega
 ·rw [List.append_assoc, List.take_append_of_le_length (by rw [List.length_take]; omega), List.take_take, Nat.min_self]; exact R.first
 ·have : (w2.setRow f (cs.take (J * 3) ++ flZ ++ cs.drop (J * 3 + 3)).toArray).heap.size = w2.heap.size := by unfold World.setRow; simp
  rw [this]; exact hg.size
 ·rw [← hg.block k hk hn]
  have hne : f ≠ k := fun e => hn (by rw [e])
  exact setRow_other w2 f k _ hne.symm
set_option maxHeartbeats 4000000 in
theorem del_any (B f k J cap i m : Nat) (hk : Hid (k = J + 1)) (hi : i < k) (hm : Hid (m = k - (i + 1))) (hb : k ≤ 100000) (hbc : Hid (k ≤ cap)) (xs : List Value) (w : World) (hown : Hid (OwnXF w B (some ⟨f, 0, none⟩) k cap xs)) (h1 : Hid (∀ u ∈ xs, u.oneCell' = true)) :
  Calls Tryz.prog 51 #[.slice (some ⟨f, 0, none⟩) k cap, .int .i64 i, .int .i64 ((i : Int) + 1)] w fun e w' => e = .returned (.slice (some ⟨f, 0, none⟩) J cap) ∧ OwnXF w' B (some ⟨f, 0, none⟩) J cap (xs.take (i * 3) ++ xs.drop ((i + 1) * 3)) ∧ w.grownBy w' (some f) := by
 obtain ⟨R1, hR1⟩ := slice3_run f k cap i hi hbc.out
 have HT := Lib.hid (sliceTo_run f k cap i (by omega) hbc.out)
 obtain ⟨ad, hF, had⟩ := sliceFrom_run f k cap i hi hbc.out
 rw [← hm.out] at hF
 have HF := Lib.hid hF
 obtain ⟨cs, RX⟩ := hown.out.row
 have HC : Hid (RowX w.drew B f i cap (xs.take (i * 3)) cs) := Lib.hid (by have h := RX.cut i (by omega); exact ⟨h.row, h.hlen, h.hcap, h.first, h.base, h.xlen, h.le⟩)
 have HL : Hid ((xs.drop ((i + 1) * 3)).length = m * 3) := Lib.hid (by rw [List.length_drop, RX.xlen, hm.out]; omega)
 have HA : Hid (∀ (j : Nat) (u : Value), (xs.drop ((i + 1) * 3))[j]? = some u → w.drew.cell? (ad.add j) = some u) := Lib.hid fun j u hu => by
  have hlt := (List.getElem?_eq_some_iff.1 hu).1
  rw [HL.out] at hlt
  have := hm.out
  rw [had (by omega), addr_add]
  exact RX.cells _ j u hu
 have H1 : Hid (∀ u ∈ xs.drop ((i + 1) * 3), u.oneCell' = true) := Lib.hid fun u hu => h1.out u (List.mem_of_mem_drop hu)
 have HR : Hid (i + m ≤ cap) := Lib.hid (by have := hm.out; have := hbc.out; omega)
 have HJ : Hid (i + m = J) := Lib.hid (by have := hm.out; have := hk.out; omega)
 have HTL := Lib.hid (sliceTail_run f J k cap (by have := hk.out; have := hbc.out; omega) hk.out)
 have HJC : Hid (J < cap) := Lib.hid (by have := hk.out; have := hbc.out; omega)
 have hne : ((i : Int) == (i : Int) + 1) = false := by simp; omega
 clear hF had RX hown h1
 go_enter Tryz.func51, Tryz.ntmps51
 go_upto_region 5 with fail
 refine wp_region_held_drew (S := fun _ => True) (by kernel_rfl) trivial (fun hHeld => ?_)
 refine tkm 0 (.slice (some ⟨f, 0, none⟩) k cap) rfl hHeld ?_
 try simp only [qz]
 refine tkm 1 (.int .i64 (i : Nat)) rfl hHeld ?_
 try simp only [qz]
 refine tk 2 (.slice (some ⟨f, 0, none⟩) i cap) rfl (Or.inl ⟨by rfl, fun w _ => by have := HT.out w; go_simp⟩) hHeld ?_
 try simp only [qz]
 refine tkm 3 (.slice (some ⟨f, 0, none⟩) k cap) rfl hHeld ?_
 try simp only [qz]
 refine tkm 4 (.int .i64 ((i : Int) + 1)) rfl hHeld ?_
 try simp only [qz]
 refine tk 5 (.slice (some ad) m (cap - (i + 1))) rfl (Or.inl ⟨by rfl, fun w _ => by have := HF.out w; go_simp⟩) hHeld ?_
 try simp only [qz]
 refine rd1 6 rfl (fun K hK => ?_)
 rw [if_pos (by rfl)]
 refine wp_append_xf (.tmp 22) (.tmp 25) rfl B f i cap (xs.take (i * 3)) rfl HC.out.own ad m (cap - (i + 1)) (xs.drop ((i + 1) * 3)) rfl HL.out HA.out H1.out HR.out J HJ.out ?_
 intro w2 own2 hg2
 have HO := Lib.hid own2
 have HG := Lib.hid hg2
 clear own2 hg2
 refine hK.out _ _ trivial (fun hHeld => ?_)
 clear hK K
 try simp only [qz]
 refine rd1 7 rfl (fun K hK => ?_)
 go_simp
 refine hK.out _ _ trivial (fun hHeld => ?_)
 clear hK K
 refine wpAnyH_done (by kernel_rfl) ?_ _
 obtain ⟨cs2, R2⟩ := HO.out.row
 have HR2 := Lib.hid R2
 obtain ⟨w3, hclr, hw3⟩ := run_clear_x (n := J) R2.row (by have := R2.hlen; have := HJC.out; omega) (cap - J) 0
 have HW3 := Lib.hid hw3
 have htl := HTL.out
 clear R2 hw3
 go_wp2
 go_ret
 obtain ⟨o3, g3⟩ := row_cleared HR2.out HJC.out HW3.out HG.out
 exact ⟨rfl, o3, ⟨g3.os, g3.tape, g3.output, g3.size, g3.block⟩⟩
theorem sz_files (w : World) : (Go.sizeOf (Tryz.prog.elem 56)).run Tryz.prog w = .ok 3 w := by kernel_rfl
theorem sl_from (f k cap i : Nat) (hi : i < cap) (hik : i ≤ k) : ∀ w, (Instr.slice 56 (.slice (some ⟨f, 0, none⟩) k cap) (some (.int .i64 (i : Int))) none none).run Tryz.prog w = .ok (.slice (some ⟨f, i * 3, none⟩) (k - i) (cap - i)) w := fun w => by
 rw [run_slice_l w 56 (some ⟨f, 0, none⟩) k cap Tryz.underlying56 .i64 (i : Int) (by omega) (by omega), sz_files]
 simp only [Result.andThen, sliced, Int.toNat_natCast]
 rw [if_neg (by omega)]
 simp [addr_add]
theorem sl_from1 (f k cap i : Nat) (hi : i + 1 < cap) (hik : i + 1 ≤ k) : ∀ w, (Instr.slice 56 (.slice (some ⟨f, 0, none⟩) k cap) (some (.int .i64 ((i : Int) + 1))) none none).run Tryz.prog w = .ok (.slice (some ⟨f, (i + 1) * 3, none⟩) (k - (i + 1)) (cap - (i + 1))) w := fun w => by
 have h := sl_from f k cap (i + 1) hi hik w
 rw [show ((i + 1 : Nat) : Int) = (i : Int) + 1 by omega] at h
 exact h
theorem sl_to (f k cap i : Nat) (hi : i ≤ cap) : ∀ w, (Instr.slice 56 (.slice (some ⟨f, 0, none⟩) k cap) none (some (.int .i64 (i : Int))) none).run Tryz.prog w = .ok (.slice (some ⟨f, 0, none⟩) i cap) w := fun w => by
 rw [run_slice_h w 56 (some ⟨f, 0, none⟩) k cap Tryz.underlying56 .i64 (i : Int) (by omega) (by omega), sz_files]
 simp [Result.andThen, sliced, Addr.add]
theorem sl_to1 (f k cap i : Nat) (hi : i + 1 ≤ cap) : ∀ w, (Instr.slice 56 (.slice (some ⟨f, 0, none⟩) k cap) none (some (.int .i64 ((i : Int) + 1))) none).run Tryz.prog w = .ok (.slice (some ⟨f, 0, none⟩) (i + 1) cap) w := fun w => by
 have h := sl_to f k cap (i + 1) hi w
 rw [show ((i + 1 : Nat) : Int) = (i : Int) + 1 by omega] at h
 exact h
theorem run_copy_x (w : World) (ty : TypeId) (g o dLen dCap : Nat) (ad : Addr) (sLen sCap k : Nat) (cur cs : List Value) (hg : w.heap[g]? = some (.cells cur.toArray 64 (0, 0))) (hk : k = Nat.min sLen dLen) (hn : cs.length = k * 3)
  (hsrc : ∀ j v, cs[j]? = some v → w.cell? (ad.add j) = some v) (hfit : o + cs.length ≤ cur.length) (h1 : ∀ v ∈ cs, v.oneCell' = true) :
  (Builtin.copy_ #[56, 56] ty #[.slice (some ⟨g, o, none⟩) dLen dCap, .slice (some ad) sLen sCap]).run Tryz.prog w = .ok (goInt k) (w.setRow g (cur.take o ++ cs ++ cur.drop (o + cs.length)).toArray) := by
 obtain ⟨i0, hi, hz0, hz1, hz2⟩ := info_parts infoFile
 have hl := run_firstCells_some (P := Tryz.prog) w 3 k ad sLen sCap cs hn hsrc
 have hst := run_storeCells_at Tryz.prog g o 64 cs 0 cur.toArray w hg (by simpa using hfit) h1
 simp only [Nat.add_zero] at hst
 simp [Builtin.copy_, run_underlying Tryz.underlying56, Builtin.lenOf, sizeOf, typeInfo, hi, hz1, ← hk, hl, hst]
theorem wp_copy_x {o : Oper} {a : Act} {w : World} {K : Act → World → Prop} {Q : Exit → Act → World → Prop} (d s : Operand) (ho : o.op = .call { callee := .builtin .copy, args := #[d, s], argTypes := #[56, 56] })
  (g of dLen dCap : Nat) (ad : Addr) (sLen sCap k : Nat) (hd : a.eval d = .slice (some ⟨g, of, none⟩) dLen dCap) (hs : a.eval s = .slice (some ad) sLen sCap) (cur cs : List Value) (hg : w.heap[g]? = some (.cells cur.toArray 64 (0, 0))) (hk : k = Nat.min sLen dLen) (hn : cs.length = k * 3)
  (hsrc : ∀ j v, cs[j]? = some v → w.cell? (ad.add j) = some v) (hfit : of + cs.length ≤ cur.length) (h1 : ∀ v ∈ cs, v.oneCell' = true)
  (h : ∀ w', w' = w.setRow g (cur.take of ++ cs ++ cur.drop (of + cs.length)).toArray → K (a.put o.dst (goInt k)) w') : o.wp Tryz.prog a w K Q := by
 have hr := run_copy_x w o.type g of dLen dCap ad sLen sCap k cur cs hg hk hn hsrc hfit h1
 unfold Oper.wp execOp
 simp only [ho, resolve, invoke, builtin, Sem.run_bind, Sem.run_pure, Result.andThen_ok, List.map_toArray, List.map_cons, List.map_nil, hd, hs, hr]
 exact h _ rfl
theorem wpList_copy_x {w : World} {ops : Array Oper} {rest : List Oper} {o : Oper} {a : Act} {Q : Exit → Act → World → Prop} (hgd : o.guard = none) (d s : Operand) (ho : o.op = .call { callee := .builtin .copy, args := #[d, s], argTypes := #[56, 56] })
  (g of dLen dCap : Nat) (ad : Addr) (sLen sCap k : Nat) (hd : a.eval d = .slice (some ⟨g, of, none⟩) dLen dCap) (hs : a.eval s = .slice (some ad) sLen sCap) (cur cs : List Value) (hg : w.heap[g]? = some (.cells cur.toArray 64 (0, 0))) (hk : k = Nat.min sLen dLen) (hn : cs.length = k * 3)
  (hsrc : ∀ j v, cs[j]? = some v → w.cell? (ad.add j) = some v) (hfit : of + cs.length ≤ cur.length) (h1 : ∀ v ∈ cs, v.oneCell' = true)
  (h : ∀ w', w' = w.setRow g (cur.take of ++ cs ++ cur.drop (of + cs.length)).toArray → wpList Tryz.prog ops Q rest (a.put o.dst (goInt k)) w') : wpList Tryz.prog ops Q (o :: rest) a w :=
 wpList_plain hgd fun K hK => wp_copy_x d s ho g of dLen dCap ad sLen sCap k hd hs cur cs hg hk hn hsrc hfit h1 fun w' hw' => hK _ _ (h w' hw')
theorem run_zeros_x (w : World) (ty : TypeId) (f i cap k : Nat) (olds : List Value) (hlo : olds.length = i * 3) (hold : ∀ j v, olds[j]? = some v → w.cell? ⟨f, j, none⟩ = some v) (h0 : 0 < k) (hg : cap < i + k) (hb : i + k ≤ 1000000) :
  ∃ G z, (Builtin.append_ #[56, 3] ty #[.slice (some ⟨f, 0, none⟩) i cap, .int .i64 (k : Int)]).run Tryz.prog w = .ok (.slice (some ⟨w.heap.size, 0, none⟩) (i + k) G) (w.drew.alloc (.cells (olds ++ z).toArray 64)) ∧ i + k ≤ G ∧ G ≤ maxLen ∧ z.length = (G - i) * 3 := by
 obtain ⟨i0, hi, hz0, hz1, hz2⟩ := info_parts infoFile
 have hold' := run_firstCells_some (P := Tryz.prog) w.drew 3 i ⟨f, 0, none⟩ i cap olds hlo (fun j v hj => by rw [addr_add, Nat.zero_add]; exact hold j v hj)
 have h := Lib.run_append_grow_zeros w 56 3 ty 64 i0 _ .i64 .i64 Tryz.underlying56 Tryz.underlying3 hi hz0 (some ⟨f, 0, none⟩) i cap olds (by rw [hz1]; exact hold') k h0 (by omega) hg (by omega) (by rw [hz2]; omega) (by rw [hz2]; exact growslice_fits hg (by omega))
 have hge := grownCap_ge w (i + k) cap 64
 refine ⟨grownCap w (i + k) cap 64, (Builtin.zeroCells (Value.agg #[Value.string ByteArray.empty, .slice none 0 0, .int .i64 0]).cells k).toList ++ (Builtin.zeroCells (Value.agg #[Value.string ByteArray.empty, .slice none 0 0, .int .i64 0]).cells (grownCap w (i + k) cap 64 - (i + k))).toList, by rw [h]; congr 3; apply Array.toList_inj.1; simp, hge, grownCap_le_maxLen w (i + k) cap _ (by unfold maxLen; omega), ?_⟩
 ·rw [List.length_append, Array.length_toList, Array.length_toList, size_zeroCells, size_zeroCells]
  have : (Value.agg #[Value.string ByteArray.empty, .slice none 0 0, .int .i64 0]).cells.size = 3 := rfl
  rw [this]; omega
def InsM (w : World) (B f k i : Nat) (xs ys : List Value) (e : Ending) (w' : World) : Prop :=
 ∃ F' cap', e = .returned (.slice F' (k + 1) cap') ∧ OwnXF w' B F' (k + 1) cap' (xs.take (i * 3) ++ (ys ++ xs.drop (i * 3))) ∧ w.grownBy w' (some f) ∧ (F'.map (·.block) = some f ∨ F'.map (·.block) = some w.heap.size)
theorem one3N (t : ByteArray) : ∀ u ∈ [Value.string t, .slice none 0 0, .int .i64 0], u.oneCell' = true := fun u hu => by
 simp only [List.mem_cons, List.not_mem_nil, or_false] at hu
 rcases hu with rfl | rfl | rfl <;> rfl
theorem new_cellsN (t : ByteArray) (w : World) (ty : TypeId) (j : Nat) (u : Value) (h : [Value.string t, .slice none 0 0, .int .i64 0][j]? = some u) : (w.alloc (.cells #[.string t, .slice none 0 0, .int .i64 0] ty)).cell? ((⟨w.heap.size, 0, none⟩ : Addr).add j) = some u := by
 rw [addr_add, Nat.zero_add, cell_of_row _ _ _ _ _ _ (heap_alloc_new' w _), ← h]; simp
structure EN (W : Bs) (g : Nat) (room : Int) (off : Bool) (armed ops : Int) (f fcap : Nat) (r : List Value) (xs : List Fil) (fo no co : Nat) (w : World) : Prop where
 below : W.grownBy w (some g)
 fbase : W.heap.size ≤ f
 ne : g ≠ f
 st : w.heap[g]? = some (.cells (stC room (some ⟨fo, 0, none⟩) no co off armed ops).toArray 58 (0, 0))
 fl : w.heap[f]? = some (.cells (flat xs ++ r).toArray 64 (0, 0))
 fc : r.length + xs.length * 3 = fcap * 3 ∧ fcap ≤ maxLen
 own : ∀ (k : Nat) (x : Fil), xs[k]? = some x → OwnS w W.heap.size x.A x.l.length x.cap x.l
 sg : ∀ (k : Nat) (x : Fil), xs[k]? = some x → x.A.map (·.block) ≠ some g
 sf : ∀ (k : Nat) (x : Fil), xs[k]? = some x → x.A.map (·.block) ≠ some f
 ap : ∀ (j k : Nat) (x y : Fil), j ≠ k → xs[j]? = some x → xs[k]? = some y → ∀ b, x.A.map (·.block) = some b → y.A.map (·.block) ≠ some b
def emptyF (t : ByteArray) : Fil := ⟨t, none, 0, [], 0⟩
section
variable {W : Bs} {g f fcap : Nat} {room armed ops : Int} {off : Bool} {r : List Value} {xs : List Fil} {w w' : World}
theorem SN.ownX (h : SN W g room off armed ops f fcap r xs w) : OwnXF w W.heap.size (some ⟨f, 0, none⟩) xs.length fcap (flat xs) :=
 ⟨flat_len xs, .inr ⟨f, fcap, (flat xs ++ r).toArray, rfl, h.fbase, h.fl, by have := h.fc.1; omega, h.fc.2, by have h1 := flat_len xs; have := h.fc.1; simp [h1]; omega, by simp [← flat_len xs]⟩⟩
theorem EN.cg {fo no co : Nat} (h : EN W g room off armed ops f fcap r xs fo no co w) : w.cell? ⟨g, 1, none⟩ = some (.slice (some ⟨fo, 0, none⟩) no co) := row_cells h.st 1 _ rfl
theorem EN.kg {fo no co : Nat} (h : EN W g room off armed ops f fcap r xs fo no co w) : w.frozen? ⟨g, 1, none⟩ = false := row_frozen h.st 1
theorem EN.done {fo no co : Nat} (h : EN W g room off armed ops f fcap r xs fo no co w) : SN W g room off armed ops f fcap r xs (w.setCell ⟨g, 1, none⟩ (.slice (some ⟨f, 0, none⟩) xs.length fcap)) :=
 ⟨gb_set h.below (.inl rfl) (isT_st h.st) _ _, h.fbase, h.ne, row_set h.st 1 _, row_far h.ne h.fl, h.fc, fun k x hx => own_far (h.own k x hx) (h.sg k x hx), h.sg, h.sf, h.ap⟩
theorem ByAt.putG {p : Option Addr} {m : List Nat} {v : Value} {F : Option Addr} {n c : Nat} (h : ByAt w p m) (hs : w.heap[g]? = some (.cells (stC room F n c off armed ops).toArray 58 (0, 0))) : ByAt (w.setCell ⟨g, 1, none⟩ v) p m := fun k x hx => by
 obtain ⟨h1, b, off, h2, h3, h4⟩ := h k x hx
 refine ⟨h1, b, off, h2, by rw [setCell_size]; exact h3, ?_⟩
 by_cases e : b = g
 ·subst e
  rw [cell_of_row w b (off + k) _ _ _ hs] at h4
  exfalso
  rcases hj : off + k with _ | _ | _ | _ | _ | j
  all_goals (rw [hj] at h4; simp [stC] at h4)
 ·rw [World.cell?_setCell_other _ _ _ _ (fun e' => e (congrArg Addr.block e').symm)]
  exact h4
end
theorem flat_erase (xs : List Fil) (k : Nat) (hk : k < xs.length) : (flat xs).take (k * 3) ++ (flat xs).drop ((k + 1) * 3) = flat (xs.eraseIdx k) := by
  induction xs generalizing k with
  | nil => simp at hk
  | cons x r ih =>
    have h3 : (flC3 x).length = 3 := rfl
    rcases k with _ | k
    · simp [flat, List.drop_append, h3, flC3]
    · rw [flat, List.eraseIdx_cons_succ, flat, List.take_append, List.drop_append, h3, List.take_of_length_le (by rw [h3]; omega), List.drop_eq_nil_of_le (by rw [h3]; omega), List.nil_append, List.append_assoc, show (k + 1) * 3 - 3 = k * 3 by omega, show (k + 1 + 1) * 3 - 3 = (k + 1) * 3 by omega, ih k (by simpa using hk)]
theorem flat_one (xs : List Fil) : ∀ u ∈ flat xs, u.oneCell' = true := by
  induction xs with
  | nil => intro u hu; cases hu
  | cons x r ih =>
    intro u hu
    rw [flat, List.mem_append] at hu
    rcases hu with hu | hu
    · simp only [flC3, List.mem_cons, List.not_mem_nil, or_false] at hu
      rcases hu with rfl | rfl | rfl <;> rfl
    · exact ih u hu
theorem erase_from {xs : List Fil} {k j : Nat} {z : Fil} (h : (xs.eraseIdx k)[j]? = some z) : xs[if j < k then j else j + 1]? = some z := by
  rw [List.getElem?_eraseIdx] at h
  split at h <;> rename_i hj
  · rw [if_pos hj]; exact h
  · rw [if_neg hj]; exact h
section
variable {W : Bs} {g f fcap : Nat} {room armed ops : Int} {off : Bool} {r : List Value} {xs : List Fil} {w w' : World}
theorem SN.erased (h : SN W g room off armed ops f fcap r xs w) (k J : Nat) (hk : k < xs.length) (hJ : J + 1 = xs.length) (hox : OwnXF w' W.heap.size (some ⟨f, 0, none⟩) J fcap ((flat xs).take (k * 3) ++ (flat xs).drop ((k + 1) * 3))) (hg : w.grownBy w' (some f)) :
    ∃ r', SN W g room off armed ops f fcap r' (xs.eraseIdx k) (w'.setCell ⟨g, 1, none⟩ (.slice (some ⟨f, 0, none⟩) J fcap)) := by
  have hgl := (Array.getElem?_eq_some_iff.1 h.st).1
  have e1 := (hg.block g hgl (fun e => h.ne (by injection e))).trans h.st
  have hlen : (xs.eraseIdx k).length = J := by rw [List.length_eraseIdx_of_lt hk]; omega
  rw [flat_erase xs k hk] at hox
  rcases hox.2 with ⟨h1, h2⟩ | ⟨f', cap', cur, h1, hb, hrow, -, hc, hs, ht⟩
  · cases h1
  · cases h1
    have h4 : cur.toList.length = fcap * 3 := by simpa using hs
    have h3 := congrArg List.length ht
    rw [List.length_take, flat_len, hlen, h4] at h3
    have hst : w'.heap[g]? = some (.cells (stC room (some ⟨f, 0, none⟩) xs.length fcap off armed ops).toArray 58 (0, 0)) := e1
    refine ⟨cur.toList.drop (J * 3), gb_set (gb_grown h.below hg (fun b hb => by simp at hb; have := h.fbase; omega) (fun b hb => by simp at hb; rw [← hb]; exact isT_fl h.fl)) (.inl rfl) (isT_st hst) _ _, h.fbase, h.ne, by rw [hlen]; exact row_set hst 1 _, row_far h.ne ?_, ⟨by rw [List.length_drop, hlen, h4]; omega, hc⟩, fun j z hz => own_far (own_grown (h.own _ z (erase_from hz)) hg (fun b hb e => h.sf _ z (erase_from hz) (by rw [hb]; exact e.symm))) (h.sg _ z (erase_from hz)), fun j z hz => h.sg _ z (erase_from hz), fun j z hz => h.sf _ z (erase_from hz), fun i j y z hij hy hz => h.ap _ _ y z (by split <;> split <;> omega) (erase_from hy) (erase_from hz)⟩
    rw [hrow]
    have e : cur = (flat (xs.eraseIdx k) ++ cur.toList.drop (J * 3)).toArray := by rw [← ht, List.take_append_drop]
    rw [← e]
set_option maxHeartbeats 4000000 in
theorem delete_yes {t : ByteArray} {lo : Nat} {x : Fil} {armed' : Int} (hn : xs.length ≤ 1000) (w : World) (hs : Hid (SN W g room false armed ops f fcap r xs w)) (ht : Hid (There xs t lo x)) (ho : Hid (Op1 armed 0 armed' false)) (h : Hid (0 ≤ ops ∧ ops < 1000000000)) (ha : Hid (armed < 1000000000)) :
    Calls Tryz.prog 36 #[.pointer (some ⟨g, 0, none⟩), .string t] w fun e w' => e = .returned (.int .i64 0) ∧ ∃ r', SN W g room false armed' (ops + 1) f fcap r' (xs.eraseIdx lo) w' := by
  have hlo := ht.out.lt
  obtain ⟨J, hJ⟩ : ∃ J, J + 1 = xs.length := ⟨xs.length - 1, by omega⟩
  have HJ := Lib.hid hJ
  clear hJ
  go_enter Tryz.func36, Tryz.ntmps36
  go_wp2_with (first
    | (go_at_call 50; refine (place_yes hn _ hs ht).mono ?_; rintro z w1 ⟨rfl, hb⟩; have HS1 := Lib.hid (hs.out.next hb); clear hb)
    | (go_at_call 28; refine (operate_N _ HS1.out ho.out h.out ha.out).mono ?_; rintro z w2 ⟨rfl, h2⟩; have HS := Lib.hid h2; have cg := h2.g1; clear h2)
    | (go_at_call 51
       refine (del_any W.heap.size f xs.length J fcap lo (xs.length - (lo + 1)) (Lib.hid HJ.out.symm) hlo (Lib.hid rfl) (by omega) (Lib.hid (by have := HS.out.fc.1; omega)) (flat xs) _ (Lib.hid HS.out.ownX) (Lib.hid (flat_one xs))).mono ?_
       rintro z w3 ⟨rfl, hox, hg⟩
       obtain ⟨r', hst⟩ := HS.out.erased lo J hlo HJ.out hox hg
       have HST := Lib.hid hst
       have hrow := (hg.block g (Array.getElem?_eq_some_iff.1 HS.out.st).1 (fun e => HS.out.ne (by injection e))).trans HS.out.st
       have cg3 := row_cells hrow 1 _ rfl
       have kg3 := row_frozen hrow 1
       clear hrow hox hg hst))
  go_ret
  exact ⟨rfl, r', HST.out⟩
end
end Go.Proofs.YtjldamkmdkaiiaaGreatDoor
