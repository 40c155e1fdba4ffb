/-
  Layer merge: Next.
-/
import Derived.Laws.CopyOwn
import Derived.StillTailTactics
import Derived.Deep.WholeRow
import Derived.Test.YtjldamkmdkaiiaaGreatDoorMgK
import Derived.Test.YtjldamkmdkaiiaaGreatDoorTkK
set_option linter.unusedSimpArgs false
set_option linter.unusedVariables false
set_option maxRecDepth 8000
namespace Go.Proofs.YtjldamkmdkaiiaaGreatDoor
open Go.RowKit Go.Sort
theorem ecut_one (a : Option Addr) (len cap : Nat) (hk : 1 ≤ len) (hc : len ≤ cap) (hnil : a = none → cap = 0) :
  ∃ A, (∀ w, (Instr.slice 22 (.slice a len cap) (some (.int .i64 1)) none none).run Tryz.prog w = .ok (.slice A (len - 1) (cap - 1)) w) ∧ (A = none → cap - 1 = 0) ∧ (∀ w l, len = l.length → EvAt w a l → EvAt w A (l.drop 1)) ∧ ∀ b, A = some b → ∃ d, a = some d ∧ b.block = d.block := by
 refine ⟨if cap = 1 then a else a.map (·.add (1 * 5)), fun w => ?_, fun h => ?_, fun w l hl h j x hx => ?_, fun b hb => ?_⟩
 ·rw [run_slice_l w 22 a len cap Tryz.underlying22 .i64 1 (by omega) (by omega)]
  rw [show (Go.sizeOf (Tryz.prog.elem 22)).run Tryz.prog w = .ok 5 w from by kernel_rfl]
  simp [Result.andThen, sliced]
 ·split at h
  ·omega
  ·rcases a with _ | a
   ·have := hnil rfl; omega
   ·cases h
 ·have hkl : 1 < l.length := by
   have := (List.getElem?_eq_some_iff.1 hx).1
   rw [evs_length, List.length_drop] at this; omega
  rw [evs_drop l 1 (by omega)] at hx
  obtain ⟨g, off, rfl, hg, hcell⟩ := h _ _ hx
  rw [if_neg (by omega)]
  exact ⟨g, off + 1 * 5, by simp [Addr.add_lit], hg, by rw [Nat.add_assoc]; exact hcell⟩
 ·split at hb
  ·exact ⟨b, hb, rfl⟩
  ·rcases a with _ | d
   ·cases hb
   ·injection hb with hb; subst hb; exact ⟨d, rfl, by unfold Addr.add; split <;> rfl⟩
abbrev At3 (a b c : Nat) : Nat → Prop := fun k => k = a ∨ k = b ∨ k = c
section
variable {w w' : World} {B t rb lb n cr cl win : Nat} {L : Nat → Nat} {Rs : List (List Ev)}
theorem TreeM.setR (h : TreeM w B t rb lb n cr cl win L Rs) (i : Nat) (hi : i < n) (A : Option Addr) (c : Nat) (xs : List Ev) (h1 : xs.length ≤ c) (h2 : c ≤ maxLen) (h3 : A = none → c = 0) (h4 : EvAt w A xs) (h5 : ∀ a, A = some a → 0 < xs.length → a.block < B) (h6 : xs.length ≤ 1000) (m : Nat) (hm : m = xs.length) :
  TreeM (w.setCell ⟨rb, i, none⟩ (.slice A m c)) B t rb lb n cr cl win L (Rs.set i xs) := by
 subst hm
 have hk : Kept (At1 rb) w (w.setCell ⟨rb, i, none⟩ (.slice A xs.length c)) := (Kept.refl _ _).setCell _ _ (.inl rfl)
 refine ⟨hk.heap h.row (fun e => h.tr e), h.rrow.set, h.lrow.set, fun j l hj => ?_, fun j hj => ?_, by rw [List.length_set]; exact h.len, h.pos, h.few, fun l hl => ?_, h.caps, h.bt, h.br, h.bl, h.tr, h.tl, h.rl⟩
 ·rw [List.getElem?_set] at hj
  by_cases e : i = j
  ·subst e
   rw [if_pos rfl, if_pos (by have := h.len; omega)] at hj
   injection hj with hj; subst hj
   obtain ⟨u, hu⟩ := h.rrow.get i hi
   exact ⟨A, c, World.cell?_setCell_same _ _ _ hu, h1, h2, h3, h4.keptE hk (fun a ha h0 e => by have h7 := h5 a ha h0; have h8 := h.br; have e : a.block = rb := e; omega), h5⟩
  ·rw [if_neg e] at hj
   obtain ⟨A', c', g1, g2, g3, g4, g5, g6⟩ := h.runs j l hj
   exact ⟨A', c', (World.cell?_setCell_other _ _ _ _ (fun h => by injection h with h1 h2 h3; omega)).trans g1, g2, g3, g4, g5.keptE hk (fun a ha h0 e => by have h7 := g6 a ha h0; have h8 := h.br; have e : a.block = rb := e; omega), g6⟩
 ·exact (hk.cell (p := ⟨lb, j, none⟩) h.lrow.lt (fun e => h.rl e.symm)).trans (h.los j hj)
 ·rcases List.mem_or_eq_of_mem_set hl with h9 | h9
  ·exact h.small l h9
  ·rw [h9]; exact h6
end
theorem rsF_set {Rs : List (List Ev)} {i : Nat} {xs : List Ev} {j : Nat} (h : j ≠ i) : rsF (Rs.set i xs) j = rsF Rs j := by
 unfold rsF; rw [List.getD_eq_getElem?_getD, List.getD_eq_getElem?_getD, List.getElem?_set, if_neg (by omega)]
def TreeT (w : World) (B t rb lb n cr cl : Nat) (Rs : List (List Ev)) (win : Nat) : Prop := ∃ (L V : Nat → Nat), TreeM w B t rb lb n cr cl win L Rs ∧ Tour ltM (rsF Rs) n L V ∧ V 1 = win
def zEv : Value := .agg #[.int .u64 0, .int .i64 0, .int .i64 0, .string ByteArray.empty, .float .f64 0]
def NextYes (B t rb lb n cr cl : Nat) (Rs : List (List Ev)) (win : Nat) (x : Ev) (xs : List Ev) (w : World) (e : Ending) (w' : World) : Prop :=
 e = .returned (.tuple #[.agg x.cells.toArray, .int .i64 (win : Int), .bool true]) ∧ (∃ win', TreeT w' B t rb lb n cr cl (Rs.set win xs) win') ∧ Kept (At3 t rb lb) w w'
theorem results_cell_tmp2 {P : Program} {fn : Func} {p q s : Tmp} {ty : TypeId} (h : fn.results = #[.cell p ty, .tmp q, .tmp s]) (tmps : Array Value) (w : World) (g : Nat) (t : TypeId) (cs : Array Value) (fr : Nat × Nat) (d : TypeDesc)
  (hp : tmps.getD p undef = .pointer (some ⟨g, 0, none⟩)) (hg : w.heap[g]? = some (.cells cs t fr))
  (hu : P.underlying ty = some d) (hr : (match d with | .struct _ | .array _ _ => true | _ => false) = true) (hi : (P.info? ty).map (·.size) = some cs.size) :
  (results fn tmps).run P w = .ok (.tuple #[.agg cs, tmps.getD q undef, tmps.getD s undef]) w := by
 have hp' : tmps[p]?.getD undef = .pointer (some ⟨g, 0, none⟩) := by simpa using hp
 simp [results, h, hp', asAddr, run_loadVar_row w g t ty cs fr d hg hu hr hi]
theorem post_row3 {P : Program} {fn : Func} {R : Ending → World → Prop} {a : Act} {w : World} (p q s : Tmp) (ty : TypeId) (h : fn.results = #[.cell p ty, .tmp q, .tmp s]) (hd : a.defers = []) (g : Nat) (t : TypeId) (cs : Array Value) (fr : Nat × Nat) (d : TypeDesc)
  (hp : a.tmps.getD p undef = .pointer (some ⟨g, 0, none⟩)) (hg : w.heap[g]? = some (.cells cs t fr))
  (hu : P.underlying ty = some d) (hr : (match d with | .struct _ | .array _ _ => true | _ => false) = true) (hi : (P.info? ty).map (·.size) = some cs.size)
  (hR : R (.returned (.tuple #[.agg cs, a.tmps.getD q undef, a.tmps.getD s undef])) w) : bodyPost P fn R .ret a w := ⟨hd, _, results_cell_tmp2 h a.tmps w g t cs fr d hp hg hu hr hi, hR⟩
theorem iEvA (x : Ev) : (Tryz.prog.info? 51).map (·.size) = some (#[.int .u64 (x.off : Int), .int .i64 x.part, .int .i64 x.time, .string x.key, .float .f64 x.val] : Array Value).size := iEvent x
theorem all_one (l : List Value) (h : ∀ u ∈ l, u.oneCell' = true) : (l.toArray).all (·.oneCell') = true := by simpa using h
theorem oneEvA (x : Ev) : (#[.int .u64 (x.off : Int), .int .i64 x.part, .int .i64 x.time, .string x.key, .float .f64 x.val] : Array Value).all (·.oneCell') = true := all_one _ (cells_one x)
theorem oneZ : (#[.int .u64 0, .int .i64 0, .int .i64 0, .string { data := #[] }, .float .f64 0] : Array Value).all (·.oneCell') = true := all_one _ (cells_one ⟨0, 0, 0, { data := #[] }, 0⟩)
theorem iZero : (Tryz.prog.info? 51).map (·.size) = some (#[Value.int .u64 0, .int .i64 0, .int .i64 0, .string { data := #[] }, .float .f64 0] : Array Value).size := by kernel_rfl
set_option maxHeartbeats 8000000 in
theorem next_no (B t rb lb n cr cl : Nat) (Rs : List (List Ev)) (win : Nat) (hr : rsF Rs win = []) (w : World) (HT : Hid (TreeT w B t rb lb n cr cl Rs win)) :
  Calls Tryz.prog 88 #[.pointer (some ⟨t, 0, none⟩)] w fun e w' => e = .returned (.tuple #[zEv, .int .i64 0, .bool false]) ∧ Below w.heap.size w w' := by
 obtain ⟨L, V, hTM, hTour, hV⟩ := HT.out
 have hwin : win < n := by rw [← hV]; exact hTour.lt' (by decide) (by have := hTM.pos; omega)
 have HTM := Lib.hid hTM
 obtain ⟨l, hl, hf⟩ := hTM.at hwin
 rw [hr] at hf; subst hf
 obtain ⟨A, c, hca, -, -, -, -, -⟩ := hTM.runs win [] hl
 obtain ⟨w1, hw1⟩ : ∃ w1, w1 = w.alloc (.cells #[.int .u64 0, .int .i64 0, .int .i64 0, .string { data := #[] }, .float .f64 0] 51) := ⟨_, rfl⟩
 have hb1 : Below w.heap.size w w1 := by rw [hw1]; exact (Below.refl _ _).alloc (Nat.le_refl _) _
 have HB1 := Lib.hid hb1
 have HT1 : Hid (TreeM w1 B t rb lb n cr cl win L Rs) := Lib.hid (hTM.below hb1)
 obtain ⟨m, hm⟩ : ∃ m, m = 0 := ⟨_, rfl⟩
 have HCA : Hid (w1.cell? ⟨rb, win, none⟩ = some (.slice A m c)) := Lib.hid (by
  rw [hm]
  exact (hb1.cell (p := ⟨rb, win, none⟩) hTM.rrow.lt).trans hca)
 obtain ⟨r0, hr0⟩ : ∃ r0, r0 = w.heap.size := ⟨_, rfl⟩
 have HW1 : Hid (w.alloc (.cells #[.int .u64 0, .int .i64 0, .int .i64 0, .string { data := #[] }, .float .f64 0] 51) = w1 ∧ w.heap.size = r0) := Lib.hid ⟨hw1.symm, hr0.symm⟩
 have hrow0 : w1.heap[r0]? = some (.cells #[.int .u64 0, .int .i64 0, .int .i64 0, .string { data := #[] }, .float .f64 0] 51 (0, 0)) := by rw [hw1, hr0]; exact heap_alloc_newM _ _
 have HROW0 := Lib.hid hrow0
 have HM0 : Hid (((m : Int) == 0) = true) := Lib.hid (by rw [hm]; rfl)
 have HN0 : Hid (((n : Int) == 0) = false) := Lib.hid (by rw [beq_eq_false_iff_ne]; have := hTM.pos; omega)
 have hwn : (win : Int) < (n : Int) := by omega
 have hcr := hTM.caps.1
 clear hTM hTour hV hl hca hm hr hw1 hb1 hr0 hrow0
 go_enter Tryz.func88, Tryz.ntmps88
 go_upto_region 1 with fail
 rw [HW1.out.1, HW1.out.2]
 have hh0 : Below w1.heap.size w1 w1.drew := (Below.refl _ _).drew
 refine wp_region_held_drew (S := fun w2 => Below w1.heap.size w1 w2) (by kernel_rfl) hh0 (fun hHeld => ?_)
 refine tkm 0 (.pointer (some ⟨t, 0, none⟩)) rfl hHeld ?_
 try simp only [qz]
 refine tks 1 (.bool false) rfl hHeld ?_
 try simp only [qz]
 refine tkm 2 (.bool false) rfl hHeld ?_
 try simp only [qz]
 refine tkm 3 (.pointer (some ⟨t, 0, none⟩)) rfl hHeld ?_
 try simp only [qz]
 refine tks 4 (.pointer (some ⟨t, 0, none⟩)) rfl hHeld ?_
 try simp only [qz]
 refine tks 5 (.pointer (some ⟨t, 0, none⟩)) rfl hHeld ?_
 try simp only [qz]
 refine tk 6 (.slice (some ⟨rb, 0, none⟩) n cr) rfl (Or.inl ⟨by rfl, fun w hw => by have hc : w.cell? ⟨t, 0, none⟩ = some (.slice (some ⟨rb, 0, none⟩) n cr) := (hw.cell (p := ⟨t, 0, none⟩) HT1.out.lt).trans HT1.out.c0; go_simp⟩) hHeld ?_
 try simp only [qz]
 refine tks 7 (.int .i64 (n : Int)) rfl hHeld ?_
 try simp only [qz]
 refine tk 8 (.bool false) rfl (Or.inl ⟨by rfl, fun w _ => by have h := HN0.out; go_simp⟩) hHeld ?_
 try simp only [qz]
 refine tks 9 (.bool false) rfl hHeld ?_
 try simp only [qz]
 refine tkm 10 (.bool false) rfl hHeld ?_
 try simp only [qz]
 refine tkm 11 (.pointer (some ⟨t, 0, none⟩)) rfl hHeld ?_
 try simp only [qz]
 refine tks 12 (.pointer (some ⟨t, 0, none⟩)) rfl hHeld ?_
 try simp only [qz]
 refine tks 13 (.pointer (some ⟨t, 0, none⟩)) rfl hHeld ?_
 try simp only [qz]
 refine tk 14 (.slice (some ⟨rb, 0, none⟩) n cr) rfl (Or.inl ⟨by rfl, fun w hw => by have hc : w.cell? ⟨t, 0, none⟩ = some (.slice (some ⟨rb, 0, none⟩) n cr) := (hw.cell (p := ⟨t, 0, none⟩) HT1.out.lt).trans HT1.out.c0; go_simp⟩) hHeld ?_
 try simp only [qz]
 refine tkm 15 (.pointer (some ⟨t, 0, none⟩)) rfl hHeld ?_
 try simp only [qz]
 refine tks 16 (.pointer (some ⟨t, 0, none⟩)) rfl hHeld ?_
 try simp only [qz]
 refine tks 17 (.pointer (some ⟨t, 1, none⟩)) rfl hHeld ?_
 try simp only [qz]
 refine tk 18 (.int .i64 (win : Int)) rfl (Or.inl ⟨by rfl, fun w hw => by have hc : w.cell? ⟨t, 1, none⟩ = some (.int .i64 (win : Int)) := (hw.cell (p := ⟨t, 1, none⟩) HT1.out.lt).trans HT1.out.c1; go_simp⟩) hHeld ?_
 try simp only [qz]
 refine tks 19 (.pointer (some ⟨rb, win, none⟩)) rfl hHeld ?_
 try simp only [qz]
 refine tk 20 (.slice A m c) rfl (Or.inl ⟨by rfl, fun w hw => by have hc : w.cell? ⟨rb, win, none⟩ = some (.slice A m c) := (hw.cell (p := ⟨rb, win, none⟩) HT1.out.rrow.lt).trans HCA.out; go_simp⟩) hHeld ?_
 try simp only [qz]
 refine tks 21 (.int .i64 (m : Int)) rfl hHeld ?_
 try simp only [qz]
 refine tk 22 (.bool true) rfl (Or.inl ⟨by rfl, fun w _ => by have h := HM0.out; go_simp⟩) hHeld ?_
 try simp only [qz]
 refine rd1 23 rfl (fun K hK => ?_)
 go_simp
 refine hK.out _ _ hHeld (fun hHeld => ?_)
 clear hK K
 refine wpAnyH_done (by kernel_rfl) ?_ _
 go_wp2_with (refine wpList_store_row rfl 51 (.tmp 2) (.tmp 31) rfl r0 #[.int .u64 0, .int .i64 0, .int .i64 0, .string { data := #[] }, .float .f64 0] rfl rfl _ _ HROW0.out iZero rfl oneZ ?_)
 exact post_row3 2 3 4 51 Tryz.results88 rfl r0 51 _ (0, 0) _ rfl (setRow_heap _ _ _ _ _ _ HROW0.out) uEvent rfl iZero ⟨rfl, below_setRow (HB1.out.trans (hHeld.mono HB1.out.size)) (by rw [← HW1.out.2]; exact Nat.le_refl _) _⟩
theorem kept_setRow (w : World) (g : Nat) (cs : Array Value) : Kept (At1 g) w (w.setRow g cs) := ⟨rfl, rfl, rfl, by simp, fun k hk hn => setRow_other w g k cs fun e => hn e⟩
theorem TreeM.keepS {S : Nat → Prop} {w w' : World} {B t rb lb n cr cl win : Nat} {L : Nat → Nat} {Rs : List (List Ev)} (h : TreeM w B t rb lb n cr cl win L Rs) (hk : Kept S w w') (h1 : ¬ S t) (h2 : ¬ S rb) (h3 : ¬ S lb) (h4 : ∀ k, S k → B ≤ k) : TreeM w' B t rb lb n cr cl win L Rs := by
 refine ⟨hk.heap h.row h1, h.rrow.of (hk.block _ h.rrow.lt h2), h.lrow.of (hk.block _ h.lrow.lt h3), fun j l hj => ?_, fun j hj => (hk.cell (p := ⟨lb, j, none⟩) h.lrow.lt h3).trans (h.los j hj), h.len, h.pos, h.few, h.small, h.caps, h.bt, h.br, h.bl, h.tr, h.tl, h.rl⟩
 obtain ⟨A, c, g1, g2, g3, g4, g5, g6⟩ := h.runs j l hj
 exact ⟨A, c, (hk.cell (p := ⟨rb, j, none⟩) h.rrow.lt h2).trans g1, g2, g3, g4, g5.keptE hk (fun a ha h0 e => by have h7 := g6 a ha h0; have := h4 _ e; omega), g6⟩
theorem row_on {w w4 w5 : World} {rb t lb r : Nat} {o : Obj} (h4 : Kept (At1 rb) w w4) (h5 : Kept (At2 t lb) w4 w5) (hr : w.heap[r]? = some o) (n1 : r ≠ rb) (n2 : r ≠ t) (n3 : r ≠ lb) : Hid (w5.heap[r]? = some o) :=
 Lib.hid (h5.heap (h4.heap hr (fun e => n1 e)) (fun e => by rcases e with e | e; exact n2 e; exact n3 e))
set_option maxHeartbeats 8000000 in
theorem next_yes (B t rb lb n cr cl : Nat) (Rs : List (List Ev)) (win : Nat) (x : Ev) (xs : List Ev) (hr : rsF Rs win = x :: xs) (w : World) (HT : Hid (TreeT w B t rb lb n cr cl Rs win)) :
  Calls Tryz.prog 88 #[.pointer (some ⟨t, 0, none⟩)] w (NextYes B t rb lb n cr cl Rs win x xs w) := by
 obtain ⟨L, V, hTM, hTour, hV⟩ := HT.out
 have hwin : win < n := by rw [← hV]; exact hTour.lt' (by decide) (by have := hTM.pos; omega)
 have HTM := Lib.hid hTM
 have HTour := Lib.hid hTour; have HV := Lib.hid hV
 obtain ⟨l, hl, hf⟩ := hTM.at hwin
 rw [hr] at hf; subst hf
 obtain ⟨A, c, hca, hmc, hcm, hnil, hev, hlow⟩ := hTM.runs win (x :: xs) hl
 obtain ⟨w1, hw1⟩ : ∃ w1, w1 = w.alloc (.cells #[.int .u64 0, .int .i64 0, .int .i64 0, .string { data := #[] }, .float .f64 0] 51) := ⟨_, rfl⟩
 have hb1 : Below w.heap.size w w1 := by rw [hw1]; exact (Below.refl _ _).alloc (Nat.le_refl _) _
 have HB1 := Lib.hid hb1
 have HT1 : Hid (TreeM w1 B t rb lb n cr cl win L Rs) := Lib.hid (hTM.below hb1)
 obtain ⟨m, hm⟩ : ∃ m, m = (x :: xs).length := ⟨_, rfl⟩
 obtain ⟨m1, hm1⟩ : ∃ m1, m1 = xs.length := ⟨_, rfl⟩
 have hmm : m = m1 + 1 := by rw [hm, hm1, List.length_cons]
 rw [← hm] at hca hmc
 have hsm : m ≤ 1000 := by rw [hm]; exact hTM.small _ (List.mem_of_getElem? hl)
 have HCA : Hid (w1.cell? ⟨rb, win, none⟩ = some (.slice A m c)) := Lib.hid ((hb1.cell (p := ⟨rb, win, none⟩) hTM.rrow.lt).trans hca)
 obtain ⟨r0, hr0⟩ : ∃ r0, r0 = w.heap.size := ⟨_, rfl⟩
 have HW1 : Hid (w.alloc (.cells #[.int .u64 0, .int .i64 0, .int .i64 0, .string { data := #[] }, .float .f64 0] 51) = w1 ∧ w.heap.size = r0) := Lib.hid ⟨hw1.symm, hr0.symm⟩
 have hrow0 : w1.heap[r0]? = some (.cells #[.int .u64 0, .int .i64 0, .int .i64 0, .string { data := #[] }, .float .f64 0] 51 (0, 0)) := by rw [hw1, hr0]; exact heap_alloc_newM _ _
 have HROW0 := Lib.hid hrow0
 have HM0 : Hid (((m : Int) == 0) = false) := Lib.hid (by rw [beq_eq_false_iff_ne]; omega)
 have HN0 : Hid (((n : Int) == 0) = false) := Lib.hid (by rw [beq_eq_false_iff_ne]; have := hTM.pos; omega)
 have hwn : (win : Int) < (n : Int) := by omega
 have hcr := hTM.caps.1
 obtain ⟨A2, hcut, hnil2, hev2, hlow2⟩ := ecut_one A m c (by omega) hmc hnil
 rw [show m - 1 = m1 by omega] at hcut
 obtain ⟨g, off, hA, hg, hrx⟩ := evr hev 0 x rfl
 rw [Nat.zero_mul, Nat.add_zero] at hrx
 have HRX : Hid (∀ w2, Below w.heap.size w w2 → w2.rangeAt g off x.cells) := Lib.hid fun w2 h => rkeep hrx hg h
 have HEV2 : Hid (∀ w2, Below w.heap.size w w2 → EvAt w2 A2 xs) := Lib.hid fun w2 h => hev2 w2 (x :: xs) hm (hev.keep h)
 have HLOW2 : Hid (∀ a, A2 = some a → 0 < xs.length → a.block < B) := Lib.hid fun a ha h0 => by
  obtain ⟨d, hd, e⟩ := hlow2 a ha
  rw [e]; exact hlow d hd (by simp)
 have HNIL2 := Lib.hid hnil2
 have HFACT : Hid (m = m1 + 1 ∧ m1 = xs.length ∧ m ≤ c ∧ c ≤ maxLen ∧ r0 = w.heap.size ∧ g < w.heap.size) := Lib.hid ⟨hmm, hm1, hmc, hcm, hr0, hg⟩
 have HCUT := Lib.hid hcut
 have hm0i : (0 : Int) < (m : Int) := by omega
 clear hTM hTour hV hl hca hm hr hw1 hb1 hr0 hrow0 hev hlow hnil hnil2 hev2 hlow2 hrx hm1 hmm hcut hg
 subst hA
 go_enter Tryz.func88, Tryz.ntmps88
 go_upto_region 1 with fail
 rw [HW1.out.1, HW1.out.2]
 have hh0 : Below w1.heap.size w1 w1.drew := (Below.refl _ _).drew
 refine wp_region_held_drew (S := fun w2 => Below w1.heap.size w1 w2) (by kernel_rfl) hh0 (fun hHeld => ?_)
 refine tkm 0 (.pointer (some ⟨t, 0, none⟩)) rfl hHeld ?_
 try simp only [qz]
 refine tks 1 (.bool false) rfl hHeld ?_
 try simp only [qz]
 refine tkm 2 (.bool false) rfl hHeld ?_
 try simp only [qz]
 refine tkm 3 (.pointer (some ⟨t, 0, none⟩)) rfl hHeld ?_
 try simp only [qz]
 refine tks 4 (.pointer (some ⟨t, 0, none⟩)) rfl hHeld ?_
 try simp only [qz]
 refine tks 5 (.pointer (some ⟨t, 0, none⟩)) rfl hHeld ?_
 try simp only [qz]
 refine tk 6 (.slice (some ⟨rb, 0, none⟩) n cr) rfl (Or.inl ⟨by rfl, fun w hw => by have hc : w.cell? ⟨t, 0, none⟩ = some (.slice (some ⟨rb, 0, none⟩) n cr) := (hw.cell (p := ⟨t, 0, none⟩) HT1.out.lt).trans HT1.out.c0; go_simp⟩) hHeld ?_
 try simp only [qz]
 refine tks 7 (.int .i64 (n : Int)) rfl hHeld ?_
 try simp only [qz]
 refine tk 8 (.bool false) rfl (Or.inl ⟨by rfl, fun w _ => by have h := HN0.out; go_simp⟩) hHeld ?_
 try simp only [qz]
 refine tks 9 (.bool false) rfl hHeld ?_
 try simp only [qz]
 refine tkm 10 (.bool false) rfl hHeld ?_
 try simp only [qz]
 refine tkm 11 (.pointer (some ⟨t, 0, none⟩)) rfl hHeld ?_
 try simp only [qz]
 refine tks 12 (.pointer (some ⟨t, 0, none⟩)) rfl hHeld ?_
 try simp only [qz]
 refine tks 13 (.pointer (some ⟨t, 0, none⟩)) rfl hHeld ?_
 try simp only [qz]
 refine tk 14 (.slice (some ⟨rb, 0, none⟩) n cr) rfl (Or.inl ⟨by rfl, fun w hw => by have hc : w.cell? ⟨t, 0, none⟩ = some (.slice (some ⟨rb, 0, none⟩) n cr) := (hw.cell (p := ⟨t, 0, none⟩) HT1.out.lt).trans HT1.out.c0; go_simp⟩) hHeld ?_
 try simp only [qz]
 refine tkm 15 (.pointer (some ⟨t, 0, none⟩)) rfl hHeld ?_
 try simp only [qz]
 refine tks 16 (.pointer (some ⟨t, 0, none⟩)) rfl hHeld ?_
 try simp only [qz]
 refine tks 17 (.pointer (some ⟨t, 1, none⟩)) rfl hHeld ?_
 try simp only [qz]
 refine tk 18 (.int .i64 (win : Int)) rfl (Or.inl ⟨by rfl, fun w hw => by have hc : w.cell? ⟨t, 1, none⟩ = some (.int .i64 (win : Int)) := (hw.cell (p := ⟨t, 1, none⟩) HT1.out.lt).trans HT1.out.c1; go_simp⟩) hHeld ?_
 try simp only [qz]
 refine tks 19 (.pointer (some ⟨rb, win, none⟩)) rfl hHeld ?_
 try simp only [qz]
 refine tk 20 (.slice (some ⟨g, off, none⟩) m c) rfl (Or.inl ⟨by rfl, fun w hw => by have hc : w.cell? ⟨rb, win, none⟩ = some (.slice (some ⟨g, off, none⟩) m c) := (hw.cell (p := ⟨rb, win, none⟩) HT1.out.rrow.lt).trans HCA.out; go_simp⟩) hHeld ?_
 try simp only [qz]
 refine tks 21 (.int .i64 (m : Int)) rfl hHeld ?_
 try simp only [qz]
 refine tk 22 (.bool false) rfl (Or.inl ⟨by rfl, fun w _ => by have h := HM0.out; go_simp⟩) hHeld ?_
 try simp only [qz]
 refine rd1 23 rfl (fun K hK => ?_)
 go_simp
 refine hK.out _ _ hHeld (fun hHeld => ?_)
 clear hK K
 refine wpAnyH_done (by kernel_rfl) ?_ _
 clear hh0
 obtain ⟨w2, hw2⟩ : ∃ w2, w2 = w1.drew := ⟨_, rfl⟩
 rw [← hw2] at hHeld ⊢
 have HB2 := Lib.hid hHeld
 have HBW2 := Lib.hid (bto HB1.out hHeld)
 clear hw2 hHeld
 have c0 := (HT1.out.below HB2.out).c0
 have c1 := (HT1.out.below HB2.out).c1
 have ca : w2.cell? ⟨rb, win, none⟩ = some (.slice (some ⟨g, off, none⟩) m c) := (HB2.out.cell (p := ⟨rb, win, none⟩) HT1.out.rrow.lt).trans HCA.out
 have hrg := HRX.out w2 HBW2.out
 go_upto_region 5 with (first
  | (refine wpList_load_mid rfl 51 (.tmp 43) rfl g off rfl [.int .u64 (x.off : Int), .int .i64 x.part, .int .i64 x.time, .string x.key, .float .f64 x.val] _ hrg uEvent rfl (iEvent x) ?_)
  | (refine wpList_store_row rfl 51 (.tmp 6) (.tmp 44) rfl w2.heap.size #[.int .u64 (x.off : Int), .int .i64 x.part, .int .i64 x.time, .string x.key, .float .f64 x.val] rfl rfl _ _ (heap_alloc_newM _ _) (iEvA x) rfl (oneEvA x) ?_; rw [World.setRow_alloc_new]))
 obtain ⟨r1, hr1⟩ : ∃ r1, r1 = w2.heap.size := ⟨_, rfl⟩
 obtain ⟨w3, hw3⟩ : ∃ w3, w3 = w2.alloc (.cells #[.int .u64 (x.off : Int), .int .i64 x.part, .int .i64 x.time, .string x.key, .float .f64 x.val] 51) := ⟨_, rfl⟩
 rw [← hw3, ← hr1]
 have HB3 : Hid (Below w2.heap.size w2 w3) := Lib.hid (by rw [hw3]; exact (Below.refl _ _).alloc (Nat.le_refl _) _)
 have HROW1 : Hid (w3.heap[r1]? = some (.cells #[.int .u64 (x.off : Int), .int .i64 x.part, .int .i64 x.time, .string x.key, .float .f64 x.val] 51 (0, 0))) := Lib.hid (by rw [hw3, hr1]; exact heap_alloc_newM _ _)
 have HR1 : Hid (r1 = w2.heap.size) := Lib.hid hr1
 have HBW3 := Lib.hid (bto HBW2.out HB3.out)
 clear hw3 hr1 c0 c1 ca hrg
 have HBD3 : Hid (Below w3.heap.size w3 w3.drew) := Lib.hid (Below.refl _ _).drew
 have HT3 : Hid (TreeM w3.drew B t rb lb n cr cl win L Rs) := Lib.hid (((HT1.out.below HB2.out).below HB3.out).below HBD3.out)
 have HRW1 : Hid (w3.drew.heap[r1]? = some (.cells #[.int .u64 (x.off : Int), .int .i64 x.part, .int .i64 x.time, .string x.key, .float .f64 x.val] 51 (0, 0))) := HROW1
 have HRW0 : Hid (w3.drew.heap[r0]? = some (.cells #[.int .u64 0, .int .i64 0, .int .i64 0, .string { data := #[] }, .float .f64 0] 51 (0, 0))) := Lib.hid (((bto HB2.out HB3.out).block r0 (Array.getElem?_eq_some_iff.1 HROW0.out).1).trans HROW0.out)
 have HBW4 : Hid (Below w.heap.size w w3.drew) := Lib.hid (bto HBW3.out HBD3.out)
 have HEVD := Lib.hid (HEV2.out w3.drew HBW4.out)
 have c0 := HT3.out.c0
 have ca : w3.drew.cell? ⟨rb, win, none⟩ = some (.slice (some ⟨g, off, none⟩) m c) := ((bto (bto HB2.out HB3.out) HBD3.out).cell (p := ⟨rb, win, none⟩) HT1.out.rrow.lt).trans HCA.out
 have fa := HT3.out.rrow.fr win
 have hcut := HCUT.out
 have HNE : Hid (r1 ≠ rb ∧ r0 ≠ rb ∧ r1 ≠ r0 ∧ w.heap.size ≤ r1 ∧ w.heap.size ≤ r0) := Lib.hid (by
  have h1 := HT1.out.rrow.lt; have h2 := HB2.out.size; have h3 := HR1.out; have h4 := (Array.getElem?_eq_some_iff.1 HROW0.out).1; have h5 := HTM.out.rrow.lt; have h6 := HFACT.out; have h7 := HBW2.out.size
  omega)
 clear HBD3 HROW1 HROW0 HR1 HBW3
 go_still_tail 14, (by kernel_rfl)
 go_upto_region 6 with fail
 have HT4 : Hid (TreeM (w3.drew.setCell ⟨rb, win, none⟩ (.slice A2 m1 (c - 1))) B t rb lb n cr cl win L (Rs.set win xs)) := Lib.hid (HT3.out.setR win hwin A2 (c - 1) xs (by have := HFACT.out; omega) (by have := HFACT.out; omega) HNIL2.out HEVD.out HLOW2.out (by have := HFACT.out; omega) m1 HFACT.out.2.1)
 clear hcut
 have HMID : Hid (Mid ltM (rsF (Rs.set win xs)) n L V (n + win)) := Lib.hid (HTour.out.start HV.out HT3.out.pos _ fun j hj => rsF_set hj)
 obtain ⟨w4, hw4⟩ : ∃ w4, w4 = (w3.setCell ⟨rb, win, none⟩ (.slice A2 m1 (c - 1))).drew := ⟨_, rfl⟩
 have HK4 : Hid (Kept (At1 rb) w3.drew w4) := Lib.hid (by rw [hw4]; exact (Kept.refl (At1 rb) w3.drew).setCell ⟨rb, win, none⟩ (.slice A2 m1 (c - 1)) (.inl rfl))
 have HT4' : Hid (TreeM w4 B t rb lb n cr cl win L (Rs.set win xs)) := Lib.hid (by rw [hw4]; exact HT4.out)
 clear HT4
 have HT4 := HT4'
 clear HT4'
 rw [← hw4]
 clear hw4 c0 ca fa
 have HRP := Lib.hid (replay_any B t rb lb n cr cl win L V (Rs.set win xs) hwin HMID w4 HT4)
 go_wp2_with (first
  | (go_at_call 111; (with_reducible refine (HRP.out).mono ?_); rintro e w5 ⟨rfl, win', L', V', h1, h2, h3, h4⟩; have HT5 := Lib.hid h1; have HTo5 := Lib.hid h2; have HV5 := Lib.hid h3; have HK5 := Lib.hid h4; clear h1 h2 h3 h4; have HRA1 := row_on HK4.out HK5.out HRW1.out HNE.out.1 (by have := HT3.out.bt; have := HTM.out.lt; have := HNE.out; omega) (by have := HTM.out.lrow.lt; have := HNE.out; omega); have HRA0 := row_on HK4.out HK5.out HRW0.out HNE.out.2.1 (by have := HTM.out.lt; have := HNE.out; omega) (by have := HTM.out.lrow.lt; have := HNE.out; omega))
  | (refine wpList_load_row rfl 51 (.tmp 6) rfl r1 rfl _ #[.int .u64 (x.off : Int), .int .i64 x.part, .int .i64 x.time, .string x.key, .float .f64 x.val] (0, 0) _ HRA1.out uEvent rfl (iEvA x) ?_)
  | (refine wpList_store_row rfl 51 (.tmp 2) (.tmp 61) rfl r0 #[.int .u64 (x.off : Int), .int .i64 x.part, .int .i64 x.time, .string x.key, .float .f64 x.val] rfl rfl _ _ HRA0.out (iEvA x) rfl (oneEvA x) ?_))
 exact post_row3 2 3 4 51 Tryz.results88 rfl r0 51 _ (0, 0) _ rfl (setRow_heap _ _ _ _ _ _ HRA0.out) uEvent rfl (iEvA x) ⟨rfl, ⟨win', L', V', HT5.out.keepS (kept_setRow w5 r0 _) (by have := HTM.out.lt; have := HNE.out; show t ≠ r0; omega) (fun e => HNE.out.2.1 (show rb = r0 from e).symm) (by have := HTM.out.lrow.lt; have := HNE.out; show lb ≠ r0; omega) (fun k hk => by have hk : k = r0 := hk; have := HTM.out.lt; have := HTM.out.bt; have := HNE.out; omega), HTo5.out, HV5.out⟩, (((Kept.of_below HBW4.out).trans (HK4.out.mono fun k hk => .inl (.inr (.inl hk)))).trans (HK5.out.mono fun k hk => .inl (by rcases hk with hk | hk; exact .inl hk; exact .inr (.inr hk)))).trans' (kept_setRow w5 r0 _) (fun k hk => .inr (by have hk : k = r0 := hk; have := HNE.out; omega))⟩
end Go.Proofs.YtjldamkmdkaiiaaGreatDoor
