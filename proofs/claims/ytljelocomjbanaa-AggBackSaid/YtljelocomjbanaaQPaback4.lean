/-
  The contract of spare (two orders, walked by hand; about 100 s).
-/
import Derived.Test.YtljelocomjbanaaQPaback3
import Derived.Deep.OwnRows
import Derived.Test.YtljelocomjbanaaQPaback2
import Derived.LaidEqlPtr
import Derived.Defers
import Derived.Test.YtljelocomjbanaaQPaback1
set_option linter.unusedSimpArgs false
set_option linter.unusedVariables false
set_option maxRecDepth 8000
namespace Go.Proofs.Ytljelocomjbanaa
open Go.RowKit Sm

set_option maxHeartbeats 2000000 in
set_option maxRecDepth 4000 in
theorem spare_any (a : Option Addr) (l : List Nat) (len cap : Nat) (hlen : Hid (len = l.length)) (hl : len ≤ 4096) (hcap : len ≤ cap) (w : World) (HA : Hid (ByAt w a l)) :
    Calls Try.prog 96 #[.slice a len cap] w fun e w' => e = .returned (.bool (spB l)) ∧ Below w.heap.size w w' := by
  by_cases hz : len = 0
  · subst hz
    have e : l = [] := List.length_eq_zero_iff.1 hlen.out.symm
    subst e
    go_enter Try.func96, Try.ntmps96
    go_wp2
    go_region
    go_wp2
    go_ret
    exact ⟨rfl, (Below.refl _ _).drew⟩
  · have hn : len - 1 < l.length := by have := hlen.out; omega
    obtain ⟨hx, g, off, rfl, hg, hc⟩ := HA.out (len - 1) l[len - 1] (List.getElem?_eq_getElem hn)
    have hs : Hid (spB l = (l[len - 1] == sgB l.dropLast)) := Lib.hid (by unfold spB; rw [List.getLast?_eq_getElem?, show l.length - 1 = len - 1 by rw [hlen.out], List.getElem?_eq_getElem hn])
    have h0 : decide ((0 : Int) ≤ (len : Int) - 1) = true := decide_eq_true (by omega)
    have ht : ((len : Int) - 1).toNat = len - 1 := by omega
    have hb := sgB_lt l.dropLast
    have g1 : (1 : Int) ≤ (len : Int) := by omega
    have g2 : ¬ (len : Int) ≤ (len : Int) - 1 := by omega
    have g3 : (len : Int) - 1 ≤ (cap : Int) := by omega
    generalize l[len - 1] = x at *
    have hq : ((x : Int) == (sgB l.dropLast : Int)) = (x == sgB l.dropLast) := by rw [Bool.eq_iff_iff, beq_iff_eq, beq_iff_eq]; omega
    have hlen' : Hid (len - 1 = l.dropLast.length) := Lib.hid (by rw [List.length_dropLast, hlen.out])
    have HM : ByAt w.drew (some ⟨g, off, none⟩) l.dropLast := HA.out.most.keep (Below.refl _ _).drew
    have hcd : w.drew.cell? ⟨g, off + (len - 1), none⟩ = some (.int .u8 (x : Int)) := hc
    go_enter Try.func96, Try.ntmps96
    go_wp2
    refine wp_region_any (by kernel_rfl) ?_
    try (change wpAny _ _ _ _ _ _ _ (World.drew _))
    refine wpAny_take (i := 0) (v := .int .i64 ((len : Int) - 1)) rfl (by kernel_rfl) (by kernel_rfl) (by kernel_rfl) (fun _ _ _ h => h) (Or.inl ⟨by rfl, fun _ => rfl⟩) ?_
    try dsimp only
    try simp only [Act.put, List.setIfInBounds_toArray, List.set_cons_zero, List.set_cons_succ]
    refine wpAny_take (i := 1) (v := .bool true) rfl (by kernel_rfl) (by kernel_rfl) (by kernel_rfl) (fun _ _ _ h => h) (Or.inl ⟨by rfl, fun w => ?_⟩) ?_
    · go_simp; (try first | omega | exact fun h => absurd (h g1) g2 | (simp [g1, g2, g3, ht]; done))
    try dsimp only
    try simp only [Act.put, List.setIfInBounds_toArray, List.set_cons_zero, List.set_cons_succ]
    refine wpAny_take (i := 2) (v := .bool true) rfl (by kernel_rfl) (by kernel_rfl) (by kernel_rfl) (fun _ _ _ h => h) (Or.inl ⟨by rfl, fun _ => rfl⟩) ?_
    try dsimp only
    try simp only [Act.put, List.setIfInBounds_toArray, List.set_cons_zero, List.set_cons_succ]
    refine wpAny_take (i := 3) (v := .slice (some ⟨g, off, none⟩) len cap) rfl (by kernel_rfl) (by kernel_rfl) (by kernel_rfl) (fun _ _ _ h => h) (Or.inl ⟨by rfl, fun _ => rfl⟩) ?_
    try dsimp only
    try simp only [Act.put, List.setIfInBounds_toArray, List.set_cons_zero, List.set_cons_succ]
    refine wpAny_take (i := 4) (v := .int .i64 ((len : Int) - 1)) rfl (by kernel_rfl) (by kernel_rfl) (by kernel_rfl) (fun _ _ _ h => h) (Or.inl ⟨by rfl, fun _ => rfl⟩) ?_
    try dsimp only
    try simp only [Act.put, List.setIfInBounds_toArray, List.set_cons_zero, List.set_cons_succ]
    refine wpAny_take (i := 5) (v := .pointer (some ⟨g, off + (len - 1), none⟩)) rfl (by kernel_rfl) (by kernel_rfl) (by kernel_rfl) (fun _ _ _ h => h) (Or.inl ⟨by rfl, fun w => ?_⟩) ?_
    · go_simp; (try first | omega | exact fun h => absurd (h g1) g2 | (simp [g1, g2, g3, ht]; done))
    try dsimp only
    try simp only [Act.put, List.setIfInBounds_toArray, List.set_cons_zero, List.set_cons_succ]
    refine wpAny_take (i := 7) (v := .slice (some ⟨g, off, none⟩) len cap) rfl (by kernel_rfl) (by kernel_rfl) (by kernel_rfl) (fun _ _ _ h => h) (Or.inl ⟨by rfl, fun _ => rfl⟩) ?_
    try dsimp only
    try simp only [Act.put, List.setIfInBounds_toArray, List.set_cons_zero, List.set_cons_succ]
    refine wpAny_take (i := 8) (v := .int .i64 ((len : Int) - 1)) rfl (by kernel_rfl) (by kernel_rfl) (by kernel_rfl) (fun _ _ _ h => h) (Or.inl ⟨by rfl, fun _ => rfl⟩) ?_
    try dsimp only
    try simp only [Act.put, List.setIfInBounds_toArray, List.set_cons_zero, List.set_cons_succ]
    refine wpAny_take (i := 9) (v := .slice (some ⟨g, off, none⟩) (len - 1) cap) rfl (by kernel_rfl) (by kernel_rfl) (by kernel_rfl) (fun _ _ _ h => h) (Or.inl ⟨by rfl, fun w => ?_⟩) ?_
    · go_simp; (try first | omega | exact fun h => absurd (h g1) g2 | (simp [g1, g2, g3, ht]; done))
    try dsimp only
    try simp only [Act.put, List.setIfInBounds_toArray, List.set_cons_zero, List.set_cons_succ]
    refine wpAny_ready (rs := [6, 10]) (by kernel_rfl) (by simp) (AllReady.cons rfl (fun K hK => ?_) (AllReady.cons rfl (fun K hK => ?_) AllReady.nil))
    · skip
      go_simp
      refine hK _ _ ?_
      clear hK K
      try dsimp only
      try simp only [Act.put, List.setIfInBounds_toArray, List.set_cons_zero, List.set_cons_succ]
      refine wpAny_ready (rs := [10]) (by kernel_rfl) (by simp) (AllReady.cons rfl (fun K hK => ?_) AllReady.nil)
      go_simp
      refine (signByte_any _ l.dropLast _ _ hlen' (by omega) _ (Lib.hid HM)).mono ?_
      rintro e w' ⟨rfl, rfl⟩
      refine hK _ _ ?_
      clear hK K
      try dsimp only
      try simp only [Act.put, List.setIfInBounds_toArray, List.set_cons_zero, List.set_cons_succ]
      refine wpAny_ready (rs := [11]) (by kernel_rfl) (by simp) (AllReady.cons rfl (fun K hK => ?_) AllReady.nil)
      go_simp
      refine hK _ _ ?_
      clear hK K
      try dsimp only
      try simp only [Act.put, List.setIfInBounds_toArray, List.set_cons_zero, List.set_cons_succ]
      refine wpAny_ready (rs := [12]) (by kernel_rfl) (by simp) (AllReady.cons rfl (fun K hK => ?_) AllReady.nil)
      go_simp
      refine hK _ _ ?_
      clear hK K
      try dsimp only
      try simp only [Act.put, List.setIfInBounds_toArray, List.set_cons_zero, List.set_cons_succ]
      refine wpAny_ready (rs := [13]) (by kernel_rfl) (by simp) (AllReady.cons rfl (fun K hK => ?_) AllReady.nil)
      go_simp
      refine hK _ _ ?_
      clear hK K
      try dsimp only
      try simp only [Act.put, List.setIfInBounds_toArray, List.set_cons_zero, List.set_cons_succ]
      refine wpAny_done (by kernel_rfl) ?_ _
      go_wp2
      go_ret
      exact ⟨ret_eq (congrArg Value.bool (by rw [hs.out])), (Below.refl _ _).drew⟩
    · skip
      go_simp
      refine (signByte_any _ l.dropLast _ _ hlen' (by omega) _ (Lib.hid HM)).mono ?_
      rintro e w' ⟨rfl, rfl⟩
      refine hK _ _ ?_
      clear hK K
      try dsimp only
      try simp only [Act.put, List.setIfInBounds_toArray, List.set_cons_zero, List.set_cons_succ]
      refine wpAny_ready (rs := [6]) (by kernel_rfl) (by simp) (AllReady.cons rfl (fun K hK => ?_) AllReady.nil)
      go_simp
      refine hK _ _ ?_
      clear hK K
      try dsimp only
      try simp only [Act.put, List.setIfInBounds_toArray, List.set_cons_zero, List.set_cons_succ]
      refine wpAny_ready (rs := [11]) (by kernel_rfl) (by simp) (AllReady.cons rfl (fun K hK => ?_) AllReady.nil)
      go_simp
      refine hK _ _ ?_
      clear hK K
      try dsimp only
      try simp only [Act.put, List.setIfInBounds_toArray, List.set_cons_zero, List.set_cons_succ]
      refine wpAny_ready (rs := [12]) (by kernel_rfl) (by simp) (AllReady.cons rfl (fun K hK => ?_) AllReady.nil)
      go_simp
      refine hK _ _ ?_
      clear hK K
      try dsimp only
      try simp only [Act.put, List.setIfInBounds_toArray, List.set_cons_zero, List.set_cons_succ]
      refine wpAny_ready (rs := [13]) (by kernel_rfl) (by simp) (AllReady.cons rfl (fun K hK => ?_) AllReady.nil)
      go_simp
      refine hK _ _ ?_
      clear hK K
      try dsimp only
      try simp only [Act.put, List.setIfInBounds_toArray, List.set_cons_zero, List.set_cons_succ]
      refine wpAny_done (by kernel_rfl) ?_ _
      go_wp2
      go_ret
      exact ⟨ret_eq (congrArg Value.bool (by rw [hs.out])), (Below.refl _ _).drew⟩
end Go.Proofs.Ytljelocomjbanaa

set_option linter.unusedSimpArgs false
set_option linter.unusedVariables false
set_option maxRecDepth 8000
namespace Go.Proofs.Ytljelocomjbanaa
open Go.RowKit Sm

/-- A number's byte; its first bytes, and noughts behind them. -/
def bt (n i : Nat) : Nat := n / 256 ^ i % 256
def fl280 (n k : Nat) : List Nat := (List.range 280).map fun i => if i < k then bt n i else 0
theorem fl280_len (n k : Nat) : (fl280 n k).length = 280 := by unfold fl280; simp
theorem fl280_lt (n k : Nat) : ∀ x ∈ fl280 n k, x < 256 := fun x hx => by
  unfold fl280 at hx
  obtain ⟨i, -, rfl⟩ := List.mem_map.1 hx
  split
  · exact Nat.mod_lt _ (by decide)
  · decide
theorem fl280_set (n k : Nat) (hk : k < 280) : (fl280 n k).set k (bt n k) = fl280 n (k + 1) := by
  apply List.ext_getElem?
  intro i
  rw [List.getElem?_set]
  unfold fl280
  simp only [List.getElem?_map, List.length_map, List.length_range]
  by_cases e : k = i
  · subst e
    simp [hk]
  · simp only [e, if_false]
    by_cases hi : i < 280
    · rw [List.getElem?_range hi]
      simp only [Option.map_some]
      by_cases h : i < k
      · rw [if_pos h, if_pos (by omega)]
      · rw [if_neg h, if_neg (by omega)]
    · rw [List.getElem?_eq_none (by simpa using hi)]; rfl
theorem bt_word (n i : Nat) : wd n (i / 8) / 2 ^ (i % 8 * 8) % 256 = bt n i := by
  unfold bt wd pw
  have hr : i % 8 < 8 := Nat.mod_lt _ (by decide)
  have hi : i = 8 * (i / 8) + i % 8 := by omega
  generalize i / 8 = q at *
  generalize i % 8 = r at *
  subst hi
  have e1 : (18446744073709551616 : Nat) = 2 ^ (r * 8) * (2 ^ 8 * 2 ^ (56 - r * 8)) := by
    rw [← Nat.pow_add, ← Nat.pow_add, show r * 8 + (8 + (56 - r * 8)) = 64 by omega]
  have e2 : (256 : Nat) ^ (8 * q + r) = 2 ^ (64 * q) * 2 ^ (r * 8) := by
    rw [show (256 : Nat) = 2 ^ 8 by decide, ← Nat.pow_mul, ← Nat.pow_add]; congr 1; omega
  rw [e2, ← Nat.div_div_eq_div_mul]
  generalize n / 2 ^ (64 * q) = x
  rw [e1, Nat.mod_mul_right_div_self, Nat.mod_mul_right_mod]
/-- Without those at the end that its sign tells. -/
def strip (l : List Nat) : Nat → List Nat
  | 0 => l.take 0
  | k + 1 => if spB (l.take (k + 1)) = true then strip l k else l.take (k + 1)
theorem strip_on (l : List Nat) (m : Nat) (h0 : 0 < m) (h : spB (l.take m) = true) : strip l m = strip l (m - 1) := by
  obtain ⟨k, rfl⟩ : ∃ k, m = k + 1 := ⟨m - 1, by omega⟩
  show (if spB (l.take (k + 1)) = true then strip l k else l.take (k + 1)) = _
  rw [if_pos h]; rfl
theorem strip_end (l : List Nat) (m : Nat) (h : spB (l.take m) = false) : strip l m = l.take m := by
  cases m with
  | zero => rfl
  | succ k =>
    show (if spB (l.take (k + 1)) = true then strip l k else l.take (k + 1)) = _
    rw [if_neg (by rw [h]; decide)]
theorem sp_pos (l : List Nat) (m : Nat) (h : spB (l.take m) = true) : 0 < m := by
  rcases Nat.eq_zero_or_pos m with rfl | h0
  · simp [spB] at h
  · exact h0

theorem info280 : (Try.prog.info? 139).map (fun i => (i.zero, i.size, i.bytes)) = some (some (.agg (Array.replicate 280 (.int .u8 0))), 280, 280) := by kernel_rfl
theorem zero280 (n : Nat) (w : World) : (zeroValue 139).run Try.prog w = .ok (.agg (bys (fl280 n 0)).toArray) w := by
  obtain ⟨i0, hi, hz0, hz1, hz2⟩ := info_parts info280
  have e : (bys (fl280 n 0)).toArray = Array.replicate 280 (Value.int .u8 0) := by
    apply Array.ext'
    rw [Array.toList_replicate]
    show bys (fl280 n 0) = _
    rw [List.eq_replicate_iff]
    refine ⟨by rw [bys_length, fl280_len], fun v hv => ?_⟩
    obtain ⟨x, hx, rfl⟩ := List.mem_map.1 hv
    unfold fl280 at hx
    obtain ⟨i, -, rfl⟩ := List.mem_map.1 hx
    rfl
  rw [e]
  simp [zeroValue, typeInfo, hi, hz0]

/-- Behind some rounds of the first loop. -/
structure Bs (w0 : World) (n h k : Nat) (w : World) : Prop where
  below : Below w0.heap.size w0 w
  row1 : w.heap[w0.heap.size]? = some (.cells (P36 (wd n) h) 27 (0, 0))
  row2 : w.heap[w0.heap.size + 1]? = some (.cells (bys (fl280 n k)).toArray 139 (0, 0))
theorem Bs.start (w : World) (n h : Nat) : Bs w n h 0 ((w.alloc (.cells (P36 (wd n) h) 27)).alloc (.cells (bys (fl280 n 0)).toArray 139)) := by
  refine ⟨((Below.refl _ _).alloc (Nat.le_refl _) _).alloc (by simp) _, ?_, ?_⟩
  · rw [Below.heap_alloc _ _ _ (by simp)]; exact heap_alloc_new' w _
  · have h1 := heap_alloc_new' (w.alloc (.cells (P36 (wd n) h) 27)) (.cells (bys (fl280 n 0)).toArray 139)
    rwa [show (w.alloc (.cells (P36 (wd n) h) 27)).heap.size = w.heap.size + 1 by simp] at h1
theorem Bs.step {w0 w : World} {n h k : Nat} (H : Bs w0 n h k w) (hk : k < 280) (v : Int) (hv : v = ((bt n k : Nat) : Int)) : Bs w0 n h (k + 1) (w.setCell ⟨w0.heap.size + 1, k, none⟩ (.int .u8 v)) := by
  subst hv
  refine ⟨H.below.setCell (by show _ ≤ w0.heap.size + 1; omega) _, (Below.heap_setCell _ _ _ _ (by show _ ≠ w0.heap.size + 1; omega)).trans H.row1, ?_⟩
  rw [← fl280_set n k hk, bys_set]
  exact row_set H.row2 k _

theorem Bs.keep {w0 w w' : World} {n h k : Nat} (H : Bs w0 n h k w) (hb : Below w.heap.size w w') : Bs w0 n h k w' :=
  ⟨H.below.trans (hb.mono H.below.size), (hb.block _ (Array.getElem?_eq_some_iff.1 H.row1).1).trans H.row1, (hb.block _ (Array.getElem?_eq_some_iff.1 H.row2).1).trans H.row2⟩
theorem Bs.byAt {w0 w : World} {n h k : Nat} (H : Bs w0 n h k w) (m : Nat) : ByAt w (some ⟨w0.heap.size + 1, 0, none⟩) ((fl280 n k).take m) :=
  ByAt.of_row _ (fun x hx => fl280_lt n k x (List.mem_of_mem_take hx)) H.row2 ⟨bys ((fl280 n k).drop m), by rw [← bys_append, List.take_append_drop]⟩
/-- So many of the bytes come to the same. -/
def Strips (l : List Nat) (m : Nat) : Prop := strip l m = strip l 280
theorem Strips.on {l : List Nat} {m : Nat} (h : Strips l m) (h0 : 0 < m) (hs : spB (l.take m) = true) : Strips l (m - 1) := (strip_on l m h0 hs).symm.trans h
theorem cast_dm (X r : Nat) : (X : Int) / 2 ^ r % 256 = ((X / 2 ^ r % 256 : Nat) : Int) := by
  rw [Int.natCast_emod, Int.natCast_ediv, Int.natCast_pow]; rfl
theorem make_bys (n : Nat) (hn : n ≤ 140737488355328) : ∀ w : World, (Instr.makeSlice 39 (.int .i64 (n : Int)) (.int .i64 (n : Int))).run Try.prog w = .ok (.slice (some ⟨w.heap.size, 0, none⟩) n n) (w.alloc (.cells (bys (List.replicate n 0)).toArray 5)) := fun w => by
  have h := run_make_row' (P := Try.prog) 39 5 (.int .u8 0) 1 Try.underlying39 infoU8 rfl .i64 .i64 n (by omega) (by omega) w
  rw [h]
  congr 3
  apply Array.ext'
  rw [toList_madeCells_one]
  unfold bys; simp [bv]
theorem Bs.has {w0 w : World} {n h k : Nat} (H : Bs w0 n h k w) (Z : Array Value) : (w.alloc (.cells Z 5)).cell? ⟨w0.heap.size, 35, none⟩ = some (.int .u8 (h : Int)) := by
  rw [World.cell?_alloc_lt w _ _ (Array.getElem?_eq_some_iff.1 H.row1).1, cell_of_row w _ _ _ _ _ H.row1]
  exact P36_has _ _
theorem made_cell (w : World) (m : Nat) (Z : List Value) (hZ : bys (List.replicate (1 + m) 0) = Z) : (w.alloc (.cells Z.toArray 5)).cell? ⟨w.heap.size, 0, none⟩ = some (.int .u8 0) := by
  rw [cell_of_row _ _ _ _ _ _ (heap_alloc_new' w _), ← hZ, Nat.add_comm 1 m, List.replicate_succ]; rfl
theorem made_frozen (w : World) (Z : Array Value) : (w.alloc (.cells Z 5)).frozen? ⟨w.heap.size, 0, none⟩ = false := row_frozen (heap_alloc_new' w _) 0
theorem cut_one (g m : Nat) : ∃ D : Option Addr, (∀ w, (Instr.slice 39 (.slice (some ⟨g, 0, none⟩) (1 + m) (1 + m)) (some (.int .i64 1)) none none).run Try.prog w = .ok (.slice D m m) w) ∧ (0 < m → D = some ⟨g, 1, none⟩) := by
  obtain ⟨A, C, h1, h2, h3, h4⟩ := cut_from (some ⟨g, 0, none⟩) (1 + m) (1 + m) 1 (by omega) (Nat.le_refl _)
  by_cases hm : 0 < m
  · exact ⟨some ⟨g, 1, none⟩, by have h := row_from' g (1 + m) (1 + m) 1 m rfl (by omega); rwa [show 1 + m - 1 = m by omega] at h, fun _ => rfl⟩
  · obtain rfl : m = 0 := by omega
    refine ⟨some ⟨g, 0, none⟩, fun w => ?_, fun h => absurd h (by omega)⟩
    rw [run_slice_l w 39 _ (1 + 0) (1 + 0) Try.underlying39 .i64 (1 : Int) (by omega) (by decide)]
    rw [show (Go.sizeOf (Try.prog.elem 39)).run Try.prog w = .ok 1 w from by kernel_rfl]
    simp [Result.andThen, sliced]
theorem made_row (h m : Nat) (Z : List Value) (l : List Nat) (hZ : bys (List.replicate (1 + m) 0) = Z) (hl : m = l.length) : splice (Z.set 0 (.int .u8 (h : Int))) 1 (bys l) = bys (h :: l) := by
  subst hZ
  rw [Nat.add_comm 1 m, List.replicate_succ]
  show splice (bv h :: bys (List.replicate m 0)) 1 (bys l) = bv h :: bys l
  unfold splice
  rw [bys_length, ← hl, Nat.add_comm 1 m, List.drop_succ_cons, List.drop_eq_nil_of_le (by rw [bys_length, List.length_replicate]; exact Nat.le_refl _)]
  simp
def lenOf : Value → Nat
  | .slice _ n _ => n
  | _ => 0
set_option maxHeartbeats 2000000 in
theorem sumBytes_any (n h : Nat) (hh : h < 256) (w : World) :
    Calls Try.prog 57 #[.agg (P36 (wd n) h)] w (RetS w (h :: strip (fl280 n 280) 280)) := by
  have hz := zero280 n
  go_enter Try.func57, Try.ntmps57
  go_wp2
  clear hz
  go_loopw [7] (fun i wr => ∃ k : Nat, k ≤ 280 ∧ i = .int .i64 k ∧ Bs w n h k wr) (fun i _ => 280 - (intOf i).toNat)
  case atStart => exact ⟨0, by omega, rfl, Bs.start w n h⟩
  case round =>
    obtain ⟨k, hk, rfl, hB⟩ := hrel
    have HB := Lib.hid hB
    clear hB
    by_cases hlt : k < 280
    · have hq8 : k / 8 < 35 := by omega
      have c1 : wr.cell? ⟨w.heap.size, k / 8, none⟩ = some (.int .u64 (wd n (k / 8) : Nat)) := by
        rw [cell_of_row wr _ _ _ _ _ HB.out.row1]; exact P36_word _ _ _ hq8
      have hl : k < (bys (fl280 n k)).length := by rw [bys_length, fl280_len]; exact hlt
      have c2 := row_cell HB.out.row2 k hl
      have f2 := row_frozen HB.out.row2 k

      have HV := Lib.hid (bt_word n k)
      generalize wd n (k / 8) = X at *
      generalize (bys (fl280 n k))[k] = y at *
      have q0 : (0 : Int) ≤ (k : Int) / 8 := by omega
      have q1 : (k : Int) / 8 < 35 := by omega
      have q2 : ((k : Int) / 8).toNat = k / 8 := by omega
      have r0 : (0 : Int) ≤ (k : Int) % 8 * 8 := by omega
      have r2 : ((k : Int) % 8 * 8).toNat = k % 8 * 8 := by omega
      clear hl
      set_option maxRecDepth 20000 in go_wp2
      go_roundw
      case rel => exact ⟨k + 1, by omega, by go_num, HB.out.step hlt _ (by rw [← HV.out]; exact cast_dm _ _)⟩
      case measure => simp [intOf]; omega
    · have hk2 : k = 280 := by omega
      subst hk2
      rw [show ((280 : Nat) : Int) = (280 : Int) from rfl]
      go_wp2
      obtain ⟨wo, hwo⟩ : ∃ wo : World, wo = wr := ⟨_, rfl⟩
      subst hwo
      go_loopw [5] (fun v wr => ∃ m : Nat, m ≤ 280 ∧ v = .slice (some ⟨w.heap.size + 1, 0, none⟩) m 280 ∧ Strips (fl280 n 280) m ∧ Bs w n h 280 wr) (fun v _ => lenOf v)
      case atStart => exact ⟨280, by omega, rfl, rfl, HB.out⟩
      case round =>
        obtain ⟨m, hm, rfl, hs, hB⟩ := hrel
        have HS := Lib.hid hs
        have HB2 := Lib.hid hB
        clear hs hB
        have HA : Hid (ByAt wr (some ⟨w.heap.size + 1, 0, none⟩) ((fl280 n 280).take m)) := Lib.hid (HB2.out.byAt m)
        have hlen : Hid (m = ((fl280 n 280).take m).length) := Lib.hid (by rw [List.length_take, fl280_len]; omega)
        cases hsp : spB ((fl280 n 280).take m)
        · have HSP := Lib.hid hsp
          have hres : Hid (strip (fl280 n 280) 280 = (fl280 n 280).take m) := Lib.hid (HS.out.symm.trans (strip_end _ m HSP.out))
          clear hsp
          have hmk : ∀ w', (Instr.makeSlice 39 (.int .i64 (1 + (m : Int))) (.int .i64 (1 + (m : Int)))).run Try.prog w' = .ok (.slice (some ⟨w'.heap.size, 0, none⟩) (1 + m) (1 + m)) (w'.alloc (.cells (bys (List.replicate (1 + m) 0)).toArray 5)) := make_bys (1 + m) (by omega)
          generalize hZ : bys (List.replicate (1 + m) 0) = Z at *
          have HZ := Lib.hid hZ
          clear hZ
          go_wp2_with (first | (go_at_call 96; refine (spare_any _ _ m 280 hlen (by omega) hm _ HA).mono ?_; rw [HSP.out]; rintro e w2 ⟨rfl, hb⟩; have HB3 := Lib.hid (HB2.out.keep hb); have HA3 := ByAt.at HA hb; clear hb; have d1 := HB3.out.has Z.toArray; have d2 := made_cell w2 m Z HZ.out; have d3 := made_frozen w2 Z.toArray; obtain ⟨D, r2, hD⟩ := cut_one w2.heap.size m; have HD := Lib.hid hD; clear hD) | (refine wpList_copy_splice rfl (.tmp 40) (.tmp 41) 39 39 rfl 5 Try.underlying39 sizeU8 D (some ⟨w.heap.size + 1, 0, none⟩) m m m 280 rfl rfl w2.heap.size 1 (Z.set 0 (.int .u8 (h : Int))) 5 (heap_alloc_new' w2 _) (bys ((fl280 n 280).take m)) ?q1 ?q2 ?q3 (bys_one _) w.heap.size w ?q4 ?q5 ?_; (case q1 => exact (by rw [bys_length, ← hlen.out]; exact (Nat.min_self m).symm)); (case q2 => exact fun h0 => ⟨HD.out (by rw [bys_length, ← hlen.out] at h0; exact h0), _, rfl, bys_at (HA3.out.keep ((Below.refl _ _).alloc (Nat.le_refl _) _))⟩); (case q3 => exact (by rw [bys_length, ← hlen.out, List.length_set, ← HZ.out, bys_length, List.length_replicate]; exact Nat.le_refl _)); (case q4 => exact HB3.out.below.alloc HB3.out.below.size _); (case q5 => exact HB3.out.below.size); intro w7 HR7 hb7; have HB7 := Lib.hid hb7; clear hb7))
          go_ret
          have hrow := made_row h m Z ((fl280 n 280).take m) HZ.out hlen.out
          have hlen2 : 1 + m = (h :: strip (fl280 n 280) 280).length := by rw [hres.out, List.length_cons, ← hlen.out]; omega
          refine ⟨some ⟨w2.heap.size, 0, none⟩, 1 + m, ?_, ?_, HB7.out⟩
          · rw [← hlen2]; rfl
          · rw [← hlen2]
            exact OwnS.of_row HR7.out (by rw [hrow, bys_length, List.length_cons, ← hlen.out]; omega) (by unfold maxLen; omega) hlen2 (by rw [hrow, hres.out, List.take_of_length_le (by rw [bys_length, List.length_cons, ← hlen.out]; omega)]) HB3.out.below.size (fun x hx => by
              rcases List.mem_cons.1 hx with h1 | h1
              · omega
              · rw [hres.out] at h1; exact fl280_lt n 280 x (List.mem_of_mem_take h1))
        · have HP := Lib.hid (sp_pos _ m hsp)
          have HSP := Lib.hid hsp
          have r1 : ∀ w', (Instr.slice 39 (.slice (some ⟨w.heap.size + 1, 0, none⟩) m 280) none (some (.int .i64 ((m : Int) - 1))) none).run Try.prog w' = .ok (.slice (some ⟨w.heap.size + 1, 0, none⟩) (m - 1) 280) w' := by
            rw [show (m : Int) - 1 = ((m - 1 : Nat) : Int) by have := HP.out; omega]
            exact row_to (w.heap.size + 1) m 280 (m - 1) (by omega)
          have hm1 : 1 ≤ m := HP.out
          clear hsp
          go_wp2_with (go_at_call 96; refine (spare_any _ _ m 280 hlen (by omega) hm _ HA).mono ?_; rw [HSP.out]; rintro e w2 ⟨rfl, hb⟩; have HB3 := Lib.hid (HB2.out.keep hb); clear hb)
          go_roundw
          case rel => exact ⟨m - 1, by omega, rfl, HS.out.on HP.out HSP.out, HB3.out⟩
          case measure => simp [lenOf]; omega
end Go.Proofs.Ytljelocomjbanaa

set_option linter.unusedSimpArgs false
set_option linter.unusedVariables false
set_option maxRecDepth 8000
namespace Go.Proofs.Ytljelocomjbanaa
open Go.RowKit Go.WideShapes Col Sm
theorem OwnS.blt {w : World} {B n cap : Nat} {A : Option Addr} {l : List Nat} (h : OwnS w B A n cap l) : ∀ k, MineK A k → k < w.heap.size := fun k hk => by
  rcases h.1.2 with ⟨h1, h3⟩ | ⟨g, cap', cur, h1, -, h2, -⟩
  · cases h1; cases hk
  · cases h1
    unfold MineK at hk
    simp at hk
    subst hk
    exact (Array.getElem?_eq_some_iff.1 h2).1
theorem putk_then {B : Nat} {w0 w w' : World} {A A1 : Option Addr} {l : List Nat} {e : Ending} (HK : Hid (Kept (MineK A) w0 w)) (HM : Hid (∀ k, MineK A1 k → MineK A k ∨ w0.heap.size ≤ k)) (h : PutK B w A1 l e w') :
    ∃ A' n cap, e = .returned (.slice A' n cap) ∧ Hid (OwnS w' B A' n cap l) ∧ Hid (Kept (MineK A) w0 w') ∧ Hid (∀ k, MineK A' k → MineK A k ∨ w0.heap.size ≤ k) ∧ n = l.length := by
  obtain ⟨A', n, cap, he, ho, hk, hm⟩ := h
  refine ⟨A', n, cap, he, ho, HK.out.trans' hk HM.out, fun k h => ?_, ho.len⟩
  rcases hm k h with h1 | h1
  · exact HM.out k h1
  · exact .inr (Nat.le_trans HK.out.size h1)
/-- A telling's bytes. -/
def telBy (t : Tel) : List Nat := ub t.c ++ (ub (Fl.canon t.s) ++ (ub (if t.o then 1 else 0) ++ (ub (Fl.canon t.lo) ++ ub (Fl.canon t.hi))))
theorem telBy_len (t : Tel) (h : t.Ok) : (telBy t).length ≤ 50 := by
  have h1 := ub10 h.c
  have h2 := ub10 (Fl.canon_lt _ h.s)
  have h3 := ub10 (n := if t.o then 1 else 0) (by split <;> omega)
  have h4 := ub10 (Fl.canon_lt _ h.lo)
  have h5 := ub10 (Fl.canon_lt _ h.hi)
  unfold telBy
  simp only [List.length_append]
  omega
/-- The cells of a telling in a block. -/
structure TelAt (w : World) (g : Nat) (c s : Nat) (o : Bool) (lo hi : Nat) : Prop where
  c0 : w.cell? ⟨g, 0, none⟩ = some (.int .u64 (c : Int))
  c1 : w.cell? ⟨g, 1, none⟩ = some (.float .f64 s)
  c2 : w.cell? ⟨g, 2, none⟩ = some (.bool o)
  c3 : w.cell? ⟨g, 3, none⟩ = some (.float .f64 lo)
  c4 : w.cell? ⟨g, 4, none⟩ = some (.float .f64 hi)
theorem TelAt.kept {S : Nat → Prop} {w w' : World} {g c s lo hi : Nat} {o : Bool} (h : TelAt w g c s o lo hi) (hk : Kept S w w') (hg : g < w.heap.size) (hn : ¬ S g) : TelAt w' g c s o lo hi :=
  ⟨(hk.cell (p := ⟨g, 0, none⟩) hg hn).trans h.c0, (hk.cell (p := ⟨g, 1, none⟩) hg hn).trans h.c1, (hk.cell (p := ⟨g, 2, none⟩) hg hn).trans h.c2, (hk.cell (p := ⟨g, 3, none⟩) hg hn).trans h.c3, (hk.cell (p := ⟨g, 4, none⟩) hg hn).trans h.c4⟩
theorem TelAt.of_row {w : World} {g c s lo hi : Nat} {o : Bool} {t : TypeId} {fr : Nat × Nat} (h : w.heap[g]? = some (.cells #[.int .u64 (c : Int), .float .f64 s, .bool o, .float .f64 lo, .float .f64 hi] t fr)) : TelAt w g c s o lo hi :=
  ⟨by rw [cell_of_row _ _ _ _ _ _ h]; rfl, by rw [cell_of_row _ _ _ _ _ _ h]; rfl, by rw [cell_of_row _ _ _ _ _ _ h]; rfl, by rw [cell_of_row _ _ _ _ _ _ h]; rfl, by rw [cell_of_row _ _ _ _ _ _ h]; rfl⟩

set_option maxHeartbeats 4000000 in
theorem layV_any (B : Nat) (A : Option Addr) (n cap : Nat) (l : List Nat) (t : Tel) (ht : t.Ok) (w : World) (H : Hid (OwnS w B A n cap l)) (hn : n ≤ 1000000) (hB : B ≤ w.heap.size) :
    Calls Try.prog 27 #[.slice A n cap, .agg #[.int .u64 (t.c : Int), .float .f64 t.s, .bool t.o, .float .f64 t.lo, .float .f64 t.hi]] w (PutK B w A (l ++ telBy t)) := by
  obtain ⟨c, s, o, lo, hi⟩ := t
  obtain ⟨k0, k1, k2, k3⟩ := ht
  have j1 := Fl.canon_lt _ k1
  have j2 := Fl.canon_lt _ k2
  have j3 := Fl.canon_lt _ k3
  have q0 := Lib.hid (ub10 k0); have q1 := Lib.hid (ub10 j1);  have q3 := Lib.hid (ub10 j2)
  have HL := Lib.hid H.out.len
  have HW : Hid (∀ k, MineK A k → k ≠ w.heap.size) := Lib.hid fun k hk e => by have := H.out.blt k hk; omega
  obtain ⟨w0, hw0⟩ : ∃ w0, w0 = w.alloc (.cells #[.int .u64 (c : Int), .float .f64 s, .bool o, .float .f64 lo, .float .f64 hi] 34) := ⟨_, rfl⟩
  have HB0 : Hid (Below w.heap.size w w0) := Lib.hid (by rw [hw0]; exact (Below.refl _ _).alloc (Nat.le_refl _) _)
  have HT : Hid (TelAt w0 w.heap.size c s o lo hi) := Lib.hid (by rw [hw0]; exact TelAt.of_row (heap_alloc_new' w _))
  have HSZ : Hid (w0.heap.size = w.heap.size + 1) := Lib.hid (by rw [hw0]; simp)
  have HO0 : Hid (OwnS w0 B A n cap l) := Lib.hid (H.out.keep HB0.out)
  have hB0 : B ≤ w0.heap.size := Nat.le_trans hB HB0.out.size
  have HK0 : Hid (Kept (MineK A) w0 w0) := Lib.hid (Kept.refl _ _)
  have HM0 : Hid (∀ k, MineK A k → MineK A k ∨ w0.heap.size ≤ k) := Lib.hid fun k h => .inl h
  have HTK : Hid (∀ w', Kept (MineK A) w0 w' → TelAt w' w.heap.size c s o lo hi) := Lib.hid fun w' hk => HT.out.kept hk (by have := HSZ.out; omega) (fun h => HW.out _ h rfl)
  have HZ := Lib.hid hw0
  obtain ⟨t0, t1, t2, t3, t4⟩ := HT.out
  cases o
  · have q2 := Lib.hid (ub10 (n := 0) (by decide))
    go_enter Try.func27, Try.ntmps27
    go_wp2_with fail
    rw [← HZ.out]
    refine (putU_k B A n cap (l) (c) k0 _ HO0 (by omega) hB0).mono ?_
    rintro e w1 hp
    obtain ⟨A1, n1, c1, rfl, HO1, HK1, HM1, hn1⟩ := putk_then HK0 HM0 hp
    have hn1' : n1 ≤ n + 10 := by rw [hn1]; simp only [List.length_append]; have := q0.out; have := HL.out; omega
    clear hp hn1 t0 t1 t2 t3 t4
    have hB1 : B ≤ w1.heap.size := Nat.le_trans hB0 HK1.out.size
    obtain ⟨t0, t1, t2, t3, t4⟩ := HTK.out w1 HK1.out
    go_wp2_with (go_at_call 68; (with_reducible refine (bits_any s k1 _).mono ?_); rintro e w' ⟨rfl, rfl⟩)
    refine (putU_k B A1 n1 c1 ((l) ++ ub c) (Fl.canon s) j1 _ HO1 (by omega) hB1).mono ?_
    rintro e w2 hp
    obtain ⟨A2, n2, c2, rfl, HO2, HK2, HM2, hn2⟩ := putk_then HK1 HM1 hp
    have hn2' : n2 ≤ n + 20 := by rw [hn2]; simp only [List.length_append]; have := q0.out; have := q1.out; have := HL.out; omega
    clear hp hn2 t0 t1 t2 t3 t4
    have hB2 : B ≤ w2.heap.size := Nat.le_trans hB0 HK2.out.size
    obtain ⟨t0, t1, t2, t3, t4⟩ := HTK.out w2 HK2.out
    go_wp2_with fail
    refine (putU_k B A2 n2 c2 (((l) ++ ub c) ++ ub (Fl.canon s)) (0) (by decide) _ HO2 (by omega) hB2).mono ?_
    rintro e w3 hp
    obtain ⟨A3, n3, c3, rfl, HO3, HK3, HM3, hn3⟩ := putk_then HK2 HM2 hp
    have hn3' : n3 ≤ n + 30 := by rw [hn3]; simp only [List.length_append]; have := q0.out; have := q1.out; have := q2.out; have := HL.out; omega
    clear hp hn3 t0 t1 t2 t3 t4
    have hB3 : B ≤ w3.heap.size := Nat.le_trans hB0 HK3.out.size
    obtain ⟨t0, t1, t2, t3, t4⟩ := HTK.out w3 HK3.out
    go_wp2_with (go_at_call 68; (with_reducible refine (bits_any lo k2 _).mono ?_); rintro e w' ⟨rfl, rfl⟩)
    refine (putU_k B A3 n3 c3 ((((l) ++ ub c) ++ ub (Fl.canon s)) ++ ub (0)) (Fl.canon lo) j2 _ HO3 (by omega) hB3).mono ?_
    rintro e w4 hp
    obtain ⟨A4, n4, c4, rfl, HO4, HK4, HM4, hn4⟩ := putk_then HK3 HM3 hp
    have hn4' : n4 ≤ n + 40 := by rw [hn4]; simp only [List.length_append]; have := q0.out; have := q1.out; have := q2.out; have := q3.out; have := HL.out; omega
    clear hp hn4 t0 t1 t2 t3 t4
    have hB4 : B ≤ w4.heap.size := Nat.le_trans hB0 HK4.out.size
    obtain ⟨t0, t1, t2, t3, t4⟩ := HTK.out w4 HK4.out
    go_wp2_with (go_at_call 68; (with_reducible refine (bits_any hi k3 _).mono ?_); rintro e w' ⟨rfl, rfl⟩)
    refine (putU_k B A4 n4 c4 (((((l) ++ ub c) ++ ub (Fl.canon s)) ++ ub (0)) ++ ub (Fl.canon lo)) (Fl.canon hi) j3 _ HO4 (by omega) hB4).mono ?_
    rintro e w5 hp
    obtain ⟨A5, n5, c5, rfl, HO5, HK5, HM5, hn5⟩ := putk_then HK4 HM4 hp
    clear hp hn5
    go_wp2
    go_ret
    have he : (((((l) ++ ub c) ++ ub (Fl.canon s)) ++ ub (0)) ++ ub (Fl.canon lo)) ++ ub (Fl.canon hi) = l ++ telBy ⟨c, s, false, lo, hi⟩ := by unfold telBy; simp [List.append_assoc]
    rw [he] at HO5
    exact ⟨A5, n5, c5, rfl, HO5.out, (Kept.of_below HB0.out).trans' HK5.out (fun i hi => .inl hi), fun k hk => (HM5.out k hk).imp_right fun h => Nat.le_trans HB0.out.size h⟩
  · have q2 := Lib.hid (ub10 (n := 1) (by decide))
    go_enter Try.func27, Try.ntmps27
    go_wp2_with fail
    rw [← HZ.out]
    refine (putU_k B A n cap (l) (c) k0 _ HO0 (by omega) hB0).mono ?_
    rintro e w1 hp
    obtain ⟨A1, n1, c1, rfl, HO1, HK1, HM1, hn1⟩ := putk_then HK0 HM0 hp
    have hn1' : n1 ≤ n + 10 := by rw [hn1]; simp only [List.length_append]; have := q0.out; have := HL.out; omega
    clear hp hn1 t0 t1 t2 t3 t4
    have hB1 : B ≤ w1.heap.size := Nat.le_trans hB0 HK1.out.size
    obtain ⟨t0, t1, t2, t3, t4⟩ := HTK.out w1 HK1.out
    go_wp2_with (go_at_call 68; (with_reducible refine (bits_any s k1 _).mono ?_); rintro e w' ⟨rfl, rfl⟩)
    refine (putU_k B A1 n1 c1 ((l) ++ ub c) (Fl.canon s) j1 _ HO1 (by omega) hB1).mono ?_
    rintro e w2 hp
    obtain ⟨A2, n2, c2, rfl, HO2, HK2, HM2, hn2⟩ := putk_then HK1 HM1 hp
    have hn2' : n2 ≤ n + 20 := by rw [hn2]; simp only [List.length_append]; have := q0.out; have := q1.out; have := HL.out; omega
    clear hp hn2 t0 t1 t2 t3 t4
    have hB2 : B ≤ w2.heap.size := Nat.le_trans hB0 HK2.out.size
    obtain ⟨t0, t1, t2, t3, t4⟩ := HTK.out w2 HK2.out
    go_wp2_with fail
    refine (putU_k B A2 n2 c2 (((l) ++ ub c) ++ ub (Fl.canon s)) (1) (by decide) _ HO2 (by omega) hB2).mono ?_
    rintro e w3 hp
    obtain ⟨A3, n3, c3, rfl, HO3, HK3, HM3, hn3⟩ := putk_then HK2 HM2 hp
    have hn3' : n3 ≤ n + 30 := by rw [hn3]; simp only [List.length_append]; have := q0.out; have := q1.out; have := q2.out; have := HL.out; omega
    clear hp hn3 t0 t1 t2 t3 t4
    have hB3 : B ≤ w3.heap.size := Nat.le_trans hB0 HK3.out.size
    obtain ⟨t0, t1, t2, t3, t4⟩ := HTK.out w3 HK3.out
    go_wp2_with (go_at_call 68; (with_reducible refine (bits_any lo k2 _).mono ?_); rintro e w' ⟨rfl, rfl⟩)
    refine (putU_k B A3 n3 c3 ((((l) ++ ub c) ++ ub (Fl.canon s)) ++ ub (1)) (Fl.canon lo) j2 _ HO3 (by omega) hB3).mono ?_
    rintro e w4 hp
    obtain ⟨A4, n4, c4, rfl, HO4, HK4, HM4, hn4⟩ := putk_then HK3 HM3 hp
    have hn4' : n4 ≤ n + 40 := by rw [hn4]; simp only [List.length_append]; have := q0.out; have := q1.out; have := q2.out; have := q3.out; have := HL.out; omega
    clear hp hn4 t0 t1 t2 t3 t4
    have hB4 : B ≤ w4.heap.size := Nat.le_trans hB0 HK4.out.size
    obtain ⟨t0, t1, t2, t3, t4⟩ := HTK.out w4 HK4.out
    go_wp2_with (go_at_call 68; (with_reducible refine (bits_any hi k3 _).mono ?_); rintro e w' ⟨rfl, rfl⟩)
    refine (putU_k B A4 n4 c4 (((((l) ++ ub c) ++ ub (Fl.canon s)) ++ ub (1)) ++ ub (Fl.canon lo)) (Fl.canon hi) j3 _ HO4 (by omega) hB4).mono ?_
    rintro e w5 hp
    obtain ⟨A5, n5, c5, rfl, HO5, HK5, HM5, hn5⟩ := putk_then HK4 HM4 hp
    clear hp hn5
    go_wp2
    go_ret
    have he : (((((l) ++ ub c) ++ ub (Fl.canon s)) ++ ub (1)) ++ ub (Fl.canon lo)) ++ ub (Fl.canon hi) = l ++ telBy ⟨c, s, true, lo, hi⟩ := by unfold telBy; simp [List.append_assoc]
    rw [he] at HO5
    exact ⟨A5, n5, c5, rfl, HO5.out, (Kept.of_below HB0.out).trans' HK5.out (fun i hi => .inl hi), fun k hk => (HM5.out k hk).imp_right fun h => Nat.le_trans HB0.out.size h⟩
theorem TelAt.below {B : Nat} {w w' : World} {g c s lo hi : Nat} {o : Bool} (h : TelAt w g c s o lo hi) (hk : Below B w w') (hg : g < B) : TelAt w' g c s o lo hi :=
  ⟨(hk.cell (p := ⟨g, 0, none⟩) hg).trans h.c0, (hk.cell (p := ⟨g, 1, none⟩) hg).trans h.c1, (hk.cell (p := ⟨g, 2, none⟩) hg).trans h.c2, (hk.cell (p := ⟨g, 3, none⟩) hg).trans h.c3, (hk.cell (p := ⟨g, 4, none⟩) hg).trans h.c4⟩
set_option maxHeartbeats 4000000 in
theorem refLayV_any (t : Tel) (ht : t.Ok) (w : World) :
    Calls Try.prog 28 #[.agg #[.int .u64 (t.c : Int), .float .f64 t.s, .bool t.o, .float .f64 t.lo, .float .f64 t.hi]] w (Puts w.heap.size w (telBy t)) := by
  obtain ⟨c, s, o, lo, hi⟩ := t
  obtain ⟨k0, k1, k2, k3⟩ := ht
  have j1 := Fl.canon_lt _ k1
  have j2 := Fl.canon_lt _ k2
  have j3 := Fl.canon_lt _ k3
  have q0 := Lib.hid (ub10 k0); have q1 := Lib.hid (ub10 j1); have q3 := Lib.hid (ub10 j2); have q4 := Lib.hid (ub10 j3)
  obtain ⟨w0, hw0⟩ : ∃ w0, w0 = w.alloc (.cells #[.int .u64 (c : Int), .float .f64 s, .bool o, .float .f64 lo, .float .f64 hi] 34) := ⟨_, rfl⟩
  have HB0 : Hid (Below w.heap.size w w0) := Lib.hid (by rw [hw0]; exact (Below.refl _ _).alloc (Nat.le_refl _) _)
  have HT : Hid (TelAt w0 w.heap.size c s o lo hi) := Lib.hid (by rw [hw0]; exact TelAt.of_row (heap_alloc_new' w _))
  have HSZ : Hid (w0.heap.size = w.heap.size + 1) := Lib.hid (by rw [hw0]; simp)
  have HTB : Hid (∀ w', Below w0.heap.size w0 w' → TelAt w' w.heap.size c s o lo hi) := Lib.hid fun w' hk => HT.out.below hk (by have := HSZ.out; omega)
  have HZ := Lib.hid hw0
  have HU0 := Lib.hid (refU_any c k0)
  have HU1 := Lib.hid (refU_any _ j1)
  have HU3 := Lib.hid (refU_any _ j2)
  have HU4 := Lib.hid (refU_any _ j3)
  obtain ⟨t0, t1, t2, t3, t4⟩ := HT.out
  cases o
  · have HOBIT : Hid (∀ wx : World, ByAt (wx.alloc (.cells #[.int .u8 0] 5)) (some ⟨wx.heap.size, 0, none⟩) [0]) := Lib.hid fun wx => by_one wx 0 (by decide)
    have HUB : Hid (ub 0 = [0]) := Lib.hid (ub_lt (by decide))
    go_enter Try.func28, Try.ntmps28
    go_wp2_with fail
    rw [← HZ.out]
    refine (HU0.out w0).mono ?_
    rintro e w1 hp
    obtain ⟨A1, n1, c1, rfl, HO1, HB1, hn1⟩ := hp.at
    have HN1 := Lib.hid hn1
    have hn1' : n1 ≤ 10 := by have := q0.out; omega
    clear hp hn1 t0 t1 t2 t3 t4
    obtain ⟨t0, t1, t2, t3, t4⟩ := HTB.out w1 HB1.out
    go_wp2_with (go_at_call 54; (with_reducible refine (refBits_any s k1 _).mono ?_); rintro e w' ⟨rfl, rfl⟩)
    refine (HU1.out w1).mono ?_
    rintro e w2 hp
    obtain ⟨A2, n2, c2, rfl, HO2, HB2, hn2⟩ := hp.at
    have HN2 := Lib.hid hn2
    have hn2' : n2 ≤ 10 := by have := q1.out; omega
    have HO12 := Lib.hid (HO1.out.keep HB2.out)
    have HB02 := Lib.hid (below_to HB1.out HB2.out)
    clear hp hn2 t0 t1 t2 t3 t4
    obtain ⟨t0, t1, t2, t3, t4⟩ := HTB.out w2 HB02.out
    go_wp2_with (first
      | (refine wpList_append_by rfl (.tmp 7) (.tmp 11) rfl w0.heap.size A1 n1 c1 (ub c) rfl HO12.out A2 n2 c2 (ub (Fl.canon s)) rfl HN2.out HO2.out.byAt (by omega) HB02.out.size ?_; intro A3 c3 w3 ho3 hg3 hr3; have HO3 := Lib.hid ho3; have HB3 := Lib.hid (HB02.out.grown hg3 HB02.out.size HO12.out.base); clear ho3 hg3 hr3 t0 t1 t2 t3 t4; obtain ⟨t0, t1, t2, t3, t4⟩ := HTB.out w3 HB3.out)
      | (refine wpList_append_by rfl (.tmp 18) (.tmp 19) rfl w0.heap.size A3 (n1 + n2) c3 (ub c ++ ub (Fl.canon s)) rfl (HO3.out.keep ((Below.refl _ _).alloc (Nat.le_refl _) (.cells #[.int .u8 0] 5))) (some ⟨w3.heap.size, 0, none⟩) 1 1 [0] rfl rfl (HOBIT.out w3) (by omega) (HB3.out.alloc HB3.out.size _).size ?_; intro A4 c4 w4 ho4 hg4 hr4; have HO4 := Lib.hid ho4; have HB4 := Lib.hid ((HB3.out.alloc HB3.out.size _).grown hg4 (HB3.out.alloc HB3.out.size _).size HO3.out.base); clear ho4 hg4 hr4 t0 t1 t2 t3 t4; obtain ⟨t0, t1, t2, t3, t4⟩ := HTB.out w4 HB4.out)
      | (go_at_call 54; (with_reducible refine (refBits_any lo k2 _).mono ?_); rintro e w' ⟨rfl, rfl⟩))
    obtain ⟨n5, hn5⟩ : ∃ n5, n5 = n1 + n2 + 1 := ⟨_, rfl⟩
    rw [← hn5] at HO4 ⊢
    have hn5' : n5 ≤ 21 := by omega
    clear hn5
    refine (HU3.out w4).mono ?_
    rintro e w5 hp
    obtain ⟨A5, n6, c5, rfl, HO5, HB5, hn6⟩ := hp.at
    have HN5 := Lib.hid hn6
    have hn6' : n6 ≤ 10 := by have := q3.out; omega
    have HO45 := Lib.hid (HO4.out.keep HB5.out)
    have HB05 := Lib.hid (below_to HB4.out HB5.out)
    clear hp hn6 t0 t1 t2 t3 t4
    obtain ⟨t0, t1, t2, t3, t4⟩ := HTB.out w5 HB05.out
    go_wp2_with (first
      | (refine wpList_append_by rfl (.tmp 21) (.tmp 25) rfl w0.heap.size A4 n5 c4 _ rfl HO45.out A5 n6 c5 (ub (Fl.canon lo)) rfl HN5.out HO5.out.byAt (by omega) HB05.out.size ?_; intro A6 c6 w6 ho6 hg6 hr6; have HO6 := Lib.hid ho6; have HB6 := Lib.hid (HB05.out.grown hg6 HB05.out.size HO45.out.base); clear ho6 hg6 hr6 t0 t1 t2 t3 t4; obtain ⟨t0, t1, t2, t3, t4⟩ := HTB.out w6 HB6.out)
      | (go_at_call 54; (with_reducible refine (refBits_any hi k3 _).mono ?_); rintro e w' ⟨rfl, rfl⟩))
    obtain ⟨n7, hn7⟩ : ∃ n7, n7 = n5 + n6 := ⟨_, rfl⟩
    rw [← hn7] at HO6 ⊢
    have hn7' : n7 ≤ 31 := by omega
    clear hn7
    refine (HU4.out w6).mono ?_
    rintro e w7 hp
    obtain ⟨A7, n8, c7, rfl, HO7, HB7, hn8⟩ := hp.at
    have HN7 := Lib.hid hn8
    have hn8' : n8 ≤ 10 := by have := q4.out; omega
    have HO67 := Lib.hid (HO6.out.keep HB7.out)
    have HB07 := Lib.hid (below_to HB6.out HB7.out)
    clear hp hn8 t0 t1 t2 t3 t4
    go_wp2_with (refine wpList_append_by rfl (.tmp 27) (.tmp 31) rfl w0.heap.size A6 n7 c6 _ rfl HO67.out A7 n8 c7 (ub (Fl.canon hi)) rfl HN7.out HO7.out.byAt (by omega) HB07.out.size ?_; intro A8 c8 w8 ho8 hg8 hr8; have HO8 := Lib.hid ho8; have HB8 := Lib.hid (HB07.out.grown hg8 HB07.out.size HO67.out.base); clear ho8 hg8 hr8)
    have he : ((((ub c ++ ub (Fl.canon s)) ++ [0]) ++ ub (Fl.canon lo)) ++ ub (Fl.canon hi)) = telBy ⟨c, s, false, lo, hi⟩ := by unfold telBy; rw [show (if false = true then (1 : Nat) else 0) = 0 from rfl, HUB.out]; simp [List.append_assoc]
    rw [he] at HO8
    go_ret
    exact ⟨A8, _, c8, rfl, HO8.out.more HB0.out.size, HB0.out.trans (HB8.out.mono HB0.out.size), Nat.le_trans HB0.out.size HB8.out.size⟩
  · have HOBIT : Hid (∀ wx : World, ByAt (wx.alloc (.cells #[.int .u8 1] 5)) (some ⟨wx.heap.size, 0, none⟩) [1]) := Lib.hid fun wx => by_one wx 1 (by decide)
    have HUB : Hid (ub 1 = [1]) := Lib.hid (ub_lt (by decide))
    go_enter Try.func28, Try.ntmps28
    go_wp2_with fail
    rw [← HZ.out]
    refine (HU0.out w0).mono ?_
    rintro e w1 hp
    obtain ⟨A1, n1, c1, rfl, HO1, HB1, hn1⟩ := hp.at
    have HN1 := Lib.hid hn1
    have hn1' : n1 ≤ 10 := by have := q0.out; omega
    clear hp hn1 t0 t1 t2 t3 t4
    obtain ⟨t0, t1, t2, t3, t4⟩ := HTB.out w1 HB1.out
    go_wp2_with (go_at_call 54; (with_reducible refine (refBits_any s k1 _).mono ?_); rintro e w' ⟨rfl, rfl⟩)
    refine (HU1.out w1).mono ?_
    rintro e w2 hp
    obtain ⟨A2, n2, c2, rfl, HO2, HB2, hn2⟩ := hp.at
    have HN2 := Lib.hid hn2
    have hn2' : n2 ≤ 10 := by have := q1.out; omega
    have HO12 := Lib.hid (HO1.out.keep HB2.out)
    have HB02 := Lib.hid (below_to HB1.out HB2.out)
    clear hp hn2 t0 t1 t2 t3 t4
    obtain ⟨t0, t1, t2, t3, t4⟩ := HTB.out w2 HB02.out
    go_wp2_with (first
      | (refine wpList_append_by rfl (.tmp 7) (.tmp 11) rfl w0.heap.size A1 n1 c1 (ub c) rfl HO12.out A2 n2 c2 (ub (Fl.canon s)) rfl HN2.out HO2.out.byAt (by omega) HB02.out.size ?_; intro A3 c3 w3 ho3 hg3 hr3; have HO3 := Lib.hid ho3; have HB3 := Lib.hid (HB02.out.grown hg3 HB02.out.size HO12.out.base); clear ho3 hg3 hr3 t0 t1 t2 t3 t4; obtain ⟨t0, t1, t2, t3, t4⟩ := HTB.out w3 HB3.out)
      | (refine wpList_append_by rfl (.tmp 15) (.tmp 16) rfl w0.heap.size A3 (n1 + n2) c3 (ub c ++ ub (Fl.canon s)) rfl (HO3.out.keep ((Below.refl _ _).alloc (Nat.le_refl _) (.cells #[.int .u8 1] 5))) (some ⟨w3.heap.size, 0, none⟩) 1 1 [1] rfl rfl (HOBIT.out w3) (by omega) (HB3.out.alloc HB3.out.size _).size ?_; intro A4 c4 w4 ho4 hg4 hr4; have HO4 := Lib.hid ho4; have HB4 := Lib.hid ((HB3.out.alloc HB3.out.size _).grown hg4 (HB3.out.alloc HB3.out.size _).size HO3.out.base); clear ho4 hg4 hr4 t0 t1 t2 t3 t4; obtain ⟨t0, t1, t2, t3, t4⟩ := HTB.out w4 HB4.out)
      | (go_at_call 54; (with_reducible refine (refBits_any lo k2 _).mono ?_); rintro e w' ⟨rfl, rfl⟩))
    obtain ⟨n5, hn5⟩ : ∃ n5, n5 = n1 + n2 + 1 := ⟨_, rfl⟩
    rw [← hn5] at HO4 ⊢
    have hn5' : n5 ≤ 21 := by omega
    clear hn5
    refine (HU3.out w4).mono ?_
    rintro e w5 hp
    obtain ⟨A5, n6, c5, rfl, HO5, HB5, hn6⟩ := hp.at
    have HN5 := Lib.hid hn6
    have hn6' : n6 ≤ 10 := by have := q3.out; omega
    have HO45 := Lib.hid (HO4.out.keep HB5.out)
    have HB05 := Lib.hid (below_to HB4.out HB5.out)
    clear hp hn6 t0 t1 t2 t3 t4
    obtain ⟨t0, t1, t2, t3, t4⟩ := HTB.out w5 HB05.out
    go_wp2_with (first
      | (refine wpList_append_by rfl (.tmp 21) (.tmp 25) rfl w0.heap.size A4 n5 c4 _ rfl HO45.out A5 n6 c5 (ub (Fl.canon lo)) rfl HN5.out HO5.out.byAt (by omega) HB05.out.size ?_; intro A6 c6 w6 ho6 hg6 hr6; have HO6 := Lib.hid ho6; have HB6 := Lib.hid (HB05.out.grown hg6 HB05.out.size HO45.out.base); clear ho6 hg6 hr6 t0 t1 t2 t3 t4; obtain ⟨t0, t1, t2, t3, t4⟩ := HTB.out w6 HB6.out)
      | (go_at_call 54; (with_reducible refine (refBits_any hi k3 _).mono ?_); rintro e w' ⟨rfl, rfl⟩))
    obtain ⟨n7, hn7⟩ : ∃ n7, n7 = n5 + n6 := ⟨_, rfl⟩
    rw [← hn7] at HO6 ⊢
    have hn7' : n7 ≤ 31 := by omega
    clear hn7
    refine (HU4.out w6).mono ?_
    rintro e w7 hp
    obtain ⟨A7, n8, c7, rfl, HO7, HB7, hn8⟩ := hp.at
    have HN7 := Lib.hid hn8
    have hn8' : n8 ≤ 10 := by have := q4.out; omega
    have HO67 := Lib.hid (HO6.out.keep HB7.out)
    have HB07 := Lib.hid (below_to HB6.out HB7.out)
    clear hp hn8 t0 t1 t2 t3 t4
    go_wp2_with (refine wpList_append_by rfl (.tmp 27) (.tmp 31) rfl w0.heap.size A6 n7 c6 _ rfl HO67.out A7 n8 c7 (ub (Fl.canon hi)) rfl HN7.out HO7.out.byAt (by omega) HB07.out.size ?_; intro A8 c8 w8 ho8 hg8 hr8; have HO8 := Lib.hid ho8; have HB8 := Lib.hid (HB07.out.grown hg8 HB07.out.size HO67.out.base); clear ho8 hg8 hr8)
    have he : ((((ub c ++ ub (Fl.canon s)) ++ [1]) ++ ub (Fl.canon lo)) ++ ub (Fl.canon hi)) = telBy ⟨c, s, true, lo, hi⟩ := by unfold telBy; rw [show (if true = true then (1 : Nat) else 0) = 1 from rfl, HUB.out]; simp [List.append_assoc]
    rw [he] at HO8
    go_ret
    exact ⟨A8, _, c8, rfl, HO8.out.more HB0.out.size, HB0.out.trans (HB8.out.mono HB0.out.size), Nat.le_trans HB0.out.size HB8.out.size⟩
end Go.Proofs.Ytljelocomjbanaa

set_option linter.unusedSimpArgs false
set_option linter.unusedVariables false
set_option maxRecDepth 8000
namespace Go.Proofs.Ytljelocomjbanaa
open Go.RowKit Go.WideShapes Col Sm
/-- A narrower class of worlds serves from here on. -/
theorem wpAnyH_more {P : Program} {ops : Array Oper} {Q : Exit → Act → World → Prop} {md : Region.Mode} {S S' : World → Prop} (h : ∀ w, S' w → S w) : ∀ {n : Nat} {listed : Array Bool} {a : Act} {w : World}, wpAnyH P md ops Q S' n listed a w → wpAnyH P md ops Q S n listed a w
  | 0, _, _, _, H => H
  | n + 1, _, _, _, H => ⟨H.1, fun i hi => wpOp_mono (fun _ _ h' => ⟨h _ h'.1, wpAnyH_more h h'.2⟩) (H.2 i hi)⟩
theorem ub_app {n m : Nat} {r q : List Nat} (hn : n < 18446744073709551616) (hm : m < 18446744073709551616) (h : ub n ++ r = ub m ++ q) : n = m ∧ r = q := by
  have h1 := grp_ub r n 0 ⟨by omega, hn⟩ (.inr rfl)
  have h2 := grp_ub q m 0 ⟨by omega, hm⟩ (.inr rfl)
  rw [h, h2] at h1
  injection h1 with h1
  injection h1 with h3 h4
  exact ⟨h3.symm, h4.symm⟩
theorem telBy_iff (a b : Tel) (ha : a.Ok) (hb : b.Ok) : telBy a = telBy b ↔ telB a b = true := by
  have bo : ∀ o : Bool, (if o = true then (1 : Nat) else 0) < 18446744073709551616 := fun o => by split <;> omega
  unfold telB
  simp only [Bool.and_eq_true, decide_eq_true_eq]
  constructor
  · intro h
    unfold telBy at h
    obtain ⟨h1, h⟩ := ub_app ha.c hb.c h
    obtain ⟨h2, h⟩ := ub_app (Fl.canon_lt _ ha.s) (Fl.canon_lt _ hb.s) h
    obtain ⟨h3, h⟩ := ub_app (bo _) (bo _) h
    obtain ⟨h4, h⟩ := ub_app (Fl.canon_lt _ ha.lo) (Fl.canon_lt _ hb.lo) h
    obtain ⟨h5, -⟩ := ub_app (r := []) (q := []) (Fl.canon_lt _ ha.hi) (Fl.canon_lt _ hb.hi) (by rw [h])
    refine ⟨⟨⟨⟨by omega, ?_⟩, h2⟩, h4⟩, h5⟩
    revert h3
    cases a.o <;> cases b.o <;> simp
  · rintro ⟨⟨⟨⟨h1, h2⟩, h3⟩, h4⟩, h5⟩
    unfold telBy
    rw [h2, h3, h4, h5, show a.c = b.c by omega]
theorem telB_self (a : Tel) : telB a a = true := by unfold telB; simp
theorem b_str {l m : List Nat} (hl : ∀ x ∈ l, x < 256) (hm : ∀ x ∈ m, x < 256) {b : Bool} (h : decide (l = m) = b) (w : World) : (binOp .eql 9 (.string (strB l)) (.string (strB m))).run Try.prog w = .ok (.bool b) w := by
  have h2 := beq_strB hl hm
  rw [h] at h2
  rw [← h2]
  go_simp
theorem b_bool (b : Bool) (w : World) : (binOp .eql 4 (.bool b) (.bool b)).run Try.prog w = .ok (.bool true) w := by
  cases b <;> rfl
theorem telBy_lt (t : Tel) : ∀ x ∈ telBy t, x < 256 := fun x hx => by
  unfold telBy at hx
  simp only [List.mem_append] at hx
  rcases hx with h | h | h | h | h <;> exact ub_bytes _ x h
theorem putk_nil {B : Nat} {w w' : World} {l : List Nat} {e : Ending} (h : PutK B w none l e w') : ∃ A n c, e = .returned (.slice A n c) ∧ ByAt w' A l ∧ n = l.length ∧ Below w.heap.size w w' := by
  obtain ⟨A, n, c, he, ho, hk, -⟩ := h
  exact ⟨A, n, c, he, ho.byAt, ho.len, hk.below (Nat.le_refl _) (fun k h => by cases h)⟩
theorem layV_nil (t : Tel) (ht : t.Ok) (w : World) :
    Calls Try.prog 27 #[.slice none 0 0, .agg #[.int .u64 (t.c : Int), .float .f64 t.s, .bool t.o, .float .f64 t.lo, .float .f64 t.hi]] w fun e w' => ∃ A n c, e = .returned (.slice A n c) ∧ ByAt w' A (telBy t) ∧ n = (telBy t).length ∧ Below w.heap.size w w' :=
  (layV_any w.heap.size none 0 0 [] t ht w (OwnS.nil _ _) (by decide) (Nat.le_refl _)).mono fun e w' h => putk_nil h
theorem yb_convS {ops : Array Oper} {S : World → Prop} {op : Oper} {a : Act} (hw : Region.wanted op (yielded ops a.tmps) = true) (x : Operand) (ho : op.op = .convert 39 9 x) (v u : Value) (hx : a.eval x = v)
    (h : ∀ w, S w → (convert 39 9 v).run Try.prog w = .ok u w) : YieldsIf Try.prog ops S op u a :=
  .inl ⟨hw, fun w hw' => by
    unfold execOp
    simp only [ho, hx, Sem.run_bind, Sem.run_pure, h w hw', Result.andThen_ok]⟩

end Go.Proofs.Ytljelocomjbanaa

set_option linter.unusedSimpArgs false
set_option linter.unusedVariables false
set_option maxRecDepth 8000
namespace Go.Proofs.Ytljelocomjbanaa
open Go.RowKit Go.WideShapes Col

theorem assert_gu (v : Value) (w : World) : (Instr.typeAssert (.iface 142 v) 20 142 true).run Try.prog w = .ok (.tuple #[v, .bool true]) w := by kernel_rfl
theorem infoRd : (Try.prog.info? 107).isSome = true := by kernel_rfl
theorem eql_ptr (g : Nat) (w : World) : (binOp BinOp.eql 43 (.pointer (some ⟨g, 0, none⟩)) (.pointer (some ⟨g, 0, none⟩))).run Try.prog w = .ok (.bool true) w := by
  obtain ⟨j, hj⟩ := Option.isSome_iff_exists.1 infoRd
  exact run_eql_ptr_same w _ Try.underlying43 hj
set_option maxHeartbeats 1000000 in
theorem threw_yes (g : Nat) (w : World) :
    Calls Try.prog 62 #[.pointer (some ⟨g, 0, none⟩), .iface 142 (.agg #[.pointer (some ⟨g, 0, none⟩)])] w fun e w' => e = .returned (.bool true) ∧ Below w.heap.size w w' := by
  have ha := assert_gu (.agg #[.pointer (some ⟨g, 0, none⟩)])
  have hp := eql_ptr g
  go_enter Try.func62, Try.ntmps62
  go_wp2
  go_ret
  exact ⟨rfl, (Below.refl _ _).alloc (Nat.le_refl _) _⟩

theorem try1_tmps (x : Value) : (#[x] ++ Array.replicate (Try.f61.ntmps - (#[x] : Array Value).size) undef) = #[x, undef, undef, undef, undef, undef, undef, undef, undef, undef, undef, undef, undef, undef, undef] := by
  rw [Try.ntmps61]; rfl
theorem Gone.cells {w : World} {g : Nat} (h : Gone w g) : ∃ x y z, w.cell? ⟨g, 0, none⟩ = some x ∧ w.cell? ⟨g, 1, none⟩ = some (.bool y) ∧ w.cell? ⟨g, 2, none⟩ = some (.bool z) ∧ w.frozen? ⟨g, 0, none⟩ = false ∧ w.frozen? ⟨g, 1, none⟩ = false ∧ w.frozen? ⟨g, 2, none⟩ = false := by
  obtain ⟨x, y, z, hrow⟩ := h
  exact ⟨x, y, z, by rw [cell_of_row _ _ _ _ _ _ hrow]; rfl, by rw [cell_of_row _ _ _ _ _ _ hrow]; rfl, by rw [cell_of_row _ _ _ _ _ _ hrow]; rfl, row_frozen hrow 0, row_frozen hrow 1, row_frozen hrow 2⟩
theorem kept_wipe (w : World) (g : Nat) (a b c : Value) : Kept (Only g) w (((w.setCell ⟨g, 0, none⟩ a).setCell ⟨g, 1, none⟩ b).setCell ⟨g, 2, none⟩ c) :=
  (((Kept.refl (Only g) w).setCell ⟨g, 0, none⟩ a (.inl rfl)).setCell ⟨g, 1, none⟩ b (.inl rfl)).setCell ⟨g, 2, none⟩ c (.inl rfl)
/-- The deferred closure, where the reader gave up: what was thrown is caught. -/
theorem try1_panicking (v g : Nat) (older : List PanicEntry) (w : World) (hv : w.cell? ⟨v, 0, none⟩ = some (.pointer (some ⟨g, 0, none⟩))) (hG : Hid (Gone w g)) (hvg : v ≠ g) (hlt : v < w.heap.size) :
    CallsD Try.prog 61 #[.pointer (some ⟨v, 0, none⟩)] (.panicking (gu g :: older)) w fun e u' w' =>
      e = .returned (.tuple #[]) ∧ u' = .panicking ({ v := .iface 142 (.agg #[.pointer (some ⟨g, 0, none⟩)]), recovered := true } :: older) ∧ Kept (Only g) w w' := by
  obtain ⟨x, y, z, c0, c1, c2, f0, f1, f2⟩ := hG.out.cells
  refine callsD_of_wpS Try.func61 rfl fun c₀ cs hu => ?_
  rw [try1_tmps]
  apply wpS_seq
  refine wpS_of_wp ?_
  go_wp2
  simp only [Exit.thenS]
  have hk := kept_wipe w g (.slice none 0 0) (.bool false) (.bool false)
  have hv2 := (hk.cell (p := ⟨v, 0, none⟩) hlt hvg).trans hv
  have HK := Lib.hid hk
  clear hk
  generalize ((w.setCell ⟨g, 0, none⟩ (.slice none 0 0)).setCell ⟨g, 1, none⟩ (.bool false)).setCell ⟨g, 2, none⟩ (.bool false) = w2 at *
  clear c0 c1 c2 f0 f1 f2 hv
  apply wpS_seq
  apply wpS_region
  simp [wpOpsS, go_sem, recoverD, hu, gu, Exit.thenS]
  refine wpS_of_wp ?_
  go_wp2_with (go_at_call 62; refine (threw_yes g _).mono ?_; rintro e w3 ⟨rfl, hb⟩)
  exact ⟨rfl, _, rfl, _, results_none rfl _ _ _, rfl, rfl, HK.out.trans (Kept.of_below hb)⟩
/-- Where all went well it only forgets. -/
theorem try1_returning (v g : Nat) (w : World) (hv : w.cell? ⟨v, 0, none⟩ = some (.pointer (some ⟨g, 0, none⟩))) (hG : Hid (Gone w g)) (hvg : v ≠ g) (hlt : v < w.heap.size) :
    CallsD Try.prog 61 #[.pointer (some ⟨v, 0, none⟩)] .returning w fun e u' w' => e = .returned (.tuple #[]) ∧ u' = .returning ∧ Kept (Only g) w w' := by
  obtain ⟨x, y, z, c0, c1, c2, f0, f1, f2⟩ := hG.out.cells
  refine callsD_of_wpS Try.func61 rfl fun c₀ cs hu => ?_
  rw [try1_tmps]
  apply wpS_seq
  refine wpS_of_wp ?_
  go_wp2
  simp only [Exit.thenS]
  have hk := kept_wipe w g (.slice none 0 0) (.bool false) (.bool false)
  have HK := Lib.hid hk
  clear hk
  generalize ((w.setCell ⟨g, 0, none⟩ (.slice none 0 0)).setCell ⟨g, 1, none⟩ (.bool false)).setCell ⟨g, 2, none⟩ (.bool false) = w2 at *
  clear c0 c1 c2 f0 f1 f2 hv
  apply wpS_seq
  apply wpS_region
  simp [wpOpsS, go_sem, recoverD, hu, gu, Exit.thenS]
  refine wpS_of_wp ?_
  go_wp2
  exact ⟨rfl, .returning, by rw [← hu], _, results_none rfl _ _ _, rfl, rfl, HK.out⟩
end Go.Proofs.Ytljelocomjbanaa

set_option linter.unusedSimpArgs false
set_option linter.unusedVariables false
set_option maxRecDepth 8000
namespace Go.Proofs.Ytljelocomjbanaa
open Go.RowKit Go.WideShapes Col

/-- How a function ends that Try calls. -/
def Tried (g : Nat) (S : Nat → Prop) (R : Bool → World → Prop) (w1 : World) (e : Ending) (w2 : World) : Prop :=
  Kept (fun k => S k ∨ k = g) w1 w2 ∧ ((∃ q', e = .returned (.tuple #[]) ∧ Rd w2 g q' ∧ R (decide (q' = [])) w2) ∨ (e = .panicked [gu g] ∧ Gone w2 g ∧ R false w2))
/-- How Try ends. -/
def TryEnds (S : Nat → Prop) (R : Bool → World → Prop) (w : World) (e : Ending) (w' : World) : Prop := ∃ b, e = .returned (.bool b) ∧ R b w' ∧ Kept S w w'

set_option maxHeartbeats 1000000 in
theorem try_any (F : Nat) (first cap : Array Value) (A : Option Addr) (C : Nat) (q : List Nat) (n : Nat) (hn : Hid (n = q.length)) (hC : n ≤ C) (hC' : C ≤ maxLen) (w : World) (HA : Hid (ByAt w A q)) (S : Nat → Prop) (hS : ∀ k, S k → k < w.heap.size) (R : Nat → Bool → World → Prop) (R' : Bool → World → Prop)
    (hR : ∀ g b w2 w3, w.heap.size ≤ g → R g b w2 → Kept (Only g) w2 w3 → R' b w3)
    (hf : ∀ g w1, w.heap.size ≤ g → Rd w1 g q → Below w.heap.size w w1 → Calls Try.prog F (first.push (.pointer (some ⟨g, 0, none⟩)) ++ cap) w1 (Tried g S (R g) w1))
    (hent : ∀ (args : Array Value) (w : World), (callFunc F args).run Try.prog w = .ok (.enter F args) w) :
    Calls Try.prog 23 #[.slice A n C, .func (.func F) first cap] w (TryEnds S R' w) := by
  have hmf : ∀ (fn : Fn) (first cap : Array Value) (w : World), (Instr.makeFunc fn first cap).run Try.prog w = .ok (.func fn first cap) w := fun _ _ _ _ => rfl
  have hnil : ∀ w : World, (binOp BinOp.eql 45 (.func (.func F) first cap) .nilFunc).run Try.prog w = .ok (.bool false) w := fun _ => by kernel_rfl
  have HS := Lib.hid hS
  have HR := Lib.hid hR
  have HF := Lib.hid hf
  clear hS hR hf
  obtain ⟨W2, hW2⟩ : ∃ W2, W2 = (w.alloc (.cells #[.slice A n C, .bool true, .bool false] 107)).alloc (.cells #[.pointer (some ⟨w.heap.size, 0, none⟩)] 43) := ⟨_, rfl⟩
  have hbl : Below w.heap.size w W2 := by
    rw [hW2]; exact ((Below.refl _ _).alloc (Nat.le_refl _) _).alloc (by simp) _
  have hrow : W2.heap[w.heap.size]? = some (.cells #[.slice A n C, .bool true, .bool false] 107 (0, 0)) := by
    rw [hW2]; exact heap_alloc2_old w _ _
  have hrd : Rd W2 w.heap.size q := ⟨A, C, by rw [← hn.out]; exact hrow, by rw [← hn.out]; exact hC, hC', HA.out.keep hbl, fun a ha h0 => by
    obtain ⟨b, off, e, hb, -⟩ := HA.out.spot h0
    rw [e] at ha; injection ha with ha; subst ha; exact hb⟩
  have hv : W2.cell? ⟨w.heap.size + 1, 0, none⟩ = some (.pointer (some ⟨w.heap.size, 0, none⟩)) := by
    rw [hW2]; have h := heap_alloc2_new w (.cells #[.slice A n C, .bool true, .bool false] 107) (.cells #[.pointer (some ⟨w.heap.size, 0, none⟩)] 43)
    rw [cell_of_row _ _ _ _ _ _ h]; rfl
  have hsz : w.heap.size + 1 < W2.heap.size := by rw [hW2]; simp
  have HW := Lib.hid hW2
  have HBL := Lib.hid hbl
  have HRD := Lib.hid hrd
  have HV := Lib.hid hv
  have HSZ := Lib.hid hsz
  clear hrow hbl hrd hv hsz hW2
  go_enter_defers Try.func23, Try.ntmps23
  go_wp2_with fail
  rw [← HW.out]
  refine (HF.out w.heap.size _ (Nat.le_refl _) HRD.out HBL.out).mono ?_
  have hvg : w.heap.size + 1 ≠ w.heap.size := by omega
  have fin : ∀ (w3 w4 : World) (b : Bool), Kept (fun k => S k ∨ k = w.heap.size) W2 w3 → Kept (Only w.heap.size) w3 w4 → R w.heap.size b w3 → TryEnds S R' w (.returned (.bool b)) w4 := fun w3 w4 b h1 h2 hr =>
    ⟨b, rfl, HR.out w.heap.size b w3 w4 (Nat.le_refl _) hr h2,
      ((Kept.of_below HBL.out).trans' h1 (fun i hi => by
        rcases hi with h | h
        · exact .inl h
        · exact .inr (by subst h; exact Nat.le_refl _))).trans' h2 (fun i hi => .inr (by have hi : i = w.heap.size := hi; subst hi; exact Nat.le_refl _))⟩
  have FIN := Lib.hid fin
  clear fin
  have keepv : ∀ (w3 : World), Kept (fun k => S k ∨ k = w.heap.size) W2 w3 → w3.cell? ⟨w.heap.size + 1, 0, none⟩ = some (.pointer (some ⟨w.heap.size, 0, none⟩)) ∧ w.heap.size + 1 < w3.heap.size := fun w3 h1 =>
    ⟨(h1.cell (p := ⟨w.heap.size + 1, 0, none⟩) HSZ.out (by
      rintro (h | h)
      · have h2 := HS.out _ h
        have h2 : w.heap.size + 1 < w.heap.size := h2
        omega
      · exact hvg h)).trans HV.out, Nat.lt_of_lt_of_le HSZ.out h1.size⟩
  have KV := Lib.hid keepv
  clear keepv
  rintro e w3 ⟨hk, ⟨q', rfl, hrd, hr⟩ | ⟨rfl, hg, hr⟩⟩
  · obtain ⟨hv3, hz3⟩ := KV.out _ hk
    obtain ⟨A', C', hA⟩ := hrd
    have HK := Lib.hid hk
    have HRR := Lib.hid hr
    have HAA := Lib.hid hA
    have c0 := hA.c0
    have c2 := hA.c2
    have HG := Lib.hid hA.gone
    clear hk hr hA
    obtain ⟨N, hN⟩ : ∃ N, N = q'.length := ⟨_, rfl⟩
    rw [← hN] at c0
    have HN := Lib.hid hN
    clear hN
    by_cases hz : N = 0
    · subst hz
      have hq : q' = [] := List.eq_nil_of_length_eq_zero HN.out.symm
      subst hq
      have HRT : Hid (R w.heap.size true w3) := Lib.hid (by have := HRR.out; simpa using this)
      clear HRR
      go_wp2
      refine leaves_cons (f := 61) (args := #[.pointer (some ⟨w.heap.size + 1, 0, none⟩)]) (by simp) (by simp [go_sem]) ?_
      refine (try1_returning _ _ _ hv3 HG hvg hz3).mono ?_
      rintro e u' w4 ⟨rfl, rfl, hk4⟩
      refine ⟨_, results_tmp (t := 4) rfl _ _ _, ?_⟩
      exact FIN.out _ _ _ HK.out hk4 HRT.out
    · have hz2 : ((N : Int) == 0) = false := by rw [beq_eq_false_iff_ne]; omega
      have HZ := Lib.hid hz
      have hq : decide (q' = []) = false := by
        rw [decide_eq_false_iff_not]; intro h
        have := HN.out; rw [h] at this; exact HZ.out this
      rw [hq] at HRR
      clear hz hq
      go_wp2
      refine leaves_cons (f := 61) (args := #[.pointer (some ⟨w.heap.size + 1, 0, none⟩)]) (by simp) (by simp [go_sem]) ?_
      refine (try1_returning _ _ _ hv3 HG hvg hz3).mono ?_
      rintro e u' w4 ⟨rfl, rfl, hk4⟩
      refine ⟨_, results_tmp (t := 4) rfl _ _ _, ?_⟩
      exact FIN.out _ _ _ HK.out hk4 HRR.out
  · obtain ⟨hv3, hz3⟩ := KV.out _ hk
    have HK := Lib.hid hk
    have HRR := Lib.hid hr
    have HG := Lib.hid hg
    clear hk hr hg
    go_wp2
    refine leaves_cons (f := 61) (args := #[.pointer (some ⟨w.heap.size + 1, 0, none⟩)]) (by simp) (by simp [go_sem]) ?_
    refine (try1_panicking _ _ [] _ hv3 HG hvg hz3).mono ?_
    rintro e u' w4 ⟨rfl, rfl, hk4⟩
    simp [Leaves, settle, results, Try.results23, go_sem]
    exact FIN.out _ _ _ HK.out hk4 HRR.out
end Go.Proofs.Ytljelocomjbanaa

set_option linter.unusedSimpArgs false
set_option linter.unusedVariables false
set_option maxRecDepth 8000
namespace Go.Proofs.Ytljelocomjbanaa
open Go.RowKit Go.WideShapes Col Sm
theorem Rd.highA {w w' : World} {g : Nat} {q : List Nat} {S : Nat → Prop} (h : Rd w g q) (hk : Kept S w w') (hS : ∀ k, S k → g < k) : Rd w' g q := by
  obtain ⟨A, C, h⟩ := h
  exact ⟨A, C, h.keep hk (fun e => by have := hS g e; omega) fun a ha h0 hs => by have := h.low a ha h0; have := hS _ hs; omega⟩
theorem Rd.gltA {w : World} {g : Nat} {q : List Nat} (h : Rd w g q) : g < w.heap.size := by obtain ⟨A, C, h⟩ := h; exact h.lt
theorem run_store_flA (w : World) (a : Addr) (y : Nat) (u : Value) (hc : w.cell? a = some u) (hf : w.frozen? a = false) : (store a (.float .f64 y)).run Try.prog w = .ok () (w.setCell a (.float .f64 y)) := by
  rw [run_store Try.prog w a _ _ rfl]
  simp [stored, hc, hf]
theorem uP_ub {x : Nat} {r : List Nat} (h : x < 18446744073709551616) : uP 18446744073709551615 (ub x ++ r) = some (x, r) := by
  unfold uP
  rw [grp_ub r x 0 ⟨by omega, h⟩ (.inr rfl)]
  simp; omega
theorem uP_ubm {x m : Nat} {r : List Nat} (h : x < 18446744073709551616) (hm : x ≤ m) : uP m (ub x ++ r) = some (x, r) := by
  unfold uP
  rw [grp_ub r x 0 ⟨by omega, h⟩ (.inr rfl)]
  simp; omega
theorem uP_ubn {x m : Nat} {r : List Nat} (h : x < 18446744073709551616) (hm : m < x) : uP m (ub x ++ r) = none := by
  unfold uP
  rw [grp_ub r x 0 ⟨by omega, h⟩ (.inr rfl)]
  simp; omega
set_option maxHeartbeats 1000000 in
theorem readBits_yes (g x : Nat) (r : List Nat) (hx : x < 18446744073709551616) (hc : Hid (Fl.canon x = x)) (hql : (ub x ++ r).length ≤ 1099511627776) (w : World) (H : Hid (Rd w g (ub x ++ r))) :
    Calls Try.prog 65 #[.pointer (some ⟨g, 0, none⟩)] w (Yes g w (.int .u64 (x : Int)) r) := by
  have HU : Hid (uP 18446744073709551615 (ub x ++ r) = some (x, r)) := Lib.hid (uP_ub hx)
  have HUY := Lib.hid (uint_yes g 18446744073709551615 x (ub x ++ r) r HU (by omega) w H)
  have HOF : Hid (∀ w, Calls Try.prog 49 #[.int .u64 (x : Int)] w fun e w' => e = .returned (.float .f64 x) ∧ w = w') := Lib.hid fun w => by
    have h := of_any x hx w
    rwa [hc.out] at h
  have HBT : Hid (∀ w, Calls Try.prog 68 #[.float .f64 x] w fun e w' => e = .returned (.int .u64 (x : Int)) ∧ w = w') := Lib.hid fun w => by
    have h := bits_any x hx w
    rwa [hc.out] at h
  clear hql H
  go_enter Try.func65, Try.ntmps65
  go_wp2_with (first
    | (go_at_call 63; (refine (HUY.out).mono ?_); rintro e w1 hy; obtain ⟨rfl, HR1, HK1⟩ := Yes.rd hy; clear hy)
    | (go_at_call 49; (with_reducible refine (HOF.out _).mono ?_); rintro e w' ⟨rfl, rfl⟩)
    | (go_at_call 68; (with_reducible refine (HBT.out _).mono ?_); rintro e w' ⟨rfl, rfl⟩)
    | (go_at_call 66; (with_reducible refine (check_true _ _).mono ?_); rintro e w2 ⟨rfl, rfl⟩))
  go_ret
  exact ⟨rfl, HR1.out, HK1.out⟩
/-- While a telling is read: the reader, the telling so far, the result's own block. -/
structure RV (w : World) (g : Nat) (q : List Nat) (cs : List Value) (wr : World) : Prop where
  rd : Rd wr g q
  row : wr.heap[w.heap.size + 1]? = some (.cells cs.toArray 34 (0, 0))
  res : wr.heap[w.heap.size]? = some (.cells #[.int .u64 0, .float .f64 0, .bool false, .float .f64 0, .float .f64 0] 34 (0, 0))
  kept : Kept (fun k => k = g ∨ w.heap.size ≤ k) w wr
  lt : g < w.heap.size
section
variable {w wr w2 : World} {g : Nat} {q r : List Nat} {cs : List Value} {v : Value} {e : Ending}
theorem RV.read (H : RV w g q cs wr) (hr : Rd w2 g r) (hk : Kept (Only g) wr w2) : RV w g r cs w2 :=
  ⟨hr, hk.heap H.row (fun h => by have h : w.heap.size + 1 = g := h; have := H.lt; omega), hk.heap H.res (fun h => by have h : w.heap.size = g := h; have := H.lt; omega), H.kept.trans (hk.mono fun k h => .inl (.inl h)), H.lt⟩
theorem RV.set (H : RV w g q cs wr) (i : Nat) (u : Value) : RV w g q (cs.set i u) (wr.setCell ⟨w.heap.size + 1, i, none⟩ u) :=
  ⟨H.rd.highA (S := fun k => k = w.heap.size + 1) ((Kept.refl _ _).setCell _ _ (.inl rfl)) (fun k hk => by have := H.lt; omega), row_set H.row i u,
    (Below.heap_setCell _ _ _ _ (by show _ ≠ w.heap.size + 1; omega)).trans H.res, H.kept.setCell _ _ (.inl (.inr (by show w.heap.size ≤ w.heap.size + 1; omega))), H.lt⟩
theorem RV.cell (H : RV w g q cs wr) (i : Nat) (hi : i < cs.length) : wr.cell? ⟨w.heap.size + 1, i, none⟩ = some cs[i] ∧ wr.frozen? ⟨w.heap.size + 1, i, none⟩ = false :=
  ⟨row_cell H.row i hi, row_frozen H.row i⟩
end
theorem RV.start (w : World) (g : Nat) (q : List Nat) (H : Rd w g q) : RV w g q [.int .u64 0, .float .f64 0, .bool false, .float .f64 0, .float .f64 0] ((w.alloc (.cells #[.int .u64 0, .float .f64 0, .bool false, .float .f64 0, .float .f64 0] 34)).alloc (.cells #[.int .u64 0, .float .f64 0, .bool false, .float .f64 0, .float .f64 0] 34)) := by
  have hb : Kept (fun k => k = g ∨ w.heap.size ≤ k) w ((w.alloc (.cells #[.int .u64 0, .float .f64 0, .bool false, .float .f64 0, .float .f64 0] 34)).alloc (.cells #[.int .u64 0, .float .f64 0, .bool false, .float .f64 0, .float .f64 0] 34)) := ((Kept.refl _ _).alloc _).alloc _
  exact ⟨H.highA (S := fun _ => False) (((Kept.refl _ _).alloc _).alloc _) (fun _ h => h.elim), heap_alloc2_new w _ _, heap_alloc2_old w _ _, hb, H.gltA⟩
/-- What a reading of a telling ends with. -/
def TYes (g : Nat) (w : World) (t : Tel) (r : List Nat) (e : Ending) (w' : World) : Prop := e = .returned (.agg #[.int .u64 (t.c : Int), .float .f64 t.s, .bool t.o, .float .f64 t.lo, .float .f64 t.hi]) ∧ Rd w' g r ∧ Kept (fun k => k = g ∨ w.heap.size ≤ k) w w'
def telC (t : Tel) : Tel := ⟨t.c, Fl.canon t.s, t.o, Fl.canon t.lo, Fl.canon t.hi⟩

set_option maxHeartbeats 4000000 in
theorem readValue_no (g : Nat) (t : Tel) (ht : t.Ok) (hc : 1099511627776 < t.c) (w : World) (H : Hid (Rd w g (telBy t))) :
    Calls Try.prog 30 #[.pointer (some ⟨g, 0, none⟩)] w fun e w' => e = .panicked [gu g] ∧ Gone w' g ∧ Kept (fun k => k = g ∨ w.heap.size ≤ k) w w' := by
  have HR := Lib.hid (RV.start w g _ H.out)
  have HL := Lib.hid (telBy_len t ht)
  have HU : Hid (uP 1099511627776 (telBy t) = none) := Lib.hid (uP_ubn ht.c hc)
  go_enter Try.func30, Try.ntmps30
  go_wp2_with (go_at_call 63; (refine (uint_no g 1099511627776 (telBy t) HU (telBy t).length (Lib.hid rfl) (by have := HL.out; omega) _ (Lib.hid HR.out.rd)).mono ?_); rintro e w1 ⟨rfl, h1, h2⟩)
  exact ⟨rfl, rfl, h1, HR.out.kept.trans (h2.mono fun k h => .inl (.inl h))⟩

theorem kept_setRow (w : World) (g : Nat) (c : Array Value) : Kept (fun k => k = g) w (w.setRow g c) :=
  ⟨rfl, rfl, rfl, by show w.heap.size ≤ (w.heap.modify g _).size; simp, fun k _ hn => setRow_other w g k c hn⟩
set_option maxHeartbeats 8000000 in
theorem readValue_yes (g : Nat) (t : Tel) (ht : t.Ok) (hcm : t.c ≤ 1099511627776) (w : World) (H : Hid (Rd w g (telBy t))) :
    Calls Try.prog 30 #[.pointer (some ⟨g, 0, none⟩)] w (TYes g w (telC t) []) := by
  have HR := Lib.hid (RV.start w g _ H.out)
  have hL := telBy_len t ht
  obtain ⟨c, s, o, lo, hi⟩ := t
  obtain ⟨k0, k1, k2, k3⟩ := ht
  have j1 := Fl.canon_lt _ k1
  have j2 := Fl.canon_lt _ k2
  have j3 := Fl.canon_lt _ k3
  have K1 : Hid (Fl.canon (Fl.canon s) = Fl.canon s) := Lib.hid (Fl.canon_canon s)
  have K2 : Hid (Fl.canon (Fl.canon lo) = Fl.canon lo) := Lib.hid (Fl.canon_canon lo)
  have K3 : Hid (Fl.canon (Fl.canon hi) = Fl.canon hi) := Lib.hid (Fl.canon_canon hi)
  have HOF : ∀ x, x < 18446744073709551616 → Fl.canon x = x → Hid (∀ w, Calls Try.prog 49 #[.int .u64 (x : Int)] w fun e w' => e = .returned (.float .f64 x) ∧ w = w') := fun x hx hc => Lib.hid fun w => by
    have h := of_any x hx w
    rwa [hc] at h
  have HOF1 := HOF _ j1 K1.out
  have HOF2 := HOF _ j2 K2.out
  have HOF3 := HOF _ j3 K3.out
  clear HOF H
  cases o
  · obtain ⟨q4, hq4⟩ : ∃ q4, q4 = ub (Fl.canon hi) ++ [] := ⟨_, rfl⟩
    obtain ⟨q3, hq3⟩ : ∃ q3, q3 = ub (Fl.canon lo) ++ q4 := ⟨_, rfl⟩
    obtain ⟨q2, hq2⟩ : ∃ q2, q2 = ub 0 ++ q3 := ⟨_, rfl⟩
    obtain ⟨q1, hq1⟩ : ∃ q1, q1 = ub (Fl.canon s) ++ q2 := ⟨_, rfl⟩
    have hq0 : telBy ⟨c, s, false, lo, hi⟩ = ub c ++ q1 := by
      unfold telBy
      rw [hq1, hq2, hq3, hq4, show (if (false : Bool) = true then (1 : Nat) else 0) = 0 from rfl, List.append_nil]
    rw [hq0] at HR hL
    have HQ0 := Lib.hid hL
    rw [List.length_append] at hL
    have HQ1 : Hid ((ub (Fl.canon s) ++ q2).length ≤ 50) := Lib.hid (by rw [← hq1]; omega)
    have hL1 : q1.length ≤ 50 := by omega
    rw [hq1, List.length_append] at hL1
    have HQ2 : Hid ((ub 0 ++ q3).length ≤ 50) := Lib.hid (by rw [← hq2]; omega)
    have hL2 : q2.length ≤ 50 := by omega
    rw [hq2, List.length_append] at hL2
    have HQ3 : Hid ((ub (Fl.canon lo) ++ q4).length ≤ 50) := Lib.hid (by rw [← hq3]; omega)
    have hL3 : q3.length ≤ 50 := by omega
    rw [hq3, List.length_append] at hL3
    have HQ4 : Hid ((ub (Fl.canon hi) ++ []).length ≤ 50) := Lib.hid (by rw [← hq4]; omega)
    have HU0 : Hid (uP 1099511627776 (ub c ++ q1) = some (c, q1)) := Lib.hid (uP_ubm k0 hcm)
    have HUB : Hid (uP 1 (ub 0 ++ q3) = some (0, q3)) := Lib.hid (uP_ubm (by decide) (by decide))
    have E1 := Lib.hid hq1; have E2 := Lib.hid hq2; have E3 := Lib.hid hq3; have E4 := Lib.hid hq4
    clear hL hL1 hL2 hL3 hq0 hq1 hq2 hq3 hq4
    go_enter Try.func30, Try.ntmps30
    go_wp2_with fail
    refine (uint_yes g 1099511627776 c (ub c ++ q1) q1 HU0 (by have := HQ0.out; omega) _ (Lib.hid HR.out.rd)).mono ?_
    rintro e w1 hy
    obtain ⟨rfl, HR1, HK1⟩ := Yes.rd hy
    have HV1 := HR.out.read HR1.out HK1.out
    clear hy HR1 HK1
    have HW1 := Lib.hid HV1
    obtain ⟨c0, f0⟩ := HV1.cell 0 (by decide)
    clear HV1
    go_wp2_with fail
    have HX1 := Lib.hid (HW1.out.set 0 (.int .u64 (c : Int)))
    clear c0 f0 HW1
    generalize w1.setCell _ _ = x1 at *
    refine (readBits_yes g (Fl.canon s) q2 j1 K1 (by have := HQ1.out; omega) _ (Lib.hid (E1.out ▸ HX1.out.rd))).mono ?_
    rintro e w2 hy
    obtain ⟨rfl, HR2, HK2⟩ := Yes.rd hy
    have HW2 := Lib.hid (HX1.out.read HR2.out HK2.out)
    clear hy HR2 HK2 HX1
    obtain ⟨c1, f1⟩ := HW2.out.cell 1 (by simp)
    have s1 := run_store_flA _ _ (Fl.canon s) _ c1 f1
    go_wp2_with (go_at_call 49; (with_reducible refine (HOF1.out _).mono ?_); rintro e w' ⟨rfl, rfl⟩)
    have HX2 := Lib.hid (HW2.out.set 1 (.float .f64 (Fl.canon s)))
    clear c1 f1 s1 HW2
    generalize w2.setCell _ _ = x2 at *
    refine (uint_yes g 1 0 (ub 0 ++ q3) q3 HUB (by have := HQ2.out; omega) _ (Lib.hid (E2.out ▸ HX2.out.rd))).mono ?_
    rintro e w3 hy
    obtain ⟨rfl, HR3, HK3⟩ := Yes.rd hy
    have HW3 := Lib.hid (HX2.out.read HR3.out HK3.out)
    clear hy HR3 HK3 HX2
    obtain ⟨c2, f2⟩ := HW3.out.cell 2 (by simp)
    go_wp2_with fail
    have HX3 := Lib.hid (HW3.out.set 2 (.bool false))
    clear c2 f2 HW3
    generalize w3.setCell _ _ = x3 at *
    refine (readBits_yes g (Fl.canon lo) q4 j2 K2 (by have := HQ3.out; omega) _ (Lib.hid (E3.out ▸ HX3.out.rd))).mono ?_
    rintro e w4 hy
    obtain ⟨rfl, HR4, HK4⟩ := Yes.rd hy
    have HW4 := Lib.hid (HX3.out.read HR4.out HK4.out)
    clear hy HR4 HK4 HX3
    obtain ⟨c3, f3⟩ := HW4.out.cell 3 (by simp)
    have s3 := run_store_flA _ _ (Fl.canon lo) _ c3 f3
    go_wp2_with (go_at_call 49; (with_reducible refine (HOF2.out _).mono ?_); rintro e w' ⟨rfl, rfl⟩)
    have HX4 := Lib.hid (HW4.out.set 3 (.float .f64 (Fl.canon lo)))
    clear c3 f3 s3 HW4
    generalize w4.setCell _ _ = x4 at *
    refine (readBits_yes g (Fl.canon hi) [] j3 K3 (by have := HQ4.out; omega) _ (Lib.hid (E4.out ▸ HX4.out.rd))).mono ?_
    rintro e w5 hy
    obtain ⟨rfl, HR5, HK5⟩ := Yes.rd hy
    have HW5 := Lib.hid (HX4.out.read HR5.out HK5.out)
    clear hy HR5 HK5 HX4
    obtain ⟨c4, f4⟩ := HW5.out.cell 4 (by simp)
    have s4 := run_store_flA _ _ (Fl.canon hi) _ c4 f4
    have HX5 : Hid (RV w g [] [.int .u64 (c : Int), .float .f64 (Fl.canon s), .bool false, .float .f64 (Fl.canon lo), .float .f64 (Fl.canon hi)] (w5.setCell ⟨w.heap.size + 1, 4, none⟩ (.float .f64 (Fl.canon hi)))) := Lib.hid (HW5.out.set 4 (.float .f64 (Fl.canon hi)))
    clear HW5
    go_wp2_with (first
      | (go_at_call 49; (with_reducible refine (HOF3.out _).mono ?_); rintro e w' ⟨rfl, rfl⟩)
      | (refine wpList_load_row rfl 34 (.tmp 3) rfl (w.heap.size + 1) rfl _ #[.int .u64 (c : Int), .float .f64 (Fl.canon s), .bool false, .float .f64 (Fl.canon lo), .float .f64 (Fl.canon hi)] (0, 0) _ HX5.out.row uA rfl (iA _ _ _ _ _) ?_)
      | (refine wpList_store_row rfl 34 (.tmp 2) (.tmp 23) rfl w.heap.size #[.int .u64 (c : Int), .float .f64 (Fl.canon s), .bool false, .float .f64 (Fl.canon lo), .float .f64 (Fl.canon hi)] rfl rfl _ _ HX5.out.res (iA _ _ _ _ _) rfl (by simp [Value.oneCell']) ?_))
    have hk := HX5.out.kept
    have hrd := HX5.out.rd
    have hlt := HX5.out.lt
    have hrs := HX5.out.res
    clear HX5 c4 f4 s4
    generalize w5.setCell _ _ = x5 at *
    have hkr : Kept (fun k => k = w.heap.size) x5 (x5.setRow w.heap.size #[.int .u64 (c : Int), .float .f64 (Fl.canon s), .bool false, .float .f64 (Fl.canon lo), .float .f64 (Fl.canon hi)]) := kept_setRow x5 _ _
    exact post_row 2 34 Try.results30 rfl w.heap.size 34 _ (0, 0) _ rfl (setRow_heap _ _ _ _ _ _ hrs) uA rfl (iA _ _ _ _ _) ⟨rfl, hrd.highA hkr (fun k hk => by omega), hk.trans (hkr.mono fun k h => .inl (.inr (by omega)))⟩
  · obtain ⟨q4, hq4⟩ : ∃ q4, q4 = ub (Fl.canon hi) ++ [] := ⟨_, rfl⟩
    obtain ⟨q3, hq3⟩ : ∃ q3, q3 = ub (Fl.canon lo) ++ q4 := ⟨_, rfl⟩
    obtain ⟨q2, hq2⟩ : ∃ q2, q2 = ub 1 ++ q3 := ⟨_, rfl⟩
    obtain ⟨q1, hq1⟩ : ∃ q1, q1 = ub (Fl.canon s) ++ q2 := ⟨_, rfl⟩
    have hq0 : telBy ⟨c, s, true, lo, hi⟩ = ub c ++ q1 := by
      unfold telBy
      rw [hq1, hq2, hq3, hq4, show (if (true : Bool) = true then (1 : Nat) else 0) = 1 from rfl, List.append_nil]
    rw [hq0] at HR hL
    have HQ0 := Lib.hid hL
    rw [List.length_append] at hL
    have HQ1 : Hid ((ub (Fl.canon s) ++ q2).length ≤ 50) := Lib.hid (by rw [← hq1]; omega)
    have hL1 : q1.length ≤ 50 := by omega
    rw [hq1, List.length_append] at hL1
    have HQ2 : Hid ((ub 1 ++ q3).length ≤ 50) := Lib.hid (by rw [← hq2]; omega)
    have hL2 : q2.length ≤ 50 := by omega
    rw [hq2, List.length_append] at hL2
    have HQ3 : Hid ((ub (Fl.canon lo) ++ q4).length ≤ 50) := Lib.hid (by rw [← hq3]; omega)
    have hL3 : q3.length ≤ 50 := by omega
    rw [hq3, List.length_append] at hL3
    have HQ4 : Hid ((ub (Fl.canon hi) ++ []).length ≤ 50) := Lib.hid (by rw [← hq4]; omega)
    have HU0 : Hid (uP 1099511627776 (ub c ++ q1) = some (c, q1)) := Lib.hid (uP_ubm k0 hcm)
    have HUB : Hid (uP 1 (ub 1 ++ q3) = some (1, q3)) := Lib.hid (uP_ubm (by decide) (by decide))
    have E1 := Lib.hid hq1; have E2 := Lib.hid hq2; have E3 := Lib.hid hq3; have E4 := Lib.hid hq4
    clear hL hL1 hL2 hL3 hq0 hq1 hq2 hq3 hq4
    go_enter Try.func30, Try.ntmps30
    go_wp2_with fail
    refine (uint_yes g 1099511627776 c (ub c ++ q1) q1 HU0 (by have := HQ0.out; omega) _ (Lib.hid HR.out.rd)).mono ?_
    rintro e w1 hy
    obtain ⟨rfl, HR1, HK1⟩ := Yes.rd hy
    have HV1 := HR.out.read HR1.out HK1.out
    clear hy HR1 HK1
    have HW1 := Lib.hid HV1
    obtain ⟨c0, f0⟩ := HV1.cell 0 (by decide)
    clear HV1
    go_wp2_with fail
    have HX1 := Lib.hid (HW1.out.set 0 (.int .u64 (c : Int)))
    clear c0 f0 HW1
    generalize w1.setCell _ _ = x1 at *
    refine (readBits_yes g (Fl.canon s) q2 j1 K1 (by have := HQ1.out; omega) _ (Lib.hid (E1.out ▸ HX1.out.rd))).mono ?_
    rintro e w2 hy
    obtain ⟨rfl, HR2, HK2⟩ := Yes.rd hy
    have HW2 := Lib.hid (HX1.out.read HR2.out HK2.out)
    clear hy HR2 HK2 HX1
    obtain ⟨c1, f1⟩ := HW2.out.cell 1 (by simp)
    have s1 := run_store_flA _ _ (Fl.canon s) _ c1 f1
    go_wp2_with (go_at_call 49; (with_reducible refine (HOF1.out _).mono ?_); rintro e w' ⟨rfl, rfl⟩)
    have HX2 := Lib.hid (HW2.out.set 1 (.float .f64 (Fl.canon s)))
    clear c1 f1 s1 HW2
    generalize w2.setCell _ _ = x2 at *
    refine (uint_yes g 1 1 (ub 1 ++ q3) q3 HUB (by have := HQ2.out; omega) _ (Lib.hid (E2.out ▸ HX2.out.rd))).mono ?_
    rintro e w3 hy
    obtain ⟨rfl, HR3, HK3⟩ := Yes.rd hy
    have HW3 := Lib.hid (HX2.out.read HR3.out HK3.out)
    clear hy HR3 HK3 HX2
    obtain ⟨c2, f2⟩ := HW3.out.cell 2 (by simp)
    go_wp2_with fail
    have HX3 := Lib.hid (HW3.out.set 2 (.bool true))
    clear c2 f2 HW3
    generalize w3.setCell _ _ = x3 at *
    refine (readBits_yes g (Fl.canon lo) q4 j2 K2 (by have := HQ3.out; omega) _ (Lib.hid (E3.out ▸ HX3.out.rd))).mono ?_
    rintro e w4 hy
    obtain ⟨rfl, HR4, HK4⟩ := Yes.rd hy
    have HW4 := Lib.hid (HX3.out.read HR4.out HK4.out)
    clear hy HR4 HK4 HX3
    obtain ⟨c3, f3⟩ := HW4.out.cell 3 (by simp)
    have s3 := run_store_flA _ _ (Fl.canon lo) _ c3 f3
    go_wp2_with (go_at_call 49; (with_reducible refine (HOF2.out _).mono ?_); rintro e w' ⟨rfl, rfl⟩)
    have HX4 := Lib.hid (HW4.out.set 3 (.float .f64 (Fl.canon lo)))
    clear c3 f3 s3 HW4
    generalize w4.setCell _ _ = x4 at *
    refine (readBits_yes g (Fl.canon hi) [] j3 K3 (by have := HQ4.out; omega) _ (Lib.hid (E4.out ▸ HX4.out.rd))).mono ?_
    rintro e w5 hy
    obtain ⟨rfl, HR5, HK5⟩ := Yes.rd hy
    have HW5 := Lib.hid (HX4.out.read HR5.out HK5.out)
    clear hy HR5 HK5 HX4
    obtain ⟨c4, f4⟩ := HW5.out.cell 4 (by simp)
    have s4 := run_store_flA _ _ (Fl.canon hi) _ c4 f4
    have HX5 : Hid (RV w g [] [.int .u64 (c : Int), .float .f64 (Fl.canon s), .bool true, .float .f64 (Fl.canon lo), .float .f64 (Fl.canon hi)] (w5.setCell ⟨w.heap.size + 1, 4, none⟩ (.float .f64 (Fl.canon hi)))) := Lib.hid (HW5.out.set 4 (.float .f64 (Fl.canon hi)))
    clear HW5
    go_wp2_with (first
      | (go_at_call 49; (with_reducible refine (HOF3.out _).mono ?_); rintro e w' ⟨rfl, rfl⟩)
      | (refine wpList_load_row rfl 34 (.tmp 3) rfl (w.heap.size + 1) rfl _ #[.int .u64 (c : Int), .float .f64 (Fl.canon s), .bool true, .float .f64 (Fl.canon lo), .float .f64 (Fl.canon hi)] (0, 0) _ HX5.out.row uA rfl (iA _ _ _ _ _) ?_)
      | (refine wpList_store_row rfl 34 (.tmp 2) (.tmp 23) rfl w.heap.size #[.int .u64 (c : Int), .float .f64 (Fl.canon s), .bool true, .float .f64 (Fl.canon lo), .float .f64 (Fl.canon hi)] rfl rfl _ _ HX5.out.res (iA _ _ _ _ _) rfl (by simp [Value.oneCell']) ?_))
    have hk := HX5.out.kept
    have hrd := HX5.out.rd
    have hlt := HX5.out.lt
    have hrs := HX5.out.res
    clear HX5 c4 f4 s4
    generalize w5.setCell _ _ = x5 at *
    have hkr : Kept (fun k => k = w.heap.size) x5 (x5.setRow w.heap.size #[.int .u64 (c : Int), .float .f64 (Fl.canon s), .bool true, .float .f64 (Fl.canon lo), .float .f64 (Fl.canon hi)]) := kept_setRow x5 _ _
    exact post_row 2 34 Try.results30 rfl w.heap.size 34 _ (0, 0) _ rfl (setRow_heap _ _ _ _ _ _ hrs) uA rfl (iA _ _ _ _ _) ⟨rfl, hrd.highA hkr (fun k hk => by omega), hk.trans (hkr.mono fun k h => .inl (.inr (by omega)))⟩
end Go.Proofs.Ytljelocomjbanaa

set_option linter.unusedSimpArgs false
set_option linter.unusedVariables false
set_option maxRecDepth 8000
namespace Go.Proofs.Ytljelocomjbanaa
open Go.RowKit Sm

theorem accN_sum (l : List Nat) : accN l = (l.map unit).sum % top :=
  list_snoc (p := fun l => accN l = (l.map unit).sum % top) (by simp [accN]) (fun l b ih => by
    rw [accN_snoc, ih, List.map_append, List.sum_append, List.map_singleton, List.sum_singleton, Nat.mod_add_mod]) l
theorem accN_perm {l m : List Nat} (h : List.Perm l m) : accN l = accN m := by
  rw [accN_sum, accN_sum, List.Perm.sum_nat (h.map unit)]
theorem accH_foldr (l : List Nat) : accH l = (l.map kindB).foldr (· ||| ·) 0 :=
  list_snoc (p := fun l => accH l = (l.map kindB).foldr (· ||| ·) 0) (by simp [accH]) (fun l b ih => by
    have key : ∀ (q : List Nat) (x : Nat), q.foldr (· ||| ·) x = q.foldr (· ||| ·) 0 ||| x := by
      intro q x
      induction q with
      | nil => simp
      | cons y r i => rw [List.foldr_cons, List.foldr_cons, i, Nat.or_assoc]
    rw [accH_snoc, ih, List.map_append, List.foldr_append, List.map_singleton, List.foldr_cons, List.foldr_nil, Nat.or_zero, key _ (kindB b)]) l
theorem accH_perm {l m : List Nat} (h : List.Perm l m) : accH l = accH m := by
  rw [accH_foldr, accH_foldr]
  exact (h.map kindB).foldr_eq' (fun x _ y _ z => by rw [← Nat.or_assoc, ← Nat.or_assoc, Nat.or_comm y x]) 0
theorem accN_append (p q : List Nat) : accN (p ++ q) = (accN p + accN q) % top := by
  rw [accN_sum, accN_sum, accN_sum, List.map_append, List.sum_append, Nat.add_mod]
theorem accH_append (p q : List Nat) : accH (p ++ q) = accH p ||| accH q := by
  rw [accH_foldr, accH_foldr, accH_foldr, List.map_append, List.foldr_append]
  induction p.map kindB with
  | nil => simp
  | cons y r i => rw [List.foldr_cons, List.foldr_cons, i, Nat.or_assoc]
/-- Two places changed about. -/
def swap0 (l : List Nat) (k : Nat) : List Nat := (l.set k (l.getD 0 0)).set 0 (l.getD k 0)
theorem swap0_len (l : List Nat) (k : Nat) : (swap0 l k).length = l.length := by unfold swap0; simp
theorem swap0_perm (l : List Nat) (k : Nat) (h : k < l.length) : List.Perm (swap0 l k) l := by
  unfold swap0
  have h0 : 0 < l.length := by omega
  rw [List.getD_eq_getElem?_getD, List.getD_eq_getElem?_getD, List.getElem?_eq_getElem h0, List.getElem?_eq_getElem h]
  exact List.set_set_perm h h0
theorem split_sums (l m : List Nat) (k : Nat) (h : List.Perm m l) : (accN (m.take k) + accN (m.drop k)) % top = accN l ∧ accH (m.take k) ||| accH (m.drop k) = accH l := by
  rw [← accN_append, ← accH_append, List.take_append_drop]
  exact ⟨accN_perm h, accH_perm h⟩
end Go.Proofs.Ytljelocomjbanaa
