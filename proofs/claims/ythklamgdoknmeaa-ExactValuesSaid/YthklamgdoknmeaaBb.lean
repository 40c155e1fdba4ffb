/-
  The contract of Sum.Bytes.
-/
import Derived.Test.YthklamgdoknmeaaSp
import Derived.Deep.OwnRows
set_option linter.unusedSimpArgs false
set_option linter.unusedVariables false
set_option maxRecDepth 8000
namespace Go.Proofs.Ythklamgdoknmeaa
open Go.RowKit Sm

/-- A number's byte; its first bytes, and noughts behind them. -/
def bt (n i : Nat) : Nat := n / 256 ^ i % 256
def fl280 (n k : Nat) : List Nat := (List.range 280).map fun i => if i < k then bt n i else 0
theorem fl280_len (n k : Nat) : (fl280 n k).length = 280 := by unfold fl280; simp
theorem fl280_lt (n k : Nat) : ∀ x ∈ fl280 n k, x < 256 := fun x hx => by
  unfold fl280 at hx
  obtain ⟨i, -, rfl⟩ := List.mem_map.1 hx
  split
  · exact Nat.mod_lt _ (by decide)
  · decide
theorem fl280_set (n k : Nat) (hk : k < 280) : (fl280 n k).set k (bt n k) = fl280 n (k + 1) := by
  apply List.ext_getElem?
  intro i
  rw [List.getElem?_set]
  unfold fl280
  simp only [List.getElem?_map, List.length_map, List.length_range]
  by_cases e : k = i
  · subst e
    simp [hk]
  · simp only [e, if_false]
    by_cases hi : i < 280
    · rw [List.getElem?_range hi]
      simp only [Option.map_some]
      by_cases h : i < k
      · rw [if_pos h, if_pos (by omega)]
      · rw [if_neg h, if_neg (by omega)]
    · rw [List.getElem?_eq_none (by simpa using hi)]; rfl
theorem bt_word (n i : Nat) : wd n (i / 8) / 2 ^ (i % 8 * 8) % 256 = bt n i := by
  unfold bt wd pw
  have hr : i % 8 < 8 := Nat.mod_lt _ (by decide)
  have hi : i = 8 * (i / 8) + i % 8 := by omega
  generalize i / 8 = q at *
  generalize i % 8 = r at *
  subst hi
  have e1 : (18446744073709551616 : Nat) = 2 ^ (r * 8) * (2 ^ 8 * 2 ^ (56 - r * 8)) := by
    rw [← Nat.pow_add, ← Nat.pow_add, show r * 8 + (8 + (56 - r * 8)) = 64 by omega]
  have e2 : (256 : Nat) ^ (8 * q + r) = 2 ^ (64 * q) * 2 ^ (r * 8) := by
    rw [show (256 : Nat) = 2 ^ 8 by decide, ← Nat.pow_mul, ← Nat.pow_add]; congr 1; omega
  rw [e2, ← Nat.div_div_eq_div_mul]
  generalize n / 2 ^ (64 * q) = x
  rw [e1, Nat.mod_mul_right_div_self, Nat.mod_mul_right_mod]
/-- Without those at the end that its sign tells. -/
def strip (l : List Nat) : Nat → List Nat
  | 0 => l.take 0
  | k + 1 => if spB (l.take (k + 1)) = true then strip l k else l.take (k + 1)
theorem strip_on (l : List Nat) (m : Nat) (h0 : 0 < m) (h : spB (l.take m) = true) : strip l m = strip l (m - 1) := by
  obtain ⟨k, rfl⟩ : ∃ k, m = k + 1 := ⟨m - 1, by omega⟩
  show (if spB (l.take (k + 1)) = true then strip l k else l.take (k + 1)) = _
  rw [if_pos h]; rfl
theorem strip_end (l : List Nat) (m : Nat) (h : spB (l.take m) = false) : strip l m = l.take m := by
  cases m with
  | zero => rfl
  | succ k =>
    show (if spB (l.take (k + 1)) = true then strip l k else l.take (k + 1)) = _
    rw [if_neg (by rw [h]; decide)]
theorem sp_pos (l : List Nat) (m : Nat) (h : spB (l.take m) = true) : 0 < m := by
  rcases Nat.eq_zero_or_pos m with rfl | h0
  · simp [spB] at h
  · exact h0

theorem info280 : (Try.prog.info? 77).map (fun i => (i.zero, i.size, i.bytes)) = some (some (.agg (Array.replicate 280 (.int .u8 0))), 280, 280) := by kernel_rfl
theorem zero280 (n : Nat) (w : World) : (zeroValue 77).run Try.prog w = .ok (.agg (bys (fl280 n 0)).toArray) w := by
  obtain ⟨i0, hi, hz0, hz1, hz2⟩ := info_parts info280
  have e : (bys (fl280 n 0)).toArray = Array.replicate 280 (Value.int .u8 0) := by
    apply Array.ext'
    rw [Array.toList_replicate]
    show bys (fl280 n 0) = _
    rw [List.eq_replicate_iff]
    refine ⟨by rw [bys_length, fl280_len], fun v hv => ?_⟩
    obtain ⟨x, hx, rfl⟩ := List.mem_map.1 hv
    unfold fl280 at hx
    obtain ⟨i, -, rfl⟩ := List.mem_map.1 hx
    rfl
  rw [e]
  simp [zeroValue, typeInfo, hi, hz0]

/-- Behind some rounds of the first loop. -/
structure Bs (w0 : World) (n h k : Nat) (w : World) : Prop where
  below : Below w0.heap.size w0 w
  row1 : w.heap[w0.heap.size]? = some (.cells (P36 (wd n) h) 27 (0, 0))
  row2 : w.heap[w0.heap.size + 1]? = some (.cells (bys (fl280 n k)).toArray 77 (0, 0))
theorem Bs.start (w : World) (n h : Nat) : Bs w n h 0 ((w.alloc (.cells (P36 (wd n) h) 27)).alloc (.cells (bys (fl280 n 0)).toArray 77)) := by
  refine ⟨((Below.refl _ _).alloc (Nat.le_refl _) _).alloc (by simp) _, ?_, ?_⟩
  · rw [Below.heap_alloc _ _ _ (by simp)]; exact heap_alloc_new' w _
  · have h1 := heap_alloc_new' (w.alloc (.cells (P36 (wd n) h) 27)) (.cells (bys (fl280 n 0)).toArray 77)
    rwa [show (w.alloc (.cells (P36 (wd n) h) 27)).heap.size = w.heap.size + 1 by simp] at h1
theorem Bs.step {w0 w : World} {n h k : Nat} (H : Bs w0 n h k w) (hk : k < 280) (v : Int) (hv : v = ((bt n k : Nat) : Int)) : Bs w0 n h (k + 1) (w.setCell ⟨w0.heap.size + 1, k, none⟩ (.int .u8 v)) := by
  subst hv
  refine ⟨H.below.setCell (by show _ ≤ w0.heap.size + 1; omega) _, (Below.heap_setCell _ _ _ _ (by show _ ≠ w0.heap.size + 1; omega)).trans H.row1, ?_⟩
  rw [← fl280_set n k hk, bys_set]
  exact row_set H.row2 k _

theorem Bs.keep {w0 w w' : World} {n h k : Nat} (H : Bs w0 n h k w) (hb : Below w.heap.size w w') : Bs w0 n h k w' :=
  ⟨H.below.trans (hb.mono H.below.size), (hb.block _ (Array.getElem?_eq_some_iff.1 H.row1).1).trans H.row1, (hb.block _ (Array.getElem?_eq_some_iff.1 H.row2).1).trans H.row2⟩
theorem Bs.byAt {w0 w : World} {n h k : Nat} (H : Bs w0 n h k w) (m : Nat) : ByAt w (some ⟨w0.heap.size + 1, 0, none⟩) ((fl280 n k).take m) :=
  ByAt.of_row _ (fun x hx => fl280_lt n k x (List.mem_of_mem_take hx)) H.row2 ⟨bys ((fl280 n k).drop m), by rw [← bys_append, List.take_append_drop]⟩
/-- So many of the bytes come to the same. -/
def Strips (l : List Nat) (m : Nat) : Prop := strip l m = strip l 280
theorem Strips.on {l : List Nat} {m : Nat} (h : Strips l m) (h0 : 0 < m) (hs : spB (l.take m) = true) : Strips l (m - 1) := (strip_on l m h0 hs).symm.trans h
theorem cast_dm (X r : Nat) : (X : Int) / 2 ^ r % 256 = ((X / 2 ^ r % 256 : Nat) : Int) := by
  rw [Int.natCast_emod, Int.natCast_ediv, Int.natCast_pow]; rfl
theorem make_bys (n : Nat) (hn : n ≤ 140737488355328) : ∀ w : World, (Instr.makeSlice 29 (.int .i64 (n : Int)) (.int .i64 (n : Int))).run Try.prog w = .ok (.slice (some ⟨w.heap.size, 0, none⟩) n n) (w.alloc (.cells (bys (List.replicate n 0)).toArray 5)) := fun w => by
  have h := run_make_row' (P := Try.prog) 29 5 (.int .u8 0) 1 Try.underlying29 infoU8 rfl .i64 .i64 n (by omega) (by omega) w
  rw [h]
  congr 3
  apply Array.ext'
  rw [toList_madeCells_one]
  unfold bys; simp [bv]
theorem Bs.has {w0 w : World} {n h k : Nat} (H : Bs w0 n h k w) (Z : Array Value) : (w.alloc (.cells Z 5)).cell? ⟨w0.heap.size, 35, none⟩ = some (.int .u8 (h : Int)) := by
  rw [World.cell?_alloc_lt w _ _ (Array.getElem?_eq_some_iff.1 H.row1).1, cell_of_row w _ _ _ _ _ H.row1]
  exact P36_has _ _
theorem made_cell (w : World) (m : Nat) (Z : List Value) (hZ : bys (List.replicate (1 + m) 0) = Z) : (w.alloc (.cells Z.toArray 5)).cell? ⟨w.heap.size, 0, none⟩ = some (.int .u8 0) := by
  rw [cell_of_row _ _ _ _ _ _ (heap_alloc_new' w _), ← hZ, Nat.add_comm 1 m, List.replicate_succ]; rfl
theorem made_frozen (w : World) (Z : Array Value) : (w.alloc (.cells Z 5)).frozen? ⟨w.heap.size, 0, none⟩ = false := row_frozen (heap_alloc_new' w _) 0
theorem cut_one (g m : Nat) : ∃ D : Option Addr, (∀ w, (Instr.slice 29 (.slice (some ⟨g, 0, none⟩) (1 + m) (1 + m)) (some (.int .i64 1)) none none).run Try.prog w = .ok (.slice D m m) w) ∧ (0 < m → D = some ⟨g, 1, none⟩) := by
  obtain ⟨A, C, h1, h2, h3, h4⟩ := cut_from (some ⟨g, 0, none⟩) (1 + m) (1 + m) 1 (by omega) (Nat.le_refl _)
  by_cases hm : 0 < m
  · exact ⟨some ⟨g, 1, none⟩, by have h := row_from' g (1 + m) (1 + m) 1 m rfl (by omega); rwa [show 1 + m - 1 = m by omega] at h, fun _ => rfl⟩
  · obtain rfl : m = 0 := by omega
    refine ⟨some ⟨g, 0, none⟩, fun w => ?_, fun h => absurd h (by omega)⟩
    rw [run_slice_l w 29 _ (1 + 0) (1 + 0) Try.underlying29 .i64 (1 : Int) (by omega) (by decide)]
    rw [show (Go.sizeOf (Try.prog.elem 29)).run Try.prog w = .ok 1 w from by kernel_rfl]
    simp [Result.andThen, sliced]
theorem made_row (h m : Nat) (Z : List Value) (l : List Nat) (hZ : bys (List.replicate (1 + m) 0) = Z) (hl : m = l.length) : splice (Z.set 0 (.int .u8 (h : Int))) 1 (bys l) = bys (h :: l) := by
  subst hZ
  rw [Nat.add_comm 1 m, List.replicate_succ]
  show splice (bv h :: bys (List.replicate m 0)) 1 (bys l) = bv h :: bys l
  unfold splice
  rw [bys_length, ← hl, Nat.add_comm 1 m, List.drop_succ_cons, List.drop_eq_nil_of_le (by rw [bys_length, List.length_replicate]; exact Nat.le_refl _)]
  simp
def lenOf : Value → Nat
  | .slice _ n _ => n
  | _ => 0
set_option maxHeartbeats 2000000 in
theorem sumBytes_any (n h : Nat) (hh : h < 256) (w : World) :
    Calls Try.prog 17 #[.agg (P36 (wd n) h)] w (RetS w (h :: strip (fl280 n 280) 280)) := by
  have hz := zero280 n
  go_enter Try.func17, Try.ntmps17
  go_wp2
  clear hz
  go_loopw [7] (fun i wr => ∃ k : Nat, k ≤ 280 ∧ i = .int .i64 k ∧ Bs w n h k wr) (fun i _ => 280 - (intOf i).toNat)
  case atStart => exact ⟨0, by omega, rfl, Bs.start w n h⟩
  case round =>
    obtain ⟨k, hk, rfl, hB⟩ := hrel
    have HB := Lib.hid hB
    clear hB
    by_cases hlt : k < 280
    · have hq8 : k / 8 < 35 := by omega
      have c1 : wr.cell? ⟨w.heap.size, k / 8, none⟩ = some (.int .u64 (wd n (k / 8) : Nat)) := by
        rw [cell_of_row wr _ _ _ _ _ HB.out.row1]; exact P36_word _ _ _ hq8
      have hl : k < (bys (fl280 n k)).length := by rw [bys_length, fl280_len]; exact hlt
      have c2 := row_cell HB.out.row2 k hl
      have f2 := row_frozen HB.out.row2 k

      have HV := Lib.hid (bt_word n k)
      generalize wd n (k / 8) = X at *
      generalize (bys (fl280 n k))[k] = y at *
      have q0 : (0 : Int) ≤ (k : Int) / 8 := by omega
      have q1 : (k : Int) / 8 < 35 := by omega
      have q2 : ((k : Int) / 8).toNat = k / 8 := by omega
      have r0 : (0 : Int) ≤ (k : Int) % 8 * 8 := by omega
      have r2 : ((k : Int) % 8 * 8).toNat = k % 8 * 8 := by omega
      clear hl
      set_option maxRecDepth 20000 in go_wp2
      go_roundw
      case rel => exact ⟨k + 1, by omega, by go_num, HB.out.step hlt _ (by rw [← HV.out]; exact cast_dm _ _)⟩
      case measure => simp [intOf]; omega
    · have hk2 : k = 280 := by omega
      subst hk2
      rw [show ((280 : Nat) : Int) = (280 : Int) from rfl]
      go_wp2
      obtain ⟨wo, hwo⟩ : ∃ wo : World, wo = wr := ⟨_, rfl⟩
      subst hwo
      go_loopw [5] (fun v wr => ∃ m : Nat, m ≤ 280 ∧ v = .slice (some ⟨w.heap.size + 1, 0, none⟩) m 280 ∧ Strips (fl280 n 280) m ∧ Bs w n h 280 wr) (fun v _ => lenOf v)
      case atStart => exact ⟨280, by omega, rfl, rfl, HB.out⟩
      case round =>
        obtain ⟨m, hm, rfl, hs, hB⟩ := hrel
        have HS := Lib.hid hs
        have HB2 := Lib.hid hB
        clear hs hB
        have HA : Hid (ByAt wr (some ⟨w.heap.size + 1, 0, none⟩) ((fl280 n 280).take m)) := Lib.hid (HB2.out.byAt m)
        have hlen : Hid (m = ((fl280 n 280).take m).length) := Lib.hid (by rw [List.length_take, fl280_len]; omega)
        cases hsp : spB ((fl280 n 280).take m)
        · have HSP := Lib.hid hsp
          have hres : Hid (strip (fl280 n 280) 280 = (fl280 n 280).take m) := Lib.hid (HS.out.symm.trans (strip_end _ m HSP.out))
          clear hsp
          have hmk : ∀ w', (Instr.makeSlice 29 (.int .i64 (1 + (m : Int))) (.int .i64 (1 + (m : Int)))).run Try.prog w' = .ok (.slice (some ⟨w'.heap.size, 0, none⟩) (1 + m) (1 + m)) (w'.alloc (.cells (bys (List.replicate (1 + m) 0)).toArray 5)) := make_bys (1 + m) (by omega)
          generalize hZ : bys (List.replicate (1 + m) 0) = Z at *
          have HZ := Lib.hid hZ
          clear hZ
          go_wp2_with (first | (go_at_call 55; refine (spare_any _ _ m 280 hlen (by omega) hm _ HA).mono ?_; rw [HSP.out]; rintro e w2 ⟨rfl, hb⟩; have HB3 := Lib.hid (HB2.out.keep hb); have HA3 := ByAt.at HA hb; clear hb; have d1 := HB3.out.has Z.toArray; have d2 := made_cell w2 m Z HZ.out; have d3 := made_frozen w2 Z.toArray; obtain ⟨D, r2, hD⟩ := cut_one w2.heap.size m; have HD := Lib.hid hD; clear hD) | (refine wpList_copy_splice rfl (.tmp 40) (.tmp 41) 29 29 rfl 5 Try.underlying29 sizeU8 D (some ⟨w.heap.size + 1, 0, none⟩) m m m 280 rfl rfl w2.heap.size 1 (Z.set 0 (.int .u8 (h : Int))) 5 (heap_alloc_new' w2 _) (bys ((fl280 n 280).take m)) ?q1 ?q2 ?q3 (bys_one _) w.heap.size w ?q4 ?q5 ?_; (case q1 => exact (by rw [bys_length, ← hlen.out]; exact (Nat.min_self m).symm)); (case q2 => exact fun h0 => ⟨HD.out (by rw [bys_length, ← hlen.out] at h0; exact h0), _, rfl, bys_at (HA3.out.keep ((Below.refl _ _).alloc (Nat.le_refl _) _))⟩); (case q3 => exact (by rw [bys_length, ← hlen.out, List.length_set, ← HZ.out, bys_length, List.length_replicate]; exact Nat.le_refl _)); (case q4 => exact HB3.out.below.alloc HB3.out.below.size _); (case q5 => exact HB3.out.below.size); intro w7 HR7 hb7; have HB7 := Lib.hid hb7; clear hb7))
          go_ret
          have hrow := made_row h m Z ((fl280 n 280).take m) HZ.out hlen.out
          have hlen2 : 1 + m = (h :: strip (fl280 n 280) 280).length := by rw [hres.out, List.length_cons, ← hlen.out]; omega
          refine ⟨some ⟨w2.heap.size, 0, none⟩, 1 + m, ?_, ?_, HB7.out⟩
          · rw [← hlen2]; rfl
          · rw [← hlen2]
            exact OwnS.of_row HR7.out (by rw [hrow, bys_length, List.length_cons, ← hlen.out]; omega) (by unfold maxLen; omega) hlen2 (by rw [hrow, hres.out, List.take_of_length_le (by rw [bys_length, List.length_cons, ← hlen.out]; omega)]) HB3.out.below.size (fun x hx => by
              rcases List.mem_cons.1 hx with h1 | h1
              · omega
              · rw [hres.out] at h1; exact fl280_lt n 280 x (List.mem_of_mem_take h1))
        · have HP := Lib.hid (sp_pos _ m hsp)
          have HSP := Lib.hid hsp
          have r1 : ∀ w', (Instr.slice 29 (.slice (some ⟨w.heap.size + 1, 0, none⟩) m 280) none (some (.int .i64 ((m : Int) - 1))) none).run Try.prog w' = .ok (.slice (some ⟨w.heap.size + 1, 0, none⟩) (m - 1) 280) w' := by
            rw [show (m : Int) - 1 = ((m - 1 : Nat) : Int) by have := HP.out; omega]
            exact row_to (w.heap.size + 1) m 280 (m - 1) (by omega)
          have hm1 : 1 ≤ m := HP.out
          clear hsp
          go_wp2_with (go_at_call 55; refine (spare_any _ _ m 280 hlen (by omega) hm _ HA).mono ?_; rw [HSP.out]; rintro e w2 ⟨rfl, hb⟩; have HB3 := Lib.hid (HB2.out.keep hb); clear hb)
          go_roundw
          case rel => exact ⟨m - 1, by omega, rfl, HS.out.on HP.out HSP.out, HB3.out⟩
          case measure => simp [lenOf]; omega
end Go.Proofs.Ythklamgdoknmeaa
