/-
  exact.Read, where the bytes are a sum's.
-/
import Derived.Test.YthklamgdoknmeaaBr
import Derived.Laws.BitsAllLaws
set_option linter.unusedSimpArgs false
set_option linter.unusedVariables false
set_option maxRecDepth 8000
namespace Go.Proofs.Ythklamgdoknmeaa
open Go.RowKit Sm

/-- The bytes, and their sign behind them up to a place. -/
def xt (r : List Nat) (i : Nat) : List Nat := (List.range 280).map fun j => if j < r.length then r.getD j 0 else if j < i then sgB r else 0
theorem xt_len (r : List Nat) (i : Nat) : (xt r i).length = 280 := by unfold xt; simp
theorem xt_get (r : List Nat) (i j : Nat) (hj : j < 280) : (xt r i)[j]? = some (if j < r.length then r.getD j 0 else if j < i then sgB r else 0) := by
  unfold xt
  rw [List.getElem?_map, List.getElem?_range hj]; rfl
theorem xt_set (r : List Nat) (i : Nat) (h : r.length ≤ i) (hi : i < 280) : (xt r i).set i (sgB r) = xt r (i + 1) := by
  apply List.ext_getElem?
  intro j
  rw [List.getElem?_set, xt_len]
  by_cases hj : j < 280
  · rw [xt_get r i j hj, xt_get r (i + 1) j hj]
    by_cases e : i = j
    · subst e
      rw [if_pos rfl, if_pos hi, if_neg (by omega), if_pos (by omega)]
    · rw [if_neg e]
      by_cases h1 : j < r.length
      · rw [if_pos h1, if_pos h1]
      · rw [if_neg h1, if_neg h1]
        by_cases h2 : j < i
        · rw [if_pos h2, if_pos (by omega)]
        · rw [if_neg h2, if_neg (by omega)]
  · rw [List.getElem?_eq_none (by rw [xt_len]; omega), List.getElem?_eq_none (by rw [xt_len]; omega)]
    rw [if_neg (by omega)]
theorem xt_lt (r : List Nat) (i : Nat) (hr : ∀ x ∈ r, x < 256) : ∀ x ∈ xt r i, x < 256 := fun x hx => by
  unfold xt at hx
  obtain ⟨j, -, rfl⟩ := List.mem_map.1 hx
  split
  · rename_i h
    rw [List.getD_eq_getElem?_getD, List.getElem?_eq_getElem h]
    exact hr _ (List.getElem_mem h)
  · split
    · exact sgB_lt r
    · decide
theorem xt_splice (r : List Nat) (k : Nat) (h : r.length ≤ 280) : splice (bys (fl280 k 0)) 0 (bys r) = bys (xt r r.length) := by
  unfold splice
  rw [List.take_zero, List.nil_append, Nat.zero_add, bys_length]
  unfold bys
  rw [← List.map_drop, ← List.map_append]
  congr 1
  apply List.ext_getElem?
  intro j
  by_cases hj : j < 280
  · rw [xt_get r _ j hj]
    by_cases h1 : j < r.length
    · rw [List.getElem?_append_left h1, if_pos h1, List.getD_eq_getElem?_getD, List.getElem?_eq_getElem h1]; rfl
    · rw [List.getElem?_append_right (by omega), if_neg h1, if_neg h1, List.getElem?_drop, show r.length + (j - r.length) = j by omega]
      unfold fl280
      rw [List.getElem?_map, List.getElem?_range hj]; rfl
  · rw [List.getElem?_eq_none (by rw [List.length_append, List.length_drop, fl280_len]; omega), List.getElem?_eq_none (by rw [xt_len]; omega)]

/-- Bytes as one number. -/
def vl : List Nat → Nat
  | [] => 0
  | b :: l => b + 256 * vl l
theorem vl_snoc : ∀ (l : List Nat) (b : Nat), vl (l ++ [b]) = vl l + 256 ^ l.length * b
  | [], b => by simp [vl]
  | x :: l, b => by
    show x + 256 * vl (l ++ [b]) = x + 256 * vl l + 256 ^ (l.length + 1) * b
    rw [vl_snoc l b, Nat.pow_succ, Nat.mul_comm (256 ^ l.length) 256, Nat.mul_assoc]; omega
theorem vl_lt : ∀ (l : List Nat), (∀ x ∈ l, x < 256) → vl l < 256 ^ l.length
  | [], _ => by simp [vl]
  | b :: l, h => by
    have h1 := h b (by simp)
    have h2 := vl_lt l (fun x hx => h x (by simp [hx]))
    show b + 256 * vl l < 256 ^ (l.length + 1)
    rw [Nat.pow_succ]; omega
/-! A byte more: its word, and the others. -/
theorem word_low (v k q b : Nat) (h : q < k / 8) : wd (v + 256 ^ k * b) q = wd v q := by
  unfold wd pw
  have e : 256 ^ k * b = 2 ^ (64 * q) * (2 ^ 64 * (2 ^ (8 * k - 64 * q - 64) * b)) := by
    rw [← Nat.mul_assoc, ← Nat.mul_assoc, ← Nat.pow_add, ← Nat.pow_add, show (256 : Nat) = 2 ^ 8 by decide, ← Nat.pow_mul]
    congr 2; omega
  rw [e, Nat.add_mul_div_left _ _ (Nat.two_pow_pos _)]
  exact Nat.add_mul_mod_self_left _ _ _
theorem word_high (v k q : Nat) (hv : v < 256 ^ k) (h : k ≤ 8 * q) : wd v q = 0 := by
  unfold wd pw
  have h1 : 256 ^ k ≤ 2 ^ (64 * q) := by
    rw [show (256 : Nat) = 2 ^ 8 by decide, ← Nat.pow_mul]
    exact Nat.pow_le_pow_right (by decide) (by omega)
  rw [Nat.div_eq_of_lt (by omega)]
theorem word_at (v k b : Nat) (hv : v < 256 ^ k) (hb : b < 256) : wd (v + 256 ^ k * b) (k / 8) = wd v (k / 8) ||| b * 2 ^ (k % 8 * 8) := by
  unfold wd pw
  have hr : k % 8 < 8 := Nat.mod_lt _ (by decide)
  have hk : k = 8 * (k / 8) + k % 8 := by omega
  generalize k / 8 = q at *
  generalize k % 8 = r at *
  subst hk
  have e1 : (256 : Nat) ^ (8 * q + r) = 2 ^ (64 * q) * 2 ^ (r * 8) := by
    rw [show (256 : Nat) = 2 ^ 8 by decide, ← Nat.pow_mul, ← Nat.pow_add]; congr 1; omega
  rw [e1] at hv ⊢
  have h1 : v / 2 ^ (64 * q) < 2 ^ (r * 8) := Nat.div_lt_of_lt_mul hv
  have h2 : 2 ^ (r * 8) ≤ 2 ^ 56 := Nat.pow_le_pow_right (by decide) (by omega)
  have h3 : b * 2 ^ (r * 8) ≤ 255 * 2 ^ 56 := Nat.mul_le_mul (by omega) h2
  rw [Nat.mul_assoc, Nat.add_mul_div_left _ _ (Nat.two_pow_pos _)]
  generalize v / 2 ^ (64 * q) = x at *
  rw [Nat.mod_eq_of_lt (by omega : x < 18446744073709551616), Nat.mul_comm (2 ^ (r * 8)) b]
  rw [Nat.or_comm, nat_join (r * 8) (b * 2 ^ (r * 8)) x (Nat.mul_mod_left _ _) h1]
  generalize 2 ^ (r * 8) = y at *
  rw [Nat.mod_eq_of_lt (by omega)]; omega
theorem vl_word (l : List Nat) (b q : Nat) (hl : ∀ x ∈ l, x < 256) (hb : b < 256) : wd (vl (l ++ [b])) q = if q = l.length / 8 then wd (vl l) q ||| b * 2 ^ (l.length % 8 * 8) else wd (vl l) q := by
  have hv := vl_lt l hl
  rw [vl_snoc]
  by_cases h : q = l.length / 8
  · rw [if_pos h, h]; exact word_at _ _ _ hv hb
  · rw [if_neg h]
    rcases Nat.lt_or_ge q (l.length / 8) with h1 | h1
    · exact word_low _ _ _ _ h1
    · have h2 : vl l + 256 ^ l.length * b < 256 ^ (l.length + 1) := by
        have h3 : 256 ^ l.length * b ≤ 256 ^ l.length * 255 := Nat.mul_le_mul_left _ (by omega)
        rw [Nat.pow_succ]; omega
      rw [word_high _ (l.length + 1) q h2 (by omega), word_high _ l.length q hv (by omega)]
theorem shl_lt (b k : Nat) (hb : b < 256) : b * 2 ^ (k % 8 * 8) < 18446744073709551616 := by
  have hk : k % 8 < 8 := Nat.mod_lt _ (by decide)
  have h1 : 2 ^ (k % 8 * 8) ≤ 2 ^ 56 := Nat.pow_le_pow_right (by decide) (by omega)
  have h2 : b * 2 ^ (k % 8 * 8) ≤ 255 * 2 ^ 56 := Nat.mul_le_mul (by omega) h1
  omega

/-- Behind some rounds of the first loop: the result's cells, and the bytes. -/
structure Xr (w0 : World) (g : Nat) (r : List Nat) (i : Nat) (w : World) : Prop where
  below : Below w0.heap.size w0 w
  row1 : w.heap[w0.heap.size]? = some (.cells (P36 (fun _ => 0) 0) 27 (0, 0))
  row2 : w.heap[g]? = some (.cells (bys (xt r i)).toArray 77 (0, 0))
  lt : w0.heap.size < g
theorem Xr.keep {w0 w w' : World} {g i : Nat} {r : List Nat} (H : Xr w0 g r i w) (hb : Below w.heap.size w w') : Xr w0 g r i w' :=
  ⟨H.below.trans (hb.mono H.below.size), (hb.block _ (Array.getElem?_eq_some_iff.1 H.row1).1).trans H.row1, (hb.block _ (Array.getElem?_eq_some_iff.1 H.row2).1).trans H.row2, H.lt⟩
theorem Xr.step {w0 w : World} {g i : Nat} {r : List Nat} (H : Xr w0 g r i w) (h : r.length ≤ i) (hi : i < 280) : Xr w0 g r (i + 1) (w.setCell ⟨g, i, none⟩ (.int .u8 (sgB r : Nat))) := by
  refine ⟨H.below.setCell (Nat.le_of_lt H.lt) _, (Below.heap_setCell _ _ _ _ (by have := H.lt; show _ ≠ g; omega)).trans H.row1, ?_, H.lt⟩
  rw [← xt_set r i h hi, bys_set]
  exact row_set H.row2 i _

/-- Behind some rounds of the second loop: the sum. -/
structure Xw (wo : World) (g : Nat) (E : List Nat) (x k : Nat) (w : World) : Prop where
  below : Below wo.heap.size wo w
  row : w.heap[g]? = some (.cells (P36 (wd (vl (E.take k))) x) 27 (0, 0))
theorem Xw.step {wo w : World} {g k x : Nat} {E : List Nat} (H : Xw wo g E x k w) (hk : k < 280) (hE : ∀ y ∈ E, y < 256) (hl : E.length = 280) (hg : wo.heap.size ≤ g := by exact Nat.le_refl _) :
    Xw wo g E x (k + 1) (w.setCell ⟨g, k / 8, none⟩ (.int .u64 ((wd (vl (E.take k)) (k / 8) ||| E[k] * 2 ^ (k % 8 * 8) : Nat) : Int))) := by
  refine ⟨H.below.setCell hg _, ?_⟩
  have h1 : (w.setCell ⟨g, k / 8, none⟩ (.int .u64 ((wd (vl (E.take k)) (k / 8) ||| E[k] * 2 ^ (k % 8 * 8) : Nat) : Int))).heap[g]? = some (.cells ((P36 (wd (vl (E.take k))) x).setIfInBounds (k / 8) (.int .u64 ((wd (vl (E.take k)) (k / 8) ||| E[k] * 2 ^ (k % 8 * 8) : Nat) : Int))) 27 (0, 0)) := by
    simp [World.setCell, Array.getElem?_modify, H.row]
  rw [h1, P36_set _ _ _ _ (by omega)]
  congr 2
  refine P36_congr x (A35_congr fun q _ => ?_)
  rw [List.take_succ_eq_append_getElem (by omega), vl_word _ _ _ (fun y hy => hE y (List.mem_of_mem_take hy)) (hE _ (List.getElem_mem _)), List.length_take, Nat.min_eq_left (by omega)]
  by_cases e : q = k / 8
  · rw [if_pos e, if_pos e, e]
  · rw [if_neg e, if_neg e]

theorem Xw.drew {wo w : World} {g k x : Nat} {E : List Nat} (H : Xw wo g E x k w) : Xw wo g E x k w.drew := ⟨H.below.drew, H.row⟩
theorem or_shlB (W b s : Nat) (hW : W < 18446744073709551616) (hs : b * 2 ^ s < 18446744073709551616) : bits .or .u64 (W : Int) (IntKind.u64.wrap ((b : Int) * 2 ^ s)) = ((W ||| b * 2 ^ s : Nat) : Int) := by
  rw [← bits_or_u64_nat W (b * 2 ^ s) hW hs]
  congr 1
  have e : (b : Int) * 2 ^ s = ((b * 2 ^ s : Nat) : Int) := by rw [Int.natCast_mul, Int.natCast_pow]; rfl
  rw [e]
  generalize b * 2 ^ s = v at *
  rw [IntKind.wrap_u64]
  omega
/-- What a reading that is not refused returns. -/
def RetY (w : World) (N x : Nat) (e : Ending) (w' : World) : Prop := e = .returned (.tuple #[.agg (P36 (wd N) x), .int .i64 0]) ∧ Below w.heap.size w w'

set_option maxHeartbeats 4000000 in
theorem xread_ok (a : Option Addr) (len cap x : Nat) (r : List Nat) (g off : Nat) (A : Option Addr) (n C : Nat) (w : World) (H : Hid (Hd w a len cap x r g off A n C)) (hn : n ≤ 280)
    (hs : Hid (spB r = false)) (hp : possB x ((n : Int) == 0) = true) :
    Calls Try.prog 84 #[.slice a len cap] w (RetY w (vl (xt r 280)) x) := by
  have hk := Kp.start w (P36 (fun _ => 0) 0) 27
  have hadr := H.out.addr
  subst hadr
  have hlen := H.out.all.out
  subst hlen
  have c1 := H.out.run
  have hcell : (w.alloc (.cells (P36 (fun _ => 0) 0) 27)).cell? ⟨g, off, none⟩ = some (.int .u8 (x : Int)) := (World.cell?_alloc_lt w _ ⟨g, off, none⟩ H.out.lt).trans H.out.cell
  have HA : Hid (ByAt (w.alloc (.cells (P36 (fun _ => 0) 0) 27)) A r) := Lib.hid (H.out.byAt.out.keep ((Below.refl _ _).alloc (Nat.le_refl _) _))
  have HL := H.out.rlen
  have hC := H.out.rcap
  have hx := H.out.xlt
  have g0 : (0 : Int) < 1 + (n : Int) := by omega
  have g1 : (1 : Int) ≤ 1 + (n : Int) := by omega
  have t0 : ((1 : Int) + (n : Int) == 0) = false := by rw [beq_eq_false_iff_ne]; omega
  have t1 : ¬ (281 : Int) < 1 + (n : Int) := by omega
  have hz := zero280 0
  go_enter Try.func84, Try.ntmps84
  go_wp2
  rw [zeros36]
  go_quiet (fail)
  have hk1 : Kp w w.heap.size (P36 (fun _ => 0) 0) 27 ((w.alloc (.cells (P36 (fun _ => 0) 0) 27)).drewN nq) := ⟨below_drewN hk.below nq, hk.row⟩
  clear hk hcell
  go_wp2_with (first | (go_at_call 55; refine (spare_any A r n C HL (by omega) hC _ (drewN_by HA nq)).mono ?_; rw [hs.out]; rintro e w2 ⟨rfl, hb⟩; replace hk1 := hk1.next hb; have HA2 := ByAt.at (drewN_by HA nq) hb; clear hb; have hgt : w.heap.size < w2.heap.size := (Array.getElem?_eq_some_iff.1 hk1.row).1) | (go_at_call 93; refine (possible_any x _ hx _).mono ?_; rintro e w3 ⟨rfl, rfl⟩) | (refine wpList_copy_splice rfl (.tmp 35) (.tmp 36) 29 29 rfl 5 Try.underlying29 sizeU8 (some ⟨w2.heap.size, 0, none⟩) A 280 280 n C rfl rfl w2.heap.size 0 (bys (fl280 0 0)) 77 (heap_alloc_new' w2 _) (bys r) ?q1 ?q2 ?q3 (bys_one _) w2.heap.size w2 ?q4 ?q5 ?_; (case q1 => exact (by rw [bys_length, ← HL.out]; exact (Nat.min_eq_left hn).symm)); (case q2 => exact fun h0 => copy_src rfl HA2 ((Below.refl _ _).alloc (Nat.le_refl _) _) h0); (case q3 => exact (by rw [bys_length, bys_length, fl280_len, ← HL.out]; omega)); (case q4 => exact (Below.refl _ _).alloc (Nat.le_refl _) _); (case q5 => exact Nat.le_refl _); intro w7 HR7 hb7; have HB7 := Lib.hid hb7; clear hb7))
  have HX0 : Hid (Xr w w2.heap.size r n w7) := Lib.hid ⟨hk1.below.trans (HB7.out.mono hk1.below.size), (HB7.out.block _ hgt).trans hk1.row, by have h := HR7.out; rwa [xt_splice r 0 (by rw [← HL.out]; exact hn), ← HL.out] at h, hgt⟩
  clear HR7 hz
  generalize w2.heap.size = g2 at *
  go_loopw [7] (fun i wr => ∃ k : Nat, n ≤ k ∧ k ≤ 280 ∧ i = .int .i64 k ∧ Xr w g2 r k wr) (fun i _ => 280 - (intOf i).toNat)
  case atStart => exact ⟨n, Nat.le_refl _, hn, by rw [bys_length, ← HL.out], HX0.out⟩
  case round =>
    obtain ⟨k, hnk, hk, rfl, hX⟩ := hrel
    have HX := Lib.hid hX
    clear hX
    have HAr := Lib.hid (H.out.byAt.out.keep HX.out.below)
    by_cases hlt : k < 280
    · have hl : k < (bys (xt r k)).length := by rw [bys_length, xt_len]; exact hlt
      have c2 := row_cell HX.out.row2 k hl
      have f2 := row_frozen HX.out.row2 k
      generalize (bys (xt r k))[k] = y at *
      clear hl
      set_option maxRecDepth 20000 in go_wp2_with (go_at_call 79; refine (signByte_any A r n C HL (by omega) _ HAr).mono ?_; rintro e w8 ⟨rfl, rfl⟩)
      go_roundw
      case rel => exact ⟨k + 1, by omega, by omega, by go_num, HX.out.step (by rw [← HL.out]; exact hnk) hlt⟩
      case measure => simp [intOf]; omega
    · have hk2 : k = 280 := by omega
      subst hk2
      obtain ⟨wo, hwo⟩ : ∃ wo : World, wo = wr := ⟨_, rfl⟩
      subst hwo
      rw [show ((280 : Nat) : Int) = (280 : Int) from rfl]
      go_wp2_with (first | (refine wpList_build36 rfl (.tmp 46) rfl x rfl ?_) | (rw [zeros36]; refine wpList_store_row rfl 27 (.tmp 8) (.tmp 47) rfl wo.heap.size (P36 (fun _ => 0) x) rfl rfl _ _ (heap_alloc_new _ _) (i36 _ _) (by rw [P36_size, P36_size]) (one36 _ _) ?_; rw [World.setRow_alloc_new]))
      have HY0 : Hid (Xw wo wo.heap.size (xt r 280) x 0 (wo.alloc (.cells (P36 (fun _ => 0) x) 27))) := Lib.hid ⟨(Below.refl _ _).alloc (Nat.le_refl _) _, by rw [heap_alloc_new']; congr 2; exact P36_congr x (A35_congr fun i _ => by unfold wd vl; simp)⟩
      go_loopw [48] (fun i wr => ∃ k : Nat, k ≤ 280 ∧ i = .int .i64 k ∧ Xw wo wo.heap.size (xt r 280) x k wr) (fun i _ => 280 - (intOf i).toNat)
      case atStart => exact ⟨0, by omega, rfl, HY0.out⟩
      case round =>
        obtain ⟨k, hk, rfl, hY⟩ := hrel
        have HY := Lib.hid hY
        clear hY
        by_cases hlt : k < 280
        · have hq8 : k / 8 < 35 := by omega
          have c1 : wr.cell? ⟨wo.heap.size, k / 8, none⟩ = some (.int .u64 (wd (vl ((xt r 280).take k)) (k / 8) : Nat)) := by
            rw [cell_of_row wr _ _ _ _ _ HY.out.row]; exact P36_word _ _ _ hq8
          have f1 := row_frozen HY.out.row (k / 8)
          have hkl : k < (xt r 280).length := by rw [xt_len]; exact hlt
          have c2 : wr.cell? ⟨g2, k, none⟩ = some (.int .u8 ((xt r 280)[k] : Nat)) := by
            rw [HY.out.below.cell (p := ⟨g2, k, none⟩) (Array.getElem?_eq_some_iff.1 HX.out.row2).1, cell_of_row wo g2 k _ _ _ HX.out.row2]
            unfold bys
            simp [hkl, bv]
          have hX := wd_lt (vl ((xt r 280).take k)) (k / 8)
          have hb := xt_lt r 280 H.out.byAt.out.lt _ (List.getElem_mem hkl)
          have HST := Lib.hid (HY.out.step hlt (xt_lt r 280 H.out.byAt.out.lt) (xt_len r 280))
          generalize wd (vl ((xt r 280).take k)) (k / 8) = W at *
          generalize (xt r 280)[k] = b at *
          have q0 : (0 : Int) ≤ (k : Int) / 8 := by omega
          have q1 : (k : Int) / 8 < 35 := by omega
          have q2 : ((k : Int) / 8).toNat = k / 8 := by omega
          have r0 : (0 : Int) ≤ (k : Int) % 8 * 8 := by omega
          have r2 : ((k : Int) % 8 * 8).toNat = k % 8 * 8 := by omega
          have hsl := shl_lt b k hb
          have HW := Lib.hid hX
          clear hX
          have HSL := Lib.hid hsl
          clear hsl
          have ex := or_shlB W b (k % 8 * 8) HW.out HSL.out
          set_option maxRecDepth 20000 in go_wp2
          set_option maxRecDepth 20000 in go_region
          set_option maxRecDepth 20000 in go_wp2
          go_roundw
          case rel => exact ⟨k + 1, by omega, by go_num, HST.out.drew⟩
          case measure => simp [intOf]; omega
        · have hk3 : k = 280 := by omega
          subst hk3
          have hE : Hid ((xt r 280).take 280 = xt r 280) := Lib.hid (List.take_of_length_le (by rw [xt_len]; omega))
          have hrow := HY.out.row
          rw [hE.out] at hrow
          have HROW := Lib.hid hrow
          have hres : wr.heap[w.heap.size]? = some (.cells (P36 (fun _ => 0) 0) 27 (0, 0)) := (HY.out.below.block _ (Array.getElem?_eq_some_iff.1 HX.out.row1).1).trans HX.out.row1
          have HRES := Lib.hid hres
          have HBW : Hid (Below w.heap.size w wr) := Lib.hid (HX.out.below.trans (HY.out.below.mono HX.out.below.size))
          clear hrow hres
          rw [show ((280 : Nat) : Int) = (280 : Int) from rfl]
          go_wp2_with (first | (refine wpList_load_row rfl 27 (.tmp 8) rfl wo.heap.size rfl _ (P36 (wd (vl (xt r 280))) x) (0, 0) _ HROW.out u27 rfl (i36 _ _) ?_) | (refine wpList_store_row rfl 27 (.tmp 2) (.tmp 68) rfl w.heap.size (P36 (wd (vl (xt r 280))) x) rfl rfl _ _ HRES.out (i36 _ _) (by rw [P36_size, P36_size]) (one36 _ _) ?_))
          exact post_row2 2 3 27 Try.results84 rfl w.heap.size 27 _ (0, 0) _ rfl (setRow_heap _ _ _ _ _ _ HRES.out) u27 rfl (i36 _ _) ⟨rfl, below_setRow HBW.out (Nat.le_refl _) _⟩

/-! The bytes of what was read are those that were read. -/
theorem bt_vl : ∀ (l : List Nat) (i : Nat), (∀ x ∈ l, x < 256) → bt (vl l) i = l.getD i 0
  | [], i, _ => by simp [bt, vl]
  | b :: l, 0, h => by
    have hb := h b (by simp)
    unfold bt
    show (b + 256 * vl l) / 256 ^ 0 % 256 = b
    rw [Nat.pow_zero, Nat.div_one]; omega
  | b :: l, i + 1, h => by
    have hb := h b (by simp)
    have ih := bt_vl l i (fun x hx => h x (by simp [hx]))
    unfold bt at ih ⊢
    show (b + 256 * vl l) / 256 ^ (i + 1) % 256 = l.getD i 0
    rw [Nat.pow_succ, Nat.mul_comm (256 ^ i) 256, ← Nat.div_div_eq_div_mul, show (b + 256 * vl l) / 256 = vl l by omega, ih]
theorem fl280_vl (l : List Nat) (hl : ∀ x ∈ l, x < 256) (h : l.length = 280) : fl280 (vl l) 280 = l := by
  apply List.ext_getElem?
  intro j
  unfold fl280
  by_cases hj : j < 280
  · rw [List.getElem?_map, List.getElem?_range hj, Option.map_some, if_pos hj, bt_vl l j hl, List.getD_eq_getElem?_getD, List.getElem?_eq_getElem (by omega)]; rfl
  · rw [List.getElem?_eq_none (by simpa using hj), List.getElem?_eq_none (by omega)]
theorem sgB_two (l : List Nat) : sgB l = 0 ∨ sgB l = 255 := by unfold sgB; split <;> simp
theorem xt_take (r : List Nat) (h : r.length ≤ 280) : (xt r 280).take r.length = r := by
  apply List.ext_getElem?
  intro j
  rw [List.getElem?_take]
  by_cases hj : j < r.length
  · rw [if_pos hj, xt_get r 280 j (by omega), if_pos hj, List.getD_eq_getElem?_getD, List.getElem?_eq_getElem hj]; rfl
  · rw [if_neg hj, List.getElem?_eq_none (by omega)]
theorem xt_sign (r : List Nat) (m : Nat) (h : r.length ≤ m) (hm : m ≤ 280) : sgB ((xt r 280).take m) = sgB r := by
  rcases Nat.eq_or_lt_of_le h with e | h1
  · subst e; rw [xt_take r hm]
  · have hl : ((xt r 280).take m).length = (m - 1) + 1 := by rw [List.length_take, xt_len]; omega
    rw [sgB_of _ (sgB r) (m - 1) hl (by rw [List.getElem?_take, if_pos (by omega), xt_get r 280 (m - 1) (by omega), if_neg (by omega), if_pos (by omega)])]
    rcases sgB_two r with e | e <;> rw [e] <;> decide
theorem xt_spare (r : List Nat) (m : Nat) (h : r.length < m) (hm : m ≤ 280) : spB ((xt r 280).take m) = true := by
  unfold spB
  have hl : ((xt r 280).take m).length = m := by rw [List.length_take, xt_len]; omega
  rw [List.getLast?_eq_getElem?, hl, List.getElem?_take, if_pos (by omega), xt_get r 280 (m - 1) (by omega), if_neg (by omega), if_pos (by omega), List.dropLast_eq_take, hl, List.take_take, Nat.min_eq_left (by omega), xt_sign r (m - 1) (by omega) (by omega)]
  simp
theorem xt_strip (r : List Nat) (hs : spB r = false) : ∀ m, r.length ≤ m → m ≤ 280 → strip (xt r 280) m = r
  | 0, h, hm => by
    have e : r = [] := List.eq_nil_of_length_eq_zero (by omega)
    subst e; rfl
  | m + 1, h, hm => by
    rcases Nat.eq_or_lt_of_le h with e | h1
    · rw [strip_end _ _ (by rw [← e, xt_take r (by omega)]; exact hs), ← e, xt_take r (by omega)]
    · rw [strip_on _ (m + 1) (by omega) (xt_spare r (m + 1) h1 hm)]
      exact xt_strip r hs m (by omega) (by omega)
end Go.Proofs.Ythklamgdoknmeaa
