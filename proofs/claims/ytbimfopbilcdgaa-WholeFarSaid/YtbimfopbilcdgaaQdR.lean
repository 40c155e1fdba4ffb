/-
  The document's sums: New, Add.
-/
import Derived.Test.YtbimfopbilcdgaaQcR
import Derived.Test.YtbimfopbilcdgaaKeR
set_option linter.unusedSimpArgs false
set_option linter.unusedVariables false
set_option maxRecDepth 100000
namespace Go.Proofs.Ytbimfopbilcdgaa
open Go.RowKit Sm Qb
section
variable {S S' : Nat → Prop} {a b c w w' : World}
/-- Bytes that don't lie in what is written. -/
def Off (S : Nat → Prop) (A : Option Addr) (l : List Nat) : Prop := ∀ a, A = some a → 0 < l.length → ¬ S a.block
theorem ByAt.kept {A : Option Addr} {l : List Nat} (h : ByAt w A l) (hk : Kept S w w') (ho : Off S A l) : ByAt w' A l := fun k x hx => by
  obtain ⟨h1, g, off, h2, h3, h4⟩ := h k x hx
  have hl : 0 < l.length := by have := (List.getElem?_eq_some_iff.1 hx).1; omega
  exact ⟨h1, g, off, h2, Nat.lt_of_lt_of_le h3 hk.size, (hk.cell (p := ⟨g, off + k, none⟩) h3 (ho ⟨g, off, none⟩ h2 hl)).trans h4⟩
end


namespace Qb
/-- A document's sum as a struct: where its bits lie, and what it has. -/
def R6 (A : Option Addr) (C : Nat) (h : Nat) : Array Value := #[.slice A 2240 C, .bool (h.testBit 0), .bool (h.testBit 1), .bool (h.testBit 2), .bool (h.testBit 3), .bool (h.testBit 4)]
/-- How a call ends that answers with a sum. -/
def SumEnds (w : World) (n h : Nat) (e : Ending) (w' : World) : Prop := ∃ A C, e = .returned (.agg (R6 A C h)) ∧ BitAt w' A n ∧ Below w.heap.size w w'
/-- The cells of a sum. -/
def r6 (v : Value) (c0 c1 c2 c3 c4 : Bool) : Array Value := #[v, .bool c0, .bool c1, .bool c2, .bool c3, .bool c4]
end Qb
theorem uR6 : Try.prog.underlying 158 = some (.struct (Try.prog.fieldsOf 158)) := by kernel_rfl
theorem iR6 (v : Value) (c0 c1 c2 c3 c4 : Bool) : (Try.prog.info? 158).map (·.size) = some (#[v, .bool c0, .bool c1, .bool c2, .bool c3, .bool c4] : Array Value).size := by kernel_rfl

set_option maxHeartbeats 1000000 in
theorem rnew_any (w : World) : Calls Try.prog 122 #[] w (SumEnds w 0 0) := by
  have hmk := make_bits
  have HB : Hid (Qb.BitAt ((w.alloc (.cells #[.slice (some ⟨w.heap.size + 1, 0, none⟩) 2240 2240, .bool false, .bool false, .bool false, .bool false, .bool false] 158)).alloc (.cells (bys (List.replicate 2240 0)).toArray 5)) (some ⟨w.heap.size + 1, 0, none⟩) 0) := Lib.hid (by
    refine ByAt.of_row _ (bl_lt 0 2240) (cs := (bys (List.replicate 2240 0)).toArray) (t := 5) (fr := (0, 0)) ?_ ⟨[], by rw [bl_none]; simp⟩
    exact heap_alloc2_new w _ _)
  generalize bys (List.replicate 2240 0) = Z at *
  go_enter Try.func122, Try.ntmps122
  go_wp2
  exact post_row 0 158 Try.results122 rfl w.heap.size 158 _ (0, 0) _ rfl (heap_alloc2_old w _ _) uR6 rfl (iR6 _ _ _ _ _ _) ⟨_, _, rfl, HB.out, ((Below.refl _ _).alloc (Nat.le_refl _) _).alloc (by simp) _⟩

/-- What is neither a number nor finite: no bits are added. -/
theorem or_bitsQ (h k : Nat) (x : Bool) (i : Nat) (hk : k.testBit i = x) : (h ||| k).testBit i = (h.testBit i || x) := by rw [Nat.testBit_or, hk]
theorem R6_or (A : Option Addr) (C h k : Nat) : R6 A C (h ||| k) = #[.slice A 2240 C, .bool (h.testBit 0 || k.testBit 0), .bool (h.testBit 1 || k.testBit 1), .bool (h.testBit 2 || k.testBit 2), .bool (h.testBit 3 || k.testBit 3), .bool (h.testBit 4 || k.testBit 4)] := by
  unfold R6; simp only [Nat.testBit_or]

def CbGives (b : Nat) (B : Int) : Prop := ∀ w, Calls Try.prog 99 #[.float .f64 b] w fun e w' => e = .returned (.int .u64 B) ∧ w = w'
theorem CbGives.at {b : Nat} {B : Int} (h : CbGives b B) (w : World) : Calls Try.prog 99 #[.float .f64 b] w fun e w' => e = .returned (.int .u64 B) ∧ w = w' := h w

set_option maxHeartbeats 1000000 in
theorem radd_inf (A : Option Addr) (C : Nat) (c0 c1 c2 c3 c4 : Bool) (b : Nat) (B : Int) (hb0 : 0 ≤ B) (hb1 : B < 18446744073709551616) (hb : CbGives b B) (hE : B / 4503599627370496 % 2048 = 2047) (nn sg : Bool) (hn : (B % 4503599627370496 != 0) = nn) (hs : (B / 9223372036854775808 == 1) = sg) (w : World) :
    Calls Try.prog 123 #[.agg #[.slice A 2240 C, .bool c0, .bool c1, .bool c2, .bool c3, .bool c4], .float .f64 b] w fun e w' =>
      e = .returned (.agg #[.slice A 2240 C, .bool (c0 || nn), .bool (c1 || (!nn && !sg)), .bool (c2 || (!nn && sg)), .bool true, .bool true]) ∧ Below w.heap.size w w' := by
  cases nn <;> cases sg
  all_goals
    go_enter Try.func123, Try.ntmps123
    go_wp2_with (go_at_call 99; (with_reducible refine (hb.at _).mono ?_); rintro e w' ⟨rfl, rfl⟩)
    refine post_row 4 158 Try.results123 rfl (w.heap.size + 1) 158 _ (0, 0) _ rfl (heap_alloc2_new w _ _) uR6 rfl (iR6 _ _ _ _ _ _) ⟨by simp, ((Below.refl _ _).alloc (Nat.le_refl _) _).alloc (by simp) _⟩

/-- How Add ends. -/
def Qb.AddEnds (w : World) (c0 c1 c2 c3 c4 : Bool) (n : Nat) (e : Ending) (w' : World) : Prop := ∃ A C, e = .returned (.agg #[.slice A 2240 C, .bool c0, .bool c1, .bool c2, .bool c3, .bool c4]) ∧ BitAt w' A n ∧ Below w.heap.size w w'
theorem kept_setRowQ (w : World) (g : Nat) (c : Array Value) : Kept (fun k => k = g) w (w.setRow g c) :=
  ⟨rfl, rfl, rfl, by show w.heap.size ≤ (w.heap.modify g _).size; simp, fun k _ hn => setRow_other w g k c hn⟩
theorem Qb.BitAt.off {w w' : World} {a : Option Addr} {n g : Nat} {v : Value} (h : BitAt w a n) (hk : Kept (fun k => k = g) w w') (hc : w.cell? ⟨g, 0, none⟩ = some v) (hv : ∀ x : Nat, v ≠ .int .u8 (x : Int)) (ha : ∀ x, a = some x → x.off = 0) : BitAt w' a n :=
  ByAt.kept h hk (fun x hx _ e => by
    obtain ⟨b, off, e1, hb, hcl⟩ := h.get
    rw [e1] at hx
    injection hx with hx
    subst hx
    have h0 := ha _ e1
    have h0 : off = 0 := h0
    subst h0
    have e : b = g := e
    subst e
    have := hcl 0 (by decide)
    rw [hc] at this
    injection this with this
    exact hv _ this)

/-- Behind the struct and the result, bits that are being written. -/
structure Qb.Ad (w0 : World) (v : Value) (c0 c1 c2 c3 c4 : Bool) (n : Nat) (w : World) : Prop where
  below : Below w0.heap.size w0 w
  row1 : w.heap[w0.heap.size]? = some (.cells #[v, .bool c0, .bool c1, .bool c2, .bool c3, .bool c4] 158 (0, 0))
  row2 : w.heap[w0.heap.size + 1]? = some (.cells #[.slice none 0 0, .bool false, .bool false, .bool false, .bool false, .bool false] 158 (0, 0))
  row3 : w.heap[w0.heap.size + 2]? = some (.cells (bys (bl n 2240)).toArray 5 (0, 0))
theorem Qb.Ad.start (w : World) (v : Value) (c0 c1 c2 c3 c4 : Bool) (n : Nat) (hn : n = 0) : Qb.Ad w v c0 c1 c2 c3 c4 n (((w.alloc (.cells #[v, .bool c0, .bool c1, .bool c2, .bool c3, .bool c4] 158)).alloc (.cells #[.slice none 0 0, .bool false, .bool false, .bool false, .bool false, .bool false] 158)).alloc (.cells (bys (List.replicate 2240 0)).toArray 5)) := by
  subst hn
  have e1 : (w.alloc (.cells #[v, .bool c0, .bool c1, .bool c2, .bool c3, .bool c4] 158)).heap.size = w.heap.size + 1 := by simp
  have e2 : ((w.alloc (.cells #[v, .bool c0, .bool c1, .bool c2, .bool c3, .bool c4] 158)).alloc (.cells #[.slice none 0 0, .bool false, .bool false, .bool false, .bool false, .bool false] 158)).heap.size = w.heap.size + 2 := by simp
  refine ⟨(((Below.refl _ _).alloc (Nat.le_refl _) _).alloc (by rw [e1]; omega) _).alloc (by rw [e2]; omega) _, ?_, ?_, ?_⟩
  · rw [Below.heap_alloc _ _ _ (by rw [e2]; omega)]; exact heap_alloc2_old w _ _
  · rw [Below.heap_alloc _ _ _ (by rw [e2]; omega)]; exact heap_alloc2_new w _ _
  · rw [bl_none]
    have h := heap_alloc_new' ((w.alloc (.cells #[v, .bool c0, .bool c1, .bool c2, .bool c3, .bool c4] 158)).alloc (.cells #[.slice none 0 0, .bool false, .bool false, .bool false, .bool false, .bool false] 158)) (.cells (bys (List.replicate 2240 0)).toArray 5)
    rwa [e2] at h
theorem Qb.Ad.next {w0 w w' : World} {v : Value} {c0 c1 c2 c3 c4 : Bool} {n : Nat} (H : Qb.Ad w0 v c0 c1 c2 c3 c4 n w) (hb : Below w.heap.size w w') : Qb.Ad w0 v c0 c1 c2 c3 c4 n w' :=
  ⟨H.below.trans (hb.mono H.below.size), (hb.block _ (Array.getElem?_eq_some_iff.1 H.row1).1).trans H.row1, (hb.block _ (Array.getElem?_eq_some_iff.1 H.row2).1).trans H.row2, (hb.block _ (Array.getElem?_eq_some_iff.1 H.row3).1).trans H.row3⟩
theorem Qb.Ad.up {w0 w : World} {v : Value} {c0 c1 c2 c3 c4 : Bool} {m S i : Nat} (H : Qb.Ad w0 v c0 c1 c2 c3 c4 (m % 2 ^ i * 2 ^ S) w) (h : S + i < 2240) (x : Int) (hx : x = ((bit m i : Nat) : Int)) (j : Nat) (hj : j = S + i) :
    Qb.Ad w0 v c0 c1 c2 c3 c4 (m % 2 ^ (i + 1) * 2 ^ S) (w.setCell ⟨w0.heap.size + 2, j, none⟩ (.int .u8 x)) := by
  subst hx; subst hj
  refine ⟨H.below.setCell (by show _ ≤ w0.heap.size + 2; omega) _, (Below.heap_setCell _ _ _ _ (by show _ ≠ w0.heap.size + 2; omega)).trans H.row1, (Below.heap_setCell _ _ _ _ (by show _ ≠ w0.heap.size + 2; omega)).trans H.row2, ?_⟩
  rw [← bl_up m S i h, bys_set]
  exact row_set H.row3 _ _
theorem Qb.Ad.bits {w0 w : World} {v : Value} {c0 c1 c2 c3 c4 : Bool} {n : Nat} (H : Qb.Ad w0 v c0 c1 c2 c3 c4 n w) : BitAt w (some ⟨w0.heap.size + 2, 0, none⟩) n :=
  ByAt.of_row _ (bl_lt n 2240) H.row3 ⟨[], by simp⟩
theorem Qb.Ad.cell {w0 w : World} {v : Value} {c0 c1 c2 c3 c4 : Bool} {n : Nat} (H : Qb.Ad w0 v c0 c1 c2 c3 c4 n w) : w.cell? ⟨w0.heap.size, 0, none⟩ = some v := by
  rw [cell_of_row _ _ _ _ _ _ H.row1]; rfl
theorem Qb.Ad.store {w0 w : World} {v v' : Value} {c0 c1 c2 c3 c4 : Bool} {n : Nat} (H : Qb.Ad w0 v c0 c1 c2 c3 c4 n w) : Qb.Ad w0 v' c0 c1 c2 c3 c4 n (w.setCell ⟨w0.heap.size, 0, none⟩ v') := by
  refine ⟨H.below.setCell (by show _ ≤ w0.heap.size; omega) _, ?_, (Below.heap_setCell _ _ _ _ (by show _ ≠ w0.heap.size; omega)).trans H.row2, (Below.heap_setCell _ _ _ _ (by show _ ≠ w0.heap.size; omega)).trans H.row3⟩
  exact row_set (cs := [v, .bool c0, .bool c1, .bool c2, .bool c3, .bool c4]) H.row1 0 v'

def TuGives (n : Nat) : Prop := ∀ (A : Option Addr) (C : Nat) (w : World), Hid (BitAt w A n) → Calls Try.prog 124 #[.slice A 2240 C] w (BitEnds w.heap.size w (neg n))
theorem TuGives.at {n : Nat} (h : TuGives n) (A : Option Addr) (C : Nat) (w : World) (H : Hid (BitAt w A n)) : Calls Try.prog 124 #[.slice A 2240 C] w (BitEnds w.heap.size w (neg n)) := h A C w H

set_option maxHeartbeats 4000000 in
theorem radd_lo (A : Option Addr) (C n : Nat) (hn : n < top) (c0 c1 c2 c3 c4 : Bool) (b : Nat) (B : Int) (hb0 : 0 ≤ B) (hb1 : B < 18446744073709551616) (hb : CbGives b B) (m : Nat) (hE : B / 4503599627370496 % 2048 = 0) (hM : B % 4503599627370496 = (m : Int)) (hM2 : m < 4503599627370496)
    (sg nz : Bool) (hs : (B / 9223372036854775808 == 1) = sg) (hz : (B != 9223372036854775808) = nz) (N : Nat) (HNN : Hid ((n + (if sg then neg (m * 2 ^ 0) else m * 2 ^ 0)) % top = N)) (w : World) (HA : Hid (BitAt w A n)) :
    Calls Try.prog 123 #[.agg #[.slice A 2240 C, .bool c0, .bool c1, .bool c2, .bool c3, .bool c4], .float .f64 b] w fun e w' => Qb.AddEnds w c0 c1 c2 true (c4 || nz) N e w' := by
  have hmk := make_bits
  have HS := fun d0 d1 d2 d3 d4 v => Lib.hid (Qb.Ad.start w v d0 d1 d2 d3 d4 (m % 2 ^ 0 * 2 ^ 0) (by rw [Nat.pow_zero, Nat.mod_one, Nat.zero_mul]))
  have HM53 := Lib.hid (show m % 2 ^ 53 = m from Nat.mod_eq_of_lt (by rw [show (2 : Nat) ^ 53 = 9007199254740992 from rfl]; omega))
  have HTU : TuGives (m * 2 ^ 0) := fun A C w h => rturn_any A C _ (small_top m 0 (by omega) (by omega)) w h
  generalize bys (List.replicate 2240 0) = Z at *
  cases nz
  all_goals
    go_enter Try.func123, Try.ntmps123
    go_wp2_with (go_at_call 99; (with_reducible refine (hb.at _).mono ?_); rintro e w' ⟨rfl, rfl⟩)
    clear hmk
    go_loopw [10] (fun i wr => ∃ k : Nat, k ≤ 53 ∧ i = .int .i64 k ∧ ∃ d4, d4 = (c4 || (B != 9223372036854775808)) ∧ Qb.Ad w (.slice A 2240 C) c0 c1 c2 true d4 (m % 2 ^ k * 2 ^ 0) wr) (fun i _ => 53 - (intOf i).toNat)
    case atStart => exact ⟨0, by omega, rfl, _, by first | rfl | (rw [hz]; simp), (HS _ _ _ _ _ _).out⟩
    case round =>
      obtain ⟨k, hk, rfl, d4, rfl, hB⟩ := hrel
      have HB := Lib.hid hB
      clear hB
      by_cases hlt : k < 53
      · have hl : k < (bys (bl (m % 2 ^ k * 2 ^ 0) 2240)).length := by rw [bys_length, bl_len]; omega
        have c3 := row_cell HB.out.row3 (k) hl
        have f3 := row_frozen HB.out.row3 (k)
        have hc := cast_bit m k
        have b1 := bit_le m k
        generalize (bys (bl (m % 2 ^ k * 2 ^ 0) 2240))[k] = y at *
        clear hl
        go_wp2
        go_roundw
        case rel => exact ⟨k + 1, by omega, by go_num, _, rfl, HB.out.up (by omega) _ (by first | rfl | exact hc | exact cast_bit8 m k | omega) _ (by omega)⟩
        case measure => simp [intOf]; omega
      · have hk2 : k = 53 := by omega
        subst hk2
        have hb := HB.out
        rw [HM53.out] at hb
        have HB2 := Lib.hid hb
        have hc := hb.cell
        clear hb HB
        rw [show ((53 : Nat) : Int) = (53 : Int) from rfl]
        cases sg
        all_goals
          go_wp2_with (first
            | (go_at_call 124; (with_reducible refine (HTU.at _ _ _ (Lib.hid HB2.out.bits)).mono ?_); rintro e w2 ⟨g2, C2, rfl, hbt, hb2⟩; have HBT := Lib.hid hbt; have HB3 := Lib.hid (HB2.out.next hb2); have hc2 := HB3.out.cell; clear hbt hb2 hc)
            | (go_at_call 125; (first
                | (with_reducible refine (radd_any A _ C _ n _ _ (Lib.hid (HA.out.keep HB3.out.below)) HBT).mono ?_)
                | (with_reducible refine (radd_any A _ C _ n _ _ (Lib.hid (HA.out.keep HB2.out.below)) (Lib.hid HB2.out.bits)).mono ?_)); rintro e w5 ⟨g5, C5, rfl, hbt5, hb5⟩; have HBT5 := Lib.hid hbt5; (first | have HB5 := Lib.hid (HB3.out.next hb5) | have HB5 := Lib.hid (HB2.out.next hb5)); have hc5 := HB5.out.cell; have f5 := row_frozen HB5.out.row1 0; have HB6 := Lib.hid (HB5.out.store (v' := .slice (some ⟨g5, 0, none⟩) 2240 C5)); clear hbt5 hb5)
            | (refine wpList_load_row rfl 158 (.tmp 2) rfl w.heap.size rfl _ _ (0, 0) _ HB6.out.row1 uR6 rfl (iR6 _ _ _ _ _ _) ?_)
            | (refine wpList_store_row rfl 158 (.tmp 4) (.tmp 66) rfl (w.heap.size + 1) _ rfl rfl _ _ HB6.out.row2 (iR6 _ _ _ _ _ _) rfl (by simp [Value.oneCell']) ?_))
          have hbt := HBT5.out
          have k1 : Kept (fun k => k = w.heap.size) w5 (w5.setCell ⟨w.heap.size, 0, none⟩ (.slice (some ⟨g5, 0, none⟩) 2240 C5)) := (Kept.refl _ _).setCell _ _ (.inl rfl)
          have hbt2 := hbt.off k1 hc5 (fun x h => by cases h) (fun x h => by injection h with h; rw [← h])
          have hc6 : (w5.setCell ⟨w.heap.size, 0, none⟩ (.slice (some ⟨g5, 0, none⟩) 2240 C5)).cell? ⟨w.heap.size + 1, 0, none⟩ = some (.slice none 0 0) := by rw [cell_of_row _ _ _ _ _ _ HB6.out.row2]; rfl
          have hbt3 := fun c => hbt2.off (kept_setRowQ _ (w.heap.size + 1) c) hc6 (fun x h => by cases h) (fun x h => by injection h with h; rw [← h])
          refine post_row 4 158 Try.results123 rfl (w.heap.size + 1) 158 _ (0, 0) _ rfl (setRow_heap _ _ _ _ _ _ HB6.out.row2) uR6 rfl (iR6 _ _ _ _ _ _) ⟨some ⟨g5, 0, none⟩, C5, by rw [hz], ?_, ?_⟩
          · rw [← HNN.out]; first | exact hbt3 _ | (rw [if_neg (by decide)]; exact hbt3 _) | (rw [if_pos rfl]; exact hbt3 _)
          · exact below_setRow HB6.out.below (by omega) _

set_option maxHeartbeats 4000000 in
theorem radd_hi (A : Option Addr) (C n : Nat) (hn : n < top) (c0 c1 c2 c3 c4 : Bool) (b : Nat) (B : Int) (hb0 : 0 ≤ B) (hb1 : B < 18446744073709551616) (hb : CbGives b B) (E M m S : Nat) (hE : B / 4503599627370496 % 2048 = (E : Int)) (hM : B % 4503599627370496 = (M : Int)) (hM2 : M < 4503599627370496) (hE2 : E < 2047) (E0 : 0 < E) (hm : m = M + 4503599627370496) (hS : S = E - 1)
    (sg : Bool) (hs : (B / 9223372036854775808 == 1) = sg) (hz : (B != 9223372036854775808) = true) (N : Nat) (HNN : Hid ((n + (if sg then neg (m * 2 ^ S) else m * 2 ^ S)) % top = N)) (w : World) (HA : Hid (BitAt w A n)) :
    Calls Try.prog 123 #[.agg #[.slice A 2240 C, .bool c0, .bool c1, .bool c2, .bool c3, .bool c4], .float .f64 b] w fun e w' => Qb.AddEnds w c0 c1 c2 true true N e w' := by
  have hmI : (M : Int) + 4503599627370496 = (m : Int) := by omega
  have hSE : (E : Int) - 1 = (S : Int) := by omega
  have hS2 : S < 2046 := by omega
  clear hm hS
  have hmk := make_bits
  have HS := fun d0 d1 d2 d3 d4 v => Lib.hid (Qb.Ad.start w v d0 d1 d2 d3 d4 (m % 2 ^ 0 * 2 ^ S) (by rw [Nat.pow_zero, Nat.mod_one, Nat.zero_mul]))
  have HM53 := Lib.hid (show m % 2 ^ 53 = m from Nat.mod_eq_of_lt (by rw [show (2 : Nat) ^ 53 = 9007199254740992 from rfl]; omega))
  have HTU : TuGives (m * 2 ^ S) := fun A C w h => rturn_any A C _ (small_top m S (by omega) (by omega)) w h
  generalize bys (List.replicate 2240 0) = Z at *
  skip
  all_goals
    go_enter Try.func123, Try.ntmps123
    go_wp2_with (go_at_call 99; (with_reducible refine (hb.at _).mono ?_); rintro e w' ⟨rfl, rfl⟩)
    clear hmk
    go_loopw [10] (fun i wr => ∃ k : Nat, k ≤ 53 ∧ i = .int .i64 k ∧ ∃ d4, d4 = (c4 || (B != 9223372036854775808)) ∧ Qb.Ad w (.slice A 2240 C) c0 c1 c2 true d4 (m % 2 ^ k * 2 ^ S) wr) (fun i _ => 53 - (intOf i).toNat)
    case atStart => exact ⟨0, by omega, rfl, _, by first | rfl | (rw [hz]; simp), (HS _ _ _ _ _ _).out⟩
    case round =>
      obtain ⟨k, hk, rfl, d4, rfl, hB⟩ := hrel
      have HB := Lib.hid hB
      clear hB
      by_cases hlt : k < 53
      · have hl : S + k < (bys (bl (m % 2 ^ k * 2 ^ S) 2240)).length := by rw [bys_length, bl_len]; omega
        have c3 := row_cell HB.out.row3 (S + k) hl
        have f3 := row_frozen HB.out.row3 (S + k)
        have hc := cast_bit m k
        have b1 := bit_le m k
        generalize (bys (bl (m % 2 ^ k * 2 ^ S) 2240))[S + k] = y at *
        have q0 : (0 : Int) ≤ (S : Int) + (k : Int) := by omega
        have q1 : (S : Int) + (k : Int) < 2240 := by omega
        have q2 : ((S : Int) + (k : Int)).toNat = S + k := by omega
        clear hl
        go_wp2
        go_roundw
        case rel => exact ⟨k + 1, by omega, by go_num, _, rfl, HB.out.up (by omega) _ (by first | rfl | exact hc | exact cast_bit8 m k | omega) _ (by omega)⟩
        case measure => simp [intOf]; omega
      · have hk2 : k = 53 := by omega
        subst hk2
        have hb := HB.out
        rw [HM53.out] at hb
        have HB2 := Lib.hid hb
        have hc := hb.cell
        clear hb HB
        rw [show ((53 : Nat) : Int) = (53 : Int) from rfl]
        cases sg
        all_goals
          go_wp2_with (first
            | (go_at_call 124; (with_reducible refine (HTU.at _ _ _ (Lib.hid HB2.out.bits)).mono ?_); rintro e w2 ⟨g2, C2, rfl, hbt, hb2⟩; have HBT := Lib.hid hbt; have HB3 := Lib.hid (HB2.out.next hb2); have hc2 := HB3.out.cell; clear hbt hb2 hc)
            | (go_at_call 125; (first
                | (with_reducible refine (radd_any A _ C _ n _ _ (Lib.hid (HA.out.keep HB3.out.below)) HBT).mono ?_)
                | (with_reducible refine (radd_any A _ C _ n _ _ (Lib.hid (HA.out.keep HB2.out.below)) (Lib.hid HB2.out.bits)).mono ?_)); rintro e w5 ⟨g5, C5, rfl, hbt5, hb5⟩; have HBT5 := Lib.hid hbt5; (first | have HB5 := Lib.hid (HB3.out.next hb5) | have HB5 := Lib.hid (HB2.out.next hb5)); have hc5 := HB5.out.cell; have f5 := row_frozen HB5.out.row1 0; have HB6 := Lib.hid (HB5.out.store (v' := .slice (some ⟨g5, 0, none⟩) 2240 C5)); clear hbt5 hb5)
            | (refine wpList_load_row rfl 158 (.tmp 2) rfl w.heap.size rfl _ _ (0, 0) _ HB6.out.row1 uR6 rfl (iR6 _ _ _ _ _ _) ?_)
            | (refine wpList_store_row rfl 158 (.tmp 4) (.tmp 66) rfl (w.heap.size + 1) _ rfl rfl _ _ HB6.out.row2 (iR6 _ _ _ _ _ _) rfl (by simp [Value.oneCell']) ?_))
          have hbt := HBT5.out
          have k1 : Kept (fun k => k = w.heap.size) w5 (w5.setCell ⟨w.heap.size, 0, none⟩ (.slice (some ⟨g5, 0, none⟩) 2240 C5)) := (Kept.refl _ _).setCell _ _ (.inl rfl)
          have hbt2 := hbt.off k1 hc5 (fun x h => by cases h) (fun x h => by injection h with h; rw [← h])
          have hc6 : (w5.setCell ⟨w.heap.size, 0, none⟩ (.slice (some ⟨g5, 0, none⟩) 2240 C5)).cell? ⟨w.heap.size + 1, 0, none⟩ = some (.slice none 0 0) := by rw [cell_of_row _ _ _ _ _ _ HB6.out.row2]; rfl
          have hbt3 := fun c => hbt2.off (kept_setRowQ _ (w.heap.size + 1) c) hc6 (fun x h => by cases h) (fun x h => by injection h with h; rw [← h])
          refine post_row 4 158 Try.results123 rfl (w.heap.size + 1) 158 _ (0, 0) _ rfl (setRow_heap _ _ _ _ _ _ HB6.out.row2) uR6 rfl (iR6 _ _ _ _ _ _) ⟨some ⟨g5, 0, none⟩, C5, by rw [hz, Bool.or_true], ?_, ?_⟩
          · rw [← HNN.out]; first | exact hbt3 _ | (rw [if_neg (by decide)]; exact hbt3 _) | (rw [if_pos rfl]; exact hbt3 _)
          · exact below_setRow HB6.out.below (by omega) _

end Go.Proofs.Ytbimfopbilcdgaa
