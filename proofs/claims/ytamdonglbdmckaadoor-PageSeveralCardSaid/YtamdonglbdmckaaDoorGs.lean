/-
  What Sum gives, and the document's Sum: the sum of bytes.
-/
import Derived.Test.YtamdonglbdmckaaDoorRows
import Derived.Test.YtamdonglbdmckaaDoorPm
import Derived.WalkKit
import Derived.WalkSpells
import Derived.WalkLawsBesides
import Derived.Laws.BitsAllLaws
import Derived.Lib.Hide
set_option linter.unusedSimpArgs false
set_option linter.unusedVariables false
namespace Go.Proofs.YtamdonglbdmckaaDoor
open Go.RowKit

theorem ret_eq {v v' : Value} (h : v = v') : Ending.returned v = Ending.returned v' := by rw [h]
/-- A slice value that holds some bytes, in a world. -/
def ByAt (w : World) (a : Option Addr) (l : List Nat) : Prop := ∀ (k x : Nat), l[k]? = some x → x < 256 ∧ ∃ g off, a = some ⟨g, off, none⟩ ∧ g < w.heap.size ∧ w.cell? ⟨g, off + k, none⟩ = some (.int .u8 (x : Int))
theorem ByAt.keep {w w' : World} {a : Option Addr} {l : List Nat} (h : ByAt w a l) (hb : Below w.heap.size w w') : ByAt w' a l := fun k x hx => by
  obtain ⟨h1, g, off, h2, h3, h4⟩ := h k x hx
  exact ⟨h1, g, off, h2, Nat.lt_of_lt_of_le h3 hb.size, (hb.cell (p := ⟨g, off + k, none⟩) h3).trans h4⟩
theorem ByAt.lt {w : World} {a : Option Addr} {l : List Nat} (h : ByAt w a l) : ∀ x ∈ l, x < 256 := fun x hx => by
  obtain ⟨k, hk⟩ := List.getElem?_of_mem hx
  exact (h k x hk).1
/-- The table's cells. -/
def HalvesAt (w : World) : Prop := ∀ i : Nat, i < 16 → w.cell? ⟨0, i, none⟩ = some (.int .u32 (Pg.half i : Nat))

theorem take_snoc' (l : List Nat) (k : Nat) (h : k < l.length) : l.take (k + 1) = l.take k ++ [l[k]] := by
  rw [List.take_succ_eq_append_getElem h]
theorem on_take (c : Nat) (l : List Nat) (k : Nat) (h : k < l.length) : Pg.on c (l.take (k + 1)) = Pg.byteOn (Pg.on c (l.take k)) l[k] := by
  rw [take_snoc' l k h, Pg.on_snoc]

/-- One half's step, in the walk's words. -/
theorem half_round (z : Nat) (hz : z < 4294967296) : bits .and .u32 (z : Int) 15 = ((z % 16 : Nat) : Int) ∧ bits .xor .u32 ((z : Int) / 16) (Pg.half (z % 16) : Nat) = ((Pg.steps 4 z : Nat) : Int) ∧ Pg.steps 4 z < 4294967296 := by
  refine ⟨?_, ?_, Pg.steps_lt 4 hz⟩
  · have h := u32_and_nat z 15 hz (by decide)
    rw [nat_mask4] at h; exact h
  · have h := u32_xor_nat (z / 16) (Pg.half (z % 16)) (by omega) (Pg.half_lt ⟨z % 16, Nat.mod_lt _ (by decide)⟩)
    rw [Pg.by_half] at h
    rw [← h]; congr 1

set_option maxHeartbeats 1000000 in
theorem sum_any (a : Option Addr) (l : List Nat) (len cap : Nat) (hlen : Hid (len = l.length)) (hl : len ≤ maxLen) (w : World) (HA : Hid (ByAt w a l)) (HG : Hid (HalvesAt w)) :
    Calls Tryd.prog 10 #[.slice a len cap] w fun e w' => e = .returned (.int .u32 (Pg.sum l : Nat)) ∧ w = w' := by
  unfold maxLen at hl
  go_enter Tryd.func10, Tryd.ntmps10
  go_wp2
  go_loop [3, 8] (fun c i => ∃ k : Nat, k ≤ len ∧ i = .int .i64 k ∧ c = .int .u32 (Pg.on Pg.full (l.take k) : Nat)) (fun _ i => len - (intOf i).toNat)
  case atStart => exact ⟨0, Nat.zero_le _, rfl, rfl⟩
  case round =>
    obtain ⟨k, hk, rfl, rfl⟩ := hrel
    by_cases hlt : k < len
    · have hkl : k < l.length := by have := hlen.out; omega
      obtain ⟨hx, g, off, rfl, hg, hc⟩ := HA.out k l[k] (List.getElem?_eq_getElem hkl)
      have hst := Lib.hid (on_take Pg.full l k hkl)
      have hc0 : Pg.on Pg.full (l.take k) < 4294967296 := Pg.on_lt _ (by decide) (fun x hx => HA.out.lt x (List.mem_of_mem_take hx))
      generalize Pg.on Pg.full (l.take k) = c at *
      generalize l[k] = b at *
      have hz : c ^^^ b < 4294967296 := Nat.xor_lt_two_pow (n := 32) hc0 (by omega)
      have e0 : bits .xor .u32 (c : Int) (b : Int) = ((c ^^^ b : Nat) : Int) := u32_xor_nat c b hc0 (by omega)
      have hb8 : Hid (Pg.byteOn c b = Pg.steps 4 (Pg.steps 4 (c ^^^ b))) := Lib.hid (Pg.steps_add 4 4 _)
      generalize c ^^^ b = z at *
      obtain ⟨e1, e2, hz2⟩ := half_round z hz
      have hc1 := HG.out (z % 16) (Nat.mod_lt _ (by decide))
      have hi1 : (0 : Int) ≤ ((z % 16 : Nat) : Int) := by omega
      have hj1 : ((z % 16 : Nat) : Int) < 16 := by omega
      have hn1 : (((z % 16 : Nat) : Int)).toNat = z % 16 := by omega
      generalize Pg.steps 4 z = y at *
      obtain ⟨e3, e4, hz3⟩ := half_round y hz2
      have hc2 := HG.out (y % 16) (Nat.mod_lt _ (by decide))
      have hi2 : (0 : Int) ≤ ((y % 16 : Nat) : Int) := by omega
      have hj2 : ((y % 16 : Nat) : Int) < 16 := by omega
      have hn2 : (((y % 16 : Nat) : Int)).toNat = y % 16 := by omega
      generalize Pg.half (z % 16) = h1 at *
      generalize Pg.half (y % 16) = h2 at *
      generalize z % 16 = m1 at *
      generalize y % 16 = m2 at *
      go_wp2
      go_round
      case rel => exact ⟨k + 1, by omega, by go_num, by rw [hst.out, hb8.out]⟩
      case measure => simp [intOf]; omega
    · have hT : Hid (l.take k = l) := Lib.hid (List.take_of_length_le (by have := hlen.out; omega))
      have hc0 : Pg.on Pg.full (l.take k) < 4294967296 := Pg.on_lt _ (by decide) (fun x hx => HA.out.lt x (List.mem_of_mem_take hx))
      have hs : Hid (Pg.sum l = Pg.on Pg.full (l.take k) ^^^ 4294967295) := Lib.hid (by rw [hT.out]; rfl)
      generalize Pg.on Pg.full (l.take k) = c at *
      have e0 : bits .xor .u32 IntKind.u32.max (c : Int) = ((c ^^^ 4294967295 : Nat) : Int) := by
        rw [Nat.xor_comm]; exact u32_xor_nat 4294967295 c (by decide) hc0
      go_wp2
      go_ret
      exact ⟨ret_eq (by rw [hs.out]; rfl), rfl⟩

/-- One bit's step of the document's way, in the walk's words. -/
theorem bit_round (c b k : Nat) (hc : c < 4294967296) (hb : b < 256) :
    bits .xor .u32 (c : Int) ((b : Int) / 2 ^ k % 4294967296) = ((c ^^^ b / 2 ^ k : Nat) : Int) := by
  have hl : b / 2 ^ k < 256 := Nat.lt_of_le_of_lt (Nat.div_le_self _ _) hb
  rw [← u32_xor_nat c (b / 2 ^ k) hc (by omega)]
  congr 1
  have e : (b : Int) / 2 ^ k = ((b / 2 ^ k : Nat) : Int) := by push_cast; rfl
  rw [e]
  generalize b / 2 ^ k = q at *
  omega

set_option maxHeartbeats 1000000 in
theorem refSum_any (a : Option Addr) (l : List Nat) (len cap : Nat) (hlen : Hid (len = l.length)) (hl : len ≤ maxLen) (w : World) (HA : Hid (ByAt w a l)) :
    Calls Tryd.prog 11 #[.slice a len cap] w fun e w' => e = .returned (.int .u32 (Pg.sum l : Nat)) ∧ w = w' := by
  unfold maxLen at hl
  go_enter Tryd.func11, Tryd.ntmps11
  go_wp2
  go_loop [3, 4] (fun c i => ∃ k : Nat, k ≤ len ∧ i = .int .i64 k ∧ c = .int .u32 (Pg.on Pg.full (l.take k) : Nat)) (fun _ i => len - (intOf i).toNat)
  case atStart => exact ⟨0, Nat.zero_le _, rfl, rfl⟩
  case round =>
    obtain ⟨k, hk, rfl, rfl⟩ := hrel
    by_cases hlt : k < len
    · have hkl : k < l.length := by have := hlen.out; omega
      obtain ⟨hx, g, off, rfl, hg, hc⟩ := HA.out k l[k] (List.getElem?_eq_getElem hkl)
      have hst := Lib.hid (on_take Pg.full l k hkl)
      have hc0 : Pg.on Pg.full (l.take k) < 4294967296 := Pg.on_lt _ (by decide) (fun x hx => HA.out.lt x (List.mem_of_mem_take hx))
      generalize Pg.on Pg.full (l.take k) = c at *
      generalize l[k] = b at *
      have hfin := Lib.hid (Pg.bitOn_byte c b hx)
      have hbl := Lib.hid (Pg.bitOn_lt c b hc0)
      go_wp2
      go_loop [3, 5] (fun c' i => ∃ j : Nat, j ≤ 8 ∧ i = .int .i64 j ∧ c' = .int .u32 (Pg.bitOn c b j : Nat)) (fun _ i => 8 - (intOf i).toNat)
      case atStart => exact ⟨0, Nat.zero_le _, rfl, rfl⟩
      case round =>
        obtain ⟨j, hj, rfl, rfl⟩ := hrel
        by_cases hjt : j < 8
        · have h1 := hbl.out j
          have hs1 : Hid (Pg.bitOn c b (j + 1) = if (Pg.bitOn c b j ^^^ b / 2 ^ j) % 2 = 1 then Pg.bitOn c b j / 2 ^^^ Pg.poly else Pg.bitOn c b j / 2) := rfl
          have e0 := bit_round (Pg.bitOn c b j) b j h1 hx
          generalize Pg.bitOn c b j = y at *
          have hp : bits .xor .u32 ((y : Int) / 2) 3988292384 = ((y / 2 ^^^ Pg.poly : Nat) : Int) := u32_xor_nat (y / 2) Pg.poly (by omega) (by decide)
          generalize (y ^^^ b / 2 ^ j) = z at *
          go_wp2
          · have hz : ((z : Int).tmod 2 == 1) = true := by assumption
            rw [Int.tmod_eq_emod_of_nonneg (by omega)] at hz
            go_round
            case rel => exact ⟨j + 1, by omega, by go_num, by rw [hs1.out, if_pos (by rw [beq_iff_eq] at hz; omega)]⟩
            case measure => simp [intOf]; omega
          · have hz : ((z : Int).tmod 2 == 1) = false := by assumption
            rw [Int.tmod_eq_emod_of_nonneg (by omega)] at hz
            go_round
            case rel => exact ⟨j + 1, by omega, by go_num, by rw [hs1.out, if_neg (by rw [beq_eq_false_iff_ne] at hz; omega)]; go_num⟩
            case measure => simp [intOf]; omega
        · go_wp2
          go_round
          case rel => exact ⟨k + 1, by omega, by go_num, by rw [hst.out, ← hfin.out, show j = 8 by omega]⟩
          case measure => simp [intOf]; omega
    · have hT : Hid (l.take k = l) := Lib.hid (List.take_of_length_le (by have := hlen.out; omega))
      have hc0 : Pg.on Pg.full (l.take k) < 4294967296 := Pg.on_lt _ (by decide) (fun x hx => HA.out.lt x (List.mem_of_mem_take hx))
      have hs : Hid (Pg.sum l = Pg.on Pg.full (l.take k) ^^^ 4294967295) := Lib.hid (by rw [hT.out]; rfl)
      generalize Pg.on Pg.full (l.take k) = c at *
      have e0 : bits .xor .u32 (c : Int) 4294967295 = ((c ^^^ 4294967295 : Nat) : Int) := u32_xor_nat c 4294967295 hc0 (by decide)
      go_wp2
      go_ret
      exact ⟨ret_eq (by rw [hs.out]; rfl), rfl⟩
end Go.Proofs.YtamdonglbdmckaaDoor
