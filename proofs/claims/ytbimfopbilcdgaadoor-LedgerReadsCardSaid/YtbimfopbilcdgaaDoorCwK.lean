/-
  Layer column: Uint, Int, and whole numbers one behind the other, plain and as distances.
-/
import Derived.Test.YtbimfopbilcdgaaDoorCuK
import Derived.Test.YtbimfopbilcdgaaDoorInK
set_option linter.unusedSimpArgs false
set_option linter.unusedVariables false
set_option maxRecDepth 8000
namespace Go.Proofs.YtbimfopbilcdgaaDoor
open Go.RowKit Go.WideShapes Col
namespace Col
def zz (x : Int) : Nat := if x < 0 then (-2 * x - 1).toNat else (2 * x).toNat
theorem zz_lt {x : Int} (h : Wf64 x) : zz x < 18446744073709551616 := by unfold zz; obtain ⟨h1, h2⟩ := h; split <;> omega
theorem uz_zz {x : Int} : uz (zz x) = x := by
  unfold uz zz
  split <;> split <;> omega
/-- Numbers one behind the other. -/
def lpl (l : List Int) : List Nat := l.flatMap fun x => ub (zz x)
def sub64 (a b : Int) : Int := IntKind.i64.wrap (a - b)
/-- Numbers as their distances. -/
def lde : Int → List Int → List Nat
  | _, [] => []
  | p, x :: l => ub (zz (sub64 x p)) ++ lde x l
theorem sub64_wf (a b : Int) : Wf64 (sub64 a b) := by unfold sub64 Wf64; rw [IntKind.wrap_i64]; omega
end Col

/-- What a call ends with that appends bytes. -/
def Puts (B : Nat) (w : World) (l : List Nat) (e : Ending) (w' : World) : Prop := ∃ A n cap, e = .returned (.slice A n cap) ∧ OwnS w' B A n cap l ∧ Below B w w' ∧ w.heap.size ≤ w'.heap.size
theorem Puts.eq {B : Nat} {w w' : World} {l m : List Nat} {e : Ending} (h : Puts B w l e w') (hm : l = m) : Puts B w m e w' := hm ▸ h
theorem or128 (n : Nat) : bits BinOp.or IntKind.u8 ((n : Int) % 256) 128 = ((n % 128 + 128 : Nat) : Int) := by
  have h : ∀ b : Fin 256, bits BinOp.or IntKind.u8 ((b : Nat) : Int) 128 = (((b : Nat) % 128 + 128 : Nat) : Int) := by decide +kernel
  have e : (n : Int) % 256 = ((n % 256 : Nat) : Int) := by omega
  rw [e, h ⟨n % 256, by omega⟩]
  congr 1
  show n % 256 % 128 + 128 = n % 128 + 128
  omega

set_option maxHeartbeats 1000000 in
theorem putU_any (B : Nat) (A : Option Addr) (n cap : Nat) (l : List Nat) (x : Nat) (hx : x < 18446744073709551616) (w : World) (H : Hid (OwnS w B A n cap l)) (hn : n ≤ 1099511627776) (hB : B ≤ w.heap.size) :
    Calls Tryd.prog 14 #[.slice A n cap, .int .u64 (x : Int)] w (Puts B w (l ++ ub x)) := by
  have HBB := Lib.hid hB
  go_enter Tryd.func14, Tryd.ntmps14
  go_wp2
  go_loopw [0, 1] (fun p y wr => ∃ (A' : Option Addr) (n' cap' : Nat) (l' : List Nat) (x' : Nat), p = .slice A' n' cap' ∧ y = .int .u64 (x' : Int) ∧ x' ≤ x ∧ n' + (ub x').length ≤ n + (ub x).length ∧ l' ++ ub x' = l ++ ub x ∧ OwnS wr B A' n' cap' l' ∧ Below B w wr) (fun _ y _ => (intOf y).toNat)
  case atStart => exact ⟨A, n, cap, l, x, rfl, rfl, Nat.le_refl _, Nat.le_refl _, rfl, H.out, Below.refl _ _⟩
  case round =>
    obtain ⟨A', n', cap', l', x', rfl, rfl, hx', hn', hl, hown, hb⟩ := hrel
    have HN := Lib.hid hn'
    have HL := Lib.hid hl
    have HO := Lib.hid hown
    have HB := Lib.hid hb
    have hub := Lib.hid (ub_len 9 x (Nat.lt_trans hx (by decide)))
    have hub' := Lib.hid (ub_pos x')
    clear hn' hl hown hb
    have hbs : B ≤ wr.heap.size := Nat.le_trans HBB.out HB.out.size
    by_cases h : x' < 128
    · have hw8 : IntKind.u8.wrap (x' : Int) = (x' : Int) := by rw [IntKind.wrap_u8]; omega
      have HB1 := Lib.hid (by_one wr x' (by omega))
      have HO1 := Lib.hid (HO.out.keep ((Below.refl _ _).alloc (Nat.le_refl _) (.cells #[.int .u8 (x' : Int)] 5)))
      have hbs1 : B ≤ (wr.alloc (.cells #[.int .u8 (x' : Int)] 5)).heap.size := by simp; omega
      go_wp2_with (refine wpList_append_by rfl (.tmp 15) (.tmp 18) rfl B A' n' cap' l' rfl HO1.out (some ⟨wr.heap.size, 0, none⟩) 1 1 [x'] rfl rfl HB1.out (by have := HN.out; have := hub.out; have := hub'.out; omega) hbs1 ?_; intro A2 cap2 w2 ho2 hg2 hr2)
      have HF := Lib.hid ho2
      have HG := Lib.hid hg2
      clear ho2 hg2 hr2
      go_ret
      have hbl : Below B w w2 := ((HB.out.alloc hbs _).grown HG.out hbs1 HO1.out.base)
      exact ⟨A2, n' + 1, cap2, rfl, by rw [← HL.out, ub_lt h]; exact HF.out, hbl, hbl.size⟩
    · have h8 := or128 x'
      have HB1 := Lib.hid (by_one wr (x' % 128 + 128) (by omega))
      have HO1 := Lib.hid (HO.out.keep ((Below.refl _ _).alloc (Nat.le_refl _) (.cells #[.int .u8 ((x' % 128 + 128 : Nat) : Int)] 5)))
      have hbs1 : B ≤ (wr.alloc (.cells #[.int .u8 ((x' % 128 + 128 : Nat) : Int)] 5)).heap.size := by simp; omega
      obtain ⟨c, hc⟩ : ∃ c, c = x' % 128 + 128 := ⟨_, rfl⟩
      rw [← hc] at h8 HB1 HO1 hbs1
      have HC := Lib.hid hc
      clear hc
      go_wp2_with (refine wpList_append_by rfl (.tmp 7) (.tmp 11) rfl B A' n' cap' l' rfl HO1.out (some ⟨wr.heap.size, 0, none⟩) 1 1 [c] rfl rfl HB1.out (by have := HN.out; have := hub.out; have := hub'.out; omega) hbs1 ?_; intro A2 cap2 w2 ho2 hg2 hr2; have HF := Lib.hid ho2; have HG := Lib.hid hg2; clear ho2 hg2 hr2)
      go_roundw
      case rel => exact ⟨A2, n' + 1, cap2, l' ++ [c], x' / 128, rfl, by go_num, by omega, by have := HN.out; rw [ub_ge (by omega), List.length_cons] at this; omega, by rw [← HL.out, ub_ge (n := x') (by omega), List.append_assoc, HC.out]; rfl, HF.out, ((HB.out.alloc hbs _).grown HG.out hbs1 HO1.out.base)⟩
      case measure => simp [intOf]; omega

theorem xor_zz_neg (x : Int) (h : Wf64 x) (hn : x < 0) : bits BinOp.xor IntKind.u64 (IntKind.u64.wrap (IntKind.u64.wrap x * 2)) 18446744073709551615 = ((zz x : Nat) : Int) := by
  have e : zz x = (-2 * x - 1).toNat := if_pos hn
  obtain ⟨h1, h2⟩ := h
  have e1 : IntKind.u64.wrap (IntKind.u64.wrap x * 2) = (((2 * (x + 9223372036854775808)).toNat : Nat) : Int) := by rw [IntKind.wrap_u64, IntKind.wrap_u64]; omega
  have hb : ∀ a : Nat, a < 18446744073709551616 → bits BinOp.xor IntKind.u64 (a : Int) 18446744073709551615 = ((18446744073709551615 - a : Nat) : Int) := fun a ha => by
    have h1 : (BitVec.ofInt 64 (a : Int)).toNat = a := by
      rw [BitVec.ofInt_natCast, BitVec.toNat_ofNat]; exact Nat.mod_eq_of_lt (by omega)
    have h0 : BitVec.ofInt 64 18446744073709551615 = BitVec.allOnes 64 := by decide
    show IntKind.u64.wrap ((BitVec.ofInt 64 (a : Int) ^^^ BitVec.ofInt 64 18446744073709551615).toNat : Int) = _
    rw [h0, BitVec.xor_allOnes, BitVec.toNat_not, h1, IntKind.wrap_u64]; omega
  rw [e1, hb _ (by omega), e]
  omega
theorem xor_zz_pos (x : Int) (h : Wf64 x) (hn : ¬ x < 0) : bits BinOp.xor IntKind.u64 (x * 2) 0 = ((zz x : Nat) : Int) := by
  have e : zz x = (2 * x).toNat := if_neg hn
  obtain ⟨h1, h2⟩ := h
  have hb : ∀ a : Nat, a < 18446744073709551616 → bits BinOp.xor IntKind.u64 (a : Int) 0 = (a : Int) := fun a ha => by
    have h1 : (BitVec.ofInt 64 (a : Int)).toNat = a := by
      rw [BitVec.ofInt_natCast, BitVec.toNat_ofNat]; exact Nat.mod_eq_of_lt (by omega)
    have h0 : BitVec.ofInt 64 0 = 0#64 := by decide
    show IntKind.u64.wrap ((BitVec.ofInt 64 (a : Int) ^^^ BitVec.ofInt 64 0).toNat : Int) = _
    rw [h0, BitVec.xor_zero, h1, IntKind.wrap_u64]; omega
  have e1 : x * 2 = (((2 * x).toNat : Nat) : Int) := by omega
  rw [e1, hb _ (by omega), e]
set_option maxHeartbeats 1000000 in
theorem putI_any (B : Nat) (A : Option Addr) (n cap : Nat) (l : List Nat) (x : Int) (hx : Hid (Wf64 x)) (w : World) (H : Hid (OwnS w B A n cap l)) (hn : n ≤ 1099511627776) (hB : B ≤ w.heap.size) :
    Calls Tryd.prog 29 #[.slice A n cap, .int .i64 x] w (Puts B w (l ++ ub (zz x))) := by
  have hz := Lib.hid (zz_lt hx.out)
  obtain ⟨h1, h2⟩ := hx.out
  obtain ⟨z, hzz⟩ : ∃ z, z = zz x := ⟨_, rfl⟩
  rw [← hzz] at hz
  have HZ := Lib.hid hzz
  have hz2 := hz.out
  by_cases h : x < 0
  · have hb := xor_zz_neg x hx.out h
    have hd : x / 9223372036854775808 = -1 := by omega
    have hw : IntKind.u64.wrap (-1) = 18446744073709551615 := rfl
    rw [← hzz] at hb
    clear hzz
    go_enter Tryd.func29, Tryd.ntmps29
    go_wp2_with (go_at_call 14; (refine (putU_any B A n cap l z hz.out _ H hn hB).mono ?_); rintro e w1 ⟨A1, n1, c1, rfl, h1, h2, h3⟩)
    go_ret
    exact ⟨A1, n1, c1, rfl, by rw [← HZ.out]; exact h1, h2, h3⟩
  · have hb := xor_zz_pos x hx.out h
    have hd : x / 9223372036854775808 = 0 := by omega
    rw [← hzz] at hb
    clear hzz
    go_enter Tryd.func29, Tryd.ntmps29
    go_wp2_with (go_at_call 14; (refine (putU_any B A n cap l z hz.out _ H hn hB).mono ?_); rintro e w1 ⟨A1, n1, c1, rfl, h1, h2, h3⟩)
    go_ret
    exact ⟨A1, n1, c1, rfl, by rw [← HZ.out]; exact h1, h2, h3⟩
end Go.Proofs.YtbimfopbilcdgaaDoor
