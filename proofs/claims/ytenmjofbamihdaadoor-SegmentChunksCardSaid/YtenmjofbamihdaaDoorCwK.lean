/-
  Layer column: Uint, Int, and whole numbers one behind the other, plain and as distances.
-/
import Derived.Test.YtenmjofbamihdaaDoorByK
import Derived.Test.YtenmjofbamihdaaDoorCuK
set_option linter.unusedSimpArgs false
set_option linter.unusedVariables false
set_option maxRecDepth 8000
namespace Go.Proofs.YtenmjofbamihdaaDoor
open Go.RowKit Go.WideShapes

def Wf64 (x : Int) : Prop := -9223372036854775808 ≤ x ∧ x ≤ 9223372036854775807
/-- A slice value that holds some whole numbers, in a world. -/
def IsAt (w : World) (a : Option Addr) (l : List Int) : Prop := ∀ (k : Nat) (x : Int), l[k]? = some x → Wf64 x ∧ ∃ g off, a = some ⟨g, off, none⟩ ∧ g < w.heap.size ∧ w.cell? ⟨g, off + k, none⟩ = some (.int .i64 x)
theorem IsAt.keep {w w' : World} {a : Option Addr} {l : List Int} (h : IsAt w a l) (hb : Below w.heap.size w w') : IsAt w' a l := fun k x hx => by
  obtain ⟨h1, g, off, h2, h3, h4⟩ := h k x hx
  exact ⟨h1, g, off, h2, Nat.lt_of_lt_of_le h3 hb.size, (hb.cell (p := ⟨g, off + k, none⟩) h3).trans h4⟩
theorem IsAt.wf {w : World} {a : Option Addr} {l : List Int} (h : IsAt w a l) : ∀ x ∈ l, Wf64 x := fun x hx => by
  obtain ⟨k, hk⟩ := List.getElem?_of_mem hx
  exact (h k x hk).1
theorem IsAt.nil (w : World) (a : Option Addr) : IsAt w a [] := fun k x hx => by simp at hx
theorem IsAt.at {w w' : World} {a : Option Addr} {l : List Int} (h : Hid (IsAt w a l)) (hb : Below w.heap.size w w') : Hid (IsAt w' a l) := h.out.keep hb
theorem IsAt.spot {w : World} {a : Option Addr} {l : List Int} (h : IsAt w a l) (h0 : 0 < l.length) : ∃ g off, a = some ⟨g, off, none⟩ ∧ g < w.heap.size ∧ ∀ (k : Nat) (x : Int), l[k]? = some x → w.cell? ⟨g, off + k, none⟩ = some (.int .i64 x) := by
  obtain ⟨-, g, off, rfl, hg, -⟩ := h 0 l[0] (List.getElem?_eq_getElem h0)
  refine ⟨g, off, rfl, hg, fun k x hx => ?_⟩
  obtain ⟨-, g', off', h2, -, hc⟩ := h k x hx
  cases h2
  exact hc
def iv (x : Int) : Value := .int .i64 x
def ivs (l : List Int) : List Value := l.map iv
theorem ivs_length (l : List Int) : (ivs l).length = l.length := List.length_map ..
theorem IsAt.of_row {w : World} {g : Nat} {cs : Array Value} {t : TypeId} {fr : Nat × Nat} (l : List Int) (hl : ∀ x ∈ l, Wf64 x) (hrow : w.heap[g]? = some (.cells cs t fr)) (hcs : (ivs l).IsPrefix cs.toList) : IsAt w (some ⟨g, 0, none⟩) l := fun k x hx => by
  refine ⟨hl x (List.mem_of_getElem? hx), g, 0, rfl, (Array.getElem?_eq_some_iff.1 hrow).1, ?_⟩
  rw [cell_of_row w g (0 + k) cs t fr hrow, Nat.zero_add, ← Array.getElem?_toList]
  obtain ⟨r, hr⟩ := hcs
  have hk : k < (ivs l).length := by rw [ivs_length]; exact (List.getElem?_eq_some_iff.1 hx).1
  rw [← hr, List.getElem?_append_left hk]
  unfold ivs; rw [List.getElem?_map, hx]; rfl
/-- A slice of whole numbers that the call owns: its block lies from B on. -/
def OwnI (w : World) (B : Nat) (A : Option Addr) (n cap : Nat) (l : List Int) : Prop := w.ownsRow B 2 1 (.slice A n cap) n (ivs l) ∧ ∀ x ∈ l, Wf64 x
theorem OwnI.len {w : World} {B n cap : Nat} {A : Option Addr} {l : List Int} (h : OwnI w B A n cap l) : n = l.length := by have := h.1.1; rw [ivs_length] at this; omega
theorem OwnI.caps {w : World} {B n cap : Nat} {A : Option Addr} {l : List Int} (h : OwnI w B A n cap l) : n ≤ cap ∧ cap ≤ maxLen := by
  rcases h.1.2 with ⟨h1, h2⟩ | ⟨g, cap', cur, h1, -, -, h2, h3, -⟩
  · cases h1; exact ⟨Nat.le_refl _, Nat.zero_le _⟩
  · cases h1; exact ⟨h2, h3⟩
theorem OwnI.isAt {w : World} {B n cap : Nat} {A : Option Addr} {l : List Int} (h : OwnI w B A n cap l) : IsAt w A l := by
  rcases h.1.2 with ⟨h1, h2⟩ | ⟨g, cap', cur, h1, hb, hrow, -, -, hs, ht⟩
  · have := h.len
    have hl : l = [] := List.eq_nil_of_length_eq_zero (by omega)
    subst hl; exact IsAt.nil _ _
  · cases h1
    exact IsAt.of_row l h.2 hrow ⟨cur.toList.drop (n * 1), by rw [← ht, List.take_append_drop]⟩
theorem OwnI.nil (w : World) (B : Nat) : OwnI w B none 0 0 [] := ⟨w.ownsRow_nil B _ 1, fun x hx => by cases hx⟩
theorem OwnI.keep {w w' : World} {B n cap : Nat} {A : Option Addr} {l : List Int} (h : OwnI w B A n cap l) (hb : Below w.heap.size w w') : OwnI w' B A n cap l :=
  ⟨h.1.kept (row := none) ⟨hb.os, hb.tape, hb.output, hb.size, fun k hk _ => hb.block k hk⟩ (by rcases A with _ | a <;> simp [Value.ownBlock]), h.2⟩
theorem OwnI.base {w : World} {B n cap : Nat} {A : Option Addr} {l : List Int} (h : OwnI w B A n cap l) : ∀ k, A.map (·.block) = some k → B ≤ k := fun k hk => by
  rcases h.1.2 with ⟨h1, h2⟩ | ⟨g, cap', cur, h1, hb, _⟩
  · cases h1; cases hk
  · cases h1; simp at hk; omega
end Go.Proofs.YtenmjofbamihdaaDoor

set_option linter.unusedSimpArgs false
set_option linter.unusedVariables false
set_option maxRecDepth 8000
namespace Go.Proofs.YtenmjofbamihdaaDoor
open Go.RowKit Go.WideShapes Col
namespace Col
def zz (x : Int) : Nat := if x < 0 then (-2 * x - 1).toNat else (2 * x).toNat
theorem zz_lt {x : Int} (h : Wf64 x) : zz x < 18446744073709551616 := by unfold zz; obtain ⟨h1, h2⟩ := h; split <;> omega
theorem uz_zz {x : Int} : uz (zz x) = x := by
  unfold uz zz
  split <;> split <;> omega
/-- Numbers one behind the other. -/
def lpl (l : List Int) : List Nat := l.flatMap fun x => ub (zz x)
def sub64 (a b : Int) : Int := IntKind.i64.wrap (a - b)
/-- Numbers as their distances. -/
def lde : Int → List Int → List Nat
  | _, [] => []
  | p, x :: l => ub (zz (sub64 x p)) ++ lde x l
theorem sub64_wf (a b : Int) : Wf64 (sub64 a b) := by unfold sub64 Wf64; rw [IntKind.wrap_i64]; omega
end Col

/-- What a call ends with that appends bytes. -/
def Puts (B : Nat) (w : World) (l : List Nat) (e : Ending) (w' : World) : Prop := ∃ A n cap, e = .returned (.slice A n cap) ∧ OwnS w' B A n cap l ∧ Below B w w' ∧ w.heap.size ≤ w'.heap.size
theorem Puts.eq {B : Nat} {w w' : World} {l m : List Nat} {e : Ending} (h : Puts B w l e w') (hm : l = m) : Puts B w m e w' := hm ▸ h
theorem or128 (n : Nat) : bits BinOp.or IntKind.u8 ((n : Int) % 256) 128 = ((n % 128 + 128 : Nat) : Int) := by
  have h : ∀ b : Fin 256, bits BinOp.or IntKind.u8 ((b : Nat) : Int) 128 = (((b : Nat) % 128 + 128 : Nat) : Int) := by decide +kernel
  have e : (n : Int) % 256 = ((n % 256 : Nat) : Int) := by omega
  rw [e, h ⟨n % 256, by omega⟩]
  congr 1
  show n % 256 % 128 + 128 = n % 128 + 128
  omega

set_option maxHeartbeats 1000000 in
theorem putU_any (B : Nat) (A : Option Addr) (n cap : Nat) (l : List Nat) (x : Nat) (hx : x < 18446744073709551616) (w : World) (H : Hid (OwnS w B A n cap l)) (hn : n ≤ 1099511627776) (hB : B ≤ w.heap.size) :
    Calls Tryd.prog 56 #[.slice A n cap, .int .u64 (x : Int)] w (Puts B w (l ++ ub x)) := by
  have HBB := Lib.hid hB
  go_enter Tryd.func56, Tryd.ntmps56
  go_wp2
  go_loopw [0, 1] (fun p y wr => ∃ (A' : Option Addr) (n' cap' : Nat) (l' : List Nat) (x' : Nat), p = .slice A' n' cap' ∧ y = .int .u64 (x' : Int) ∧ x' ≤ x ∧ n' + (ub x').length ≤ n + (ub x).length ∧ l' ++ ub x' = l ++ ub x ∧ OwnS wr B A' n' cap' l' ∧ Below B w wr) (fun _ y _ => (intOf y).toNat)
  case atStart => exact ⟨A, n, cap, l, x, rfl, rfl, Nat.le_refl _, Nat.le_refl _, rfl, H.out, Below.refl _ _⟩
  case round =>
    obtain ⟨A', n', cap', l', x', rfl, rfl, hx', hn', hl, hown, hb⟩ := hrel
    have HN := Lib.hid hn'
    have HL := Lib.hid hl
    have HO := Lib.hid hown
    have HB := Lib.hid hb
    have hub := Lib.hid (ub_len 9 x (Nat.lt_trans hx (by decide)))
    have hub' := Lib.hid (ub_pos x')
    clear hn' hl hown hb
    have hbs : B ≤ wr.heap.size := Nat.le_trans HBB.out HB.out.size
    by_cases h : x' < 128
    · have hw8 : IntKind.u8.wrap (x' : Int) = (x' : Int) := by rw [IntKind.wrap_u8]; omega
      have HB1 := Lib.hid (by_one wr x' (by omega))
      have HO1 := Lib.hid (HO.out.keep ((Below.refl _ _).alloc (Nat.le_refl _) (.cells #[.int .u8 (x' : Int)] 5)))
      have hbs1 : B ≤ (wr.alloc (.cells #[.int .u8 (x' : Int)] 5)).heap.size := by simp; omega
      go_wp2_with (refine wpList_append_by rfl (.tmp 15) (.tmp 18) rfl B A' n' cap' l' rfl HO1.out (some ⟨wr.heap.size, 0, none⟩) 1 1 [x'] rfl rfl HB1.out (by have := HN.out; have := hub.out; have := hub'.out; omega) hbs1 ?_; intro A2 cap2 w2 ho2 hg2 hr2)
      have HF := Lib.hid ho2
      have HG := Lib.hid hg2
      clear ho2 hg2 hr2
      go_ret
      have hbl : Below B w w2 := ((HB.out.alloc hbs _).grown HG.out hbs1 HO1.out.base)
      exact ⟨A2, n' + 1, cap2, rfl, by rw [← HL.out, ub_lt h]; exact HF.out, hbl, hbl.size⟩
    · have h8 := or128 x'
      have HB1 := Lib.hid (by_one wr (x' % 128 + 128) (by omega))
      have HO1 := Lib.hid (HO.out.keep ((Below.refl _ _).alloc (Nat.le_refl _) (.cells #[.int .u8 ((x' % 128 + 128 : Nat) : Int)] 5)))
      have hbs1 : B ≤ (wr.alloc (.cells #[.int .u8 ((x' % 128 + 128 : Nat) : Int)] 5)).heap.size := by simp; omega
      obtain ⟨c, hc⟩ : ∃ c, c = x' % 128 + 128 := ⟨_, rfl⟩
      rw [← hc] at h8 HB1 HO1 hbs1
      have HC := Lib.hid hc
      clear hc
      go_wp2_with (refine wpList_append_by rfl (.tmp 7) (.tmp 11) rfl B A' n' cap' l' rfl HO1.out (some ⟨wr.heap.size, 0, none⟩) 1 1 [c] rfl rfl HB1.out (by have := HN.out; have := hub.out; have := hub'.out; omega) hbs1 ?_; intro A2 cap2 w2 ho2 hg2 hr2; have HF := Lib.hid ho2; have HG := Lib.hid hg2; clear ho2 hg2 hr2)
      go_roundw
      case rel => exact ⟨A2, n' + 1, cap2, l' ++ [c], x' / 128, rfl, by go_num, by omega, by have := HN.out; rw [ub_ge (by omega), List.length_cons] at this; omega, by rw [← HL.out, ub_ge (n := x') (by omega), List.append_assoc, HC.out]; rfl, HF.out, ((HB.out.alloc hbs _).grown HG.out hbs1 HO1.out.base)⟩
      case measure => simp [intOf]; omega

theorem xor_zz_neg (x : Int) (h : Wf64 x) (hn : x < 0) : bits BinOp.xor IntKind.u64 (IntKind.u64.wrap (IntKind.u64.wrap x * 2)) 18446744073709551615 = ((zz x : Nat) : Int) := by
  have e : zz x = (-2 * x - 1).toNat := if_pos hn
  obtain ⟨h1, h2⟩ := h
  have e1 : IntKind.u64.wrap (IntKind.u64.wrap x * 2) = (((2 * (x + 9223372036854775808)).toNat : Nat) : Int) := by rw [IntKind.wrap_u64, IntKind.wrap_u64]; omega
  have hb : ∀ a : Nat, a < 18446744073709551616 → bits BinOp.xor IntKind.u64 (a : Int) 18446744073709551615 = ((18446744073709551615 - a : Nat) : Int) := fun a ha => by
    have h1 : (BitVec.ofInt 64 (a : Int)).toNat = a := by
      rw [BitVec.ofInt_natCast, BitVec.toNat_ofNat]; exact Nat.mod_eq_of_lt (by omega)
    have h0 : BitVec.ofInt 64 18446744073709551615 = BitVec.allOnes 64 := by decide
    show IntKind.u64.wrap ((BitVec.ofInt 64 (a : Int) ^^^ BitVec.ofInt 64 18446744073709551615).toNat : Int) = _
    rw [h0, BitVec.xor_allOnes, BitVec.toNat_not, h1, IntKind.wrap_u64]; omega
  rw [e1, hb _ (by omega), e]
  omega
theorem xor_zz_pos (x : Int) (h : Wf64 x) (hn : ¬ x < 0) : bits BinOp.xor IntKind.u64 (x * 2) 0 = ((zz x : Nat) : Int) := by
  have e : zz x = (2 * x).toNat := if_neg hn
  obtain ⟨h1, h2⟩ := h
  have hb : ∀ a : Nat, a < 18446744073709551616 → bits BinOp.xor IntKind.u64 (a : Int) 0 = (a : Int) := fun a ha => by
    have h1 : (BitVec.ofInt 64 (a : Int)).toNat = a := by
      rw [BitVec.ofInt_natCast, BitVec.toNat_ofNat]; exact Nat.mod_eq_of_lt (by omega)
    have h0 : BitVec.ofInt 64 0 = 0#64 := by decide
    show IntKind.u64.wrap ((BitVec.ofInt 64 (a : Int) ^^^ BitVec.ofInt 64 0).toNat : Int) = _
    rw [h0, BitVec.xor_zero, h1, IntKind.wrap_u64]; omega
  have e1 : x * 2 = (((2 * x).toNat : Nat) : Int) := by omega
  rw [e1, hb _ (by omega), e]
set_option maxHeartbeats 1000000 in
theorem putI_any (B : Nat) (A : Option Addr) (n cap : Nat) (l : List Nat) (x : Int) (hx : Hid (Wf64 x)) (w : World) (H : Hid (OwnS w B A n cap l)) (hn : n ≤ 1099511627776) (hB : B ≤ w.heap.size) :
    Calls Tryd.prog 43 #[.slice A n cap, .int .i64 x] w (Puts B w (l ++ ub (zz x))) := by
  have hz := Lib.hid (zz_lt hx.out)
  obtain ⟨h1, h2⟩ := hx.out
  obtain ⟨z, hzz⟩ : ∃ z, z = zz x := ⟨_, rfl⟩
  rw [← hzz] at hz
  have HZ := Lib.hid hzz
  have hz2 := hz.out
  by_cases h : x < 0
  · have hb := xor_zz_neg x hx.out h
    have hd : x / 9223372036854775808 = -1 := by omega
    have hw : IntKind.u64.wrap (-1) = 18446744073709551615 := rfl
    rw [← hzz] at hb
    clear hzz
    go_enter Tryd.func43, Tryd.ntmps43
    go_wp2_with (go_at_call 56; (refine (putU_any B A n cap l z hz.out _ H hn hB).mono ?_); rintro e w1 ⟨A1, n1, c1, rfl, h1, h2, h3⟩)
    go_ret
    exact ⟨A1, n1, c1, rfl, by rw [← HZ.out]; exact h1, h2, h3⟩
  · have hb := xor_zz_pos x hx.out h
    have hd : x / 9223372036854775808 = 0 := by omega
    rw [← hzz] at hb
    clear hzz
    go_enter Tryd.func43, Tryd.ntmps43
    go_wp2_with (go_at_call 56; (refine (putU_any B A n cap l z hz.out _ H hn hB).mono ?_); rintro e w1 ⟨A1, n1, c1, rfl, h1, h2, h3⟩)
    go_ret
    exact ⟨A1, n1, c1, rfl, by rw [← HZ.out]; exact h1, h2, h3⟩
end Go.Proofs.YtenmjofbamihdaaDoor
