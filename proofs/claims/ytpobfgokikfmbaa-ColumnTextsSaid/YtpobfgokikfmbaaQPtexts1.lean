/-
  Lists of whole numbers (int64) in a world: for any layer.
-/
import Derived.Test.YtpobfgokikfmbaaQPtexts0
import Derived.Deep.RegionHeld3
import Derived.Deep.DeepCutAuto
import Derived.Deep.MidRow
import Derived.Deep.Draws
import Derived.StillTailTactics
import Derived.Lib.Tables
import Derived.Laws.MathBits
import Derived.Outline
import Derived.OwnWalk
set_option linter.unusedSimpArgs false
set_option linter.unusedVariables false
set_option maxRecDepth 8000
namespace Go.Proofs.Ytpobfgokikfmbaa
open Go.RowKit Go.WideShapes

def Wf64 (x : Int) : Prop := -9223372036854775808 ≤ x ∧ x ≤ 9223372036854775807
/-- A slice value that holds some whole numbers, in a world. -/
def IsAt (w : World) (a : Option Addr) (l : List Int) : Prop := ∀ (k : Nat) (x : Int), l[k]? = some x → Wf64 x ∧ ∃ g off, a = some ⟨g, off, none⟩ ∧ g < w.heap.size ∧ w.cell? ⟨g, off + k, none⟩ = some (.int .i64 x)
theorem IsAt.keep {w w' : World} {a : Option Addr} {l : List Int} (h : IsAt w a l) (hb : Below w.heap.size w w') : IsAt w' a l := fun k x hx => by
  obtain ⟨h1, g, off, h2, h3, h4⟩ := h k x hx
  exact ⟨h1, g, off, h2, Nat.lt_of_lt_of_le h3 hb.size, (hb.cell (p := ⟨g, off + k, none⟩) h3).trans h4⟩
theorem IsAt.wf {w : World} {a : Option Addr} {l : List Int} (h : IsAt w a l) : ∀ x ∈ l, Wf64 x := fun x hx => by
  obtain ⟨k, hk⟩ := List.getElem?_of_mem hx
  exact (h k x hk).1
theorem IsAt.nil (w : World) (a : Option Addr) : IsAt w a [] := fun k x hx => by simp at hx
theorem IsAt.at {w w' : World} {a : Option Addr} {l : List Int} (h : Hid (IsAt w a l)) (hb : Below w.heap.size w w') : Hid (IsAt w' a l) := h.out.keep hb
theorem IsAt.spot {w : World} {a : Option Addr} {l : List Int} (h : IsAt w a l) (h0 : 0 < l.length) : ∃ g off, a = some ⟨g, off, none⟩ ∧ g < w.heap.size ∧ ∀ (k : Nat) (x : Int), l[k]? = some x → w.cell? ⟨g, off + k, none⟩ = some (.int .i64 x) := by
  obtain ⟨-, g, off, rfl, hg, -⟩ := h 0 l[0] (List.getElem?_eq_getElem h0)
  refine ⟨g, off, rfl, hg, fun k x hx => ?_⟩
  obtain ⟨-, g', off', h2, -, hc⟩ := h k x hx
  cases h2
  exact hc
def iv (x : Int) : Value := .int .i64 x
def ivs (l : List Int) : List Value := l.map iv
theorem ivs_length (l : List Int) : (ivs l).length = l.length := List.length_map ..
theorem ivs_append (l m : List Int) : ivs (l ++ m) = ivs l ++ ivs m := List.map_append ..
theorem ivs_one (l : List Int) : ∀ u ∈ ivs l, u.oneCell' = true := fun u hu => by
  obtain ⟨x, -, rfl⟩ := List.mem_map.1 hu; rfl
theorem IsAt.of_row {w : World} {g : Nat} {cs : Array Value} {t : TypeId} {fr : Nat × Nat} (l : List Int) (hl : ∀ x ∈ l, Wf64 x) (hrow : w.heap[g]? = some (.cells cs t fr)) (hcs : (ivs l).IsPrefix cs.toList) : IsAt w (some ⟨g, 0, none⟩) l := fun k x hx => by
  refine ⟨hl x (List.mem_of_getElem? hx), g, 0, rfl, (Array.getElem?_eq_some_iff.1 hrow).1, ?_⟩
  rw [cell_of_row w g (0 + k) cs t fr hrow, Nat.zero_add, ← Array.getElem?_toList]
  obtain ⟨r, hr⟩ := hcs
  have hk : k < (ivs l).length := by rw [ivs_length]; exact (List.getElem?_eq_some_iff.1 hx).1
  rw [← hr, List.getElem?_append_left hk]
  unfold ivs; rw [List.getElem?_map, hx]; rfl
theorem infoI64 : (Try.prog.info? 2).map (fun i => (i.zero, i.size, i.bytes)) = some (some (.int .i64 0), 1, 8) := by kernel_rfl
/-- A slice of whole numbers that the call owns: its block lies from B on. -/
def OwnI (w : World) (B : Nat) (A : Option Addr) (n cap : Nat) (l : List Int) : Prop := w.ownsRow B 2 1 (.slice A n cap) n (ivs l) ∧ ∀ x ∈ l, Wf64 x
theorem OwnI.len {w : World} {B n cap : Nat} {A : Option Addr} {l : List Int} (h : OwnI w B A n cap l) : n = l.length := by have := h.1.1; rw [ivs_length] at this; omega
theorem OwnI.caps {w : World} {B n cap : Nat} {A : Option Addr} {l : List Int} (h : OwnI w B A n cap l) : n ≤ cap ∧ cap ≤ maxLen := by
  rcases h.1.2 with ⟨h1, h2⟩ | ⟨g, cap', cur, h1, -, -, h2, h3, -⟩
  · cases h1; exact ⟨Nat.le_refl _, Nat.zero_le _⟩
  · cases h1; exact ⟨h2, h3⟩
theorem OwnI.isAt {w : World} {B n cap : Nat} {A : Option Addr} {l : List Int} (h : OwnI w B A n cap l) : IsAt w A l := by
  rcases h.1.2 with ⟨h1, h2⟩ | ⟨g, cap', cur, h1, hb, hrow, -, -, hs, ht⟩
  · have := h.len
    have hl : l = [] := List.eq_nil_of_length_eq_zero (by omega)
    subst hl; exact IsAt.nil _ _
  · cases h1
    exact IsAt.of_row l h.2 hrow ⟨cur.toList.drop (n * 1), by rw [← ht, List.take_append_drop]⟩
theorem OwnI.nil (w : World) (B : Nat) : OwnI w B none 0 0 [] := ⟨w.ownsRow_nil B _ 1, fun x hx => by cases hx⟩
theorem OwnI.keep {w w' : World} {B n cap : Nat} {A : Option Addr} {l : List Int} (h : OwnI w B A n cap l) (hb : Below w.heap.size w w') : OwnI w' B A n cap l :=
  ⟨h.1.kept (row := none) ⟨hb.os, hb.tape, hb.output, hb.size, fun k hk _ => hb.block k hk⟩ (by rcases A with _ | a <;> simp [Value.ownBlock]), h.2⟩
theorem OwnI.base {w : World} {B n cap : Nat} {A : Option Addr} {l : List Int} (h : OwnI w B A n cap l) : ∀ k, A.map (·.block) = some k → B ≤ k := fun k hk => by
  rcases h.1.2 with ⟨h1, h2⟩ | ⟨g, cap', cur, h1, hb, _⟩
  · cases h1; cases hk
  · cases h1; simp at hk; omega
theorem is_at {w : World} {a : Addr} {l : List Int} (h : IsAt w (some a) l) (j : Nat) (u : Value) (hu : (ivs l)[j]? = some u) : w.cell? (a.add j) = some u := by
  unfold ivs at hu
  rw [List.getElem?_map] at hu
  rcases hx : l[j]? with _ | x
  · rw [hx] at hu; cases hu
  · rw [hx] at hu
    obtain ⟨-, g, off, e, -, hc⟩ := h j x hx
    cases e
    rw [addr_add, hc]; exact hu
/-- append of whole numbers that are some, the source nil, empty or not. -/
theorem run_append_is (w : World) (B : Nat) (A : Option Addr) (n cap : Nat) (l : List Int) (hown : OwnI w B A n cap l) (a : Addr) (m c : Nat) (l2 : List Int) (hm : m = l2.length) (h2 : IsAt w (some a) l2)
    (hbytes : (n + m) * 8 ≤ 140737488355328) (hbase : B ≤ w.heap.size) (ty : TypeId) :
    ∃ A' cap' w', (Builtin.append_ #[22, 22] ty #[.slice A n cap, .slice (some a) m c]).run Try.prog w = .ok (.slice A' (n + m) cap') w' ∧ OwnI w' B A' (n + m) cap' (l ++ l2) ∧ w.grownBy w' (A.map (·.block)) := by
  obtain ⟨i0, hi, hz0, hz1, hz2⟩ := info_parts infoI64
  have hlt : ∀ x ∈ l ++ l2, Wf64 x := fun x hx => by
    rcases List.mem_append.1 hx with h | h
    · exact hown.2 x h
    · exact h2.wf x h
  obtain ⟨v', w', hr, h3, h4, h5, h6⟩ := run_append_own_at (P := Try.prog) w B 22 ty 2 i0 (.int .i64 0) 1 8 Try.underlying22 hi hz0 hz1 hz2 rfl (by decide) _ n (ivs l) hown.1 a m c (ivs l2) (by rw [ivs_length, hm, Nat.mul_one]) (is_at h2) (ivs_one l2) (by unfold maxLen; omega) (by omega) hbase
  rw [← ivs_append] at h3
  rcases h3.2 with ⟨rfl, h0⟩ | ⟨g, cap', cur, rfl, hb, hrest⟩
  · have hn0 : n = 0 := by omega
    have hm0 : m = 0 := by omega
    subst hn0; subst hm0
    exact ⟨none, 0, w', hr, ⟨h3, hlt⟩, by rcases A with _ | _ <;> exact h4⟩
  · exact ⟨_, _, w', hr, ⟨h3, hlt⟩, by rcases A with _ | _ <;> exact h4⟩
theorem wpList_append_is {w : World} {ops : Array Oper} {rest : List Oper} {o : Oper} {a : Act} {Q : Exit → Act → World → Prop} (hgd : o.guard = none) (s x : Operand)
    (ho : o.op = .call { callee := .builtin .append, args := #[s, x], argTypes := #[22, 22] })
    (B : Nat) (A : Option Addr) (n cap : Nat) (l : List Int) (hs : a.eval s = .slice A n cap) (hown : OwnI w B A n cap l) (b : Addr) (m c : Nat) (l2 : List Int) (hx : a.eval x = .slice (some b) m c) (hm : m = l2.length) (h2 : IsAt w (some b) l2)
    (hbytes : (n + m) * 8 ≤ 140737488355328) (hbase : B ≤ w.heap.size)
    (h : ∀ A' cap' w', OwnI w' B A' (n + m) cap' (l ++ l2) → w.grownBy w' (A.map (·.block)) → wpList Try.prog ops Q rest (a.put o.dst (.slice A' (n + m) cap')) w') : wpList Try.prog ops Q (o :: rest) a w := by
  refine wpList_plain hgd fun K hK => ?_
  obtain ⟨A', cap', w', hr, h3, h4⟩ := run_append_is w B A n cap l hown b m c l2 hm h2 hbytes hbase o.type
  unfold Oper.wp execOp
  simp only [ho, resolve, invoke, builtin, Sem.run_bind, Sem.run_pure, Result.andThen_ok, List.map_toArray, List.map_cons, List.map_nil, hs, hx, hr]
  exact hK _ _ (h A' cap' w' h3 h4)
theorem is_one (w : World) (x : Int) (hx : Wf64 x) : IsAt (w.alloc (.cells #[.int .i64 x] 2)) (some ⟨w.heap.size, 0, none⟩) [x] :=
  IsAt.of_row _ (fun y hy => by simp at hy; subst hy; exact hx) (heap_alloc_new' w _) ⟨[], rfl⟩
end Go.Proofs.Ytpobfgokikfmbaa

set_option linter.unusedSimpArgs false
set_option linter.unusedVariables false
set_option maxRecDepth 8000
namespace Go.Proofs.Ytpobfgokikfmbaa
open Go.RowKit Go.WideShapes Col
namespace Col
def zz (x : Int) : Nat := if x < 0 then (-2 * x - 1).toNat else (2 * x).toNat
theorem zz_lt {x : Int} (h : Wf64 x) : zz x < 18446744073709551616 := by unfold zz; obtain ⟨h1, h2⟩ := h; split <;> omega
theorem uz_zz {x : Int} : uz (zz x) = x := by
  unfold uz zz
  split <;> split <;> omega
/-- Numbers one behind the other. -/
def lpl (l : List Int) : List Nat := l.flatMap fun x => ub (zz x)
def sub64 (a b : Int) : Int := IntKind.i64.wrap (a - b)
/-- Numbers as their distances. -/
def lde : Int → List Int → List Nat
  | _, [] => []
  | p, x :: l => ub (zz (sub64 x p)) ++ lde x l
theorem sub64_wf (a b : Int) : Wf64 (sub64 a b) := by unfold sub64 Wf64; rw [IntKind.wrap_i64]; omega
end Col

/-- What a call ends with that appends bytes. -/
def Puts (B : Nat) (w : World) (l : List Nat) (e : Ending) (w' : World) : Prop := ∃ A n cap, e = .returned (.slice A n cap) ∧ OwnS w' B A n cap l ∧ Below B w w' ∧ w.heap.size ≤ w'.heap.size
theorem Puts.eq {B : Nat} {w w' : World} {l m : List Nat} {e : Ending} (h : Puts B w l e w') (hm : l = m) : Puts B w m e w' := hm ▸ h
theorem or128 (n : Nat) : bits BinOp.or IntKind.u8 ((n : Int) % 256) 128 = ((n % 128 + 128 : Nat) : Int) := by
  have h : ∀ b : Fin 256, bits BinOp.or IntKind.u8 ((b : Nat) : Int) 128 = (((b : Nat) % 128 + 128 : Nat) : Int) := by decide +kernel
  have e : (n : Int) % 256 = ((n % 256 : Nat) : Int) := by omega
  rw [e, h ⟨n % 256, by omega⟩]
  congr 1
  show n % 256 % 128 + 128 = n % 128 + 128
  omega

set_option maxHeartbeats 1000000 in
theorem putU_any (B : Nat) (A : Option Addr) (n cap : Nat) (l : List Nat) (x : Nat) (hx : x < 18446744073709551616) (w : World) (H : Hid (OwnS w B A n cap l)) (hn : n ≤ 1099511627776) (hB : B ≤ w.heap.size) :
    Calls Try.prog 47 #[.slice A n cap, .int .u64 (x : Int)] w (Puts B w (l ++ ub x)) := by
  have HBB := Lib.hid hB
  go_enter Try.func47, Try.ntmps47
  go_wp2
  go_loopw [0, 1] (fun p y wr => ∃ (A' : Option Addr) (n' cap' : Nat) (l' : List Nat) (x' : Nat), p = .slice A' n' cap' ∧ y = .int .u64 (x' : Int) ∧ x' ≤ x ∧ n' + (ub x').length ≤ n + (ub x).length ∧ l' ++ ub x' = l ++ ub x ∧ OwnS wr B A' n' cap' l' ∧ Below B w wr) (fun _ y _ => (intOf y).toNat)
  case atStart => exact ⟨A, n, cap, l, x, rfl, rfl, Nat.le_refl _, Nat.le_refl _, rfl, H.out, Below.refl _ _⟩
  case round =>
    obtain ⟨A', n', cap', l', x', rfl, rfl, hx', hn', hl, hown, hb⟩ := hrel
    have HN := Lib.hid hn'
    have HL := Lib.hid hl
    have HO := Lib.hid hown
    have HB := Lib.hid hb
    have hub := Lib.hid (ub_len 9 x (Nat.lt_trans hx (by decide)))
    have hub' := Lib.hid (ub_pos x')
    clear hn' hl hown hb
    have hbs : B ≤ wr.heap.size := Nat.le_trans HBB.out HB.out.size
    by_cases h : x' < 128
    · have hw8 : IntKind.u8.wrap (x' : Int) = (x' : Int) := by rw [IntKind.wrap_u8]; omega
      have HB1 := Lib.hid (by_one wr x' (by omega))
      have HO1 := Lib.hid (HO.out.keep ((Below.refl _ _).alloc (Nat.le_refl _) (.cells #[.int .u8 (x' : Int)] 5)))
      have hbs1 : B ≤ (wr.alloc (.cells #[.int .u8 (x' : Int)] 5)).heap.size := by simp; omega
      go_wp2_with (refine wpList_append_by rfl (.tmp 15) (.tmp 18) rfl B A' n' cap' l' rfl HO1.out (some ⟨wr.heap.size, 0, none⟩) 1 1 [x'] rfl rfl HB1.out (by have := HN.out; have := hub.out; have := hub'.out; omega) hbs1 ?_; intro A2 cap2 w2 ho2 hg2 hr2)
      have HF := Lib.hid ho2
      have HG := Lib.hid hg2
      clear ho2 hg2 hr2
      go_ret
      have hbl : Below B w w2 := ((HB.out.alloc hbs _).grown HG.out hbs1 HO1.out.base)
      exact ⟨A2, n' + 1, cap2, rfl, by rw [← HL.out, ub_lt h]; exact HF.out, hbl, hbl.size⟩
    · have h8 := or128 x'
      have HB1 := Lib.hid (by_one wr (x' % 128 + 128) (by omega))
      have HO1 := Lib.hid (HO.out.keep ((Below.refl _ _).alloc (Nat.le_refl _) (.cells #[.int .u8 ((x' % 128 + 128 : Nat) : Int)] 5)))
      have hbs1 : B ≤ (wr.alloc (.cells #[.int .u8 ((x' % 128 + 128 : Nat) : Int)] 5)).heap.size := by simp; omega
      obtain ⟨c, hc⟩ : ∃ c, c = x' % 128 + 128 := ⟨_, rfl⟩
      rw [← hc] at h8 HB1 HO1 hbs1
      have HC := Lib.hid hc
      clear hc
      go_wp2_with (refine wpList_append_by rfl (.tmp 7) (.tmp 11) rfl B A' n' cap' l' rfl HO1.out (some ⟨wr.heap.size, 0, none⟩) 1 1 [c] rfl rfl HB1.out (by have := HN.out; have := hub.out; have := hub'.out; omega) hbs1 ?_; intro A2 cap2 w2 ho2 hg2 hr2; have HF := Lib.hid ho2; have HG := Lib.hid hg2; clear ho2 hg2 hr2)
      go_roundw
      case rel => exact ⟨A2, n' + 1, cap2, l' ++ [c], x' / 128, rfl, by go_num, by omega, by have := HN.out; rw [ub_ge (by omega), List.length_cons] at this; omega, by rw [← HL.out, ub_ge (n := x') (by omega), List.append_assoc, HC.out]; rfl, HF.out, ((HB.out.alloc hbs _).grown HG.out hbs1 HO1.out.base)⟩
      case measure => simp [intOf]; omega

theorem xor_zz_neg (x : Int) (h : Wf64 x) (hn : x < 0) : bits BinOp.xor IntKind.u64 (IntKind.u64.wrap (IntKind.u64.wrap x * 2)) 18446744073709551615 = ((zz x : Nat) : Int) := by
  have e : zz x = (-2 * x - 1).toNat := if_pos hn
  obtain ⟨h1, h2⟩ := h
  have e1 : IntKind.u64.wrap (IntKind.u64.wrap x * 2) = (((2 * (x + 9223372036854775808)).toNat : Nat) : Int) := by rw [IntKind.wrap_u64, IntKind.wrap_u64]; omega
  have hb : ∀ a : Nat, a < 18446744073709551616 → bits BinOp.xor IntKind.u64 (a : Int) 18446744073709551615 = ((18446744073709551615 - a : Nat) : Int) := fun a ha => by
    have h1 : (BitVec.ofInt 64 (a : Int)).toNat = a := by
      rw [BitVec.ofInt_natCast, BitVec.toNat_ofNat]; exact Nat.mod_eq_of_lt (by omega)
    have h0 : BitVec.ofInt 64 18446744073709551615 = BitVec.allOnes 64 := by decide
    show IntKind.u64.wrap ((BitVec.ofInt 64 (a : Int) ^^^ BitVec.ofInt 64 18446744073709551615).toNat : Int) = _
    rw [h0, BitVec.xor_allOnes, BitVec.toNat_not, h1, IntKind.wrap_u64]; omega
  rw [e1, hb _ (by omega), e]
  omega
theorem xor_zz_pos (x : Int) (h : Wf64 x) (hn : ¬ x < 0) : bits BinOp.xor IntKind.u64 (x * 2) 0 = ((zz x : Nat) : Int) := by
  have e : zz x = (2 * x).toNat := if_neg hn
  obtain ⟨h1, h2⟩ := h
  have hb : ∀ a : Nat, a < 18446744073709551616 → bits BinOp.xor IntKind.u64 (a : Int) 0 = (a : Int) := fun a ha => by
    have h1 : (BitVec.ofInt 64 (a : Int)).toNat = a := by
      rw [BitVec.ofInt_natCast, BitVec.toNat_ofNat]; exact Nat.mod_eq_of_lt (by omega)
    have h0 : BitVec.ofInt 64 0 = 0#64 := by decide
    show IntKind.u64.wrap ((BitVec.ofInt 64 (a : Int) ^^^ BitVec.ofInt 64 0).toNat : Int) = _
    rw [h0, BitVec.xor_zero, h1, IntKind.wrap_u64]; omega
  have e1 : x * 2 = (((2 * x).toNat : Nat) : Int) := by omega
  rw [e1, hb _ (by omega), e]
set_option maxHeartbeats 1000000 in
theorem putI_any (B : Nat) (A : Option Addr) (n cap : Nat) (l : List Nat) (x : Int) (hx : Hid (Wf64 x)) (w : World) (H : Hid (OwnS w B A n cap l)) (hn : n ≤ 1099511627776) (hB : B ≤ w.heap.size) :
    Calls Try.prog 79 #[.slice A n cap, .int .i64 x] w (Puts B w (l ++ ub (zz x))) := by
  have hz := Lib.hid (zz_lt hx.out)
  obtain ⟨h1, h2⟩ := hx.out
  obtain ⟨z, hzz⟩ : ∃ z, z = zz x := ⟨_, rfl⟩
  rw [← hzz] at hz
  have HZ := Lib.hid hzz
  have hz2 := hz.out
  by_cases h : x < 0
  · have hb := xor_zz_neg x hx.out h
    have hd : x / 9223372036854775808 = -1 := by omega
    have hw : IntKind.u64.wrap (-1) = 18446744073709551615 := rfl
    rw [← hzz] at hb
    clear hzz
    go_enter Try.func79, Try.ntmps79
    go_wp2_with (go_at_call 47; (refine (putU_any B A n cap l z hz.out _ H hn hB).mono ?_); rintro e w1 ⟨A1, n1, c1, rfl, h1, h2, h3⟩)
    go_ret
    exact ⟨A1, n1, c1, rfl, by rw [← HZ.out]; exact h1, h2, h3⟩
  · have hb := xor_zz_pos x hx.out h
    have hd : x / 9223372036854775808 = 0 := by omega
    rw [← hzz] at hb
    clear hzz
    go_enter Try.func79, Try.ntmps79
    go_wp2_with (go_at_call 47; (refine (putU_any B A n cap l z hz.out _ H hn hB).mono ?_); rintro e w1 ⟨A1, n1, c1, rfl, h1, h2, h3⟩)
    go_ret
    exact ⟨A1, n1, c1, rfl, by rw [← HZ.out]; exact h1, h2, h3⟩
end Go.Proofs.Ytpobfgokikfmbaa

set_option linter.unusedSimpArgs false
set_option linter.unusedVariables false
set_option maxRecDepth 8000
namespace Go.Proofs.Ytpobfgokikfmbaa
open Go.RowKit Go.WideShapes Col
namespace Col
theorem ub10 {n : Nat} (h : n < 18446744073709551616) : (ub n).length ≤ 10 := ub_len 9 n (Nat.lt_trans h (by decide))
theorem zz10 {x : Int} (h : Wf64 x) : (ub (zz x)).length ≤ 10 := ub10 (zz_lt h)
theorem sub64_eq (a b : Int) : sub64 a b = wrap64 (a - b) := by unfold sub64 wrap64; rw [IntKind.wrap_i64]
theorem lpl_nil : lpl [] = [] := rfl
theorem lpl_snoc (l : List Int) (k : Nat) (x : Int) (h : l[k]? = some x) : lpl (l.take (k + 1)) = lpl (l.take k) ++ ub (zz x) := by
  rw [List.take_add_one, h]; simp [lpl]
/-- The last one, and what was ahead of all. -/
def lastOf (p : Int) (l : List Int) : Int := l.getLast?.getD p
theorem lastOf_snoc (p : Int) (l : List Int) (k : Nat) (x : Int) (h : l[k]? = some x) : lastOf p (l.take (k + 1)) = x := by
  rw [List.take_add_one, h]; simp [lastOf]
theorem lde_app : ∀ (p : Int) (l m : List Int), lde p (l ++ m) = lde p l ++ lde (lastOf p l) m
  | p, [], m => rfl
  | p, x :: l, m => by
    rw [List.cons_append, lde, lde, lde_app x l m, List.append_assoc]
    have e : lastOf p (x :: l) = lastOf x l := by
      unfold lastOf
      rcases l with _ | ⟨y, l⟩
      · rfl
      · rw [List.getLast?_cons_cons]
        rcases h : (y :: l).getLast? with _ | z
        · simp at h
        · rfl
    rw [e]
theorem lde_snoc (l : List Int) (k : Nat) (x : Int) (h : l[k]? = some x) : lde 0 (l.take (k + 1)) = lde 0 (l.take k) ++ ub (zz (sub64 x (lastOf 0 (l.take k)))) := by
  rw [List.take_add_one, h]; simp [lde_app, lde]
theorem lastOf_wf (l : List Int) (h : ∀ x ∈ l, Wf64 x) : Wf64 (lastOf 0 l) := by
  unfold lastOf
  rcases hl : l.getLast? with _ | x
  · exact ⟨by simp, by simp⟩
  · exact h x (List.mem_of_getLast? hl)
end Col

theorem int_cell {w : World} {b : Option Addr} {l : List Int} (h : IsAt w b l) (k : Nat) (x : Int) (hx : l[k]? = some x) : Wf64 x ∧ ∃ g off, b = some ⟨g, off, none⟩ ∧ w.cell? ⟨g, off + k, none⟩ = some (.int .i64 x) := by
  obtain ⟨h1, g, off, e, -, h2⟩ := h k x hx
  exact ⟨h1, g, off, e, h2⟩

set_option maxHeartbeats 1000000 in
theorem layPlain_any (B : Nat) (A : Option Addr) (n cap : Nat) (p : List Nat) (b : Option Addr) (m c : Nat) (l : List Int) (hm : Hid (m = l.length)) (hn : n ≤ 1000000) (hm1 : m ≤ 1000000) (W0 : World) (HL : Hid (IsAt W0 b l)) (hB : B = W0.heap.size) (w : World) (HW0 : Hid (Below B W0 w)) (H : Hid (OwnS w B A n cap p)) :
    Calls Try.prog 48 #[.slice A n cap, .slice b m c] w (Puts B w (p ++ lpl l)) := by
  have HBB := Lib.hid hB
  have hBw : B ≤ w.heap.size := by rw [hB]; exact HW0.out.size
  clear hB
  go_enter Try.func48, Try.ntmps48
  go_wp2
  go_loopw [0, 9] (fun q i wr => ∃ (k : Nat) (A' : Option Addr) (n' cap' : Nat), k ≤ m ∧ i = .int .i64 k ∧ q = .slice A' n' cap' ∧ n' ≤ n + 10 * k ∧ OwnS wr B A' n' cap' (p ++ lpl (l.take k)) ∧ Below B w wr) (fun _ i _ => m - (intOf i).toNat)
  case atStart => exact ⟨0, A, n, cap, Nat.zero_le _, rfl, rfl, Nat.le_refl _, by rw [List.take_zero, lpl_nil, List.append_nil]; exact H.out, Below.refl _ _⟩
  case round =>
    obtain ⟨k, A', n', cap', hk, rfl, rfl, hn', hown, hb⟩ := hrel
    have HO := Lib.hid hown
    have HBL := Lib.hid hb
    have hbs : B ≤ wr.heap.size := Nat.le_trans hBw hb.size
    clear hown hb
    by_cases hkm : k < m
    · obtain ⟨x, hx⟩ : ∃ x, l[k]? = some x := ⟨l[k]'(by have := hm.out; omega), List.getElem?_eq_getElem _⟩
      obtain ⟨hwf, g, off, rfl, hc⟩ := int_cell (HL.out.keep (HBB.out ▸ (HW0.out.trans HBL.out))) k x hx
      have HX := Lib.hid (lpl_snoc l k x hx)
      have HW := Lib.hid hwf
      have HZ := Lib.hid (zz10 hwf)
      clear hx hwf
      go_wp2_with (go_at_call 79; (refine (putI_any B A' n' cap' _ x HW _ HO (by omega) hbs).mono ?_); rintro e w1 ⟨A1, n1, c1, rfl, h1, h2, h3⟩; have HO1 := Lib.hid h1; have HB1 := Lib.hid h2; clear h1 h2 h3)
      go_roundw
      case rel => exact ⟨k + 1, A1, n1, c1, by omega, by go_num, rfl, by have e1 := HO1.out.len; have e2 := HO.out.len; have e3 := HZ.out; rw [List.length_append] at e1; omega, by rw [HX.out, ← List.append_assoc]; exact HO1.out, HBL.out.trans HB1.out⟩
      case measure => simp [intOf]; omega
    · have hkm' : k = m := by omega
      subst hkm'
      have HT : Hid (l.take k = l) := Lib.hid (List.take_of_length_le (by have := hm.out; omega))
      go_wp2
      go_ret
      exact ⟨A', n', cap', rfl, by rw [← HT.out]; exact HO.out, HBL.out, HBL.out.size⟩

set_option maxHeartbeats 1000000 in
theorem layDelta_any (B : Nat) (A : Option Addr) (n cap : Nat) (p : List Nat) (b : Option Addr) (m c : Nat) (l : List Int) (hm : Hid (m = l.length)) (hn : n ≤ 1000000) (hm1 : m ≤ 1000000) (W0 : World) (HL : Hid (IsAt W0 b l)) (hB : B = W0.heap.size) (w : World) (HW0 : Hid (Below B W0 w)) (H : Hid (OwnS w B A n cap p)) :
    Calls Try.prog 49 #[.slice A n cap, .slice b m c] w (Puts B w (p ++ lde 0 l)) := by
  have HBB := Lib.hid hB
  have hBw : B ≤ w.heap.size := by rw [hB]; exact HW0.out.size
  clear hB
  go_enter Try.func49, Try.ntmps49
  go_wp2
  go_loopw [0, 5, 10] (fun q a i wr => ∃ (k : Nat) (z : Int) (A' : Option Addr) (n' cap' : Nat), k ≤ m ∧ i = .int .i64 k ∧ a = .int .i64 z ∧ z = lastOf 0 (l.take k) ∧ q = .slice A' n' cap' ∧ n' ≤ n + 10 * k ∧ OwnS wr B A' n' cap' (p ++ lde 0 (l.take k)) ∧ Below B w wr) (fun _ _ i _ => m - (intOf i).toNat)
  case atStart => exact ⟨0, 0, A, n, cap, Nat.zero_le _, rfl, rfl, rfl, rfl, Nat.le_refl _, by rw [List.take_zero, lde, List.append_nil]; exact H.out, Below.refl _ _⟩
  case round =>
    obtain ⟨k, z, A', n', cap', hk, rfl, rfl, hz, rfl, hn', hown, hb⟩ := hrel
    have HO := Lib.hid hown
    have HBL := Lib.hid hb
    have HZZ := Lib.hid hz
    have hbs : B ≤ wr.heap.size := Nat.le_trans hBw hb.size
    clear hown hb hz
    by_cases hkm : k < m
    · obtain ⟨x, hx⟩ : ∃ x, l[k]? = some x := ⟨l[k]'(by have := hm.out; omega), List.getElem?_eq_getElem _⟩
      obtain ⟨hwf, g, off, rfl, hc⟩ := int_cell (HL.out.keep (HBB.out ▸ (HW0.out.trans HBL.out))) k x hx
      have HX := Lib.hid (lde_snoc l k x hx)
      have HX2 := Lib.hid (lastOf_snoc 0 l k x hx)
      obtain ⟨d, hd⟩ : ∃ d, d = wrap64 (x - z) := ⟨_, rfl⟩
      have HD := Lib.hid hd
      have HW : Hid (Wf64 d) := Lib.hid (by rw [hd, ← sub64_eq]; exact sub64_wf x z)
      have HZ := Lib.hid (zz10 HW.out)
      clear hx hwf hd
      go_wp2_with (go_at_call 79; rw [← HD.out]; (refine (putI_any B A' n' cap' _ d HW _ HO (by omega) hbs).mono ?_); rintro e w1 ⟨A1, n1, c1, rfl, h1, h2, h3⟩; have HO1 := Lib.hid h1; have HB1 := Lib.hid h2; clear h1 h2 h3)
      go_roundw
      case rel => exact ⟨k + 1, x, A1, n1, c1, by omega, by go_num, rfl, HX2.out.symm, rfl, by have e1 := HO1.out.len; have e2 := HO.out.len; have e3 := HZ.out; rw [List.length_append] at e1; omega, by rw [HX.out, ← List.append_assoc, ← HZZ.out, sub64_eq, ← HD.out]; exact HO1.out, HBL.out.trans HB1.out⟩
      case measure => simp [intOf]; omega
    · have hkm' : k = m := by omega
      subst hkm'
      have HT : Hid (l.take k = l) := Lib.hid (List.take_of_length_le (by have := hm.out; omega))
      go_wp2
      go_ret
      exact ⟨A', n', cap', rfl, by rw [← HT.out]; exact HO.out, HBL.out, HBL.out.size⟩
end Go.Proofs.Ytpobfgokikfmbaa

set_option linter.unusedSimpArgs false
set_option linter.unusedVariables false
set_option maxRecDepth 8000
namespace Go.Proofs.Ytpobfgokikfmbaa
open Go.RowKit Go.WideShapes Col
theorem icut_from (a : Option Addr) (len cap k : Nat) (hk : k ≤ len) (hc : len ≤ cap) :
    ∃ A C, (∀ w, (Instr.slice 22 (.slice a len cap) (some (.int .i64 (k : Int))) none none).run Try.prog w = .ok (.slice A (len - k) C) w) ∧ len - k ≤ C ∧ C ≤ cap ∧ ∀ w l, len = l.length → IsAt w a l → IsAt w A (l.drop k) := by
  refine ⟨if cap = k then a else a.map (·.add k), cap - k, fun w => ?_, by omega, by omega, fun w l hl h j x hx => ?_⟩
  · rw [run_slice_l w 22 a len cap Try.underlying22 .i64 (k : Int) (by omega) (by omega)]
    rw [show (Go.sizeOf (Try.prog.elem 22)).run Try.prog w = .ok 1 w from by kernel_rfl]
    simp [Result.andThen, sliced]
  · rw [List.getElem?_drop] at hx
    obtain ⟨h1, g, off, rfl, hg, hcell⟩ := h _ _ hx
    have hkl := (List.getElem?_eq_some_iff.1 hx).1
    rw [if_neg (by omega)]
    exact ⟨h1, g, off + k, by simp [addr_add], hg, by rw [Nat.add_assoc]; exact hcell⟩
namespace Col
/-- How often a number stands ahead. -/
def runN (x : Int) : List Int → Nat
  | [] => 0
  | y :: l => if y = x then runN x l + 1 else 0
theorem runN_le (x : Int) : ∀ l, runN x l ≤ l.length
  | [] => Nat.le_refl _
  | y :: l => by
    unfold runN
    split
    · have := runN_le x l; simp; omega
    · omega
theorem runN_at (x : Int) : ∀ (l : List Int) (k : Nat), (∀ j, j < k → l[j]? = some x) → (k = l.length ∨ ∃ y, l[k]? = some y ∧ y ≠ x) → runN x l = k
  | [], k, h, h1 => by
    rcases h1 with h1 | ⟨y, h1, -⟩
    · exact h1.symm
    · simp at h1
  | z :: l, 0, h, h1 => by
    rcases h1 with h1 | ⟨y, h1, h2⟩
    · simp at h1
    · simp at h1; subst h1; unfold runN; rw [if_neg h2]
  | z :: l, k + 1, h, h1 => by
    have h0 := h 0 (by omega)
    simp at h0; subst h0
    unfold runN; rw [if_pos rfl, runN_at z l k (fun j hj => by have := h (j + 1) (by omega); simpa using this) (by
      rcases h1 with h1 | ⟨y, h1, h2⟩
      · left; simpa using h1
      · exact .inr ⟨y, by simpa using h1, h2⟩)]
/-- Numbers as their runs. -/
def lru : List Int → List Nat
  | [] => []
  | x :: l => ub (zz x) ++ (ub (runN x l) ++ lru (l.drop (runN x l)))
termination_by l => l.length
decreasing_by simp; omega
theorem lru_nil : lru [] = [] := by rw [lru]
theorem lru_step (l : List Int) (x : Int) (r : Nat) (h1 : 1 ≤ r) (h : ∀ j, j < r → l[j]? = some x) (h2 : r = l.length ∨ ∃ y, l[r]? = some y ∧ y ≠ x) : lru l = ub (zz x) ++ (ub (r - 1) ++ lru (l.drop r)) := by
  rcases l with _ | ⟨z, l⟩
  · have := h 0 (by omega); simp at this
  · have h0 := h 0 (by omega)
    simp at h0; subst h0
    obtain ⟨k, rfl⟩ : ∃ k, r = k + 1 := ⟨r - 1, by omega⟩
    rw [lru, runN_at z l k (fun j hj => by have := h (j + 1) (by omega); simpa using this) (by
      rcases h2 with h1 | ⟨y, h1, h2⟩
      · left; simpa using h1
      · exact .inr ⟨y, by simpa using h1, h2⟩)]
    rfl
end Col
def RL (B : Nat) (W0 w : World) (n m : Nat) (p : List Nat) (l : List Int) (q s : Value) (wr : World) : Prop :=
  ∃ (A' : Option Addr) (n' cap' : Nat) (b' : Option Addr) (m' c' : Nat) (p' : List Nat) (l' : List Int), q = .slice A' n' cap' ∧ s = .slice b' m' c' ∧ m' = l'.length ∧ m' ≤ c' ∧ c' ≤ maxLen ∧ m' ≤ m ∧ n' + 20 * m' ≤ n + 20 * m ∧ p' ++ lru l' = p ++ lru l ∧ OwnS wr B A' n' cap' p' ∧ IsAt W0 b' l' ∧ Below B w wr
theorem all1 {l : List Int} {x : Int} (h : l[0]? = some x) : ∀ j, j < 1 → l[j]? = some x := fun j hj => by
  obtain rfl : j = 0 := by omega
  exact h
def lenOfS : Value → Nat
  | .slice _ n _ => n
  | _ => 0
set_option maxHeartbeats 4000000 in
theorem layRuns_any (B : Nat) (A : Option Addr) (n cap : Nat) (p : List Nat) (b : Option Addr) (m c : Nat) (l : List Int) (hm : Hid (m = l.length)) (hmc : m ≤ c) (hc : c ≤ 9223372036854775807) (hn : n ≤ 1000000) (hm1 : m ≤ 1000000) (W0 : World) (HL : Hid (IsAt W0 b l)) (hB : B = W0.heap.size) (w : World) (HW0 : Hid (Below B W0 w)) (H : Hid (OwnS w B A n cap p)) :
    Calls Try.prog 50 #[.slice A n cap, .slice b m c] w (Puts B w (p ++ lru l)) := by
  have HBB := Lib.hid hB
  have hBw : B ≤ w.heap.size := by rw [hB]; exact HW0.out.size
  clear hB
  go_enter Try.func50, Try.ntmps50
  go_wp2
  go_loopw [0, 1] (fun q s wr => RL B W0 w n m p l q s wr) (fun _ s _ => lenOfS s)
  case atStart => exact ⟨A, n, cap, b, m, c, p, l, rfl, rfl, hm.out, hmc, hc, Nat.le_refl _, Nat.le_refl _, rfl, H.out, HL.out, Below.refl _ _⟩
  case round =>
    obtain ⟨A', n', cap', b', m', c', p', l', rfl, rfl, hm', hmc', hc', hle, hb20, hp', hown, hat, hb⟩ := hrel
    have HO := Lib.hid hown; have HATW := Lib.hid hat; have HAT := Lib.hid (hat.keep (HBB.out ▸ (HW0.out.trans hb))); have HBL := Lib.hid hb; have HP := Lib.hid hp'; have HM := Lib.hid hm'
    have hbs : B ≤ wr.heap.size := Nat.le_trans hBw hb.size
    have hc2 : c' ≤ 9223372036854775807 := hc'
    clear hown hat hb hp' hm' hc'
    by_cases hz : 0 < m'
    · obtain ⟨x, hx⟩ : ∃ x, l'[0]? = some x := ⟨l'[0]'(by have := HM.out; omega), List.getElem?_eq_getElem _⟩
      obtain ⟨hwf, g, off, rfl, hg, hc0⟩ := HAT.out 0 x hx
      have HG := Lib.hid hg
      have HW := Lib.hid hwf
      have HX0 := Lib.hid hx
      have HZ := Lib.hid (zz10 hwf)
      rw [Nat.add_zero] at hc0
      have HC0 := Lib.hid hc0
      obtain ⟨w0, hw0⟩ : ∃ w0, w0 = wr := ⟨wr, rfl⟩
      subst hw0
      clear hx hwf hg
      have hzi : (0 : Int) < (m' : Int) := by omega
      go_wp2
      clear hc0
      go_loopw [5] (fun v wk => ∃ r : Nat, 1 ≤ r ∧ r ≤ m' ∧ v = .int .i64 r ∧ (∀ j, j < r → l'[j]? = some x) ∧ Below w0.heap.size w0 wk) (fun v _ => m' - (intOf v).toNat)
      case atStart => exact ⟨1, Nat.le_refl _, hz, rfl, all1 HX0.out, Below.refl _ _⟩
      case round =>
        obtain ⟨r, hr1, hrm, rfl, hall, hbk⟩ := hrel
        obtain ⟨wk, hw0⟩ : ∃ wk, wk = wr := ⟨wr, rfl⟩
        subst hw0
        have HALL := Lib.hid hall
        have HBK2 := Lib.hid hbk
        have HC0' : Hid (wk.cell? ⟨g, off, none⟩ = some (.int .i64 x)) := Lib.hid ((hbk.cell (p := ⟨g, off, none⟩) HG.out).trans HC0.out)
        have HGK : Hid (g < wk.heap.size) := Lib.hid (Nat.lt_of_lt_of_le HG.out hbk.size)
        clear hall hbk
        by_cases hrm2 : r < m'
        · obtain ⟨y, hy⟩ : ∃ y, l'[r]? = some y := ⟨l'[r]'(by have := HM.out; omega), List.getElem?_eq_getElem _⟩
          have HY := Lib.hid hy
          have HCY : Hid (wk.cell? ⟨g, off + r, none⟩ = some (.int .i64 y)) := Lib.hid (by
            obtain ⟨-, g', off', e, hcy⟩ := int_cell HAT.out r y hy
            injection e with e; injection e with e1 e2; subst e1; subst e2
            exact (HBK2.out.cell (p := ⟨g, off + r, none⟩) HG.out).trans hcy)
          have hri : (r : Int) < (m' : Int) := by omega
          clear hy
          by_cases hxy : y = x
          · subst hxy
            go_upto_region 3 with fail
            have hh0 : Below wk.heap.size wk wk.drew := (Below.refl _ _).drew
            refine wp_region_held_drew (S := fun w => Below wk.heap.size wk w) (by kernel_rfl) hh0 (fun hHeld => ?_)
            refine wpAnyH_take (i := 0) (v := .int .i64 (r : Int)) rfl (by kernel_rfl) (by kernel_rfl) (by kernel_rfl) (fun _ _ _ h => h) (Or.inl ⟨by rfl, fun _ _ => rfl⟩) hHeld ?_
            try dsimp only
            try simp only [Act.put, List.getElem_toArray, List.getElem_cons_zero, List.getElem_cons_succ, List.setIfInBounds_toArray, List.set_cons_zero, List.set_cons_succ]
            refine wpAnyH_take (i := 1) (v := .slice (some ⟨g, off, none⟩) m' c') rfl (by kernel_rfl) (by kernel_rfl) (by kernel_rfl) (fun _ _ _ h => h) (Or.inl ⟨by rfl, fun _ _ => rfl⟩) hHeld ?_
            try dsimp only
            try simp only [Act.put, List.getElem_toArray, List.getElem_cons_zero, List.getElem_cons_succ, List.setIfInBounds_toArray, List.set_cons_zero, List.set_cons_succ]
            refine wpAnyH_take (i := 2) (v := .int .i64 (m' : Int)) rfl (by kernel_rfl) (by kernel_rfl) (by kernel_rfl) (fun _ _ _ h => h) (Or.inl ⟨by rfl, fun w _ => by go_simp⟩) hHeld ?_
            try dsimp only
            try simp only [Act.put, List.getElem_toArray, List.getElem_cons_zero, List.getElem_cons_succ, List.setIfInBounds_toArray, List.set_cons_zero, List.set_cons_succ]
            refine wpAnyH_take (i := 3) (v := .bool true) rfl (by kernel_rfl) (by kernel_rfl) (by kernel_rfl) (fun _ _ _ h => h) (Or.inl ⟨by rfl, fun w _ => by first | (go_simp; done) | (go_simp; omega)⟩) hHeld ?_
            try dsimp only
            try simp only [Act.put, List.getElem_toArray, List.getElem_cons_zero, List.getElem_cons_succ, List.setIfInBounds_toArray, List.set_cons_zero, List.set_cons_succ]
            refine wpAnyH_take (i := 4) (v := .bool true) rfl (by kernel_rfl) (by kernel_rfl) (by kernel_rfl) (fun _ _ _ h => h) (Or.inl ⟨by rfl, fun _ _ => rfl⟩) hHeld ?_
            try dsimp only
            try simp only [Act.put, List.getElem_toArray, List.getElem_cons_zero, List.getElem_cons_succ, List.setIfInBounds_toArray, List.set_cons_zero, List.set_cons_succ]
            refine wpAnyH_take (i := 5) (v := .slice (some ⟨g, off, none⟩) m' c') rfl (by kernel_rfl) (by kernel_rfl) (by kernel_rfl) (fun _ _ _ h => h) (Or.inl ⟨by rfl, fun _ _ => rfl⟩) hHeld ?_
            try dsimp only
            try simp only [Act.put, List.getElem_toArray, List.getElem_cons_zero, List.getElem_cons_succ, List.setIfInBounds_toArray, List.set_cons_zero, List.set_cons_succ]
            refine wpAnyH_take (i := 6) (v := .int .i64 (r : Int)) rfl (by kernel_rfl) (by kernel_rfl) (by kernel_rfl) (fun _ _ _ h => h) (Or.inl ⟨by rfl, fun _ _ => rfl⟩) hHeld ?_
            try dsimp only
            try simp only [Act.put, List.getElem_toArray, List.getElem_cons_zero, List.getElem_cons_succ, List.setIfInBounds_toArray, List.set_cons_zero, List.set_cons_succ]
            refine wpAnyH_take (i := 7) (v := .pointer (some ⟨g, off + r, none⟩)) rfl (by kernel_rfl) (by kernel_rfl) (by kernel_rfl) (fun _ _ _ h => h) (Or.inl ⟨by rfl, fun w _ => by go_simp; try (intro h; exfalso; omega)⟩) hHeld ?_
            try dsimp only
            try simp only [Act.put, List.getElem_toArray, List.getElem_cons_zero, List.getElem_cons_succ, List.setIfInBounds_toArray, List.set_cons_zero, List.set_cons_succ]
            refine wpAnyH_take (i := 8) (v := .int .i64 y) rfl (by kernel_rfl) (by kernel_rfl) (by kernel_rfl) (fun _ _ _ h => h) (Or.inl ⟨by rfl, fun w hw => by have hc : w.cell? ⟨g, off + r, none⟩ = some (.int .i64 y) := (hw.cell (p := ⟨g, off + r, none⟩) HGK.out).trans HCY.out; go_simp⟩) hHeld ?_
            try dsimp only
            try simp only [Act.put, List.getElem_toArray, List.getElem_cons_zero, List.getElem_cons_succ, List.setIfInBounds_toArray, List.set_cons_zero, List.set_cons_succ]
            refine wpAnyH_take (i := 9) (v := .slice (some ⟨g, off, none⟩) m' c') rfl (by kernel_rfl) (by kernel_rfl) (by kernel_rfl) (fun _ _ _ h => h) (Or.inl ⟨by rfl, fun _ _ => rfl⟩) hHeld ?_
            try dsimp only
            try simp only [Act.put, List.getElem_toArray, List.getElem_cons_zero, List.getElem_cons_succ, List.setIfInBounds_toArray, List.set_cons_zero, List.set_cons_succ]
            refine wpAnyH_take (i := 10) (v := .pointer (some ⟨g, off, none⟩)) rfl (by kernel_rfl) (by kernel_rfl) (by kernel_rfl) (fun _ _ _ h => h) (Or.inl ⟨by rfl, fun w _ => by go_simp; try (intro h; exfalso; omega)⟩) hHeld ?_
            try dsimp only
            try simp only [Act.put, List.getElem_toArray, List.getElem_cons_zero, List.getElem_cons_succ, List.setIfInBounds_toArray, List.set_cons_zero, List.set_cons_succ]
            refine wpAnyH_take (i := 11) (v := .int .i64 y) rfl (by kernel_rfl) (by kernel_rfl) (by kernel_rfl) (fun _ _ _ h => h) (Or.inl ⟨by rfl, fun w hw => by have hc : w.cell? ⟨g, off, none⟩ = some (.int .i64 y) := (hw.cell (p := ⟨g, off, none⟩) HGK.out).trans HC0'.out; go_simp⟩) hHeld ?_
            try dsimp only
            try simp only [Act.put, List.getElem_toArray, List.getElem_cons_zero, List.getElem_cons_succ, List.setIfInBounds_toArray, List.set_cons_zero, List.set_cons_succ]
            refine wpAnyH_take (i := 12) (v := .bool true) rfl (by kernel_rfl) (by kernel_rfl) (by kernel_rfl) (fun _ _ _ h => h) (Or.inl ⟨by rfl, fun w _ => by first | (go_simp; done) | (go_simp; exact hxy3.out)⟩) hHeld ?_
            try dsimp only
            try simp only [Act.put, List.getElem_toArray, List.getElem_cons_zero, List.getElem_cons_succ, List.setIfInBounds_toArray, List.set_cons_zero, List.set_cons_succ]
            refine wpAnyH_ready (rs := [13]) (by kernel_rfl) (by simp) (AllReadyH.cons rfl (fun K hK => ?_) AllReadyH.nil)
            go_simp
            refine hK.out _ _ hHeld (fun hHeld => ?_)
            clear hK K
            try dsimp only
            try simp only [Act.put, List.getElem_toArray, List.getElem_cons_zero, List.getElem_cons_succ, List.setIfInBounds_toArray, List.set_cons_zero, List.set_cons_succ]
            refine wpAnyH_done (by kernel_rfl) ?_ _
            have HB9 := Lib.hid (below_to HBK2.out hHeld)
            clear hHeld hh0
            go_wp2
            go_roundw
            case rel => exact ⟨r + 1, by omega, by omega, by go_num, fun j hj => (by
              rcases Nat.lt_or_ge j r with h | h
              · exact HALL.out j h
              · obtain rfl : j = r := by omega
                exact HY.out), HB9.out⟩
            case measure => simp [intOf]; omega
          · have HST := Lib.hid (lru_step l' x r hr1 HALL.out (.inr ⟨y, HY.out, hxy⟩))
            have hxy2 : (y == x) = false := by rw [beq_eq_false_iff_ne]; exact hxy
            have hxy3 := Lib.hid hxy
            clear hxy
            go_upto_region 3 with fail
            have hh0 : Below wk.heap.size wk wk.drew := (Below.refl _ _).drew
            refine wp_region_held_drew (S := fun w => Below wk.heap.size wk w) (by kernel_rfl) hh0 (fun hHeld => ?_)
            refine wpAnyH_take (i := 0) (v := .int .i64 (r : Int)) rfl (by kernel_rfl) (by kernel_rfl) (by kernel_rfl) (fun _ _ _ h => h) (Or.inl ⟨by rfl, fun _ _ => rfl⟩) hHeld ?_
            try dsimp only
            try simp only [Act.put, List.getElem_toArray, List.getElem_cons_zero, List.getElem_cons_succ, List.setIfInBounds_toArray, List.set_cons_zero, List.set_cons_succ]
            refine wpAnyH_take (i := 1) (v := .slice (some ⟨g, off, none⟩) m' c') rfl (by kernel_rfl) (by kernel_rfl) (by kernel_rfl) (fun _ _ _ h => h) (Or.inl ⟨by rfl, fun _ _ => rfl⟩) hHeld ?_
            try dsimp only
            try simp only [Act.put, List.getElem_toArray, List.getElem_cons_zero, List.getElem_cons_succ, List.setIfInBounds_toArray, List.set_cons_zero, List.set_cons_succ]
            refine wpAnyH_take (i := 2) (v := .int .i64 (m' : Int)) rfl (by kernel_rfl) (by kernel_rfl) (by kernel_rfl) (fun _ _ _ h => h) (Or.inl ⟨by rfl, fun w _ => by go_simp⟩) hHeld ?_
            try dsimp only
            try simp only [Act.put, List.getElem_toArray, List.getElem_cons_zero, List.getElem_cons_succ, List.setIfInBounds_toArray, List.set_cons_zero, List.set_cons_succ]
            refine wpAnyH_take (i := 3) (v := .bool true) rfl (by kernel_rfl) (by kernel_rfl) (by kernel_rfl) (fun _ _ _ h => h) (Or.inl ⟨by rfl, fun w _ => by first | (go_simp; done) | (go_simp; omega)⟩) hHeld ?_
            try dsimp only
            try simp only [Act.put, List.getElem_toArray, List.getElem_cons_zero, List.getElem_cons_succ, List.setIfInBounds_toArray, List.set_cons_zero, List.set_cons_succ]
            refine wpAnyH_take (i := 4) (v := .bool true) rfl (by kernel_rfl) (by kernel_rfl) (by kernel_rfl) (fun _ _ _ h => h) (Or.inl ⟨by rfl, fun _ _ => rfl⟩) hHeld ?_
            try dsimp only
            try simp only [Act.put, List.getElem_toArray, List.getElem_cons_zero, List.getElem_cons_succ, List.setIfInBounds_toArray, List.set_cons_zero, List.set_cons_succ]
            refine wpAnyH_take (i := 5) (v := .slice (some ⟨g, off, none⟩) m' c') rfl (by kernel_rfl) (by kernel_rfl) (by kernel_rfl) (fun _ _ _ h => h) (Or.inl ⟨by rfl, fun _ _ => rfl⟩) hHeld ?_
            try dsimp only
            try simp only [Act.put, List.getElem_toArray, List.getElem_cons_zero, List.getElem_cons_succ, List.setIfInBounds_toArray, List.set_cons_zero, List.set_cons_succ]
            refine wpAnyH_take (i := 6) (v := .int .i64 (r : Int)) rfl (by kernel_rfl) (by kernel_rfl) (by kernel_rfl) (fun _ _ _ h => h) (Or.inl ⟨by rfl, fun _ _ => rfl⟩) hHeld ?_
            try dsimp only
            try simp only [Act.put, List.getElem_toArray, List.getElem_cons_zero, List.getElem_cons_succ, List.setIfInBounds_toArray, List.set_cons_zero, List.set_cons_succ]
            refine wpAnyH_take (i := 7) (v := .pointer (some ⟨g, off + r, none⟩)) rfl (by kernel_rfl) (by kernel_rfl) (by kernel_rfl) (fun _ _ _ h => h) (Or.inl ⟨by rfl, fun w _ => by go_simp; try (intro h; exfalso; omega)⟩) hHeld ?_
            try dsimp only
            try simp only [Act.put, List.getElem_toArray, List.getElem_cons_zero, List.getElem_cons_succ, List.setIfInBounds_toArray, List.set_cons_zero, List.set_cons_succ]
            refine wpAnyH_take (i := 8) (v := .int .i64 y) rfl (by kernel_rfl) (by kernel_rfl) (by kernel_rfl) (fun _ _ _ h => h) (Or.inl ⟨by rfl, fun w hw => by have hc : w.cell? ⟨g, off + r, none⟩ = some (.int .i64 y) := (hw.cell (p := ⟨g, off + r, none⟩) HGK.out).trans HCY.out; go_simp⟩) hHeld ?_
            try dsimp only
            try simp only [Act.put, List.getElem_toArray, List.getElem_cons_zero, List.getElem_cons_succ, List.setIfInBounds_toArray, List.set_cons_zero, List.set_cons_succ]
            refine wpAnyH_take (i := 9) (v := .slice (some ⟨g, off, none⟩) m' c') rfl (by kernel_rfl) (by kernel_rfl) (by kernel_rfl) (fun _ _ _ h => h) (Or.inl ⟨by rfl, fun _ _ => rfl⟩) hHeld ?_
            try dsimp only
            try simp only [Act.put, List.getElem_toArray, List.getElem_cons_zero, List.getElem_cons_succ, List.setIfInBounds_toArray, List.set_cons_zero, List.set_cons_succ]
            refine wpAnyH_take (i := 10) (v := .pointer (some ⟨g, off, none⟩)) rfl (by kernel_rfl) (by kernel_rfl) (by kernel_rfl) (fun _ _ _ h => h) (Or.inl ⟨by rfl, fun w _ => by go_simp; try (intro h; exfalso; omega)⟩) hHeld ?_
            try dsimp only
            try simp only [Act.put, List.getElem_toArray, List.getElem_cons_zero, List.getElem_cons_succ, List.setIfInBounds_toArray, List.set_cons_zero, List.set_cons_succ]
            refine wpAnyH_take (i := 11) (v := .int .i64 x) rfl (by kernel_rfl) (by kernel_rfl) (by kernel_rfl) (fun _ _ _ h => h) (Or.inl ⟨by rfl, fun w hw => by have hc : w.cell? ⟨g, off, none⟩ = some (.int .i64 x) := (hw.cell (p := ⟨g, off, none⟩) HGK.out).trans HC0'.out; go_simp⟩) hHeld ?_
            try dsimp only
            try simp only [Act.put, List.getElem_toArray, List.getElem_cons_zero, List.getElem_cons_succ, List.setIfInBounds_toArray, List.set_cons_zero, List.set_cons_succ]
            refine wpAnyH_take (i := 12) (v := .bool false) rfl (by kernel_rfl) (by kernel_rfl) (by kernel_rfl) (fun _ _ _ h => h) (Or.inl ⟨by rfl, fun w _ => by first | (go_simp; done) | (go_simp; exact hxy3.out)⟩) hHeld ?_
            try dsimp only
            try simp only [Act.put, List.getElem_toArray, List.getElem_cons_zero, List.getElem_cons_succ, List.setIfInBounds_toArray, List.set_cons_zero, List.set_cons_succ]
            refine wpAnyH_ready (rs := [13]) (by kernel_rfl) (by simp) (AllReadyH.cons rfl (fun K hK => ?_) AllReadyH.nil)
            go_simp
            refine hK.out _ _ hHeld (fun hHeld => ?_)
            clear hK K
            try dsimp only
            try simp only [Act.put, List.getElem_toArray, List.getElem_cons_zero, List.getElem_cons_succ, List.setIfInBounds_toArray, List.set_cons_zero, List.set_cons_succ]
            refine wpAnyH_done (by kernel_rfl) ?_ _
            have HB9 := Lib.hid (below_to HBK2.out hHeld)
            clear hHeld hh0
            clear HBK2 HC0' HGK HALL
            generalize wk.drew = w9 at *
            have HBW : Hid (Below B w w9) := Lib.hid (HBL.out.trans (HB9.out.mono hbs))
            have hc9 := (HB9.out.cell (p := ⟨g, off, none⟩) HG.out).trans HC0.out
            have HO9 := Lib.hid (HO.out.keep HB9.out)
            have hbs9 := Nat.le_trans hbs HB9.out.size
            obtain ⟨A2, C2, hcut, hcl, hcc, hcat⟩ := icut_from (some ⟨g, off, none⟩) m' c' r hrm hmc'
            have HCAT := Lib.hid (hcat _ l' HM.out HATW.out)
            clear hcat
            obtain ⟨q, hq⟩ : ∃ q : Nat, q + 1 = r := ⟨r - 1, by omega⟩
            have hqi : (r : Int) - 1 = (q : Int) := by omega
            have hq64 : q < 18446744073709551616 := by omega
            have HQ := Lib.hid (show r - 1 = q by omega)
            have HQ10 := Lib.hid (ub10 hq64)
            have hn9 : n' ≤ 21000000 := by omega
            have hn9a : n' ≤ 1099511627776 := by omega
            have hn9b : n' + 10 ≤ 1099511627776 := by omega
            have HPI := Lib.hid (putI_any B A' n' cap' _ x HW _ HO9 hn9a hbs9)
            clear HAT HB9
            go_wp2_with (first
              | (go_at_call 79; (with_reducible refine (HPI.out).mono ?_); rintro e w1 ⟨A1, n1, c1, rfl, h1, h2, h3⟩; have HO1 := Lib.hid h1; have HB1 := Lib.hid h2; have hn1 : n1 ≤ n' + 10 := (by have e1 := h1.len; have e2 := HO.out.len; have e3 := HZ.out; rw [List.length_append] at e1; omega); have hbs1 := Nat.le_trans hbs9 h3; have HPU := Lib.hid (putU_any B A1 n1 c1 _ q hq64 _ HO1 (by omega) hbs1); clear h1 h2 h3)
              | (go_at_call 47; (with_reducible refine (HPU.out).mono ?_); rintro e w2 ⟨A3, n3, c3, rfl, h1, h2, h3⟩; have HO3 := Lib.hid h1; have HB3 := Lib.hid h2; clear h1 h2 h3))
            go_roundw
            case rel =>
              have hBA := (HBW.out.trans HB1.out).trans HB3.out
              refine ⟨A3, n3, c3, A2, m' - r, C2, _, l'.drop r, rfl, rfl, by rw [List.length_drop, ← HM.out], hcl, Nat.le_trans hcc hc2, by omega, ?_, ?_, HO3.out, ?_, hBA⟩
              · have e1 := HO1.out.len; have e2 := HO.out.len; have e3 := HZ.out; have e4 := HO3.out.len; have e5 := HQ10.out; rw [List.length_append] at e1 e4; rw [List.length_append] at e4; omega
              · rw [← HP.out, HST.out, HQ.out]; simp only [List.append_assoc]
              · exact HCAT.out
            case measure => simp [lenOfS]; omega
        · have hrm3 : r = m' := by omega
          have HST := Lib.hid (lru_step l' x r hr1 HALL.out (.inl (by have := HM.out; omega)))
          have hrn : ¬ ((r : Int) < (m' : Int)) := by omega
          clear hrm3
          go_upto_region 3 with fail
          have hh0 : Below wk.heap.size wk wk.drew := (Below.refl _ _).drew
          refine wp_region_held_drew (S := fun w => Below wk.heap.size wk w) (by kernel_rfl) hh0 (fun hHeld => ?_)
          refine wpAnyH_take (i := 0) (v := .int .i64 (r : Int)) rfl (by kernel_rfl) (by kernel_rfl) (by kernel_rfl) (fun _ _ _ h => h) (Or.inl ⟨by rfl, fun _ _ => rfl⟩) hHeld ?_
          try dsimp only
          try simp only [Act.put, List.getElem_toArray, List.getElem_cons_zero, List.getElem_cons_succ, List.setIfInBounds_toArray, List.set_cons_zero, List.set_cons_succ]
          refine wpAnyH_take (i := 1) (v := .slice (some ⟨g, off, none⟩) m' c') rfl (by kernel_rfl) (by kernel_rfl) (by kernel_rfl) (fun _ _ _ h => h) (Or.inl ⟨by rfl, fun _ _ => rfl⟩) hHeld ?_
          try dsimp only
          try simp only [Act.put, List.getElem_toArray, List.getElem_cons_zero, List.getElem_cons_succ, List.setIfInBounds_toArray, List.set_cons_zero, List.set_cons_succ]
          refine wpAnyH_take (i := 2) (v := .int .i64 (m' : Int)) rfl (by kernel_rfl) (by kernel_rfl) (by kernel_rfl) (fun _ _ _ h => h) (Or.inl ⟨by rfl, fun w _ => by go_simp⟩) hHeld ?_
          try dsimp only
          try simp only [Act.put, List.getElem_toArray, List.getElem_cons_zero, List.getElem_cons_succ, List.setIfInBounds_toArray, List.set_cons_zero, List.set_cons_succ]
          refine wpAnyH_take (i := 3) (v := .bool false) rfl (by kernel_rfl) (by kernel_rfl) (by kernel_rfl) (fun _ _ _ h => h) (Or.inl ⟨by rfl, fun w _ => by first | (go_simp; done) | (go_simp; omega)⟩) hHeld ?_
          try dsimp only
          try simp only [Act.put, List.getElem_toArray, List.getElem_cons_zero, List.getElem_cons_succ, List.setIfInBounds_toArray, List.set_cons_zero, List.set_cons_succ]
          refine wpAnyH_take (i := 4) (v := .bool false) rfl (by kernel_rfl) (by kernel_rfl) (by kernel_rfl) (fun _ _ _ h => h) (Or.inl ⟨by rfl, fun _ _ => rfl⟩) hHeld ?_
          try dsimp only
          try simp only [Act.put, List.getElem_toArray, List.getElem_cons_zero, List.getElem_cons_succ, List.setIfInBounds_toArray, List.set_cons_zero, List.set_cons_succ]
          refine wpAnyH_take (i := 5) (v := undef) rfl (by kernel_rfl) (by kernel_rfl) (by kernel_rfl) (fun _ _ _ h => h) (Or.inr ⟨by rfl, rfl⟩) hHeld ?_
          try dsimp only
          try simp only [Act.put, List.getElem_toArray, List.getElem_cons_zero, List.getElem_cons_succ, List.setIfInBounds_toArray, List.set_cons_zero, List.set_cons_succ]
          refine wpAnyH_take (i := 6) (v := undef) rfl (by kernel_rfl) (by kernel_rfl) (by kernel_rfl) (fun _ _ _ h => h) (Or.inr ⟨by rfl, rfl⟩) hHeld ?_
          try dsimp only
          try simp only [Act.put, List.getElem_toArray, List.getElem_cons_zero, List.getElem_cons_succ, List.setIfInBounds_toArray, List.set_cons_zero, List.set_cons_succ]
          refine wpAnyH_take (i := 7) (v := undef) rfl (by kernel_rfl) (by kernel_rfl) (by kernel_rfl) (fun _ _ _ h => h) (Or.inr ⟨by rfl, rfl⟩) hHeld ?_
          try dsimp only
          try simp only [Act.put, List.getElem_toArray, List.getElem_cons_zero, List.getElem_cons_succ, List.setIfInBounds_toArray, List.set_cons_zero, List.set_cons_succ]
          refine wpAnyH_take (i := 8) (v := undef) rfl (by kernel_rfl) (by kernel_rfl) (by kernel_rfl) (fun _ _ _ h => h) (Or.inr ⟨by rfl, rfl⟩) hHeld ?_
          try dsimp only
          try simp only [Act.put, List.getElem_toArray, List.getElem_cons_zero, List.getElem_cons_succ, List.setIfInBounds_toArray, List.set_cons_zero, List.set_cons_succ]
          refine wpAnyH_take (i := 9) (v := undef) rfl (by kernel_rfl) (by kernel_rfl) (by kernel_rfl) (fun _ _ _ h => h) (Or.inr ⟨by rfl, rfl⟩) hHeld ?_
          try dsimp only
          try simp only [Act.put, List.getElem_toArray, List.getElem_cons_zero, List.getElem_cons_succ, List.setIfInBounds_toArray, List.set_cons_zero, List.set_cons_succ]
          refine wpAnyH_take (i := 10) (v := undef) rfl (by kernel_rfl) (by kernel_rfl) (by kernel_rfl) (fun _ _ _ h => h) (Or.inr ⟨by rfl, rfl⟩) hHeld ?_
          try dsimp only
          try simp only [Act.put, List.getElem_toArray, List.getElem_cons_zero, List.getElem_cons_succ, List.setIfInBounds_toArray, List.set_cons_zero, List.set_cons_succ]
          refine wpAnyH_take (i := 11) (v := undef) rfl (by kernel_rfl) (by kernel_rfl) (by kernel_rfl) (fun _ _ _ h => h) (Or.inr ⟨by rfl, rfl⟩) hHeld ?_
          try dsimp only
          try simp only [Act.put, List.getElem_toArray, List.getElem_cons_zero, List.getElem_cons_succ, List.setIfInBounds_toArray, List.set_cons_zero, List.set_cons_succ]
          refine wpAnyH_take (i := 12) (v := undef) rfl (by kernel_rfl) (by kernel_rfl) (by kernel_rfl) (fun _ _ _ h => h) (Or.inr ⟨by rfl, rfl⟩) hHeld ?_
          try dsimp only
          try simp only [Act.put, List.getElem_toArray, List.getElem_cons_zero, List.getElem_cons_succ, List.setIfInBounds_toArray, List.set_cons_zero, List.set_cons_succ]
          refine wpAnyH_ready (rs := [13]) (by kernel_rfl) (by simp) (AllReadyH.cons rfl (fun K hK => ?_) AllReadyH.nil)
          go_simp
          refine hK.out _ _ hHeld (fun hHeld => ?_)
          clear hK K
          try dsimp only
          try simp only [Act.put, List.getElem_toArray, List.getElem_cons_zero, List.getElem_cons_succ, List.setIfInBounds_toArray, List.set_cons_zero, List.set_cons_succ]
          refine wpAnyH_done (by kernel_rfl) ?_ _
          have HB9 := Lib.hid (below_to HBK2.out hHeld)
          clear hHeld hh0
          clear HBK2 HC0' HGK HALL
          generalize wk.drew = w9 at *
          have HBW : Hid (Below B w w9) := Lib.hid (HBL.out.trans (HB9.out.mono hbs))
          have hc9 := (HB9.out.cell (p := ⟨g, off, none⟩) HG.out).trans HC0.out
          have HO9 := Lib.hid (HO.out.keep HB9.out)
          have hbs9 := Nat.le_trans hbs HB9.out.size
          obtain ⟨A2, C2, hcut, hcl, hcc, hcat⟩ := icut_from (some ⟨g, off, none⟩) m' c' r hrm hmc'
          have HCAT := Lib.hid (hcat _ l' HM.out HATW.out)
          clear hcat
          obtain ⟨q, hq⟩ : ∃ q : Nat, q + 1 = r := ⟨r - 1, by omega⟩
          have hqi : (r : Int) - 1 = (q : Int) := by omega
          have hq64 : q < 18446744073709551616 := by omega
          have HQ := Lib.hid (show r - 1 = q by omega)
          have HQ10 := Lib.hid (ub10 hq64)
          have hn9 : n' ≤ 21000000 := by omega
          have hn9a : n' ≤ 1099511627776 := by omega
          have hn9b : n' + 10 ≤ 1099511627776 := by omega
          have HPI := Lib.hid (putI_any B A' n' cap' _ x HW _ HO9 hn9a hbs9)
          clear HAT HB9
          go_wp2_with (first
            | (go_at_call 79; (with_reducible refine (HPI.out).mono ?_); rintro e w1 ⟨A1, n1, c1, rfl, h1, h2, h3⟩; have HO1 := Lib.hid h1; have HB1 := Lib.hid h2; have hn1 : n1 ≤ n' + 10 := (by have e1 := h1.len; have e2 := HO.out.len; have e3 := HZ.out; rw [List.length_append] at e1; omega); have hbs1 := Nat.le_trans hbs9 h3; have HPU := Lib.hid (putU_any B A1 n1 c1 _ q hq64 _ HO1 (by omega) hbs1); clear h1 h2 h3)
            | (go_at_call 47; (with_reducible refine (HPU.out).mono ?_); rintro e w2 ⟨A3, n3, c3, rfl, h1, h2, h3⟩; have HO3 := Lib.hid h1; have HB3 := Lib.hid h2; clear h1 h2 h3))
          go_roundw
          case rel =>
            have hBA := (HBW.out.trans HB1.out).trans HB3.out
            refine ⟨A3, n3, c3, A2, m' - r, C2, _, l'.drop r, rfl, rfl, by rw [List.length_drop, ← HM.out], hcl, Nat.le_trans hcc hc2, by omega, ?_, ?_, HO3.out, ?_, hBA⟩
            · have e1 := HO1.out.len; have e2 := HO.out.len; have e3 := HZ.out; have e4 := HO3.out.len; have e5 := HQ10.out; rw [List.length_append] at e1 e4; rw [List.length_append] at e4; omega
            · rw [← HP.out, HST.out, HQ.out]; simp only [List.append_assoc]
            · exact HCAT.out
          case measure => simp [lenOfS]; omega
    · have hz2 : m' = 0 := by omega
      subst hz2
      have hl : l' = [] := List.eq_nil_of_length_eq_zero HM.out.symm
      subst hl
      go_wp2
      go_ret
      exact ⟨A', n', cap', rfl, by have := HP.out; rw [lru_nil, List.append_nil] at this; rw [← this]; exact HO.out, HBL.out, HBL.out.size⟩
end Go.Proofs.Ytpobfgokikfmbaa

set_option linter.unusedSimpArgs false
set_option linter.unusedVariables false
set_option maxRecDepth 8000
namespace Go.Proofs.Ytpobfgokikfmbaa
open Go.RowKit Go.WideShapes Col
namespace Col
/-- A number's k bytes, the lowest first. -/
def leb : Nat → Nat → List Nat
  | 0, _ => []
  | k + 1, n => n % 256 :: leb k (n / 256)
theorem leb_length : ∀ (k n : Nat), (leb k n).length = k
  | 0, _ => rfl
  | k + 1, n => by rw [leb, List.length_cons, leb_length k]
theorem leb_lt : ∀ (k n : Nat), ∀ x ∈ leb k n, x < 256
  | 0, _, x, h => by cases h
  | k + 1, n, x, h => by
    rcases List.mem_cons.1 h with rfl | h
    · exact Nat.mod_lt _ (by decide)
    · exact leb_lt k _ x h
theorem leb_get : ∀ (k n i : Nat), i < k → (leb k n)[i]? = some (n / 2 ^ (8 * i) % 256)
  | k + 1, n, 0, _ => by rw [leb]; simp
  | k + 1, n, i + 1, h => by
    rw [leb, List.getElem?_cons_succ, leb_get k (n / 256) i (by omega), Nat.div_div_eq_div_mul, show 8 * (i + 1) = 8 + 8 * i by omega, Nat.pow_add]
theorem leb_zero : ∀ k, leb k 0 = List.replicate k 0
  | 0 => rfl
  | k + 1 => by rw [leb, Nat.zero_div, leb_zero k]; rfl
theorem leb_ext {k : Nat} {l : List Nat} {n : Nat} (hl : l.length = k) (h : ∀ i, i < k → l[i]? = some (n / 2 ^ (8 * i) % 256)) : l = leb k n := by
  apply List.ext_getElem?
  intro i
  by_cases hi : i < k
  · rw [h i hi, leb_get k n i hi]
  · rw [List.getElem?_eq_none (by omega), List.getElem?_eq_none (by rw [leb_length]; omega)]
/-- The bits of d that go into the byte in which the place at stands. -/
theorem byte_step (a at' d : Nat) (ha : a < 2 ^ at') (i s : Nat) (hi : at' = 8 * i + s) (hs : s < 8) :
    a / 2 ^ (8 * i) % 256 < 2 ^ s ∧ (a + d % 2 ^ (8 - s) * 2 ^ at') / 2 ^ (8 * i) % 256 = a / 2 ^ (8 * i) % 256 + d * 2 ^ s % 256 ∧ a + d % 2 ^ (8 - s) * 2 ^ at' < 2 ^ (8 * (i + 1)) ∧
    (∀ j, j < i → (a + d % 2 ^ (8 - s) * 2 ^ at') / 2 ^ (8 * j) % 256 = a / 2 ^ (8 * j) % 256) ∧ (∀ j, i < j → (a + d % 2 ^ (8 - s) * 2 ^ at') / 2 ^ (8 * j) % 256 = a / 2 ^ (8 * j) % 256) := by
  have hp : 2 ^ at' = 2 ^ (8 * i) * 2 ^ s := by rw [hi, Nat.pow_add]
  have hP : 0 < 2 ^ (8 * i) := Nat.two_pow_pos _
  have hS : 0 < 2 ^ s := Nat.two_pow_pos _
  have h8 : 2 ^ s * 2 ^ (8 - s) = 256 := by rw [← Nat.pow_add, show s + (8 - s) = 8 by omega]
  have hq : a / 2 ^ (8 * i) < 2 ^ s := by rw [Nat.div_lt_iff_lt_mul hP, Nat.mul_comm, ← hp]; exact ha
  have h256 : 2 ^ s ≤ 256 := by rw [← h8]; exact Nat.le_mul_of_pos_right _ (Nat.two_pow_pos _)
  have hR : d % 2 ^ (8 - s) < 2 ^ (8 - s) := Nat.mod_lt _ (Nat.two_pow_pos _)
  have hd : d * 2 ^ s % 256 = d % 2 ^ (8 - s) * 2 ^ s := by
    rw [← h8, Nat.mul_comm d, Nat.mul_mod_mul_left, Nat.mul_comm]
  generalize d % 2 ^ (8 - s) = R at *
  have hsum : (a + R * 2 ^ at') / 2 ^ (8 * i) = a / 2 ^ (8 * i) + R * 2 ^ s := by
    rw [hp, show R * (2 ^ (8 * i) * 2 ^ s) = 2 ^ (8 * i) * (R * 2 ^ s) by rw [Nat.mul_left_comm]]
    exact Nat.add_mul_div_left _ _ hP
  have hlt : a / 2 ^ (8 * i) + R * 2 ^ s < 256 := by
    have h1 : (R + 1) * 2 ^ s ≤ 2 ^ (8 - s) * 2 ^ s := Nat.mul_le_mul_right _ hR
    rw [Nat.add_mul, Nat.one_mul, Nat.mul_comm (2 ^ (8 - s)), h8] at h1
    omega
  have hbig : a + R * 2 ^ at' < 2 ^ (8 * (i + 1)) := by
    have h1 := (Nat.div_lt_iff_lt_mul hP).1 (show (a + R * 2 ^ at') / 2 ^ (8 * i) < 2 ^ 8 by rw [hsum]; exact hlt)
    rw [show 8 * (i + 1) = 8 + 8 * i by omega, Nat.pow_add]; exact h1
  refine ⟨by rw [Nat.mod_eq_of_lt (by omega)]; exact hq, ?_, hbig, fun j hj => ?_, fun j hj => ?_⟩
  · rw [hsum, hd, Nat.mod_eq_of_lt hlt, Nat.mod_eq_of_lt (by omega : a / 2 ^ (8 * i) < 256)]
  · obtain ⟨k, rfl⟩ : ∃ k, i = j + 1 + k := ⟨i - j - 1, by omega⟩
    have e : R * 2 ^ at' = 2 ^ (8 * j) * (256 * (2 ^ (8 * k) * (R * 2 ^ s))) := by
      rw [hp, show 8 * (j + 1 + k) = 8 * j + (8 + 8 * k) by omega, Nat.pow_add, Nat.pow_add, show (256 : Nat) = 2 ^ 8 from rfl]
      simp only [Nat.mul_comm, Nat.mul_left_comm, Nat.mul_assoc]
    rw [e, Nat.add_mul_div_left _ _ (Nat.two_pow_pos _), Nat.add_mul_mod_self_left]
  · have h1 : 2 ^ (8 * (i + 1)) ≤ 2 ^ (8 * j) := Nat.pow_le_pow_right (by decide) (by omega)
    rw [Nat.div_eq_of_lt (by omega), Nat.div_eq_of_lt (by have : a ≤ a + R * 2 ^ at' := Nat.le_add_right _ _; omega)]
theorem leb_set (K a at' d : Nat) (ha : a < 2 ^ at') (i s : Nat) (hi : at' = 8 * i + s) (hs : s < 8) (hK : i < K) :
    (leb K a).set i (a / 2 ^ (8 * i) % 256 + d * 2 ^ s % 256) = leb K (a + d % 2 ^ (8 - s) * 2 ^ at') := by
  obtain ⟨-, h2, -, h4, h5⟩ := byte_step a at' d ha i s hi hs
  refine leb_ext (by rw [List.length_set, leb_length]) fun j hj => ?_
  rw [List.getElem?_set]
  by_cases e : i = j
  · subst e
    rw [if_pos rfl, if_pos (by rw [leb_length]; omega), h2]
  · rw [if_neg e, leb_get K a j hj]
    rcases Nat.lt_or_gt_of_ne e with h | h
    · rw [h5 j h]
    · rw [h4 j h]
theorem split_d (d s : Nat) (hs : s < 8) : d = d % 2 ^ (8 - s) + 2 ^ (8 - s) * (d / 2 ^ (8 - s)) := (Nat.mod_add_div _ _).symm
theorem or_u8 (s b x : Nat) (hs : s < 8) (hb : b < 2 ^ s) (hx : x < 256) (hm : x % 2 ^ s = 0) : bits BinOp.or IntKind.u8 (b : Int) (x : Int) = ((b + x : Nat) : Int) := by
  have hb2 : b < 256 := Nat.lt_of_lt_of_le hb (by
    have : 2 ^ s ≤ 2 ^ 8 := Nat.pow_le_pow_right (by decide) (by omega)
    exact this)
  have h1 : ∀ n : Nat, n < 256 → (BitVec.ofInt 8 (n : Int)).toNat = n := fun n hn => by
    rw [BitVec.ofInt_natCast, BitVec.toNat_ofNat]; exact Nat.mod_eq_of_lt hn
  show IntKind.u8.wrap ((BitVec.ofInt 8 (b : Int) ||| BitVec.ofInt 8 (x : Int)).toNat : Int) = _
  rw [BitVec.toNat_or, h1 b hb2, h1 x hx]
  obtain ⟨q, rfl⟩ : ∃ q, x = 2 ^ s * q := ⟨x / 2 ^ s, by have := Nat.mod_add_div x (2 ^ s); omega⟩
  have e : b ||| 2 ^ s * q = 2 ^ s * q + b := by rw [Nat.or_comm, Nat.two_pow_add_eq_or_of_lt hb]
  rw [e, IntKind.wrap_u8]
  have hbx : 2 ^ s * q + b < 256 := by
    have hqp : q * 2 ^ s < 256 := by rw [Nat.mul_comm]; exact hx
    have hdv : 2 ^ s * 2 ^ (8 - s) = 256 := by rw [← Nat.pow_add, show s + (8 - s) = 8 by omega]
    have hq1 : q < 2 ^ (8 - s) := Nat.lt_of_mul_lt_mul_left (a := 2 ^ s) (by rw [hdv]; exact hx)
    have : 2 ^ s * (q + 1) ≤ 2 ^ s * 2 ^ (8 - s) := Nat.mul_le_mul_left _ hq1
    rw [hdv, Nat.mul_add] at this; omega
  omega
theorem shl_u8 (d s : Nat) (hs : s < 8) : IntKind.u8.wrap (IntKind.u64.wrap ((d : Int) * 2 ^ s)) = ((d * 2 ^ s % 256 : Nat) : Int) := by
  rw [wrap_shl, IntKind.wrap_u8]; omega
theorem mod_dvd (d s : Nat) (hs : s < 8) : d * 2 ^ s % 256 % 2 ^ s = 0 := by
  have h8 : 2 ^ s * 2 ^ (8 - s) = 256 := by rw [← Nat.pow_add, show s + (8 - s) = 8 by omega]
  rw [← h8, Nat.mul_comm d, Nat.mul_mod_mul_left, Nat.mul_mod_right]
end Col

/-- A row of bytes that is all of a slice. -/
def RowB (w : World) (g : Nat) (l : List Nat) : Prop := w.heap[g]? = some (.cells (bys l).toArray 5 (0, 0))
section
variable {w : World} {g : Nat} {l : List Nat}
theorem RowB.cell (h : RowB w g l) (i x : Nat) (hx : l[i]? = some x) : w.cell? ⟨g, i, none⟩ = some (.int .u8 (x : Int)) := by
  rw [cell_of_row _ _ _ _ _ _ h, List.getElem?_toArray]; unfold bys; rw [List.getElem?_map, hx]; rfl
theorem RowB.fr (h : RowB w g l) (i : Nat) : w.frozen? ⟨g, i, none⟩ = false := row_frozen h i
theorem RowB.drew (h : RowB w g l) : RowB w.drew g l := h
theorem RowB.set (h : RowB w g l) (i x : Nat) (hi : i < l.length) : RowB (w.setCell ⟨g, i, none⟩ (.int .u8 (x : Int))) g (l.set i x) := by
  unfold RowB at *
  rw [World.setCell]
  simp only [Array.getElem?_modify, if_pos, h, Option.map_some]
  have e : (bys l).toArray.setIfInBounds i (.int .u8 (x : Int)) = (bys (l.set i x)).toArray := by
    unfold bys; rw [List.map_set]; simp; rfl
  simp [e]
theorem RowB.keep {w' : World} {S : Nat → Prop} (h : RowB w g l) (hk : Kept S w w') (hg : ¬ S g) : RowB w' g l := hk.heap h hg
end
def PB (g K T : Nat) (w0 : World) (p q : Value) (wr : World) : Prop := ∃ a d at' : Nat, p = .int .i64 (at' : Int) ∧ q = .int .u64 (d : Int) ∧ d < 18446744073709551616 ∧ a < 2 ^ at' ∧ a + d * 2 ^ at' = T ∧ at' < 1099511627776 + 8 ∧ RowB wr g (leb K a) ∧ Kept (Only g) w0 wr
set_option maxHeartbeats 4000000 in
theorem putBits_any (g K a at0 d0 : Nat) (ha : a < 2 ^ at0) (hd : d0 < 18446744073709551616) (hK8 : 8 * K < 1099511627776) (hat : at0 < 1099511627776) (hT : Hid (a + d0 * 2 ^ at0 < 2 ^ (8 * K))) (w : World) (H : Hid (RowB w g (leb K a))) :
    Calls Try.prog 84 #[.slice (some ⟨g, 0, none⟩) K K, .int .i64 (at0 : Int), .int .u64 (d0 : Int)] w fun e w' => e = .returned (.tuple #[]) ∧ RowB w' g (leb K (a + d0 * 2 ^ at0)) ∧ Kept (Only g) w w' := by
  have HPB : Hid (PB g K (a + d0 * 2 ^ at0) w (.int .i64 (at0 : Int)) (.int .u64 (d0 : Int)) w) := Lib.hid ⟨a, d0, at0, rfl, rfl, hd, ha, rfl, by omega, H.out, Kept.refl _ _⟩
  obtain ⟨T, hTT⟩ : ∃ T, T = a + d0 * 2 ^ at0 := ⟨_, rfl⟩
  rw [← hTT] at hT HPB ⊢
  clear H ha hTT hd
  go_enter Try.func84, Try.ntmps84
  go_wp2
  go_loopw [1, 2] (fun p q wr => PB g K T w p q wr) (fun _ q _ => (intOf q).toNat)
  case atStart => exact HPB.out
  case round =>
    obtain ⟨a, d, at', rfl, rfl, hd, ha, hT2, hlt, hrow, hkp⟩ := hrel
    have HA := Lib.hid ha; have HT2 := Lib.hid hT2; have HR := Lib.hid hrow; have HK := Lib.hid hkp
    clear ha hT2 hrow hkp HPB
    by_cases hd0 : d = 0
    · subst hd0
      go_wp2
      refine bodyPost_end (results_none rfl _ _ _) rfl ⟨rfl, ?_, HK.out⟩
      have := HT2.out; rw [Nat.zero_mul, Nat.add_zero] at this; rw [← this]; exact HR.out
    · have hz : ((d : Int) != 0) = true := by rw [bne_iff_ne]; omega
      obtain ⟨i, hi⟩ : ∃ i, i = at' / 8 := ⟨_, rfl⟩
      obtain ⟨s, hs⟩ : ∃ s, s = at' % 8 := ⟨_, rfl⟩
      have hs8 : s < 8 := by omega
      have his : at' = 8 * i + s := by omega
      have hqi : (at' : Int) / 8 = (i : Int) := by omega
      have hqs : (at' : Int) % 8 = (s : Int) := by omega
      have hqi2 : (at' : Int).tdiv 8 = (i : Int) := by rw [Int.tdiv_eq_ediv_of_nonneg (by omega)]; exact hqi
      have hqs2 : (at' : Int).tmod 8 = (s : Int) := by rw [Int.tmod_eq_emod_of_nonneg (by omega)]; exact hqs
      have hiK : i < K := by
        have h1 : 2 ^ at' ≤ T := by
          rw [← HT2.out]
          have : 1 * 2 ^ at' ≤ d * 2 ^ at' := Nat.mul_le_mul_right _ (by omega)
          omega
        have h2 : 2 ^ at' < 2 ^ (8 * K) := Nat.lt_of_le_of_lt h1 hT.out
        have h3 : at' < 8 * K := (Nat.pow_lt_pow_iff_right (by decide)).1 h2
        omega
      have hiKi : (i : Int) < (K : Int) := by omega
      obtain ⟨h1, h2, h3, -, -⟩ := byte_step a at' d HA.out i s his hs8
      obtain ⟨b, hb⟩ : ∃ b, b = a / 2 ^ (8 * i) % 256 := ⟨_, rfl⟩
      obtain ⟨x, hx⟩ : ∃ x, x = d * 2 ^ s % 256 := ⟨_, rfl⟩
      have HC : Hid (wr.cell? ⟨g, i, none⟩ = some (.int .u8 (b : Int))) := Lib.hid (HR.out.cell i b (by rw [hb]; exact leb_get K a i hiK))
      have HF : Hid (wr.frozen? ⟨g, i, none⟩ = false) := Lib.hid (HR.out.fr i)
      have HX : Hid (IntKind.u8.wrap (IntKind.u64.wrap ((d : Int) * 2 ^ s)) = (x : Int)) := Lib.hid (by rw [hx]; exact shl_u8 d s hs8)
      have HOR : Hid (bits BinOp.or IntKind.u8 (b : Int) (x : Int) = (b : Int) + (x : Int)) := Lib.hid (by rw [← Int.natCast_add]; exact or_u8 s b x hs8 (by rw [hb]; exact h1) (by rw [hx]; exact Nat.mod_lt _ (by decide)) (by rw [hx]; exact mod_dvd d s hs8))
      have HRS : Hid (RowB ((wr.setCell ⟨g, i, none⟩ (.int .u8 ((b : Int) + (x : Int)))).drew) g (leb K (a + d % 2 ^ (8 - s) * 2 ^ at'))) := Lib.hid (by
        rw [← leb_set K a at' d HA.out i s his hs8 hiK, ← hb, ← hx]; exact HR.out.set i (b + x) (by rw [leb_length]; exact hiK))
      have HKS : Hid (Kept (Only g) w ((wr.setCell ⟨g, i, none⟩ (.int .u8 ((b : Int) + (x : Int)))).drew)) := Lib.hid (HK.out.setCell _ _ (.inl rfl)).drew
      obtain ⟨a2, ha2⟩ : ∃ a2, a2 = a + d % 2 ^ (8 - s) * 2 ^ at' := ⟨_, rfl⟩
      obtain ⟨d2, hd2⟩ : ∃ d2, d2 = d / 2 ^ (8 - s) := ⟨_, rfl⟩
      obtain ⟨t, ht⟩ : ∃ t, t = 8 - s := ⟨_, rfl⟩
      have HT3 : Hid (a2 + d2 * 2 ^ (at' + t) = T) := Lib.hid (by
        rw [← HT2.out, ha2, hd2, ht, Nat.pow_add, Nat.add_assoc]
        congr 1
        have e := split_d d s hs8
        have : d * 2 ^ at' = (d % 2 ^ (8 - s) + 2 ^ (8 - s) * (d / 2 ^ (8 - s))) * 2 ^ at' := by rw [← e]
        rw [this, Nat.add_mul]
        congr 1
        simp only [Nat.mul_comm, Nat.mul_left_comm, Nat.mul_assoc])
      have HA3 : Hid (a2 < 2 ^ (at' + t)) := Lib.hid (by rw [ha2, ht]; rw [show at' + (8 - s) = 8 * (i + 1) by omega]; exact h3)
      have hd3 : d2 < d := by rw [hd2]; exact Nat.div_lt_self (by omega) (Nat.one_lt_two_pow (by omega))
      have HD2 : Hid ((d : Int) / 2 ^ t = (d2 : Int)) := Lib.hid (by rw [hd2, ht, Int.natCast_ediv, Int.natCast_pow]; rfl)
      rw [← ha2] at HRS
      have ht8 : t ≤ 8 := by omega
      have hti : (8 : Int) - (s : Int) = (t : Int) := by omega
      have hs64 : (s : Int) < 64 := by omega
      have HIS := Lib.hid his
      clear his
      clear h1 h2 h3 hb hx ha2 hd2 ht hi hs hd0
      go_upto_region 1 with fail
      refine wp_region_held_drew (S := fun _ => True) (by kernel_rfl) trivial (fun hHeld => ?_)
      refine wpAnyH_take (i := 0) (v := .slice (some ⟨g, 0, none⟩) K K) rfl (by kernel_rfl) (by kernel_rfl) (by kernel_rfl) (fun _ _ _ h => h) (Or.inl ⟨by rfl, fun _ _ => rfl⟩) hHeld ?_
      try dsimp only
      try simp only [Act.put, List.getElem_toArray, List.getElem_cons_zero, List.getElem_cons_succ, List.setIfInBounds_toArray, List.set_cons_zero, List.set_cons_succ]
      refine wpAnyH_take (i := 1) (v := .int .i64 (at' : Int)) rfl (by kernel_rfl) (by kernel_rfl) (by kernel_rfl) (fun _ _ _ h => h) (Or.inl ⟨by rfl, fun _ _ => rfl⟩) hHeld ?_
      try dsimp only
      try simp only [Act.put, List.getElem_toArray, List.getElem_cons_zero, List.getElem_cons_succ, List.setIfInBounds_toArray, List.set_cons_zero, List.set_cons_succ]
      refine wpAnyH_take (i := 2) (v := .int .i64 (i : Int)) rfl (by kernel_rfl) (by kernel_rfl) (by kernel_rfl) (fun _ _ _ h => h) (Or.inl ⟨by rfl, fun w _ => by first | (go_simp; done) | (go_simp; rw [IntKind.wrap_i64]; omega)⟩) hHeld ?_
      try dsimp only
      try simp only [Act.put, List.getElem_toArray, List.getElem_cons_zero, List.getElem_cons_succ, List.setIfInBounds_toArray, List.set_cons_zero, List.set_cons_succ]
      refine wpAnyH_take (i := 3) (v := .pointer (some ⟨g, i, none⟩)) rfl (by kernel_rfl) (by kernel_rfl) (by kernel_rfl) (fun _ _ _ h => h) (Or.inl ⟨by rfl, fun w _ => by go_simp; try (intro h; exfalso; omega)⟩) hHeld ?_
      try dsimp only
      try simp only [Act.put, List.getElem_toArray, List.getElem_cons_zero, List.getElem_cons_succ, List.setIfInBounds_toArray, List.set_cons_zero, List.set_cons_succ]
      refine wpAnyH_take (i := 5) (v := .int .u64 (d : Int)) rfl (by kernel_rfl) (by kernel_rfl) (by kernel_rfl) (fun _ _ _ h => h) (Or.inl ⟨by rfl, fun _ _ => rfl⟩) hHeld ?_
      try dsimp only
      try simp only [Act.put, List.getElem_toArray, List.getElem_cons_zero, List.getElem_cons_succ, List.setIfInBounds_toArray, List.set_cons_zero, List.set_cons_succ]
      refine wpAnyH_take (i := 6) (v := .int .i64 (at' : Int)) rfl (by kernel_rfl) (by kernel_rfl) (by kernel_rfl) (fun _ _ _ h => h) (Or.inl ⟨by rfl, fun _ _ => rfl⟩) hHeld ?_
      try dsimp only
      try simp only [Act.put, List.getElem_toArray, List.getElem_cons_zero, List.getElem_cons_succ, List.setIfInBounds_toArray, List.set_cons_zero, List.set_cons_succ]
      refine wpAnyH_take (i := 7) (v := .int .i64 (s : Int)) rfl (by kernel_rfl) (by kernel_rfl) (by kernel_rfl) (fun _ _ _ h => h) (Or.inl ⟨by rfl, fun w _ => by go_simp⟩) hHeld ?_
      try dsimp only
      try simp only [Act.put, List.getElem_toArray, List.getElem_cons_zero, List.getElem_cons_succ, List.setIfInBounds_toArray, List.set_cons_zero, List.set_cons_succ]
      refine wpAnyH_take (i := 8) (v := .int .u64 (IntKind.u64.wrap ((d : Int) * 2 ^ s))) rfl (by kernel_rfl) (by kernel_rfl) (by kernel_rfl) (fun _ _ _ h => h) (Or.inl ⟨by rfl, fun w _ => by go_simp⟩) hHeld ?_
      try dsimp only
      try simp only [Act.put, List.getElem_toArray, List.getElem_cons_zero, List.getElem_cons_succ, List.setIfInBounds_toArray, List.set_cons_zero, List.set_cons_succ]
      refine wpAnyH_take (i := 9) (v := .int .u8 (x : Int)) rfl (by kernel_rfl) (by kernel_rfl) (by kernel_rfl) (fun _ _ _ h => h) (Or.inl ⟨by rfl, fun w _ => by first | (go_simp; exact HX.out) | (have hh := HX.out; go_simp)⟩) hHeld ?_
      try dsimp only
      try simp only [Act.put, List.getElem_toArray, List.getElem_cons_zero, List.getElem_cons_succ, List.setIfInBounds_toArray, List.set_cons_zero, List.set_cons_succ]
      have c9 : (wr.drew).cell? ⟨g, i, none⟩ = some (.int .u8 (b : Int)) := HC.out
      have f9 : (wr.drew).frozen? ⟨g, i, none⟩ = false := HF.out
      refine wpAnyH_ready (rs := [4]) (by kernel_rfl) (by simp) (AllReadyH.cons rfl (fun K hK => ?_) AllReadyH.nil)
      go_simp
      refine hK.out _ _ hHeld (fun hHeld => ?_)
      clear hK K
      try dsimp only
      try simp only [Act.put, List.getElem_toArray, List.getElem_cons_zero, List.getElem_cons_succ, List.setIfInBounds_toArray, List.set_cons_zero, List.set_cons_succ]
      have hor := HOR.out
      refine wpAnyH_ready (rs := [10]) (by kernel_rfl) (by simp) (AllReadyH.cons rfl (fun K hK => ?_) AllReadyH.nil)
      go_simp
      refine hK.out _ _ hHeld (fun hHeld => ?_)
      clear hK K
      try dsimp only
      try simp only [Act.put, List.getElem_toArray, List.getElem_cons_zero, List.getElem_cons_succ, List.setIfInBounds_toArray, List.set_cons_zero, List.set_cons_succ]
      refine wpAnyH_take (i := 11) (v := .pointer (some ⟨g, i, none⟩)) rfl (by kernel_rfl) (by kernel_rfl) (by kernel_rfl) (fun _ _ _ h => h) (Or.inl ⟨by rfl, fun w _ => by go_simp; try (intro h; exfalso; omega)⟩) hHeld ?_
      try dsimp only
      try simp only [Act.put, List.getElem_toArray, List.getElem_cons_zero, List.getElem_cons_succ, List.setIfInBounds_toArray, List.set_cons_zero, List.set_cons_succ]
      refine wpAnyH_ready (rs := [12]) (by kernel_rfl) (by simp) (AllReadyH.cons rfl (fun K hK => ?_) AllReadyH.nil)
      go_simp
      refine hK.out _ _ hHeld (fun hHeld => ?_)
      clear hK K
      try dsimp only
      try simp only [Act.put, List.getElem_toArray, List.getElem_cons_zero, List.getElem_cons_succ, List.setIfInBounds_toArray, List.set_cons_zero, List.set_cons_succ]
      refine wpAnyH_done (by kernel_rfl) ?_ _
      generalize (World.setCell wr _ _).drew = w9 at *
      have hdd := HD2.out
      go_wp2
      go_roundw
      case rel => exact ⟨a2, d2, at' + t, by go_num, rfl, by omega, HA3.out, HT3.out, by omega, HRS.out, HKS.out⟩
      case measure => simp [intOf]; omega
end Go.Proofs.Ytpobfgokikfmbaa

set_option linter.unusedSimpArgs false
set_option linter.unusedVariables false
set_option maxRecDepth 8000
namespace Go.Proofs.Ytpobfgokikfmbaa
open Go.RowKit Go.WideShapes Col

theorem ret_eqC {v v' : Value} (h : v = v') : Ending.returned v = Ending.returned v' := by rw [h]
theorem len_byteC (y : Nat) (_hy : y < 256) (p : y < Lib.len8tab.size) : ((Lib.len8tab[y]'p).toNat : Int) = (bitLen y : Nat) := by
  have h := len8tab_get y (by exact p)
  exact congrArg Int.ofNat h
theorem len_atC (x y : Int) (k : Nat) (K : Int) (hK : K = (k : Nat)) (hk : k ≤ 56) (h0 : 0 ≤ y) (h1 : y < 256) (e : y.toNat = x.toNat / 2 ^ k) (hy : y ≠ 0) (p : y.toNat < Lib.len8tab.size) :
    wrap64 (K + wrap64 ((Lib.len8tab[y.toNat]'p).toNat : Int)) = (bitLen x.toNat : Nat) := by
  rw [len_byteC _ (by omega) p]
  have h8 := bitLen_le8 y.toNat (by omega)
  have hs := bitLen_shift x.toNat k (by rw [← e]; omega)
  rw [← e] at hs
  unfold wrap64
  omega
theorem len_lowC (x : Int) (h0 : 0 ≤ x) (h1 : x < 256) (p : x.toNat < Lib.len8tab.size) : wrap64 (wrap64 ((Lib.len8tab[x.toNat]'p).toNat : Int)) = (bitLen x.toNat : Nat) := by
  rw [len_byteC _ (by omega) p]
  have h8 := bitLen_le8 x.toNat (by omega)
  unfold wrap64
  omega
set_option maxHeartbeats 1000000 in
set_option maxRecDepth 100000 in
theorem lenC_int (x : Int) (h0 : 0 ≤ x) (h1 : x ≤ 18446744073709551615) (w : World) :
    Calls Try.prog 81 #[.int .u64 x] w fun e w' => e = .returned (.int .i64 (bitLen x.toNat : Nat)) ∧ w = w' := by
  have hsz := Lib.len8tab_size
  go_enter Try.func81, Try.ntmps81
  go_wp2
  all_goals (go_ret; refine ⟨ret_eqC (congrArg (Value.int IntKind.i64) ?_), rfl⟩)
  · exact len_atC x _ 56 56 rfl (by omega) (by omega) (by omega) (by show _ = x.toNat / 72057594037927936; omega) (by omega) _
  · exact len_atC x _ 48 48 rfl (by omega) (by omega) (by omega) (by show _ = x.toNat / 281474976710656; omega) (by omega) _
  · exact len_atC x _ 40 40 rfl (by omega) (by omega) (by omega) (by show _ = x.toNat / 1099511627776; omega) (by omega) _
  · exact len_atC x _ 32 32 rfl (by omega) (by omega) (by omega) (by show _ = x.toNat / 4294967296; omega) (by omega) _
  · exact len_atC x _ 24 24 rfl (by omega) (by omega) (by omega) (by show _ = x.toNat / 16777216; omega) (by omega) _
  · exact len_atC x _ 16 16 rfl (by omega) (by omega) (by omega) (by show _ = x.toNat / 65536; omega) (by omega) _
  · exact len_atC x _ 8 8 rfl (by omega) (by omega) (by omega) (by show _ = x.toNat / 256; omega) (by omega) _
  · have h := len_lowC x (by omega) (by omega) (by rw [hsz]; omega)
    exact h

theorem lenC_any (x : Nat) (hx : x < 18446744073709551616) (w : World) :
    Calls Try.prog 81 #[.int .u64 x] w fun e w' => e = .returned (.int .i64 (bitLen x : Nat)) ∧ w = w' := by
  have h := lenC_int (x : Int) (by omega) (by omega) w
  rwa [Int.toNat_natCast] at h

namespace Col
def mnL (l : List Int) : Int := l.foldl min (l.headD 0)
def mxL (l : List Int) : Int := l.foldl max (l.headD 0)
theorem fmin_le : ∀ (l : List Int) (a : Int), l.foldl min a ≤ a ∧ ∀ x ∈ l, l.foldl min a ≤ x
  | [], a => ⟨Int.le_refl _, fun x h => by cases h⟩
  | y :: l, a => by
    obtain ⟨h1, h2⟩ := fmin_le l (min a y)
    refine ⟨by rw [List.foldl_cons]; omega, fun x hx => ?_⟩
    rw [List.foldl_cons]
    rcases List.mem_cons.1 hx with rfl | hx
    · omega
    · exact h2 x hx
theorem fmax_ge : ∀ (l : List Int) (a : Int), a ≤ l.foldl max a ∧ ∀ x ∈ l, x ≤ l.foldl max a
  | [], a => ⟨Int.le_refl _, fun x h => by cases h⟩
  | y :: l, a => by
    obtain ⟨h1, h2⟩ := fmax_ge l (max a y)
    refine ⟨by rw [List.foldl_cons]; omega, fun x hx => ?_⟩
    rw [List.foldl_cons]
    rcases List.mem_cons.1 hx with rfl | hx
    · omega
    · exact h2 x hx
theorem fmin_wf : ∀ (l : List Int) (a : Int), Wf64 a → (∀ x ∈ l, Wf64 x) → Wf64 (l.foldl min a)
  | [], a, h, _ => h
  | y :: l, a, h, hl => by
    rw [List.foldl_cons]
    refine fmin_wf l _ ?_ fun x hx => hl x (List.mem_cons_of_mem _ hx)
    have := hl y (List.mem_cons_self ..)
    unfold Wf64 at *; omega
theorem fmax_wf : ∀ (l : List Int) (a : Int), Wf64 a → (∀ x ∈ l, Wf64 x) → Wf64 (l.foldl max a)
  | [], a, h, _ => h
  | y :: l, a, h, hl => by
    rw [List.foldl_cons]
    refine fmax_wf l _ ?_ fun x hx => hl x (List.mem_cons_of_mem _ hx)
    have := hl y (List.mem_cons_self ..)
    unfold Wf64 at *; omega
theorem head_wf {l : List Int} (h : ∀ x ∈ l, Wf64 x) : Wf64 (l.headD 0) := by
  cases l with
  | nil => exact ⟨by simp, by simp⟩
  | cons x l => exact h x (List.mem_cons_self ..)
theorem mnL_wf {l : List Int} (h : ∀ x ∈ l, Wf64 x) : Wf64 (mnL l) := fmin_wf l _ (head_wf h) h
theorem mxL_wf {l : List Int} (h : ∀ x ∈ l, Wf64 x) : Wf64 (mxL l) := fmax_wf l _ (head_wf h) h
theorem fold_snoc (f : Int → Int → Int) (a : Int) (l : List Int) (k : Nat) (x : Int) (h : l[k]? = some x) : (l.take (k + 1)).foldl f a = f ((l.take k).foldl f a) x := by
  rw [List.take_add_one, h]; simp
theorem head_get {l : List Int} {x : Int} (h : l[0]? = some x) : l.headD 0 = x := by
  cases l with
  | nil => simp at h
  | cons y l => simpa using h
end Col

def MR (w : World) (l : List Int) (f : Int → Int → Int) (p q : Value) (wr : World) : Prop := ∃ (k : Nat), 1 ≤ k ∧ k ≤ l.length ∧ q = .int .i64 (k : Int) ∧ p = .int .i64 ((l.take k).foldl f (l.headD 0)) ∧ w = wr
set_option maxHeartbeats 1000000 in
theorem minI_any (b : Option Addr) (m c : Nat) (l : List Int) (hm : Hid (m = l.length)) (h0 : 0 < m) (hmc : m ≤ 1000000) (w : World) (HL : Hid (IsAt w b l)) :
    Calls Try.prog 80 #[.slice b m c] w fun e w' => e = .returned (.int .i64 (mnL l)) ∧ w = w' := by
  obtain ⟨x, hx⟩ : ∃ x, l[0]? = some x := ⟨l[0]'(by have := hm.out; omega), List.getElem?_eq_getElem _⟩
  obtain ⟨hwf, g, off, rfl, hc⟩ := int_cell HL.out 0 x hx
  rw [Nat.add_zero] at hc
  have HX := Lib.hid hx
  have HH := Lib.hid (head_get hx)
  clear hx hwf
  go_enter Try.func80, Try.ntmps80
  go_wp2
  go_loopw [3, 4] (fun p q wr => MR w l min p q wr) (fun _ q _ => m - (intOf q).toNat)
  case atStart => exact ⟨1, Nat.le_refl _, by have := hm.out; omega, rfl, by rw [fold_snoc min _ l 0 x HX.out, HH.out]; simp, rfl⟩
  case round =>
    obtain ⟨k, hk1, hkl, rfl, rfl, rfl⟩ := hrel
    have HK : Hid (k ≤ l.length) := Lib.hid hkl
    have hkm : k ≤ m := by have := hm.out; omega
    have HA : Hid (mnL l = (l.take m).foldl min (l.headD 0)) := Lib.hid (by rw [List.take_of_length_le (by have := hm.out; omega)]; rfl)
    by_cases hlt : k < m
    · obtain ⟨y, hy⟩ : ∃ y, l[k]? = some y := ⟨l[k]'(by have := hm.out; omega), List.getElem?_eq_getElem _⟩
      have hcy : w.cell? ⟨g, off + k, none⟩ = some (.int .i64 y) := by
        obtain ⟨-, g', off', e, hcy⟩ := int_cell HL.out k y hy
        injection e with e; injection e with e1 e2; subst e1; subst e2
        exact hcy
      have HS := Lib.hid (fold_snoc min (l.headD 0) l k y hy)
      obtain ⟨z, hz⟩ : ∃ z, z = (l.take k).foldl min (l.headD 0) := ⟨_, rfl⟩
      rw [← hz] at HS ⊢
      clear hz hy hkl
      go_wp2
      go_roundw
      case rel => exact ⟨k + 1, by omega, by have := hm.out; omega, by go_num, by rw [HS.out]; congr 1; split <;> omega, rfl⟩
      case measure => simp [intOf]; omega
    · obtain rfl : k = m := by omega
      clear hkl
      obtain ⟨z, hz⟩ : ∃ z, z = (l.take k).foldl min (l.headD 0) := ⟨_, rfl⟩
      rw [← hz] at HA ⊢
      clear hz
      go_wp2
      go_ret
      exact ⟨by rw [HA.out]; rfl, rfl⟩

set_option maxHeartbeats 1000000 in
theorem maxI_any (b : Option Addr) (m c : Nat) (l : List Int) (hm : Hid (m = l.length)) (h0 : 0 < m) (hmc : m ≤ 1000000) (w : World) (HL : Hid (IsAt w b l)) :
    Calls Try.prog 82 #[.slice b m c] w fun e w' => e = .returned (.int .i64 (mxL l)) ∧ w = w' := by
  obtain ⟨x, hx⟩ : ∃ x, l[0]? = some x := ⟨l[0]'(by have := hm.out; omega), List.getElem?_eq_getElem _⟩
  obtain ⟨hwf, g, off, rfl, hc⟩ := int_cell HL.out 0 x hx
  rw [Nat.add_zero] at hc
  have HX := Lib.hid hx
  have HH := Lib.hid (head_get hx)
  clear hx hwf
  go_enter Try.func82, Try.ntmps82
  go_wp2
  go_loopw [3, 4] (fun p q wr => MR w l max p q wr) (fun _ q _ => m - (intOf q).toNat)
  case atStart => exact ⟨1, Nat.le_refl _, by have := hm.out; omega, rfl, by rw [fold_snoc max _ l 0 x HX.out, HH.out]; simp, rfl⟩
  case round =>
    obtain ⟨k, hk1, hkl, rfl, rfl, rfl⟩ := hrel
    have HK : Hid (k ≤ l.length) := Lib.hid hkl
    have hkm : k ≤ m := by have := hm.out; omega
    have HA : Hid (mxL l = (l.take m).foldl max (l.headD 0)) := Lib.hid (by rw [List.take_of_length_le (by have := hm.out; omega)]; rfl)
    by_cases hlt : k < m
    · obtain ⟨y, hy⟩ : ∃ y, l[k]? = some y := ⟨l[k]'(by have := hm.out; omega), List.getElem?_eq_getElem _⟩
      have hcy : w.cell? ⟨g, off + k, none⟩ = some (.int .i64 y) := by
        obtain ⟨-, g', off', e, hcy⟩ := int_cell HL.out k y hy
        injection e with e; injection e with e1 e2; subst e1; subst e2
        exact hcy
      have HS := Lib.hid (fold_snoc max (l.headD 0) l k y hy)
      obtain ⟨z, hz⟩ : ∃ z, z = (l.take k).foldl max (l.headD 0) := ⟨_, rfl⟩
      rw [← hz] at HS ⊢
      clear hz hy hkl
      go_wp2
      go_roundw
      case rel => exact ⟨k + 1, by omega, by have := hm.out; omega, by go_num, by rw [HS.out]; congr 1; split <;> omega, rfl⟩
      case measure => simp [intOf]; omega
    · obtain rfl : k = m := by omega
      clear hkl
      obtain ⟨z, hz⟩ : ∃ z, z = (l.take k).foldl max (l.headD 0) := ⟨_, rfl⟩
      rw [← hz] at HA ⊢
      clear hz
      go_wp2
      go_ret
      exact ⟨by rw [HA.out]; rfl, rfl⟩

set_option maxHeartbeats 1000000 in
theorem byteCount_any (n : Nat) (hn : n < 1099511627776) (w : World) : Calls Try.prog 83 #[.int .i64 (n : Int)] w fun e w' => e = .returned (.int .i64 (((n + 7) / 8 : Nat) : Int)) ∧ w = w' := by
  obtain ⟨q, hq⟩ : ∃ q : Nat, q = (n + 7) / 8 := ⟨_, rfl⟩
  have hq2 : ((n : Int) + 7).tdiv 8 = (q : Int) := by rw [Int.tdiv_eq_ediv_of_nonneg (by omega)]; omega
  have hq3 : ((n : Int) + 7) / 8 = (q : Int) := by omega
  rw [← hq]
  have HQ := Lib.hid hq
  clear hq
  go_enter Try.func83, Try.ntmps83
  go_wp2
  go_ret
  exact ⟨rfl, rfl⟩
end Go.Proofs.Ytpobfgokikfmbaa
