/-
  Layer column: whole numbers laid plain, as distances, as runs.
-/
import Derived.Test.YtjldamkmdkaiiaaGreatDoorGlK
import Derived.Test.YtjldamkmdkaiiaaGreatDoorCyK
set_option linter.unusedSimpArgs false
set_option linter.unusedVariables false
set_option maxRecDepth 8000
namespace Go.Proofs.YtjldamkmdkaiiaaGreatDoor
open Go.RowKit Go.WideShapes
def Wf64 (x : Int) : Prop := -9223372036854775808 ≤ x ∧ x ≤ 9223372036854775807
def IsAt (w : World) (a : Option Addr) (l : List Int) : Prop := ∀ (k : Nat) (x : Int), l[k]? = some x → Wf64 x ∧ ∃ g off, a = some ⟨g, off, none⟩ ∧ g < w.heap.size ∧ w.cell? ⟨g, off + k, none⟩ = some (.int .i64 x)
theorem IsAt.keep {w w' : World} {a : Option Addr} {l : List Int} (h : IsAt w a l) (hb : Below w.heap.size w w') : IsAt w' a l := fun k x hx => by
 obtain ⟨h1, g, off, h2, h3, h4⟩ := h k x hx
 exact ⟨h1, g, off, h2, Nat.lt_of_lt_of_le h3 hb.size, (hb.cell (p := ⟨g, off + k, none⟩) h3).trans h4⟩
theorem IsAt.wf {w : World} {a : Option Addr} {l : List Int} (h : IsAt w a l) : ∀ x ∈ l, Wf64 x := fun x hx => by
 obtain ⟨k, hk⟩ := List.getElem?_of_mem hx
 exact (h k x hk).1
theorem IsAt.nil (w : World) (a : Option Addr) : IsAt w a [] := fun k x hx => by simp at hx
theorem IsAt.at {w w' : World} {a : Option Addr} {l : List Int} (h : Hid (IsAt w a l)) (hb : Below w.heap.size w w') : Hid (IsAt w' a l) := h.out.keep hb
theorem IsAt.spot {w : World} {a : Option Addr} {l : List Int} (h : IsAt w a l) (h0 : 0 < l.length) : ∃ g off, a = some ⟨g, off, none⟩ ∧ g < w.heap.size ∧ ∀ (k : Nat) (x : Int), l[k]? = some x → w.cell? ⟨g, off + k, none⟩ = some (.int .i64 x) := by
 obtain ⟨-, g, off, rfl, hg, -⟩ := h 0 l[0] (List.getElem?_eq_getElem h0)
 refine ⟨g, off, rfl, hg, fun k x hx => ?_⟩
 obtain ⟨-, g', off', h2, -, hc⟩ := h k x hx
 cases h2
 exact hc
def iv (x : Int) : Value := .int .i64 x
def ivs (l : List Int) : List Value := l.map iv
theorem ivs_length (l : List Int) : (ivs l).length = l.length := List.length_map ..
theorem ivs_append (l m : List Int) : ivs (l ++ m) = ivs l ++ ivs m := List.map_append ..
theorem ivs_one (l : List Int) : ∀ u ∈ ivs l, u.oneCell' = true := fun u hu => by
 obtain ⟨x, -, rfl⟩ := List.mem_map.1 hu; rfl
theorem IsAt.of_row {w : World} {g : Nat} {cs : Array Value} {t : TypeId} {fr : Nat × Nat} (l : List Int) (hl : ∀ x ∈ l, Wf64 x) (hrow : w.heap[g]? = some (.cells cs t fr)) (hcs : (ivs l).IsPrefix cs.toList) : IsAt w (some ⟨g, 0, none⟩) l := fun k x hx => by
 refine ⟨hl x (List.mem_of_getElem? hx), g, 0, rfl, (Array.getElem?_eq_some_iff.1 hrow).1, ?_⟩
 rw [cell_of_row w g (0 + k) cs t fr hrow, Nat.zero_add, ← Array.getElem?_toList]
 obtain ⟨r, hr⟩ := hcs
 have hk : k < (ivs l).length := by rw [ivs_length]; exact (List.getElem?_eq_some_iff.1 hx).1
 rw [← hr, List.getElem?_append_left hk]
 unfold ivs; rw [List.getElem?_map, hx]; rfl
theorem infoI64 : (Tryz.prog.info? 2).map (fun i => (i.zero, i.size, i.bytes)) = some (some (.int .i64 0), 1, 8) := by kernel_rfl
def OwnI (w : World) (B : Nat) (A : Option Addr) (n cap : Nat) (l : List Int) : Prop := w.ownsRow B 2 1 (.slice A n cap) n (ivs l) ∧ ∀ x ∈ l, Wf64 x
theorem OwnI.len {w : World} {B n cap : Nat} {A : Option Addr} {l : List Int} (h : OwnI w B A n cap l) : n = l.length := by have := h.1.1; rw [ivs_length] at this; omega
theorem OwnI.caps {w : World} {B n cap : Nat} {A : Option Addr} {l : List Int} (h : OwnI w B A n cap l) : n ≤ cap ∧ cap ≤ maxLen := by
 rcases h.1.2 with ⟨h1, h2⟩ | ⟨g, cap', cur, h1, -, -, h2, h3, -⟩
 ·cases h1; exact ⟨Nat.le_refl _, Nat.zero_le _⟩
 ·cases h1; exact ⟨h2, h3⟩
theorem OwnI.isAt {w : World} {B n cap : Nat} {A : Option Addr} {l : List Int} (h : OwnI w B A n cap l) : IsAt w A l := by
 rcases h.1.2 with ⟨h1, h2⟩ | ⟨g, cap', cur, h1, hb, hrow, -, -, hs, ht⟩
 ·have := h.len
  have hl : l = [] := List.eq_nil_of_length_eq_zero (by omega)
  subst hl; exact IsAt.nil _ _
 ·cases h1
  exact IsAt.of_row l h.2 hrow ⟨cur.toList.drop (n * 1), by rw [← ht, List.take_append_drop]⟩
theorem OwnI.nil (w : World) (B : Nat) : OwnI w B none 0 0 [] := ⟨w.ownsRow_nil B _ 1, fun x hx => by cases hx⟩
theorem OwnI.keep {w w' : World} {B n cap : Nat} {A : Option Addr} {l : List Int} (h : OwnI w B A n cap l) (hb : Below w.heap.size w w') : OwnI w' B A n cap l :=
 ⟨h.1.kept (row := none) ⟨hb.os, hb.tape, hb.output, hb.size, fun k hk _ => hb.block k hk⟩ (by rcases A with _ | a <;> simp [Value.ownBlock]), h.2⟩
theorem OwnI.base {w : World} {B n cap : Nat} {A : Option Addr} {l : List Int} (h : OwnI w B A n cap l) : ∀ k, A.map (·.block) = some k → B ≤ k := fun k hk => by
 rcases h.1.2 with ⟨h1, h2⟩ | ⟨g, cap', cur, h1, hb, _⟩
 ·cases h1; cases hk
 ·cases h1; simp at hk; omega
theorem is_at {w : World} {a : Addr} {l : List Int} (h : IsAt w (some a) l) (j : Nat) (u : Value) (hu : (ivs l)[j]? = some u) : w.cell? (a.add j) = some u := by
 unfold ivs at hu
 rw [List.getElem?_map] at hu
 rcases hx : l[j]? with _ | x
 ·rw [hx] at hu; cases hu
 ·rw [hx] at hu
  obtain ⟨-, g, off, e, -, hc⟩ := h j x hx
  cases e
  rw [addr_add, hc]; exact hu
theorem run_append_is (w : World) (B : Nat) (A : Option Addr) (n cap : Nat) (l : List Int) (hown : OwnI w B A n cap l) (a : Addr) (m c : Nat) (l2 : List Int) (hm : m = l2.length) (h2 : IsAt w (some a) l2)
  (hbytes : (n + m) * 8 ≤ 140737488355328) (hbase : B ≤ w.heap.size) (ty : TypeId) :
  ∃ A' cap' w', (Builtin.append_ #[119, 119] ty #[.slice A n cap, .slice (some a) m c]).run Tryz.prog w = .ok (.slice A' (n + m) cap') w' ∧ OwnI w' B A' (n + m) cap' (l ++ l2) ∧ w.grownBy w' (A.map (·.block)) := by
 obtain ⟨i0, hi, hz0, hz1, hz2⟩ := info_parts infoI64
 have hlt : ∀ x ∈ l ++ l2, Wf64 x := fun x hx => by
  rcases List.mem_append.1 hx with h | h
  ·exact hown.2 x h
  ·exact h2.wf x h
 obtain ⟨v', w', hr, h3, h4, h5, h6⟩ := run_append_own_at (P := Tryz.prog) w B 119 ty 2 i0 (.int .i64 0) 1 8 Tryz.underlying119 hi hz0 hz1 hz2 rfl (by decide) _ n (ivs l) hown.1 a m c (ivs l2) (by rw [ivs_length, hm, Nat.mul_one]) (is_at h2) (ivs_one l2) (by unfold maxLen; omega) (by omega) hbase
 rw [← ivs_append] at h3
 rcases h3.2 with ⟨rfl, h0⟩ | ⟨g, cap', cur, rfl, hb, hrest⟩
 ·have hn0 : n = 0 := by omega
  have hm0 : m = 0 := by omega
  subst hn0; subst hm0
  exact ⟨none, 0, w', hr, ⟨h3, hlt⟩, by rcases A with _ | _ <;> exact h4⟩
 ·exact ⟨_, _, w', hr, ⟨h3, hlt⟩, by rcases A with _ | _ <;> exact h4⟩
theorem wpList_append_is {w : World} {ops : Array Oper} {rest : List Oper} {o : Oper} {a : Act} {Q : Exit → Act → World → Prop} (hgd : o.guard = none) (s x : Operand)
  (ho : o.op = .call { callee := .builtin .append, args := #[s, x], argTypes := #[119, 119] })
  (B : Nat) (A : Option Addr) (n cap : Nat) (l : List Int) (hs : a.eval s = .slice A n cap) (hown : OwnI w B A n cap l) (b : Addr) (m c : Nat) (l2 : List Int) (hx : a.eval x = .slice (some b) m c) (hm : m = l2.length) (h2 : IsAt w (some b) l2)
  (hbytes : (n + m) * 8 ≤ 140737488355328) (hbase : B ≤ w.heap.size)
  (h : ∀ A' cap' w', OwnI w' B A' (n + m) cap' (l ++ l2) → w.grownBy w' (A.map (·.block)) → wpList Tryz.prog ops Q rest (a.put o.dst (.slice A' (n + m) cap')) w') : wpList Tryz.prog ops Q (o :: rest) a w := by
 refine wpList_plain hgd fun K hK => ?_
 obtain ⟨A', cap', w', hr, h3, h4⟩ := run_append_is w B A n cap l hown b m c l2 hm h2 hbytes hbase o.type
 unfold Oper.wp execOp
 simp only [ho, resolve, invoke, builtin, Sem.run_bind, Sem.run_pure, Result.andThen_ok, List.map_toArray, List.map_cons, List.map_nil, hs, hx, hr]
 exact hK _ _ (h A' cap' w' h3 h4)
theorem is_one (w : World) (x : Int) (hx : Wf64 x) : IsAt (w.alloc (.cells #[.int .i64 x] 2)) (some ⟨w.heap.size, 0, none⟩) [x] :=
 IsAt.of_row _ (fun y hy => by simp at hy; subst hy; exact hx) (heap_alloc_new' w _) ⟨[], rfl⟩
end Go.Proofs.YtjldamkmdkaiiaaGreatDoor
namespace Go.Proofs.YtjldamkmdkaiiaaGreatDoor
open Go.RowKit Go.WideShapes Col
namespace Col
def zz (x : Int) : Nat := if x < 0 then (-2 * x - 1).toNat else (2 * x).toNat
theorem zz_lt {x : Int} (h : Wf64 x) : zz x < 18446744073709551616 := by unfold zz; obtain ⟨h1, h2⟩ := h; split <;> omega
theorem uz_zz {x : Int} : uz (zz x) = x := by
 unfold uz zz
 split <;> split <;> omega
def lpl (l : List Int) : List Nat := l.flatMap fun x => ub (zz x)
def sub64 (a b : Int) : Int := IntKind.i64.wrap (a - b)
def lde : Int → List Int → List Nat
 | _, [] => []
 | p, x :: l => ub (zz (sub64 x p)) ++ lde x l
theorem sub64_wf (a b : Int) : Wf64 (sub64 a b) := by unfold sub64 Wf64; rw [IntKind.wrap_i64]; omega
end Col
def Puts (B : Nat) (w : World) (l : List Nat) (e : Ending) (w' : World) : Prop := ∃ A n cap, e = .returned (.slice A n cap) ∧ OwnS w' B A n cap l ∧ Below B w w' ∧ w.heap.size ≤ w'.heap.size
theorem Puts.eq {B : Nat} {w w' : World} {l m : List Nat} {e : Ending} (h : Puts B w l e w') (hm : l = m) : Puts B w m e w' := hm ▸ h
theorem or128 (n : Nat) : bits BinOp.or IntKind.u8 ((n : Int) % 256) 128 = ((n % 128 + 128 : Nat) : Int) := by
 have h : ∀ b : Fin 256, bits BinOp.or IntKind.u8 ((b : Nat) : Int) 128 = (((b : Nat) % 128 + 128 : Nat) : Int) := by decide +kernel
 have e : (n : Int) % 256 = ((n % 256 : Nat) : Int) := by omega
 rw [e, h ⟨n % 256, by omega⟩]
 congr 1
 show n % 256 % 128 + 128 = n % 128 + 128
 omega
set_option maxHeartbeats 1000000 in
theorem putU_any (B : Nat) (A : Option Addr) (n cap : Nat) (l : List Nat) (x : Nat) (hx : x < 18446744073709551616) (w : World) (H : Hid (OwnS w B A n cap l)) (hn : n ≤ 1099511627776) (hB : B ≤ w.heap.size) :
  Calls Tryz.prog 93 #[.slice A n cap, .int .u64 (x : Int)] w (Puts B w (l ++ ub x)) := by
 have HBB := Lib.hid hB
 go_enter Tryz.func93, Tryz.ntmps93
 go_wp2
 go_loopw [0, 1] (fun p y wr => ∃ (A' : Option Addr) (n' cap' : Nat) (l' : List Nat) (x' : Nat), p = .slice A' n' cap' ∧ y = .int .u64 (x' : Int) ∧ x' ≤ x ∧ n' + (ub x').length ≤ n + (ub x).length ∧ l' ++ ub x' = l ++ ub x ∧ OwnS wr B A' n' cap' l' ∧ Below B w wr) (fun _ y _ => (intOf y).toNat)
 case atStart => exact ⟨A, n, cap, l, x, rfl, rfl, Nat.le_refl _, Nat.le_refl _, rfl, H.out, Below.refl _ _⟩
 case round =>
  obtain ⟨A', n', cap', l', x', rfl, rfl, hx', hn', hl, hown, hb⟩ := hrel
  have HN := Lib.hid hn'
  have HL := Lib.hid hl
  have HO := Lib.hid hown
  have HB := Lib.hid hb
  have hub := Lib.hid (ub_len 9 x (Nat.lt_trans hx (by decide)))
  have hub' := Lib.hid (ub_pos x')
  clear hn' hl hown hb
  have hbs : B ≤ wr.heap.size := Nat.le_trans HBB.out HB.out.size
  by_cases h : x' < 128
  ·have hw8 : IntKind.u8.wrap (x' : Int) = (x' : Int) := by rw [IntKind.wrap_u8]; omega
   have HB1 := Lib.hid (by_one wr x' (by omega))
   have HO1 := Lib.hid (HO.out.keep ((Below.refl _ _).alloc (Nat.le_refl _) (.cells #[.int .u8 (x' : Int)] 5)))
   have hbs1 : B ≤ (wr.alloc (.cells #[.int .u8 (x' : Int)] 5)).heap.size := by simp; omega
   go_wp2_with (refine wpList_append_by rfl (.tmp 15) (.tmp 18) rfl B A' n' cap' l' rfl HO1.out (some ⟨wr.heap.size, 0, none⟩) 1 1 [x'] rfl rfl HB1.out (by have := HN.out; have := hub.out; have := hub'.out; omega) hbs1 ?_; intro A2 cap2 w2 ho2 hg2 hr2)
   have HF := Lib.hid ho2
   have HG := Lib.hid hg2
   clear ho2 hg2 hr2
   go_ret
   have hbl : Below B w w2 := ((HB.out.alloc hbs _).grown HG.out hbs1 HO1.out.base)
   exact ⟨A2, n' + 1, cap2, rfl, by rw [← HL.out, ub_lt h]; exact HF.out, hbl, hbl.size⟩
  ·have h8 := or128 x'
   have HB1 := Lib.hid (by_one wr (x' % 128 + 128) (by omega))
   have HO1 := Lib.hid (HO.out.keep ((Below.refl _ _).alloc (Nat.le_refl _) (.cells #[.int .u8 ((x' % 128 + 128 : Nat) : Int)] 5)))
   have hbs1 : B ≤ (wr.alloc (.cells #[.int .u8 ((x' % 128 + 128 : Nat) : Int)] 5)).heap.size := by simp; omega
   obtain ⟨c, hc⟩ : ∃ c, c = x' % 128 + 128 := ⟨_, rfl⟩
   rw [← hc] at h8 HB1 HO1 hbs1
   have HC := Lib.hid hc
   clear hc
   go_wp2_with (refine wpList_append_by rfl (.tmp 7) (.tmp 11) rfl B A' n' cap' l' rfl HO1.out (some ⟨wr.heap.size, 0, none⟩) 1 1 [c] rfl rfl HB1.out (by have := HN.out; have := hub.out; have := hub'.out; omega) hbs1 ?_; intro A2 cap2 w2 ho2 hg2 hr2; have HF := Lib.hid ho2; have HG := Lib.hid hg2; clear ho2 hg2 hr2)
   go_roundw
   case rel => exact ⟨A2, n' + 1, cap2, l' ++ [c], x' / 128, rfl, by go_num, by omega, by have := HN.out; rw [ub_ge (by omega), List.length_cons] at this; omega, by rw [← HL.out, ub_ge (n := x') (by omega), List.append_assoc, HC.out]; rfl, HF.out, ((HB.out.alloc hbs _).grown HG.out hbs1 HO1.out.base)⟩
   case measure => simp [intOf]; omega
theorem xor_zz_neg (x : Int) (h : Wf64 x) (hn : x < 0) : bits BinOp.xor IntKind.u64 (IntKind.u64.wrap (IntKind.u64.wrap x * 2)) 18446744073709551615 = ((zz x : Nat) : Int) := by
 have e : zz x = (-2 * x - 1).toNat := if_pos hn
 obtain ⟨h1, h2⟩ := h
 have e1 : IntKind.u64.wrap (IntKind.u64.wrap x * 2) = (((2 * (x + 9223372036854775808)).toNat : Nat) : Int) := by rw [IntKind.wrap_u64, IntKind.wrap_u64]; omega
 have hb : ∀ a : Nat, a < 18446744073709551616 → bits BinOp.xor IntKind.u64 (a : Int) 18446744073709551615 = ((18446744073709551615 - a : Nat) : Int) := fun a ha => by
  have h1 : (BitVec.ofInt 64 (a : Int)).toNat = a := by
   rw [BitVec.ofInt_natCast, BitVec.toNat_ofNat]; exact Nat.mod_eq_of_lt (by omega)
  have h0 : BitVec.ofInt 64 18446744073709551615 = BitVec.allOnes 64 := by decide
  show IntKind.u64.wrap ((BitVec.ofInt 64 (a : Int) ^^^ BitVec.ofInt 64 18446744073709551615).toNat : Int) = _
  rw [h0, BitVec.xor_allOnes, BitVec.toNat_not, h1, IntKind.wrap_u64]; omega
 rw [e1, hb _ (by omega), e]
 omega
theorem xor_zz_pos (x : Int) (h : Wf64 x) (hn : ¬ x < 0) : bits BinOp.xor IntKind.u64 (x * 2) 0 = ((zz x : Nat) : Int) := by
 have e : zz x = (2 * x).toNat := if_neg hn
 obtain ⟨h1, h2⟩ := h
 have hb : ∀ a : Nat, a < 18446744073709551616 → bits BinOp.xor IntKind.u64 (a : Int) 0 = (a : Int) := fun a ha => by
  have h1 : (BitVec.ofInt 64 (a : Int)).toNat = a := by
   rw [BitVec.ofInt_natCast, BitVec.toNat_ofNat]; exact Nat.mod_eq_of_lt (by omega)
  have h0 : BitVec.ofInt 64 0 = 0#64 := by decide
  show IntKind.u64.wrap ((BitVec.ofInt 64 (a : Int) ^^^ BitVec.ofInt 64 0).toNat : Int) = _
  rw [h0, BitVec.xor_zero, h1, IntKind.wrap_u64]; omega
 have e1 : x * 2 = (((2 * x).toNat : Nat) : Int) := by omega
 rw [e1, hb _ (by omega), e]
set_option maxHeartbeats 1000000 in
theorem putI_any (B : Nat) (A : Option Addr) (n cap : Nat) (l : List Nat) (x : Int) (hx : Hid (Wf64 x)) (w : World) (H : Hid (OwnS w B A n cap l)) (hn : n ≤ 1099511627776) (hB : B ≤ w.heap.size) :
  Calls Tryz.prog 146 #[.slice A n cap, .int .i64 x] w (Puts B w (l ++ ub (zz x))) := by
 have hz := Lib.hid (zz_lt hx.out)
 obtain ⟨h1, h2⟩ := hx.out
 obtain ⟨z, hzz⟩ : ∃ z, z = zz x := ⟨_, rfl⟩
 rw [← hzz] at hz
 have HZ := Lib.hid hzz
 have hz2 := hz.out
 by_cases h : x < 0
 ·have hb := xor_zz_neg x hx.out h
  have hd : x / 9223372036854775808 = -1 := by omega
  have hw : IntKind.u64.wrap (-1) = 18446744073709551615 := rfl
  rw [← hzz] at hb
  clear hzz
  go_enter Tryz.func146, Tryz.ntmps146
  go_wp2_with (go_at_call 93; (refine (putU_any B A n cap l z hz.out _ H hn hB).mono ?_); rintro e w1 ⟨A1, n1, c1, rfl, h1, h2, h3⟩)
  go_ret
  exact ⟨A1, n1, c1, rfl, by rw [← HZ.out]; exact h1, h2, h3⟩
 ·have hb := xor_zz_pos x hx.out h
  have hd : x / 9223372036854775808 = 0 := by omega
  rw [← hzz] at hb
  clear hzz
  go_enter Tryz.func146, Tryz.ntmps146
  go_wp2_with (go_at_call 93; (refine (putU_any B A n cap l z hz.out _ H hn hB).mono ?_); rintro e w1 ⟨A1, n1, c1, rfl, h1, h2, h3⟩)
  go_ret
  exact ⟨A1, n1, c1, rfl, by rw [← HZ.out]; exact h1, h2, h3⟩
namespace Col
theorem ub10 {n : Nat} (h : n < 18446744073709551616) : (ub n).length ≤ 10 := ub_len 9 n (Nat.lt_trans h (by decide))
theorem zz10 {x : Int} (h : Wf64 x) : (ub (zz x)).length ≤ 10 := ub10 (zz_lt h)
theorem sub64_eq (a b : Int) : sub64 a b = wrap64 (a - b) := by unfold sub64 wrap64; rw [IntKind.wrap_i64]
theorem lpl_nil : lpl [] = [] := rfl
theorem lpl_snoc (l : List Int) (k : Nat) (x : Int) (h : l[k]? = some x) : lpl (l.take (k + 1)) = lpl (l.take k) ++ ub (zz x) := by
 rw [List.take_add_one, h]; simp [lpl]
def lastOf (p : Int) (l : List Int) : Int := l.getLast?.getD p
theorem lastOf_snoc (p : Int) (l : List Int) (k : Nat) (x : Int) (h : l[k]? = some x) : lastOf p (l.take (k + 1)) = x := by
 rw [List.take_add_one, h]; simp [lastOf]
theorem lde_app : ∀ (p : Int) (l m : List Int), lde p (l ++ m) = lde p l ++ lde (lastOf p l) m
 | p, [], m => rfl
 | p, x :: l, m => by
  rw [List.cons_append, lde, lde, lde_app x l m, List.append_assoc]
  have e : lastOf p (x :: l) = lastOf x l := by
   unfold lastOf
   rcases l with _ | ⟨y, l⟩
   ·rfl
   ·rw [List.getLast?_cons_cons]
    rcases h : (y :: l).getLast? with _ | z
    ·simp at h
    ·rfl
  rw [e]
theorem lde_snoc (l : List Int) (k : Nat) (x : Int) (h : l[k]? = some x) : lde 0 (l.take (k + 1)) = lde 0 (l.take k) ++ ub (zz (sub64 x (lastOf 0 (l.take k)))) := by
 rw [List.take_add_one, h]; simp [lde_app, lde]
theorem lastOf_wf (l : List Int) (h : ∀ x ∈ l, Wf64 x) : Wf64 (lastOf 0 l) := by
 unfold lastOf
 rcases hl : l.getLast? with _ | x
 ·exact ⟨by simp, by simp⟩
 ·exact h x (List.mem_of_getLast? hl)
end Col
theorem int_cell {w : World} {b : Option Addr} {l : List Int} (h : IsAt w b l) (k : Nat) (x : Int) (hx : l[k]? = some x) : Wf64 x ∧ ∃ g off, b = some ⟨g, off, none⟩ ∧ w.cell? ⟨g, off + k, none⟩ = some (.int .i64 x) := by
 obtain ⟨h1, g, off, e, -, h2⟩ := h k x hx
 exact ⟨h1, g, off, e, h2⟩
set_option maxHeartbeats 1000000 in
theorem layPlain_any (B : Nat) (A : Option Addr) (n cap : Nat) (p : List Nat) (b : Option Addr) (m c : Nat) (l : List Int) (hm : Hid (m = l.length)) (hn : n ≤ 1000000) (hm1 : m ≤ 1000000) (W0 : World) (HL : Hid (IsAt W0 b l)) (hB : B = W0.heap.size) (w : World) (HW0 : Hid (Below B W0 w)) (H : Hid (OwnS w B A n cap p)) :
  Calls Tryz.prog 122 #[.slice A n cap, .slice b m c] w (Puts B w (p ++ lpl l)) := by
 have HBB := Lib.hid hB
 have hBw : B ≤ w.heap.size := by rw [hB]; exact HW0.out.size
 clear hB
 go_enter Tryz.func122, Tryz.ntmps122
 go_wp2
 go_loopw [0, 9] (fun q i wr => ∃ (k : Nat) (A' : Option Addr) (n' cap' : Nat), k ≤ m ∧ i = .int .i64 k ∧ q = .slice A' n' cap' ∧ n' ≤ n + 10 * k ∧ OwnS wr B A' n' cap' (p ++ lpl (l.take k)) ∧ Below B w wr) (fun _ i _ => m - (intOf i).toNat)
 case atStart => exact ⟨0, A, n, cap, Nat.zero_le _, rfl, rfl, Nat.le_refl _, by rw [List.take_zero, lpl_nil, List.append_nil]; exact H.out, Below.refl _ _⟩
 case round =>
  obtain ⟨k, A', n', cap', hk, rfl, rfl, hn', hown, hb⟩ := hrel
  have HO := Lib.hid hown
  have HBL := Lib.hid hb
  have hbs : B ≤ wr.heap.size := Nat.le_trans hBw hb.size
  clear hown hb
  by_cases hkm : k < m
  ·obtain ⟨x, hx⟩ : ∃ x, l[k]? = some x := ⟨l[k]'(by have := hm.out; omega), List.getElem?_eq_getElem _⟩
   obtain ⟨hwf, g, off, rfl, hc⟩ := int_cell (HL.out.keep (HBB.out ▸ (HW0.out.trans HBL.out))) k x hx
   have HX := Lib.hid (lpl_snoc l k x hx)
   have HW := Lib.hid hwf
   have HZ := Lib.hid (zz10 hwf)
   clear hx hwf
   go_wp2_with (go_at_call 146; (refine (putI_any B A' n' cap' _ x HW _ HO (by omega) hbs).mono ?_); rintro e w1 ⟨A1, n1, c1, rfl, h1, h2, h3⟩; have HO1 := Lib.hid h1; have HB1 := Lib.hid h2; clear h1 h2 h3)
   go_roundw
   case rel => exact ⟨k + 1, A1, n1, c1, by omega, by go_num, rfl, by have e1 := HO1.out.len; have e2 := HO.out.len; have e3 := HZ.out; rw [List.length_append] at e1; omega, by rw [HX.out, ← List.append_assoc]; exact HO1.out, HBL.out.trans HB1.out⟩
   case measure => simp [intOf]; omega
  ·have hkm' : k = m := by omega
   subst hkm'
   have HT : Hid (l.take k = l) := Lib.hid (List.take_of_length_le (by have := hm.out; omega))
   go_wp2
   go_ret
   exact ⟨A', n', cap', rfl, by rw [← HT.out]; exact HO.out, HBL.out, HBL.out.size⟩
set_option maxHeartbeats 1000000 in
theorem layDelta_any (B : Nat) (A : Option Addr) (n cap : Nat) (p : List Nat) (b : Option Addr) (m c : Nat) (l : List Int) (hm : Hid (m = l.length)) (hn : n ≤ 1000000) (hm1 : m ≤ 1000000) (W0 : World) (HL : Hid (IsAt W0 b l)) (hB : B = W0.heap.size) (w : World) (HW0 : Hid (Below B W0 w)) (H : Hid (OwnS w B A n cap p)) :
  Calls Tryz.prog 123 #[.slice A n cap, .slice b m c] w (Puts B w (p ++ lde 0 l)) := by
 have HBB := Lib.hid hB
 have hBw : B ≤ w.heap.size := by rw [hB]; exact HW0.out.size
 clear hB
 go_enter Tryz.func123, Tryz.ntmps123
 go_wp2
 go_loopw [0, 5, 10] (fun q a i wr => ∃ (k : Nat) (z : Int) (A' : Option Addr) (n' cap' : Nat), k ≤ m ∧ i = .int .i64 k ∧ a = .int .i64 z ∧ z = lastOf 0 (l.take k) ∧ q = .slice A' n' cap' ∧ n' ≤ n + 10 * k ∧ OwnS wr B A' n' cap' (p ++ lde 0 (l.take k)) ∧ Below B w wr) (fun _ _ i _ => m - (intOf i).toNat)
 case atStart => exact ⟨0, 0, A, n, cap, Nat.zero_le _, rfl, rfl, rfl, rfl, Nat.le_refl _, by rw [List.take_zero, lde, List.append_nil]; exact H.out, Below.refl _ _⟩
 case round =>
  obtain ⟨k, z, A', n', cap', hk, rfl, rfl, hz, rfl, hn', hown, hb⟩ := hrel
  have HO := Lib.hid hown
  have HBL := Lib.hid hb
  have HZZ := Lib.hid hz
  have hbs : B ≤ wr.heap.size := Nat.le_trans hBw hb.size
  clear hown hb hz
  by_cases hkm : k < m
  ·obtain ⟨x, hx⟩ : ∃ x, l[k]? = some x := ⟨l[k]'(by have := hm.out; omega), List.getElem?_eq_getElem _⟩
   obtain ⟨hwf, g, off, rfl, hc⟩ := int_cell (HL.out.keep (HBB.out ▸ (HW0.out.trans HBL.out))) k x hx
   have HX := Lib.hid (lde_snoc l k x hx)
   have HX2 := Lib.hid (lastOf_snoc 0 l k x hx)
   obtain ⟨d, hd⟩ : ∃ d, d = wrap64 (x - z) := ⟨_, rfl⟩
   have HD := Lib.hid hd
   have HW : Hid (Wf64 d) := Lib.hid (by rw [hd, ← sub64_eq]; exact sub64_wf x z)
   have HZ := Lib.hid (zz10 HW.out)
   clear hx hwf hd
   go_wp2_with (go_at_call 146; rw [← HD.out]; (refine (putI_any B A' n' cap' _ d HW _ HO (by omega) hbs).mono ?_); rintro e w1 ⟨A1, n1, c1, rfl, h1, h2, h3⟩; have HO1 := Lib.hid h1; have HB1 := Lib.hid h2; clear h1 h2 h3)
   go_roundw
   case rel => exact ⟨k + 1, x, A1, n1, c1, by omega, by go_num, rfl, HX2.out.symm, rfl, by have e1 := HO1.out.len; have e2 := HO.out.len; have e3 := HZ.out; rw [List.length_append] at e1; omega, by rw [HX.out, ← List.append_assoc, ← HZZ.out, sub64_eq, ← HD.out]; exact HO1.out, HBL.out.trans HB1.out⟩
   case measure => simp [intOf]; omega
  ·have hkm' : k = m := by omega
   subst hkm'
   have HT : Hid (l.take k = l) := Lib.hid (List.take_of_length_le (by have := hm.out; omega))
   go_wp2
   go_ret
   exact ⟨A', n', cap', rfl, by rw [← HT.out]; exact HO.out, HBL.out, HBL.out.size⟩
end Go.Proofs.YtjldamkmdkaiiaaGreatDoor
