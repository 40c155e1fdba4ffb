/-
  Layer segment: the document's Write of events in which nothing is at fault.
-/
import Derived.Test.YtifabkbdiiolfaaDoorYdaK
import Derived.Test.YtifabkbdiiolfaaDoorYpK
import Derived.Test.YtifabkbdiiolfaaDoorJgK
import Derived.Test.YtifabkbdiiolfaaDoorGzK
open List renaming getElem_toArray → qz0, getElem_cons_zero → qz1, getElem_cons_succ → qz2, setIfInBounds_toArray → qz3, set_cons_zero → qz4, set_cons_succ → qz5
set_option linter.unusedSimpArgs false
set_option linter.unusedVariables false
set_option maxRecDepth 8000
namespace Go.Proofs.YtifabkbdiiolfaaDoor
open Go.RowKit Go.WideShapes Col
/-- Duo lists of bytes that a call owns, in blocks of their own. -/
structure Duo (W w : World) (A : Option Addr) (m cap : Nat) (l : List Nat) (A2 : Option Addr) (m2 cap2 : Nat) (l2 : List Nat) : Prop where
 one : OwnS w W.heap.size A m cap l
 two : OwnS w W.heap.size A2 m2 cap2 l2
 sep : ∀ k, MineK A k → ¬ MineK A2 k
 below : Below W.heap.size W w
theorem Duo.keep {W w w' : World} {A A2 : Option Addr} {m cap m2 cap2 : Nat} {l l2 : List Nat} (h : Duo W w A m cap l A2 m2 cap2 l2) (hb : Below w.heap.size w w') : Duo W w' A m cap l A2 m2 cap2 l2 :=
 ⟨h.one.keep hb, h.two.keep hb, h.sep, below_to h.below hb⟩
theorem Duo.swap {W w : World} {A A2 : Option Addr} {m cap m2 cap2 : Nat} {l l2 : List Nat} (h : Duo W w A m cap l A2 m2 cap2 l2) : Duo W w A2 m2 cap2 l2 A m cap l :=
 ⟨h.two, h.one, fun k h2 h1 => h.sep k h1 h2, h.below⟩
theorem mine_ltS {w : World} {B n cap : Nat} {A : Option Addr} {l : List Nat} (h : OwnS w B A n cap l) (k : Nat) (hk : MineK A k) : k < w.heap.size :=
 (World.ownsRow.lt h.1 k (by rw [own_blockS]; exact hk)).2
theorem Duo.app2 {W w w' : World} {A A2 A3 : Option Addr} {m cap m2 cap2 m3 cap3 : Nat} {l l2 l3 : List Nat} (h : Duo W w A m cap l A2 m2 cap2 l2) (ho : OwnS w' W.heap.size A3 m3 cap3 l3) (hg : w.grownBy w' (A2.map (·.block))) (hr : A3.map (·.block) = A2.map (·.block) ∨ A3.map (·.block) = some w.heap.size) :
  Duo W w' A m cap l A3 m3 cap3 l3 := by
 refine ⟨h.one.keptW (S := MineK A2) (kept_grown (Kept.refl _ _) (fun k h => .inl h) hg) h.sep, ho, fun k h1 h3 => ?_, h.below.grown hg h.below.size h.two.base⟩
 rcases hr with hr | hr
 ·exact h.sep k h1 (by unfold MineK at *; rw [← hr]; exact h3)
 ·have := mine_ltS h.one k h1
  unfold MineK at h3
  rw [hr] at h3; injection h3 with h3; omega
theorem Duo.fresh {W w w' : World} {A A2 : Option Addr} {m cap m2 cap2 : Nat} {l l2 : List Nat} (ho : OwnS w W.heap.size A m cap l) (hb0 : Below W.heap.size W w) (hn : OwnS w' w.heap.size A2 m2 cap2 l2) (hb : Below w.heap.size w w') : Duo W w' A m cap l A2 m2 cap2 l2 :=
 ⟨ho.keep hb, hn.more hb0.size, fun k h1 h2 => absurd (mine_ltS ho k h1) (Nat.not_lt.2 (hn.base k h2)), below_to hb0 hb⟩
theorem ecut_fromX (a : Option Addr) (len cap k : Nat) (hk : k ≤ len) (hc : len ≤ cap) (hnil : a = none → cap = 0) :
  ∃ A, (∀ w, (Instr.slice 22 (.slice a len cap) (some (.int .i64 (k : Int))) none none).run Tryd.prog w = .ok (.slice A (len - k) (cap - k)) w) ∧ (A = none → cap - k = 0) ∧ ∀ w l, len = l.length → EvAt w a l → EvAt w A (l.drop k) := by
 refine ⟨if cap = k then a else a.map (·.add (k * 5)), fun w => ?_, fun h => ?_, fun w l hl h j x hx => ?_⟩
 ·rw [run_slice_l w 22 a len cap Tryd.underlying22 .i64 (k : Int) (by omega) (by omega)]
  rw [show (Go.sizeOf (Tryd.prog.elem 22)).run Tryd.prog w = .ok 5 w from by kernel_rfl]
  simp [Result.andThen, sliced]
 ·split at h
  ·omega
  ·rcases a with _ | a
   ·have := hnil rfl; omega
   ·cases h
 ·have hkl : k < l.length := by
   have := (List.getElem?_eq_some_iff.1 hx).1
   rw [evs_length, List.length_drop] at this; omega
  rw [evs_drop l k (by omega)] at hx
  obtain ⟨g, off, rfl, hg, hcell⟩ := h _ _ hx
  rw [if_neg (by omega)]
  exact ⟨g, off + k * 5, by simp [Addr.add_lit], hg, by rw [Nat.add_assoc]; exact hcell⟩
theorem gtr_kW (a b : ByteArray) (v : Bool) (h : (!(Op.bytesLess a.toList b.toList || a.toList == b.toList)) = v) (w : World) : (binOp .gtr 9 (.string a) (.string b)).run Tryd.prog w = .ok (.bool v) w := by
 rw [binOp_string_gtr, h]; rfl
def DW (W : World) (l : List Ev) (N : Nat) (u f n i : Value) (wr : World) : Prop := ∃ (k : Nat) (A : Option Addr) (m cap : Nat) (A2 : Option Addr) (m2 cap2 : Nat), k ≤ N ∧ u = .slice A m cap ∧ f = .slice A2 m2 cap2 ∧ n = .int .i64 (k : Int) ∧ i = .int .i64 ((64 * k : Nat) : Int) ∧ Duo W wr A m cap (wrS l (chP k)).1 A2 m2 cap2 (cksB (wrS l (chP k)).2)
set_option maxHeartbeats 16000000 in
theorem refWrite_any (g off n c : Nat) (l : List Ev) (hn : Hid (n = l.length)) (h0 : 0 < n) (hn9 : n ≤ 200) (hnc : n ≤ c) (hcm : c ≤ maxLen) (p : Nat) (hp1 : 1 ≤ p) (hp : p ≤ 8) (hck : Hid (chkL (p : Int) none l = 0)) (hfin : Hid (∀ x ∈ l, FineE x)) (W : World) (HE : Hid (EvAt W (some ⟨g, off, none⟩) l)) :
  Calls Tryd.prog 6 #[.slice (some ⟨g, off, none⟩) n c, .int .i64 (p : Int)] W fun e w' => ∃ A m cap, e = .returned (.tuple #[.slice A m cap, .int .i64 0]) ∧ OwnS w' W.heap.size A m cap (segB p l) ∧ Below W.heap.size W w' := by
 have hn0 : ((n : Int) == 0) = false := by rw [beq_eq_false_iff_ne]; omega
 have hd1 : ¬ ((p : Int) < 1) := by omega
 have hd2 : ¬ ((8 : Int) < (p : Int)) := by omega
 have hd3 : ¬ ((1024 : Int) < (n : Int)) := by omega
 obtain ⟨x0, hx0⟩ : ∃ x, l[0]? = some x := ⟨_, List.getElem?_eq_getElem (by have := hn.out; omega)⟩
 have HOFF : Hid (∀ k x, l[k]? = some x → x.off = x0.off + k) := Lib.hid (chk_off0 hck.out hx0)
 have HFO : Hid (∀ x ∈ l, formB x (p : Int) = true) := Lib.hid (chk_form _ _ hck.out)
 have HIN0 : Hid (0 < n) := Lib.hid h0
 go_enter Tryd.func6, Tryd.ntmps6
 go_wp2
 go_loopw [6] (fun i wr => ∃ k : Nat, k ≤ n ∧ i = .int .i64 (k : Int) ∧ Below W.heap.size W wr) (fun i _ => n - (intOf i).toNat)
 case atStart => exact ⟨0, by omega, rfl, Below.refl _ _⟩
 case round =>
  obtain ⟨k, hk, rfl, hb⟩ := hrel
  have HB := Lib.hid hb
  clear hb
  by_cases hlt : k < n
  ·obtain ⟨x, hx⟩ : ∃ x, l[k]? = some x := ⟨_, List.getElem?_eq_getElem (by have := hn.out; omega)⟩
   have hli : (k : Int) < (n : Int) := by omega
   have HEK := Lib.hid (HE.out.keep HB.out)
   obtain ⟨g', o', e0, hg, hr⟩ := evr HEK.out k x hx
   injection e0 with e0; injection e0 with e1 e2; subst e1; subst e2
   have HX : Hid (wr.rangeAt g (off + k * 5) [.int .u64 (x.off : Int), .int .i64 x.part, .int .i64 x.time, .string x.key, .float .f64 x.val]) := Lib.hid hr
   have HFM : Hid (formB x (p : Int) = true) := Lib.hid (HFO.out x (List.mem_of_getElem? hx))
   have hxo := HOFF.out k x hx
   have hx9 := (hfin.out x (List.mem_of_getElem? hx)).off
   have HSU : Hid (IntKind.u64.wrap ((x.off : Int) - (x0.off : Int)) = (k : Int)) := Lib.hid (by rw [IntKind.wrap_u64]; omega)
   have HKU : Hid (IntKind.u64.wrap (k : Int) = (k : Int)) := Lib.hid (by rw [IntKind.wrap_u64]; omega)
   have HLT : Hid (x0.off ≤ x.off) := Lib.hid (by omega)
   have HIN : Hid (k < n ∧ 0 < n) := Lib.hid ⟨hlt, h0⟩
   have hk1 : IntKind.i64.wrap ((k : Int) + 1) = ((k + 1 : Nat) : Int) := by rw [IntKind.wrap_i64]; omega
   clear hr hg hxo hx9
   go_upto_region 10 with (first
    | (refine wpList_load_mid rfl 34 (.tmp 41) rfl g (off + k * 5) rfl [.int .u64 (x.off : Int), .int .i64 x.part, .int .i64 x.time, .string x.key, .float .f64 x.val] _ HX.out uEvent rfl (iEvent x) ?_)
    | (go_at_call 16; (with_reducible refine (refForm_any x (p : Int) _).mono ?_); rintro e w2 ⟨rfl, h⟩; rw [HFM.out]; have HB2 := Lib.hid (below_to HB.out h); clear h))
   skip
   have HXK : Hid (∀ w', Below w2.heap.size w2 w' → w'.cell? ⟨g, off + k * 5, none⟩ = some (.int .u64 (x.off : Int))) := Lib.hid fun w' hb => by
    obtain ⟨g', o', e0, -, hr⟩ := evr ((HE.out.keep HB2.out).keep hb) k x hx
    injection e0 with e0; injection e0 with e1 e2; subst e1; subst e2
    exact hr 0 _ rfl
   have HX0 : Hid (∀ w', Below w2.heap.size w2 w' → w'.cell? ⟨g, off, none⟩ = some (.int .u64 (x0.off : Int))) := Lib.hid fun w' hb => by
    obtain ⟨g', o', e0, -, hr⟩ := evr ((HE.out.keep HB2.out).keep hb) 0 x0 hx0
    injection e0 with e0; injection e0 with e1 e2; subst e1; subst e2
    have h := hr 0 _ rfl
    simpa using h
   refine wp_region_held_drew (S := Below w2.heap.size w2) (by kernel_rfl) (Below.refl _ _).drew (fun hHeld => ?_)
   refine wpAnyH_take (i := 0) (v := .slice (some ⟨g, off, none⟩) n c) rfl (by kernel_rfl) (by kernel_rfl) (by kernel_rfl) (fun _ _ _ h => h) (Or.inl ⟨by rfl, fun _ _ => rfl⟩) hHeld ?_
   try dsimp only
   try simp only [Act.put, qz0, qz1, qz2, qz3, qz4, qz5]
   refine wpAnyH_take (i := 1) (v := .int .i64 (k : Int)) rfl (by kernel_rfl) (by kernel_rfl) (by kernel_rfl) (fun _ _ _ h => h) (Or.inl ⟨by rfl, fun _ _ => rfl⟩) hHeld ?_
   try dsimp only
   try simp only [Act.put, qz0, qz1, qz2, qz3, qz4, qz5]
   refine wpAnyH_take (i := 2) (v := .pointer (some ⟨g, off + k * 5, none⟩)) rfl (by kernel_rfl) (by kernel_rfl) (by kernel_rfl) (fun _ _ _ h => h) (Or.inl ⟨by rfl, fun w _ => by have h9 := HIN.out; go_simp⟩) hHeld ?_
   try dsimp only
   try simp only [Act.put, qz0, qz1, qz2, qz3, qz4, qz5]
   refine wpAnyH_take (i := 3) (v := .pointer (some ⟨g, off + k * 5, none⟩)) rfl (by kernel_rfl) (by kernel_rfl) (by kernel_rfl) (fun _ _ _ h => h) (Or.inl ⟨by rfl, fun w _ => by go_simp⟩) hHeld ?_
   try dsimp only
   try simp only [Act.put, qz0, qz1, qz2, qz3, qz4, qz5]
   refine wpAnyH_take (i := 4) (v := .int .u64 (x.off : Int)) rfl (by kernel_rfl) (by kernel_rfl) (by kernel_rfl) (fun _ _ _ h => h) (ylS lv_u64S rfl (.tmp 49) rfl g (off + k * 5) rfl _ (fun w hw => HXK.out w hw)) hHeld ?_
   try dsimp only
   try simp only [Act.put, qz0, qz1, qz2, qz3, qz4, qz5]
   refine wpAnyH_take (i := 5) (v := .slice (some ⟨g, off, none⟩) n c) rfl (by kernel_rfl) (by kernel_rfl) (by kernel_rfl) (fun _ _ _ h => h) (Or.inl ⟨by rfl, fun _ _ => rfl⟩) hHeld ?_
   try dsimp only
   try simp only [Act.put, qz0, qz1, qz2, qz3, qz4, qz5]
   refine wpAnyH_take (i := 6) (v := .pointer (some ⟨g, off, none⟩)) rfl (by kernel_rfl) (by kernel_rfl) (by kernel_rfl) (fun _ _ _ h => h) (Or.inl ⟨by rfl, fun w _ => by have h9 := HIN.out; go_simp⟩) hHeld ?_
   try dsimp only
   try simp only [Act.put, qz0, qz1, qz2, qz3, qz4, qz5]
   refine wpAnyH_take (i := 7) (v := .pointer (some ⟨g, off, none⟩)) rfl (by kernel_rfl) (by kernel_rfl) (by kernel_rfl) (fun _ _ _ h => h) (Or.inl ⟨by rfl, fun w _ => by go_simp⟩) hHeld ?_
   try dsimp only
   try simp only [Act.put, qz0, qz1, qz2, qz3, qz4, qz5]
   refine wpAnyH_take (i := 8) (v := .int .u64 (x0.off : Int)) rfl (by kernel_rfl) (by kernel_rfl) (by kernel_rfl) (fun _ _ _ h => h) (ylS lv_u64S rfl (.tmp 53) rfl g off rfl _ (fun w hw => HX0.out w hw)) hHeld ?_
   try dsimp only
   try simp only [Act.put, qz0, qz1, qz2, qz3, qz4, qz5]
   refine wpAnyH_take (i := 9) (v := .int .u64 (k : Int)) rfl (by kernel_rfl) (by kernel_rfl) (by kernel_rfl) (fun _ _ _ h => h) (Or.inl ⟨by rfl, fun w _ => by have h9 := HSU.out; go_simp⟩) hHeld ?_
   try dsimp only
   try simp only [Act.put, qz0, qz1, qz2, qz3, qz4, qz5]
   refine wpAnyH_take (i := 10) (v := .int .i64 (k : Int)) rfl (by kernel_rfl) (by kernel_rfl) (by kernel_rfl) (fun _ _ _ h => h) (Or.inl ⟨by rfl, fun _ _ => rfl⟩) hHeld ?_
   try dsimp only
   try simp only [Act.put, qz0, qz1, qz2, qz3, qz4, qz5]
   refine wpAnyH_take (i := 11) (v := .int .u64 (k : Int)) rfl (by kernel_rfl) (by kernel_rfl) (by kernel_rfl) (fun _ _ _ h => h) (Or.inl ⟨by rfl, fun w _ => by have h9 := HKU.out; go_simp⟩) hHeld ?_
   try dsimp only
   try simp only [Act.put, qz0, qz1, qz2, qz3, qz4, qz5]
   refine wpAnyH_take (i := 12) (v := .bool false) rfl (by kernel_rfl) (by kernel_rfl) (by kernel_rfl) (fun _ _ _ h => h) (Or.inl ⟨by rfl, fun w _ => by go_simp⟩) hHeld ?_
   try dsimp only
   try simp only [Act.put, qz0, qz1, qz2, qz3, qz4, qz5]
   refine wpAnyH_take (i := 13) (v := .bool false) rfl (by kernel_rfl) (by kernel_rfl) (by kernel_rfl) (fun _ _ _ h => h) (Or.inl ⟨by rfl, fun _ _ => rfl⟩) hHeld ?_
   try dsimp only
   try simp only [Act.put, qz0, qz1, qz2, qz3, qz4, qz5]
   refine wpAnyH_take (i := 14) (v := .slice (some ⟨g, off, none⟩) n c) rfl (by kernel_rfl) (by kernel_rfl) (by kernel_rfl) (fun _ _ _ h => h) (Or.inl ⟨by rfl, fun _ _ => rfl⟩) hHeld ?_
   try dsimp only
   try simp only [Act.put, qz0, qz1, qz2, qz3, qz4, qz5]
   refine wpAnyH_take (i := 15) (v := .int .i64 (k : Int)) rfl (by kernel_rfl) (by kernel_rfl) (by kernel_rfl) (fun _ _ _ h => h) (Or.inl ⟨by rfl, fun _ _ => rfl⟩) hHeld ?_
   try dsimp only
   try simp only [Act.put, qz0, qz1, qz2, qz3, qz4, qz5]
   refine wpAnyH_take (i := 16) (v := .pointer (some ⟨g, off + k * 5, none⟩)) rfl (by kernel_rfl) (by kernel_rfl) (by kernel_rfl) (fun _ _ _ h => h) (Or.inl ⟨by rfl, fun w _ => by have h9 := HIN.out; go_simp⟩) hHeld ?_
   try dsimp only
   try simp only [Act.put, qz0, qz1, qz2, qz3, qz4, qz5]
   refine wpAnyH_take (i := 17) (v := .pointer (some ⟨g, off + k * 5, none⟩)) rfl (by kernel_rfl) (by kernel_rfl) (by kernel_rfl) (fun _ _ _ h => h) (Or.inl ⟨by rfl, fun w _ => by go_simp⟩) hHeld ?_
   try dsimp only
   try simp only [Act.put, qz0, qz1, qz2, qz3, qz4, qz5]
   refine wpAnyH_take (i := 18) (v := .int .u64 (x.off : Int)) rfl (by kernel_rfl) (by kernel_rfl) (by kernel_rfl) (fun _ _ _ h => h) (ylS lv_u64S rfl (.tmp 63) rfl g (off + k * 5) rfl _ (fun w hw => HXK.out w hw)) hHeld ?_
   try dsimp only
   try simp only [Act.put, qz0, qz1, qz2, qz3, qz4, qz5]
   refine wpAnyH_take (i := 19) (v := .slice (some ⟨g, off, none⟩) n c) rfl (by kernel_rfl) (by kernel_rfl) (by kernel_rfl) (fun _ _ _ h => h) (Or.inl ⟨by rfl, fun _ _ => rfl⟩) hHeld ?_
   try dsimp only
   try simp only [Act.put, qz0, qz1, qz2, qz3, qz4, qz5]
   refine wpAnyH_take (i := 20) (v := .pointer (some ⟨g, off, none⟩)) rfl (by kernel_rfl) (by kernel_rfl) (by kernel_rfl) (fun _ _ _ h => h) (Or.inl ⟨by rfl, fun w _ => by have h9 := HIN.out; go_simp⟩) hHeld ?_
   try dsimp only
   try simp only [Act.put, qz0, qz1, qz2, qz3, qz4, qz5]
   refine wpAnyH_take (i := 21) (v := .pointer (some ⟨g, off, none⟩)) rfl (by kernel_rfl) (by kernel_rfl) (by kernel_rfl) (fun _ _ _ h => h) (Or.inl ⟨by rfl, fun w _ => by go_simp⟩) hHeld ?_
   try dsimp only
   try simp only [Act.put, qz0, qz1, qz2, qz3, qz4, qz5]
   refine wpAnyH_take (i := 22) (v := .int .u64 (x0.off : Int)) rfl (by kernel_rfl) (by kernel_rfl) (by kernel_rfl) (fun _ _ _ h => h) (ylS lv_u64S rfl (.tmp 67) rfl g off rfl _ (fun w hw => HX0.out w hw)) hHeld ?_
   try dsimp only
   try simp only [Act.put, qz0, qz1, qz2, qz3, qz4, qz5]
   refine wpAnyH_take (i := 23) (v := .bool false) rfl (by kernel_rfl) (by kernel_rfl) (by kernel_rfl) (fun _ _ _ h => h) (Or.inl ⟨by rfl, fun w _ => by have h9 := HLT.out; go_simp; try omega⟩) hHeld ?_
   try dsimp only
   try simp only [Act.put, qz0, qz1, qz2, qz3, qz4, qz5]
   refine wpAnyH_take (i := 24) (v := .bool false) rfl (by kernel_rfl) (by kernel_rfl) (by kernel_rfl) (fun _ _ _ h => h) (Or.inl ⟨by rfl, fun w _ => by go_simp⟩) hHeld ?_
   try dsimp only
   try simp only [Act.put, qz0, qz1, qz2, qz3, qz4, qz5]
   refine wpAnyH_done (by kernel_rfl) ?_ _
   clear hHeld
   have HB3 : Hid (Below W.heap.size W w2.drew) := Lib.hid HB2.out.drew
   go_wp2
   go_roundw
   case rel => exact ⟨k + 1, by omega, by go_num, HB3.out⟩
   case measure => simp [intOf]; omega
  ·obtain rfl : n = k := by omega
   have hli : ¬ (n : Int) < (n : Int) := by omega
   clear HOFF HFO
   go_wp2
   go_loopw [7, 8, 9, 10] (fun u f nn i wq => DW W l ((n + 63) / 64) u f nn i wq) (fun _ _ _ i _ => 400 - (intOf i).toNat)
   case atStart => exact ⟨0, none, 0, 0, none, 0, 0, by omega, rfl, rfl, rfl, rfl, ⟨OwnS.nil _ _, OwnS.nil _ _, fun k h => (by cases h), HB.out⟩⟩
   case round =>
    obtain ⟨k, A, m, cap, B0, q0, e0, hk, rfl, rfl, rfl, rfl, hT⟩ := hrel
    obtain ⟨v0, rfl⟩ : ∃ v, v = wr := ⟨_, rfl⟩
    obtain ⟨b, hb⟩ : ∃ b, b = 64 * k := ⟨_, rfl⟩
    obtain ⟨PG, hPG⟩ : ∃ PG, PG = (wrS l (chP k)).1 := ⟨_, rfl⟩
    obtain ⟨F, hF⟩ : ∃ F, F = cksB (wrS l (chP k)).2 := ⟨_, rfl⟩
    have hwl := wrS_len l (by have := hn.out; omega) hfin.out (chP k)
    rw [chP_len] at hwl
    have hfl := cksB_len (wrS_ok l (by have := hn.out; omega) hfin.out (chP k) (by rw [chP_len]; omega))
    rw [hwl.2, ← hF] at hfl
    rw [← hPG, ← hF] at hT
    have T0 := Lib.hid hT
    have hml : m = PG.length := hT.one.len
    have hm9 : m ≤ 40000 := by rw [hml, hPG]; have := hwl.1; omega
    have hz0 : q0 ≤ 20000 := by rw [hT.two.len]; omega
    have HKN : Hid (k ≤ (n + 63) / 64) := Lib.hid hk
    have HBK := Lib.hid hb
    have HPG := Lib.hid hPG; have HF := Lib.hid hF
    have hb64 : IntKind.i64.wrap ((b : Int) + 64) = ((b + 64 : Nat) : Int) := by rw [IntKind.wrap_i64]; omega
    have hk1 : IntKind.i64.wrap ((k : Int) + 1) = ((k + 1 : Nat) : Int) := by rw [IntKind.wrap_i64]; omega
    rw [← hb]
    clear hT hwl hPG hF hb
    by_cases hlt : b < n
    ·have hb := HBK.out; have hPG := HPG.out
     have hkn : k < segN l := by unfold segN; have := hn.out; omega
     have hst : stC l.length k = 64 * k := stW_of hkn
     obtain ⟨rr, hrr⟩ : ∃ rr, rr = lnC l.length k := ⟨_, rfl⟩
     obtain ⟨q, hq⟩ : ∃ q, q = n - b := ⟨_, rfl⟩
     have hrm : rr = min 64 q := by rw [hrr]; unfold lnC; rw [hst, ← hn.out, hq, hb]
     have hr0 : 0 < rr := by omega
     have hr6 : rr ≤ 64 := by omega
     obtain ⟨R, hR⟩ : ∃ R, R = pcs l k := ⟨_, rfl⟩
     have HRL : Hid (rr = R.length) := Lib.hid (by rw [hR, pcs_len (by have := hn.out; omega), hrr])
     have HRD : Hid ((l.drop b).take rr = R) := Lib.hid (by rw [hR, hb, ← pcs_drop hst, hrm, hq, hb, hn.out])
     have HFR : Hid (∀ x ∈ R, FineE x) := Lib.hid fun x hx => hfin.out x (pcs_mem (by rw [← hR]; exact hx))
     have HSN : Hid (wrS l (chP (k + 1)) = (PG ++ pgE R, (wrS l (chP k)).2 ++ [ckOf R m])) := Lib.hid (by rw [chP_succ, wrS_snoc, ← hPG, ← hR, ← hml])
     have HCOK := Lib.hid (ckOf_ok R (by have := HRL.out; omega) (by have := HRL.out; omega) HFR.out m (by omega))
     obtain ⟨Ac, hc1, hc2, hc3⟩ := ecut_fromX (some ⟨g, off, none⟩) n c b (by omega) hnc (fun h => by cases h)
     rw [← hq] at hc1
     have hli2 : (b : Int) < (n : Int) := by omega
     obtain ⟨Cb, hCb⟩ : ∃ Cb, Cb = c - b := ⟨_, rfl⟩
     rw [← hCb] at hc1 hc2
     have HRR : Hid (rr = min 64 q) := Lib.hid hrm
     have HQ : Hid (q = n - b) := Lib.hid hq
     have HCb : Hid (Cb = c - b) := Lib.hid hCb
     clear hrr hst hR hml hb hPG hq hCb hrm
     go_upto_if 82 with fail
     go_cut [11] (fun s wx => (∃ Ar C, s = .slice Ar rr C ∧ (∀ w', EvAt w' (some ⟨g, off, none⟩) l → EvAt w' Ar R)) ∧ wx = v0)
     case first =>
      by_cases h64 : 64 < q
      ·have h64i : (64 : Int) < (q : Int) := by omega
       obtain ⟨Ad, hd1, -, hd3⟩ := ecut_to Ac q Cb 64 (by omega) (by have := HQ.out; have := HCb.out; omega) hc2
       have hd1' : ∀ w, (Instr.slice 22 (.slice Ac q Cb) none (some (.int .i64 64)) none).run Tryd.prog w = .ok (.slice Ad 64 Cb) w := hd1
       have H6 : Hid (rr = 64) := Lib.hid (by have := HRR.out; omega)
       go_wp2
       go_meet
       case rel =>
        refine ⟨⟨Ad, Cb, by rw [H6.out], fun w' h => ?_⟩, rfl⟩
        rw [← HRD.out, H6.out]
        exact hd3 w' _ (by rw [List.length_drop, ← hn.out]; exact HQ.out) (hc3 w' l hn.out h)
      ·have h64i : ¬ (64 : Int) < (q : Int) := by omega
       have H6 : Hid (rr = q) := Lib.hid (by have := HRR.out; omega)
       go_wp2
       go_meet
       case rel =>
        refine ⟨⟨Ac, Cb, by rw [H6.out], fun w' h => ?_⟩, rfl⟩
        rw [← HRD.out, List.take_of_length_le (by rw [List.length_drop, ← hn.out]; have := HQ.out; have := H6.out; omega)]
        exact hc3 w' l hn.out h
     case rest =>
      obtain ⟨⟨Ar, C, rfl, hAr⟩, hwc⟩ := hcut
      have hwc := hwc.symm
      subst hwc
      obtain ⟨y0, hy0⟩ : ∃ x, R[0]? = some x := ⟨_, List.getElem?_eq_getElem (by have := HRL.out; omega)⟩
      obtain ⟨yl, hyl⟩ : ∃ x, R[rr - 1]? = some x := ⟨_, List.getElem?_eq_getElem (by have := HRL.out; omega)⟩
      have HER : Hid (∀ w', Below W.heap.size W w' → EvAt w' Ar R) := Lib.hid fun w' hb => hAr w' (HE.out.keep hb)
      obtain ⟨gr, fr, rfl, -, -⟩ := evr (HER.out v0 T0.out.below) 0 y0 hy0
      have HCE : Hid (∀ w', Below W.heap.size W w' → ∀ t x, R[t]? = some x → w'.rangeAt gr (fr + t * 5) x.cells) := Lib.hid fun w' hb t x hx => by
       obtain ⟨g', o', e9, -, hr⟩ := evr (HER.out w' hb) t x hx
       injection e9 with e9; injection e9 with e1 e2; subst e1; subst e2
       exact hr
      have HC0 : Hid (∀ w', Below W.heap.size W w' → w'.cell? ⟨gr, fr, none⟩ = some (.int .u64 (y0.off : Int))) := Lib.hid fun w' hb => by
       have h := HCE.out w' hb 0 y0 hy0 0 _ rfl
       simpa using h
      have HCL : Hid (∀ w', Below W.heap.size W w' → w'.cell? ⟨gr, fr + (rr - 1) * 5, none⟩ = some (.int .u64 (yl.off : Int))) := Lib.hid fun w' hb => HCE.out w' hb (rr - 1) yl hyl 0 _ rfl
      have a2 : v0.cell? ⟨gr, fr + 2, none⟩ = some (.int .i64 y0.time) := by
       have h := HCE.out v0 T0.out.below 0 y0 hy0 2 _ rfl
       simpa using h
      have a3 : v0.cell? ⟨gr, fr + 3, none⟩ = some (.string y0.key) := by
       have h := HCE.out v0 T0.out.below 0 y0 hy0 3 _ rfl
       simpa using h
      have hr0i : (0 : Int) < (rr : Int) := by omega
      obtain ⟨z1, z2, z3, z4⟩ := ckT_zero R m y0 hy0
      have HEND := Lib.hid (ckOf_ends R m y0 yl hy0 (by rw [← HRL.out]; exact hyl))
      have HALL : Hid (ckT R m rr = ckOf R m) := Lib.hid (ckT_all R m rr (by have := HRL.out; omega))
      have HY := Lib.hid (HFR.out y0 (List.mem_of_getElem? hy0)).off
      have HYL := Lib.hid (HFR.out yl (List.mem_of_getElem? hyl)).off
      clear hAr hc1 hc2 hc3 hy0 hyl
      go_wp2
      go_loopw [12, 13, 14, 15, 16] (fun lo hi ka kz jj wz => ∃ t : Nat, t ≤ rr ∧ lo = .int .i64 (ckT R m t).ta ∧ hi = .int .i64 (ckT R m t).tz ∧ ka = .string (ckT R m t).ka ∧ kz = .string (ckT R m t).kz ∧ jj = .int .i64 (t : Int) ∧ wz = v0) (fun _ _ _ _ jj _ => rr - (intOf jj).toNat)
      case atStart => exact ⟨0, by omega, by rw [z1], by rw [z2], by rw [z3], by rw [z4], rfl, rfl⟩
      case round =>
       obtain ⟨t, ht, rfl, rfl, rfl, rfl, rfl, hwz⟩ := hrel
       have hwz := hwz.symm
       subst hwz
       by_cases htr : t < rr
       ·obtain ⟨x, hx⟩ : ∃ x, R[t]? = some x := ⟨_, List.getElem?_eq_getElem (by have := HRL.out; omega)⟩
        have b2 : v0.cell? ⟨gr, fr + t * 5 + 2, none⟩ = some (.int .i64 x.time) := HCE.out v0 T0.out.below t x hx 2 _ rfl
        have b3 : v0.cell? ⟨gr, fr + t * 5 + 3, none⟩ = some (.string x.key) := HCE.out v0 T0.out.below t x hx 3 _ rfl
        have HNX : Hid (ckT R m (t + 1) = ckF (ckT R m t) x) := Lib.hid (ckT_succ R m t x hx)
        have hti : (t : Int) < (rr : Int) := by omega
        have ht1 : IntKind.i64.wrap ((t : Int) + 1) = ((t + 1 : Nat) : Int) := by rw [IntKind.wrap_i64]; omega
        clear hx z1 z2 z3 z4 a2 a3
        generalize ckT R m t = K at *
        go_upto_if 113 with fail
        go_cut [12] (fun s wx => s = .int .i64 (minI K.ta x.time) ∧ wx = v0)
        case first =>
         by_cases d1 : x.time < K.ta
         all_goals
          go_wp2
          go_meet
          case rel => exact ⟨by unfold minI; split <;> first | rfl | (exfalso; omega), rfl⟩
        case rest =>
         obtain ⟨rfl, hwc⟩ := hcut
         have hwc := hwc.symm
         subst hwc
         go_upto_if 125 with fail
         go_cut [13] (fun s wx => s = .int .i64 (maxI K.tz x.time) ∧ wx = v0)
         case first =>
          by_cases d1 : K.tz < x.time
          all_goals
           go_wp2
           go_meet
           case rel => exact ⟨by unfold maxI; split <;> first | rfl | (exfalso; omega), rfl⟩
         case rest =>
          obtain ⟨rfl, hwc⟩ := hcut
          have hwc := hwc.symm
          subst hwc
          go_upto_if 137 with fail
          go_cut [14] (fun s wx => s = .string (minK K.ka x.key) ∧ wx = v0)
          case first =>
           rcases hv : Op.bytesLess x.key.toList K.ka.toList with _ | _
           all_goals
            go_wp2
            go_meet
            case rel => exact ⟨by rw [minK_lss, hv]; rfl, rfl⟩
          case rest =>
           obtain ⟨rfl, hwc⟩ := hcut
           have hwc := hwc.symm
           subst hwc
           rcases hv : Op.bytesLess x.key.toList K.kz.toList with _ | _ <;> rcases hw : (x.key.toList == K.kz.toList) with _ | _
           all_goals
            have hrun := gtr_kW x.key K.kz _ rfl
            rw [hv, hw] at hrun
            simp only [Bool.or_false, Bool.or_true, Bool.false_or, Bool.true_or, Bool.not_true, Bool.not_false] at hrun
            go_wp2
            go_roundw
            case rel => exact ⟨t + 1, by omega, by rw [HNX.out]; rfl, by rw [HNX.out]; rfl, by rw [HNX.out]; rfl, by rw [HNX.out]; show _ = Value.string (maxK K.kz x.key); rw [maxK_gtr, hv, hw]; rfl, by go_num, by first | rfl | trivial⟩
            case measure => simp [intOf]; omega
       ·obtain rfl : rr = t := by omega
        have hti : ¬ (rr : Int) < (rr : Int) := by omega
        rw [HALL.out]
        clear z1 z2 z3 z4 a2 a3
        obtain ⟨CK, hCK⟩ : ∃ CK, CK = ckOf R m := ⟨_, rfl⟩
        rw [← hCK] at HEND HCOK ⊢
        have HCK := Lib.hid hCK
        have HTA := Lib.hid HCOK.out.ta
        have HTZ := Lib.hid HCOK.out.tz
        have HKA : Hid (∀ w', Calls Tryd.prog 19 #[.string CK.ka] w' (Puts w'.heap.size w' (txL (kbS CK.ka)))) := Lib.hid fun w' => by
         have h := refText_any (kbS CK.ka) (kbS_wf _) (by rw [kbS_len]; have := HCOK.out.ka; omega) w'
         rwa [kbS_strB] at h
        have HKZ : Hid (∀ w', Calls Tryd.prog 19 #[.string CK.kz] w' (Puts w'.heap.size w' (txL (kbS CK.kz)))) := Lib.hid fun w' => by
         have h := refText_any (kbS CK.kz) (kbS_wf _) (by rw [kbS_len]; have := HCOK.out.kz; omega) w'
         rwa [kbS_strB] at h
        have HBT1 := Lib.hid (ub10 (show rr < 18446744073709551616 by omega))
        have HBT2 := Lib.hid (ub10 (show m < 18446744073709551616 by omega))
        have HBT3 := Lib.hid (ub10 (show y0.off < 18446744073709551616 by have := HY.out; omega))
        have HBT4 := Lib.hid (ub10 (show yl.off < 18446744073709551616 by have := HYL.out; omega))
        have HBT5 := Lib.hid (ub10 (zz_lt HTA.out))
        have HBT6 := Lib.hid (ub10 (zz_lt HTZ.out))
        have HBX7 := Lib.hid (tx_len CK.ka HCOK.out.ka)
        have HBX8 := Lib.hid (tx_len CK.kz HCOK.out.kz)
        have HL9 : Hid ((Pg.lay 101 (evY R)).length ≤ 9300) := Lib.hid (by rw [Pg.lay_len]; have := evY_le R HFR.out (by have := HRL.out; omega); omega)
        have hwr : IntKind.u64.wrap (rr : Int) = (rr : Int) := by rw [IntKind.wrap_u64]; omega
        have hwm : IntKind.u64.wrap (m : Int) = (m : Int) := by rw [IntKind.wrap_u64]; omega
        obtain ⟨r1, hr1⟩ : ∃ r1, r1 = rr - 1 := ⟨_, rfl⟩
        have hws : IntKind.i64.wrap ((rr : Int) - 1) = (r1 : Int) := by rw [IntKind.wrap_i64]; omega
        have hr1l : r1 < rr := by omega
        have hr1i : (r1 : Int) < (rr : Int) := by omega
        rw [← hr1] at HCL
        clear hCK hr1 hti ht
        go_upto_region 36 with (first
         | (go_at_call 17; (with_reducible refine (refU_any rr (by omega) v0).mono ?_); rintro e u1 hp; obtain ⟨C1, n1, d1, rfl, HOC1, HBC1, hn1⟩ := hp.at; clear hp; have HN1 := Lib.hid hn1; have hb1 : n1 ≤ 10 := (by have h9 := HBT1.out; omega); have U1 := Lib.hid (T0.out.keep HBC1.out); have hs1 := U1.out.below.size; clear hn1)
         | (at_builtin; refine wpList_append_by rfl (.tmp 155) (.tmp 159) rfl W.heap.size B0 q0 e0 (F) rfl U1.out.two C1 n1 d1 (ub rr) rfl HN1.out HOC1.out.byAt (by omega) hs1 ?_; intro B1 e1 v1 ho hg hr; have T1 := Lib.hid (U1.out.app2 ho hg hr); clear ho hg hr))
        obtain ⟨q1, hq1⟩ : ∃ q, q = q0 + n1 := ⟨_, rfl⟩
        rw [← hq1] at T1 ⊢
        have hz1 : q1 ≤ 20050 := by omega
        clear U1 HOC1 HBC1 HN1 hq1 hs1 hz0 hb1
        go_upto_region 37 with (first
         | (go_at_call 17; (with_reducible refine (refU_any m (by omega) v1).mono ?_); rintro e u2 hp; obtain ⟨C2, n2, d2, rfl, HOC2, HBC2, hn2⟩ := hp.at; clear hp; have HN2 := Lib.hid hn2; have hb2 : n2 ≤ 10 := (by have h9 := HBT2.out; omega); have U2 := Lib.hid (T1.out.keep HBC2.out); have hs2 := U2.out.below.size; clear hn2)
         | (at_builtin; refine wpList_append_by rfl (.tmp 161) (.tmp 165) rfl W.heap.size B1 q1 e1 (F ++ ub rr) rfl U2.out.two C2 n2 d2 (ub m) rfl HN2.out HOC2.out.byAt (by omega) hs2 ?_; intro B2 e2 v2 ho hg hr; have T2 := Lib.hid (U2.out.app2 ho hg hr); clear ho hg hr))
        obtain ⟨q2, hq2⟩ : ∃ q, q = q1 + n2 := ⟨_, rfl⟩
        rw [← hq2] at T2 ⊢
        have hz2 : q2 ≤ 20100 := by omega
        clear U2 HOC2 HBC2 HN2 hq2 hs2 hz1 hb2
        have c37 : v2.cell? ⟨gr, fr, none⟩ = some (.int .u64 (y0.off : Int)) := HC0.out v2 T2.out.below
        go_upto_region 38 with (first
         | (go_at_call 17; (with_reducible refine (refU_any y0.off (by have := HY.out; omega) v2).mono ?_); rintro e u3 hp; obtain ⟨C3, n3, d3, rfl, HOC3, HBC3, hn3⟩ := hp.at; clear hp; have HN3 := Lib.hid hn3; have hb3 : n3 ≤ 10 := (by have h9 := HBT3.out; omega); have U3 := Lib.hid (T2.out.keep HBC3.out); have hs3 := U3.out.below.size; clear hn3)
         | (at_builtin; refine wpList_append_by rfl (.tmp 167) (.tmp 172) rfl W.heap.size B2 q2 e2 ((F ++ ub rr) ++ ub m) rfl U3.out.two C3 n3 d3 (ub y0.off) rfl HN3.out HOC3.out.byAt (by omega) hs3 ?_; intro B3 e3 v3 ho hg hr; have T3 := Lib.hid (U3.out.app2 ho hg hr); clear ho hg hr))
        obtain ⟨q3, hq3⟩ : ∃ q, q = q2 + n3 := ⟨_, rfl⟩
        rw [← hq3] at T3 ⊢
        have hz3 : q3 ≤ 20150 := by omega
        clear U3 HOC3 HBC3 HN3 hq3 hs3 hz2 hb3 c37
        have c38 : v3.cell? ⟨gr, fr + r1 * 5, none⟩ = some (.int .u64 (yl.off : Int)) := HCL.out v3 T3.out.below
        go_upto_region 39 with (first
         | (go_at_call 17; (with_reducible refine (refU_any yl.off (by have := HYL.out; omega) v3).mono ?_); rintro e u4 hp; obtain ⟨C4, n4, d4, rfl, HOC4, HBC4, hn4⟩ := hp.at; clear hp; have HN4 := Lib.hid hn4; have hb4 : n4 ≤ 10 := (by have h9 := HBT4.out; omega); have U4 := Lib.hid (T3.out.keep HBC4.out); have hs4 := U4.out.below.size; clear hn4)
         | (at_builtin; refine wpList_append_by rfl (.tmp 174) (.tmp 182) rfl W.heap.size B3 q3 e3 (((F ++ ub rr) ++ ub m) ++ ub y0.off) rfl U4.out.two C4 n4 d4 (ub yl.off) rfl HN4.out HOC4.out.byAt (by omega) hs4 ?_; intro B4 e4 v4 ho hg hr; have T4 := Lib.hid (U4.out.app2 ho hg hr); clear ho hg hr))
        obtain ⟨q4, hq4⟩ : ∃ q, q = q3 + n4 := ⟨_, rfl⟩
        rw [← hq4] at T4 ⊢
        have hz4 : q4 ≤ 20200 := by omega
        clear U4 HOC4 HBC4 HN4 hq4 hs4 hz3 hb4 c38
        go_upto_region 40 with (first
         | (go_at_call 18; (with_reducible refine (refI_any CK.ta HTA v4).mono ?_); rintro e u5 hp; obtain ⟨C5, n5, d5, rfl, HOC5, HBC5, hn5⟩ := hp.at; clear hp; have HN5 := Lib.hid hn5; have hb5 : n5 ≤ 10 := (by have h9 := HBT5.out; omega); have U5 := Lib.hid (T4.out.keep HBC5.out); have hs5 := U5.out.below.size; clear hn5)
         | (at_builtin; refine wpList_append_by rfl (.tmp 184) (.tmp 186) rfl W.heap.size B4 q4 e4 ((((F ++ ub rr) ++ ub m) ++ ub y0.off) ++ ub yl.off) rfl U5.out.two C5 n5 d5 (ub (zz CK.ta)) rfl HN5.out HOC5.out.byAt (by omega) hs5 ?_; intro B5 e5 v5 ho hg hr; have T5 := Lib.hid (U5.out.app2 ho hg hr); clear ho hg hr))
        obtain ⟨q5, hq5⟩ : ∃ q, q = q4 + n5 := ⟨_, rfl⟩
        rw [← hq5] at T5 ⊢
        have hz5 : q5 ≤ 20250 := by omega
        clear U5 HOC5 HBC5 HN5 hq5 hs5 hz4 hb5
        go_upto_region 41 with (first
         | (go_at_call 18; (with_reducible refine (refI_any CK.tz HTZ v5).mono ?_); rintro e u6 hp; obtain ⟨C6, n6, d6, rfl, HOC6, HBC6, hn6⟩ := hp.at; clear hp; have HN6 := Lib.hid hn6; have hb6 : n6 ≤ 10 := (by have h9 := HBT6.out; omega); have U6 := Lib.hid (T5.out.keep HBC6.out); have hs6 := U6.out.below.size; clear hn6)
         | (at_builtin; refine wpList_append_by rfl (.tmp 188) (.tmp 190) rfl W.heap.size B5 q5 e5 (((((F ++ ub rr) ++ ub m) ++ ub y0.off) ++ ub yl.off) ++ ub (zz CK.ta)) rfl U6.out.two C6 n6 d6 (ub (zz CK.tz)) rfl HN6.out HOC6.out.byAt (by omega) hs6 ?_; intro B6 e6 v6 ho hg hr; have T6 := Lib.hid (U6.out.app2 ho hg hr); clear ho hg hr))
        obtain ⟨q6, hq6⟩ : ∃ q, q = q5 + n6 := ⟨_, rfl⟩
        rw [← hq6] at T6 ⊢
        have hz6 : q6 ≤ 20300 := by omega
        clear U6 HOC6 HBC6 HN6 hq6 hs6 hz5 hb6
        go_upto_region 42 with (first
         | (go_at_call 19; (with_reducible refine (HKA.out v6).mono ?_); rintro e u7 hp; obtain ⟨C7, n7, d7, rfl, HOC7, HBC7, hn7⟩ := hp.at; clear hp; have HN7 := Lib.hid hn7; have hb7 : n7 ≤ 42 := (by have h9 := HBX7.out; omega); have U7 := Lib.hid (T6.out.keep HBC7.out); have hs7 := U7.out.below.size; clear hn7)
         | (at_builtin; refine wpList_append_by rfl (.tmp 192) (.tmp 194) rfl W.heap.size B6 q6 e6 ((((((F ++ ub rr) ++ ub m) ++ ub y0.off) ++ ub yl.off) ++ ub (zz CK.ta)) ++ ub (zz CK.tz)) rfl U7.out.two C7 n7 d7 (txL (kbS CK.ka)) rfl HN7.out HOC7.out.byAt (by omega) hs7 ?_; intro B7 e7 v7 ho hg hr; have T7 := Lib.hid (U7.out.app2 ho hg hr); clear ho hg hr))
        obtain ⟨q7, hq7⟩ : ∃ q, q = q6 + n7 := ⟨_, rfl⟩
        rw [← hq7] at T7 ⊢
        have hz7 : q7 ≤ 20350 := by omega
        clear U7 HOC7 HBC7 HN7 hq7 hs7 hz6 hb7
        go_upto_region 43 with (first
         | (go_at_call 19; (with_reducible refine (HKZ.out v7).mono ?_); rintro e u8 hp; obtain ⟨C8, n8, d8, rfl, HOC8, HBC8, hn8⟩ := hp.at; clear hp; have HN8 := Lib.hid hn8; have hb8 : n8 ≤ 42 := (by have h9 := HBX8.out; omega); have U8 := Lib.hid (T7.out.keep HBC8.out); have hs8 := U8.out.below.size; clear hn8)
         | (at_builtin; refine wpList_append_by rfl (.tmp 196) (.tmp 198) rfl W.heap.size B7 q7 e7 (((((((F ++ ub rr) ++ ub m) ++ ub y0.off) ++ ub yl.off) ++ ub (zz CK.ta)) ++ ub (zz CK.tz)) ++ txL (kbS CK.ka)) rfl U8.out.two C8 n8 d8 (txL (kbS CK.kz)) rfl HN8.out HOC8.out.byAt (by omega) hs8 ?_; intro B8 e8 v8 ho hg hr; have T8 := Lib.hid (U8.out.app2 ho hg hr); clear ho hg hr))
        obtain ⟨q8, hq8⟩ : ∃ q, q = q7 + n8 := ⟨_, rfl⟩
        rw [← hq8] at T8 ⊢
        have hz8 : q8 ≤ 20400 := by omega
        clear U8 HOC8 HBC8 HN8 hq8 hs8 hz7 hb8
        go_wp2_with (first
         | (go_at_call 20; (with_reducible refine (refEvLay_any (some ⟨gr, fr, none⟩) rr C R HRL hr6 HFR v8 (Lib.hid (HER.out v8 T8.out.below))).mono ?_); rintro e u9 ⟨C9, n9, d9, rfl, hby, hnn, hb9⟩; have HBY9 := Lib.hid hby; have HN9 := Lib.hid hnn; have U9 := Lib.hid (T8.out.keep hb9); have hs9 := U9.out.below.size; have hl9 : n9 ≤ 9300 := (by have := HL9.out; omega); clear hby hnn hb9)
         | (at_builtin; refine wpList_append_by rfl (.tmp 200) (.tmp 202) rfl W.heap.size A m cap PG rfl U9.out.one C9 n9 d9 (Pg.lay 101 (evY R)) rfl HN9.out HBY9.out (by omega) hs9 ?_; intro A9 e9 v9 ho hg hr; have T9 := Lib.hid (U9.out.swap.app2 ho hg hr).swap; clear ho hg hr))
        go_roundw
        case rel =>
         have HNX : 64 * (k + 1) = b + 64 := by have := HBK.out; omega
         refine ⟨k + 1, A9, m + n9, e9, B8, q8, e8, by have := HBK.out; omega, rfl, rfl, by go_num, by first | (rw [HNX]; done) | (rw [HNX]; simp), ?_⟩
         obtain ⟨g1, g2, g3, g4⟩ := HEND.out
         have hcat := ckB_cat CK F
         rw [g1, g2, g3, g4, ← HRL.out] at hcat
         rw [HSN.out]
         show Duo W _ A9 (m + n9) e9 (PG ++ pgE R) B8 q8 e8 (cksB ((wrS l (chP k)).2 ++ [ckOf R m]))
         rw [cksB_add, ← HF.out, ← HCK.out, ← hcat]
         exact T9.out
        case measure => simp [intOf]; omega
    ·have HB9 := T0.out.below
     have hb := HBK.out
     have hke : k = segN l := by unfold segN; rw [← hn.out]; omega
     have HPE : Hid (PG = segPg l) := Lib.hid (by rw [HPG.out, hke]; rfl)
     have HFE : Hid (F = cksB (segCk l)) := Lib.hid (by rw [HF.out, hke]; rfl)
     have HKL : Hid (k = (segCk l).length) := Lib.hid (by rw [segCk_len, hke])
     have hpw : IntKind.u64.wrap (p : Int) = (p : Int) := by rw [IntKind.wrap_u64]; omega
     have hkw : IntKind.u64.wrap (k : Int) = (k : Int) := by rw [IntKind.wrap_u64]; omega
     have hli2 : ¬ (b : Int) < (n : Int) := by omega
     have HML : Hid (m = PG.length) := Lib.hid T0.out.one.len
     obtain ⟨m1, hm1⟩ : ∃ x, x = m / 256 := ⟨_, rfl⟩
     obtain ⟨m2, hm2⟩ : ∃ x, x = m / 65536 := ⟨_, rfl⟩
     obtain ⟨m3, hm3⟩ : ∃ x, x = m / 16777216 := ⟨_, rfl⟩
     obtain ⟨z0, hz0'⟩ : ∃ x, x = m % 256 := ⟨_, rfl⟩
     obtain ⟨z1, hz1⟩ : ∃ x, x = m / 256 % 256 := ⟨_, rfl⟩
     obtain ⟨z2, hz2⟩ : ∃ x, x = m / 65536 % 256 := ⟨_, rfl⟩
     obtain ⟨z3, hz3⟩ : ∃ x, x = m / 16777216 % 256 := ⟨_, rfl⟩
     have HF4 : Hid (Pg.four m = [z0, z1, z2, z3]) := Lib.hid (by rw [hz0', hz1, hz2, hz3]; rfl)
     have w0 : IntKind.u8.wrap (m : Int) = (z0 : Int) := by rw [IntKind.wrap_u8]; omega
     have t1 : (m : Int).tdiv 256 = (m1 : Int) := by rw [Int.tdiv_eq_ediv_of_nonneg (by omega)]; omega
     have t2 : (m : Int).tdiv 65536 = (m2 : Int) := by rw [Int.tdiv_eq_ediv_of_nonneg (by omega)]; omega
     have t3 : (m : Int).tdiv 16777216 = (m3 : Int) := by rw [Int.tdiv_eq_ediv_of_nonneg (by omega)]; omega
     have s1 : (m : Int) / 256 = (m1 : Int) := by omega
     have s2 : (m : Int) / 65536 = (m2 : Int) := by omega
     have s3 : (m : Int) / 16777216 = (m3 : Int) := by omega
     have i1 : IntKind.i64.wrap (m1 : Int) = (m1 : Int) := by rw [IntKind.wrap_i64]; omega
     have i2 : IntKind.i64.wrap (m2 : Int) = (m2 : Int) := by rw [IntKind.wrap_i64]; omega
     have i3 : IntKind.i64.wrap (m3 : Int) = (m3 : Int) := by rw [IntKind.wrap_i64]; omega
     have w1 : IntKind.u8.wrap (m1 : Int) = (z1 : Int) := by rw [IntKind.wrap_u8]; omega
     have w2 : IntKind.u8.wrap (m2 : Int) = (z2 : Int) := by rw [IntKind.wrap_u8]; omega
     have w3 : IntKind.u8.wrap (m3 : Int) = (z3 : Int) := by rw [IntKind.wrap_u8]; omega
     have HBp := Lib.hid (ub10 (show p < 18446744073709551616 by omega))
     have HBk := Lib.hid (ub10 (show k < 18446744073709551616 by omega))
     clear hb hke hm1 hm2 hm3 hz0' hz1 hz2 hz3 hlt hml
     go_upto_region 46 with (go_at_call 17; (with_reducible refine (refU_any p (by omega) v0).mono ?_); rintro e u1 hp; obtain ⟨C1, n1, d1, rfl, HOC1, HBC1, hn1⟩ := hp.at; clear hp; have P1 := Lib.hid (Duo.fresh T0.out.one T0.out.below HOC1.out HBC1.out); have Q1 := Lib.hid (Duo.fresh T0.out.two T0.out.below HOC1.out HBC1.out); have hb1 : n1 ≤ 10 := (by have := HBp.out; omega); clear hn1 HOC1 HBC1)
     go_upto_region 48 with (first
      | (go_at_call 17; (with_reducible refine (refU_any k (by omega) u1).mono ?_); rintro e u2 hp; obtain ⟨C2, n2, d2, rfl, HOC2, HBC2, hn2⟩ := hp.at; clear hp; have P1b := Lib.hid (P1.out.keep HBC2.out); have Q1b := Lib.hid (Q1.out.keep HBC2.out); have hs2 := P1b.out.below.size; have HN2 := Lib.hid hn2; have hb2 : n2 ≤ 10 := (by have := HBk.out; omega); clear hn2 HBC2)
      | (at_builtin; refine wpList_append_by rfl (.tmp 209) (.tmp 212) rfl W.heap.size C1 n1 d1 (ub p) rfl P1b.out.two C2 n2 d2 (ub k) rfl HN2.out HOC2.out.byAt (by omega) hs2 ?_; intro C3 d3 v2 ho hg hr; have P2 := Lib.hid (P1b.out.app2 ho hg hr); have Q2 := Lib.hid (Q1b.out.app2 ho hg hr); clear ho hg hr))
     obtain ⟨n3, hn3⟩ : ∃ n3, n3 = n1 + n2 := ⟨_, rfl⟩
     rw [← hn3] at P2 Q2 ⊢
     have hb3 : n3 ≤ 20 := by omega
     have HQL := Lib.hid Q2.out.one.len
     have hs3 := P2.out.below.size
     clear P1 Q1 P1b Q1b HN2 HOC2 hs2 hn3 hb1 hb2
     obtain ⟨n4, hn4⟩ : ∃ n4, n4 = n3 + q0 := ⟨_, rfl⟩
     have HN4 := Lib.hid hn4
     have hn4b : n4 ≤ 30000 := by omega
     clear hn4
     go_upto_region 49 with (first
      | (at_builtin; refine wpList_append_by rfl (.tmp 217) (.tmp 218) rfl W.heap.size C3 n3 d3 (ub p ++ ub k) rfl P2.out.two B0 q0 e0 F rfl HQL.out Q2.out.one.byAt (by omega) hs3 ?_; rw [← HN4.out]; intro C4 d4 v3 ho hg hr; have P3 := Lib.hid (P2.out.app2 ho hg hr); have HBY3 := Lib.hid ho.byAt; have HNL4 := Lib.hid ho.len; clear ho hg hr)
      | (go_at_call 21; have hly := refLay_any 102 C4 n4 d4 ((ub p ++ ub k) ++ F) v3 HNL4 (by omega) (by decide) HBY3; rw [show ((102 : Nat) : Int) = 102 from rfl] at hly; (with_reducible refine hly.mono ?_); clear hly; rintro e v4 ⟨A5, d5, rfl, ho5, hb5⟩; generalize hn5 : 4 + 1 + n4 + 4 = n5 at ho5 ⊢; have hn5b : n5 ≤ 40000 := (by omega); clear hn5; have P4 := Lib.hid (P3.out.keep hb5); have HO5 := Lib.hid ho5; have hs5 := P4.out.below.size; clear ho5 hb5)
      | (at_builtin; refine wpList_append_by rfl (.tmp 216) (.tmp 220) rfl W.heap.size A m cap PG rfl P4.out.one A5 n5 d5 (Pg.lay 102 ((ub p ++ ub k) ++ F)) rfl HO5.out.len HO5.out.byAt (by omega) hs5 ?_; intro A6 d6 v5 ho hg hr; have P5 := Lib.hid (P4.out.swap.app2 ho hg hr); clear ho hg hr))
     have hs6 := P5.out.below.size
     have HW6 : Hid (Below W.heap.size W (v5.alloc (.cells #[.int .u8 (z0 : Int), .int .u8 (z1 : Int), .int .u8 (z2 : Int), .int .u8 (z3 : Int)] 5))) := Lib.hid (P5.out.below.alloc hs6 _)
     have HO6 : Hid (OwnS (v5.alloc (.cells #[.int .u8 (z0 : Int), .int .u8 (z1 : Int), .int .u8 (z2 : Int), .int .u8 (z3 : Int)] 5)) W.heap.size A6 (m + n5) d6 (PG ++ Pg.lay 102 ((ub p ++ ub k) ++ F))) := Lib.hid (P5.out.two.keep ((Below.refl _ _).alloc (Nat.le_refl _) _))
     have HY6 : Hid (ByAt (v5.alloc (.cells #[.int .u8 (z0 : Int), .int .u8 (z1 : Int), .int .u8 (z2 : Int), .int .u8 (z3 : Int)] 5)) (some ⟨v5.heap.size, 0, none⟩) (Pg.four m)) := Lib.hid (by
      have hl := Pg.four_lt m
      rw [HF4.out] at hl ⊢
      exact ByAt.of_row _ hl (heap_alloc_new' _ _) ⟨[], rfl⟩)
     obtain ⟨n6, hn6⟩ : ∃ n6, n6 = m + n5 := ⟨_, rfl⟩
     rw [← hn6] at HO6 ⊢
     have hb6 : n6 ≤ 100000 := by omega
     clear hn6 P2 Q2 P3 P4 P5 HO5 HBY3
     go_wp2_with (first
      | (go_at_call 21; have hly := refLay_any 116 (some ⟨v5.heap.size, 0, none⟩) 4 4 (Pg.four m) _ (Lib.hid rfl) (by omega) (by decide) HY6; rw [show ((116 : Nat) : Int) = 116 from rfl] at hly; (with_reducible refine hly.mono ?_); clear hly; rintro e v7 ⟨A7, d7, rfl, ho7, hb7⟩; have HO7 := Lib.hid ho7; have HP7 := Lib.hid (HO6.out.keep hb7); have HW7 := Lib.hid (below_to HW6.out hb7); have hs7 := HW7.out.size; clear ho7 hb7)
      | (at_builtin; refine wpList_append_by rfl (.tmp 222) (.tmp 235) rfl W.heap.size A6 n6 d6 (PG ++ Pg.lay 102 ((ub p ++ ub k) ++ F)) rfl HP7.out A7 13 d7 (Pg.lay 116 (Pg.four m)) rfl HO7.out.len HO7.out.byAt (by omega) hs7 ?_; intro A8 d8 v8 ho hg hr; have HO8 := Lib.hid ho; have HW8 := Lib.hid (HW7.out.grown hg hs7 HP7.out.base); clear ho hg hr))
     refine bodyPost_ret (results_tmp2S rfl _ _ _) rfl ⟨A8, _, d8, rfl, ?_, HW8.out⟩
     have h := HO8.out
     rw [HFE.out, HKL.out, footB_cat, HPE.out] at h
     unfold segB
     rw [show m = (segPg l).length by rw [HML.out, HPE.out]] at h
     exact h
end Go.Proofs.YtifabkbdiiolfaaDoor
