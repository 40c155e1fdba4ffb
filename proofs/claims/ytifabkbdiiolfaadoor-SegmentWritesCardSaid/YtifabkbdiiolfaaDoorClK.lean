/-
  Layer column: the least and the greatest, how many bits, numbers packed.
-/
import Derived.Lib.Tables
import Derived.Laws.MathBits
import Derived.Outline
import Derived.OwnWalk
import Derived.Test.YtifabkbdiiolfaaDoorCkK
set_option linter.unusedSimpArgs false
set_option linter.unusedVariables false
set_option maxRecDepth 8000
namespace Go.Proofs.YtifabkbdiiolfaaDoor
open Go.RowKit Go.WideShapes Col
theorem ret_eqC {v v' : Value} (h : v = v') : Ending.returned v = Ending.returned v' := by rw [h]
theorem len_byteC (y : Nat) (_hy : y < 256) (p : y < Lib.len8tab.size) : ((Lib.len8tab[y]'p).toNat : Int) = (bitLen y : Nat) := by
 have h := len8tab_get y (by exact p)
 exact congrArg Int.ofNat h
theorem len_atC (x y : Int) (k : Nat) (K : Int) (hK : K = (k : Nat)) (hk : k ≤ 56) (h0 : 0 ≤ y) (h1 : y < 256) (e : y.toNat = x.toNat / 2 ^ k) (hy : y ≠ 0) (p : y.toNat < Lib.len8tab.size) :
  wrap64 (K + wrap64 ((Lib.len8tab[y.toNat]'p).toNat : Int)) = (bitLen x.toNat : Nat) := by
 rw [len_byteC _ (by omega) p]
 have h8 := bitLen_le8 y.toNat (by omega)
 have hs := bitLen_shift x.toNat k (by rw [← e]; omega)
 rw [← e] at hs
 unfold wrap64
 omega
theorem len_lowC (x : Int) (h0 : 0 ≤ x) (h1 : x < 256) (p : x.toNat < Lib.len8tab.size) : wrap64 (wrap64 ((Lib.len8tab[x.toNat]'p).toNat : Int)) = (bitLen x.toNat : Nat) := by
 rw [len_byteC _ (by omega) p]
 have h8 := bitLen_le8 x.toNat (by omega)
 unfold wrap64
 omega
set_option maxHeartbeats 1000000 in
set_option maxRecDepth 100000 in
theorem lenC_int (x : Int) (h0 : 0 ≤ x) (h1 : x ≤ 18446744073709551615) (w : World) :
  Calls Tryd.prog 79 #[.int .u64 x] w fun e w' => e = .returned (.int .i64 (bitLen x.toNat : Nat)) ∧ w = w' := by
 have hsz := Lib.len8tab_size
 go_enter Tryd.func79, Tryd.ntmps79
 go_wp2
 all_goals (go_ret; refine ⟨ret_eqC (congrArg (Value.int IntKind.i64) ?_), rfl⟩)
 ·exact len_atC x _ 56 56 rfl (by omega) (by omega) (by omega) (by show _ = x.toNat / 72057594037927936; omega) (by omega) _
 ·exact len_atC x _ 48 48 rfl (by omega) (by omega) (by omega) (by show _ = x.toNat / 281474976710656; omega) (by omega) _
 ·exact len_atC x _ 40 40 rfl (by omega) (by omega) (by omega) (by show _ = x.toNat / 1099511627776; omega) (by omega) _
 ·exact len_atC x _ 32 32 rfl (by omega) (by omega) (by omega) (by show _ = x.toNat / 4294967296; omega) (by omega) _
 ·exact len_atC x _ 24 24 rfl (by omega) (by omega) (by omega) (by show _ = x.toNat / 16777216; omega) (by omega) _
 ·exact len_atC x _ 16 16 rfl (by omega) (by omega) (by omega) (by show _ = x.toNat / 65536; omega) (by omega) _
 ·exact len_atC x _ 8 8 rfl (by omega) (by omega) (by omega) (by show _ = x.toNat / 256; omega) (by omega) _
 ·have h := len_lowC x (by omega) (by omega) (by rw [hsz]; omega)
  exact h
theorem lenC_any (x : Nat) (hx : x < 18446744073709551616) (w : World) :
  Calls Tryd.prog 79 #[.int .u64 x] w fun e w' => e = .returned (.int .i64 (bitLen x : Nat)) ∧ w = w' := by
 have h := lenC_int (x : Int) (by omega) (by omega) w
 rwa [Int.toNat_natCast] at h
namespace Col
def mnL (l : List Int) : Int := l.foldl min (l.headD 0)
def mxL (l : List Int) : Int := l.foldl max (l.headD 0)
theorem fmin_le : ∀ (l : List Int) (a : Int), l.foldl min a ≤ a ∧ ∀ x ∈ l, l.foldl min a ≤ x
 | [], a => ⟨Int.le_refl _, fun x h => by cases h⟩
 | y :: l, a => by
  obtain ⟨h1, h2⟩ := fmin_le l (min a y)
  refine ⟨by rw [List.foldl_cons]; omega, fun x hx => ?_⟩
  rw [List.foldl_cons]
  rcases List.mem_cons.1 hx with rfl | hx
  ·omega
  ·exact h2 x hx
theorem fmax_ge : ∀ (l : List Int) (a : Int), a ≤ l.foldl max a ∧ ∀ x ∈ l, x ≤ l.foldl max a
 | [], a => ⟨Int.le_refl _, fun x h => by cases h⟩
 | y :: l, a => by
  obtain ⟨h1, h2⟩ := fmax_ge l (max a y)
  refine ⟨by rw [List.foldl_cons]; omega, fun x hx => ?_⟩
  rw [List.foldl_cons]
  rcases List.mem_cons.1 hx with rfl | hx
  ·omega
  ·exact h2 x hx
theorem fmin_wf : ∀ (l : List Int) (a : Int), Wf64 a → (∀ x ∈ l, Wf64 x) → Wf64 (l.foldl min a)
 | [], a, h, _ => h
 | y :: l, a, h, hl => by
  rw [List.foldl_cons]
  refine fmin_wf l _ ?_ fun x hx => hl x (List.mem_cons_of_mem _ hx)
  have := hl y (List.mem_cons_self ..)
  unfold Wf64 at *; omega
theorem fmax_wf : ∀ (l : List Int) (a : Int), Wf64 a → (∀ x ∈ l, Wf64 x) → Wf64 (l.foldl max a)
 | [], a, h, _ => h
 | y :: l, a, h, hl => by
  rw [List.foldl_cons]
  refine fmax_wf l _ ?_ fun x hx => hl x (List.mem_cons_of_mem _ hx)
  have := hl y (List.mem_cons_self ..)
  unfold Wf64 at *; omega
theorem head_wf {l : List Int} (h : ∀ x ∈ l, Wf64 x) : Wf64 (l.headD 0) := by
 cases l with
 | nil => exact ⟨by simp, by simp⟩
 | cons x l => exact h x (List.mem_cons_self ..)
theorem mnL_wf {l : List Int} (h : ∀ x ∈ l, Wf64 x) : Wf64 (mnL l) := fmin_wf l _ (head_wf h) h
theorem mxL_wf {l : List Int} (h : ∀ x ∈ l, Wf64 x) : Wf64 (mxL l) := fmax_wf l _ (head_wf h) h
theorem fold_snoc (f : Int → Int → Int) (a : Int) (l : List Int) (k : Nat) (x : Int) (h : l[k]? = some x) : (l.take (k + 1)).foldl f a = f ((l.take k).foldl f a) x := by
 rw [List.take_add_one, h]; simp
theorem head_get {l : List Int} {x : Int} (h : l[0]? = some x) : l.headD 0 = x := by
 cases l with
 | nil => simp at h
 | cons y l => simpa using h
end Col
def MR (w : World) (l : List Int) (f : Int → Int → Int) (p q : Value) (wr : World) : Prop := ∃ (k : Nat), 1 ≤ k ∧ k ≤ l.length ∧ q = .int .i64 (k : Int) ∧ p = .int .i64 ((l.take k).foldl f (l.headD 0)) ∧ w = wr
set_option maxHeartbeats 1000000 in
theorem minI_any (b : Option Addr) (m c : Nat) (l : List Int) (hm : Hid (m = l.length)) (h0 : 0 < m) (hmc : m ≤ 1000000) (w : World) (HL : Hid (IsAt w b l)) :
  Calls Tryd.prog 78 #[.slice b m c] w fun e w' => e = .returned (.int .i64 (mnL l)) ∧ w = w' := by
 obtain ⟨x, hx⟩ : ∃ x, l[0]? = some x := ⟨l[0]'(by have := hm.out; omega), List.getElem?_eq_getElem _⟩
 obtain ⟨hwf, g, off, rfl, hc⟩ := int_cell HL.out 0 x hx
 rw [Nat.add_zero] at hc
 have HX := Lib.hid hx
 have HH := Lib.hid (head_get hx)
 clear hx hwf
 go_enter Tryd.func78, Tryd.ntmps78
 go_wp2
 go_loopw [3, 4] (fun p q wr => MR w l min p q wr) (fun _ q _ => m - (intOf q).toNat)
 case atStart => exact ⟨1, Nat.le_refl _, by have := hm.out; omega, rfl, by rw [fold_snoc min _ l 0 x HX.out, HH.out]; simp, rfl⟩
 case round =>
  obtain ⟨k, hk1, hkl, rfl, rfl, rfl⟩ := hrel
  have HK : Hid (k ≤ l.length) := Lib.hid hkl
  have hkm : k ≤ m := by have := hm.out; omega
  have HA : Hid (mnL l = (l.take m).foldl min (l.headD 0)) := Lib.hid (by rw [List.take_of_length_le (by have := hm.out; omega)]; rfl)
  by_cases hlt : k < m
  ·obtain ⟨y, hy⟩ : ∃ y, l[k]? = some y := ⟨l[k]'(by have := hm.out; omega), List.getElem?_eq_getElem _⟩
   have hcy : w.cell? ⟨g, off + k, none⟩ = some (.int .i64 y) := by
    obtain ⟨-, g', off', e, hcy⟩ := int_cell HL.out k y hy
    injection e with e; injection e with e1 e2; subst e1; subst e2
    exact hcy
   have HS := Lib.hid (fold_snoc min (l.headD 0) l k y hy)
   obtain ⟨z, hz⟩ : ∃ z, z = (l.take k).foldl min (l.headD 0) := ⟨_, rfl⟩
   rw [← hz] at HS ⊢
   clear hz hy hkl
   go_wp2
   go_roundw
   case rel => exact ⟨k + 1, by omega, by have := hm.out; omega, by go_num, by (first | (rw [HS.out]; done) | (rw [HS.out]; congr 1; split <;> omega)), rfl⟩
   case measure => simp [intOf]; omega
  ·obtain rfl : k = m := by omega
   clear hkl
   obtain ⟨z, hz⟩ : ∃ z, z = (l.take k).foldl min (l.headD 0) := ⟨_, rfl⟩
   rw [← hz] at HA ⊢
   clear hz
   go_wp2
   go_ret
   exact ⟨by rw [HA.out]; rfl, rfl⟩
set_option maxHeartbeats 1000000 in
theorem maxI_any (b : Option Addr) (m c : Nat) (l : List Int) (hm : Hid (m = l.length)) (h0 : 0 < m) (hmc : m ≤ 1000000) (w : World) (HL : Hid (IsAt w b l)) :
  Calls Tryd.prog 80 #[.slice b m c] w fun e w' => e = .returned (.int .i64 (mxL l)) ∧ w = w' := by
 obtain ⟨x, hx⟩ : ∃ x, l[0]? = some x := ⟨l[0]'(by have := hm.out; omega), List.getElem?_eq_getElem _⟩
 obtain ⟨hwf, g, off, rfl, hc⟩ := int_cell HL.out 0 x hx
 rw [Nat.add_zero] at hc
 have HX := Lib.hid hx
 have HH := Lib.hid (head_get hx)
 clear hx hwf
 go_enter Tryd.func80, Tryd.ntmps80
 go_wp2
 go_loopw [3, 4] (fun p q wr => MR w l max p q wr) (fun _ q _ => m - (intOf q).toNat)
 case atStart => exact ⟨1, Nat.le_refl _, by have := hm.out; omega, rfl, by rw [fold_snoc max _ l 0 x HX.out, HH.out]; simp, rfl⟩
 case round =>
  obtain ⟨k, hk1, hkl, rfl, rfl, rfl⟩ := hrel
  have HK : Hid (k ≤ l.length) := Lib.hid hkl
  have hkm : k ≤ m := by have := hm.out; omega
  have HA : Hid (mxL l = (l.take m).foldl max (l.headD 0)) := Lib.hid (by rw [List.take_of_length_le (by have := hm.out; omega)]; rfl)
  by_cases hlt : k < m
  ·obtain ⟨y, hy⟩ : ∃ y, l[k]? = some y := ⟨l[k]'(by have := hm.out; omega), List.getElem?_eq_getElem _⟩
   have hcy : w.cell? ⟨g, off + k, none⟩ = some (.int .i64 y) := by
    obtain ⟨-, g', off', e, hcy⟩ := int_cell HL.out k y hy
    injection e with e; injection e with e1 e2; subst e1; subst e2
    exact hcy
   have HS := Lib.hid (fold_snoc max (l.headD 0) l k y hy)
   obtain ⟨z, hz⟩ : ∃ z, z = (l.take k).foldl max (l.headD 0) := ⟨_, rfl⟩
   rw [← hz] at HS ⊢
   clear hz hy hkl
   go_wp2
   go_roundw
   case rel => exact ⟨k + 1, by omega, by have := hm.out; omega, by go_num, by (first | (rw [HS.out]; done) | (rw [HS.out]; congr 1; split <;> omega)), rfl⟩
   case measure => simp [intOf]; omega
  ·obtain rfl : k = m := by omega
   clear hkl
   obtain ⟨z, hz⟩ : ∃ z, z = (l.take k).foldl max (l.headD 0) := ⟨_, rfl⟩
   rw [← hz] at HA ⊢
   clear hz
   go_wp2
   go_ret
   exact ⟨by rw [HA.out]; rfl, rfl⟩
set_option maxHeartbeats 1000000 in
theorem byteCount_any (n : Nat) (hn : n < 1099511627776) (w : World) : Calls Tryd.prog 81 #[.int .i64 (n : Int)] w fun e w' => e = .returned (.int .i64 (((n + 7) / 8 : Nat) : Int)) ∧ w = w' := by
 obtain ⟨q, hq⟩ : ∃ q : Nat, q = (n + 7) / 8 := ⟨_, rfl⟩
 have hq2 : ((n : Int) + 7).tdiv 8 = (q : Int) := by rw [Int.tdiv_eq_ediv_of_nonneg (by omega)]; omega
 have hq3 : ((n : Int) + 7) / 8 = (q : Int) := by omega
 rw [← hq]
 have HQ := Lib.hid hq
 clear hq
 go_enter Tryd.func81, Tryd.ntmps81
 go_wp2
 go_ret
 exact ⟨rfl, rfl⟩
end Go.Proofs.YtifabkbdiiolfaaDoor
