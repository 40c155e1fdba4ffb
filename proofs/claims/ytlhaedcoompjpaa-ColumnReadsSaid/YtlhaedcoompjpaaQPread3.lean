/-
  Layer column: the least and the greatest, how many bits, numbers packed.
-/
import Derived.Lib.Tables
import Derived.Laws.MathBits
import Derived.Outline
import Derived.OwnWalk
import Derived.Test.YtlhaedcoompjpaaQPread2
import Derived.Test.YtlhaedcoompjpaaQPread1
set_option linter.unusedSimpArgs false
set_option linter.unusedVariables false
set_option maxRecDepth 8000
namespace Go.Proofs.Ytlhaedcoompjpaa
open Go.RowKit Go.WideShapes Col

theorem ret_eqC {v v' : Value} (h : v = v') : Ending.returned v = Ending.returned v' := by rw [h]
theorem len_byteC (y : Nat) (_hy : y < 256) (p : y < Lib.len8tab.size) : ((Lib.len8tab[y]'p).toNat : Int) = (bitLen y : Nat) := by
  have h := len8tab_get y (by exact p)
  exact congrArg Int.ofNat h
theorem len_atC (x y : Int) (k : Nat) (K : Int) (hK : K = (k : Nat)) (hk : k ≤ 56) (h0 : 0 ≤ y) (h1 : y < 256) (e : y.toNat = x.toNat / 2 ^ k) (hy : y ≠ 0) (p : y.toNat < Lib.len8tab.size) :
    wrap64 (K + wrap64 ((Lib.len8tab[y.toNat]'p).toNat : Int)) = (bitLen x.toNat : Nat) := by
  rw [len_byteC _ (by omega) p]
  have h8 := bitLen_le8 y.toNat (by omega)
  have hs := bitLen_shift x.toNat k (by rw [← e]; omega)
  rw [← e] at hs
  unfold wrap64
  omega
theorem len_lowC (x : Int) (h0 : 0 ≤ x) (h1 : x < 256) (p : x.toNat < Lib.len8tab.size) : wrap64 (wrap64 ((Lib.len8tab[x.toNat]'p).toNat : Int)) = (bitLen x.toNat : Nat) := by
  rw [len_byteC _ (by omega) p]
  have h8 := bitLen_le8 x.toNat (by omega)
  unfold wrap64
  omega
set_option maxHeartbeats 1000000 in
set_option maxRecDepth 100000 in
theorem lenC_int (x : Int) (h0 : 0 ≤ x) (h1 : x ≤ 18446744073709551615) (w : World) :
    Calls Try.prog 70 #[.int .u64 x] w fun e w' => e = .returned (.int .i64 (bitLen x.toNat : Nat)) ∧ w = w' := by
  have hsz := Lib.len8tab_size
  go_enter Try.func70, Try.ntmps70
  go_wp2
  all_goals (go_ret; refine ⟨ret_eqC (congrArg (Value.int IntKind.i64) ?_), rfl⟩)
  · exact len_atC x _ 56 56 rfl (by omega) (by omega) (by omega) (by show _ = x.toNat / 72057594037927936; omega) (by omega) _
  · exact len_atC x _ 48 48 rfl (by omega) (by omega) (by omega) (by show _ = x.toNat / 281474976710656; omega) (by omega) _
  · exact len_atC x _ 40 40 rfl (by omega) (by omega) (by omega) (by show _ = x.toNat / 1099511627776; omega) (by omega) _
  · exact len_atC x _ 32 32 rfl (by omega) (by omega) (by omega) (by show _ = x.toNat / 4294967296; omega) (by omega) _
  · exact len_atC x _ 24 24 rfl (by omega) (by omega) (by omega) (by show _ = x.toNat / 16777216; omega) (by omega) _
  · exact len_atC x _ 16 16 rfl (by omega) (by omega) (by omega) (by show _ = x.toNat / 65536; omega) (by omega) _
  · exact len_atC x _ 8 8 rfl (by omega) (by omega) (by omega) (by show _ = x.toNat / 256; omega) (by omega) _
  · have h := len_lowC x (by omega) (by omega) (by rw [hsz]; omega)
    exact h

theorem lenC_any (x : Nat) (hx : x < 18446744073709551616) (w : World) :
    Calls Try.prog 70 #[.int .u64 x] w fun e w' => e = .returned (.int .i64 (bitLen x : Nat)) ∧ w = w' := by
  have h := lenC_int (x : Int) (by omega) (by omega) w
  rwa [Int.toNat_natCast] at h

namespace Col
def mnL (l : List Int) : Int := l.foldl min (l.headD 0)
def mxL (l : List Int) : Int := l.foldl max (l.headD 0)
theorem fmin_le : ∀ (l : List Int) (a : Int), l.foldl min a ≤ a ∧ ∀ x ∈ l, l.foldl min a ≤ x
  | [], a => ⟨Int.le_refl _, fun x h => by cases h⟩
  | y :: l, a => by
    obtain ⟨h1, h2⟩ := fmin_le l (min a y)
    refine ⟨by rw [List.foldl_cons]; omega, fun x hx => ?_⟩
    rw [List.foldl_cons]
    rcases List.mem_cons.1 hx with rfl | hx
    · omega
    · exact h2 x hx
theorem fmax_ge : ∀ (l : List Int) (a : Int), a ≤ l.foldl max a ∧ ∀ x ∈ l, x ≤ l.foldl max a
  | [], a => ⟨Int.le_refl _, fun x h => by cases h⟩
  | y :: l, a => by
    obtain ⟨h1, h2⟩ := fmax_ge l (max a y)
    refine ⟨by rw [List.foldl_cons]; omega, fun x hx => ?_⟩
    rw [List.foldl_cons]
    rcases List.mem_cons.1 hx with rfl | hx
    · omega
    · exact h2 x hx
theorem fmin_wf : ∀ (l : List Int) (a : Int), Wf64 a → (∀ x ∈ l, Wf64 x) → Wf64 (l.foldl min a)
  | [], a, h, _ => h
  | y :: l, a, h, hl => by
    rw [List.foldl_cons]
    refine fmin_wf l _ ?_ fun x hx => hl x (List.mem_cons_of_mem _ hx)
    have := hl y (List.mem_cons_self ..)
    unfold Wf64 at *; omega
theorem fmax_wf : ∀ (l : List Int) (a : Int), Wf64 a → (∀ x ∈ l, Wf64 x) → Wf64 (l.foldl max a)
  | [], a, h, _ => h
  | y :: l, a, h, hl => by
    rw [List.foldl_cons]
    refine fmax_wf l _ ?_ fun x hx => hl x (List.mem_cons_of_mem _ hx)
    have := hl y (List.mem_cons_self ..)
    unfold Wf64 at *; omega
theorem head_wf {l : List Int} (h : ∀ x ∈ l, Wf64 x) : Wf64 (l.headD 0) := by
  cases l with
  | nil => exact ⟨by simp, by simp⟩
  | cons x l => exact h x (List.mem_cons_self ..)
theorem mnL_wf {l : List Int} (h : ∀ x ∈ l, Wf64 x) : Wf64 (mnL l) := fmin_wf l _ (head_wf h) h
theorem mxL_wf {l : List Int} (h : ∀ x ∈ l, Wf64 x) : Wf64 (mxL l) := fmax_wf l _ (head_wf h) h
theorem fold_snoc (f : Int → Int → Int) (a : Int) (l : List Int) (k : Nat) (x : Int) (h : l[k]? = some x) : (l.take (k + 1)).foldl f a = f ((l.take k).foldl f a) x := by
  rw [List.take_add_one, h]; simp
theorem head_get {l : List Int} {x : Int} (h : l[0]? = some x) : l.headD 0 = x := by
  cases l with
  | nil => simp at h
  | cons y l => simpa using h
end Col

def MR (w : World) (l : List Int) (f : Int → Int → Int) (p q : Value) (wr : World) : Prop := ∃ (k : Nat), 1 ≤ k ∧ k ≤ l.length ∧ q = .int .i64 (k : Int) ∧ p = .int .i64 ((l.take k).foldl f (l.headD 0)) ∧ w = wr
set_option maxHeartbeats 1000000 in
theorem minI_any (b : Option Addr) (m c : Nat) (l : List Int) (hm : Hid (m = l.length)) (h0 : 0 < m) (hmc : m ≤ 1000000) (w : World) (HL : Hid (IsAt w b l)) :
    Calls Try.prog 69 #[.slice b m c] w fun e w' => e = .returned (.int .i64 (mnL l)) ∧ w = w' := by
  obtain ⟨x, hx⟩ : ∃ x, l[0]? = some x := ⟨l[0]'(by have := hm.out; omega), List.getElem?_eq_getElem _⟩
  obtain ⟨hwf, g, off, rfl, hc⟩ := int_cell HL.out 0 x hx
  rw [Nat.add_zero] at hc
  have HX := Lib.hid hx
  have HH := Lib.hid (head_get hx)
  clear hx hwf
  go_enter Try.func69, Try.ntmps69
  go_wp2
  go_loopw [3, 4] (fun p q wr => MR w l min p q wr) (fun _ q _ => m - (intOf q).toNat)
  case atStart => exact ⟨1, Nat.le_refl _, by have := hm.out; omega, rfl, by rw [fold_snoc min _ l 0 x HX.out, HH.out]; simp, rfl⟩
  case round =>
    obtain ⟨k, hk1, hkl, rfl, rfl, rfl⟩ := hrel
    have HK : Hid (k ≤ l.length) := Lib.hid hkl
    have hkm : k ≤ m := by have := hm.out; omega
    have HA : Hid (mnL l = (l.take m).foldl min (l.headD 0)) := Lib.hid (by rw [List.take_of_length_le (by have := hm.out; omega)]; rfl)
    by_cases hlt : k < m
    · obtain ⟨y, hy⟩ : ∃ y, l[k]? = some y := ⟨l[k]'(by have := hm.out; omega), List.getElem?_eq_getElem _⟩
      have hcy : w.cell? ⟨g, off + k, none⟩ = some (.int .i64 y) := by
        obtain ⟨-, g', off', e, hcy⟩ := int_cell HL.out k y hy
        injection e with e; injection e with e1 e2; subst e1; subst e2
        exact hcy
      have HS := Lib.hid (fold_snoc min (l.headD 0) l k y hy)
      obtain ⟨z, hz⟩ : ∃ z, z = (l.take k).foldl min (l.headD 0) := ⟨_, rfl⟩
      rw [← hz] at HS ⊢
      clear hz hy hkl
      go_wp2
      go_roundw
      case rel => exact ⟨k + 1, by omega, by have := hm.out; omega, by go_num, by rw [HS.out]; congr 1; split <;> omega, rfl⟩
      case measure => simp [intOf]; omega
    · obtain rfl : k = m := by omega
      clear hkl
      obtain ⟨z, hz⟩ : ∃ z, z = (l.take k).foldl min (l.headD 0) := ⟨_, rfl⟩
      rw [← hz] at HA ⊢
      clear hz
      go_wp2
      go_ret
      exact ⟨by rw [HA.out]; rfl, rfl⟩

set_option maxHeartbeats 1000000 in
theorem maxI_any (b : Option Addr) (m c : Nat) (l : List Int) (hm : Hid (m = l.length)) (h0 : 0 < m) (hmc : m ≤ 1000000) (w : World) (HL : Hid (IsAt w b l)) :
    Calls Try.prog 71 #[.slice b m c] w fun e w' => e = .returned (.int .i64 (mxL l)) ∧ w = w' := by
  obtain ⟨x, hx⟩ : ∃ x, l[0]? = some x := ⟨l[0]'(by have := hm.out; omega), List.getElem?_eq_getElem _⟩
  obtain ⟨hwf, g, off, rfl, hc⟩ := int_cell HL.out 0 x hx
  rw [Nat.add_zero] at hc
  have HX := Lib.hid hx
  have HH := Lib.hid (head_get hx)
  clear hx hwf
  go_enter Try.func71, Try.ntmps71
  go_wp2
  go_loopw [3, 4] (fun p q wr => MR w l max p q wr) (fun _ q _ => m - (intOf q).toNat)
  case atStart => exact ⟨1, Nat.le_refl _, by have := hm.out; omega, rfl, by rw [fold_snoc max _ l 0 x HX.out, HH.out]; simp, rfl⟩
  case round =>
    obtain ⟨k, hk1, hkl, rfl, rfl, rfl⟩ := hrel
    have HK : Hid (k ≤ l.length) := Lib.hid hkl
    have hkm : k ≤ m := by have := hm.out; omega
    have HA : Hid (mxL l = (l.take m).foldl max (l.headD 0)) := Lib.hid (by rw [List.take_of_length_le (by have := hm.out; omega)]; rfl)
    by_cases hlt : k < m
    · obtain ⟨y, hy⟩ : ∃ y, l[k]? = some y := ⟨l[k]'(by have := hm.out; omega), List.getElem?_eq_getElem _⟩
      have hcy : w.cell? ⟨g, off + k, none⟩ = some (.int .i64 y) := by
        obtain ⟨-, g', off', e, hcy⟩ := int_cell HL.out k y hy
        injection e with e; injection e with e1 e2; subst e1; subst e2
        exact hcy
      have HS := Lib.hid (fold_snoc max (l.headD 0) l k y hy)
      obtain ⟨z, hz⟩ : ∃ z, z = (l.take k).foldl max (l.headD 0) := ⟨_, rfl⟩
      rw [← hz] at HS ⊢
      clear hz hy hkl
      go_wp2
      go_roundw
      case rel => exact ⟨k + 1, by omega, by have := hm.out; omega, by go_num, by rw [HS.out]; congr 1; split <;> omega, rfl⟩
      case measure => simp [intOf]; omega
    · obtain rfl : k = m := by omega
      clear hkl
      obtain ⟨z, hz⟩ : ∃ z, z = (l.take k).foldl max (l.headD 0) := ⟨_, rfl⟩
      rw [← hz] at HA ⊢
      clear hz
      go_wp2
      go_ret
      exact ⟨by rw [HA.out]; rfl, rfl⟩

set_option maxHeartbeats 1000000 in
theorem byteCount_any (n : Nat) (hn : n < 1099511627776) (w : World) : Calls Try.prog 72 #[.int .i64 (n : Int)] w fun e w' => e = .returned (.int .i64 (((n + 7) / 8 : Nat) : Int)) ∧ w = w' := by
  obtain ⟨q, hq⟩ : ∃ q : Nat, q = (n + 7) / 8 := ⟨_, rfl⟩
  have hq2 : ((n : Int) + 7).tdiv 8 = (q : Int) := by rw [Int.tdiv_eq_ediv_of_nonneg (by omega)]; omega
  have hq3 : ((n : Int) + 7) / 8 = (q : Int) := by omega
  rw [← hq]
  have HQ := Lib.hid hq
  clear hq
  go_enter Try.func72, Try.ntmps72
  go_wp2
  go_ret
  exact ⟨rfl, rfl⟩
end Go.Proofs.Ytlhaedcoompjpaa

set_option linter.unusedSimpArgs false
set_option linter.unusedVariables false
set_option maxRecDepth 8000
namespace Go.Proofs.Ytlhaedcoompjpaa
open Go.RowKit Go.WideShapes Col
namespace Col
/-- Digits, the lowest first. -/
def pk (W : Nat) : List Nat → Nat
  | [] => 0
  | d :: r => d + 2 ^ W * pk W r
theorem pk_app (W : Nat) : ∀ (l m : List Nat), pk W (l ++ m) = pk W l + 2 ^ (W * l.length) * pk W m
  | [], m => by simp [pk]
  | d :: l, m => by
    have ih := pk_app W l m
    have e : 2 ^ (W * (l.length + 1)) = 2 ^ W * 2 ^ (W * l.length) := by rw [Nat.mul_add, Nat.mul_one, Nat.add_comm, Nat.pow_add]
    rw [List.cons_append, pk, pk, ih, List.length_cons, e, Nat.mul_add, Nat.mul_assoc, Nat.add_assoc]
theorem pk_snoc (W : Nat) (l : List Nat) (k d : Nat) (h : l[k]? = some d) : pk W (l.take (k + 1)) = pk W (l.take k) + d * 2 ^ (k * W) := by
  have hk := (List.getElem?_eq_some_iff.1 h).1
  rw [List.take_add_one, h, pk_app, List.length_take, Nat.min_eq_left (by omega)]
  simp [pk, Nat.mul_comm]
theorem pk_lt (W : Nat) : ∀ (l : List Nat), (∀ d ∈ l, d < 2 ^ W) → pk W l < 2 ^ (W * l.length)
  | [], _ => by simp [pk]
  | d :: l, h => by
    have h1 := h d (List.mem_cons_self ..)
    have h2 := pk_lt W l fun x hx => h x (List.mem_cons_of_mem _ hx)
    rw [pk, List.length_cons, Nat.mul_add, Nat.mul_one, Nat.add_comm (W * l.length), Nat.pow_add]
    have h3 : 2 ^ W * (pk W l + 1) ≤ 2 ^ W * 2 ^ (W * l.length) := Nat.mul_le_mul_left _ h2
    rw [Nat.mul_add] at h3
    omega
theorem pk_take_lt (W : Nat) (l : List Nat) (k : Nat) (hk : k ≤ l.length) (h : ∀ d ∈ l, d < 2 ^ W) : pk W (l.take k) < 2 ^ (k * W) := by
  have := pk_lt W (l.take k) fun d hd => h d (List.mem_of_mem_take hd)
  rwa [List.length_take, Nat.min_eq_left hk, Nat.mul_comm] at this
/-- The distance from the least. -/
def dig (mn x : Int) : Nat := (x - mn).toNat
def wid (l : List Int) : Nat := bitLen (mxL l - mnL l).toNat
def digs (l : List Int) : List Nat := l.map (dig (mnL l))
def lpk (l : List Int) : List Nat := if l = [] then [] else ub (zz (mnL l)) ++ ([wid l] ++ leb ((l.length * wid l + 7) / 8) (pk (wid l) (digs l)))
theorem lpk_nil : lpk [] = [] := rfl
theorem lpk_some {l : List Int} (h : 0 < l.length) : lpk l = ub (zz (mnL l)) ++ ([wid l] ++ leb ((l.length * wid l + 7) / 8) (pk (wid l) (digs l))) := by
  unfold lpk; rw [if_neg (by intro e; rw [e] at h; cases h)]
theorem mn_le {l : List Int} {x : Int} (h : x ∈ l) : mnL l ≤ x := (fmin_le l _).2 x h
theorem mx_ge {l : List Int} {x : Int} (h : x ∈ l) : x ≤ mxL l := (fmax_ge l _).2 x h
theorem mn_mx (l : List Int) : mnL l ≤ mxL l := by
  have h1 := (fmin_le l (l.headD 0)).1; have h2 := (fmax_ge l (l.headD 0)).1
  unfold mnL mxL; omega
theorem dig_lt {l : List Int} : ∀ d ∈ digs l, d < 2 ^ wid l := fun d hd => by
  obtain ⟨x, hx, rfl⟩ := List.mem_map.1 hd
  have h1 := mn_le hx; have h2 := mx_ge hx
  have h3 := (bitLen_spec (mxL l - mnL l).toNat).1
  unfold dig wid
  exact Nat.lt_of_le_of_lt (by omega) h3
theorem wid_le {l : List Int} (h : ∀ x ∈ l, Wf64 x) : wid l ≤ 64 := by
  have h1 := mnL_wf h; have h2 := mxL_wf h; have h3 := mn_mx l
  unfold Wf64 at h1 h2
  have hs := bitLen_spec (mxL l - mnL l).toNat
  unfold wid
  by_cases h0 : (mxL l - mnL l).toNat = 0
  · rw [h0]; decide
  · have h4 := hs.2 h0
    have h5 : 2 ^ (bitLen (mxL l - mnL l).toNat - 1) < 2 ^ 64 := by omega
    have := (Nat.pow_lt_pow_iff_right (by decide)).1 h5
    omega
theorem dig_u64 {mn x : Int} (h : mn ≤ x) (h1 : Wf64 mn) (h2 : Wf64 x) : IntKind.u64.wrap (wrap64 (x - mn)) = ((dig mn x : Nat) : Int) ∧ dig mn x < 18446744073709551616 := by
  unfold Wf64 at h1 h2
  unfold dig
  refine ⟨?_, by omega⟩
  rw [IntKind.wrap_u64]; unfold wrap64; omega
end Col

theorem OwnS.ltC {w : World} {B n cap : Nat} {A : Option Addr} {l : List Nat} (h : OwnS w B A n cap l) (k : Nat) (hk : A.map (·.block) = some k) : k < w.heap.size := by
  rcases h.1.2 with ⟨h1, _⟩ | ⟨a, cap', cur, h1, hb, hrow, -⟩
  · injection h1 with e1 e2 e3; rw [e1] at hk; cases hk
  · injection h1 with e1 e2 e3; rw [e1] at hk; simp at hk; subst hk; exact (Array.getElem?_eq_some_iff.1 hrow).1
theorem OwnS.keptG {w w' : World} {B n cap g : Nat} {A : Option Addr} {l : List Nat} (h : OwnS w B A n cap l) (hk : Kept (Only g) w w') (hne : ∀ k, A.map (·.block) = some k → k ≠ g) : OwnS w' B A n cap l :=
  ⟨h.1.kept (row := some g) ⟨hk.os, hk.tape, hk.output, hk.size, fun k hk' hn => hk.block k hk' (fun e => hn (by rw [show k = g from e]))⟩ (by
    rcases A with _ | a
    · simp [Value.ownBlock]
    · have := hne a.block rfl
      simp [Value.ownBlock]; intro e; exact this (by first | exact e | exact e.symm)), h.2⟩
theorem infoByteC : (Try.prog.info? 5).map (fun i => (i.zero, i.size, i.bytes)) = some (some (.int .u8 0), 1, 1) := by kernel_rfl
theorem rowB_zeros {w : World} {B g q : Nat} (h : w.ownsRow B 5 1 (.slice (some ⟨g, 0, none⟩) q q) q (madeCells (Value.int .u8 0).cells (q * 1)).toList) : RowB w g (leb q 0) := by
  rw [leb_zero]
  have e : bys (List.replicate q 0) = List.replicate q (.int .u8 0) := by unfold bys; rw [List.map_replicate]; rfl
  rw [Nat.mul_one, show (Value.int .u8 0).cells = #[.int .u8 0] from rfl, toList_madeCells_one, ← e] at h
  rcases h.2 with ⟨h1, h2⟩ | ⟨g', cap', cur, h1, hb, hrow, -, -, hs, ht⟩
  · cases h1
  · cases h1
    unfold RowB
    rw [hrow]
    have hc : cur = (bys (List.replicate q 0)).toArray := by
      apply Array.ext'
      rw [← ht, Nat.mul_one, List.take_of_length_le (by rw [Array.length_toList, hs]; omega)]
    rw [hc]
def PL (g K W : Nat) (ds : List Nat) (m : Nat) (w4 : World) (v : Value) (wr : World) : Prop := ∃ i : Nat, i ≤ m ∧ v = .int .i64 (i : Int) ∧ RowB wr g (leb K (pk W (ds.take i))) ∧ Kept (Only g) w4 wr
set_option maxHeartbeats 4000000 in
theorem layPacked_any (B : Nat) (A : Option Addr) (n cap : Nat) (p : List Nat) (b : Option Addr) (m c : Nat) (l : List Int) (hm : Hid (m = l.length)) (hn : n ≤ 1000000) (hm1 : m ≤ 1000000) (W0 : World) (HL0 : Hid (IsAt W0 b l)) (hB : B = W0.heap.size) (w : World) (HW0 : Hid (Below B W0 w)) (H : Hid (OwnS w B A n cap p)) :
    Calls Try.prog 43 #[.slice A n cap, .slice b m c] w (Puts B w (p ++ lpk l)) := by
  have HBB := Lib.hid hB
  have hBw : B ≤ w.heap.size := by rw [hB]; exact HW0.out.size
  have HL : Hid (IsAt w b l) := Lib.hid (HL0.out.keep (HBB.out ▸ HW0.out))
  clear hB
  by_cases h0 : m = 0
  · have hl : l = [] := List.eq_nil_of_length_eq_zero (by have := hm.out; omega)
    subst hl
    subst h0
    go_enter Try.func43, Try.ntmps43
    go_wp2
    go_ret
    exact ⟨A, n, cap, rfl, by rw [lpk_nil, List.append_nil]; exact H.out, Below.refl _ _, Nat.le_refl _⟩
  · have hwf := HL.out.wf
    have HWF := Lib.hid hwf
    obtain ⟨iu, hiu, hz0, hz1, hz2⟩ := info_parts infoByteC
    obtain ⟨mn, hmn⟩ : ∃ mn, mn = mnL l := ⟨_, rfl⟩
    obtain ⟨mx, hmx⟩ : ∃ mx, mx = mxL l := ⟨_, rfl⟩
    have HMNW : Hid (Wf64 mn) := Lib.hid (hmn ▸ mnL_wf hwf)
    have HMX : Hid (mn ≤ mx ∧ Wf64 mx) := Lib.hid ⟨by rw [hmn, hmx]; exact mn_mx l, hmx ▸ mxL_wf hwf⟩
    obtain ⟨D, hD⟩ : ∃ D, D = dig mn mx := ⟨_, rfl⟩
    obtain ⟨hDu, hD64⟩ := dig_u64 HMX.out.1 HMNW.out HMX.out.2
    rw [← hD] at hDu hD64
    obtain ⟨W, hW⟩ : ∃ W, W = wid l := ⟨_, rfl⟩
    have HWD : Hid (bitLen D = W) := Lib.hid (by rw [hW, hD, hmn, hmx]; rfl)
    have hW64 : W ≤ 64 := by rw [hW]; exact wid_le hwf
    obtain ⟨ds, hds⟩ : ∃ ds, ds = digs l := ⟨_, rfl⟩
    have HDS : Hid (∀ d ∈ ds, d < 2 ^ W) := Lib.hid (by rw [hds, hW]; exact dig_lt)
    have HDL : Hid (ds.length = m) := Lib.hid (by rw [hds, hm.out]; exact List.length_map ..)
    have HDX : Hid (∀ (i : Nat) (x : Int), l[i]? = some x → ds[i]? = some (dig mn x) ∧ IntKind.u64.wrap (wrap64 (x - mn)) = ((dig mn x : Nat) : Int) ∧ dig mn x < 18446744073709551616) := Lib.hid fun i x hx => by
      refine ⟨by rw [hds]; unfold digs; rw [List.getElem?_map, hx, hmn]; rfl, dig_u64 (by rw [hmn]; exact mn_le (List.mem_of_getElem? hx)) HMNW.out (hwf x (List.mem_of_getElem? hx))⟩
    obtain ⟨MW, hMW⟩ : ∃ MW, MW = m * W := ⟨_, rfl⟩
    have hMWb : MW ≤ 64000000 := by
      have : m * W ≤ 1000000 * 64 := Nat.mul_le_mul hm1 hW64
      omega
    have hMWi : (m : Int) * (W : Int) = (MW : Int) := by rw [hMW]; exact (Int.natCast_mul m W).symm
    obtain ⟨K, hK⟩ : ∃ K, K = (MW + 7) / 8 := ⟨_, rfl⟩
    have hKb : K ≤ 8000001 := by omega
    have HK8 : Hid (MW ≤ 8 * K) := Lib.hid (by omega)
    have HRES : Hid (lpk l = ub (zz mn) ++ ([W] ++ leb K (pk W ds))) := Lib.hid (by
      rw [lpk_some (by have := hm.out; omega), hK, hMW, hm.out, hW, hmn, hds])
    have HMN := Lib.hid (show mnL l = mn from hmn.symm)
    have HMXE := Lib.hid (show mxL l = mx from hmx.symm)
    have HZ := Lib.hid (zz10 HMNW.out)
    have HKK : Hid ((MW + 7) / 8 = K) := Lib.hid hK.symm
    have HMWE := Lib.hid hMW
    have hw8 : IntKind.u8.wrap (W : Int) = (W : Int) := by rw [IntKind.wrap_u8]; omega
    have hW256 : W < 256 := by omega
    have hm0 : 0 < m := by omega
    have hzb : iu.bytes * K ≤ 281474976710656 := by rw [hz2]; omega
    have hKm : K ≤ maxLen := by unfold maxLen; omega
    have h0' : ((m : Int) == 0) = false := by rw [beq_eq_false_iff_ne]; omega
    have HMIN := Lib.hid (minI_any b m c l hm hm0 hm1)
    have HMAX := Lib.hid (maxI_any b m c l hm hm0 hm1)
    have hLEN := lenC_any D hD64
    rw [HWD.out] at hLEN
    have HLEN := Lib.hid hLEN
    have hBC := byteCount_any MW (by omega)
    rw [HKK.out] at hBC
    have HBC := Lib.hid hBC
    have HPI := Lib.hid (putI_any B A n cap p mn HMNW w H (by omega) hBw)
    clear hwf hmn hmx hD hW hds hMW hK h0 hLEN hBC
    go_enter Try.func43, Try.ntmps43
    go_wp2_with (first
      | (go_at_call 69; refine (HMIN.out _ HL).mono ?_; rw [HMN.out]; rintro e w1 ⟨rfl, rfl⟩)
      | (go_at_call 71; refine (HMAX.out _ HL).mono ?_; rw [HMXE.out]; rintro e w1 ⟨rfl, rfl⟩)
      | (go_at_call 70; refine (HLEN.out _).mono ?_; rintro e w1 ⟨rfl, rfl⟩)
      | (go_at_call 72; refine (HBC.out _).mono ?_; rintro e w1 ⟨rfl, rfl⟩)
      | (go_at_call 68; (with_reducible refine (HPI.out).mono ?_); rintro e w1 ⟨A1, n1, c1, rfl, h1, h2, h3⟩; have HO1 := Lib.hid (h1.keep ((Below.refl _ _).alloc (Nat.le_refl _) (.cells #[.int .u8 (W : Int)] 5))); have HB1 := Lib.hid (h2.alloc (Nat.le_trans hBw h3) (.cells #[.int .u8 (W : Int)] 5)); have hn1 : n1 ≤ n + 10 := (by have e1 := h1.len; have e2 := H.out.len; have e3 := HZ.out; rw [List.length_append] at e1; omega); have HBW := Lib.hid (by_one w1 W hW256); have hbs1 : B ≤ (w1.alloc (.cells #[.int .u8 (W : Int)] 5)).heap.size := (by simp; omega); clear h1 h2 h3)
      | (refine wpList_append_by rfl (.tmp 24) (.tmp 27) rfl B A1 n1 c1 _ rfl HO1.out (some ⟨w1.heap.size, 0, none⟩) 1 1 [W] rfl rfl HBW.out (by omega) hbs1 ?_; intro A2 c2 w2 ho2 hg2 hr2; have HO2 := Lib.hid ho2; have HB2 := Lib.hid (HB1.out.grown hg2 hbs1 HO1.out.base); clear ho2 hg2 hr2)
      | (refine wpList_make_full _ rfl (.tmp 33) (.tmp 33) 24 rfl w2.heap.size 5 iu (.int .u8 0) 1 Try.underlying24 hiu hz0 hz1 .i64 .i64 _ _ K rfl rfl rfl rfl hzb hKm (Nat.le_refl _) ?_; intro w3 own hgr; have HRB := Lib.hid (rowB_zeros own); have HB3 : Hid (Below w2.heap.size w2 w3) := Lib.hid ((Below.refl _ w2).grown hgr (Nat.le_refl _) (by intro k hk; cases hk)); clear own hgr))
    obtain ⟨g, hg⟩ : ∃ g, g = w2.heap.size := ⟨_, rfl⟩
    have hBg : B ≤ g := by rw [hg]; exact Nat.le_trans hBw HB2.out.size
    rw [← hg] at HRB ⊢
    have HO3 := Lib.hid (HO2.out.keep HB3.out)
    have HNE : Hid (∀ k, A2.map (·.block) = some k → k ≠ g) := Lib.hid fun k hk => by have := HO2.out.ltC k hk; omega
    have HBA : Hid (Below B w w3) := Lib.hid (HB2.out.trans (HB3.out.mono (by omega)))
    have HG3 : Hid (g < w3.heap.size) := Lib.hid (Array.getElem?_eq_some_iff.1 HRB.out).1
    have HST : Hid (PL g K W ds m w3 (.int .i64 0) w3) := Lib.hid ⟨0, Nat.zero_le _, rfl, by rw [List.take_zero]; exact HRB.out, Kept.refl _ _⟩
    clear HRB HBW HB1 HB2 HO1 HO2 HPI hg HMIN HMAX HLEN HBC HMXE HMX
    go_loopw [37] (fun v wr => PL g K W ds m w3 v wr) (fun v _ => m - (intOf v).toNat)
    case atStart => exact HST.out
    case round =>
      obtain ⟨i, him, rfl, hrow, hk⟩ := hrel
      have HR := Lib.hid hrow; have HK := Lib.hid hk
      clear hrow hk HST
      by_cases hlt : i < m
      · obtain ⟨x, hx⟩ : ∃ x, l[i]? = some x := ⟨l[i]'(by have := hm.out; omega), List.getElem?_eq_getElem _⟩
        obtain ⟨hwfx, g', off, rfl, hg', hc⟩ := HL0.out i x hx
        have hg3 : g' < w3.heap.size := Nat.lt_of_lt_of_le hg' (Nat.le_trans HW0.out.size HBA.out.size)
        have hne : ¬ g' = g := by have := HBB.out; omega
        have hcx : wr.cell? ⟨g', off + i, none⟩ = some (.int .i64 x) := (HK.out.cell (p := ⟨g', off + i, none⟩) hg3 hne).trans (((HBB.out ▸ (HW0.out.trans HBA.out) : Below W0.heap.size W0 w3).cell (p := ⟨g', off + i, none⟩) hg').trans hc)
        clear hg3 hne
        obtain ⟨hd1, hd2, hd3⟩ := HDX.out i x hx
        obtain ⟨d, hd⟩ : ∃ d, d = dig mn x := ⟨_, rfl⟩
        rw [← hd] at hd1 hd2 hd3
        have HD1 := Lib.hid hd1
        obtain ⟨at', hat⟩ : ∃ at', at' = i * W := ⟨_, rfl⟩
        have hati : (i : Int) * (W : Int) = (at' : Int) := by rw [hat]; exact (Int.natCast_mul i W).symm
        have hatb : at' ≤ 64000000 := by
          have : i * W ≤ 1000000 * 64 := Nat.mul_le_mul (by omega) hW64
          omega
        have HLT := Lib.hid (pk_take_lt W ds i (by have := HDL.out; omega) HDS.out)
        have HSN := Lib.hid (pk_snoc W ds i d hd1)
        have HT : Hid (pk W (ds.take i) + d * 2 ^ at' < 2 ^ (8 * K)) := Lib.hid (by
          have h1 := pk_take_lt W ds (i + 1) (by have := HDL.out; omega) HDS.out
          rw [pk_snoc W ds i d hd1, ← hat] at h1
          refine Nat.lt_of_lt_of_le h1 (Nat.pow_le_pow_right (by decide) ?_)
          have h2 : (i + 1) * W ≤ m * W := Nat.mul_le_mul_right _ (by omega)
          have := HK8.out; have := HMWE.out; omega)
        rw [← hat] at HLT HSN
        have HPB := Lib.hid (putBits_any g K (pk W (ds.take i)) at' d HLT.out hd3 (by omega) (by omega) HT wr HR)
        clear hx hwfx hg' hc hd1 hd hat HT HLT
        go_wp2_with (go_at_call 73; (with_reducible refine (HPB.out).mono ?_); rintro e w9 ⟨rfl, h1, h2⟩; have HR9 := Lib.hid h1; have HK9 := Lib.hid h2; clear h1 h2)
        go_roundw
        case rel => exact ⟨i + 1, by omega, by go_num, by rw [HSN.out]; exact HR9.out, HK.out.trans HK9.out⟩
        case measure => simp [intOf]; omega
      · obtain rfl : i = m := by omega
        have HFB : Hid (ByAt wr (some ⟨g, 0, none⟩) (leb K (pk W ds))) := Lib.hid (by
          have h := HR.out
          rw [List.take_of_length_le (by have := HDL.out; omega)] at h
          exact ByAt.of_row _ (leb_lt _ _) h ⟨[], by simp⟩)
        have HO9 := Lib.hid (HO3.out.keptG HK.out HNE.out)
        have HBF : Hid (Below B w wr) := Lib.hid (HBA.out.trans (HK.out.below (B := B) (Nat.le_trans hBg (Nat.le_of_lt HG3.out)) (fun k hk => by have hk : k = g := hk; omega)))
        have hbs9 : B ≤ wr.heap.size := Nat.le_trans hBw HBF.out.size
        have HLL := Lib.hid (leb_length K (pk W ds))
        go_wp2_with (refine wpList_append_by rfl (.tmp 52) (.tmp 53) rfl B A2 (n1 + 1) c2 _ rfl HO9.out (some ⟨g, 0, none⟩) K K _ rfl HLL.out.symm HFB.out (by omega) hbs9 ?_; intro A4 c4 w4 ho4 hg4 hr4; have HO4 := Lib.hid ho4; have HB4 := Lib.hid (HBF.out.grown hg4 hbs9 HO9.out.base); clear ho4 hg4 hr4)
        go_ret
        exact ⟨A4, _, c4, rfl, by rw [HRES.out]; have := HO4.out; simpa only [List.append_assoc] using this, HB4.out, HB4.out.size⟩
end Go.Proofs.Ytlhaedcoompjpaa

set_option linter.unusedSimpArgs false
set_option linter.unusedVariables false
set_option maxRecDepth 8000
namespace Go.Proofs.Ytlhaedcoompjpaa
open Go.RowKit Go.WideShapes Col
namespace Col
/-- Whole numbers, laid in a way. -/
def asL (way : Nat) (l : List Int) : List Nat := [way] ++ ub l.length ++ (if way = 0 then lpl l else if way = 1 then lde 0 l else if way = 2 then lru l else lpk l)
theorem lpl_len : ∀ l : List Int, (∀ x ∈ l, Wf64 x) → (lpl l).length ≤ 10 * l.length
  | [], _ => Nat.le_refl _
  | x :: l, h => by
    have h1 := zz10 (h x (List.mem_cons_self ..))
    have h2 := lpl_len l fun y hy => h y (List.mem_cons_of_mem _ hy)
    unfold lpl at *
    rw [List.flatMap_cons, List.length_append, List.length_cons]; omega
theorem lde_len : ∀ (l : List Int) (p : Int), (lde p l).length ≤ 10 * l.length
  | [], _ => Nat.le_refl _
  | x :: l, p => by
    have h1 := zz10 (sub64_wf x p)
    have h2 := lde_len l x
    rw [lde, List.length_append, List.length_cons]; omega
theorem lru_len (n : Nat) : ∀ l : List Int, l.length ≤ n → l.length ≤ 1000000 → (∀ x ∈ l, Wf64 x) → (lru l).length ≤ 20 * l.length := by
  induction n with
  | zero => intro l h _ _; rw [List.eq_nil_of_length_eq_zero (by omega : l.length = 0), lru_nil]; simp
  | succ n ih =>
    intro l h h1 h2
    rcases l with _ | ⟨x, l⟩
    · rw [lru_nil]; simp
    · rw [lru]
      have hr := runN_le x l
      have h3 := ih (l.drop (runN x l)) (by rw [List.length_drop]; simp at h; omega) (by rw [List.length_drop]; simp at h1; omega) fun y hy => h2 y (List.mem_cons_of_mem _ (List.mem_of_mem_drop hy))
      have h4 := zz10 (h2 x (List.mem_cons_self ..))
      have h5 : (ub (runN x l)).length ≤ 10 := ub10 (by simp at h1; omega)
      rw [List.length_drop] at h3
      rw [List.length_append, List.length_append, List.length_cons]; omega
theorem lpk_len (l : List Int) (h : ∀ x ∈ l, Wf64 x) : (lpk l).length ≤ 12 + 8 * l.length := by
  by_cases h0 : 0 < l.length
  · rw [lpk_some h0, List.length_append, List.length_append, leb_length]
    have h1 := zz10 (mnL_wf h)
    have h2 := wid_le h
    have h3 : l.length * wid l ≤ l.length * 64 := Nat.mul_le_mul_left _ h2
    simp only [List.length_cons, List.length_nil]; omega
  · rw [List.eq_nil_of_length_eq_zero (by omega : l.length = 0), lpk_nil]; simp
theorem asL_len (way : Nat) (l : List Int) (h : ∀ x ∈ l, Wf64 x) (hl : l.length ≤ 1000000) : (asL way l).length ≤ 23 + 20 * l.length := by
  have h1 : (ub l.length).length ≤ 10 := ub10 (by omega)
  unfold asL
  rw [List.length_append, List.length_append]
  have h2 := lpl_len l h; have h3 := lde_len l 0; have h4 := lru_len _ l (Nat.le_refl _) hl h; have h5 := lpk_len l h
  simp only [List.length_cons, List.length_nil]
  split
  · omega
  · split
    · omega
    · split <;> omega
end Col
set_option maxHeartbeats 2000000 in
theorem as_any (way : Nat) (hway : way < 4) (b : Option Addr) (m c : Nat) (l : List Int) (hm : Hid (m = l.length)) (hmc : m ≤ c) (hc : c ≤ 9223372036854775807) (hm1 : m ≤ 900000) (w : World) (HL : Hid (IsAt w b l)) :
    Calls Try.prog 13 #[.int .u8 (way : Int), .slice b m c] w (Puts w.heap.size w (asL way l)) := by
  obtain ⟨B, hB⟩ : ∃ B, B = w.heap.size := ⟨_, rfl⟩
  rw [← hB]
  have HBB := Lib.hid hB
  obtain ⟨w1, hw1⟩ : ∃ w1, w1 = w.alloc (.cells #[.int .u8 (way : Int)] 5) := ⟨_, rfl⟩
  have HA : Hid (w.alloc (.cells #[.int .u8 (way : Int)] 5) = w1) := Lib.hid hw1.symm
  have HB1 : Hid (Below B w w1) := Lib.hid (by rw [hw1]; exact (Below.refl _ _).alloc (by omega) _)
  have HO : Hid (OwnS w1 B (some ⟨B, 0, none⟩) 1 1 [way]) := Lib.hid (OwnS.of_row (cs := [.int .u8 (way : Int)]) (by rw [hw1, hB]; exact heap_alloc_new' w _) rfl (by decide) rfl rfl (Nat.le_refl _) (fun x hx => by simp at hx; omega))
  have hu := ub10 (show m < 18446744073709551616 by omega)
  have HU := Lib.hid hu
  have HM := Lib.hid hm.out
  have hmw : IntKind.u64.wrap (m : Int) = (m : Int) := by rw [IntKind.wrap_u64]; omega
  have HPU := Lib.hid (putU_any B _ 1 1 [way] m (by omega) w1 HO (by omega) (by have := HB1.out.size; omega))
  clear hu hB hw1
  have hway4 : way = 0 ∨ way = 1 ∨ way = 2 ∨ way = 3 := by omega
  rcases hway4 with rfl | rfl | rfl | rfl
  all_goals
    go_enter Try.func13, Try.ntmps13
    go_wp2_with (first
      | (go_at_call 39; have e := HA.out; (first | rw [← HBB.out, e] | (change World.alloc w (.cells #[.int .u8 0] 5) = w1 at e; rw [← HBB.out, e]) | (change World.alloc w (.cells #[.int .u8 1] 5) = w1 at e; rw [← HBB.out, e]) | (change World.alloc w (.cells #[.int .u8 2] 5) = w1 at e; rw [← HBB.out, e]) | (change World.alloc w (.cells #[.int .u8 3] 5) = w1 at e; rw [← HBB.out, e])); clear e; refine (HPU.out).mono ?_; rintro e w2 ⟨A2, n2, c2, rfl, h1, h2, h3⟩; have HO2 := Lib.hid h1; have HB2 := Lib.hid (HB1.out.trans h2); have hn2 : n2 ≤ 11 := (by have e1 := h1.len; have e2 := HU.out; simp at e1; omega); clear h1 h2 h3)
      | (go_at_call 40; refine (layPlain_any B A2 n2 c2 _ b m c l HM (by omega) (by omega) w HL HBB.out _ HB2 HO2).mono ?_; rintro e w3 ⟨A3, n3, c3, rfl, h1, h2, h3⟩; have HO3 := Lib.hid h1; have HB3 := Lib.hid (HB2.out.trans h2); clear h1 h2 h3)
      | (go_at_call 41; refine (layDelta_any B A2 n2 c2 _ b m c l HM (by omega) (by omega) w HL HBB.out _ HB2 HO2).mono ?_; rintro e w3 ⟨A3, n3, c3, rfl, h1, h2, h3⟩; have HO3 := Lib.hid h1; have HB3 := Lib.hid (HB2.out.trans h2); clear h1 h2 h3)
      | (go_at_call 42; refine (layRuns_any B A2 n2 c2 _ b m c l HM hmc hc (by omega) (by omega) w HL HBB.out _ HB2 HO2).mono ?_; rintro e w3 ⟨A3, n3, c3, rfl, h1, h2, h3⟩; have HO3 := Lib.hid h1; have HB3 := Lib.hid (HB2.out.trans h2); clear h1 h2 h3)
      | (go_at_call 43; refine (layPacked_any B A2 n2 c2 _ b m c l HM (by omega) (by omega) w HL HBB.out _ HB2 HO2).mono ?_; rintro e w3 ⟨A3, n3, c3, rfl, h1, h2, h3⟩; have HO3 := Lib.hid h1; have HB3 := Lib.hid (HB2.out.trans h2); clear h1 h2 h3))
    go_ret
    exact ⟨A3, n3, c3, rfl, by have := HO3.out; rw [HM.out] at this; exact this, HB3.out, HB3.out.size⟩
end Go.Proofs.Ytlhaedcoompjpaa

set_option linter.unusedSimpArgs false
set_option linter.unusedVariables false
set_option maxRecDepth 8000
namespace Go.Proofs.Ytlhaedcoompjpaa
open Go.RowKit Go.WideShapes Col
namespace Col
/-- The shorter one, and of two the first. -/
def pickL (best : List Nat) (p : List Nat) : List Nat := if p.length < best.length then p else best
def bestL (k : Nat) (l : List Int) : List Nat := match k with
  | 0 => asL 0 l
  | k + 1 => pickL (bestL k l) (asL (k + 1) l)
def intsL (l : List Int) : List Nat := bestL 3 l
end Col
def RI (W : World) (l : List Int) (u v : Value) (wr : World) : Prop := ∃ (k : Nat) (A : Option Addr) (n cap : Nat), k ≤ 3 ∧ v = .int .u8 ((k + 1 : Nat) : Int) ∧ u = .slice A n cap ∧ OwnS wr W.heap.size A n cap (bestL k l) ∧ Below W.heap.size W wr
set_option maxHeartbeats 2000000 in
theorem ints_any (b : Option Addr) (m c : Nat) (l : List Int) (hm : Hid (m = l.length)) (hmc : m ≤ c) (hc : c ≤ 9223372036854775807) (hm1 : m ≤ 900000) (W : World) (HL : Hid (IsAt W b l)) :
    Calls Try.prog 11 #[.slice b m c] W (Puts W.heap.size W (intsL l)) := by
  have HA := Lib.hid fun way hway w hl => as_any way hway b m c l hm hmc hc hm1 w hl
  have HWF : Hid (∀ x ∈ l, Wf64 x) := Lib.hid HL.out.wf
  have HA0 : Hid (Calls Try.prog 13 #[.int .u8 0, .slice b m c] W (Puts W.heap.size W (asL 0 l))) := Lib.hid (HA.out 0 (by decide) W HL)
  go_enter Try.func11, Try.ntmps11
  go_wp2_with (go_at_call 13; (with_reducible refine (HA0.out).mono ?_); rintro e w1 ⟨A1, n1, c1, rfl, h1, h2, h3⟩; have HO1 := Lib.hid h1; have HB1 := Lib.hid h2; clear h1 h2 h3)
  go_loopw [3, 4] (fun u v wr => RI W l u v wr) (fun _ v _ => 4 - (intOf v).toNat)
  case atStart => exact ⟨0, A1, n1, c1, by decide, rfl, rfl, HO1.out, HB1.out⟩
  case round =>
    obtain ⟨k, A, n, cap, hk, rfl, rfl, ho, hb⟩ := hrel
    have HO := Lib.hid ho; have HB := Lib.hid hb
    clear ho hb HA0
    have hk4 : k = 0 ∨ k = 1 ∨ k = 2 ∨ k = 3 := by omega
    by_cases h3 : k = 3
    · subst h3
      go_wp2
      go_ret
      exact ⟨A, n, cap, rfl, HO.out, HB.out, HB.out.size⟩
    · obtain ⟨K, hK⟩ : ∃ K, K = k + 1 := ⟨_, rfl⟩
      have HK := Lib.hid hK
      have hK4 : K < 4 := by omega
      have hK3 : K ≤ 3 := by omega
      rw [← hK]
      clear hK hk hk4 h3
      have HAK := Lib.hid (HA.out K hK4 wr (Lib.hid (HL.out.keep HB.out)))
      have HNL := Lib.hid HO.out.len
      go_upto_region 6 with (go_at_call 13; (with_reducible refine (HAK.out).mono ?_); rintro e w2 ⟨A2, n2, c2, rfl, h1, h2, h3⟩; have HO2 := Lib.hid (h1.more HB.out.size); have HB2 := Lib.hid (below_to HB.out h2); have HOK := Lib.hid (HO.out.keep h2); clear h1 h2 h3)
      have HN2 := Lib.hid HO2.out.len
      by_cases hlt : n2 < n
      · have HS : Hid (bestL K l = asL K l) := Lib.hid (by rw [HK.out]; unfold bestL pickL; rw [if_pos (by have := HNL.out; have := HN2.out; rw [← HK.out]; omega)])
        go_wp2
        go_roundw
        case rel => exact ⟨K, A2, n2, c2, hK3, by go_num, rfl, by rw [HS.out]; exact HO2.out, HB2.out⟩
        case measure => have := HK.out; simp [intOf]; omega
      · have HS : Hid (bestL K l = bestL k l) := Lib.hid (by rw [HK.out]; unfold bestL; unfold pickL; rw [if_neg (by have := HNL.out; have := HN2.out; rw [← HK.out]; omega)]; cases k <;> rfl)
        go_wp2
        go_roundw
        case rel => exact ⟨K, A, n, cap, hK3, by go_num, rfl, by rw [HS.out]; exact HOK.out, HB2.out⟩
        case measure => have := HK.out; simp [intOf]; omega
theorem ints_777 : intsL [7, 7, 7] = [2, 3, 14, 2] := by decide +kernel
end Go.Proofs.Ytlhaedcoompjpaa

set_option linter.unusedSimpArgs false
set_option linter.unusedVariables false
set_option maxRecDepth 8000
namespace Go.Proofs.Ytlhaedcoompjpaa
open Go.RowKit Go.WideShapes Col
theorem str_777 : strB [2, 3, 14, 2] = { data := #[2, 3, 14, 2] } := by decide +kernel
set_option maxHeartbeats 1000000 in
theorem awakeC_any (W : World) : Calls Try.prog 10 #[] W fun e w' => e = .returned (.bool true) ∧ Below W.heap.size W w' := by
  have HR : Hid (IsAt (W.alloc (.cells #[.int .i64 7, .int .i64 7, .int .i64 7] 2)) (some ⟨W.heap.size, 0, none⟩) [7, 7, 7]) := Lib.hid (IsAt.of_row [7, 7, 7] (by intro x hx; simp at hx; subst hx; unfold Wf64; omega) (heap_alloc_new' W _) ⟨[], rfl⟩)
  have hI := ints_any _ 3 3 [7, 7, 7] (Lib.hid rfl) (by decide) (by decide) (by decide) _ HR
  rw [ints_777] at hI
  have HI := Lib.hid hI
  have HB0 : Hid (Below W.heap.size W (W.alloc (.cells #[.int .i64 7, .int .i64 7, .int .i64 7] 2))) := Lib.hid ((Below.refl _ _).alloc (Nat.le_refl _) _)
  clear hI
  go_enter Try.func10, Try.ntmps10
  go_wp2_with (go_at_call 11; (with_reducible refine (HI.out).mono ?_); rintro e w1 ⟨A1, n1, c1, rfl, h1, h2, h3⟩; obtain rfl : n1 = 4 := h1.len; have h5 := conv_by 4 c1 (Lib.hid h1.byAt) (by decide); rw [str_777] at h5; have HB1 := Lib.hid (below_to HB0.out h2); clear h1 h2 h3)
  go_ret
  exact ⟨rfl, HB1.out⟩
end Go.Proofs.Ytlhaedcoompjpaa

set_option linter.unusedSimpArgs false
set_option linter.unusedVariables false
set_option maxRecDepth 8000
namespace Go.Proofs.Ytlhaedcoompjpaa
open Go.RowKit Go.WideShapes Col
namespace Col
/-- So many steps, one behind the other: what they tell, and what is left. -/
def runS {σ α : Type} (step : σ → Option (α × σ)) : Nat → σ → Option (List α × σ)
  | 0, s => some ([], s)
  | k + 1, s => (runS step k s).bind fun p => (step p.2).map fun r => (p.1 ++ [r.1], r.2)
theorem runS_some {σ α : Type} {step : σ → Option (α × σ)} {k : Nat} {s s' s2 : σ} {xs : List α} {x : α} (h : runS step k s = some (xs, s')) (h2 : step s' = some (x, s2)) : runS step (k + 1) s = some (xs ++ [x], s2) := by
  rw [runS, h]; simp [h2]
theorem runS_none {σ α : Type} {step : σ → Option (α × σ)} {k : Nat} {s s' : σ} {xs : List α} (h : runS step k s = some (xs, s')) (h2 : step s' = none) : ∀ n, k < n → runS step n s = none := by
  intro n hn
  induction n with
  | zero => omega
  | succ n ih =>
    by_cases hk : k = n
    · subst hk; rw [runS, h]; simp [h2]
    · rw [runS, ih (by omega)]; rfl
theorem runS_len {σ α : Type} {step : σ → Option (α × σ)} : ∀ {k : Nat} {s s' : σ} {xs : List α}, runS step k s = some (xs, s') → xs.length = k
  | 0, s, s', xs, h => by rw [runS] at h; injection h with h; injection h with h1 h2; rw [← h1]; rfl
  | k + 1, s, s', xs, h => by
    rw [runS] at h
    rcases hr : runS step k s with _ | ⟨ys, s1⟩
    · rw [hr] at h; cases h
    · rw [hr] at h
      simp only [Option.bind_some] at h
      rcases hs : step s1 with _ | ⟨x, s2⟩
      · rw [hs] at h; cases h
      · rw [hs] at h; injection h with h; injection h with h1 h2
        rw [← h1, List.length_append, runS_len hr]; rfl
end Col

/-- A row of whole numbers that is all of a slice. -/
def RowI (w : World) (g : Nat) (l : List Int) : Prop := w.heap[g]? = some (.cells (ivs l).toArray 2 (0, 0))
section
variable {w : World} {g : Nat} {l : List Int}
theorem RowI.fr (h : RowI w g l) (i : Nat) : w.frozen? ⟨g, i, none⟩ = false := row_frozen h i
theorem RowI.at (h : RowI w g l) (i : Nat) (hi : i < l.length) : ∃ u, w.cell? ⟨g, i, none⟩ = some u := by
  rw [cell_of_row _ _ _ _ _ _ h, List.getElem?_toArray]
  exact ⟨_, List.getElem?_eq_getElem (by rw [ivs_length]; exact hi)⟩
theorem RowI.set (h : RowI w g l) (i : Nat) (x : Int) : RowI (w.setCell ⟨g, i, none⟩ (.int .i64 x)) g (l.set i x) := by
  unfold RowI at *
  rw [World.setCell]
  simp only [Array.getElem?_modify, if_pos, h, Option.map_some]
  have e : (ivs l).toArray.setIfInBounds i (.int .i64 x) = (ivs (l.set i x)).toArray := by
    unfold ivs; rw [List.map_set]; simp; rfl
  simp [e]
theorem RowI.keep {S : Nat → Prop} {w' : World} (h : RowI w g l) (hk : Kept S w w') (hg : ¬ S g) : RowI w' g l := hk.heap h hg
theorem RowI.own {B : Nat} (h : RowI w g l) (hB : B ≤ g) (hl : ∀ x ∈ l, Wf64 x) (hm : l.length ≤ maxLen) : OwnI w B (some ⟨g, 0, none⟩) l.length l.length l := by
  refine ⟨⟨by rw [ivs_length]; omega, .inr ⟨g, l.length, _, rfl, hB, h, Nat.le_refl _, hm, by simp [ivs_length], by rw [Nat.mul_one]; simp [ivs_length, List.take_of_length_le]⟩⟩, hl⟩
end
theorem rowI_zeros {w : World} {B g q : Nat} (h : w.ownsRow B 2 1 (.slice (some ⟨g, 0, none⟩) q q) q (madeCells (Value.int .i64 0).cells (q * 1)).toList) : RowI w g (List.replicate q 0) := by
  have e : ivs (List.replicate q 0) = List.replicate q (.int .i64 0) := by unfold ivs; rw [List.map_replicate]; rfl
  rw [Nat.mul_one, show (Value.int .i64 0).cells = #[.int .i64 0] from rfl, toList_madeCells_one, ← e] at h
  rcases h.2 with ⟨h1, h2⟩ | ⟨g', cap', cur, h1, hb, hrow, -, -, hs, ht⟩
  · cases h1
  · cases h1
    unfold RowI
    rw [hrow]
    have hc : cur = (ivs (List.replicate q 0)).toArray := by
      apply Array.ext'
      rw [← ht, Nat.mul_one, List.take_of_length_le (by rw [Array.length_toList, hs]; omega)]
    rw [hc]
theorem fill_set (xs : List Int) (n k : Nat) (hx : xs.length = k) (hk : k < n) (x : Int) : (xs ++ List.replicate (n - k) 0).set k x = (xs ++ [x]) ++ List.replicate (n - (k + 1)) 0 := by
  obtain ⟨m, rfl⟩ : ∃ m, n = k + 1 + m := ⟨n - k - 1, by omega⟩
  rw [show k + 1 + m - k = m + 1 by omega, show k + 1 + m - (k + 1) = m by omega, List.replicate_succ, List.set_append_right _ _ (by omega), hx, Nat.sub_self, List.set_cons_zero, List.append_assoc]; rfl

/-- How one call ends. -/
def StepEnds {σ : Type} (g : Nat) (Sw : Nat → Prop) (St : σ → World → Prop) (o : Option (Int × σ)) (w : World) (e : Ending) (w' : World) : Prop :=
  match o with
  | some p => e = .returned (.int .i64 p.1) ∧ Wf64 p.1 ∧ St p.2 w' ∧ Kept Sw w w'
  | none => e = .panicked [gu g] ∧ Gone w' g ∧ Kept Sw w w'
/-- How a reading of a list ends. -/
def ListEnds {σ : Type} (g : Nat) (Sw : Nat → Prop) (St : σ → World → Prop) (o : Option (List Int × σ)) (w : World) (e : Ending) (w' : World) : Prop :=
  match o with
  | some p => (∃ A n cap, e = .returned (.slice A n cap) ∧ OwnI w' w.heap.size A n cap p.1) ∧ St p.2 w' ∧ Kept Sw w w'
  | none => e = .panicked [gu g] ∧ Gone w' g ∧ Kept Sw w w'
def RT {σ : Type} (Sw : Nat → Prop) (St : σ → World → Prop) (step : σ → Option (Int × σ)) (n : Nat) (w : World) (s0 : σ) (v : Value) (wr : World) : Prop :=
  ∃ (k : Nat) (xs : List Int) (s : σ), k ≤ n ∧ v = .int .i64 (k : Int) ∧ runS step k s0 = some (xs, s) ∧ (∀ x ∈ xs, Wf64 x) ∧ RowI wr w.heap.size (xs ++ List.replicate (n - k) 0) ∧ St s wr ∧ Kept Sw w wr ∧ w.heap.size < wr.heap.size
theorem infoI64' : (Try.prog.info? 2).map (fun i => (i.zero, i.size, i.bytes)) = some (some (.int .i64 0), 1, 8) := by kernel_rfl
set_option maxHeartbeats 2000000 in
theorem times_any {σ : Type} (step : σ → Option (Int × σ)) (F : Nat) (first cap : Array Value) (hent : ∀ (args : Array Value) (w : World), (callFunc F args).run Try.prog w = .ok (.enter F args) w)
    (n : Nat) (hn : n ≤ 4096) (g : Nat) (Sw : Nat → Prop) (St : σ → World → Prop) (w : World) (hSw : Hid (∀ k, Sw k → k < w.heap.size)) (hkeep : Hid (∀ s w1 w2, St s w1 → Kept (fun j => w.heap.size ≤ j) w1 w2 → St s w2))
    (s0 : σ) (hstep : Hid (∀ k xs s w1, k < n → runS step k s0 = some (xs, s) → St s w1 → w.heap.size ≤ w1.heap.size → Calls Try.prog F (first ++ cap) w1 (StepEnds g Sw St (step s) w1))) (h0 : Hid (St s0 w)) :
    Calls Try.prog 75 #[.int .i64 (n : Int), .func (.func F) first cap] w (ListEnds g Sw St (runS step n s0) w) := by
  obtain ⟨iu, hiu, hz0, hz1, hz2⟩ := info_parts infoI64'
  have hzb : iu.bytes * n ≤ 281474976710656 := by rw [hz2]; omega
  have hnm : n ≤ maxLen := by unfold maxLen; omega
  go_enter Try.func75, Try.ntmps75
  go_wp2_with (refine wpList_make_full _ rfl (.tmp 7) (.tmp 7) 22 rfl w.heap.size 2 iu (.int .i64 0) 1 Try.underlying22 hiu hz0 hz1 .i64 .i64 _ _ n rfl rfl rfl rfl hzb hnm (Nat.le_refl _) ?_; intro w1 own hgr; have HRI := Lib.hid (rowI_zeros own); have HB1 : Hid (Below w.heap.size w w1) := Lib.hid ((Below.refl _ w).grown hgr (Nat.le_refl _) (by intro k hk; cases hk)); clear own hgr)
  have HST : Hid (RT Sw St step n w s0 (.int .i64 0) w1) := Lib.hid ⟨0, [], s0, Nat.zero_le _, rfl, rfl, (fun x hx => by cases hx), by simpa using HRI.out, hkeep.out _ _ _ h0.out (Kept.of_below HB1.out), Kept.of_below HB1.out, (Array.getElem?_eq_some_iff.1 HRI.out).1⟩
  obtain ⟨L, hL⟩ : ∃ L, L = w.heap.size := ⟨_, rfl⟩
  have HL := Lib.hid hL
  rw [← hL]
  clear hL HRI HB1
  go_loopw [11] (fun v wr => RT Sw St step n w s0 v wr) (fun v _ => n - (intOf v).toNat)
  case atStart => exact HST.out
  case round =>
    obtain ⟨k, xs, s, hk, rfl, hrun, hwf, hrow, hst, hkp, hsz⟩ := hrel
    have HRUN := Lib.hid hrun; have HWF := Lib.hid hwf; have HST2 := Lib.hid hst; have HK := Lib.hid hkp; have HSZ := Lib.hid hsz
    have HROW : Hid (RowI wr L (xs ++ List.replicate (n - k) 0)) := Lib.hid (HL.out ▸ hrow)
    have HXL := Lib.hid (runS_len hrun)
    clear hrun hwf hst hkp hrow HST hsz
    by_cases hlt : k < n
    · have HC := Lib.hid (hstep.out k xs s wr hlt HRUN.out HST2.out (Nat.le_of_lt HSZ.out))
      have HNS : Hid (¬ Sw L) := Lib.hid fun h => by have := hSw.out L h; have := HL.out; omega
      rcases hs : step s with _ | ⟨x, s'⟩
      · have HN := Lib.hid (runS_none HRUN.out hs n hlt)
        rw [hs] at HC
        have HC2 : Hid (Calls Try.prog F (first ++ cap) wr fun e w' => e = .panicked [gu g] ∧ Gone w' g ∧ Kept Sw wr w') := HC
        clear hs HC
        go_wp2_with ((with_reducible refine (HC2.out).mono ?_); rintro e w2 ⟨rfl, h1, h2⟩)
        rw [HN.out]
        exact ⟨rfl, rfl, h1, HK.out.trans h2⟩
      · have HN := Lib.hid (runS_some HRUN.out hs)
        rw [hs] at HC
        have HC2 : Hid (Calls Try.prog F (first ++ cap) wr fun e w' => e = .returned (.int .i64 x) ∧ Wf64 x ∧ St s' w' ∧ Kept Sw wr w') := HC
        have HSET := Lib.hid (fill_set xs n k HXL.out hlt x)
        clear hs HC
        go_wp2_with ((with_reducible refine (HC2.out).mono ?_); rintro e w2 ⟨rfl, h1, h2, h3⟩; have HR2 : Hid (RowI w2 L _) := Lib.hid (HROW.out.keep h3 HNS.out); have HWX := Lib.hid h1; have HS2 := Lib.hid h2; have HK2 := Lib.hid h3; have f2 := HR2.out.fr k; obtain ⟨u2, c2⟩ := HR2.out.at k (by rw [List.length_append, List.length_replicate, HXL.out]; omega); clear h1 h2 h3)
        go_roundw
        case rel =>
          have hk2 : Kept (fun j => w.heap.size ≤ j) w2 (w2.setCell ⟨L, k, none⟩ (.int .i64 x)) := (Kept.refl _ _).setCell _ _ (.inl (by rw [HL.out]; exact Nat.le_refl _))
          refine ⟨k + 1, xs ++ [x], s', by omega, by go_num, HN.out, fun y hy => ?_, ?_, hkeep.out _ _ _ HS2.out hk2, (HK.out.trans HK2.out).trans' hk2 (fun i hi => .inr hi), ?_⟩
          · rcases List.mem_append.1 hy with h | h
            · exact HWF.out y h
            · rw [List.mem_singleton.1 h]; exact HWX.out
          · rw [← HSET.out, ← HL.out]; exact HR2.out.set k x
          · rw [setCell_size]; exact Nat.lt_of_lt_of_le HSZ.out HK2.out.size
        case measure => simp [intOf]; omega
    · obtain rfl : k = n := by omega
      go_wp2
      go_ret
      rw [HRUN.out]
      have hr := HROW.out
      rw [Nat.sub_self, List.replicate_zero, List.append_nil] at hr
      have ho := hr.own (B := w.heap.size) (by rw [HL.out]; exact Nat.le_refl _) HWF.out (by rw [HXL.out]; exact hnm)
      rw [HXL.out] at ho
      exact ⟨⟨_, _, _, rfl, ho⟩, HST2.out, HK.out⟩
end Go.Proofs.Ytlhaedcoompjpaa

set_option linter.unusedSimpArgs false
set_option linter.unusedVariables false
set_option maxRecDepth 8000
namespace Go.Proofs.Ytlhaedcoompjpaa
open Go.RowKit Go.WideShapes Col
namespace Col
/-- The number of some bytes. -/
def vlb : List Nat → Nat
  | [] => 0
  | b :: r => b + 256 * vlb r
theorem leb_vlb : ∀ l : List Nat, (∀ x ∈ l, x < 256) → leb l.length (vlb l) = l
  | [], _ => rfl
  | b :: r, h => by
    have hb := h b (List.mem_cons_self ..)
    rw [List.length_cons, leb, vlb, Nat.add_mul_mod_self_left, Nat.mod_eq_of_lt hb, Nat.add_mul_div_left _ _ (by decide), Nat.div_eq_of_lt hb, Nat.zero_add, leb_vlb r fun x hx => h x (List.mem_cons_of_mem _ hx)]
theorem vlb_lt : ∀ l : List Nat, (∀ x ∈ l, x < 256) → vlb l < 2 ^ (8 * l.length)
  | [], _ => by simp [vlb]
  | b :: r, h => by
    have hb := h b (List.mem_cons_self ..)
    have hr := vlb_lt r fun x hx => h x (List.mem_cons_of_mem _ hx)
    rw [List.length_cons, vlb, show 8 * (r.length + 1) = 8 + 8 * r.length by omega, Nat.pow_add]
    have : 2 ^ 8 * (vlb r + 1) ≤ 2 ^ 8 * 2 ^ (8 * r.length) := Nat.mul_le_mul_left _ hr
    omega
theorem vlb_leb : ∀ (k n : Nat), vlb (leb k n) = n % 2 ^ (8 * k)
  | 0, n => by simp [leb, vlb, Nat.mod_one]
  | k + 1, n => by
    rw [leb, vlb, vlb_leb k, show 8 * (k + 1) = 8 + 8 * k by omega, Nat.pow_add, show (2 : Nat) ^ 8 = 256 from rfl]
    rw [Nat.mod_mul]
/-- w bits from a place on. -/
def bitsAt (V at' w : Nat) : Nat := V / 2 ^ at' % 2 ^ w
theorem bits_step (V at' got i s : Nat) (h : at' + got = 8 * i + s) (hs : s < 8) : bitsAt V at' (got + (8 - s)) = bitsAt V at' got + 2 ^ got * (V / 2 ^ (8 * i) % 256 / 2 ^ s) := by
  unfold bitsAt
  rw [Nat.pow_add, Nat.mod_mul, Nat.div_div_eq_div_mul, ← Nat.pow_add, h]
  congr 2
  rw [Nat.pow_add, ← Nat.div_div_eq_div_mul]
  generalize V / 2 ^ (8 * i) = B
  have h8 : 256 = 2 ^ s * 2 ^ (8 - s) := by rw [← Nat.pow_add, show s + (8 - s) = 8 by omega]
  rw [h8, Nat.mod_mul_right_div_self]
theorem bitsAt_lt (V at' w : Nat) : bitsAt V at' w < 2 ^ w := Nat.mod_lt _ (Nat.two_pow_pos _)
theorem or_bits (d x got : Nat) (hd : d < 2 ^ got) (hg : got < 64) : bits .or .u64 (d : Int) (IntKind.u64.wrap ((x : Int) * 2 ^ got)) = (((d + 2 ^ got * x) % 18446744073709551616 : Nat) : Int) := by
  have h64 : 18446744073709551616 = 2 ^ got * 2 ^ (64 - got) := by rw [← Nat.pow_add, show got + (64 - got) = 64 by omega]
  have hd64 : d < 18446744073709551616 := Nat.lt_of_lt_of_le hd (by rw [h64]; exact Nat.le_mul_of_pos_right _ (Nat.two_pow_pos _))
  rw [wrap_shl, bits_or_u64_nat _ _ hd64 (Nat.mod_lt _ (by decide))]
  congr 1
  have e : x * 2 ^ got % 18446744073709551616 = 2 ^ got * (x % 2 ^ (64 - got)) := by
    rw [h64, Nat.mul_comm x, Nat.mul_mod_mul_left]
  rw [e, Nat.or_comm, ← Nat.two_pow_add_eq_or_of_lt hd]
  have hr : x % 2 ^ (64 - got) < 2 ^ (64 - got) := Nat.mod_lt _ (Nat.two_pow_pos _)
  have hx := Nat.mod_add_div x (2 ^ (64 - got))
  generalize x % 2 ^ (64 - got) = r at *
  have h1 : d + 2 ^ got * x = 2 ^ got * r + d + 18446744073709551616 * (x / 2 ^ (64 - got)) := by
    rw [h64]
    have : 2 ^ got * x = 2 ^ got * r + 2 ^ got * 2 ^ (64 - got) * (x / 2 ^ (64 - got)) := by
      rw [Nat.mul_assoc, ← Nat.mul_add, hx]
    omega
  rw [h1, Nat.add_mul_mod_self_left]
  have h2 : 2 ^ got * (r + 1) ≤ 2 ^ got * 2 ^ (64 - got) := Nat.mul_le_mul_left _ hr
  rw [← h64, Nat.mul_add] at h2
  rw [Nat.mod_eq_of_lt (by omega)]
theorem mask_w (d w : Nat) (hw : w ≤ 64) (hd : d < 18446744073709551616) : bits .and .u64 (d : Int) (IntKind.u64.wrap (IntKind.u64.wrap (2 ^ w) - 1)) = ((d % 2 ^ w : Nat) : Int) := by
  have hp : 0 < 2 ^ w := Nat.two_pow_pos _
  have hle : 2 ^ w ≤ 18446744073709551616 := by
    have : 2 ^ w ≤ 2 ^ 64 := Nat.pow_le_pow_right (by decide) hw
    exact this
  have e : IntKind.u64.wrap (IntKind.u64.wrap (2 ^ w) - 1) = ((2 ^ w - 1 : Nat) : Int) := by
    rw [show ((2 : Int) ^ w) = ((2 ^ w : Nat) : Int) from (Int.natCast_pow 2 w).symm, IntKind.wrap_u64, IntKind.wrap_u64]
    omega
  rw [e, bits_and_u64_nat _ _ hd (by omega), Nat.and_two_pow_sub_one_eq_mod]
end Col

theorem shr_u8 (b s : Nat) (hb : b < 256) (hs : s < 8) : ((b : Int) / 2 ^ s) = ((b / 2 ^ s : Nat) : Int) := by rw [Int.natCast_ediv, Int.natCast_pow]; rfl
def GB (V at' w : Nat) (w0 : World) (u v : Value) (wr : World) : Prop := ∃ (got d : Nat), v = .int .i64 (got : Int) ∧ u = .int .u64 (d : Int) ∧ d = bitsAt V at' got % 18446744073709551616 ∧ got ≤ w + 7 ∧ (got = 0 ∨ (at' + got) % 8 = 0) ∧ w0 = wr
set_option maxHeartbeats 2000000 in
theorem getBits_any (A : Option Addr) (K C V at' w : Nat) (hw : w ≤ 64) (hK : K ≤ 100000000) (hat : at' + w ≤ 8 * K) (hV : Hid (V < 2 ^ (8 * K))) (W : World) (HA : Hid (ByAt W A (leb K V))) :
    Calls Try.prog 93 #[.slice A K C, .int .i64 (at' : Int), .int .i64 (w : Int)] W fun e w' => e = .returned (.int .u64 (bitsAt V at' w : Nat)) ∧ W = w' := by
  go_enter Try.func93, Try.ntmps93
  go_wp2
  go_loopw [7, 8] (fun u v wr => GB V at' w W u v wr) (fun _ v _ => w - (intOf v).toNat)
  case atStart => exact ⟨0, 0, rfl, rfl, by unfold bitsAt; simp [Nat.mod_one], by omega, .inl rfl, rfl⟩
  case round =>
    obtain ⟨got, d, rfl, rfl, hd, hgw, hgm, rfl⟩ := hrel
    have HD := Lib.hid hd
    have HGM := Lib.hid hgm
    clear hd hgm
    by_cases hlt : got < w
    · obtain ⟨i, hi⟩ : ∃ i, i = (at' + got) / 8 := ⟨_, rfl⟩
      obtain ⟨s, hs⟩ : ∃ s, s = (at' + got) % 8 := ⟨_, rfl⟩
      have hs8 : s < 8 := by omega
      have his : at' + got = 8 * i + s := by omega
      have hiK : i < K := by omega
      have hiKi : (i : Int) < (K : Int) := by omega
      obtain ⟨b, hb⟩ : ∃ b, b = V / 2 ^ (8 * i) % 256 := ⟨_, rfl⟩
      obtain ⟨hb256, g, off, rfl, -, hc⟩ := HA.out i b (by rw [hb]; exact leb_get K V i hiK)
      obtain ⟨x, hx⟩ : ∃ x, x = b / 2 ^ s := ⟨_, rfl⟩
      have hshr := shr_u8 b s hb256 hs8
      rw [← hx] at hshr
      have hx256 : x < 256 := by rw [hx]; exact Nat.lt_of_le_of_lt (Nat.div_le_self _ _) hb256
      have hdlt : d < 2 ^ got := by rw [HD.out]; exact Nat.lt_of_le_of_lt (Nat.mod_le _ _) (bitsAt_lt V at' got)
      have hor := or_bits d x got hdlt (by omega)
      obtain ⟨d2, hd2⟩ : ∃ d2, d2 = (d + 2 ^ got * x) % 18446744073709551616 := ⟨_, rfl⟩
      rw [← hd2] at hor
      have HD2 : Hid (d2 = bitsAt V at' (got + (8 - s)) % 18446744073709551616) := Lib.hid (by
        rw [bits_step V at' got i s his hs8, ← hb, ← hx, hd2, HD.out, Nat.mod_add_mod])
      obtain ⟨p, hp⟩ : ∃ p, p = at' + got := ⟨_, rfl⟩
      have hpi : (at' : Int) + (got : Int) = (p : Int) := by omega
      have hqi : (p : Int) / 8 = (i : Int) := by omega
      have hqs : (p : Int) % 8 = (s : Int) := by omega
      have hqi2 : (p : Int).tdiv 8 = (i : Int) := by rw [Int.tdiv_eq_ediv_of_nonneg (by omega)]; exact hqi
      have hqs2 : (p : Int).tmod 8 = (s : Int) := by rw [Int.tmod_eq_emod_of_nonneg (by omega)]; exact hqs
      have hp9 : p ≤ 1000000000 := by omega
      have hxw : IntKind.u64.wrap (x : Int) = (x : Int) := by rw [IntKind.wrap_u64]; omega
      have HIS : Hid ((at' + (got + (8 - s))) % 8 = 0) := Lib.hid (by omega)
      obtain ⟨t, ht⟩ : ∃ t, t = 8 - s := ⟨_, rfl⟩
      have hti : (8 : Int) - (s : Int) = (t : Int) := by omega
      rw [← ht] at HD2 HIS
      have ht8 : t ≤ 8 := by omega
      have ht1 : 1 ≤ t := by omega
      have hg64 : (got : Int) < 64 := by omega
      have hs64 : (s : Int) < 64 := by omega
      clear hi hs his hb hx hd2 hp ht hdlt
      go_wp2
      go_roundw
      case rel => exact ⟨got + t, d2, by go_num, rfl, HD2.out, by omega, .inr HIS.out, by trivial⟩
      case measure => simp [intOf]; omega
    · have hd64 : d < 18446744073709551616 := by rw [HD.out]; exact Nat.mod_lt _ (by decide)
      have hmask := mask_w d w hw hd64
      have HM : Hid (d % 2 ^ w = bitsAt V at' w) := Lib.hid (by
        rw [HD.out]
        unfold bitsAt
        have h1 : 2 ^ w ∣ 18446744073709551616 := ⟨2 ^ (64 - w), by rw [← Nat.pow_add, show w + (64 - w) = 64 by omega]⟩
        have h2 : 2 ^ w ∣ 2 ^ got := ⟨2 ^ (got - w), by rw [← Nat.pow_add, show w + (got - w) = got by omega]⟩
        rw [Nat.mod_mod_of_dvd _ h1, Nat.mod_mod_of_dvd _ h2])
      rw [HM.out] at hmask
      have hw64 : (w : Int) ≤ 64 := by omega
      go_wp2
      go_ret
      exact ⟨rfl, rfl⟩
end Go.Proofs.Ytlhaedcoompjpaa
