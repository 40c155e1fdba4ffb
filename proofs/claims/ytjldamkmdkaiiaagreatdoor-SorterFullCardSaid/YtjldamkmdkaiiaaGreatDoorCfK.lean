/-
  Layer column: numbers read plain, and as distances.
-/
import Derived.Test.YtjldamkmdkaiiaaGreatDoorCyK
import Derived.Test.YtjldamkmdkaiiaaGreatDoorCaK
import Derived.Test.YtjldamkmdkaiiaaGreatDoorTkK
set_option linter.unusedSimpArgs false
set_option linter.unusedVariables false
set_option maxRecDepth 8000
namespace Go.Proofs.YtjldamkmdkaiiaaGreatDoor
open Go.RowKit Go.WideShapes Col
namespace Col
def runS {σ α : Type} (step : σ → Option (α × σ)) : Nat → σ → Option (List α × σ)
 | 0, s => some ([], s)
 | k + 1, s => (runS step k s).bind fun p => (step p.2).map fun r => (p.1 ++ [r.1], r.2)
theorem runS_some {σ α : Type} {step : σ → Option (α × σ)} {k : Nat} {s s' s2 : σ} {xs : List α} {x : α} (h : runS step k s = some (xs, s')) (h2 : step s' = some (x, s2)) : runS step (k + 1) s = some (xs ++ [x], s2) := by
 rw [runS, h]; simp [h2]
theorem runS_none {σ α : Type} {step : σ → Option (α × σ)} {k : Nat} {s s' : σ} {xs : List α} (h : runS step k s = some (xs, s')) (h2 : step s' = none) : ∀ n, k < n → runS step n s = none := by
 intro n hn
 induction n with
 | zero => omega
 | succ n ih =>
  by_cases hk : k = n
  ·subst hk; rw [runS, h]; simp [h2]
  ·rw [runS, ih (by omega)]; rfl
theorem runS_len {σ α : Type} {step : σ → Option (α × σ)} : ∀ {k : Nat} {s s' : σ} {xs : List α}, runS step k s = some (xs, s') → xs.length = k
 | 0, s, s', xs, h => by rw [runS] at h; injection h with h; injection h with h1 h2; rw [← h1]; rfl
 | k + 1, s, s', xs, h => by
  rw [runS] at h
  rcases hr : runS step k s with _ | ⟨ys, s1⟩
  ·rw [hr] at h; cases h
  ·rw [hr] at h
   simp only [Option.bind_some] at h
   rcases hs : step s1 with _ | ⟨x, s2⟩
   ·rw [hs] at h; cases h
   ·rw [hs] at h; injection h with h; injection h with h1 h2
    rw [← h1, List.length_append, runS_len hr]; rfl
end Col
def RowI (w : World) (g : Nat) (l : List Int) : Prop := w.heap[g]? = some (.cells (ivs l).toArray 2 (0, 0))
section
variable {w : World} {g : Nat} {l : List Int}
theorem RowI.fr (h : RowI w g l) (i : Nat) : w.frozen? ⟨g, i, none⟩ = false := row_frozen h i
theorem RowI.at (h : RowI w g l) (i : Nat) (hi : i < l.length) : ∃ u, w.cell? ⟨g, i, none⟩ = some u := by
 rw [cell_of_row _ _ _ _ _ _ h, List.getElem?_toArray]
 exact ⟨_, List.getElem?_eq_getElem (by rw [ivs_length]; exact hi)⟩
theorem RowI.set (h : RowI w g l) (i : Nat) (x : Int) : RowI (w.setCell ⟨g, i, none⟩ (.int .i64 x)) g (l.set i x) := by
 unfold RowI at *
 rw [World.setCell]
 simp only [Array.getElem?_modify, if_pos, h, Option.map_some]
 have e : (ivs l).toArray.setIfInBounds i (.int .i64 x) = (ivs (l.set i x)).toArray := by
  unfold ivs; rw [List.map_set]; simp; rfl
 simp [e]
theorem RowI.keep {S : Nat → Prop} {w' : World} (h : RowI w g l) (hk : Kept S w w') (hg : ¬ S g) : RowI w' g l := hk.heap h hg
theorem RowI.own {B : Nat} (h : RowI w g l) (hB : B ≤ g) (hl : ∀ x ∈ l, Wf64 x) (hm : l.length ≤ maxLen) : OwnI w B (some ⟨g, 0, none⟩) l.length l.length l := by
 refine ⟨⟨by rw [ivs_length]; omega, .inr ⟨g, l.length, _, rfl, hB, h, Nat.le_refl _, hm, by simp [ivs_length], by rw [Nat.mul_one]; simp [ivs_length, List.take_of_length_le]⟩⟩, hl⟩
end
theorem rowI_zeros {w : World} {B g q : Nat} (h : w.ownsRow B 2 1 (.slice (some ⟨g, 0, none⟩) q q) q (madeCells (Value.int .i64 0).cells (q * 1)).toList) : RowI w g (List.replicate q 0) := by
 have e : ivs (List.replicate q 0) = List.replicate q (.int .i64 0) := by unfold ivs; rw [List.map_replicate]; rfl
 rw [Nat.mul_one, show (Value.int .i64 0).cells = #[.int .i64 0] from rfl, toList_madeCells_one, ← e] at h
 rcases h.2 with ⟨h1, h2⟩ | ⟨g', cap', cur, h1, hb, hrow, -, -, hs, ht⟩
 ·cases h1
 ·cases h1
  unfold RowI
  rw [hrow]
  have hc : cur = (ivs (List.replicate q 0)).toArray := by
   apply Array.ext'
   rw [← ht, Nat.mul_one, List.take_of_length_le (by rw [Array.length_toList, hs]; omega)]
  rw [hc]
theorem fill_set (xs : List Int) (n k : Nat) (hx : xs.length = k) (hk : k < n) (x : Int) : (xs ++ List.replicate (n - k) 0).set k x = (xs ++ [x]) ++ List.replicate (n - (k + 1)) 0 := by
 obtain ⟨m, rfl⟩ : ∃ m, n = k + 1 + m := ⟨n - k - 1, by omega⟩
 rw [show k + 1 + m - k = m + 1 by omega, show k + 1 + m - (k + 1) = m by omega, List.replicate_succ, List.set_append_right _ _ (by omega), hx, Nat.sub_self, List.set_cons_zero, List.append_assoc]; rfl
def StepEnds {σ : Type} (g : Nat) (Sw : Nat → Prop) (St : σ → World → Prop) (o : Option (Int × σ)) (w : World) (e : Ending) (w' : World) : Prop :=
 match o with
 | some p => e = .returned (.int .i64 p.1) ∧ Wf64 p.1 ∧ St p.2 w' ∧ Kept Sw w w'
 | none => e = .panicked [gu g] ∧ Gone w' g ∧ Kept Sw w w'
def ListEnds {σ : Type} (g : Nat) (Sw : Nat → Prop) (St : σ → World → Prop) (o : Option (List Int × σ)) (w : World) (e : Ending) (w' : World) : Prop :=
 match o with
 | some p => (∃ A n cap, e = .returned (.slice A n cap) ∧ OwnI w' w.heap.size A n cap p.1) ∧ St p.2 w' ∧ Kept Sw w w'
 | none => e = .panicked [gu g] ∧ Gone w' g ∧ Kept Sw w w'
def RT {σ : Type} (Sw : Nat → Prop) (St : σ → World → Prop) (step : σ → Option (Int × σ)) (n : Nat) (w : World) (s0 : σ) (v : Value) (wr : World) : Prop :=
 ∃ (k : Nat) (xs : List Int) (s : σ), k ≤ n ∧ v = .int .i64 (k : Int) ∧ runS step k s0 = some (xs, s) ∧ (∀ x ∈ xs, Wf64 x) ∧ RowI wr w.heap.size (xs ++ List.replicate (n - k) 0) ∧ St s wr ∧ Kept Sw w wr ∧ w.heap.size < wr.heap.size
theorem infoI64' : (Tryz.prog.info? 2).map (fun i => (i.zero, i.size, i.bytes)) = some (some (.int .i64 0), 1, 8) := by kernel_rfl
set_option maxHeartbeats 2000000 in
theorem times_any {σ : Type} (step : σ → Option (Int × σ)) (F : Nat) (first cap : Array Value) (hent : ∀ (args : Array Value) (w : World), (callFunc F args).run Tryz.prog w = .ok (.enter F args) w)
  (n : Nat) (hn : n ≤ 4096) (g : Nat) (Sw : Nat → Prop) (St : σ → World → Prop) (w : World) (hSw : Hid (∀ k, Sw k → k < w.heap.size)) (hkeep : Hid (∀ s w1 w2, St s w1 → Kept (fun j => w.heap.size ≤ j) w1 w2 → St s w2))
  (s0 : σ) (hstep : Hid (∀ k xs s w1, k < n → runS step k s0 = some (xs, s) → St s w1 → w.heap.size ≤ w1.heap.size → Calls Tryz.prog F (first ++ cap) w1 (StepEnds g Sw St (step s) w1))) (h0 : Hid (St s0 w)) :
  Calls Tryz.prog 173 #[.int .i64 (n : Int), .func (.func F) first cap] w (ListEnds g Sw St (runS step n s0) w) := by
 obtain ⟨iu, hiu, hz0, hz1, hz2⟩ := info_parts infoI64'
 have hzb : iu.bytes * n ≤ 281474976710656 := by rw [hz2]; omega
 have hnm : n ≤ maxLen := by unfold maxLen; omega
 go_enter Tryz.func173, Tryz.ntmps173
 go_wp2_with (refine wpList_make_full _ rfl (.tmp 7) (.tmp 7) 119 rfl w.heap.size 2 iu (.int .i64 0) 1 Tryz.underlying119 hiu hz0 hz1 .i64 .i64 _ _ n rfl rfl rfl rfl hzb hnm (Nat.le_refl _) ?_; intro w1 own hgr; have HRI := Lib.hid (rowI_zeros own); have HB1 : Hid (Below w.heap.size w w1) := Lib.hid ((Below.refl _ w).grown hgr (Nat.le_refl _) (by intro k hk; cases hk)); clear own hgr)
 have HST : Hid (RT Sw St step n w s0 (.int .i64 0) w1) := Lib.hid ⟨0, [], s0, Nat.zero_le _, rfl, rfl, (fun x hx => by cases hx), by simpa using HRI.out, hkeep.out _ _ _ h0.out (Kept.of_below HB1.out), Kept.of_below HB1.out, (Array.getElem?_eq_some_iff.1 HRI.out).1⟩
 obtain ⟨L, hL⟩ : ∃ L, L = w.heap.size := ⟨_, rfl⟩
 have HL := Lib.hid hL
 rw [← hL]
 clear hL HRI HB1
 go_loopw [11] (fun v wr => RT Sw St step n w s0 v wr) (fun v _ => n - (intOf v).toNat)
 case atStart => exact HST.out
 case round =>
  obtain ⟨k, xs, s, hk, rfl, hrun, hwf, hrow, hst, hkp, hsz⟩ := hrel
  have HRUN := Lib.hid hrun; have HWF := Lib.hid hwf; have HST2 := Lib.hid hst; have HK := Lib.hid hkp; have HSZ := Lib.hid hsz
  have HROW : Hid (RowI wr L (xs ++ List.replicate (n - k) 0)) := Lib.hid (HL.out ▸ hrow)
  have HXL := Lib.hid (runS_len hrun)
  clear hrun hwf hst hkp hrow HST hsz
  by_cases hlt : k < n
  ·have HC := Lib.hid (hstep.out k xs s wr hlt HRUN.out HST2.out (Nat.le_of_lt HSZ.out))
   have HNS : Hid (¬ Sw L) := Lib.hid fun h => by have := hSw.out L h; have := HL.out; omega
   rcases hs : step s with _ | ⟨x, s'⟩
   ·have HN := Lib.hid (runS_none HRUN.out hs n hlt)
    rw [hs] at HC
    have HC2 : Hid (Calls Tryz.prog F (first ++ cap) wr fun e w' => e = .panicked [gu g] ∧ Gone w' g ∧ Kept Sw wr w') := HC
    clear hs HC
    go_wp2_with ((with_reducible refine (HC2.out).mono ?_); rintro e w2 ⟨rfl, h1, h2⟩)
    rw [HN.out]
    exact ⟨rfl, rfl, h1, HK.out.trans h2⟩
   ·have HN := Lib.hid (runS_some HRUN.out hs)
    rw [hs] at HC
    have HC2 : Hid (Calls Tryz.prog F (first ++ cap) wr fun e w' => e = .returned (.int .i64 x) ∧ Wf64 x ∧ St s' w' ∧ Kept Sw wr w') := HC
    have HSET := Lib.hid (fill_set xs n k HXL.out hlt x)
    clear hs HC
    go_wp2_with ((with_reducible refine (HC2.out).mono ?_); rintro e w2 ⟨rfl, h1, h2, h3⟩; have HR2 : Hid (RowI w2 L _) := Lib.hid (HROW.out.keep h3 HNS.out); have HWX := Lib.hid h1; have HS2 := Lib.hid h2; have HK2 := Lib.hid h3; have f2 := HR2.out.fr k; obtain ⟨u2, c2⟩ := HR2.out.at k (by rw [List.length_append, List.length_replicate, HXL.out]; omega); clear h1 h2 h3)
    go_roundw
    case rel =>
     have hk2 : Kept (fun j => w.heap.size ≤ j) w2 (w2.setCell ⟨L, k, none⟩ (.int .i64 x)) := (Kept.refl _ _).setCell _ _ (.inl (by rw [HL.out]; exact Nat.le_refl _))
     refine ⟨k + 1, xs ++ [x], s', by omega, by go_num, HN.out, fun y hy => ?_, ?_, hkeep.out _ _ _ HS2.out hk2, (HK.out.trans HK2.out).trans' hk2 (fun i hi => .inr hi), ?_⟩
     ·rcases List.mem_append.1 hy with h | h
      ·exact HWF.out y h
      ·rw [List.mem_singleton.1 h]; exact HWX.out
     ·rw [← HSET.out, ← HL.out]; exact HR2.out.set k x
     ·rw [setCell_size]; exact Nat.lt_of_lt_of_le HSZ.out HK2.out.size
    case measure => simp [intOf]; omega
  ·obtain rfl : k = n := by omega
   go_wp2
   go_ret
   rw [HRUN.out]
   have hr := HROW.out
   rw [Nat.sub_self, List.replicate_zero, List.append_nil] at hr
   have ho := hr.own (B := w.heap.size) (by rw [HL.out]; exact Nat.le_refl _) HWF.out (by rw [HXL.out]; exact hnm)
   rw [HXL.out] at ho
   exact ⟨⟨_, _, _, rfl, ho⟩, HST2.out, HK.out⟩
namespace Col
def vlb : List Nat → Nat
 | [] => 0
 | b :: r => b + 256 * vlb r
theorem leb_vlb : ∀ l : List Nat, (∀ x ∈ l, x < 256) → leb l.length (vlb l) = l
 | [], _ => rfl
 | b :: r, h => by
  have hb := h b (List.mem_cons_self ..)
  rw [List.length_cons, leb, vlb, Nat.add_mul_mod_self_left, Nat.mod_eq_of_lt hb, Nat.add_mul_div_left _ _ (by decide), Nat.div_eq_of_lt hb, Nat.zero_add, leb_vlb r fun x hx => h x (List.mem_cons_of_mem _ hx)]
theorem vlb_lt : ∀ l : List Nat, (∀ x ∈ l, x < 256) → vlb l < 2 ^ (8 * l.length)
 | [], _ => by simp [vlb]
 | b :: r, h => by
  have hb := h b (List.mem_cons_self ..)
  have hr := vlb_lt r fun x hx => h x (List.mem_cons_of_mem _ hx)
  rw [List.length_cons, vlb, show 8 * (r.length + 1) = 8 + 8 * r.length by omega, Nat.pow_add]
  have : 2 ^ 8 * (vlb r + 1) ≤ 2 ^ 8 * 2 ^ (8 * r.length) := Nat.mul_le_mul_left _ hr
  omega
theorem vlb_leb : ∀ (k n : Nat), vlb (leb k n) = n % 2 ^ (8 * k)
 | 0, n => by simp [leb, vlb, Nat.mod_one]
 | k + 1, n => by
  rw [leb, vlb, vlb_leb k, show 8 * (k + 1) = 8 + 8 * k by omega, Nat.pow_add, show (2 : Nat) ^ 8 = 256 from rfl]
  rw [Nat.mod_mul]
def bitsAt (V at' w : Nat) : Nat := V / 2 ^ at' % 2 ^ w
theorem bits_step (V at' got i s : Nat) (h : at' + got = 8 * i + s) (hs : s < 8) : bitsAt V at' (got + (8 - s)) = bitsAt V at' got + 2 ^ got * (V / 2 ^ (8 * i) % 256 / 2 ^ s) := by
 unfold bitsAt
 rw [Nat.pow_add, Nat.mod_mul, Nat.div_div_eq_div_mul, ← Nat.pow_add, h]
 congr 2
 rw [Nat.pow_add, ← Nat.div_div_eq_div_mul]
 generalize V / 2 ^ (8 * i) = B
 have h8 : 256 = 2 ^ s * 2 ^ (8 - s) := by rw [← Nat.pow_add, show s + (8 - s) = 8 by omega]
 rw [h8, Nat.mod_mul_right_div_self]
theorem bitsAt_lt (V at' w : Nat) : bitsAt V at' w < 2 ^ w := Nat.mod_lt _ (Nat.two_pow_pos _)
theorem or_bits (d x got : Nat) (hd : d < 2 ^ got) (hg : got < 64) : bits .or .u64 (d : Int) (IntKind.u64.wrap ((x : Int) * 2 ^ got)) = (((d + 2 ^ got * x) % 18446744073709551616 : Nat) : Int) := by
 have h64 : 18446744073709551616 = 2 ^ got * 2 ^ (64 - got) := by rw [← Nat.pow_add, show got + (64 - got) = 64 by omega]
 have hd64 : d < 18446744073709551616 := Nat.lt_of_lt_of_le hd (by rw [h64]; exact Nat.le_mul_of_pos_right _ (Nat.two_pow_pos _))
 rw [wrap_shl, bits_or_u64_nat _ _ hd64 (Nat.mod_lt _ (by decide))]
 congr 1
 have e : x * 2 ^ got % 18446744073709551616 = 2 ^ got * (x % 2 ^ (64 - got)) := by
  rw [h64, Nat.mul_comm x, Nat.mul_mod_mul_left]
 rw [e, Nat.or_comm, ← Nat.two_pow_add_eq_or_of_lt hd]
 have hr : x % 2 ^ (64 - got) < 2 ^ (64 - got) := Nat.mod_lt _ (Nat.two_pow_pos _)
 have hx := Nat.mod_add_div x (2 ^ (64 - got))
 generalize x % 2 ^ (64 - got) = r at *
 have h1 : d + 2 ^ got * x = 2 ^ got * r + d + 18446744073709551616 * (x / 2 ^ (64 - got)) := by
  rw [h64]
  have : 2 ^ got * x = 2 ^ got * r + 2 ^ got * 2 ^ (64 - got) * (x / 2 ^ (64 - got)) := by
   rw [Nat.mul_assoc, ← Nat.mul_add, hx]
  omega
 rw [h1, Nat.add_mul_mod_self_left]
 have h2 : 2 ^ got * (r + 1) ≤ 2 ^ got * 2 ^ (64 - got) := Nat.mul_le_mul_left _ hr
 rw [← h64, Nat.mul_add] at h2
 rw [Nat.mod_eq_of_lt (by omega)]
theorem mask_w (d w : Nat) (hw : w ≤ 64) (hd : d < 18446744073709551616) : bits .and .u64 (d : Int) (IntKind.u64.wrap (IntKind.u64.wrap (2 ^ w) - 1)) = ((d % 2 ^ w : Nat) : Int) := by
 have hp : 0 < 2 ^ w := Nat.two_pow_pos _
 have hle : 2 ^ w ≤ 18446744073709551616 := by
  have : 2 ^ w ≤ 2 ^ 64 := Nat.pow_le_pow_right (by decide) hw
  exact this
 have e : IntKind.u64.wrap (IntKind.u64.wrap (2 ^ w) - 1) = ((2 ^ w - 1 : Nat) : Int) := by
  rw [show ((2 : Int) ^ w) = ((2 ^ w : Nat) : Int) from (Int.natCast_pow 2 w).symm, IntKind.wrap_u64, IntKind.wrap_u64]
  omega
 rw [e, bits_and_u64_nat _ _ hd (by omega), Nat.and_two_pow_sub_one_eq_mod]
end Col
theorem shr_u8 (b s : Nat) (hb : b < 256) (hs : s < 8) : ((b : Int) / 2 ^ s) = ((b / 2 ^ s : Nat) : Int) := by rw [Int.natCast_ediv, Int.natCast_pow]; rfl
def GB (V at' w : Nat) (w0 : World) (u v : Value) (wr : World) : Prop := ∃ (got d : Nat), v = .int .i64 (got : Int) ∧ u = .int .u64 (d : Int) ∧ d = bitsAt V at' got % 18446744073709551616 ∧ got ≤ w + 7 ∧ (got = 0 ∨ (at' + got) % 8 = 0) ∧ w0 = wr
set_option maxHeartbeats 2000000 in
theorem getBits_any (A : Option Addr) (K C V at' w : Nat) (hw : w ≤ 64) (hK : K ≤ 100000000) (hat : at' + w ≤ 8 * K) (hV : Hid (V < 2 ^ (8 * K))) (W : World) (HA : Hid (ByAt W A (leb K V))) :
  Calls Tryz.prog 193 #[.slice A K C, .int .i64 (at' : Int), .int .i64 (w : Int)] W fun e w' => e = .returned (.int .u64 (bitsAt V at' w : Nat)) ∧ W = w' := by
 go_enter Tryz.func193, Tryz.ntmps193
 go_wp2
 go_loopw [7, 8] (fun u v wr => GB V at' w W u v wr) (fun _ v _ => w - (intOf v).toNat)
 case atStart => exact ⟨0, 0, rfl, rfl, by unfold bitsAt; simp [Nat.mod_one], by omega, .inl rfl, rfl⟩
 case round =>
  obtain ⟨got, d, rfl, rfl, hd, hgw, hgm, rfl⟩ := hrel
  have HD := Lib.hid hd
  have HGM := Lib.hid hgm
  clear hd hgm
  by_cases hlt : got < w
  ·obtain ⟨i, hi⟩ : ∃ i, i = (at' + got) / 8 := ⟨_, rfl⟩
   obtain ⟨s, hs⟩ : ∃ s, s = (at' + got) % 8 := ⟨_, rfl⟩
   have hs8 : s < 8 := by omega
   have his : at' + got = 8 * i + s := by omega
   have hiK : i < K := by omega
   have hiKi : (i : Int) < (K : Int) := by omega
   obtain ⟨b, hb⟩ : ∃ b, b = V / 2 ^ (8 * i) % 256 := ⟨_, rfl⟩
   obtain ⟨hb256, g, off, rfl, -, hc⟩ := HA.out i b (by rw [hb]; exact leb_get K V i hiK)
   obtain ⟨x, hx⟩ : ∃ x, x = b / 2 ^ s := ⟨_, rfl⟩
   have hshr := shr_u8 b s hb256 hs8
   rw [← hx] at hshr
   have hx256 : x < 256 := by rw [hx]; exact Nat.lt_of_le_of_lt (Nat.div_le_self _ _) hb256
   have hdlt : d < 2 ^ got := by rw [HD.out]; exact Nat.lt_of_le_of_lt (Nat.mod_le _ _) (bitsAt_lt V at' got)
   have hor := or_bits d x got hdlt (by omega)
   obtain ⟨d2, hd2⟩ : ∃ d2, d2 = (d + 2 ^ got * x) % 18446744073709551616 := ⟨_, rfl⟩
   rw [← hd2] at hor
   have HD2 : Hid (d2 = bitsAt V at' (got + (8 - s)) % 18446744073709551616) := Lib.hid (by
    rw [bits_step V at' got i s his hs8, ← hb, ← hx, hd2, HD.out, Nat.mod_add_mod])
   obtain ⟨p, hp⟩ : ∃ p, p = at' + got := ⟨_, rfl⟩
   have hpi : (at' : Int) + (got : Int) = (p : Int) := by omega
   have hqi : (p : Int) / 8 = (i : Int) := by omega
   have hqs : (p : Int) % 8 = (s : Int) := by omega
   have hqi2 : (p : Int).tdiv 8 = (i : Int) := by rw [Int.tdiv_eq_ediv_of_nonneg (by omega)]; exact hqi
   have hqs2 : (p : Int).tmod 8 = (s : Int) := by rw [Int.tmod_eq_emod_of_nonneg (by omega)]; exact hqs
   have hp9 : p ≤ 1000000000 := by omega
   have hxw : IntKind.u64.wrap (x : Int) = (x : Int) := by rw [IntKind.wrap_u64]; omega
   have HIS : Hid ((at' + (got + (8 - s))) % 8 = 0) := Lib.hid (by omega)
   obtain ⟨t, ht⟩ : ∃ t, t = 8 - s := ⟨_, rfl⟩
   have hti : (8 : Int) - (s : Int) = (t : Int) := by omega
   rw [← ht] at HD2 HIS
   have ht8 : t ≤ 8 := by omega
   have ht1 : 1 ≤ t := by omega
   have hg64 : (got : Int) < 64 := by omega
   have hs64 : (s : Int) < 64 := by omega
   clear hi hs his hb hx hd2 hp ht hdlt
   go_wp2
   go_roundw
   case rel => exact ⟨got + t, d2, by go_num, rfl, HD2.out, by omega, .inr HIS.out, by trivial⟩
   case measure => simp [intOf]; omega
  ·have hd64 : d < 18446744073709551616 := by rw [HD.out]; exact Nat.mod_lt _ (by decide)
   have hmask := mask_w d w hw hd64
   have HM : Hid (d % 2 ^ w = bitsAt V at' w) := Lib.hid (by
    rw [HD.out]
    unfold bitsAt
    have h1 : 2 ^ w ∣ 18446744073709551616 := ⟨2 ^ (64 - w), by rw [← Nat.pow_add, show w + (64 - w) = 64 by omega]⟩
    have h2 : 2 ^ w ∣ 2 ^ got := ⟨2 ^ (got - w), by rw [← Nat.pow_add, show w + (got - w) = got by omega]⟩
    rw [Nat.mod_mod_of_dvd _ h1, Nat.mod_mod_of_dvd _ h2])
   rw [HM.out] at hmask
   have hw64 : (w : Int) ≤ 64 := by omega
   go_wp2
   go_ret
   exact ⟨rfl, rfl⟩
namespace Col
theorem grp_left {q r : List Nat} {n k : Nat} (h : grp k q = some (n, r)) : r.length ≤ q.length := by
 obtain ⟨-, -, m, -, rfl, -⟩ := grp_lt q k n r h
 rw [List.length_drop]; omega
theorem uP_left {most n : Nat} {q r : List Nat} (h : uP most q = some (n, r)) : r.length ≤ q.length := grp_left (uP_some h).1
theorem zP_left {x : Int} {q r : List Nat} (h : zP q = some (x, r)) : r.length ≤ q.length := by
 obtain ⟨n, h1, -⟩ := zP_some h
 exact grp_left h1
theorem uz_wf {n : Nat} (h : n < 18446744073709551616) : Wf64 (uz n) := by
 unfold uz Wf64; split <;> omega
theorem zP_wf {x : Int} {q r : List Nat} (h : zP q = some (x, r)) (hq : ∀ x ∈ q, x < 256) : Wf64 x := by
 obtain ⟨n, h1, rfl⟩ := zP_some h
 exact uz_wf (grp_u64 h1 hq)
theorem wrap64_wf' (n : Int) : Wf64 (wrap64 n) := by unfold Wf64 wrap64; omega
def dstep (s : Int × List Nat) : Option (Int × (Int × List Nat)) := (zP s.2).map fun p => (wrap64 (s.1 + p.1), (wrap64 (s.1 + p.1), p.2))
end Col
theorem Rd.high {w w' : World} {g : Nat} {q : List Nat} {S : Nat → Prop} (h : Rd w g q) (hk : Kept S w w') (hS : ∀ k, S k → g < k) : Rd w' g q := by
 obtain ⟨A, C, h⟩ := h
 exact ⟨A, C, h.keep hk (fun e => by have := hS g e; omega) fun a ha h0 hs => by have := h.low a ha h0; have := hS _ hs; omega⟩
theorem Rd.glt {w : World} {g : Nat} {q : List Nat} (h : Rd w g q) : g < w.heap.size := by obtain ⟨A, C, h⟩ := h; exact h.lt
def RdM (g : Nat) (q : List Nat) (w : World) : Prop := Rd w g q ∧ q.length ≤ 1099511627776
theorem plain_step (g : Nat) (q : List Nat) (w1 : World) (h : RdM g q w1) : Calls Tryz.prog 174 #[.pointer (some ⟨g, 0, none⟩)] w1 (StepEnds g (Only g) (RdM g) (zP q) w1) := by
 rcases hz : zP q with _ | ⟨x, r⟩
 ·exact int_no g q (Lib.hid hz) q.length (Lib.hid rfl) h.2 w1 (Lib.hid h.1)
 ·refine (int_yes g x q r (Lib.hid hz) (by have := h.2; omega) w1 (Lib.hid h.1)).mono ?_
  rintro e w' ⟨he, h1, h2⟩
  exact ⟨he, zP_wf hz h.1.lt, ⟨h1, Nat.le_trans (zP_left hz) h.2⟩, h2⟩
theorem plain_any (g : Nat) (n : Nat) (hn : n ≤ 4096) (q : List Nat) (w : World) (H : Hid (RdM g q w)) :
  Calls Tryz.prog 173 #[.int .i64 (n : Int), .func (.func 174) #[.pointer (some ⟨g, 0, none⟩)] #[]] w (ListEnds g (Only g) (RdM g) (runS zP n q) w) := by
 refine times_any zP 174 #[.pointer (some ⟨g, 0, none⟩)] #[] (fun _ _ => by first | rfl | kernel_rfl) n hn g (Only g) (RdM g) w (Lib.hid fun k hk => ?_) (Lib.hid fun s w1 w2 h hk => ⟨h.1.high hk fun k hk => ?_, h.2⟩) q (Lib.hid fun _ _ s w1 _ _ h _ => plain_step g s w1 h) H
 ·have hk : k = g := hk
  subst hk; exact H.out.1.glt
 ·exact Nat.lt_of_lt_of_le H.out.1.glt hk
structure DS (g ah bx : Nat) (s : Int × List Nat) (w : World) : Prop where
 rd : RdM g s.2 w
 ahead : w.heap[ah]? = some (.cells #[.int .i64 s.1] 2 (0, 0))
 box : w.heap[bx]? = some (.cells #[.pointer (some ⟨g, 0, none⟩)] 138 (0, 0))
 n1 : g < ah
 n2 : g < bx
 n3 : ah ≠ bx
theorem DS.keep {g ah bx : Nat} {s : Int × List Nat} {w w' : World} {S : Nat → Prop} (h : DS g ah bx s w) (hk : Kept S w w') (hS : ∀ k, S k → w.heap.size ≤ k ∨ (g < k ∧ k ≠ ah ∧ k ≠ bx)) : DS g ah bx s w' := by
 have hg := h.rd.1.glt
 have ha := (Array.getElem?_eq_some_iff.1 h.ahead).1
 have hb := (Array.getElem?_eq_some_iff.1 h.box).1
 exact ⟨⟨h.rd.1.high hk fun k hs => by have := hS k hs; omega, h.rd.2⟩, hk.heap h.ahead fun e => by have := hS _ e; omega, hk.heap h.box fun e => by have := hS _ e; omega, h.n1, h.n2, h.n3⟩
abbrev Two (g ah : Nat) : Nat → Prop := fun k => k = g ∨ k = ah
theorem one_two {g ah : Nat} {w w' : World} (h : Kept (Only g) w w') : Kept (Two g ah) w w' := h.mono fun k hk => .inl (.inl hk)
theorem DS.c0 {g ah bx : Nat} {s : Int × List Nat} {w : World} (h : DS g ah bx s w) : w.cell? ⟨ah, 0, none⟩ = some (.int .i64 s.1) := by rw [cell_of_row _ _ _ _ _ _ h.ahead]; rfl
theorem DS.cb {g ah bx : Nat} {s : Int × List Nat} {w : World} (h : DS g ah bx s w) : w.cell? ⟨bx, 0, none⟩ = some (.pointer (some ⟨g, 0, none⟩)) := by rw [cell_of_row _ _ _ _ _ _ h.box]; rfl
theorem DS.blt {g ah bx : Nat} {s : Int × List Nat} {w : World} (h : DS g ah bx s w) : bx < w.heap.size := (Array.getElem?_eq_some_iff.1 h.box).1
theorem DS.alt {g ah bx : Nat} {s : Int × List Nat} {w : World} (h : DS g ah bx s w) : ah < w.heap.size := (Array.getElem?_eq_some_iff.1 h.ahead).1
theorem DS.drew {g ah bx : Nat} {s : Int × List Nat} {w : World} (h : DS g ah bx s w) : DS g ah bx s w.drew := h.keep (S := fun _ => False) ((Kept.refl _ _).drew) fun k hk => hk.elim
theorem DS.step {g ah bx : Nat} {a x : Int} {q r : List Nat} {w w1 : World} (h : DS g ah bx (a, q) w) (hr : Rd w1 g r) (hl : r.length ≤ q.length) (hk : Kept (Only g) w w1) : DS g ah bx (x, r) (w1.setCell ⟨ah, 0, none⟩ (.int .i64 x)) ∧ Kept (Two g ah) w (w1.setCell ⟨ah, 0, none⟩ (.int .i64 x)) := by
 have hka : Kept (fun k => k = ah) w1 (w1.setCell ⟨ah, 0, none⟩ (.int .i64 x)) := (Kept.refl _ _).setCell _ _ (.inl rfl)
 refine ⟨⟨⟨hr.high hka fun k hk => by have hk : k = ah := hk; have := h.n1; omega, Nat.le_trans hl h.rd.2⟩, ?_, (hka.heap (hk.heap h.box fun e => by have e : bx = g := e; have := h.n2; omega) fun e => h.n3 e.symm), h.n1, h.n2, h.n3⟩, (one_two hk).setCell _ _ (.inl (.inr rfl))⟩
 have h1 := hk.heap h.ahead fun e => by have e : ah = g := e; have := h.n1; omega
 rw [World.setCell]; simp [Array.getElem?_modify, h1]
set_option maxHeartbeats 2000000 in
theorem delta_step (g ah bx : Nat) (a : Int) (q : List Nat) (w : World) (H : Hid (DS g ah bx (a, q) w)) :
  Calls Tryz.prog 191 #[.pointer (some ⟨ah, 0, none⟩), .pointer (some ⟨bx, 0, none⟩)] w (StepEnds g (Two g ah) (DS g ah bx) (dstep (a, q)) w) := by
 have HD := Lib.hid H.out.drew
 have HKD : Hid (Kept (Two g ah) w w.drew) := Lib.hid ((Kept.refl _ _).drew)
 have HAL := Lib.hid H.out.alt
 have HBL := Lib.hid H.out.blt
 have HCB := Lib.hid H.out.cb
 have HCA := Lib.hid H.out.c0
 have HN := Lib.hid (show ¬ Only g bx from fun e => by have e : bx = g := e; have := H.out.n2; omega)
 have HN2 := Lib.hid (show ¬ Two g ah bx from fun e => by have := H.out.n2; have := H.out.n3; rcases e with e | e <;> omega)
 have hnag := H.out.n1
 rcases hz : zP q with _ | ⟨x, r⟩
 ·have HZ := Lib.hid hz
  have HE : Hid (dstep (a, q) = none) := Lib.hid (by unfold dstep; rw [hz]; rfl)
  rw [HE.out]
  clear hz HE
  go_enter Tryz.func191, Tryz.ntmps191
  go_upto_region 1 with fail
  refine wp_region_held_drew (S := fun w' => Kept (Two g ah) w w') (by kernel_rfl) HKD.out (fun hHeld => ?_)
  refine tk 1 (.pointer (some ⟨g, 0, none⟩)) rfl (Or.inl ⟨by rfl, fun w hw => by have hc : w.cell? ⟨bx, 0, none⟩ = some (.pointer (some ⟨g, 0, none⟩)) := (hw.cell (p := ⟨bx, 0, none⟩) HBL.out HN2.out).trans HCB.out; go_simp⟩) hHeld ?_
  try simp only [qz]
  refine wpAnyH_ready (rs := [0, 2]) (by kernel_rfl) (by simp) (AllReadyH.cons rfl (fun K hK => ?_) (AllReadyH.cons rfl (fun K hK => ?_) AllReadyH.nil))
  ·skip
   have ca : (w.drew).cell? ⟨ah, 0, none⟩ = some (.int .i64 a) := HCA.out
   go_simp
   refine hK.out _ _ HKD.out (fun hHeld => ?_)
   clear hK K
   try simp only [qz]
   refine rd1 2 rfl (fun K hK => ?_)
   go_simp
   refine (int_no g q HZ q.length (Lib.hid rfl) H.out.rd.2 _ (Lib.hid HD.out.rd.1)).mono ?_
   rintro e w1 ⟨rfl, h1, h2⟩
   exact ⟨rfl, rfl, h1, one_two (((Kept.refl (Only g) w).drew).trans h2)⟩
  ·skip
   go_simp
   refine (int_no g q HZ q.length (Lib.hid rfl) H.out.rd.2 _ (Lib.hid HD.out.rd.1)).mono ?_
   rintro e w1 ⟨rfl, h1, h2⟩
   exact ⟨rfl, rfl, h1, one_two (((Kept.refl (Only g) w).drew).trans h2)⟩
 ·have HZ := Lib.hid hz
  have HE : Hid (dstep (a, q) = some (wrap64 (a + x), (wrap64 (a + x), r))) := Lib.hid (by unfold dstep; rw [hz]; rfl)
  have HLE := Lib.hid (zP_left hz)
  rw [HE.out]
  clear hz HE
  go_enter Tryz.func191, Tryz.ntmps191
  go_upto_region 1 with fail
  refine wp_region_held_drew (S := fun w' => Kept (Two g ah) w w') (by kernel_rfl) HKD.out (fun hHeld => ?_)
  refine tk 1 (.pointer (some ⟨g, 0, none⟩)) rfl (Or.inl ⟨by rfl, fun w hw => by have hc : w.cell? ⟨bx, 0, none⟩ = some (.pointer (some ⟨g, 0, none⟩)) := (hw.cell (p := ⟨bx, 0, none⟩) HBL.out HN2.out).trans HCB.out; go_simp⟩) hHeld ?_
  try simp only [qz]
  refine wpAnyH_ready (rs := [0, 2]) (by kernel_rfl) (by simp) (AllReadyH.cons rfl (fun K hK => ?_) (AllReadyH.cons rfl (fun K hK => ?_) AllReadyH.nil))
  ·skip
   have ca : (w.drew).cell? ⟨ah, 0, none⟩ = some (.int .i64 a) := HCA.out
   go_simp
   refine hK.out _ _ HKD.out (fun hHeld => ?_)
   clear hK K
   try simp only [qz]
   refine rd1 2 rfl (fun K hK => ?_)
   go_simp
   refine (int_yes g x q r HZ (by have := H.out.rd.2; simp at this; omega) _ (Lib.hid HD.out.rd.1)).mono ?_
   rintro e w1 ⟨rfl, h1, h2⟩
   have HR1 := Lib.hid h1; have HK1 : Hid (Kept (Only g) w w1) := Lib.hid (((Kept.refl (Only g) w).drew).trans h2); clear h1 h2
   refine hK.out _ _ (one_two HK1.out) (fun hHeld => ?_)
   clear hK K
   try simp only [qz]
   have fa : w1.frozen? ⟨ah, 0, none⟩ = false := row_frozen (HK1.out.heap H.out.ahead fun e => by have e : ah = g := e; omega) 0
   have ca1 : w1.cell? ⟨ah, 0, none⟩ = some (.int .i64 a) := (HK1.out.cell (p := ⟨ah, 0, none⟩) HAL.out (fun e => by have e : ah = g := e; omega)).trans HCA.out
   refine rd1 3 rfl (fun K hK => ?_)
   go_simp
   rw [show IntKind.i64.wrap (a + x) = wrap64 (a + x) from by unfold wrap64; rw [IntKind.wrap_i64]]
   refine hK.out _ _ (one_two HK1.out) (fun hHeld => ?_)
   clear hK K
   try simp only [qz]
   refine rd1 4 rfl (fun K hK => ?_)
   go_simp
   have HST := Lib.hid (H.out.step (x := wrap64 (a + x)) HR1.out HLE.out HK1.out)
   refine hK.out _ _ HST.out.2 (fun hHeld => ?_)
   clear hK K
   try simp only [qz]
   refine wpAnyH_done (by kernel_rfl) ?_ _
   have ca9 := HST.out.1.c0
   go_wp2
   go_ret
   exact ⟨rfl, wrap64_wf' _, HST.out.1, HST.out.2⟩
  ·skip
   go_simp
   refine (int_yes g x q r HZ (by have := H.out.rd.2; simp at this; omega) _ (Lib.hid HD.out.rd.1)).mono ?_
   rintro e w1 ⟨rfl, h1, h2⟩
   have HR1 := Lib.hid h1; have HK1 : Hid (Kept (Only g) w w1) := Lib.hid (((Kept.refl (Only g) w).drew).trans h2); clear h1 h2
   refine hK.out _ _ (one_two HK1.out) (fun hHeld => ?_)
   clear hK K
   try simp only [qz]
   refine rd1 0 rfl (fun K hK => ?_)
   have ca : (w1).cell? ⟨ah, 0, none⟩ = some (.int .i64 a) := (HK1.out.cell (p := ⟨ah, 0, none⟩) HAL.out (fun e => by have e : ah = g := e; omega)).trans HCA.out
   go_simp
   refine hK.out _ _ (one_two HK1.out) (fun hHeld => ?_)
   clear hK K
   try simp only [qz]
   have fa : w1.frozen? ⟨ah, 0, none⟩ = false := row_frozen (HK1.out.heap H.out.ahead fun e => by have e : ah = g := e; omega) 0
   have ca1 : w1.cell? ⟨ah, 0, none⟩ = some (.int .i64 a) := (HK1.out.cell (p := ⟨ah, 0, none⟩) HAL.out (fun e => by have e : ah = g := e; omega)).trans HCA.out
   refine rd1 3 rfl (fun K hK => ?_)
   go_simp
   rw [show IntKind.i64.wrap (a + x) = wrap64 (a + x) from by unfold wrap64; rw [IntKind.wrap_i64]]
   refine hK.out _ _ (one_two HK1.out) (fun hHeld => ?_)
   clear hK K
   try simp only [qz]
   refine rd1 4 rfl (fun K hK => ?_)
   go_simp
   have HST := Lib.hid (H.out.step (x := wrap64 (a + x)) HR1.out HLE.out HK1.out)
   refine hK.out _ _ HST.out.2 (fun hHeld => ?_)
   clear hK K
   try simp only [qz]
   refine wpAnyH_done (by kernel_rfl) ?_ _
   have ca9 := HST.out.1.c0
   go_wp2
   go_ret
   exact ⟨rfl, wrap64_wf' _, HST.out.1, HST.out.2⟩
end Go.Proofs.YtjldamkmdkaiiaaGreatDoor
