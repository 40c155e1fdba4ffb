/-
  Layer column: times: a list of what a function tells, one call behind the other.
-/
import Derived.Test.YtpobfgokikfmbaaGreatDoorQPbak1
import Derived.Test.YtpobfgokikfmbaaGreatDoorQPbak2
set_option linter.unusedSimpArgs false
set_option linter.unusedVariables false
set_option maxRecDepth 8000
namespace Go.Proofs.YtpobfgokikfmbaaGreatDoor
open Go.RowKit Go.WideShapes Col
namespace Col
/-- So many steps, one behind the other: what they tell, and what is left. -/
def runS {σ α : Type} (step : σ → Option (α × σ)) : Nat → σ → Option (List α × σ)
  | 0, s => some ([], s)
  | k + 1, s => (runS step k s).bind fun p => (step p.2).map fun r => (p.1 ++ [r.1], r.2)
theorem runS_some {σ α : Type} {step : σ → Option (α × σ)} {k : Nat} {s s' s2 : σ} {xs : List α} {x : α} (h : runS step k s = some (xs, s')) (h2 : step s' = some (x, s2)) : runS step (k + 1) s = some (xs ++ [x], s2) := by
  rw [runS, h]; simp [h2]
theorem runS_none {σ α : Type} {step : σ → Option (α × σ)} {k : Nat} {s s' : σ} {xs : List α} (h : runS step k s = some (xs, s')) (h2 : step s' = none) : ∀ n, k < n → runS step n s = none := by
  intro n hn
  induction n with
  | zero => omega
  | succ n ih =>
    by_cases hk : k = n
    · subst hk; rw [runS, h]; simp [h2]
    · rw [runS, ih (by omega)]; rfl
theorem runS_len {σ α : Type} {step : σ → Option (α × σ)} : ∀ {k : Nat} {s s' : σ} {xs : List α}, runS step k s = some (xs, s') → xs.length = k
  | 0, s, s', xs, h => by rw [runS] at h; injection h with h; injection h with h1 h2; rw [← h1]; rfl
  | k + 1, s, s', xs, h => by
    rw [runS] at h
    rcases hr : runS step k s with _ | ⟨ys, s1⟩
    · rw [hr] at h; cases h
    · rw [hr] at h
      simp only [Option.bind_some] at h
      rcases hs : step s1 with _ | ⟨x, s2⟩
      · rw [hs] at h; cases h
      · rw [hs] at h; injection h with h; injection h with h1 h2
        rw [← h1, List.length_append, runS_len hr]; rfl
end Col

/-- A row of whole numbers that is all of a slice. -/
def RowI (w : World) (g : Nat) (l : List Int) : Prop := w.heap[g]? = some (.cells (ivs l).toArray 2 (0, 0))
section
variable {w : World} {g : Nat} {l : List Int}
theorem RowI.fr (h : RowI w g l) (i : Nat) : w.frozen? ⟨g, i, none⟩ = false := row_frozen h i
theorem RowI.at (h : RowI w g l) (i : Nat) (hi : i < l.length) : ∃ u, w.cell? ⟨g, i, none⟩ = some u := by
  rw [cell_of_row _ _ _ _ _ _ h, List.getElem?_toArray]
  exact ⟨_, List.getElem?_eq_getElem (by rw [ivs_length]; exact hi)⟩
theorem RowI.set (h : RowI w g l) (i : Nat) (x : Int) : RowI (w.setCell ⟨g, i, none⟩ (.int .i64 x)) g (l.set i x) := by
  unfold RowI at *
  rw [World.setCell]
  simp only [Array.getElem?_modify, if_pos, h, Option.map_some]
  have e : (ivs l).toArray.setIfInBounds i (.int .i64 x) = (ivs (l.set i x)).toArray := by
    unfold ivs; rw [List.map_set]; simp; rfl
  simp [e]
theorem RowI.keep {S : Nat → Prop} {w' : World} (h : RowI w g l) (hk : Kept S w w') (hg : ¬ S g) : RowI w' g l := hk.heap h hg
theorem RowI.own {B : Nat} (h : RowI w g l) (hB : B ≤ g) (hl : ∀ x ∈ l, Wf64 x) (hm : l.length ≤ maxLen) : OwnI w B (some ⟨g, 0, none⟩) l.length l.length l := by
  refine ⟨⟨by rw [ivs_length]; omega, .inr ⟨g, l.length, _, rfl, hB, h, Nat.le_refl _, hm, by simp [ivs_length], by rw [Nat.mul_one]; simp [ivs_length, List.take_of_length_le]⟩⟩, hl⟩
end
theorem rowI_zeros {w : World} {B g q : Nat} (h : w.ownsRow B 2 1 (.slice (some ⟨g, 0, none⟩) q q) q (madeCells (Value.int .i64 0).cells (q * 1)).toList) : RowI w g (List.replicate q 0) := by
  have e : ivs (List.replicate q 0) = List.replicate q (.int .i64 0) := by unfold ivs; rw [List.map_replicate]; rfl
  rw [Nat.mul_one, show (Value.int .i64 0).cells = #[.int .i64 0] from rfl, toList_madeCells_one, ← e] at h
  rcases h.2 with ⟨h1, h2⟩ | ⟨g', cap', cur, h1, hb, hrow, -, -, hs, ht⟩
  · cases h1
  · cases h1
    unfold RowI
    rw [hrow]
    have hc : cur = (ivs (List.replicate q 0)).toArray := by
      apply Array.ext'
      rw [← ht, Nat.mul_one, List.take_of_length_le (by rw [Array.length_toList, hs]; omega)]
    rw [hc]
theorem fill_set (xs : List Int) (n k : Nat) (hx : xs.length = k) (hk : k < n) (x : Int) : (xs ++ List.replicate (n - k) 0).set k x = (xs ++ [x]) ++ List.replicate (n - (k + 1)) 0 := by
  obtain ⟨m, rfl⟩ : ∃ m, n = k + 1 + m := ⟨n - k - 1, by omega⟩
  rw [show k + 1 + m - k = m + 1 by omega, show k + 1 + m - (k + 1) = m by omega, List.replicate_succ, List.set_append_right _ _ (by omega), hx, Nat.sub_self, List.set_cons_zero, List.append_assoc]; rfl

/-- How one call ends. -/
def StepEnds {σ : Type} (g : Nat) (Sw : Nat → Prop) (St : σ → World → Prop) (o : Option (Int × σ)) (w : World) (e : Ending) (w' : World) : Prop :=
  match o with
  | some p => e = .returned (.int .i64 p.1) ∧ Wf64 p.1 ∧ St p.2 w' ∧ Kept Sw w w'
  | none => e = .panicked [gu g] ∧ Gone w' g ∧ Kept Sw w w'
/-- How a reading of a list ends. -/
def ListEnds {σ : Type} (g : Nat) (Sw : Nat → Prop) (St : σ → World → Prop) (o : Option (List Int × σ)) (w : World) (e : Ending) (w' : World) : Prop :=
  match o with
  | some p => (∃ A n cap, e = .returned (.slice A n cap) ∧ OwnI w' w.heap.size A n cap p.1) ∧ St p.2 w' ∧ Kept Sw w w'
  | none => e = .panicked [gu g] ∧ Gone w' g ∧ Kept Sw w w'
def RT {σ : Type} (Sw : Nat → Prop) (St : σ → World → Prop) (step : σ → Option (Int × σ)) (n : Nat) (w : World) (s0 : σ) (v : Value) (wr : World) : Prop :=
  ∃ (k : Nat) (xs : List Int) (s : σ), k ≤ n ∧ v = .int .i64 (k : Int) ∧ runS step k s0 = some (xs, s) ∧ (∀ x ∈ xs, Wf64 x) ∧ RowI wr w.heap.size (xs ++ List.replicate (n - k) 0) ∧ St s wr ∧ Kept Sw w wr ∧ w.heap.size < wr.heap.size
theorem infoI64' : (Tryz.prog.info? 2).map (fun i => (i.zero, i.size, i.bytes)) = some (some (.int .i64 0), 1, 8) := by kernel_rfl
set_option maxHeartbeats 2000000 in
theorem times_any {σ : Type} (step : σ → Option (Int × σ)) (F : Nat) (first cap : Array Value) (hent : ∀ (args : Array Value) (w : World), (callFunc F args).run Tryz.prog w = .ok (.enter F args) w)
    (n : Nat) (hn : n ≤ 4096) (g : Nat) (Sw : Nat → Prop) (St : σ → World → Prop) (w : World) (hSw : Hid (∀ k, Sw k → k < w.heap.size)) (hkeep : Hid (∀ s w1 w2, St s w1 → Kept (fun j => w.heap.size ≤ j) w1 w2 → St s w2))
    (s0 : σ) (hstep : Hid (∀ k xs s w1, k < n → runS step k s0 = some (xs, s) → St s w1 → w.heap.size ≤ w1.heap.size → Calls Tryz.prog F (first ++ cap) w1 (StepEnds g Sw St (step s) w1))) (h0 : Hid (St s0 w)) :
    Calls Tryz.prog 111 #[.int .i64 (n : Int), .func (.func F) first cap] w (ListEnds g Sw St (runS step n s0) w) := by
  obtain ⟨iu, hiu, hz0, hz1, hz2⟩ := info_parts infoI64'
  have hzb : iu.bytes * n ≤ 281474976710656 := by rw [hz2]; omega
  have hnm : n ≤ maxLen := by unfold maxLen; omega
  go_enter Tryz.func111, Tryz.ntmps111
  go_wp2_with (refine wpList_make_full _ rfl (.tmp 7) (.tmp 7) 40 rfl w.heap.size 2 iu (.int .i64 0) 1 Tryz.underlying40 hiu hz0 hz1 .i64 .i64 _ _ n rfl rfl rfl rfl hzb hnm (Nat.le_refl _) ?_; intro w1 own hgr; have HRI := Lib.hid (rowI_zeros own); have HB1 : Hid (Below w.heap.size w w1) := Lib.hid ((Below.refl _ w).grown hgr (Nat.le_refl _) (by intro k hk; cases hk)); clear own hgr)
  have HST : Hid (RT Sw St step n w s0 (.int .i64 0) w1) := Lib.hid ⟨0, [], s0, Nat.zero_le _, rfl, rfl, (fun x hx => by cases hx), by simpa using HRI.out, hkeep.out _ _ _ h0.out (Kept.of_below HB1.out), Kept.of_below HB1.out, (Array.getElem?_eq_some_iff.1 HRI.out).1⟩
  obtain ⟨L, hL⟩ : ∃ L, L = w.heap.size := ⟨_, rfl⟩
  have HL := Lib.hid hL
  rw [← hL]
  clear hL HRI HB1
  go_loopw [11] (fun v wr => RT Sw St step n w s0 v wr) (fun v _ => n - (intOf v).toNat)
  case atStart => exact HST.out
  case round =>
    obtain ⟨k, xs, s, hk, rfl, hrun, hwf, hrow, hst, hkp, hsz⟩ := hrel
    have HRUN := Lib.hid hrun; have HWF := Lib.hid hwf; have HST2 := Lib.hid hst; have HK := Lib.hid hkp; have HSZ := Lib.hid hsz
    have HROW : Hid (RowI wr L (xs ++ List.replicate (n - k) 0)) := Lib.hid (HL.out ▸ hrow)
    have HXL := Lib.hid (runS_len hrun)
    clear hrun hwf hst hkp hrow HST hsz
    by_cases hlt : k < n
    · have HC := Lib.hid (hstep.out k xs s wr hlt HRUN.out HST2.out (Nat.le_of_lt HSZ.out))
      have HNS : Hid (¬ Sw L) := Lib.hid fun h => by have := hSw.out L h; have := HL.out; omega
      rcases hs : step s with _ | ⟨x, s'⟩
      · have HN := Lib.hid (runS_none HRUN.out hs n hlt)
        rw [hs] at HC
        have HC2 : Hid (Calls Tryz.prog F (first ++ cap) wr fun e w' => e = .panicked [gu g] ∧ Gone w' g ∧ Kept Sw wr w') := HC
        clear hs HC
        go_wp2_with ((with_reducible refine (HC2.out).mono ?_); rintro e w2 ⟨rfl, h1, h2⟩)
        rw [HN.out]
        exact ⟨rfl, rfl, h1, HK.out.trans h2⟩
      · have HN := Lib.hid (runS_some HRUN.out hs)
        rw [hs] at HC
        have HC2 : Hid (Calls Tryz.prog F (first ++ cap) wr fun e w' => e = .returned (.int .i64 x) ∧ Wf64 x ∧ St s' w' ∧ Kept Sw wr w') := HC
        have HSET := Lib.hid (fill_set xs n k HXL.out hlt x)
        clear hs HC
        go_wp2_with ((with_reducible refine (HC2.out).mono ?_); rintro e w2 ⟨rfl, h1, h2, h3⟩; have HR2 : Hid (RowI w2 L _) := Lib.hid (HROW.out.keep h3 HNS.out); have HWX := Lib.hid h1; have HS2 := Lib.hid h2; have HK2 := Lib.hid h3; have f2 := HR2.out.fr k; obtain ⟨u2, c2⟩ := HR2.out.at k (by rw [List.length_append, List.length_replicate, HXL.out]; omega); clear h1 h2 h3)
        go_roundw
        case rel =>
          have hk2 : Kept (fun j => w.heap.size ≤ j) w2 (w2.setCell ⟨L, k, none⟩ (.int .i64 x)) := (Kept.refl _ _).setCell _ _ (.inl (by rw [HL.out]; exact Nat.le_refl _))
          refine ⟨k + 1, xs ++ [x], s', by omega, by go_num, HN.out, fun y hy => ?_, ?_, hkeep.out _ _ _ HS2.out hk2, (HK.out.trans HK2.out).trans' hk2 (fun i hi => .inr hi), ?_⟩
          · rcases List.mem_append.1 hy with h | h
            · exact HWF.out y h
            · rw [List.mem_singleton.1 h]; exact HWX.out
          · rw [← HSET.out, ← HL.out]; exact HR2.out.set k x
          · rw [setCell_size]; exact Nat.lt_of_lt_of_le HSZ.out HK2.out.size
        case measure => simp [intOf]; omega
    · obtain rfl : k = n := by omega
      go_wp2
      go_ret
      rw [HRUN.out]
      have hr := HROW.out
      rw [Nat.sub_self, List.replicate_zero, List.append_nil] at hr
      have ho := hr.own (B := w.heap.size) (by rw [HL.out]; exact Nat.le_refl _) HWF.out (by rw [HXL.out]; exact hnm)
      rw [HXL.out] at ho
      exact ⟨⟨_, _, _, rfl, ho⟩, HST2.out, HK.out⟩
end Go.Proofs.YtpobfgokikfmbaaGreatDoor

set_option linter.unusedSimpArgs false
set_option linter.unusedVariables false
set_option maxRecDepth 8000
namespace Go.Proofs.YtpobfgokikfmbaaGreatDoor
open Go.RowKit Go.WideShapes Col
namespace Col
/-- The number of some bytes. -/
def vlb : List Nat → Nat
  | [] => 0
  | b :: r => b + 256 * vlb r
theorem leb_vlb : ∀ l : List Nat, (∀ x ∈ l, x < 256) → leb l.length (vlb l) = l
  | [], _ => rfl
  | b :: r, h => by
    have hb := h b (List.mem_cons_self ..)
    rw [List.length_cons, leb, vlb, Nat.add_mul_mod_self_left, Nat.mod_eq_of_lt hb, Nat.add_mul_div_left _ _ (by decide), Nat.div_eq_of_lt hb, Nat.zero_add, leb_vlb r fun x hx => h x (List.mem_cons_of_mem _ hx)]
theorem vlb_lt : ∀ l : List Nat, (∀ x ∈ l, x < 256) → vlb l < 2 ^ (8 * l.length)
  | [], _ => by simp [vlb]
  | b :: r, h => by
    have hb := h b (List.mem_cons_self ..)
    have hr := vlb_lt r fun x hx => h x (List.mem_cons_of_mem _ hx)
    rw [List.length_cons, vlb, show 8 * (r.length + 1) = 8 + 8 * r.length by omega, Nat.pow_add]
    have : 2 ^ 8 * (vlb r + 1) ≤ 2 ^ 8 * 2 ^ (8 * r.length) := Nat.mul_le_mul_left _ hr
    omega
theorem vlb_leb : ∀ (k n : Nat), vlb (leb k n) = n % 2 ^ (8 * k)
  | 0, n => by simp [leb, vlb, Nat.mod_one]
  | k + 1, n => by
    rw [leb, vlb, vlb_leb k, show 8 * (k + 1) = 8 + 8 * k by omega, Nat.pow_add, show (2 : Nat) ^ 8 = 256 from rfl]
    rw [Nat.mod_mul]
/-- w bits from a place on. -/
def bitsAt (V at' w : Nat) : Nat := V / 2 ^ at' % 2 ^ w
theorem bits_step (V at' got i s : Nat) (h : at' + got = 8 * i + s) (hs : s < 8) : bitsAt V at' (got + (8 - s)) = bitsAt V at' got + 2 ^ got * (V / 2 ^ (8 * i) % 256 / 2 ^ s) := by
  unfold bitsAt
  rw [Nat.pow_add, Nat.mod_mul, Nat.div_div_eq_div_mul, ← Nat.pow_add, h]
  congr 2
  rw [Nat.pow_add, ← Nat.div_div_eq_div_mul]
  generalize V / 2 ^ (8 * i) = B
  have h8 : 256 = 2 ^ s * 2 ^ (8 - s) := by rw [← Nat.pow_add, show s + (8 - s) = 8 by omega]
  rw [h8, Nat.mod_mul_right_div_self]
theorem bitsAt_lt (V at' w : Nat) : bitsAt V at' w < 2 ^ w := Nat.mod_lt _ (Nat.two_pow_pos _)
theorem or_bits (d x got : Nat) (hd : d < 2 ^ got) (hg : got < 64) : bits .or .u64 (d : Int) (IntKind.u64.wrap ((x : Int) * 2 ^ got)) = (((d + 2 ^ got * x) % 18446744073709551616 : Nat) : Int) := by
  have h64 : 18446744073709551616 = 2 ^ got * 2 ^ (64 - got) := by rw [← Nat.pow_add, show got + (64 - got) = 64 by omega]
  have hd64 : d < 18446744073709551616 := Nat.lt_of_lt_of_le hd (by rw [h64]; exact Nat.le_mul_of_pos_right _ (Nat.two_pow_pos _))
  rw [wrap_shl, bits_or_u64_nat _ _ hd64 (Nat.mod_lt _ (by decide))]
  congr 1
  have e : x * 2 ^ got % 18446744073709551616 = 2 ^ got * (x % 2 ^ (64 - got)) := by
    rw [h64, Nat.mul_comm x, Nat.mul_mod_mul_left]
  rw [e, Nat.or_comm, ← Nat.two_pow_add_eq_or_of_lt hd]
  have hr : x % 2 ^ (64 - got) < 2 ^ (64 - got) := Nat.mod_lt _ (Nat.two_pow_pos _)
  have hx := Nat.mod_add_div x (2 ^ (64 - got))
  generalize x % 2 ^ (64 - got) = r at *
  have h1 : d + 2 ^ got * x = 2 ^ got * r + d + 18446744073709551616 * (x / 2 ^ (64 - got)) := by
    rw [h64]
    have : 2 ^ got * x = 2 ^ got * r + 2 ^ got * 2 ^ (64 - got) * (x / 2 ^ (64 - got)) := by
      rw [Nat.mul_assoc, ← Nat.mul_add, hx]
    omega
  rw [h1, Nat.add_mul_mod_self_left]
  have h2 : 2 ^ got * (r + 1) ≤ 2 ^ got * 2 ^ (64 - got) := Nat.mul_le_mul_left _ hr
  rw [← h64, Nat.mul_add] at h2
  rw [Nat.mod_eq_of_lt (by omega)]
theorem mask_w (d w : Nat) (hw : w ≤ 64) (hd : d < 18446744073709551616) : bits .and .u64 (d : Int) (IntKind.u64.wrap (IntKind.u64.wrap (2 ^ w) - 1)) = ((d % 2 ^ w : Nat) : Int) := by
  have hp : 0 < 2 ^ w := Nat.two_pow_pos _
  have hle : 2 ^ w ≤ 18446744073709551616 := by
    have : 2 ^ w ≤ 2 ^ 64 := Nat.pow_le_pow_right (by decide) hw
    exact this
  have e : IntKind.u64.wrap (IntKind.u64.wrap (2 ^ w) - 1) = ((2 ^ w - 1 : Nat) : Int) := by
    rw [show ((2 : Int) ^ w) = ((2 ^ w : Nat) : Int) from (Int.natCast_pow 2 w).symm, IntKind.wrap_u64, IntKind.wrap_u64]
    omega
  rw [e, bits_and_u64_nat _ _ hd (by omega), Nat.and_two_pow_sub_one_eq_mod]
end Col

theorem shr_u8 (b s : Nat) (hb : b < 256) (hs : s < 8) : ((b : Int) / 2 ^ s) = ((b / 2 ^ s : Nat) : Int) := by rw [Int.natCast_ediv, Int.natCast_pow]; rfl
def GB (V at' w : Nat) (w0 : World) (u v : Value) (wr : World) : Prop := ∃ (got d : Nat), v = .int .i64 (got : Int) ∧ u = .int .u64 (d : Int) ∧ d = bitsAt V at' got % 18446744073709551616 ∧ got ≤ w + 7 ∧ (got = 0 ∨ (at' + got) % 8 = 0) ∧ w0 = wr
set_option maxHeartbeats 2000000 in
theorem getBits_any (A : Option Addr) (K C V at' w : Nat) (hw : w ≤ 64) (hK : K ≤ 100000000) (hat : at' + w ≤ 8 * K) (hV : Hid (V < 2 ^ (8 * K))) (W : World) (HA : Hid (ByAt W A (leb K V))) :
    Calls Tryz.prog 131 #[.slice A K C, .int .i64 (at' : Int), .int .i64 (w : Int)] W fun e w' => e = .returned (.int .u64 (bitsAt V at' w : Nat)) ∧ W = w' := by
  go_enter Tryz.func131, Tryz.ntmps131
  go_wp2
  go_loopw [7, 8] (fun u v wr => GB V at' w W u v wr) (fun _ v _ => w - (intOf v).toNat)
  case atStart => exact ⟨0, 0, rfl, rfl, by unfold bitsAt; simp [Nat.mod_one], by omega, .inl rfl, rfl⟩
  case round =>
    obtain ⟨got, d, rfl, rfl, hd, hgw, hgm, rfl⟩ := hrel
    have HD := Lib.hid hd
    have HGM := Lib.hid hgm
    clear hd hgm
    by_cases hlt : got < w
    · obtain ⟨i, hi⟩ : ∃ i, i = (at' + got) / 8 := ⟨_, rfl⟩
      obtain ⟨s, hs⟩ : ∃ s, s = (at' + got) % 8 := ⟨_, rfl⟩
      have hs8 : s < 8 := by omega
      have his : at' + got = 8 * i + s := by omega
      have hiK : i < K := by omega
      have hiKi : (i : Int) < (K : Int) := by omega
      obtain ⟨b, hb⟩ : ∃ b, b = V / 2 ^ (8 * i) % 256 := ⟨_, rfl⟩
      obtain ⟨hb256, g, off, rfl, -, hc⟩ := HA.out i b (by rw [hb]; exact leb_get K V i hiK)
      obtain ⟨x, hx⟩ : ∃ x, x = b / 2 ^ s := ⟨_, rfl⟩
      have hshr := shr_u8 b s hb256 hs8
      rw [← hx] at hshr
      have hx256 : x < 256 := by rw [hx]; exact Nat.lt_of_le_of_lt (Nat.div_le_self _ _) hb256
      have hdlt : d < 2 ^ got := by rw [HD.out]; exact Nat.lt_of_le_of_lt (Nat.mod_le _ _) (bitsAt_lt V at' got)
      have hor := or_bits d x got hdlt (by omega)
      obtain ⟨d2, hd2⟩ : ∃ d2, d2 = (d + 2 ^ got * x) % 18446744073709551616 := ⟨_, rfl⟩
      rw [← hd2] at hor
      have HD2 : Hid (d2 = bitsAt V at' (got + (8 - s)) % 18446744073709551616) := Lib.hid (by
        rw [bits_step V at' got i s his hs8, ← hb, ← hx, hd2, HD.out, Nat.mod_add_mod])
      obtain ⟨p, hp⟩ : ∃ p, p = at' + got := ⟨_, rfl⟩
      have hpi : (at' : Int) + (got : Int) = (p : Int) := by omega
      have hqi : (p : Int) / 8 = (i : Int) := by omega
      have hqs : (p : Int) % 8 = (s : Int) := by omega
      have hqi2 : (p : Int).tdiv 8 = (i : Int) := by rw [Int.tdiv_eq_ediv_of_nonneg (by omega)]; exact hqi
      have hqs2 : (p : Int).tmod 8 = (s : Int) := by rw [Int.tmod_eq_emod_of_nonneg (by omega)]; exact hqs
      have hp9 : p ≤ 1000000000 := by omega
      have hxw : IntKind.u64.wrap (x : Int) = (x : Int) := by rw [IntKind.wrap_u64]; omega
      have HIS : Hid ((at' + (got + (8 - s))) % 8 = 0) := Lib.hid (by omega)
      obtain ⟨t, ht⟩ : ∃ t, t = 8 - s := ⟨_, rfl⟩
      have hti : (8 : Int) - (s : Int) = (t : Int) := by omega
      rw [← ht] at HD2 HIS
      have ht8 : t ≤ 8 := by omega
      have ht1 : 1 ≤ t := by omega
      have hg64 : (got : Int) < 64 := by omega
      have hs64 : (s : Int) < 64 := by omega
      clear hi hs his hb hx hd2 hp ht hdlt
      go_wp2
      go_roundw
      case rel => exact ⟨got + t, d2, by go_num, rfl, HD2.out, by omega, .inr HIS.out, by trivial⟩
      case measure => simp [intOf]; omega
    · have hd64 : d < 18446744073709551616 := by rw [HD.out]; exact Nat.mod_lt _ (by decide)
      have hmask := mask_w d w hw hd64
      have HM : Hid (d % 2 ^ w = bitsAt V at' w) := Lib.hid (by
        rw [HD.out]
        unfold bitsAt
        have h1 : 2 ^ w ∣ 18446744073709551616 := ⟨2 ^ (64 - w), by rw [← Nat.pow_add, show w + (64 - w) = 64 by omega]⟩
        have h2 : 2 ^ w ∣ 2 ^ got := ⟨2 ^ (got - w), by rw [← Nat.pow_add, show w + (got - w) = got by omega]⟩
        rw [Nat.mod_mod_of_dvd _ h1, Nat.mod_mod_of_dvd _ h2])
      rw [HM.out] at hmask
      have hw64 : (w : Int) ≤ 64 := by omega
      go_wp2
      go_ret
      exact ⟨rfl, rfl⟩
end Go.Proofs.YtpobfgokikfmbaaGreatDoor

set_option linter.unusedSimpArgs false
set_option linter.unusedVariables false
set_option maxRecDepth 8000
namespace Go.Proofs.YtpobfgokikfmbaaGreatDoor
open Go.RowKit Go.WideShapes Col
namespace Col
theorem grp_left {q r : List Nat} {n k : Nat} (h : grp k q = some (n, r)) : r.length ≤ q.length := by
  obtain ⟨-, -, m, -, rfl, -⟩ := grp_lt q k n r h
  rw [List.length_drop]; omega
theorem uP_left {most n : Nat} {q r : List Nat} (h : uP most q = some (n, r)) : r.length ≤ q.length := grp_left (uP_some h).1
theorem zP_left {x : Int} {q r : List Nat} (h : zP q = some (x, r)) : r.length ≤ q.length := by
  obtain ⟨n, h1, -⟩ := zP_some h
  exact grp_left h1
theorem uz_wf {n : Nat} (h : n < 18446744073709551616) : Wf64 (uz n) := by
  unfold uz Wf64; split <;> omega
theorem zP_wf {x : Int} {q r : List Nat} (h : zP q = some (x, r)) (hq : ∀ x ∈ q, x < 256) : Wf64 x := by
  obtain ⟨n, h1, rfl⟩ := zP_some h
  exact uz_wf (grp_u64 h1 hq)
theorem wrap64_wf' (n : Int) : Wf64 (wrap64 n) := by unfold Wf64 wrap64; omega
def dstep (s : Int × List Nat) : Option (Int × (Int × List Nat)) := (zP s.2).map fun p => (wrap64 (s.1 + p.1), (wrap64 (s.1 + p.1), p.2))
end Col
theorem Rd.high {w w' : World} {g : Nat} {q : List Nat} {S : Nat → Prop} (h : Rd w g q) (hk : Kept S w w') (hS : ∀ k, S k → g < k) : Rd w' g q := by
  obtain ⟨A, C, h⟩ := h
  exact ⟨A, C, h.keep hk (fun e => by have := hS g e; omega) fun a ha h0 hs => by have := h.low a ha h0; have := hS _ hs; omega⟩
theorem Rd.glt {w : World} {g : Nat} {q : List Nat} (h : Rd w g q) : g < w.heap.size := by obtain ⟨A, C, h⟩ := h; exact h.lt
/-- A reader, and how many bytes are left at most. -/
def RdM (g : Nat) (q : List Nat) (w : World) : Prop := Rd w g q ∧ q.length ≤ 1099511627776
theorem plain_step (g : Nat) (q : List Nat) (w1 : World) (h : RdM g q w1) : Calls Tryz.prog 112 #[.pointer (some ⟨g, 0, none⟩)] w1 (StepEnds g (Only g) (RdM g) (zP q) w1) := by
  rcases hz : zP q with _ | ⟨x, r⟩
  · exact int_no g q (Lib.hid hz) q.length (Lib.hid rfl) h.2 w1 (Lib.hid h.1)
  · refine (int_yes g x q r (Lib.hid hz) (by have := h.2; omega) w1 (Lib.hid h.1)).mono ?_
    rintro e w' ⟨he, h1, h2⟩
    exact ⟨he, zP_wf hz h.1.lt, ⟨h1, Nat.le_trans (zP_left hz) h.2⟩, h2⟩
theorem plain_any (g : Nat) (n : Nat) (hn : n ≤ 4096) (q : List Nat) (w : World) (H : Hid (RdM g q w)) :
    Calls Tryz.prog 111 #[.int .i64 (n : Int), .func (.func 112) #[.pointer (some ⟨g, 0, none⟩)] #[]] w (ListEnds g (Only g) (RdM g) (runS zP n q) w) := by
  refine times_any zP 112 #[.pointer (some ⟨g, 0, none⟩)] #[] (fun _ _ => by first | rfl | kernel_rfl) n hn g (Only g) (RdM g) w (Lib.hid fun k hk => ?_) (Lib.hid fun s w1 w2 h hk => ⟨h.1.high hk fun k hk => ?_, h.2⟩) q (Lib.hid fun _ _ s w1 _ _ h _ => plain_step g s w1 h) H
  · have hk : k = g := hk
    subst hk; exact H.out.1.glt
  · exact Nat.lt_of_lt_of_le H.out.1.glt hk

/-- What readDelta's function stands on. -/
structure DS (g ah bx : Nat) (s : Int × List Nat) (w : World) : Prop where
  rd : RdM g s.2 w
  ahead : w.heap[ah]? = some (.cells #[.int .i64 s.1] 2 (0, 0))
  box : w.heap[bx]? = some (.cells #[.pointer (some ⟨g, 0, none⟩)] 51 (0, 0))
  n1 : g < ah
  n2 : g < bx
  n3 : ah ≠ bx
theorem DS.keep {g ah bx : Nat} {s : Int × List Nat} {w w' : World} {S : Nat → Prop} (h : DS g ah bx s w) (hk : Kept S w w') (hS : ∀ k, S k → w.heap.size ≤ k ∨ (g < k ∧ k ≠ ah ∧ k ≠ bx)) : DS g ah bx s w' := by
  have hg := h.rd.1.glt
  have ha := (Array.getElem?_eq_some_iff.1 h.ahead).1
  have hb := (Array.getElem?_eq_some_iff.1 h.box).1
  exact ⟨⟨h.rd.1.high hk fun k hs => by have := hS k hs; omega, h.rd.2⟩, hk.heap h.ahead fun e => by have := hS _ e; omega, hk.heap h.box fun e => by have := hS _ e; omega, h.n1, h.n2, h.n3⟩
abbrev Two (g ah : Nat) : Nat → Prop := fun k => k = g ∨ k = ah
theorem one_two {g ah : Nat} {w w' : World} (h : Kept (Only g) w w') : Kept (Two g ah) w w' := h.mono fun k hk => .inl (.inl hk)
theorem DS.c0 {g ah bx : Nat} {s : Int × List Nat} {w : World} (h : DS g ah bx s w) : w.cell? ⟨ah, 0, none⟩ = some (.int .i64 s.1) := by rw [cell_of_row _ _ _ _ _ _ h.ahead]; rfl
theorem DS.cb {g ah bx : Nat} {s : Int × List Nat} {w : World} (h : DS g ah bx s w) : w.cell? ⟨bx, 0, none⟩ = some (.pointer (some ⟨g, 0, none⟩)) := by rw [cell_of_row _ _ _ _ _ _ h.box]; rfl
theorem DS.blt {g ah bx : Nat} {s : Int × List Nat} {w : World} (h : DS g ah bx s w) : bx < w.heap.size := (Array.getElem?_eq_some_iff.1 h.box).1
theorem DS.alt {g ah bx : Nat} {s : Int × List Nat} {w : World} (h : DS g ah bx s w) : ah < w.heap.size := (Array.getElem?_eq_some_iff.1 h.ahead).1
theorem DS.drew {g ah bx : Nat} {s : Int × List Nat} {w : World} (h : DS g ah bx s w) : DS g ah bx s w.drew := h.keep (S := fun _ => False) ((Kept.refl _ _).drew) fun k hk => hk.elim
/-- Behind the reading, and the writing. -/
theorem DS.step {g ah bx : Nat} {a x : Int} {q r : List Nat} {w w1 : World} (h : DS g ah bx (a, q) w) (hr : Rd w1 g r) (hl : r.length ≤ q.length) (hk : Kept (Only g) w w1) : DS g ah bx (x, r) (w1.setCell ⟨ah, 0, none⟩ (.int .i64 x)) ∧ Kept (Two g ah) w (w1.setCell ⟨ah, 0, none⟩ (.int .i64 x)) := by
  have hka : Kept (fun k => k = ah) w1 (w1.setCell ⟨ah, 0, none⟩ (.int .i64 x)) := (Kept.refl _ _).setCell _ _ (.inl rfl)
  refine ⟨⟨⟨hr.high hka fun k hk => by have hk : k = ah := hk; have := h.n1; omega, Nat.le_trans hl h.rd.2⟩, ?_, (hka.heap (hk.heap h.box fun e => by have e : bx = g := e; have := h.n2; omega) fun e => h.n3 e.symm), h.n1, h.n2, h.n3⟩, (one_two hk).setCell _ _ (.inl (.inr rfl))⟩
  have h1 := hk.heap h.ahead fun e => by have e : ah = g := e; have := h.n1; omega
  rw [World.setCell]; simp [Array.getElem?_modify, h1]
theorem gone_two {g ah bx : Nat} {s : Int × List Nat} {w w1 : World} (h1 : Gone w1 g) (h2 : Kept (Only g) w w1) : Gone w1 g ∧ Kept (Two g ah) w w1 := ⟨h1, one_two h2⟩
set_option maxHeartbeats 2000000 in
theorem delta_step (g ah bx : Nat) (a : Int) (q : List Nat) (w : World) (H : Hid (DS g ah bx (a, q) w)) :
    Calls Tryz.prog 129 #[.pointer (some ⟨ah, 0, none⟩), .pointer (some ⟨bx, 0, none⟩)] w (StepEnds g (Two g ah) (DS g ah bx) (dstep (a, q)) w) := by
  have HD := Lib.hid H.out.drew
  have HKD : Hid (Kept (Two g ah) w w.drew) := Lib.hid ((Kept.refl _ _).drew)
  have HAL := Lib.hid H.out.alt
  have HBL := Lib.hid H.out.blt
  have HCB := Lib.hid H.out.cb
  have HCA := Lib.hid H.out.c0
  have HN := Lib.hid (show ¬ Only g bx from fun e => by have e : bx = g := e; have := H.out.n2; omega)
  have HN2 := Lib.hid (show ¬ Two g ah bx from fun e => by have := H.out.n2; have := H.out.n3; rcases e with e | e <;> omega)
  have hnag := H.out.n1
  rcases hz : zP q with _ | ⟨x, r⟩
  · have HZ := Lib.hid hz
    have HE : Hid (dstep (a, q) = none) := Lib.hid (by unfold dstep; rw [hz]; rfl)
    rw [HE.out]
    clear hz HE
    go_enter Tryz.func129, Tryz.ntmps129
    go_upto_region 1 with fail
    refine wp_region_held_drew (S := fun w' => Kept (Two g ah) w w') (by kernel_rfl) HKD.out (fun hHeld => ?_)
    refine wpAnyH_take (i := 1) (v := .pointer (some ⟨g, 0, none⟩)) rfl (by kernel_rfl) (by kernel_rfl) (by kernel_rfl) (fun _ _ _ h => h) (Or.inl ⟨by rfl, fun w hw => by have hc : w.cell? ⟨bx, 0, none⟩ = some (.pointer (some ⟨g, 0, none⟩)) := (hw.cell (p := ⟨bx, 0, none⟩) HBL.out HN2.out).trans HCB.out; go_simp⟩) hHeld ?_
    try dsimp only
    try simp only [Act.put, List.getElem_toArray, List.getElem_cons_zero, List.getElem_cons_succ, List.setIfInBounds_toArray, List.set_cons_zero, List.set_cons_succ]
    refine wpAnyH_ready (rs := [0, 2]) (by kernel_rfl) (by simp) (AllReadyH.cons rfl (fun K hK => ?_) (AllReadyH.cons rfl (fun K hK => ?_) AllReadyH.nil))
    · skip
      have ca : (w.drew).cell? ⟨ah, 0, none⟩ = some (.int .i64 a) := HCA.out
      go_simp
      refine hK.out _ _ HKD.out (fun hHeld => ?_)
      clear hK K
      try dsimp only
      try simp only [Act.put, List.getElem_toArray, List.getElem_cons_zero, List.getElem_cons_succ, List.setIfInBounds_toArray, List.set_cons_zero, List.set_cons_succ]
      refine wpAnyH_ready (rs := [2]) (by kernel_rfl) (by simp) (AllReadyH.cons rfl (fun K hK => ?_) AllReadyH.nil)
      go_simp
      refine (int_no g q HZ q.length (Lib.hid rfl) H.out.rd.2 _ (Lib.hid HD.out.rd.1)).mono ?_
      rintro e w1 ⟨rfl, h1, h2⟩
      exact ⟨rfl, rfl, h1, one_two (((Kept.refl (Only g) w).drew).trans h2)⟩
    · skip
      go_simp
      refine (int_no g q HZ q.length (Lib.hid rfl) H.out.rd.2 _ (Lib.hid HD.out.rd.1)).mono ?_
      rintro e w1 ⟨rfl, h1, h2⟩
      exact ⟨rfl, rfl, h1, one_two (((Kept.refl (Only g) w).drew).trans h2)⟩
  · have HZ := Lib.hid hz
    have HE : Hid (dstep (a, q) = some (wrap64 (a + x), (wrap64 (a + x), r))) := Lib.hid (by unfold dstep; rw [hz]; rfl)
    have HLE := Lib.hid (zP_left hz)
    rw [HE.out]
    clear hz HE
    go_enter Tryz.func129, Tryz.ntmps129
    go_upto_region 1 with fail
    refine wp_region_held_drew (S := fun w' => Kept (Two g ah) w w') (by kernel_rfl) HKD.out (fun hHeld => ?_)
    refine wpAnyH_take (i := 1) (v := .pointer (some ⟨g, 0, none⟩)) rfl (by kernel_rfl) (by kernel_rfl) (by kernel_rfl) (fun _ _ _ h => h) (Or.inl ⟨by rfl, fun w hw => by have hc : w.cell? ⟨bx, 0, none⟩ = some (.pointer (some ⟨g, 0, none⟩)) := (hw.cell (p := ⟨bx, 0, none⟩) HBL.out HN2.out).trans HCB.out; go_simp⟩) hHeld ?_
    try dsimp only
    try simp only [Act.put, List.getElem_toArray, List.getElem_cons_zero, List.getElem_cons_succ, List.setIfInBounds_toArray, List.set_cons_zero, List.set_cons_succ]
    refine wpAnyH_ready (rs := [0, 2]) (by kernel_rfl) (by simp) (AllReadyH.cons rfl (fun K hK => ?_) (AllReadyH.cons rfl (fun K hK => ?_) AllReadyH.nil))
    · skip
      have ca : (w.drew).cell? ⟨ah, 0, none⟩ = some (.int .i64 a) := HCA.out
      go_simp
      refine hK.out _ _ HKD.out (fun hHeld => ?_)
      clear hK K
      try dsimp only
      try simp only [Act.put, List.getElem_toArray, List.getElem_cons_zero, List.getElem_cons_succ, List.setIfInBounds_toArray, List.set_cons_zero, List.set_cons_succ]
      refine wpAnyH_ready (rs := [2]) (by kernel_rfl) (by simp) (AllReadyH.cons rfl (fun K hK => ?_) AllReadyH.nil)
      go_simp
      refine (int_yes g x q r HZ (by have := H.out.rd.2; simp at this; omega) _ (Lib.hid HD.out.rd.1)).mono ?_
      rintro e w1 ⟨rfl, h1, h2⟩
      have HR1 := Lib.hid h1; have HK1 : Hid (Kept (Only g) w w1) := Lib.hid (((Kept.refl (Only g) w).drew).trans h2); clear h1 h2
      refine hK.out _ _ (one_two HK1.out) (fun hHeld => ?_)
      clear hK K
      try dsimp only
      try simp only [Act.put, List.getElem_toArray, List.getElem_cons_zero, List.getElem_cons_succ, List.setIfInBounds_toArray, List.set_cons_zero, List.set_cons_succ]
      have fa : w1.frozen? ⟨ah, 0, none⟩ = false := row_frozen (HK1.out.heap H.out.ahead fun e => by have e : ah = g := e; omega) 0
      have ca1 : w1.cell? ⟨ah, 0, none⟩ = some (.int .i64 a) := (HK1.out.cell (p := ⟨ah, 0, none⟩) HAL.out (fun e => by have e : ah = g := e; omega)).trans HCA.out
      refine wpAnyH_ready (rs := [3]) (by kernel_rfl) (by simp) (AllReadyH.cons rfl (fun K hK => ?_) AllReadyH.nil)
      go_simp
      rw [show IntKind.i64.wrap (a + x) = wrap64 (a + x) from by unfold wrap64; rw [IntKind.wrap_i64]]
      refine hK.out _ _ (one_two HK1.out) (fun hHeld => ?_)
      clear hK K
      try dsimp only
      try simp only [Act.put, List.getElem_toArray, List.getElem_cons_zero, List.getElem_cons_succ, List.setIfInBounds_toArray, List.set_cons_zero, List.set_cons_succ]
      refine wpAnyH_ready (rs := [4]) (by kernel_rfl) (by simp) (AllReadyH.cons rfl (fun K hK => ?_) AllReadyH.nil)
      go_simp
      have HST := Lib.hid (H.out.step (x := wrap64 (a + x)) HR1.out HLE.out HK1.out)
      refine hK.out _ _ HST.out.2 (fun hHeld => ?_)
      clear hK K
      try dsimp only
      try simp only [Act.put, List.getElem_toArray, List.getElem_cons_zero, List.getElem_cons_succ, List.setIfInBounds_toArray, List.set_cons_zero, List.set_cons_succ]
      refine wpAnyH_done (by kernel_rfl) ?_ _
      have ca9 := HST.out.1.c0
      go_wp2
      go_ret
      exact ⟨rfl, wrap64_wf' _, HST.out.1, HST.out.2⟩
    · skip
      go_simp
      refine (int_yes g x q r HZ (by have := H.out.rd.2; simp at this; omega) _ (Lib.hid HD.out.rd.1)).mono ?_
      rintro e w1 ⟨rfl, h1, h2⟩
      have HR1 := Lib.hid h1; have HK1 : Hid (Kept (Only g) w w1) := Lib.hid (((Kept.refl (Only g) w).drew).trans h2); clear h1 h2
      refine hK.out _ _ (one_two HK1.out) (fun hHeld => ?_)
      clear hK K
      try dsimp only
      try simp only [Act.put, List.getElem_toArray, List.getElem_cons_zero, List.getElem_cons_succ, List.setIfInBounds_toArray, List.set_cons_zero, List.set_cons_succ]
      refine wpAnyH_ready (rs := [0]) (by kernel_rfl) (by simp) (AllReadyH.cons rfl (fun K hK => ?_) AllReadyH.nil)
      have ca : (w1).cell? ⟨ah, 0, none⟩ = some (.int .i64 a) := (HK1.out.cell (p := ⟨ah, 0, none⟩) HAL.out (fun e => by have e : ah = g := e; omega)).trans HCA.out
      go_simp
      refine hK.out _ _ (one_two HK1.out) (fun hHeld => ?_)
      clear hK K
      try dsimp only
      try simp only [Act.put, List.getElem_toArray, List.getElem_cons_zero, List.getElem_cons_succ, List.setIfInBounds_toArray, List.set_cons_zero, List.set_cons_succ]
      have fa : w1.frozen? ⟨ah, 0, none⟩ = false := row_frozen (HK1.out.heap H.out.ahead fun e => by have e : ah = g := e; omega) 0
      have ca1 : w1.cell? ⟨ah, 0, none⟩ = some (.int .i64 a) := (HK1.out.cell (p := ⟨ah, 0, none⟩) HAL.out (fun e => by have e : ah = g := e; omega)).trans HCA.out
      refine wpAnyH_ready (rs := [3]) (by kernel_rfl) (by simp) (AllReadyH.cons rfl (fun K hK => ?_) AllReadyH.nil)
      go_simp
      rw [show IntKind.i64.wrap (a + x) = wrap64 (a + x) from by unfold wrap64; rw [IntKind.wrap_i64]]
      refine hK.out _ _ (one_two HK1.out) (fun hHeld => ?_)
      clear hK K
      try dsimp only
      try simp only [Act.put, List.getElem_toArray, List.getElem_cons_zero, List.getElem_cons_succ, List.setIfInBounds_toArray, List.set_cons_zero, List.set_cons_succ]
      refine wpAnyH_ready (rs := [4]) (by kernel_rfl) (by simp) (AllReadyH.cons rfl (fun K hK => ?_) AllReadyH.nil)
      go_simp
      have HST := Lib.hid (H.out.step (x := wrap64 (a + x)) HR1.out HLE.out HK1.out)
      refine hK.out _ _ HST.out.2 (fun hHeld => ?_)
      clear hK K
      try dsimp only
      try simp only [Act.put, List.getElem_toArray, List.getElem_cons_zero, List.getElem_cons_succ, List.setIfInBounds_toArray, List.set_cons_zero, List.set_cons_succ]
      refine wpAnyH_done (by kernel_rfl) ?_ _
      have ca9 := HST.out.1.c0
      go_wp2
      go_ret
      exact ⟨rfl, wrap64_wf' _, HST.out.1, HST.out.2⟩

end Go.Proofs.YtpobfgokikfmbaaGreatDoor

set_option linter.unusedSimpArgs false
set_option linter.unusedVariables false
set_option maxRecDepth 8000
namespace Go.Proofs.YtpobfgokikfmbaaGreatDoor
open Go.RowKit Go.WideShapes Col
namespace Col
def rdDelta (n : Nat) (q : List Nat) : Option (List Int × List Nat) := (runS dstep n (0, q)).map fun p => (p.1, p.2.2)
/-- Numbers read by their runs. -/
def rruns : Nat → List Nat → Option (List Int × List Nat)
  | 0, q => some ([], q)
  | m + 1, q => (zP q).bind fun p => (uP m p.2).bind fun r => (rruns (m - r.1) r.2).map fun t => (List.replicate (r.1 + 1) p.1 ++ t.1, t.2)
termination_by m => m
decreasing_by omega
theorem rruns_zero (q : List Nat) : rruns 0 q = some ([], q) := by rw [rruns]
theorem rruns_no1 {m : Nat} {q : List Nat} (h : zP q = none) : rruns (m + 1) q = none := by rw [rruns, h]; rfl
theorem rruns_no2 {m : Nat} {q r : List Nat} {x : Int} (h : zP q = some (x, r)) (h2 : uP m r = none) : rruns (m + 1) q = none := by rw [rruns, h]; simp [h2]
theorem rruns_yes {m k : Nat} {q r r2 : List Nat} {x : Int} (h : zP q = some (x, r)) (h2 : uP m r = some (k, r2)) : rruns (m + 1) q = (rruns (m - k) r2).map fun t => (List.replicate (k + 1) x ++ t.1, t.2) := by rw [rruns, h]; simp [h2]
end Col
theorem OwnI.more {w : World} {B n cap : Nat} {A : Option Addr} {l : List Int} {B' : Nat} (h : OwnI w B A n cap l) (hB : B' ≤ B) : OwnI w B' A n cap l := by
  refine ⟨⟨h.1.1, ?_⟩, h.2⟩
  rcases h.1.2 with h1 | ⟨g, cap', cur, h1, hb, h2⟩
  · exact .inl h1
  · exact .inr ⟨g, cap', cur, h1, Nat.le_trans hB hb, h2⟩
theorem ListEnds.lift {σ : Type} {g : Nat} {Sw : Nat → Prop} {St : σ → World → Prop} {o : Option (List Int × σ)} {w w2 w' : World} {e : Ending} (h : ListEnds g Sw St o w2 e w') (hb : Kept (Only g) w w2) (f : σ → List Nat) (hSt : ∀ s w', St s w' → RdM g (f s) w') (hS : ∀ k, Sw k → k = g ∨ w.heap.size ≤ k) :
    ListEnds g (Only g) (RdM g) (o.map fun p => (p.1, f p.2)) w e w' := by
  rcases o with _ | p
  · obtain ⟨h1, h2, h3⟩ := h
    exact ⟨h1, h2, hb.trans' h3 hS⟩
  · obtain ⟨⟨A, n, cap, he, ho⟩, h2, h3⟩ := h
    exact ⟨⟨A, n, cap, he, ho.more hb.size⟩, hSt _ _ h2, hb.trans' h3 hS⟩
set_option maxHeartbeats 2000000 in
theorem readDelta_any (g : Nat) (n : Nat) (hn : n ≤ 4096) (q : List Nat) (w : World) (H : Hid (RdM g q w)) :
    Calls Tryz.prog 113 #[.pointer (some ⟨g, 0, none⟩), .int .i64 (n : Int)] w (ListEnds g (Only g) (RdM g) (rdDelta n q) w) := by
  obtain ⟨w2, hw2⟩ : ∃ w2, w2 = (w.alloc (.cells #[.pointer (some ⟨g, 0, none⟩)] 51)).alloc (.cells #[.int .i64 0] 2) := ⟨_, rfl⟩
  have HW := Lib.hid hw2
  have HB : Hid (Below w.heap.size w w2) := Lib.hid (by rw [hw2]; exact ((Below.refl _ _).alloc (Nat.le_refl _) _).alloc (by simp) _)
  have hgl := H.out.1.glt
  have hsz : w2.heap.size = w.heap.size + 2 := by rw [hw2]; simp
  have HDS : Hid (DS g (w.heap.size + 1) w.heap.size (0, q) w2) := Lib.hid ⟨⟨H.out.1.high (S := fun _ => False) (Kept.of_below HB.out) fun k hk => hk.elim, H.out.2⟩, by rw [hw2]; exact heap_alloc2_new w _ _, by rw [hw2]; exact heap_alloc2_old w _ _, by omega, by omega, by omega⟩
  have ht := times_any dstep 129 #[] #[.pointer (some ⟨w.heap.size + 1, 0, none⟩), .pointer (some ⟨w.heap.size, 0, none⟩)] (fun _ _ => by first | rfl | kernel_rfl) n hn g (Two g (w.heap.size + 1)) (DS g (w.heap.size + 1) w.heap.size) w2
    (Lib.hid fun k hk => by rcases hk with hk | hk <;> omega)
    (Lib.hid fun s w1 w3 h hk => h.keep hk fun k hk => by have := h.blt; have := h.alt; exact .inr (by omega))
    (0, q) (Lib.hid fun _ _ s w1 _ _ h _ => delta_step g _ _ s.1 s.2 w1 (Lib.hid h)) HDS
  have HT := Lib.hid ht
  clear ht hw2
  rcases ho : rdDelta n q with _ | ⟨xs, r⟩
  · have HO := Lib.hid ho
    clear ho
    go_enter Tryz.func113, Tryz.ntmps113
    go_wp2_with (go_at_call 111; rw [← HW.out]; refine (HT.out).mono ?_; intro e w3 h9; have h8 := h9.lift (Kept.of_below HB.out) (fun s => s.2) (fun s w' h => h.rd) (fun k hk => by rcases hk with hk | hk <;> omega); change ListEnds g (Only g) (RdM g) (rdDelta n q) w e w3 at h8; clear h9; rw [HO.out] at h8; obtain ⟨rfl, h1, h2⟩ := h8)
    exact ⟨rfl, rfl, h1, h2⟩
  · have HO := Lib.hid ho
    clear ho
    go_enter Tryz.func113, Tryz.ntmps113
    go_wp2_with (go_at_call 111; rw [← HW.out]; refine (HT.out).mono ?_; intro e w3 h9; have h8 := h9.lift (Kept.of_below HB.out) (fun s => s.2) (fun s w' h => h.rd) (fun k hk => by rcases hk with hk | hk <;> omega); change ListEnds g (Only g) (RdM g) (rdDelta n q) w e w3 at h8; clear h9; rw [HO.out] at h8; obtain ⟨⟨A, n', cap, rfl, ho'⟩, h1, h2⟩ := h8; have HO' := Lib.hid ho'; have H1 := Lib.hid h1; have H2 := Lib.hid h2; clear ho' h1 h2)
    go_ret
    exact ⟨⟨A, n', cap, rfl, HO'.out⟩, H1.out, H2.out⟩

theorem Kept.of_grown {w w' : World} {r : Option Nat} (h : w.grownBy w' r) : Kept (fun k => r = some k) w w' := ⟨h.os, h.tape, h.output, h.size, fun k hk hn => h.block k hk fun e => hn (by first | exact e | exact e.symm)⟩
theorem RdM.high {g : Nat} {q : List Nat} {w w' : World} {S : Nat → Prop} (h : RdM g q w) (hk : Kept S w w') (hS : ∀ k, S k → g < k) : RdM g q w' := ⟨h.1.high hk hS, h.2⟩
theorem rep_snoc (l : List Int) (j : Nat) (x : Int) : (l ++ List.replicate j x) ++ [x] = l ++ List.replicate (j + 1) x := by
  rw [List.append_assoc]; congr 1
  rw [List.replicate_succ']
def RU (g n : Nat) (w : World) (q : List Nat) (v : Value) (wr : World) : Prop := ∃ (l : List Int) (L : Nat) (A : Option Addr) (cap : Nat) (q' : List Nat), v = .slice A L cap ∧ L = l.length ∧ L ≤ n ∧ OwnI wr w.heap.size A L cap l ∧ RdM g q' wr ∧ Kept (Only g) w wr ∧ rruns n q = (rruns (n - L) q').map fun t => (l ++ t.1, t.2)
def RV (g n : Nat) (w : World) (l : List Int) (L : Nat) (x : Int) (q : List Nat) (R : Nat) (u v : Value) (wr : World) : Prop := ∃ (j M : Nat) (A : Option Addr) (cap : Nat), j ≤ R ∧ v = .int .i64 (j : Int) ∧ u = .slice A M cap ∧ M = L + j ∧ OwnI wr w.heap.size A M cap (l ++ List.replicate j x) ∧ RdM g q wr ∧ Kept (Only g) w wr
set_option maxHeartbeats 4000000 in
theorem readRuns_any (g : Nat) (n : Nat) (hn : n ≤ 4096) (q : List Nat) (w : World) (H : Hid (RdM g q w)) :
    Calls Tryz.prog 114 #[.pointer (some ⟨g, 0, none⟩), .int .i64 (n : Int)] w (ListEnds g (Only g) (RdM g) (rruns n q) w) := by
  obtain ⟨iu, hiu, hz0, hz1, hz2⟩ := info_parts infoI64'
  have hzb : iu.bytes * n ≤ 281474976710656 := by rw [hz2]; omega
  have hnm : n ≤ maxLen := by unfold maxLen; omega
  have hgl := H.out.1.glt
  go_enter Tryz.func114, Tryz.ntmps114
  go_wp2_with (refine wpList_make_own _ rfl (.const (.int .i64 0)) (.tmp 8) 40 rfl w.heap.size 2 iu (.int .i64 0) 1 Tryz.underlying40 hiu hz0 hz1 .i64 .i64 _ n rfl rfl rfl hzb hnm (Nat.le_refl _) ?_; intro w1 own hgr; have HO : Hid (OwnI w1 w.heap.size (some ⟨w.heap.size, 0, none⟩) 0 n []) := Lib.hid ⟨own, fun x hx => by cases hx⟩; have HK : Hid (Kept (Only g) w w1) := Lib.hid ((Kept.of_grown hgr).mono fun k hk => by cases hk); have HRD : Hid (RdM g q w1) := Lib.hid (H.out.high (Kept.of_grown hgr) fun k hk => by cases hk); clear own hgr)
  have HST : Hid (RU g n w q (.slice (some ⟨w.heap.size, 0, none⟩) 0 n) w1) := Lib.hid ⟨[], 0, _, _, q, rfl, rfl, Nat.zero_le _, HO.out, HRD.out, HK.out, by
    rw [Nat.sub_zero]; rcases rruns n q with _ | t
    · rfl
    · simp⟩
  obtain ⟨b, hb⟩ : ∃ b, b = w.heap.size := ⟨_, rfl⟩
  rw [← hb] at HST ⊢
  have HBE := Lib.hid hb
  clear HO HK HRD hb
  go_loopw [5] (fun v wr => RU g n w q v wr) (fun v _ => n - lenOfS v)
  case atStart => exact HST.out
  case round =>
    obtain ⟨l, L, A, cap, q', rfl, hL, hLn, ho, hrd, hk, hrr⟩ := hrel
    have HO := Lib.hid ho; have HRD := Lib.hid hrd; have HK := Lib.hid hk; have HRR := Lib.hid hrr; have HL := Lib.hid hL
    clear ho hrd hk hrr hL HST
    by_cases hlt : L < n
    · obtain ⟨M, hM⟩ : ∃ M, n - L = M + 1 := ⟨n - L - 1, by omega⟩
      have hd1 : (n : Int) - (L : Int) = ((M + 1 : Nat) : Int) := by omega
      have hd2 : ((M + 1 : Nat) : Int) - 1 = (M : Int) := by omega
      have hM96 : M ≤ 4096 := by omega
      have hmw : IntKind.u64.wrap (M : Int) = (M : Int) := by rw [IntKind.wrap_u64]; omega
      have hd3 : (n : Int) - (L : Int) - 1 = (M : Int) := by omega
      rw [hM] at HRR
      rcases hz : zP q' with _ | ⟨x, r⟩
      · have HN : Hid (rruns n q = none) := Lib.hid (by rw [HRR.out, rruns_no1 hz]; rfl)
        have HI := Lib.hid (int_no g q' (Lib.hid hz) q'.length (Lib.hid rfl) HRD.out.2 wr (Lib.hid HRD.out.1))
        clear hz
        go_wp2_with (go_at_call 112; (with_reducible refine (HI.out).mono ?_); rintro e w2 ⟨rfl, h1, h2⟩)
        rw [HN.out]
        exact ⟨rfl, rfl, h1, HK.out.trans h2⟩
      · have hI := int_yes g x q' r (Lib.hid hz) (by have := HRD.out.2; omega) wr (Lib.hid HRD.out.1)
        have HI := Lib.hid hI
        have HWX := Lib.hid (zP_wf hz HRD.out.1.lt)
        have HLR := Lib.hid (Nat.le_trans (zP_left hz) HRD.out.2)
        clear hI
        rcases hu : uP M r with _ | ⟨k, r2⟩
        · have HN : Hid (rruns n q = none) := Lib.hid (by rw [HRR.out, rruns_no2 hz hu]; rfl)
          have HU := Lib.hid hu
          clear hz hu
          go_wp2_with (first
            | (go_at_call 112; (with_reducible refine (HI.out).mono ?_); rintro e w2 hy; obtain ⟨rfl, HR1, HK1⟩ := Yes.rd hy; clear hy)
            | (go_at_call 108; (refine (uint_no g M r HU r.length (Lib.hid rfl) HLR.out _ HR1).mono ?_); rintro e w3 ⟨rfl, h1, h2⟩))
          rw [HN.out]
          exact ⟨rfl, rfl, h1, (HK.out.trans HK1.out).trans h2⟩
        · have HU := Lib.hid hu
          have HN : Hid (rruns n q = (rruns (M - k) r2).map fun t => (l ++ List.replicate (k + 1) x ++ t.1, t.2)) := Lib.hid (by
            rw [HRR.out, rruns_yes hz hu, Option.map_map]; congr 1; funext t; simp)
          have hkM := (uP_some hu).2
          have HLR2 := Lib.hid (Nat.le_trans (uP_left hu) HLR.out)
          obtain ⟨R, hR⟩ : ∃ R, R = k + 1 := ⟨_, rfl⟩
          have hRi : (1 : Int) + (k : Int) = (R : Int) := by omega
          have hki : IntKind.i64.wrap (k : Int) = (k : Int) := by rw [IntKind.wrap_i64]; omega
          rw [← hR] at HN
          have hLR : L + R ≤ n := by omega
          have hR1 : 1 ≤ R := by omega
          have HSUB : Hid (n - (L + R) = M - k) := Lib.hid (by omega)
          clear hz hu hR
          go_wp2_with (first
            | (go_at_call 112; (with_reducible refine (HI.out).mono ?_); rintro e w2 hy; obtain ⟨rfl, HR1, HK1⟩ := Yes.rd hy; clear hy)
            | (go_at_call 108; (refine (uint_yes g M k r r2 HU (by have := HLR.out; omega) _ HR1).mono ?_); rintro e w3 hy; obtain ⟨rfl, HR2, HK2⟩ := Yes.rd hy; clear hy))
          have HKA : Hid (Kept (Only g) wr w3) := Lib.hid (HK1.out.trans HK2.out)
          have HO3 : Hid (OwnI w3 w.heap.size A L cap l) := Lib.hid ⟨HO.out.1.kept (row := some g) ⟨HKA.out.os, HKA.out.tape, HKA.out.output, HKA.out.size, fun k hk' hn => HKA.out.block k hk' (fun e => hn (by rw [show k = g from e]))⟩ (by
            have hb := HO.out.base
            rcases A with _ | a
            · simp [Value.ownBlock]
            · have := hb a.block rfl
              simp [Value.ownBlock]; omega), HO.out.2⟩
          have HV : Hid (RV g n w l L x r2 R (.slice A L cap) (.int .i64 0) w3) := Lib.hid ⟨0, L, A, cap, Nat.zero_le _, rfl, rfl, rfl, by simpa using HO3.out, ⟨HR2.out, HLR2.out⟩, HK.out.trans HKA.out⟩
          clear HI HR1 HK1 HR2 HK2 HKA HO3 HO HRD hd1 hd2 hd3 hmw hki
          go_loopw [5, 27] (fun u v wk => RV g n w l L x r2 R u v wk) (fun _ v _ => R - (intOf v).toNat)
          case atStart => exact HV.out
          case round =>
            obtain ⟨j, N, A2, c2, hj, rfl, rfl, hN, ho, hrd, hk⟩ := hrel
            have HO2 := Lib.hid ho; have HRD2 := Lib.hid hrd; have HK2 := Lib.hid hk
            have HNE := Lib.hid hN
            have hN4 : N ≤ 4096 := by omega
            clear ho hrd hk HV hN
            by_cases hjR : j < R
            · have HAX := Lib.hid (is_one wr x HWX.out)
              have HOX := Lib.hid (HO2.out.keep ((Below.refl _ _).alloc (Nat.le_refl _) (.cells #[.int .i64 x] 2)))
              have HBB := Lib.hid ((Below.refl wr.heap.size wr).alloc (Nat.le_refl _) (.cells #[.int .i64 x] 2))
              have hbs : w.heap.size ≤ (wr.alloc (.cells #[.int .i64 x] 2)).heap.size := Nat.le_trans HK2.out.size HBB.out.size
              go_wp2_with (refine wpList_append_is rfl (.tmp 29) (.tmp 31) rfl w.heap.size A2 N c2 _ rfl HOX.out ⟨wr.heap.size, 0, none⟩ 1 1 [x] rfl rfl HAX.out (by omega) hbs ?_; intro A3 c3 w4 ho hg; have HO4 := Lib.hid ho; have HK4 : Hid (Kept (fun k => A2.map (·.block) = some k) (wr.alloc (.cells #[.int .i64 x] 2)) w4) := Lib.hid (Kept.of_grown hg); clear ho hg)
              have hb2 := HO2.out.base
              go_roundw
              case rel => exact ⟨j + 1, N + 1, A3, c3, by omega, by go_num, rfl, by have := HNE.out; omega, by rw [← rep_snoc]; exact HO4.out, (HRD2.out.high (Kept.of_below HBB.out) (S := fun _ => False) fun k hk => hk.elim).high HK4.out fun k hk => by have := hb2 k hk; omega, (HK2.out.trans (Kept.of_below HBB.out)).trans' HK4.out fun k hk => .inr (hb2 k hk)⟩
              case measure => simp [intOf]; omega
            · obtain rfl : j = R := by omega
              go_wp2
              go_roundw
              case rel => exact ⟨l ++ List.replicate j x, N, A2, c2, r2, rfl, by rw [List.length_append, List.length_replicate, ← HL.out]; exact HNE.out, by have := HNE.out; omega, HO2.out, HRD2.out, HK2.out, by rw [HN.out, HNE.out, HSUB.out]⟩
              case measure => have := HNE.out; simp [lenOfS]; omega
    · obtain rfl : L = n := by omega
      have HN : Hid (rruns L q = some (l, q')) := Lib.hid (by rw [HRR.out, Nat.sub_self, rruns_zero]; simp)
      go_wp2
      go_ret
      rw [HN.out]
      exact ⟨⟨A, L, cap, rfl, HO.out⟩, HRD.out, HK.out⟩
end Go.Proofs.YtpobfgokikfmbaaGreatDoor

set_option linter.unusedSimpArgs false
set_option linter.unusedVariables false
set_option maxRecDepth 8000
namespace Go.Proofs.YtpobfgokikfmbaaGreatDoor
open Go.RowKit Go.WideShapes Col
namespace Col
def atI (i W : Nat) : Int := (i : Int) * (W : Int) - (W : Int)
theorem atI_add (i W : Nat) : atI i W + (W : Int) = ((i * W : Nat) : Int) := by unfold atI; rw [Int.natCast_mul]; omega
theorem atI_next (i W : Nat) : atI (i + 1) W = ((i * W : Nat) : Int) := by unfold atI; rw [Int.natCast_mul, Int.natCast_add, Int.add_mul]; simp
theorem atI_zero (W : Nat) : atI 0 W = -(W : Int) := by unfold atI; simp
/-- The i-th of some packed numbers. -/
def pval (W V : Nat) (mn : Int) (i : Nat) : Int := wrap64 (mn + IntKind.i64.wrap ((bitsAt V (i * W) W : Nat) : Int))
def pstep (W V : Nat) (mn : Int) (s : Nat × List Nat) : Option (Int × (Nat × List Nat)) := some (pval W V mn s.1, (s.1 + 1, s.2))
theorem prun (W V : Nat) (mn : Int) (r : List Nat) : ∀ k, runS (pstep W V mn) k (0, r) = some ((List.range k).map (pval W V mn), (k, r))
  | 0 => rfl
  | k + 1 => by rw [runS, prun W V mn r k]; simp [pstep, List.range_succ]
end Col
attribute [irreducible] atI
structure PS (g ca cw cl cp W K C V : Nat) (A : Option Addr) (mn : Int) (s : Nat × List Nat) (w : World) : Prop where
  rd : RdM g s.2 w
  ra : w.heap[ca]? = some (.cells #[.int .i64 (atI s.1 W)] 3 (0, 0))
  rw : w.heap[cw]? = some (.cells #[.int .i64 (W : Int)] 3 (0, 0))
  rl : w.heap[cl]? = some (.cells #[.int .i64 mn] 2 (0, 0))
  rp : w.heap[cp]? = some (.cells #[.slice A K C] 22 (0, 0))
  bytes : ByAt w A (leb K V)
  low : ∀ a, A = some a → 0 < (leb K V).length → a.block < g
  n1 : g < ca
  n2 : g < cw
  n3 : g < cl
  n4 : g < cp
  n5 : ca ≠ cw
  n6 : ca ≠ cl
  n7 : ca ≠ cp
section
variable {g ca cw cl cp W K C V : Nat} {A : Option Addr} {mn : Int} {s : Nat × List Nat} {w w' : World}
theorem PS.keep {S : Nat → Prop} (h : PS g ca cw cl cp W K C V A mn s w) (hk : Kept S w w') (hS : ∀ k, S k → g < k ∧ k ≠ ca ∧ k ≠ cw ∧ k ≠ cl ∧ k ≠ cp) : PS g ca cw cl cp W K C V A mn s w' :=
  ⟨h.rd.high hk fun k hs => (hS k hs).1, hk.heap h.ra fun e => (hS _ e).2.1 rfl, hk.heap h.rw fun e => (hS _ e).2.2.1 rfl, hk.heap h.rl fun e => (hS _ e).2.2.2.1 rfl, hk.heap h.rp fun e => (hS _ e).2.2.2.2 rfl,
    h.bytes.kept hk fun a ha h0 hs => by have := h.low a ha h0; have := (hS _ hs).1; omega, h.low, h.n1, h.n2, h.n3, h.n4, h.n5, h.n6, h.n7⟩
theorem PS.c_ca (h : PS g ca cw cl cp W K C V A mn s w) : w.cell? ⟨ca, 0, none⟩ = some (.int .i64 (atI s.1 W)) := by rw [cell_of_row _ _ _ _ _ _ h.ra]; rfl
theorem PS.c_cw (h : PS g ca cw cl cp W K C V A mn s w) : w.cell? ⟨cw, 0, none⟩ = some (.int .i64 (W : Int)) := by rw [cell_of_row _ _ _ _ _ _ h.rw]; rfl
theorem PS.c_cl (h : PS g ca cw cl cp W K C V A mn s w) : w.cell? ⟨cl, 0, none⟩ = some (.int .i64 mn) := by rw [cell_of_row _ _ _ _ _ _ h.rl]; rfl
theorem PS.c_cp (h : PS g ca cw cl cp W K C V A mn s w) : w.cell? ⟨cp, 0, none⟩ = some (.slice A K C) := by rw [cell_of_row _ _ _ _ _ _ h.rp]; rfl
theorem PS.lts (h : PS g ca cw cl cp W K C V A mn s w) : ca < w.heap.size ∧ cw < w.heap.size ∧ cl < w.heap.size ∧ cp < w.heap.size := ⟨(Array.getElem?_eq_some_iff.1 h.ra).1, (Array.getElem?_eq_some_iff.1 h.rw).1, (Array.getElem?_eq_some_iff.1 h.rl).1, (Array.getElem?_eq_some_iff.1 h.rp).1⟩
theorem PS.put {i : Nat} {r : List Nat} (h : PS g ca cw cl cp W K C V A mn (i, r) w) : PS g ca cw cl cp W K C V A mn (i + 1, r) (w.setCell ⟨ca, 0, none⟩ (.int .i64 ((i * W : Nat) : Int))) := by
  have hk : Kept (fun k => k = ca) w (w.setCell ⟨ca, 0, none⟩ (.int .i64 ((i * W : Nat) : Int))) := (Kept.refl _ _).setCell _ _ (.inl rfl)
  refine ⟨h.rd.high hk fun k hs => by have hs : k = ca := hs; have := h.n1; omega, ?_, hk.heap h.rw fun e => h.n5 e.symm, hk.heap h.rl fun e => h.n6 e.symm, hk.heap h.rp fun e => h.n7 e.symm, h.bytes.kept hk fun a ha h0 hs => by have := h.low a ha h0; have := h.n1; have hs : a.block = ca := hs; omega, h.low, h.n1, h.n2, h.n3, h.n4, h.n5, h.n6, h.n7⟩
  have h1 := h.ra
  rw [World.setCell, atI_next]; simp [Array.getElem?_modify, h1]
end
theorem i64_wrap (n : Int) : IntKind.i64.wrap n = wrap64 n := by unfold wrap64; rw [IntKind.wrap_i64]
theorem pv_eq (W V : Nat) (mn : Int) (i at' : Nat) (h : at' = i * W) : wrap64 (mn + IntKind.i64.wrap ((bitsAt V at' W : Nat) : Int)) = pval W V mn i := by subst h; rfl
set_option maxHeartbeats 2000000 in
theorem packed_step (g ca cw cl cp W K C V : Nat) (A : Option Addr) (mn : Int) (i : Nat) (r : List Nat) (hW : W ≤ 64) (hK : K ≤ 100000000) (hi : i * W + W ≤ 8 * K) (hV : Hid (V < 2 ^ (8 * K))) (w : World) (H : Hid (PS g ca cw cl cp W K C V A mn (i, r) w)) :
    Calls Tryz.prog 130 #[.pointer (some ⟨ca, 0, none⟩), .pointer (some ⟨cw, 0, none⟩), .pointer (some ⟨cl, 0, none⟩), .pointer (some ⟨cp, 0, none⟩)] w (StepEnds g (Two g ca) (PS g ca cw cl cp W K C V A mn) (pstep W V mn (i, r)) w) := by
  have c1 := H.out.c_ca
  have c2 := H.out.c_cw
  have f1 : w.frozen? ⟨ca, 0, none⟩ = false := row_frozen H.out.ra 0
  obtain ⟨at', hat⟩ : ∃ at', at' = i * W := ⟨_, rfl⟩
  have HAT := Lib.hid hat
  have hadd : atI i W + (W : Int) = (at' : Int) := by rw [hat]; exact atI_add i W
  rw [← hat] at hi
  have HP2 := Lib.hid H.out.put
  rw [← hat] at HP2
  have HK : Hid (Kept (Two g ca) w (w.setCell ⟨ca, 0, none⟩ (.int .i64 (at' : Int)))) := Lib.hid ((Kept.refl _ _).setCell _ _ (.inl (.inr rfl)))
  have hat9 : at' ≤ 800000000 := by omega
  clear hat
  go_enter Tryz.func130, Tryz.ntmps130
  go_upto_region 2 with fail
  generalize hw9 : w.setCell ⟨ca, 0, none⟩ (.int .i64 (at' : Int)) = w9 at *
  clear c1 c2 f1
  have HL := Lib.hid HP2.out.lts
  have HCA : Hid (w9.cell? ⟨ca, 0, none⟩ = some (.int .i64 (at' : Int))) := Lib.hid (by have := HP2.out.c_ca; rwa [atI_next, ← HAT.out] at this)
  have HCW := Lib.hid HP2.out.c_cw; have HCL := Lib.hid HP2.out.c_cl; have HCP := Lib.hid HP2.out.c_cp
  have HGB := Lib.hid (getBits_any A K C V at' W hW hK hi hV w9.drew (Lib.hid (HP2.out.bytes.keep ((Below.refl _ _).drew))))
  refine wp_region_held_drew (S := fun w' => Below w9.heap.size w9 w') (by kernel_rfl) ((Below.refl _ _).drew) (fun hHeld => ?_)
  refine wpAnyH_take (i := 0) (v := .int .i64 mn) rfl (by kernel_rfl) (by kernel_rfl) (by kernel_rfl) (fun _ _ _ h => h) (Or.inl ⟨by rfl, fun w hw => by have hc : w.cell? ⟨cl, 0, none⟩ = some (.int .i64 mn) := (hw.cell (p := ⟨cl, 0, none⟩) HL.out.2.2.1).trans HCL.out; go_simp⟩) hHeld ?_
  try dsimp only
  try simp only [Act.put, List.getElem_toArray, List.getElem_cons_zero, List.getElem_cons_succ, List.setIfInBounds_toArray, List.set_cons_zero, List.set_cons_succ]
  refine wpAnyH_take (i := 1) (v := .slice A K C) rfl (by kernel_rfl) (by kernel_rfl) (by kernel_rfl) (fun _ _ _ h => h) (Or.inl ⟨by rfl, fun w hw => by have hc : w.cell? ⟨cp, 0, none⟩ = some (.slice A K C) := (hw.cell (p := ⟨cp, 0, none⟩) HL.out.2.2.2).trans HCP.out; go_simp⟩) hHeld ?_
  try dsimp only
  try simp only [Act.put, List.getElem_toArray, List.getElem_cons_zero, List.getElem_cons_succ, List.setIfInBounds_toArray, List.set_cons_zero, List.set_cons_succ]
  refine wpAnyH_take (i := 2) (v := .int .i64 (at' : Int)) rfl (by kernel_rfl) (by kernel_rfl) (by kernel_rfl) (fun _ _ _ h => h) (Or.inl ⟨by rfl, fun w hw => by have hc : w.cell? ⟨ca, 0, none⟩ = some (.int .i64 (at' : Int)) := (hw.cell (p := ⟨ca, 0, none⟩) HL.out.1).trans HCA.out; go_simp⟩) hHeld ?_
  try dsimp only
  try simp only [Act.put, List.getElem_toArray, List.getElem_cons_zero, List.getElem_cons_succ, List.setIfInBounds_toArray, List.set_cons_zero, List.set_cons_succ]
  refine wpAnyH_take (i := 3) (v := .int .i64 (W : Int)) rfl (by kernel_rfl) (by kernel_rfl) (by kernel_rfl) (fun _ _ _ h => h) (Or.inl ⟨by rfl, fun w hw => by have hc : w.cell? ⟨cw, 0, none⟩ = some (.int .i64 (W : Int)) := (hw.cell (p := ⟨cw, 0, none⟩) HL.out.2.1).trans HCW.out; go_simp⟩) hHeld ?_
  try dsimp only
  try simp only [Act.put, List.getElem_toArray, List.getElem_cons_zero, List.getElem_cons_succ, List.setIfInBounds_toArray, List.set_cons_zero, List.set_cons_succ]
  refine wpAnyH_ready (rs := [4]) (by kernel_rfl) (by simp) (AllReadyH.cons rfl (fun K hK => ?_) AllReadyH.nil)
  go_simp
  refine (HGB.out).mono ?_
  rintro e w10 ⟨rfl, rfl⟩
  refine hK.out _ _ hHeld (fun hHeld => ?_)
  clear hK K
  try dsimp only
  try simp only [Act.put, List.getElem_toArray, List.getElem_cons_zero, List.getElem_cons_succ, List.setIfInBounds_toArray, List.set_cons_zero, List.set_cons_succ]
  refine wpAnyH_ready (rs := [5]) (by kernel_rfl) (by simp) (AllReadyH.cons rfl (fun K hK => ?_) AllReadyH.nil)
  go_simp
  refine hK.out _ _ hHeld (fun hHeld => ?_)
  clear hK K
  try dsimp only
  try simp only [Act.put, List.getElem_toArray, List.getElem_cons_zero, List.getElem_cons_succ, List.setIfInBounds_toArray, List.set_cons_zero, List.set_cons_succ]
  refine wpAnyH_ready (rs := [6]) (by kernel_rfl) (by simp) (AllReadyH.cons rfl (fun K hK => ?_) AllReadyH.nil)
  go_simp
  refine hK.out _ _ hHeld (fun hHeld => ?_)
  clear hK K
  try dsimp only
  try simp only [Act.put, List.getElem_toArray, List.getElem_cons_zero, List.getElem_cons_succ, List.setIfInBounds_toArray, List.set_cons_zero, List.set_cons_succ]
  refine wpAnyH_ready (rs := [7]) (by kernel_rfl) (by simp) (AllReadyH.cons rfl (fun K hK => ?_) AllReadyH.nil)
  go_simp
  refine hK.out _ _ hHeld (fun hHeld => ?_)
  clear hK K
  try dsimp only
  try simp only [Act.put, List.getElem_toArray, List.getElem_cons_zero, List.getElem_cons_succ, List.setIfInBounds_toArray, List.set_cons_zero, List.set_cons_succ]
  refine wpAnyH_done (by kernel_rfl) ?_ _
  have HBX := Lib.hid hHeld
  go_wp2
  go_ret
  refine ⟨?_, wrap64_wf' _, HP2.out.keep (S := fun _ => False) (Kept.of_below HBX.out) fun k hk => hk.elim, HK.out.trans (Kept.of_below HBX.out)⟩
  exact ret_i64 ((i64_wrap _).trans (pv_eq W V mn i at' HAT.out))
end Go.Proofs.YtpobfgokikfmbaaGreatDoor

set_option linter.unusedSimpArgs false
set_option linter.unusedVariables false
set_option maxRecDepth 8000
namespace Go.Proofs.YtpobfgokikfmbaaGreatDoor
open Go.RowKit Go.WideShapes Col
namespace Col
/-- Packed numbers read. -/
def rpk2 (n : Nat) (mn : Int) : List Nat → Option (List Int × List Nat)
  | [] => none
  | W :: r => if W ≤ 64 ∧ (n * W + 7) / 8 ≤ r.length ∧ vlb (r.take ((n * W + 7) / 8)) < 2 ^ (n * W) then some ((List.range n).map (pval W (vlb (r.take ((n * W + 7) / 8))) mn), r.drop ((n * W + 7) / 8)) else none
def rpk (n : Nat) (q : List Nat) : Option (List Int × List Nat) := if n = 0 then some ([], q) else (zP q).bind fun p => rpk2 n p.1 p.2
theorem rpk_of {n : Nat} {q r : List Nat} {mn : Int} (h0 : n ≠ 0) (h : zP q = some (mn, r)) : rpk n q = rpk2 n mn r := by unfold rpk; rw [if_neg h0, h]; rfl
theorem rpk2_no {n W K : Nat} {mn : Int} {r : List Nat} (hK : K = (n * W + 7) / 8) (h : ¬ (W ≤ 64 ∧ K ≤ r.length ∧ vlb (r.take K) < 2 ^ (n * W))) : rpk2 n mn (W :: r) = none := by subst hK; rw [rpk2, if_neg h]
theorem rpk2_yes {n W K : Nat} {mn : Int} {r : List Nat} (hK : K = (n * W + 7) / 8) (h : W ≤ 64 ∧ K ≤ r.length ∧ vlb (r.take K) < 2 ^ (n * W)) : rpk2 n mn (W :: r) = some ((List.range n).map (pval W (vlb (r.take K)) mn), r.drop K) := by subst hK; rw [rpk2, if_pos h]
end Col
theorem packed_times (g ca cw cl cp W K C V : Nat) (A : Option Addr) (mn : Int) (n : Nat) (hn : n ≤ 4096) (r2 : List Nat) (w0 w8 : World) (hW : W ≤ 64) (hK : K ≤ 100000000) (hWn : n * W ≤ 8 * K) (hV : Hid (V < 2 ^ (8 * K))) (H : Hid (PS g ca cw cl cp W K C V A mn (0, r2) w8)) (hk : Kept (Only g) w0 w8) (hca : w0.heap.size ≤ ca) :
    Calls Tryz.prog 111 #[.int .i64 (n : Int), .func (.func 130) #[] #[.pointer (some ⟨ca, 0, none⟩), .pointer (some ⟨cw, 0, none⟩), .pointer (some ⟨cl, 0, none⟩), .pointer (some ⟨cp, 0, none⟩)]] w8
      (ListEnds g (Only g) (RdM g) (some ((List.range n).map (pval W V mn), r2)) w0) := by
  have hl := H.out.lts
  have ht := times_any (pstep W V mn) 130 #[] #[.pointer (some ⟨ca, 0, none⟩), .pointer (some ⟨cw, 0, none⟩), .pointer (some ⟨cl, 0, none⟩), .pointer (some ⟨cp, 0, none⟩)] (fun _ _ => by first | rfl | kernel_rfl) n hn g (Two g ca) (PS g ca cw cl cp W K C V A mn) w8
    (Lib.hid fun k hk => by have := H.out.n1; rcases hk with hk | hk <;> omega)
    (Lib.hid fun s w1 w3 h hk => h.keep hk fun k hk => by have := H.out.n1; have hk : w8.heap.size ≤ k := hk; omega)
    (0, r2) (Lib.hid fun k xs s w1 hkn hrun h _ => by
      rw [prun] at hrun
      injection hrun with hrun
      injection hrun with e1 e2
      subst e2
      exact packed_step g ca cw cl cp W K C V A mn k r2 hW hK (by
        have : (k + 1) * W ≤ n * W := Nat.mul_le_mul_right _ (by omega)
        rw [Nat.add_mul, Nat.one_mul] at this; omega) hV w1 (Lib.hid h)) H
  refine ht.mono fun e w' h => ?_
  rw [prun] at h
  exact h.lift hk (fun s => s.2) (fun s w' h => h.rd) (fun k hk => by
    rcases hk with hk | hk
    · exact .inl hk
    · right; omega)
theorem alloc_pt (w : World) (v : Value) (ty : TypeId) : ∃ c w', c = w.heap.size ∧ w' = w.alloc (.cells #[v] ty) ∧ w'.heap[c]? = some (.cells #[v] ty (0, 0)) ∧ Below w.heap.size w w' ∧ c < w'.heap.size :=
  ⟨_, _, rfl, rfl, heap_alloc_new' w _, (Below.refl _ _).alloc (Nat.le_refl _) _, by simp⟩
theorem last_byte {K V MW us b : Nat} (hV : V < 2 ^ (8 * K)) (hK : K = (MW + 7) / 8) (hus : us = MW % 8) (h0 : 0 < us) (hb : b = V / 2 ^ (8 * (K - 1)) % 256) : (b / 2 ^ us = 0 ↔ V < 2 ^ MW) := by
  have hK1 : 8 * K = 8 * (K - 1) + 8 := by omega
  have hMW : MW = 8 * (K - 1) + us := by omega
  have h1 : V / 2 ^ (8 * (K - 1)) < 256 := by rw [Nat.div_lt_iff_lt_mul (Nat.two_pow_pos _), Nat.mul_comm, show (256 : Nat) = 2 ^ 8 from rfl, ← Nat.pow_add, ← hK1]; exact hV
  rw [Nat.mod_eq_of_lt h1] at hb
  subst hb
  rw [Nat.div_div_eq_div_mul, ← Nat.pow_add, ← hMW]
  rw [Nat.div_eq_zero_iff]
  have := Nat.two_pow_pos MW
  omega
set_option maxHeartbeats 4000000 in
theorem readPacked_any (g : Nat) (n : Nat) (hn : n ≤ 4096) (q : List Nat) (w : World) (H : Hid (RdM g q w)) :
    Calls Tryz.prog 115 #[.pointer (some ⟨g, 0, none⟩), .int .i64 (n : Int)] w (ListEnds g (Only g) (RdM g) (rpk n q) w) := by
  by_cases hn0 : n = 0
  · subst hn0
    go_enter Tryz.func115, Tryz.ntmps115
    go_wp2
    go_ret
    exact ⟨⟨none, 0, 0, rfl, OwnI.nil _ _⟩, H.out, Kept.refl _ _⟩
  · have hz0 : ((n : Int) == 0) = false := by rw [beq_eq_false_iff_ne]; omega
    rcases hz : zP q with _ | ⟨mn, q1⟩
    · have HI := Lib.hid (int_no g q (Lib.hid hz) q.length (Lib.hid rfl) H.out.2 w (Lib.hid H.out.1))
      have HN : Hid (rpk n q = none) := Lib.hid (by unfold rpk; rw [if_neg hn0, hz]; rfl)
      rw [HN.out]
      clear hz hn0
      go_enter Tryz.func115, Tryz.ntmps115
      go_wp2_with (go_at_call 112; (with_reducible refine (HI.out).mono ?_); rintro e w2 ⟨rfl, h1, h2⟩)
      exact ⟨rfl, rfl, h1, h2⟩
    · have HI := Lib.hid (int_yes g mn q q1 (Lib.hid hz) (by have := H.out.2; omega) w (Lib.hid H.out.1))
      have HL1 := Lib.hid (Nat.le_trans (zP_left hz) H.out.2)
      have HWM := Lib.hid (zP_wf hz H.out.1.lt)
      have HN : Hid (rpk n q = rpk2 n mn q1) := Lib.hid (rpk_of hn0 hz)
      rw [HN.out]
      clear hz hn0
      go_enter Tryz.func115, Tryz.ntmps115
      go_wp2_with (go_at_call 112; (with_reducible refine (HI.out).mono ?_); rintro e w2 hy; obtain ⟨rfl, HR1, HK1⟩ := Yes.rd hy; clear hy)
      obtain ⟨cl, hcl⟩ : ∃ cl, cl = w2.heap.size := ⟨_, rfl⟩
      obtain ⟨w3, hw3⟩ : ∃ w3, w3 = w2.alloc (.cells #[.int .i64 mn] 2) := ⟨_, rfl⟩
      have HCL : Hid (w3.heap[cl]? = some (.cells #[.int .i64 mn] 2 (0, 0))) := Lib.hid (by rw [hw3, hcl]; exact heap_alloc_new' _ _)
      have HB3 : Hid (Below w2.heap.size w2 w3) := Lib.hid (by rw [hw3]; exact (Below.refl _ _).alloc (Nat.le_refl _) _)
      have hgcl : g < cl := by rw [hcl]; exact HR1.out.glt
      have hcl3 : cl < w3.heap.size := by rw [hw3, hcl]; simp
      have HWcl : Hid (w.heap.size ≤ cl) := Lib.hid (by rw [hcl]; exact HK1.out.size)
      have HR3 : Hid (Rd w3 g q1) := Lib.hid (HR1.out.high (S := fun _ => False) (Kept.of_below HB3.out) fun k hk => hk.elim)
      have HK3 : Hid (Kept (Only g) w w3) := Lib.hid (HK1.out.trans (Kept.of_below HB3.out))
      rw [← hw3, ← hcl]
      clear hw3 hcl HB3 HR1 HK1 HI
      rcases q1 with _ | ⟨W, r⟩
      · refine (byte_no g _ HR3).mono ?_
        rintro e w4 ⟨rfl, h1, h2⟩
        exact ⟨rfl, rfl, h1, HK3.out.trans h2⟩
      · have HWB : Hid (W < 256) := Lib.hid (HR3.out.lt W (List.mem_cons_self ..))
        refine (byte_yes g W r _ HR3).mono ?_
        rintro e w4 hy; obtain ⟨rfl, HR4, HK4⟩ := Yes.rd hy; clear hy
        have hwi : IntKind.i64.wrap (W : Int) = (W : Int) := by have := HWB.out; rw [IntKind.wrap_i64]; omega
        have hw256 := HWB.out
        obtain ⟨cw, hcw⟩ : ∃ cw, cw = w4.heap.size := ⟨_, rfl⟩
        obtain ⟨w5, hw5⟩ : ∃ w5, w5 = w4.alloc (.cells #[.int .i64 (W : Int)] 3) := ⟨_, rfl⟩
        have HE5 : Hid (w4.alloc (.cells #[.int .i64 (W : Int)] 3) = w5) := Lib.hid hw5.symm
        have HEC : Hid (w4.heap.size = cw) := Lib.hid hcw.symm
        have HB5 : Hid (Below w4.heap.size w4 w5) := Lib.hid (by rw [hw5]; exact (Below.refl _ _).alloc (Nat.le_refl _) _)
        have HCW : Hid (w5.heap[cw]? = some (.cells #[.int .i64 (W : Int)] 3 (0, 0))) := Lib.hid (by rw [hw5, hcw]; exact heap_alloc_new' _ _)
        have HCL5 : Hid (w5.heap[cl]? = some (.cells #[.int .i64 mn] 2 (0, 0))) := Lib.hid ((Kept.of_below (S := fun _ => False) HB5.out).heap (HK4.out.heap HCL.out fun e => by have e : cl = g := e; omega) fun e => e.elim)
        have hgcw : g < cw := by rw [hcw]; exact HR4.out.glt
        have hclw : cl < cw := by rw [hcw]; exact Nat.lt_of_lt_of_le hcl3 HK4.out.size
        have hcw5 : cw < w5.heap.size := by rw [hw5, hcw]; simp
        have HR5 : Hid (Rd w5 g r) := Lib.hid (HR4.out.high (S := fun _ => False) (Kept.of_below HB5.out) fun k hk => hk.elim)
        have HK5 : Hid (Kept (Only g) w w5) := Lib.hid ((HK3.out.trans HK4.out).trans (Kept.of_below HB5.out))
        have hc5 : w5.cell? ⟨cw, 0, none⟩ = some (.int .i64 (W : Int)) := by rw [cell_of_row _ _ _ _ _ _ HCW.out]; rfl
        clear hw5 hcw HB5 HR4 HR3 HCL HK3
        go_upto_region 5 with fail
        rw [HE5.out, HEC.out]
        clear HE5 HEC HK4
        by_cases hW : W ≤ 64
        · have hWi : (W : Int) ≤ 64 := by omega
          obtain ⟨MW, hMW⟩ : ∃ MW, MW = n * W := ⟨_, rfl⟩
          have hMWi : (n : Int) * (W : Int) = (MW : Int) := by rw [hMW]; exact (Int.natCast_mul n W).symm
          have hMWb : MW ≤ 262144 := by
            have : n * W ≤ 4096 * 64 := Nat.mul_le_mul hn hW
            omega
          obtain ⟨K, hK⟩ : ∃ K, K = (MW + 7) / 8 := ⟨_, rfl⟩
          have hKb : K ≤ 32769 := by omega
          have hKw : IntKind.u64.wrap (K : Int) = (K : Int) := by rw [IntKind.wrap_u64]; omega
          have HKE : Hid (K = (n * W + 7) / 8) := Lib.hid (by rw [hK, hMW])
          have HKM : Hid (K = (MW + 7) / 8) := Lib.hid hK
          have HMW := Lib.hid hMW
          have hBC := byteCount_any MW (by omega)
          rw [← hK] at hBC
          have HBC := Lib.hid hBC
          clear hBC hK hMW
          by_cases hKr : K ≤ r.length
          · obtain ⟨V, hVe⟩ : ∃ V, V = vlb (r.take K) := ⟨_, rfl⟩
            have hrl : ∀ x ∈ r.take K, x < 256 := fun x hx => HR5.out.lt x (List.mem_of_mem_take hx)
            have htl : (r.take K).length = K := by rw [List.length_take]; omega
            have HLEB : Hid (r.take K = leb K V) := Lib.hid (by
              have h := leb_vlb _ hrl
              rw [htl, ← hVe] at h; exact h.symm)
            have HV : Hid (V < 2 ^ (8 * K)) := Lib.hid (by have h := vlb_lt _ hrl; rwa [htl, ← hVe] at h)
            have HVE := Lib.hid hVe
            have HRL : Hid (r.length ≤ 1099511627776) := Lib.hid (by have := HL1.out; simp at this; omega)
            obtain ⟨A5, C5, hrd5⟩ := HR5.out
            have HT := Lib.hid (take_yes g C5 A5 r K r.length (Lib.hid rfl) hKr w5 (Lib.hid hrd5))
            have HKR := Lib.hid hKr
            clear hKr hrd5 hrl htl hVe
            go_upto_region 7 with (first
              | (go_at_call 51; refine (check_true _ _).mono ?_; rintro e w6 ⟨rfl, rfl⟩)
              | (go_at_call 93; refine (HBC.out _).mono ?_; rintro e w6 ⟨rfl, rfl⟩)
              | (go_at_call 107; (with_reducible refine (HT.out).mono ?_); rintro e w6 ⟨A, C, rfl, h1, h2, h3, h4, h5, h6, h7⟩; have HBY := Lib.hid h3; have HOF := Lib.hid h4; have HR6 := Lib.hid h5; have HK6 := Lib.hid h6; have HLO := Lib.hid h7; clear h3 h4 h5 h6 h7))
            obtain ⟨cp, w7, hcp, hw7, hrow7, hb7, hcp7⟩ := alloc_pt w6 (.slice A K C) 22
            rw [← hcp, ← hw7]
            have HK7 : Hid (Kept (Only g) w5 w7) := Lib.hid (HK6.out.trans (Kept.of_below hb7))
            have hw56 := HK6.out.size
            have HR7 : Hid (Rd w7 g (r.drop K)) := Lib.hid (HR6.out.high (S := fun _ => False) (Kept.of_below hb7) fun k hk => hk.elim)
            have HCW7 := Lib.hid (HK7.out.heap HCW.out fun e => by have e : cw = g := e; omega)
            have HCL7 := Lib.hid (HK7.out.heap HCL5.out fun e => by have e : cl = g := e; omega)
            have HCP7 := Lib.hid hrow7
            have HBY7 : Hid (ByAt w7 A (leb K V)) := Lib.hid (by rw [← HLEB.out]; exact (HBY.out.kept HK6.out HOF.out).keep hb7)
            have HLO7 : Hid (∀ a, A = some a → 0 < (leb K V).length → a.block < g) := Lib.hid (by rw [← HLEB.out]; exact HLO.out)
            have hgcp : g < cp := by omega
            have hc7 : w7.cell? ⟨cw, 0, none⟩ = some (.int .i64 (W : Int)) := by rw [cell_of_row _ _ _ _ _ _ HCW7.out]; rfl
            have hp7 : w7.cell? ⟨cp, 0, none⟩ = some (.slice A K C) := by rw [cell_of_row _ _ _ _ _ _ HCP7.out]; rfl
            have hcw7 : cw < w7.heap.size := Nat.lt_of_lt_of_le hcw5 HK7.out.size
            clear hcp hw7 hrow7 hb7 HT HBY HOF HR6 HK6 HLO HR5 hc5
            obtain ⟨us, hus⟩ : ∃ us, us = MW % 8 := ⟨_, rfl⟩
            have hqs : (MW : Int) % 8 = (us : Int) := by omega
            have hqs2 : (MW : Int).tmod 8 = (us : Int) := by rw [Int.tmod_eq_emod_of_nonneg (by omega)]; exact hqs
            have HUS := Lib.hid hus
            have hus8 : us < 8 := by omega
            have hK9 : K ≤ 100000000 := by omega
            have hWn : n * W ≤ 8 * K := by have := HKE.out; omega
            have HYES : ∀ (hv : V < 2 ^ MW), Hid (rpk2 n mn (W :: r) = some ((List.range n).map (pval W V mn), r.drop K)) := fun hv => Lib.hid (by
              rw [rpk2_yes HKE.out ⟨hW, HKR.out, by rw [← HVE.out, ← HMW.out]; exact hv⟩, ← HVE.out])
            have HNO : ∀ (hv : ¬ V < 2 ^ MW), Hid (rpk2 n mn (W :: r) = none) := fun hv => Lib.hid (rpk2_no HKE.out fun h => hv (by rw [HVE.out, HMW.out]; exact h.2.2))
            have HYES := Lib.hid HYES
            have HNO := Lib.hid HNO
            obtain ⟨ca, w8, hca, hw8, hrow8, hb8, hca8⟩ := alloc_pt w7 (.int .i64 (-(W : Int))) 3
            have HW8 : Hid (w7.alloc (.cells #[.int .i64 (-(W : Int))] 3) = w8) := Lib.hid hw8.symm
            have HCA : Hid (w7.heap.size = ca) := Lib.hid hca.symm
            have hk78 : Kept (fun _ => False) w7 w8 := Kept.of_below hb8
            have HPS : Hid (PS g ca cw cl cp W K C V A mn (0, r.drop K) w8) := Lib.hid ⟨⟨HR7.out.high hk78 fun k hk => hk.elim, by rw [List.length_drop]; have := HRL.out; omega⟩, by rw [atI_zero]; exact hrow8, hk78.heap HCW7.out fun e => e.elim, hk78.heap HCL7.out fun e => e.elim, hk78.heap HCP7.out fun e => e.elim, HBY7.out.keep hb8, HLO7.out, by omega, hgcw, hgcl, hgcp, by omega, by omega, by omega⟩
            have HTM := Lib.hid (packed_times g ca cw cl cp W K C V A mn n hn (r.drop K) w w8 hW hK9 hWn HV HPS (HK5.out.trans (HK7.out.trans (Kept.of_below hb8))) (by have := HWcl.out; omega))
            clear hca hw8 hrow8 hb8 hca8 hk78 hus
            by_cases hu0 : us = 0
            · have hv : V < 2 ^ MW := by have := HV.out; have := HKM.out; have := HUS.out; rw [show 8 * K = MW by omega] at *; assumption
              have HY := HYES.out hv
              subst hu0
              clear hv
              go_wp2_with (go_at_call 111; rw [HW8.out, HCA.out]; refine (HTM.out).mono ?_; rintro e w9 ⟨⟨A9, n9, c9, rfl, h1⟩, h2, h3⟩; have H1 := Lib.hid h1; have H2 := Lib.hid h2; have H3 := Lib.hid h3; clear h1 h2 h3)
              go_ret
              rw [HY.out]
              exact ⟨⟨A9, n9, c9, rfl, H1.out⟩, H2.out, H3.out⟩
            · have hui : (0 : Int) < (us : Int) := by omega
              obtain ⟨b, hb⟩ : ∃ b, b = V / 2 ^ (8 * (K - 1)) % 256 := ⟨_, rfl⟩
              have hLB := last_byte HV.out HKM.out HUS.out (by omega) hb
              have hK1 : 1 ≤ K := by have := HKM.out; have := HUS.out; omega
              obtain ⟨kl, hkl⟩ : ∃ kl, K = kl + 1 := ⟨K - 1, by omega⟩
              obtain ⟨hb256, gb, off, rfl, -, hcb⟩ := HBY7.out (K - 1) b (by rw [hb]; exact leb_get K V (K - 1) (by omega))
              rw [show K - 1 = kl by omega] at hcb
              have hkli : (K : Int) - 1 = (kl : Int) := by omega
              have hklK : (kl : Int) < (K : Int) := by omega
              have hshr := shr_u8 b us hb256 hus8
              obtain ⟨x, hx⟩ : ∃ x, x = b / 2 ^ us := ⟨_, rfl⟩
              rw [← hx] at hshr hLB
              have HLB := Lib.hid hLB
              have HKL := Lib.hid hkl
              clear hb hx hLB hkl hu0
              have hu64 : (us : Int) < 64 := by omega
              by_cases hx0 : x = 0
              · have HY := HYES.out (HLB.out.1 hx0)
                subst hx0
                go_wp2_with (first
                  | (go_at_call 51; refine (check_true _ _).mono ?_; rintro e w6 ⟨rfl, rfl⟩)
                  | (go_at_call 111; rw [HW8.out, HCA.out]; refine (HTM.out).mono ?_; rintro e w9 ⟨⟨A9, n9, c9, rfl, h1⟩, h2, h3⟩; have H1 := Lib.hid h1; have H2 := Lib.hid h2; have H3 := Lib.hid h3; clear h1 h2 h3))
                go_ret
                rw [HY.out]
                exact ⟨⟨A9, n9, c9, rfl, H1.out⟩, H2.out, H3.out⟩
              · have HN2 := HNO.out (fun h => hx0 (HLB.out.2 h))
                have hxz : ((x : Int) == 0) = false := by rw [beq_eq_false_iff_ne]; omega
                obtain ⟨A7, C7, hrd7⟩ := HR7.out
                have HRA := Lib.hid hrd7
                clear hx0 hrd7
                go_wp2_with (go_at_call 51; refine (check_false g C7 A7 (r.drop K) _ HRA).mono ?_; rintro e w6 ⟨rfl, h1, h2⟩)
                rw [HN2.out]
                exact ⟨rfl, rfl, h1, (HK5.out.trans HK7.out).trans h2⟩
          · have HNO := Lib.hid (rpk2_no (mn := mn) HKE.out (fun h => hKr h.2.1) : rpk2 n mn (W :: r) = none)
            have HTN := Lib.hid fun A C (h : RdA w5 g A C r) => take_no g C A r K r.length (Lib.hid rfl) (by omega) w5 (Lib.hid h)
            obtain ⟨A5, C5, hrd5⟩ := HR5.out
            have HT := Lib.hid (HTN.out A5 C5 hrd5)
            clear hKr
            go_wp2_with (first
              | (go_at_call 51; refine (check_true _ _).mono ?_; rintro e w6 ⟨rfl, rfl⟩)
              | (go_at_call 93; refine (HBC.out _).mono ?_; rintro e w6 ⟨rfl, rfl⟩)
              | (go_at_call 107; (with_reducible refine (HT.out).mono ?_); rintro e w6 ⟨rfl, h1, h2⟩))
            rw [HNO.out]
            exact ⟨rfl, rfl, h1, HK5.out.trans h2⟩
        · have hWi : ¬ (W : Int) ≤ 64 := by omega
          have hWd : decide ((W : Int) ≤ 64) = false := by simpa using hWi
          have HNO := Lib.hid (rpk2_no (mn := mn) rfl (fun h => hW h.1) : rpk2 n mn (W :: r) = none)
          clear hW
          obtain ⟨A5, C5, hrd5⟩ := HR5.out
          have HRA := Lib.hid hrd5
          clear hrd5
          go_wp2_with (go_at_call 51; refine (check_false g C5 A5 r _ HRA).mono ?_; rintro e w6 ⟨rfl, h1, h2⟩)
          rw [HNO.out]
          exact ⟨rfl, rfl, h1, HK5.out.trans h2⟩
end Go.Proofs.YtpobfgokikfmbaaGreatDoor
