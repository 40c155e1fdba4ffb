/-
  Layer ledger: the document's Add; the same lists of changes, and of panes.
-/
import Derived.Test.YtkhldnihboklaaaNm
set_option linter.unusedSimpArgs false
set_option linter.unusedVariables false
set_option maxRecDepth 8000
namespace Go.Proofs.Ytkhldnihboklaaa
open Go.RowKit Go.Sort

theorem telB_self (t : Tel) : telB t t = true := by unfold telB; simp
/-- What the document's Add ends with. -/
def RaEnd (W : World) (a : Option Addr) (n c : Nat) (l0 more : List Chg) (e : Ending) (w' : World) : Prop := Below W.heap.size W w' ∧ ((e = .returned (.tuple #[.slice a n c, .bool false]) ∧ accB l0 more = false) ∨
  (∃ (A : Option Addr) (N cap : Nat), e = .returned (.tuple #[.slice A N cap, .bool true]) ∧ accB l0 more = true ∧ OwnCh w' W.heap.size A N cap (l0 ++ more) ∧ N ≤ cap ∧ cap ≤ maxLen ∧ (A = none → cap = 0)))
/-- What its rounds hold. -/
def RRA (W : World) (n : Nat) (l0 more : List Chg) (u i : Value) (wr : World) : Prop := ∃ (k : Nat) (A : Option Addr) (N cap : Nat), k ≤ more.length ∧ i = .int .i64 k ∧ N = n + k ∧ u = .slice A N cap ∧ N ≤ cap ∧ cap ≤ maxLen ∧ (A = none → cap = 0) ∧ OwnCh wr W.heap.size A N cap (l0 ++ more.take k) ∧ accB l0 (more.take k) = true ∧ Below W.heap.size W wr
set_option maxHeartbeats 4000000 in
theorem radd_any (a : Option Addr) (n c : Nat) (l0 : List Chg) (a2 : Option Addr) (n2 c2 : Nat) (more : List Chg) (hn : n = l0.length) (hn2 : n2 = more.length) (h900 : n + n2 ≤ 900) (hnl : a = none → c = 0) (hv : Val l0) (hok : ∀ c ∈ l0, c.Ok) (hok2 : ∀ c ∈ more, c.Ok) (W : World) (H : Hid (ChAt W a l0)) (H2 : Hid (ChAt W a2 more)) :
    Calls Try.prog 9 #[.slice a n c, .slice a2 n2 c2] W (RaEnd W a n c l0 more) := by
  have HN := Lib.hid hn; have HN2 := Lib.hid hn2; have HV := Lib.hid hv; have HOK := Lib.hid hok; have HOK2 := Lib.hid hok2; have HNL := Lib.hid hnl
  clear hn hn2 hv hok hok2 hnl
  go_enter Try.func9, Try.ntmps9
  go_wp2_with (at_builtin; refine wpList_append_ch rfl _ _ rfl W.heap.size none 0 0 [] rfl (OwnCh.nil _ _) a n c l0 rfl HN.out H.out HNL.out n (by omega) (by omega) (Nat.le_refl _) ?_; intro A1 c1 w1 ho1 hc1 hm1 hn1 hb1 hg1 ha1; have HO1 := Lib.hid ho1; have HB1 := Lib.hid hb1; have HC1 := Lib.hid (And.intro hc1 (And.intro hm1 hn1)); clear ho1 hc1 hm1 hn1 hb1 hg1 ha1)
  go_loopw [6, 7] (fun u i wr => RRA W n l0 more u i wr) (fun _ i _ => n2 - (intOf i).toNat)
  case atStart => exact ⟨0, A1, n, c1, Nat.zero_le _, rfl, rfl, rfl, HC1.out.1, HC1.out.2.1, HC1.out.2.2, by rw [List.take_zero, List.append_nil]; exact HO1.out, rfl, HB1.out⟩
  case round =>
    obtain ⟨k, A, N, cap, hkl, rfl, hN, rfl, hc1, hc2, hc3, ho, hacc, hb⟩ := hrel
    have HNK := Lib.hid hN; have HCC := Lib.hid (And.intro hc1 (And.intro hc2 hc3)); have HO := Lib.hid ho; have HAC := Lib.hid hacc; have HB := Lib.hid hb; have HKL0 := Lib.hid hkl
    clear hN hc1 hc2 hc3 ho hacc hb hkl
    by_cases hin : k < n2
    · obtain ⟨y, hy⟩ : ∃ y, more[k]? = some y := ⟨more[k]'(by have := HN2.out; omega), List.getElem?_eq_getElem _⟩
      obtain ⟨ga, off, rfl, hg, hr0⟩ := chr H2.out k y hy
      have HG : Hid (ga < wr.heap.size) := Lib.hid (Nat.lt_of_lt_of_le hg HB.out.size)
      have HX : Hid (wr.rangeAt ga (off + k * 10) y.cells) := Lib.hid (rangeKeep hr0 hg HB.out)
      have hyok := HOK2.out y (List.mem_of_getElem? hy)
      have HYO := Lib.hid hyok
      have HTK : Hid (l0 ++ more.take (k + 1) = (l0 ++ more.take k) ++ [y]) := Lib.hid (by
        obtain ⟨hk1, rfl⟩ := List.getElem?_eq_some_iff.1 hy
        rw [List.take_succ_eq_append_getElem hk1, List.append_assoc])
      have HAK : Hid (accB l0 (more.take (k + 1)) = okN (l0 ++ more.take k) y) := Lib.hid (by rw [accB_take l0 more k y hy, HAC.out]; rfl)
      have hnx := next_any A N cap (l0 ++ more.take k) y HO.out.len (by have := HNK.out; omega) (HV.out.more HAC.out) (fun d hd => by
        rcases List.mem_append.1 hd with h | h
        · exact HOK.out d h
        · exact HOK2.out d (List.mem_of_mem_take h)) hyok wr (Lib.hid HO.out.at')
      clear hr0 hg hy hyok
      have hz : (k : Int) < (n2 : Int) := by omega
      rcases hok : okN (l0 ++ more.take k) y with _ | _
      · rw [hok] at hnx
        have HNX := Lib.hid hnx
        have HNO : Hid (accB l0 more = false) := Lib.hid (accB_stop l0 more (k + 1) (by rw [HAK.out]; exact hok))
        clear hnx hok
        go_wp2_with (first
          | (refine wpList_load_mid rfl 38 (.tmp 20) rfl ga (off + k * 10) rfl [.bool y.put, .int .u64 (y.rev : Int), .string y.p.key, .int .i64 y.p.s, .int .i64 y.p.e, .int .u64 (y.t.c : Int), .float .f64 y.t.s, .bool y.t.o, .float .f64 y.t.lo, .float .f64 y.t.hi] _ HX.out uCh rfl iCh ?_)
          | (go_at_call 18; with_reducible refine HNX.out.mono ?_; rintro e w2 ⟨rfl, hb2⟩; have HB2 := Lib.hid hb2; clear hb2))
        go_ret2
        exact ⟨bto HB.out HB2.out, .inl ⟨rfl, HNO.out⟩⟩
      · rw [hok] at hnx
        have HNX := Lib.hid hnx
        have HAK2 : Hid (accB l0 (more.take (k + 1)) = true) := Lib.hid (by rw [HAK.out]; exact hok)
        clear hnx hok
        go_wp2_with (first
          | (refine wpList_load_mid rfl 38 (.tmp 20) rfl ga (off + k * 10) rfl [.bool y.put, .int .u64 (y.rev : Int), .string y.p.key, .int .i64 y.p.s, .int .i64 y.p.e, .int .u64 (y.t.c : Int), .float .f64 y.t.s, .bool y.t.o, .float .f64 y.t.lo, .float .f64 y.t.hi] _ HX.out uCh rfl iCh ?_)
          | (go_at_call 18; with_reducible refine HNX.out.mono ?_; rintro e w2 ⟨rfl, hb2⟩; have HB2 := Lib.hid hb2; have HX2 : Hid (w2.rangeAt ga (off + k * 10) y.cells) := Lib.hid (rangeKeep HX.out HG.out hb2); have HO2 : Hid (OwnCh w2 W.heap.size A N cap (l0 ++ more.take k)) := Lib.hid (HO.out.below hb2 (fun g' off' e => (HO.out.lt g' off' e).1)); have HBW : Hid (Below W.heap.size W w2) := Lib.hid (bto HB.out hb2); clear hb2)
          | (refine wpList_load_mid rfl 38 (.tmp 28) rfl ga (off + k * 10) rfl [.bool y.put, .int .u64 (y.rev : Int), .string y.p.key, .int .i64 y.p.s, .int .i64 y.p.e, .int .u64 (y.t.c : Int), .float .f64 y.t.s, .bool y.t.o, .float .f64 y.t.lo, .float .f64 y.t.hi] _ HX2.out uCh rfl iCh ?_)
          | (at_builtin; refine wpList_append_ch rfl _ _ rfl W.heap.size A N cap (l0 ++ more.take k) rfl (HO2.out.below ((Below.refl _ _).alloc (Nat.le_refl _) _) (fun g' off' e => (HO2.out.lt g' off' e).1)) (some ⟨w2.heap.size, 0, none⟩) 1 1 [y] rfl rfl (chAt_new w2 [y] _ rfl _) (fun h => by cases h) (N + 1) rfl (by have := HNK.out; omega) (by have := HBW.out.size; simp; omega) ?_; intro A3 c3 w3 ho3 hc3 hm3 hn3 hb3 hg3 ha3; have HO3 := Lib.hid ho3; have HB3 := Lib.hid ((HBW.out.alloc HBW.out.size _).trans hb3); have HC3 := Lib.hid (And.intro hc3 (And.intro hm3 hn3)); clear ho3 hc3 hm3 hn3 hb3 hg3 ha3))
        go_roundw
        case rel => exact ⟨k + 1, A3, N + 1, c3, by have := HN2.out; omega, by go_num, by have := HNK.out; omega, rfl, HC3.out.1, HC3.out.2.1, HC3.out.2.2, by rw [HTK.out]; exact HO3.out, HAK2.out, HB3.out⟩
        case measure => (simp [intOf]; omega)
    · have hz : ¬ ((k : Int) < (n2 : Int)) := by omega
      go_wp2
      go_ret2
      have hk : k = more.length := by have := HKL0.out; have := HN2.out; omega
      refine ⟨HB.out, .inr ⟨A, N, cap, rfl, ?_, ?_, HCC.out.1, HCC.out.2.1, HCC.out.2.2⟩⟩
      · have h := HAC.out; rw [hk, List.take_length] at h; exact h
      · have h := HO.out; rw [hk, List.take_length] at h; exact h
set_option maxHeartbeats 4000000 in
theorem rsame13 (a a2 : Option Addr) (n c c2 : Nat) (l : List Pw) (hn : n = l.length) (h1000 : n ≤ 1000) (hok : ∀ c ∈ l, c.Ok) (W : World) (H : Hid (PwAt W a l)) (H2 : Hid (PwAt W a2 l)) :
    Calls Try.prog 14 #[.slice a n c, .slice a2 n c2] W fun e w' => e = .returned (.bool true) ∧ Below W.heap.size W w' := by
  have HN := Lib.hid hn; have HOK := Lib.hid hok
  clear hn hok
  go_enter Try.func14, Try.ntmps14
  go_wp2
  go_loopw [5] (fun i wr => ∃ k : Nat, k ≤ n ∧ i = .int .i64 k ∧ Below W.heap.size W wr) (fun i _ => n - (intOf i).toNat)
  case atStart => exact ⟨0, Nat.zero_le _, rfl, Below.refl _ _⟩
  case round =>
    obtain ⟨k, hkn, rfl, hb⟩ := hrel
    obtain ⟨wk, hwk⟩ : ∃ wk, wk = wr := ⟨wr, rfl⟩
    subst hwk
    have HB := Lib.hid hb
    clear hb
    by_cases hin : k < n
    · obtain ⟨y, hy⟩ : ∃ y, l[k]? = some y := ⟨l[k]'(by have := HN.out; omega), List.getElem?_eq_getElem _⟩
      obtain ⟨ga, off, rfl, hg, hr0⟩ := pwr H.out k y hy
      obtain ⟨gb, off2, rfl, hg2, hr2⟩ := pwr H2.out k y hy
      have HX : Hid (wk.rangeAt ga (off + k * 8) y.cells) := Lib.hid (rangeKeep hr0 hg HB.out)
      have HY : Hid (wk.rangeAt gb (off2 + k * 8) y.cells) := Lib.hid (rangeKeep hr2 hg2 HB.out)
      have HG : Hid (ga < wk.heap.size) := Lib.hid (Nat.lt_of_lt_of_le hg HB.out.size)
      have HG2 : Hid (gb < wk.heap.size) := Lib.hid (Nat.lt_of_lt_of_le hg2 HB.out.size)
      have hyok := HOK.out y (List.mem_of_getElem? hy)
      have HCS : Hid (∀ w, Calls Try.prog 17 #[.agg #[.int .u64 (y.t.c : Int), .float .f64 y.t.s, .bool y.t.o, .float .f64 y.t.lo, .float .f64 y.t.hi], .agg #[.int .u64 (y.t.c : Int), .float .f64 y.t.s, .bool y.t.o, .float .f64 y.t.lo, .float .f64 y.t.hi]] w fun e w' => e = .returned (.bool true) ∧ Below w.heap.size w w') := Lib.hid (fun w => by
        have h := refAggSame_any y.t y.t hyok.t hyok.t w
        rw [telB_self] at h; exact h)
      clear hr0 hr2 hg hg2 hy hyok
      have hz : (k : Int) < (n : Int) := by omega
      have hb : (y.p.key.toList == y.p.key.toList) = true := by simp
      have hwq : ∀ w, (binOp .neq 31 (.agg #[.int .i64 y.p.s, .int .i64 y.p.e]) (.agg #[.int .i64 y.p.s, .int .i64 y.p.e])).run Try.prog w = .ok (.bool false) w := fun w => by
        rw [winNeq_run]; unfold winB; simp
      go_upto_region 6 with fail
      try simp only [List.append_eq, List.cons_append, List.nil_append]
      refine wp_region_held_drew (S := fun w => Below wk.heap.size wk w) (by kernel_rfl) ((Below.refl _ wk).drew) (fun hHeld => ?_)
      refine wpAnyH_take (i := 0) (v := .slice (some ⟨ga, off, none⟩) n c) rfl (by kernel_rfl) (by kernel_rfl) (by kernel_rfl) (fun _ _ _ h => h) (Or.inl ⟨by rfl, fun _ _ => rfl⟩) hHeld ?_
      try dsimp only
      try simp only [Act.put, List.getElem_toArray, List.getElem_cons_zero, List.getElem_cons_succ, List.setIfInBounds_toArray, List.set_cons_zero, List.set_cons_succ]
      refine wpAnyH_take (i := 1) (v := .int .i64 (k : Int)) rfl (by kernel_rfl) (by kernel_rfl) (by kernel_rfl) (fun _ _ _ h => h) (Or.inl ⟨by rfl, fun _ _ => rfl⟩) hHeld ?_
      try dsimp only
      try simp only [Act.put, List.getElem_toArray, List.getElem_cons_zero, List.getElem_cons_succ, List.setIfInBounds_toArray, List.set_cons_zero, List.set_cons_succ]
      refine wpAnyH_take (i := 2) (v := .pointer (some ⟨ga, off + k * 8, none⟩)) rfl (by kernel_rfl) (by kernel_rfl) (by kernel_rfl) (fun _ _ _ h => h) (Or.inl ⟨by rfl, fun w _ => by go_simp⟩) hHeld ?_
      try dsimp only
      try simp only [Act.put, List.getElem_toArray, List.getElem_cons_zero, List.getElem_cons_succ, List.setIfInBounds_toArray, List.set_cons_zero, List.set_cons_succ]
      refine wpAnyH_take (i := 3) (v := .pointer (some ⟨ga, off + k * 8, none⟩)) rfl (by kernel_rfl) (by kernel_rfl) (by kernel_rfl) (fun _ _ _ h => h) (Or.inl ⟨by rfl, fun w _ => by go_simp⟩) hHeld ?_
      try dsimp only
      try simp only [Act.put, List.getElem_toArray, List.getElem_cons_zero, List.getElem_cons_succ, List.setIfInBounds_toArray, List.set_cons_zero, List.set_cons_succ]
      refine wpAnyH_take (i := 4) (v := .string y.p.key) rfl (by kernel_rfl) (by kernel_rfl) (by kernel_rfl) (fun _ _ _ h => h) (Or.inl ⟨by rfl, fun w hw => by have hr9 : w.rangeAt ga (off + k * 8) [.string y.p.key, .int .i64 y.p.s, .int .i64 y.p.e, .int .u64 (y.t.c : Int), .float .f64 y.t.s, .bool y.t.o, .float .f64 y.t.lo, .float .f64 y.t.hi] := (rangeKeep HX.out HG.out hw); have hc : w.cell? ⟨ga, off + k * 8, none⟩ = some (.string y.p.key) := hr9 0 _ rfl; go_simp⟩) hHeld ?_
      try dsimp only
      try simp only [Act.put, List.getElem_toArray, List.getElem_cons_zero, List.getElem_cons_succ, List.setIfInBounds_toArray, List.set_cons_zero, List.set_cons_succ]
      refine wpAnyH_take (i := 5) (v := .slice (some ⟨gb, off2, none⟩) n c2) rfl (by kernel_rfl) (by kernel_rfl) (by kernel_rfl) (fun _ _ _ h => h) (Or.inl ⟨by rfl, fun _ _ => rfl⟩) hHeld ?_
      try dsimp only
      try simp only [Act.put, List.getElem_toArray, List.getElem_cons_zero, List.getElem_cons_succ, List.setIfInBounds_toArray, List.set_cons_zero, List.set_cons_succ]
      refine wpAnyH_take (i := 6) (v := .int .i64 (k : Int)) rfl (by kernel_rfl) (by kernel_rfl) (by kernel_rfl) (fun _ _ _ h => h) (Or.inl ⟨by rfl, fun _ _ => rfl⟩) hHeld ?_
      try dsimp only
      try simp only [Act.put, List.getElem_toArray, List.getElem_cons_zero, List.getElem_cons_succ, List.setIfInBounds_toArray, List.set_cons_zero, List.set_cons_succ]
      refine wpAnyH_take (i := 7) (v := .pointer (some ⟨gb, off2 + k * 8, none⟩)) rfl (by kernel_rfl) (by kernel_rfl) (by kernel_rfl) (fun _ _ _ h => h) (Or.inl ⟨by rfl, fun w _ => by go_simp⟩) hHeld ?_
      try dsimp only
      try simp only [Act.put, List.getElem_toArray, List.getElem_cons_zero, List.getElem_cons_succ, List.setIfInBounds_toArray, List.set_cons_zero, List.set_cons_succ]
      refine wpAnyH_take (i := 8) (v := .pointer (some ⟨gb, off2 + k * 8, none⟩)) rfl (by kernel_rfl) (by kernel_rfl) (by kernel_rfl) (fun _ _ _ h => h) (Or.inl ⟨by rfl, fun w _ => by go_simp⟩) hHeld ?_
      try dsimp only
      try simp only [Act.put, List.getElem_toArray, List.getElem_cons_zero, List.getElem_cons_succ, List.setIfInBounds_toArray, List.set_cons_zero, List.set_cons_succ]
      refine wpAnyH_take (i := 9) (v := .string y.p.key) rfl (by kernel_rfl) (by kernel_rfl) (by kernel_rfl) (fun _ _ _ h => h) (Or.inl ⟨by rfl, fun w hw => by have hr9 : w.rangeAt gb (off2 + k * 8) [.string y.p.key, .int .i64 y.p.s, .int .i64 y.p.e, .int .u64 (y.t.c : Int), .float .f64 y.t.s, .bool y.t.o, .float .f64 y.t.lo, .float .f64 y.t.hi] := (rangeKeep HY.out HG2.out hw); have hc : w.cell? ⟨gb, off2 + k * 8, none⟩ = some (.string y.p.key) := hr9 0 _ rfl; go_simp⟩) hHeld ?_
      try dsimp only
      try simp only [Act.put, List.getElem_toArray, List.getElem_cons_zero, List.getElem_cons_succ, List.setIfInBounds_toArray, List.set_cons_zero, List.set_cons_succ]
      refine wpAnyH_take (i := 10) (v := .bool false) rfl (by kernel_rfl) (by kernel_rfl) (by kernel_rfl) (fun _ _ _ h => h) (Or.inl ⟨by rfl, fun w _ => by go_simp⟩) hHeld ?_
      try dsimp only
      try simp only [Act.put, List.getElem_toArray, List.getElem_cons_zero, List.getElem_cons_succ, List.setIfInBounds_toArray, List.set_cons_zero, List.set_cons_succ]
      refine wpAnyH_take (i := 11) (v := .bool false) rfl (by kernel_rfl) (by kernel_rfl) (by kernel_rfl) (fun _ _ _ h => h) (Or.inl ⟨by rfl, fun _ _ => rfl⟩) hHeld ?_
      try dsimp only
      try simp only [Act.put, List.getElem_toArray, List.getElem_cons_zero, List.getElem_cons_succ, List.setIfInBounds_toArray, List.set_cons_zero, List.set_cons_succ]
      refine wpAnyH_take (i := 12) (v := .slice (some ⟨ga, off, none⟩) n c) rfl (by kernel_rfl) (by kernel_rfl) (by kernel_rfl) (fun _ _ _ h => h) (Or.inl ⟨by rfl, fun _ _ => rfl⟩) hHeld ?_
      try dsimp only
      try simp only [Act.put, List.getElem_toArray, List.getElem_cons_zero, List.getElem_cons_succ, List.setIfInBounds_toArray, List.set_cons_zero, List.set_cons_succ]
      refine wpAnyH_take (i := 13) (v := .int .i64 (k : Int)) rfl (by kernel_rfl) (by kernel_rfl) (by kernel_rfl) (fun _ _ _ h => h) (Or.inl ⟨by rfl, fun _ _ => rfl⟩) hHeld ?_
      try dsimp only
      try simp only [Act.put, List.getElem_toArray, List.getElem_cons_zero, List.getElem_cons_succ, List.setIfInBounds_toArray, List.set_cons_zero, List.set_cons_succ]
      refine wpAnyH_take (i := 14) (v := .pointer (some ⟨ga, off + k * 8, none⟩)) rfl (by kernel_rfl) (by kernel_rfl) (by kernel_rfl) (fun _ _ _ h => h) (Or.inl ⟨by rfl, fun w _ => by go_simp⟩) hHeld ?_
      try dsimp only
      try simp only [Act.put, List.getElem_toArray, List.getElem_cons_zero, List.getElem_cons_succ, List.setIfInBounds_toArray, List.set_cons_zero, List.set_cons_succ]
      refine wpAnyH_take (i := 15) (v := .pointer (some ⟨ga, off + k * 8 + 1, none⟩)) rfl (by kernel_rfl) (by kernel_rfl) (by kernel_rfl) (fun _ _ _ h => h) (Or.inl ⟨by rfl, fun w _ => by go_simp⟩) hHeld ?_
      try dsimp only
      try simp only [Act.put, List.getElem_toArray, List.getElem_cons_zero, List.getElem_cons_succ, List.setIfInBounds_toArray, List.set_cons_zero, List.set_cons_succ]
      refine wpAnyH_take (i := 16) (v := .agg [.int .i64 y.p.s, .int .i64 y.p.e].toArray) rfl (by kernel_rfl) (by kernel_rfl) (by kernel_rfl) (fun _ _ _ h => h) (yieldsIf_load_mid rfl 31 (.tmp 32) rfl ga (off + k * 8 + 1) rfl [.int .i64 y.p.s, .int .i64 y.p.e] _ (fun w hw => rsub (cs := [.string y.p.key, .int .i64 y.p.s, .int .i64 y.p.e, .int .u64 (y.t.c : Int), .float .f64 y.t.s, .bool y.t.o, .float .f64 y.t.lo, .float .f64 y.t.hi]) (rangeKeep HX.out HG.out hw) 1 2 _ rfl _ rfl) uWin rfl iWin) hHeld ?_
      try dsimp only
      try simp only [Act.put, List.getElem_toArray, List.getElem_cons_zero, List.getElem_cons_succ, List.setIfInBounds_toArray, List.set_cons_zero, List.set_cons_succ]
      refine wpAnyH_take (i := 17) (v := .slice (some ⟨gb, off2, none⟩) n c2) rfl (by kernel_rfl) (by kernel_rfl) (by kernel_rfl) (fun _ _ _ h => h) (Or.inl ⟨by rfl, fun _ _ => rfl⟩) hHeld ?_
      try dsimp only
      try simp only [Act.put, List.getElem_toArray, List.getElem_cons_zero, List.getElem_cons_succ, List.setIfInBounds_toArray, List.set_cons_zero, List.set_cons_succ]
      refine wpAnyH_take (i := 18) (v := .int .i64 (k : Int)) rfl (by kernel_rfl) (by kernel_rfl) (by kernel_rfl) (fun _ _ _ h => h) (Or.inl ⟨by rfl, fun _ _ => rfl⟩) hHeld ?_
      try dsimp only
      try simp only [Act.put, List.getElem_toArray, List.getElem_cons_zero, List.getElem_cons_succ, List.setIfInBounds_toArray, List.set_cons_zero, List.set_cons_succ]
      refine wpAnyH_take (i := 19) (v := .pointer (some ⟨gb, off2 + k * 8, none⟩)) rfl (by kernel_rfl) (by kernel_rfl) (by kernel_rfl) (fun _ _ _ h => h) (Or.inl ⟨by rfl, fun w _ => by go_simp⟩) hHeld ?_
      try dsimp only
      try simp only [Act.put, List.getElem_toArray, List.getElem_cons_zero, List.getElem_cons_succ, List.setIfInBounds_toArray, List.set_cons_zero, List.set_cons_succ]
      refine wpAnyH_take (i := 20) (v := .pointer (some ⟨gb, off2 + k * 8 + 1, none⟩)) rfl (by kernel_rfl) (by kernel_rfl) (by kernel_rfl) (fun _ _ _ h => h) (Or.inl ⟨by rfl, fun w _ => by go_simp⟩) hHeld ?_
      try dsimp only
      try simp only [Act.put, List.getElem_toArray, List.getElem_cons_zero, List.getElem_cons_succ, List.setIfInBounds_toArray, List.set_cons_zero, List.set_cons_succ]
      refine wpAnyH_take (i := 21) (v := .agg [.int .i64 y.p.s, .int .i64 y.p.e].toArray) rfl (by kernel_rfl) (by kernel_rfl) (by kernel_rfl) (fun _ _ _ h => h) (yieldsIf_load_mid rfl 31 (.tmp 37) rfl gb (off2 + k * 8 + 1) rfl [.int .i64 y.p.s, .int .i64 y.p.e] _ (fun w hw => rsub (cs := [.string y.p.key, .int .i64 y.p.s, .int .i64 y.p.e, .int .u64 (y.t.c : Int), .float .f64 y.t.s, .bool y.t.o, .float .f64 y.t.lo, .float .f64 y.t.hi]) (rangeKeep HY.out HG2.out hw) 1 2 _ rfl _ rfl) uWin rfl iWin) hHeld ?_
      try dsimp only
      try simp only [Act.put, List.getElem_toArray, List.getElem_cons_zero, List.getElem_cons_succ, List.setIfInBounds_toArray, List.set_cons_zero, List.set_cons_succ]
      refine wpAnyH_take (i := 22) (v := .bool false) rfl (by kernel_rfl) (by kernel_rfl) (by kernel_rfl) (fun _ _ _ h => h) (Or.inl ⟨by rfl, fun w _ => by go_simp⟩) hHeld ?_
      try dsimp only
      try simp only [Act.put, List.getElem_toArray, List.getElem_cons_zero, List.getElem_cons_succ, List.setIfInBounds_toArray, List.set_cons_zero, List.set_cons_succ]
      refine wpAnyH_take (i := 23) (v := .bool false) rfl (by kernel_rfl) (by kernel_rfl) (by kernel_rfl) (fun _ _ _ h => h) (Or.inl ⟨by rfl, fun w _ => by go_simp⟩) hHeld ?_
      try dsimp only
      try simp only [Act.put, List.getElem_toArray, List.getElem_cons_zero, List.getElem_cons_succ, List.setIfInBounds_toArray, List.set_cons_zero, List.set_cons_succ]
      refine wpAnyH_take (i := 24) (v := .bool false) rfl (by kernel_rfl) (by kernel_rfl) (by kernel_rfl) (fun _ _ _ h => h) (Or.inl ⟨by rfl, fun _ _ => rfl⟩) hHeld ?_
      try dsimp only
      try simp only [Act.put, List.getElem_toArray, List.getElem_cons_zero, List.getElem_cons_succ, List.setIfInBounds_toArray, List.set_cons_zero, List.set_cons_succ]
      refine wpAnyH_take (i := 25) (v := .slice (some ⟨ga, off, none⟩) n c) rfl (by kernel_rfl) (by kernel_rfl) (by kernel_rfl) (fun _ _ _ h => h) (Or.inl ⟨by rfl, fun _ _ => rfl⟩) hHeld ?_
      try dsimp only
      try simp only [Act.put, List.getElem_toArray, List.getElem_cons_zero, List.getElem_cons_succ, List.setIfInBounds_toArray, List.set_cons_zero, List.set_cons_succ]
      refine wpAnyH_take (i := 26) (v := .int .i64 (k : Int)) rfl (by kernel_rfl) (by kernel_rfl) (by kernel_rfl) (fun _ _ _ h => h) (Or.inl ⟨by rfl, fun _ _ => rfl⟩) hHeld ?_
      try dsimp only
      try simp only [Act.put, List.getElem_toArray, List.getElem_cons_zero, List.getElem_cons_succ, List.setIfInBounds_toArray, List.set_cons_zero, List.set_cons_succ]
      refine wpAnyH_take (i := 27) (v := .pointer (some ⟨ga, off + k * 8, none⟩)) rfl (by kernel_rfl) (by kernel_rfl) (by kernel_rfl) (fun _ _ _ h => h) (Or.inl ⟨by rfl, fun w _ => by go_simp⟩) hHeld ?_
      try dsimp only
      try simp only [Act.put, List.getElem_toArray, List.getElem_cons_zero, List.getElem_cons_succ, List.setIfInBounds_toArray, List.set_cons_zero, List.set_cons_succ]
      refine wpAnyH_take (i := 28) (v := .pointer (some ⟨ga, off + k * 8 + 3, none⟩)) rfl (by kernel_rfl) (by kernel_rfl) (by kernel_rfl) (fun _ _ _ h => h) (Or.inl ⟨by rfl, fun w _ => by go_simp⟩) hHeld ?_
      try dsimp only
      try simp only [Act.put, List.getElem_toArray, List.getElem_cons_zero, List.getElem_cons_succ, List.setIfInBounds_toArray, List.set_cons_zero, List.set_cons_succ]
      refine wpAnyH_take (i := 29) (v := .agg [.int .u64 (y.t.c : Int), .float .f64 y.t.s, .bool y.t.o, .float .f64 y.t.lo, .float .f64 y.t.hi].toArray) rfl (by kernel_rfl) (by kernel_rfl) (by kernel_rfl) (fun _ _ _ h => h) (yieldsIf_load_mid rfl 34 (.tmp 45) rfl ga (off + k * 8 + 3) rfl [.int .u64 (y.t.c : Int), .float .f64 y.t.s, .bool y.t.o, .float .f64 y.t.lo, .float .f64 y.t.hi] _ (fun w hw => rsub (cs := [.string y.p.key, .int .i64 y.p.s, .int .i64 y.p.e, .int .u64 (y.t.c : Int), .float .f64 y.t.s, .bool y.t.o, .float .f64 y.t.lo, .float .f64 y.t.hi]) (rangeKeep HX.out HG.out hw) 3 5 _ rfl _ rfl) uAgg rfl iAgg) hHeld ?_
      try dsimp only
      try simp only [Act.put, List.getElem_toArray, List.getElem_cons_zero, List.getElem_cons_succ, List.setIfInBounds_toArray, List.set_cons_zero, List.set_cons_succ]
      refine wpAnyH_take (i := 30) (v := .slice (some ⟨gb, off2, none⟩) n c2) rfl (by kernel_rfl) (by kernel_rfl) (by kernel_rfl) (fun _ _ _ h => h) (Or.inl ⟨by rfl, fun _ _ => rfl⟩) hHeld ?_
      try dsimp only
      try simp only [Act.put, List.getElem_toArray, List.getElem_cons_zero, List.getElem_cons_succ, List.setIfInBounds_toArray, List.set_cons_zero, List.set_cons_succ]
      refine wpAnyH_take (i := 31) (v := .int .i64 (k : Int)) rfl (by kernel_rfl) (by kernel_rfl) (by kernel_rfl) (fun _ _ _ h => h) (Or.inl ⟨by rfl, fun _ _ => rfl⟩) hHeld ?_
      try dsimp only
      try simp only [Act.put, List.getElem_toArray, List.getElem_cons_zero, List.getElem_cons_succ, List.setIfInBounds_toArray, List.set_cons_zero, List.set_cons_succ]
      refine wpAnyH_take (i := 32) (v := .pointer (some ⟨gb, off2 + k * 8, none⟩)) rfl (by kernel_rfl) (by kernel_rfl) (by kernel_rfl) (fun _ _ _ h => h) (Or.inl ⟨by rfl, fun w _ => by go_simp⟩) hHeld ?_
      try dsimp only
      try simp only [Act.put, List.getElem_toArray, List.getElem_cons_zero, List.getElem_cons_succ, List.setIfInBounds_toArray, List.set_cons_zero, List.set_cons_succ]
      refine wpAnyH_take (i := 33) (v := .pointer (some ⟨gb, off2 + k * 8 + 3, none⟩)) rfl (by kernel_rfl) (by kernel_rfl) (by kernel_rfl) (fun _ _ _ h => h) (Or.inl ⟨by rfl, fun w _ => by go_simp⟩) hHeld ?_
      try dsimp only
      try simp only [Act.put, List.getElem_toArray, List.getElem_cons_zero, List.getElem_cons_succ, List.setIfInBounds_toArray, List.set_cons_zero, List.set_cons_succ]
      refine wpAnyH_take (i := 34) (v := .agg [.int .u64 (y.t.c : Int), .float .f64 y.t.s, .bool y.t.o, .float .f64 y.t.lo, .float .f64 y.t.hi].toArray) rfl (by kernel_rfl) (by kernel_rfl) (by kernel_rfl) (fun _ _ _ h => h) (yieldsIf_load_mid rfl 34 (.tmp 50) rfl gb (off2 + k * 8 + 3) rfl [.int .u64 (y.t.c : Int), .float .f64 y.t.s, .bool y.t.o, .float .f64 y.t.lo, .float .f64 y.t.hi] _ (fun w hw => rsub (cs := [.string y.p.key, .int .i64 y.p.s, .int .i64 y.p.e, .int .u64 (y.t.c : Int), .float .f64 y.t.s, .bool y.t.o, .float .f64 y.t.lo, .float .f64 y.t.hi]) (rangeKeep HY.out HG2.out hw) 3 5 _ rfl _ rfl) uAgg rfl iAgg) hHeld ?_
      try dsimp only
      try simp only [Act.put, List.getElem_toArray, List.getElem_cons_zero, List.getElem_cons_succ, List.setIfInBounds_toArray, List.set_cons_zero, List.set_cons_succ]
      refine wpAnyH_ready (rs := [35]) (by kernel_rfl) (by simp) (AllReadyH.cons rfl (fun K hK => ?_) AllReadyH.nil)
      go_simp
      refine (HCS.out _).mono ?_
      rintro e w2 ⟨rfl, hb2⟩
      replace hHeld := bto hHeld hb2
      clear hb2
      refine hK.out _ _ hHeld (fun hHeld => ?_)
      clear hK K
      try dsimp only
      try simp only [Act.put, List.getElem_toArray, List.getElem_cons_zero, List.getElem_cons_succ, List.setIfInBounds_toArray, List.set_cons_zero, List.set_cons_succ]
      refine wpAnyH_ready (rs := [36]) (by kernel_rfl) (by simp) (AllReadyH.cons rfl (fun K hK => ?_) AllReadyH.nil)
      go_simp
      refine hK.out _ _ hHeld (fun hHeld => ?_)
      clear hK K
      try dsimp only
      try simp only [Act.put, List.getElem_toArray, List.getElem_cons_zero, List.getElem_cons_succ, List.setIfInBounds_toArray, List.set_cons_zero, List.set_cons_succ]
      refine wpAnyH_ready (rs := [37]) (by kernel_rfl) (by simp) (AllReadyH.cons rfl (fun K hK => ?_) AllReadyH.nil)
      go_simp
      refine hK.out _ _ hHeld (fun hHeld => ?_)
      clear hK K
      try dsimp only
      try simp only [Act.put, List.getElem_toArray, List.getElem_cons_zero, List.getElem_cons_succ, List.setIfInBounds_toArray, List.set_cons_zero, List.set_cons_succ]
      refine wpAnyH_done (by kernel_rfl) ?_ _
      clear hwq hb
      have HBE := Lib.hid (bto HB.out hHeld)
      clear hHeld
      go_wp2
      go_roundw
      case rel => exact ⟨k + 1, by omega, by go_num, HBE.out⟩
      case measure => (simp [intOf]; omega)
    · have hz : ¬ ((k : Int) < (n : Int)) := by omega
      go_wp2
      go_ret
      exact ⟨rfl, HB.out⟩
end Go.Proofs.Ytkhldnihboklaaa
