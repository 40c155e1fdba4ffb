/-
  Layer ledger: the document's Next.
-/
import Derived.Test.YtkhldnihboklaaaNl
set_option linter.unusedSimpArgs false
set_option linter.unusedVariables false
set_option maxRecDepth 8000
namespace Go.Proofs.Ytkhldnihboklaaa
open Go.RowKit Go.Sort

theorem Kept.ofB {S : Nat → Prop} {w w' : World} (h : Below w.heap.size w w') : Kept S w w' := Kept.of_below h
theorem oneAgg (t : Tel) : (#[.int .u64 (t.c : Int), .float .f64 t.s, .bool t.o, .float .f64 t.lo, .float .f64 t.hi] : Array Value).all (·.oneCell') = true := all_oneCell_toArray fun v hv => by
  simp only [List.mem_cons, List.not_mem_nil, or_false] at hv
  rcases hv with rfl | rfl | rfl | rfl | rfl <;> rfl
/-- What its rounds hold. -/
def RNX (W : World) (l : List Chg) (cc : Chg) (u v i : Value) (wr : World) : Prop := ∃ (k : Nat) (x : Pn) (t : Tel), k ≤ l.length ∧ i = .int .i64 k ∧ x = (lastF (l.take k) cc.p).getD p0 ∧ u = .bool x.th ∧ v = .int .u64 (x.rev : Int) ∧ t.Ok ∧ (x.th = true → t = x.t) ∧
  wr.heap[W.heap.size]? = some (.cells #[.bool cc.put, .int .u64 (cc.rev : Int), .string cc.p.key, .int .i64 cc.p.s, .int .i64 cc.p.e, .int .u64 (cc.t.c : Int), .float .f64 cc.t.s, .bool cc.t.o, .float .f64 cc.t.lo, .float .f64 cc.t.hi] 38 (0, 0)) ∧ wr.heap[W.heap.size + 1]? = some (.cells #[.int .u64 (t.c : Int), .float .f64 t.s, .bool t.o, .float .f64 t.lo, .float .f64 t.hi] 34 (0, 0)) ∧ Below W.heap.size W wr
theorem mayB_put {x : Pn} {c : Chg} (h : c.put = true) : mayB x c = (!x.th && decide ((c.rev : Int) = (x.rev : Int))) := by
  have e : decide ((c.rev : Int) = (x.rev : Int)) = decide (c.rev = x.rev) := by rw [decide_eq_decide]; omega
  rw [e]; unfold mayB; rw [h]; cases x.th <;> simp
theorem mayB_not {x : Pn} {c : Chg} (h : c.put = false) : mayB x c = (x.th && decide ((c.rev : Int) = (x.rev : Int)) && telB c.t x.t) := by
  have e : decide ((c.rev : Int) = (x.rev : Int)) = decide (c.rev = x.rev) := by rw [decide_eq_decide]; omega
  rw [e]; unfold mayB; rw [h]; cases x.th <;> simp
set_option maxHeartbeats 4000000 in
theorem next_any (a : Option Addr) (n c : Nat) (l : List Chg) (cc : Chg) (hn : n = l.length) (h1000 : n ≤ 1000) (hv : Val l) (hok : ∀ c ∈ l, c.Ok) (hcc : cc.Ok) (W : World) (H : Hid (ChAt W a l)) :
    Calls Try.prog 18 #[.slice a n c, .agg #[.bool cc.put, .int .u64 (cc.rev : Int), .string cc.p.key, .int .i64 cc.p.s, .int .i64 cc.p.e, .int .u64 (cc.t.c : Int), .float .f64 cc.t.s, .bool cc.t.o, .float .f64 cc.t.lo, .float .f64 cc.t.hi]] W fun e w' => e = .returned (.bool (okN l cc)) ∧ Below W.heap.size W w' := by
  have HN := Lib.hid hn; have HV := Lib.hid hv; have HOK := Lib.hid hok; have HCC := Lib.hid hcc
  clear hn hv hok hcc
  go_enter Try.func18, Try.ntmps18
  go_wp2
  go_loopw [5, 6, 8] (fun u v i wr => RNX W l cc u v i wr) (fun _ _ i _ => n - (intOf i).toNat)
  case atStart => exact ⟨0, p0, t0, Nat.zero_le _, rfl, rfl, rfl, rfl, t0_ok, (fun h => by cases h), row_alloc' (heap_new' _ _ _ rfl) _, heap_new' _ _ _ (by simp), ((Below.refl W.heap.size W).alloc (Nat.le_refl _) _).alloc (by simp) _⟩
  case round =>
    obtain ⟨k, x, t, hkl, rfl, hx, rfl, rfl, ht, hth, hrc, hra, hb⟩ := hrel
    obtain ⟨wk, hwk⟩ : ∃ wk, wk = wr := ⟨wr, rfl⟩
    subst hwk
    have HKL0 := Lib.hid hkl; have HXX := Lib.hid hx; have HT := Lib.hid ht; have HTH := Lib.hid hth; have HRC := Lib.hid hrc; have HRA := Lib.hid hra; have HB := Lib.hid hb
    clear hkl hx ht hth hrc hra hb
    have HQL : Hid (W.heap.size < wk.heap.size) := Lib.hid (Array.getElem?_eq_some_iff.1 HRC.out).1
    have HQ1 : Hid (W.heap.size + 1 < wk.heap.size) := Lib.hid (Array.getElem?_eq_some_iff.1 HRA.out).1
    by_cases hin : k < n
    · obtain ⟨y, hy⟩ : ∃ y, l[k]? = some y := ⟨l[k]'(by have := HN.out; omega), List.getElem?_eq_getElem _⟩
      obtain ⟨ga, off, rfl, hg, hr0⟩ := chr H.out k y hy
      have hr : wk.rangeAt ga (off + k * 10) y.cells := rangeKeep hr0 hg HB.out
      clear hr0
      have HGW := Lib.hid hg
      have HG : Hid (ga < wk.heap.size) := Lib.hid (Nat.lt_of_lt_of_le hg HB.out.size); have HX := Lib.hid hr
      have HKL : Hid (k < n ∧ n = l.length) := Lib.hid ⟨hin, HN.out⟩
      have HTK : Hid (lastF (l.take (k + 1)) = upd (lastF (l.take k)) y.p (stepA y)) := Lib.hid (by
        obtain ⟨hk1, rfl⟩ := List.getElem?_eq_some_iff.1 hy
        rw [List.take_succ_eq_append_getElem hk1, lastF_snoc])
      have hyok := HOK.out y (List.mem_of_getElem? hy)
      have HYO := Lib.hid hyok
      have hyrev : y.rev < 9223372036854775807 := by
        have h1 : accB [] (l.take (k + 1)) = true := by
          have h := HV.out
          unfold Val at h
          rw [← List.take_append_drop (k + 1) l, accB_append] at h
          simp only [Bool.and_eq_true] at h; exact h.1
        rw [accB_take [] l k y hy] at h1
        simp only [Bool.and_eq_true, List.nil_append] at h1
        have h2 := okN_rev h1.2
        have h3 := last_rev (l.take k) h1.1 y.p
        rw [List.length_take] at h3
        omega
      clear hg hr hy hyok
      have hz : (k : Int) < (n : Int) := by omega
      have hb : (y.p.key.toList == cc.p.key.toList) = keyB y.p.key cc.p.key := rfl
      have hwq := winNeq_run y.p.s y.p.e cc.p.s cc.p.e
      have HPE := Lib.hid (pl_eq y.p cc.p)
      generalize keyB y.p.key cc.p.key = kb at *
      generalize winB y.p.s y.p.e cc.p.s cc.p.e = wb at *
      cases kb
      · have HNE : Hid (¬ cc.p = y.p) := Lib.hid (fun e => by have := (HPE.out.1 e.symm).1; cases this)
        clear HPE hyrev
        go_upto_region 7 with fail
        refine wp_region_held_drew (S := fun w => Below wk.heap.size wk w) (by kernel_rfl) ((Below.refl _ wk).drew) (fun hHeld => ?_)
        refine wpAnyH_take (i := 0) (v := .slice (some ⟨ga, off, none⟩) n c) rfl (by kernel_rfl) (by kernel_rfl) (by kernel_rfl) (fun _ _ _ h => h) (Or.inl ⟨by rfl, fun _ _ => rfl⟩) hHeld ?_
        try dsimp only
        try simp only [Act.put, List.getElem_toArray, List.getElem_cons_zero, List.getElem_cons_succ, List.setIfInBounds_toArray, List.set_cons_zero, List.set_cons_succ]
        refine wpAnyH_take (i := 1) (v := .int .i64 (k : Int)) rfl (by kernel_rfl) (by kernel_rfl) (by kernel_rfl) (fun _ _ _ h => h) (Or.inl ⟨by rfl, fun _ _ => rfl⟩) hHeld ?_
        try dsimp only
        try simp only [Act.put, List.getElem_toArray, List.getElem_cons_zero, List.getElem_cons_succ, List.setIfInBounds_toArray, List.set_cons_zero, List.set_cons_succ]
        refine wpAnyH_take (i := 2) (v := .pointer (some ⟨ga, off + k * 10, none⟩)) rfl (by kernel_rfl) (by kernel_rfl) (by kernel_rfl) (fun _ _ _ h => h) (Or.inl ⟨by rfl, fun w _ => by go_simp⟩) hHeld ?_
        try dsimp only
        try simp only [Act.put, List.getElem_toArray, List.getElem_cons_zero, List.getElem_cons_succ, List.setIfInBounds_toArray, List.set_cons_zero, List.set_cons_succ]
        refine wpAnyH_take (i := 3) (v := .pointer (some ⟨ga, off + k * 10 + 2, none⟩)) rfl (by kernel_rfl) (by kernel_rfl) (by kernel_rfl) (fun _ _ _ h => h) (Or.inl ⟨by rfl, fun w _ => by go_simp⟩) hHeld ?_
        try dsimp only
        try simp only [Act.put, List.getElem_toArray, List.getElem_cons_zero, List.getElem_cons_succ, List.setIfInBounds_toArray, List.set_cons_zero, List.set_cons_succ]
        refine wpAnyH_take (i := 4) (v := .pointer (some ⟨ga, off + k * 10 + 2, none⟩)) rfl (by kernel_rfl) (by kernel_rfl) (by kernel_rfl) (fun _ _ _ h => h) (Or.inl ⟨by rfl, fun w _ => by go_simp⟩) hHeld ?_
        try dsimp only
        try simp only [Act.put, List.getElem_toArray, List.getElem_cons_zero, List.getElem_cons_succ, List.setIfInBounds_toArray, List.set_cons_zero, List.set_cons_succ]
        refine wpAnyH_take (i := 5) (v := .string y.p.key) rfl (by kernel_rfl) (by kernel_rfl) (by kernel_rfl) (fun _ _ _ h => h) (Or.inl ⟨by rfl, fun w hw => by have hr9 : w.rangeAt ga (off + k * 10) [.bool y.put, .int .u64 (y.rev : Int), .string y.p.key, .int .i64 y.p.s, .int .i64 y.p.e, .int .u64 (y.t.c : Int), .float .f64 y.t.s, .bool y.t.o, .float .f64 y.t.lo, .float .f64 y.t.hi] := (rangeKeep HX.out HG.out hw); have hc : w.cell? ⟨ga, off + k * 10 + 2, none⟩ = some (.string y.p.key) := hr9 2 _ rfl; go_simp⟩) hHeld ?_
        try dsimp only
        try simp only [Act.put, List.getElem_toArray, List.getElem_cons_zero, List.getElem_cons_succ, List.setIfInBounds_toArray, List.set_cons_zero, List.set_cons_succ]
        refine wpAnyH_take (i := 6) (v := .pointer (some ⟨W.heap.size, 2, none⟩)) rfl (by kernel_rfl) (by kernel_rfl) (by kernel_rfl) (fun _ _ _ h => h) (Or.inl ⟨by rfl, fun w _ => by go_simp⟩) hHeld ?_
        try dsimp only
        try simp only [Act.put, List.getElem_toArray, List.getElem_cons_zero, List.getElem_cons_succ, List.setIfInBounds_toArray, List.set_cons_zero, List.set_cons_succ]
        refine wpAnyH_take (i := 7) (v := .pointer (some ⟨W.heap.size, 2, none⟩)) rfl (by kernel_rfl) (by kernel_rfl) (by kernel_rfl) (fun _ _ _ h => h) (Or.inl ⟨by rfl, fun w _ => by go_simp⟩) hHeld ?_
        try dsimp only
        try simp only [Act.put, List.getElem_toArray, List.getElem_cons_zero, List.getElem_cons_succ, List.setIfInBounds_toArray, List.set_cons_zero, List.set_cons_succ]
        refine wpAnyH_take (i := 8) (v := .string cc.p.key) rfl (by kernel_rfl) (by kernel_rfl) (by kernel_rfl) (fun _ _ _ h => h) (Or.inl ⟨by rfl, fun w hw => by have hr9 : w.rangeAt W.heap.size (0) [.bool cc.put, .int .u64 (cc.rev : Int), .string cc.p.key, .int .i64 cc.p.s, .int .i64 cc.p.e, .int .u64 (cc.t.c : Int), .float .f64 cc.t.s, .bool cc.t.o, .float .f64 cc.t.lo, .float .f64 cc.t.hi] := (rangeKeep (rowRange HRC.out) HQL.out hw); have hc : w.cell? ⟨W.heap.size, 2, none⟩ = some (.string cc.p.key) := (by have h9 := hr9 2 _ rfl; rw [Nat.zero_add] at h9; exact h9); go_simp⟩) hHeld ?_
        try dsimp only
        try simp only [Act.put, List.getElem_toArray, List.getElem_cons_zero, List.getElem_cons_succ, List.setIfInBounds_toArray, List.set_cons_zero, List.set_cons_succ]
        refine wpAnyH_take (i := 9) (v := .bool true) rfl (by kernel_rfl) (by kernel_rfl) (by kernel_rfl) (fun _ _ _ h => h) (Or.inl ⟨by rfl, fun w _ => by go_simp⟩) hHeld ?_
        try dsimp only
        try simp only [Act.put, List.getElem_toArray, List.getElem_cons_zero, List.getElem_cons_succ, List.setIfInBounds_toArray, List.set_cons_zero, List.set_cons_succ]
        refine wpAnyH_take (i := 10) (v := .bool true) rfl (by kernel_rfl) (by kernel_rfl) (by kernel_rfl) (fun _ _ _ h => h) (Or.inl ⟨by rfl, fun _ _ => rfl⟩) hHeld ?_
        try dsimp only
        try simp only [Act.put, List.getElem_toArray, List.getElem_cons_zero, List.getElem_cons_succ, List.setIfInBounds_toArray, List.set_cons_zero, List.set_cons_succ]
        refine wpAnyH_take (i := 11) (v := undef) rfl (by kernel_rfl) (by kernel_rfl) (by kernel_rfl) (fun _ _ _ h => h) (Or.inr ⟨by rfl, rfl⟩) hHeld ?_
        try dsimp only
        try simp only [Act.put, List.getElem_toArray, List.getElem_cons_zero, List.getElem_cons_succ, List.setIfInBounds_toArray, List.set_cons_zero, List.set_cons_succ]
        refine wpAnyH_take (i := 12) (v := undef) rfl (by kernel_rfl) (by kernel_rfl) (by kernel_rfl) (fun _ _ _ h => h) (Or.inr ⟨by rfl, rfl⟩) hHeld ?_
        try dsimp only
        try simp only [Act.put, List.getElem_toArray, List.getElem_cons_zero, List.getElem_cons_succ, List.setIfInBounds_toArray, List.set_cons_zero, List.set_cons_succ]
        refine wpAnyH_take (i := 13) (v := undef) rfl (by kernel_rfl) (by kernel_rfl) (by kernel_rfl) (fun _ _ _ h => h) (Or.inr ⟨by rfl, rfl⟩) hHeld ?_
        try dsimp only
        try simp only [Act.put, List.getElem_toArray, List.getElem_cons_zero, List.getElem_cons_succ, List.setIfInBounds_toArray, List.set_cons_zero, List.set_cons_succ]
        refine wpAnyH_take (i := 14) (v := undef) rfl (by kernel_rfl) (by kernel_rfl) (by kernel_rfl) (fun _ _ _ h => h) (Or.inr ⟨by rfl, rfl⟩) hHeld ?_
        try dsimp only
        try simp only [Act.put, List.getElem_toArray, List.getElem_cons_zero, List.getElem_cons_succ, List.setIfInBounds_toArray, List.set_cons_zero, List.set_cons_succ]
        refine wpAnyH_take (i := 15) (v := undef) rfl (by kernel_rfl) (by kernel_rfl) (by kernel_rfl) (fun _ _ _ h => h) (Or.inr ⟨by rfl, rfl⟩) hHeld ?_
        try dsimp only
        try simp only [Act.put, List.getElem_toArray, List.getElem_cons_zero, List.getElem_cons_succ, List.setIfInBounds_toArray, List.set_cons_zero, List.set_cons_succ]
        refine wpAnyH_take (i := 16) (v := undef) rfl (by kernel_rfl) (by kernel_rfl) (by kernel_rfl) (fun _ _ _ h => h) (Or.inr ⟨by rfl, rfl⟩) hHeld ?_
        try dsimp only
        try simp only [Act.put, List.getElem_toArray, List.getElem_cons_zero, List.getElem_cons_succ, List.setIfInBounds_toArray, List.set_cons_zero, List.set_cons_succ]
        refine wpAnyH_take (i := 17) (v := undef) rfl (by kernel_rfl) (by kernel_rfl) (by kernel_rfl) (fun _ _ _ h => h) (Or.inr ⟨by rfl, rfl⟩) hHeld ?_
        try dsimp only
        try simp only [Act.put, List.getElem_toArray, List.getElem_cons_zero, List.getElem_cons_succ, List.setIfInBounds_toArray, List.set_cons_zero, List.set_cons_succ]
        refine wpAnyH_take (i := 18) (v := undef) rfl (by kernel_rfl) (by kernel_rfl) (by kernel_rfl) (fun _ _ _ h => h) (Or.inr ⟨by rfl, rfl⟩) hHeld ?_
        try dsimp only
        try simp only [Act.put, List.getElem_toArray, List.getElem_cons_zero, List.getElem_cons_succ, List.setIfInBounds_toArray, List.set_cons_zero, List.set_cons_succ]
        refine wpAnyH_take (i := 19) (v := undef) rfl (by kernel_rfl) (by kernel_rfl) (by kernel_rfl) (fun _ _ _ h => h) (Or.inr ⟨by rfl, rfl⟩) hHeld ?_
        try dsimp only
        try simp only [Act.put, List.getElem_toArray, List.getElem_cons_zero, List.getElem_cons_succ, List.setIfInBounds_toArray, List.set_cons_zero, List.set_cons_succ]
        refine wpAnyH_take (i := 20) (v := undef) rfl (by kernel_rfl) (by kernel_rfl) (by kernel_rfl) (fun _ _ _ h => h) (Or.inr ⟨by rfl, rfl⟩) hHeld ?_
        try dsimp only
        try simp only [Act.put, List.getElem_toArray, List.getElem_cons_zero, List.getElem_cons_succ, List.setIfInBounds_toArray, List.set_cons_zero, List.set_cons_succ]
        refine wpAnyH_take (i := 21) (v := .bool true) rfl (by kernel_rfl) (by kernel_rfl) (by kernel_rfl) (fun _ _ _ h => h) (Or.inl ⟨by rfl, fun w _ => by go_simp⟩) hHeld ?_
        try dsimp only
        try simp only [Act.put, List.getElem_toArray, List.getElem_cons_zero, List.getElem_cons_succ, List.setIfInBounds_toArray, List.set_cons_zero, List.set_cons_succ]
        refine wpAnyH_done (by kernel_rfl) ?_ _
        clear hHeld
        go_wp2
        go_roundw
        case rel => exact ⟨k + 1, x, t, by have := HKL.out; omega, by go_num, by rw [HTK.out]; unfold upd; rw [if_neg HNE.out]; exact HXX.out, rfl, rfl, HT.out, HTH.out, HRC.out, HRA.out, HB.out.drew⟩
        case measure => (have := HKL.out; simp [intOf]; omega)
      · cases wb
        · have HNE : Hid (¬ cc.p = y.p) := Lib.hid (fun e => by have := (HPE.out.1 e.symm).2; cases this)
          clear HPE hyrev
          go_upto_region 7 with fail
          refine wp_region_held_drew (S := fun w => Below wk.heap.size wk w) (by kernel_rfl) ((Below.refl _ wk).drew) (fun hHeld => ?_)
          refine wpAnyH_take (i := 0) (v := .slice (some ⟨ga, off, none⟩) n c) rfl (by kernel_rfl) (by kernel_rfl) (by kernel_rfl) (fun _ _ _ h => h) (Or.inl ⟨by rfl, fun _ _ => rfl⟩) hHeld ?_
          try dsimp only
          try simp only [Act.put, List.getElem_toArray, List.getElem_cons_zero, List.getElem_cons_succ, List.setIfInBounds_toArray, List.set_cons_zero, List.set_cons_succ]
          refine wpAnyH_take (i := 1) (v := .int .i64 (k : Int)) rfl (by kernel_rfl) (by kernel_rfl) (by kernel_rfl) (fun _ _ _ h => h) (Or.inl ⟨by rfl, fun _ _ => rfl⟩) hHeld ?_
          try dsimp only
          try simp only [Act.put, List.getElem_toArray, List.getElem_cons_zero, List.getElem_cons_succ, List.setIfInBounds_toArray, List.set_cons_zero, List.set_cons_succ]
          refine wpAnyH_take (i := 2) (v := .pointer (some ⟨ga, off + k * 10, none⟩)) rfl (by kernel_rfl) (by kernel_rfl) (by kernel_rfl) (fun _ _ _ h => h) (Or.inl ⟨by rfl, fun w _ => by go_simp⟩) hHeld ?_
          try dsimp only
          try simp only [Act.put, List.getElem_toArray, List.getElem_cons_zero, List.getElem_cons_succ, List.setIfInBounds_toArray, List.set_cons_zero, List.set_cons_succ]
          refine wpAnyH_take (i := 3) (v := .pointer (some ⟨ga, off + k * 10 + 2, none⟩)) rfl (by kernel_rfl) (by kernel_rfl) (by kernel_rfl) (fun _ _ _ h => h) (Or.inl ⟨by rfl, fun w _ => by go_simp⟩) hHeld ?_
          try dsimp only
          try simp only [Act.put, List.getElem_toArray, List.getElem_cons_zero, List.getElem_cons_succ, List.setIfInBounds_toArray, List.set_cons_zero, List.set_cons_succ]
          refine wpAnyH_take (i := 4) (v := .pointer (some ⟨ga, off + k * 10 + 2, none⟩)) rfl (by kernel_rfl) (by kernel_rfl) (by kernel_rfl) (fun _ _ _ h => h) (Or.inl ⟨by rfl, fun w _ => by go_simp⟩) hHeld ?_
          try dsimp only
          try simp only [Act.put, List.getElem_toArray, List.getElem_cons_zero, List.getElem_cons_succ, List.setIfInBounds_toArray, List.set_cons_zero, List.set_cons_succ]
          refine wpAnyH_take (i := 5) (v := .string y.p.key) rfl (by kernel_rfl) (by kernel_rfl) (by kernel_rfl) (fun _ _ _ h => h) (Or.inl ⟨by rfl, fun w hw => by have hr9 : w.rangeAt ga (off + k * 10) [.bool y.put, .int .u64 (y.rev : Int), .string y.p.key, .int .i64 y.p.s, .int .i64 y.p.e, .int .u64 (y.t.c : Int), .float .f64 y.t.s, .bool y.t.o, .float .f64 y.t.lo, .float .f64 y.t.hi] := (rangeKeep HX.out HG.out hw); have hc : w.cell? ⟨ga, off + k * 10 + 2, none⟩ = some (.string y.p.key) := hr9 2 _ rfl; go_simp⟩) hHeld ?_
          try dsimp only
          try simp only [Act.put, List.getElem_toArray, List.getElem_cons_zero, List.getElem_cons_succ, List.setIfInBounds_toArray, List.set_cons_zero, List.set_cons_succ]
          refine wpAnyH_take (i := 6) (v := .pointer (some ⟨W.heap.size, 2, none⟩)) rfl (by kernel_rfl) (by kernel_rfl) (by kernel_rfl) (fun _ _ _ h => h) (Or.inl ⟨by rfl, fun w _ => by go_simp⟩) hHeld ?_
          try dsimp only
          try simp only [Act.put, List.getElem_toArray, List.getElem_cons_zero, List.getElem_cons_succ, List.setIfInBounds_toArray, List.set_cons_zero, List.set_cons_succ]
          refine wpAnyH_take (i := 7) (v := .pointer (some ⟨W.heap.size, 2, none⟩)) rfl (by kernel_rfl) (by kernel_rfl) (by kernel_rfl) (fun _ _ _ h => h) (Or.inl ⟨by rfl, fun w _ => by go_simp⟩) hHeld ?_
          try dsimp only
          try simp only [Act.put, List.getElem_toArray, List.getElem_cons_zero, List.getElem_cons_succ, List.setIfInBounds_toArray, List.set_cons_zero, List.set_cons_succ]
          refine wpAnyH_take (i := 8) (v := .string cc.p.key) rfl (by kernel_rfl) (by kernel_rfl) (by kernel_rfl) (fun _ _ _ h => h) (Or.inl ⟨by rfl, fun w hw => by have hr9 : w.rangeAt W.heap.size (0) [.bool cc.put, .int .u64 (cc.rev : Int), .string cc.p.key, .int .i64 cc.p.s, .int .i64 cc.p.e, .int .u64 (cc.t.c : Int), .float .f64 cc.t.s, .bool cc.t.o, .float .f64 cc.t.lo, .float .f64 cc.t.hi] := (rangeKeep (rowRange HRC.out) HQL.out hw); have hc : w.cell? ⟨W.heap.size, 2, none⟩ = some (.string cc.p.key) := (by have h9 := hr9 2 _ rfl; rw [Nat.zero_add] at h9; exact h9); go_simp⟩) hHeld ?_
          try dsimp only
          try simp only [Act.put, List.getElem_toArray, List.getElem_cons_zero, List.getElem_cons_succ, List.setIfInBounds_toArray, List.set_cons_zero, List.set_cons_succ]
          refine wpAnyH_take (i := 9) (v := .bool false) rfl (by kernel_rfl) (by kernel_rfl) (by kernel_rfl) (fun _ _ _ h => h) (Or.inl ⟨by rfl, fun w _ => by go_simp⟩) hHeld ?_
          try dsimp only
          try simp only [Act.put, List.getElem_toArray, List.getElem_cons_zero, List.getElem_cons_succ, List.setIfInBounds_toArray, List.set_cons_zero, List.set_cons_succ]
          refine wpAnyH_take (i := 10) (v := .bool false) rfl (by kernel_rfl) (by kernel_rfl) (by kernel_rfl) (fun _ _ _ h => h) (Or.inl ⟨by rfl, fun _ _ => rfl⟩) hHeld ?_
          try dsimp only
          try simp only [Act.put, List.getElem_toArray, List.getElem_cons_zero, List.getElem_cons_succ, List.setIfInBounds_toArray, List.set_cons_zero, List.set_cons_succ]
          refine wpAnyH_take (i := 11) (v := .slice (some ⟨ga, off, none⟩) n c) rfl (by kernel_rfl) (by kernel_rfl) (by kernel_rfl) (fun _ _ _ h => h) (Or.inl ⟨by rfl, fun _ _ => rfl⟩) hHeld ?_
          try dsimp only
          try simp only [Act.put, List.getElem_toArray, List.getElem_cons_zero, List.getElem_cons_succ, List.setIfInBounds_toArray, List.set_cons_zero, List.set_cons_succ]
          refine wpAnyH_take (i := 12) (v := .int .i64 (k : Int)) rfl (by kernel_rfl) (by kernel_rfl) (by kernel_rfl) (fun _ _ _ h => h) (Or.inl ⟨by rfl, fun _ _ => rfl⟩) hHeld ?_
          try dsimp only
          try simp only [Act.put, List.getElem_toArray, List.getElem_cons_zero, List.getElem_cons_succ, List.setIfInBounds_toArray, List.set_cons_zero, List.set_cons_succ]
          refine wpAnyH_take (i := 13) (v := .pointer (some ⟨ga, off + k * 10, none⟩)) rfl (by kernel_rfl) (by kernel_rfl) (by kernel_rfl) (fun _ _ _ h => h) (Or.inl ⟨by rfl, fun w _ => by go_simp⟩) hHeld ?_
          try dsimp only
          try simp only [Act.put, List.getElem_toArray, List.getElem_cons_zero, List.getElem_cons_succ, List.setIfInBounds_toArray, List.set_cons_zero, List.set_cons_succ]
          refine wpAnyH_take (i := 14) (v := .pointer (some ⟨ga, off + k * 10 + 2, none⟩)) rfl (by kernel_rfl) (by kernel_rfl) (by kernel_rfl) (fun _ _ _ h => h) (Or.inl ⟨by rfl, fun w _ => by go_simp⟩) hHeld ?_
          try dsimp only
          try simp only [Act.put, List.getElem_toArray, List.getElem_cons_zero, List.getElem_cons_succ, List.setIfInBounds_toArray, List.set_cons_zero, List.set_cons_succ]
          refine wpAnyH_take (i := 15) (v := .pointer (some ⟨ga, off + k * 10 + 3, none⟩)) rfl (by kernel_rfl) (by kernel_rfl) (by kernel_rfl) (fun _ _ _ h => h) (Or.inl ⟨by rfl, fun w _ => by go_simp⟩) hHeld ?_
          try dsimp only
          try simp only [Act.put, List.getElem_toArray, List.getElem_cons_zero, List.getElem_cons_succ, List.setIfInBounds_toArray, List.set_cons_zero, List.set_cons_succ]
          refine wpAnyH_take (i := 16) (v := .agg [.int .i64 y.p.s, .int .i64 y.p.e].toArray) rfl (by kernel_rfl) (by kernel_rfl) (by kernel_rfl) (fun _ _ _ h => h) (yieldsIf_load_mid rfl 31 (.tmp 30) rfl ga (off + k * 10 + 3) rfl [.int .i64 y.p.s, .int .i64 y.p.e] _ (fun w hw => rsub (cs := [.bool y.put, .int .u64 (y.rev : Int), .string y.p.key, .int .i64 y.p.s, .int .i64 y.p.e, .int .u64 (y.t.c : Int), .float .f64 y.t.s, .bool y.t.o, .float .f64 y.t.lo, .float .f64 y.t.hi]) (rangeKeep HX.out HG.out hw) 3 2 _ rfl _ rfl) uWin rfl iWin) hHeld ?_
          try dsimp only
          try simp only [Act.put, List.getElem_toArray, List.getElem_cons_zero, List.getElem_cons_succ, List.setIfInBounds_toArray, List.set_cons_zero, List.set_cons_succ]
          refine wpAnyH_take (i := 17) (v := .pointer (some ⟨W.heap.size, 2, none⟩)) rfl (by kernel_rfl) (by kernel_rfl) (by kernel_rfl) (fun _ _ _ h => h) (Or.inl ⟨by rfl, fun w _ => by go_simp⟩) hHeld ?_
          try dsimp only
          try simp only [Act.put, List.getElem_toArray, List.getElem_cons_zero, List.getElem_cons_succ, List.setIfInBounds_toArray, List.set_cons_zero, List.set_cons_succ]
          refine wpAnyH_take (i := 18) (v := .pointer (some ⟨W.heap.size, 3, none⟩)) rfl (by kernel_rfl) (by kernel_rfl) (by kernel_rfl) (fun _ _ _ h => h) (Or.inl ⟨by rfl, fun w _ => by go_simp⟩) hHeld ?_
          try dsimp only
          try simp only [Act.put, List.getElem_toArray, List.getElem_cons_zero, List.getElem_cons_succ, List.setIfInBounds_toArray, List.set_cons_zero, List.set_cons_succ]
          refine wpAnyH_take (i := 19) (v := .agg [.int .i64 cc.p.s, .int .i64 cc.p.e].toArray) rfl (by kernel_rfl) (by kernel_rfl) (by kernel_rfl) (fun _ _ _ h => h) (yieldsIf_load_mid rfl 31 (.tmp 33) rfl W.heap.size (3) rfl [.int .i64 cc.p.s, .int .i64 cc.p.e] _ (fun w hw => rsub (cs := [.bool cc.put, .int .u64 (cc.rev : Int), .string cc.p.key, .int .i64 cc.p.s, .int .i64 cc.p.e, .int .u64 (cc.t.c : Int), .float .f64 cc.t.s, .bool cc.t.o, .float .f64 cc.t.lo, .float .f64 cc.t.hi]) (rangeKeep (rowRange HRC.out) HQL.out hw) 3 2 _ rfl _ (by simp)) uWin rfl iWin) hHeld ?_
          try dsimp only
          try simp only [Act.put, List.getElem_toArray, List.getElem_cons_zero, List.getElem_cons_succ, List.setIfInBounds_toArray, List.set_cons_zero, List.set_cons_succ]
          refine wpAnyH_take (i := 20) (v := .bool true) rfl (by kernel_rfl) (by kernel_rfl) (by kernel_rfl) (fun _ _ _ h => h) (Or.inl ⟨by rfl, fun w _ => by go_simp⟩) hHeld ?_
          try dsimp only
          try simp only [Act.put, List.getElem_toArray, List.getElem_cons_zero, List.getElem_cons_succ, List.setIfInBounds_toArray, List.set_cons_zero, List.set_cons_succ]
          refine wpAnyH_take (i := 21) (v := .bool true) rfl (by kernel_rfl) (by kernel_rfl) (by kernel_rfl) (fun _ _ _ h => h) (Or.inl ⟨by rfl, fun w _ => by go_simp⟩) hHeld ?_
          try dsimp only
          try simp only [Act.put, List.getElem_toArray, List.getElem_cons_zero, List.getElem_cons_succ, List.setIfInBounds_toArray, List.set_cons_zero, List.set_cons_succ]
          refine wpAnyH_done (by kernel_rfl) ?_ _
          clear hHeld
          go_wp2
          go_roundw
          case rel => exact ⟨k + 1, x, t, by have := HKL.out; omega, by go_num, by rw [HTK.out]; unfold upd; rw [if_neg HNE.out]; exact HXX.out, rfl, rfl, HT.out, HTH.out, HRC.out, HRA.out, HB.out.drew⟩
          case measure => (have := HKL.out; simp [intOf]; omega)
        · have HEQ : Hid (cc.p = y.p) := Lib.hid ((HPE.out.2 ⟨rfl, rfl⟩).symm)
          have HXN : Hid (stepA y = (lastF (l.take (k + 1)) cc.p).getD p0) := Lib.hid (by rw [HTK.out]; unfold upd; rw [if_pos HEQ.out]; rfl)
          clear HPE
          go_upto_region 7 with fail
          refine wp_region_held_drew (S := fun w => Below wk.heap.size wk w) (by kernel_rfl) ((Below.refl _ wk).drew) (fun hHeld => ?_)
          refine wpAnyH_take (i := 0) (v := .slice (some ⟨ga, off, none⟩) n c) rfl (by kernel_rfl) (by kernel_rfl) (by kernel_rfl) (fun _ _ _ h => h) (Or.inl ⟨by rfl, fun _ _ => rfl⟩) hHeld ?_
          try dsimp only
          try simp only [Act.put, List.getElem_toArray, List.getElem_cons_zero, List.getElem_cons_succ, List.setIfInBounds_toArray, List.set_cons_zero, List.set_cons_succ]
          refine wpAnyH_take (i := 1) (v := .int .i64 (k : Int)) rfl (by kernel_rfl) (by kernel_rfl) (by kernel_rfl) (fun _ _ _ h => h) (Or.inl ⟨by rfl, fun _ _ => rfl⟩) hHeld ?_
          try dsimp only
          try simp only [Act.put, List.getElem_toArray, List.getElem_cons_zero, List.getElem_cons_succ, List.setIfInBounds_toArray, List.set_cons_zero, List.set_cons_succ]
          refine wpAnyH_take (i := 2) (v := .pointer (some ⟨ga, off + k * 10, none⟩)) rfl (by kernel_rfl) (by kernel_rfl) (by kernel_rfl) (fun _ _ _ h => h) (Or.inl ⟨by rfl, fun w _ => by go_simp⟩) hHeld ?_
          try dsimp only
          try simp only [Act.put, List.getElem_toArray, List.getElem_cons_zero, List.getElem_cons_succ, List.setIfInBounds_toArray, List.set_cons_zero, List.set_cons_succ]
          refine wpAnyH_take (i := 3) (v := .pointer (some ⟨ga, off + k * 10 + 2, none⟩)) rfl (by kernel_rfl) (by kernel_rfl) (by kernel_rfl) (fun _ _ _ h => h) (Or.inl ⟨by rfl, fun w _ => by go_simp⟩) hHeld ?_
          try dsimp only
          try simp only [Act.put, List.getElem_toArray, List.getElem_cons_zero, List.getElem_cons_succ, List.setIfInBounds_toArray, List.set_cons_zero, List.set_cons_succ]
          refine wpAnyH_take (i := 4) (v := .pointer (some ⟨ga, off + k * 10 + 2, none⟩)) rfl (by kernel_rfl) (by kernel_rfl) (by kernel_rfl) (fun _ _ _ h => h) (Or.inl ⟨by rfl, fun w _ => by go_simp⟩) hHeld ?_
          try dsimp only
          try simp only [Act.put, List.getElem_toArray, List.getElem_cons_zero, List.getElem_cons_succ, List.setIfInBounds_toArray, List.set_cons_zero, List.set_cons_succ]
          refine wpAnyH_take (i := 5) (v := .string y.p.key) rfl (by kernel_rfl) (by kernel_rfl) (by kernel_rfl) (fun _ _ _ h => h) (Or.inl ⟨by rfl, fun w hw => by have hr9 : w.rangeAt ga (off + k * 10) [.bool y.put, .int .u64 (y.rev : Int), .string y.p.key, .int .i64 y.p.s, .int .i64 y.p.e, .int .u64 (y.t.c : Int), .float .f64 y.t.s, .bool y.t.o, .float .f64 y.t.lo, .float .f64 y.t.hi] := (rangeKeep HX.out HG.out hw); have hc : w.cell? ⟨ga, off + k * 10 + 2, none⟩ = some (.string y.p.key) := hr9 2 _ rfl; go_simp⟩) hHeld ?_
          try dsimp only
          try simp only [Act.put, List.getElem_toArray, List.getElem_cons_zero, List.getElem_cons_succ, List.setIfInBounds_toArray, List.set_cons_zero, List.set_cons_succ]
          refine wpAnyH_take (i := 6) (v := .pointer (some ⟨W.heap.size, 2, none⟩)) rfl (by kernel_rfl) (by kernel_rfl) (by kernel_rfl) (fun _ _ _ h => h) (Or.inl ⟨by rfl, fun w _ => by go_simp⟩) hHeld ?_
          try dsimp only
          try simp only [Act.put, List.getElem_toArray, List.getElem_cons_zero, List.getElem_cons_succ, List.setIfInBounds_toArray, List.set_cons_zero, List.set_cons_succ]
          refine wpAnyH_take (i := 7) (v := .pointer (some ⟨W.heap.size, 2, none⟩)) rfl (by kernel_rfl) (by kernel_rfl) (by kernel_rfl) (fun _ _ _ h => h) (Or.inl ⟨by rfl, fun w _ => by go_simp⟩) hHeld ?_
          try dsimp only
          try simp only [Act.put, List.getElem_toArray, List.getElem_cons_zero, List.getElem_cons_succ, List.setIfInBounds_toArray, List.set_cons_zero, List.set_cons_succ]
          refine wpAnyH_take (i := 8) (v := .string cc.p.key) rfl (by kernel_rfl) (by kernel_rfl) (by kernel_rfl) (fun _ _ _ h => h) (Or.inl ⟨by rfl, fun w hw => by have hr9 : w.rangeAt W.heap.size (0) [.bool cc.put, .int .u64 (cc.rev : Int), .string cc.p.key, .int .i64 cc.p.s, .int .i64 cc.p.e, .int .u64 (cc.t.c : Int), .float .f64 cc.t.s, .bool cc.t.o, .float .f64 cc.t.lo, .float .f64 cc.t.hi] := (rangeKeep (rowRange HRC.out) HQL.out hw); have hc : w.cell? ⟨W.heap.size, 2, none⟩ = some (.string cc.p.key) := (by have h9 := hr9 2 _ rfl; rw [Nat.zero_add] at h9; exact h9); go_simp⟩) hHeld ?_
          try dsimp only
          try simp only [Act.put, List.getElem_toArray, List.getElem_cons_zero, List.getElem_cons_succ, List.setIfInBounds_toArray, List.set_cons_zero, List.set_cons_succ]
          refine wpAnyH_take (i := 9) (v := .bool false) rfl (by kernel_rfl) (by kernel_rfl) (by kernel_rfl) (fun _ _ _ h => h) (Or.inl ⟨by rfl, fun w _ => by go_simp⟩) hHeld ?_
          try dsimp only
          try simp only [Act.put, List.getElem_toArray, List.getElem_cons_zero, List.getElem_cons_succ, List.setIfInBounds_toArray, List.set_cons_zero, List.set_cons_succ]
          refine wpAnyH_take (i := 10) (v := .bool false) rfl (by kernel_rfl) (by kernel_rfl) (by kernel_rfl) (fun _ _ _ h => h) (Or.inl ⟨by rfl, fun _ _ => rfl⟩) hHeld ?_
          try dsimp only
          try simp only [Act.put, List.getElem_toArray, List.getElem_cons_zero, List.getElem_cons_succ, List.setIfInBounds_toArray, List.set_cons_zero, List.set_cons_succ]
          refine wpAnyH_take (i := 11) (v := .slice (some ⟨ga, off, none⟩) n c) rfl (by kernel_rfl) (by kernel_rfl) (by kernel_rfl) (fun _ _ _ h => h) (Or.inl ⟨by rfl, fun _ _ => rfl⟩) hHeld ?_
          try dsimp only
          try simp only [Act.put, List.getElem_toArray, List.getElem_cons_zero, List.getElem_cons_succ, List.setIfInBounds_toArray, List.set_cons_zero, List.set_cons_succ]
          refine wpAnyH_take (i := 12) (v := .int .i64 (k : Int)) rfl (by kernel_rfl) (by kernel_rfl) (by kernel_rfl) (fun _ _ _ h => h) (Or.inl ⟨by rfl, fun _ _ => rfl⟩) hHeld ?_
          try dsimp only
          try simp only [Act.put, List.getElem_toArray, List.getElem_cons_zero, List.getElem_cons_succ, List.setIfInBounds_toArray, List.set_cons_zero, List.set_cons_succ]
          refine wpAnyH_take (i := 13) (v := .pointer (some ⟨ga, off + k * 10, none⟩)) rfl (by kernel_rfl) (by kernel_rfl) (by kernel_rfl) (fun _ _ _ h => h) (Or.inl ⟨by rfl, fun w _ => by go_simp⟩) hHeld ?_
          try dsimp only
          try simp only [Act.put, List.getElem_toArray, List.getElem_cons_zero, List.getElem_cons_succ, List.setIfInBounds_toArray, List.set_cons_zero, List.set_cons_succ]
          refine wpAnyH_take (i := 14) (v := .pointer (some ⟨ga, off + k * 10 + 2, none⟩)) rfl (by kernel_rfl) (by kernel_rfl) (by kernel_rfl) (fun _ _ _ h => h) (Or.inl ⟨by rfl, fun w _ => by go_simp⟩) hHeld ?_
          try dsimp only
          try simp only [Act.put, List.getElem_toArray, List.getElem_cons_zero, List.getElem_cons_succ, List.setIfInBounds_toArray, List.set_cons_zero, List.set_cons_succ]
          refine wpAnyH_take (i := 15) (v := .pointer (some ⟨ga, off + k * 10 + 3, none⟩)) rfl (by kernel_rfl) (by kernel_rfl) (by kernel_rfl) (fun _ _ _ h => h) (Or.inl ⟨by rfl, fun w _ => by go_simp⟩) hHeld ?_
          try dsimp only
          try simp only [Act.put, List.getElem_toArray, List.getElem_cons_zero, List.getElem_cons_succ, List.setIfInBounds_toArray, List.set_cons_zero, List.set_cons_succ]
          refine wpAnyH_take (i := 16) (v := .agg [.int .i64 y.p.s, .int .i64 y.p.e].toArray) rfl (by kernel_rfl) (by kernel_rfl) (by kernel_rfl) (fun _ _ _ h => h) (yieldsIf_load_mid rfl 31 (.tmp 30) rfl ga (off + k * 10 + 3) rfl [.int .i64 y.p.s, .int .i64 y.p.e] _ (fun w hw => rsub (cs := [.bool y.put, .int .u64 (y.rev : Int), .string y.p.key, .int .i64 y.p.s, .int .i64 y.p.e, .int .u64 (y.t.c : Int), .float .f64 y.t.s, .bool y.t.o, .float .f64 y.t.lo, .float .f64 y.t.hi]) (rangeKeep HX.out HG.out hw) 3 2 _ rfl _ rfl) uWin rfl iWin) hHeld ?_
          try dsimp only
          try simp only [Act.put, List.getElem_toArray, List.getElem_cons_zero, List.getElem_cons_succ, List.setIfInBounds_toArray, List.set_cons_zero, List.set_cons_succ]
          refine wpAnyH_take (i := 17) (v := .pointer (some ⟨W.heap.size, 2, none⟩)) rfl (by kernel_rfl) (by kernel_rfl) (by kernel_rfl) (fun _ _ _ h => h) (Or.inl ⟨by rfl, fun w _ => by go_simp⟩) hHeld ?_
          try dsimp only
          try simp only [Act.put, List.getElem_toArray, List.getElem_cons_zero, List.getElem_cons_succ, List.setIfInBounds_toArray, List.set_cons_zero, List.set_cons_succ]
          refine wpAnyH_take (i := 18) (v := .pointer (some ⟨W.heap.size, 3, none⟩)) rfl (by kernel_rfl) (by kernel_rfl) (by kernel_rfl) (fun _ _ _ h => h) (Or.inl ⟨by rfl, fun w _ => by go_simp⟩) hHeld ?_
          try dsimp only
          try simp only [Act.put, List.getElem_toArray, List.getElem_cons_zero, List.getElem_cons_succ, List.setIfInBounds_toArray, List.set_cons_zero, List.set_cons_succ]
          refine wpAnyH_take (i := 19) (v := .agg [.int .i64 cc.p.s, .int .i64 cc.p.e].toArray) rfl (by kernel_rfl) (by kernel_rfl) (by kernel_rfl) (fun _ _ _ h => h) (yieldsIf_load_mid rfl 31 (.tmp 33) rfl W.heap.size (3) rfl [.int .i64 cc.p.s, .int .i64 cc.p.e] _ (fun w hw => rsub (cs := [.bool cc.put, .int .u64 (cc.rev : Int), .string cc.p.key, .int .i64 cc.p.s, .int .i64 cc.p.e, .int .u64 (cc.t.c : Int), .float .f64 cc.t.s, .bool cc.t.o, .float .f64 cc.t.lo, .float .f64 cc.t.hi]) (rangeKeep (rowRange HRC.out) HQL.out hw) 3 2 _ rfl _ (by simp)) uWin rfl iWin) hHeld ?_
          try dsimp only
          try simp only [Act.put, List.getElem_toArray, List.getElem_cons_zero, List.getElem_cons_succ, List.setIfInBounds_toArray, List.set_cons_zero, List.set_cons_succ]
          refine wpAnyH_take (i := 20) (v := .bool false) rfl (by kernel_rfl) (by kernel_rfl) (by kernel_rfl) (fun _ _ _ h => h) (Or.inl ⟨by rfl, fun w _ => by go_simp⟩) hHeld ?_
          try dsimp only
          try simp only [Act.put, List.getElem_toArray, List.getElem_cons_zero, List.getElem_cons_succ, List.setIfInBounds_toArray, List.set_cons_zero, List.set_cons_succ]
          refine wpAnyH_take (i := 21) (v := .bool false) rfl (by kernel_rfl) (by kernel_rfl) (by kernel_rfl) (fun _ _ _ h => h) (Or.inl ⟨by rfl, fun w _ => by go_simp⟩) hHeld ?_
          try dsimp only
          try simp only [Act.put, List.getElem_toArray, List.getElem_cons_zero, List.getElem_cons_succ, List.setIfInBounds_toArray, List.set_cons_zero, List.set_cons_succ]
          refine wpAnyH_done (by kernel_rfl) ?_ _
          clear hHeld hwq hb
          obtain ⟨wd, hwd⟩ : ∃ wd, wd = wk.drew := ⟨_, rfl⟩
          rw [← hwd]
          have HRA2 : Hid (wd.heap[W.heap.size + 1]? = some (.cells #[.int .u64 (t.c : Int), .float .f64 t.s, .bool t.o, .float .f64 t.lo, .float .f64 t.hi] 34 (0, 0))) := Lib.hid (by rw [hwd]; exact HRA.out)
          have HRC2 : Hid (wd.heap[W.heap.size]? = some (.cells #[.bool cc.put, .int .u64 (cc.rev : Int), .string cc.p.key, .int .i64 cc.p.s, .int .i64 cc.p.e, .int .u64 (cc.t.c : Int), .float .f64 cc.t.s, .bool cc.t.o, .float .f64 cc.t.lo, .float .f64 cc.t.hi] 38 (0, 0))) := Lib.hid (by rw [hwd]; exact HRC.out)
          have HX2 : Hid (wd.rangeAt ga (off + k * 10) [.bool y.put, .int .u64 (y.rev : Int), .string y.p.key, .int .i64 y.p.s, .int .i64 y.p.e, .int .u64 (y.t.c : Int), .float .f64 y.t.s, .bool y.t.o, .float .f64 y.t.lo, .float .f64 y.t.hi]) := Lib.hid (by rw [hwd]; exact HX.out)
          have HB2 : Hid (Below W.heap.size W wd) := Lib.hid (by rw [hwd]; exact HB.out.drew)
          have hc0 : wd.cell? ⟨ga, off + k * 10, none⟩ = some (.bool y.put) := HX2.out 0 _ rfl
          have HX5 : Hid (wd.rangeAt ga (off + k * 10 + 5) [.int .u64 (y.t.c : Int), .float .f64 y.t.s, .bool y.t.o, .float .f64 y.t.lo, .float .f64 y.t.hi]) := Lib.hid (rsub HX2.out 5 5 _ rfl _ rfl)
          clear hwd
          obtain ⟨put, rev, py, ty⟩ := y
          dsimp only at *
          have hga := HGW.out
          cases put
          all_goals
            go_wp2_with (first
              | (refine wpList_load_mid rfl 34 (.tmp 46) rfl ga (off + k * 10 + 5) rfl [.int .u64 (ty.c : Int), .float .f64 ty.s, .bool ty.o, .float .f64 ty.lo, .float .f64 ty.hi] _ HX5.out uAgg rfl iAgg ?_)
              | (refine wpList_store_row rfl 34 (.tmp 7) (.tmp 47) rfl (W.heap.size + 1) [.int .u64 (ty.c : Int), .float .f64 ty.s, .bool ty.o, .float .f64 ty.lo, .float .f64 ty.hi].toArray rfl rfl _ _ HRA2.out iAgg rfl (oneAgg ty) ?_; have HRA3 := Lib.hid (setRow_heap wd (W.heap.size + 1) _ [.int .u64 (ty.c : Int), .float .f64 ty.s, .bool ty.o, .float .f64 ty.lo, .float .f64 ty.hi].toArray _ _ HRA2.out); have HRC3 : Hid ((wd.setRow (W.heap.size + 1) [.int .u64 (ty.c : Int), .float .f64 ty.s, .bool ty.o, .float .f64 ty.lo, .float .f64 ty.hi].toArray).heap[W.heap.size]? = some (.cells #[.bool cc.put, .int .u64 (cc.rev : Int), .string cc.p.key, .int .i64 cc.p.s, .int .i64 cc.p.e, .int .u64 (cc.t.c : Int), .float .f64 cc.t.s, .bool cc.t.o, .float .f64 cc.t.lo, .float .f64 cc.t.hi] 38 (0, 0))) := Lib.hid (by rw [setRow_other _ _ _ _ (by omega)]; exact HRC2.out); have HB3 : Hid (Below W.heap.size W (wd.setRow (W.heap.size + 1) [.int .u64 (ty.c : Int), .float .f64 ty.s, .bool ty.o, .float .f64 ty.lo, .float .f64 ty.hi].toArray)) := Lib.hid ((Kept.of_below (S := fun k => k = W.heap.size + 1) HB2.out).setRow _ _ (.inl rfl) |>.below (Nat.le_refl _) (fun k hk => by omega)); have hc1 : (wd.setRow (W.heap.size + 1) [.int .u64 (ty.c : Int), .float .f64 ty.s, .bool ty.o, .float .f64 ty.lo, .float .f64 ty.hi].toArray).cell? ⟨ga, off + k * 10 + 1, none⟩ = some (.int .u64 (rev : Int)) := (World.cell?_of_block (setRow_other wd (W.heap.size + 1) ga _ (by omega))).trans (HX2.out 1 _ rfl)))
            go_roundw
          case rel => exact ⟨k + 1, _, ty, by have := HKL.out; omega, by go_num, HXN.out, rfl, by go_num, HYO.out.t, (fun h => by cases h), HRC3.out, HRA3.out, HB3.out⟩
          case measure => (have := HKL.out; simp [intOf]; omega)
          case rel => exact ⟨k + 1, _, ty, by have := HKL.out; omega, by go_num, HXN.out, rfl, rfl, HYO.out.t, (fun _ => rfl), HRC3.out, HRA3.out, HB3.out⟩
          case measure => (have := HKL.out; simp [intOf]; omega)
    · have hz : ¬ ((k : Int) < (n : Int)) := by omega
      have HOKN : Hid (okN l cc = mayB x cc) := Lib.hid (by
        have hk : k = l.length := by have := HKL0.out; have := HN.out; omega
        unfold okN; rw [HXX.out, hk, List.take_length])
      obtain ⟨th, xr, xt⟩ := x
      obtain ⟨cput, crev, cp, ct⟩ := cc
      dsimp only at *
      clear hin
      have hcq0 := cell_of_row wk W.heap.size 0 _ _ _ HRC.out
      have hcq1 := cell_of_row wk W.heap.size 1 _ _ _ HRC.out
      have hcq5 := cell_of_row wk W.heap.size 5 _ _ _ HRC.out
      have hcq6 := cell_of_row wk W.heap.size 6 _ _ _ HRC.out
      have hcq7 := cell_of_row wk W.heap.size 7 _ _ _ HRC.out
      have hcq8 := cell_of_row wk W.heap.size 8 _ _ _ HRC.out
      have hcq9 := cell_of_row wk W.heap.size 9 _ _ _ HRC.out
      have hca0 := cell_of_row wk (W.heap.size + 1) 0 _ _ _ HRA.out
      have hca1 := cell_of_row wk (W.heap.size + 1) 1 _ _ _ HRA.out
      have hca2 := cell_of_row wk (W.heap.size + 1) 2 _ _ _ HRA.out
      have hca3 := cell_of_row wk (W.heap.size + 1) 3 _ _ _ HRA.out
      have hca4 := cell_of_row wk (W.heap.size + 1) 4 _ _ _ HRA.out
      simp only [List.getElem?_toArray, List.getElem?_cons_zero, List.getElem?_cons_succ] at hcq0 hcq1 hcq5 hcq6 hcq7 hcq8 hcq9 hca0 hca1 hca2 hca3 hca4
      cases cput
      · have HMB : Hid (okN l ⟨false, crev, cp, ct⟩ = (th && decide ((crev : Int) = (xr : Int)) && telB ct xt)) := Lib.hid (by rw [HOKN.out, mayB_not rfl])
        clear HOKN
        have HCS : Hid (th = true → ∀ w, Calls Try.prog 17 #[.agg #[.int .u64 (ct.c : Int), .float .f64 ct.s, .bool ct.o, .float .f64 ct.lo, .float .f64 ct.hi], .agg #[.int .u64 (t.c : Int), .float .f64 t.s, .bool t.o, .float .f64 t.lo, .float .f64 t.hi]] w fun e w' => e = .returned (.bool (telB ct xt)) ∧ Below w.heap.size w w') := Lib.hid (fun h w => by
          have h2 : t = xt := HTH.out h
          rw [← h2]
          exact refAggSame_any ct t HCC.out.t HT.out w)
        by_cases hr : (crev : Int) = (xr : Int)
        · cases th
          · go_wp2
            go_ret
            exact ⟨ret_eq (by rw [HMB.out]; rfl), HB.out⟩
          · have HCS2 := Lib.hid (HCS.out rfl)
            go_wp2_with (go_at_call 17; with_reducible refine (HCS2.out _).mono ?_; rintro e w' ⟨rfl, hb⟩; have HBS := Lib.hid hb; clear hb)
            go_ret
            exact ⟨ret_eq (by rw [HMB.out, decide_eq_true hr]; rfl), bto HB.out HBS.out⟩
        · cases th
          · go_wp2
            go_ret
            exact ⟨ret_eq (by rw [HMB.out]; rfl), HB.out⟩
          · go_wp2
            go_ret
            exact ⟨ret_eq (by rw [HMB.out, decide_eq_false hr]; rfl), HB.out⟩
      · have HMB : Hid (okN l ⟨true, crev, cp, ct⟩ = (!th && decide ((crev : Int) = (xr : Int)))) := Lib.hid (by rw [HOKN.out, mayB_put rfl])
        clear HOKN
        by_cases hr : (crev : Int) = (xr : Int)
        · cases th
          all_goals
            go_wp2
            go_ret
            exact ⟨ret_eq (by rw [HMB.out]; simp [hr]), HB.out⟩
        · cases th
          all_goals
            go_wp2
            go_ret
            exact ⟨ret_eq (by rw [HMB.out]; simp [hr]), HB.out⟩
end Go.Proofs.Ytkhldnihboklaaa
