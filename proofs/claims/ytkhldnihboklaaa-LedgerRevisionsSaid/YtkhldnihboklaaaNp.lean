/-
  Layer ledger: the document's View.
-/
import Derived.Test.YtkhldnihboklaaaNn
set_option linter.unusedSimpArgs false
set_option linter.unusedVariables false
set_option maxRecDepth 8000
namespace Go.Proofs.Ytkhldnihboklaaa
open Go.RowKit Go.Sort

/-- One pane of the older ones is looked at. -/
noncomputable def rvS (c : Chg) (st : List Pw × Bool) (y : Pw) : List Pw × Bool := if y.p = c.p then st else if (!st.2 && plB c.p y.p) = true then ((st.1 ++ [c.pw]) ++ [y], true) else (st.1 ++ [y], st.2)
noncomputable def insP (c : Chg) (os : List Pw) : List Pw := if (os.foldl (rvS c) ([], !c.put)).2 = true then (os.foldl (rvS c) ([], !c.put)).1 else (os.foldl (rvS c) ([], !c.put)).1 ++ [c.pw]
/-- The document's view. -/
noncomputable def rvL (l : List Chg) : List Pw := l.foldl (fun os c => insP c os) []
theorem rvS_len (c : Chg) (os : List Pw) : ∀ st, (os.foldl (rvS c) st).1.length + (if (os.foldl (rvS c) st).2 then 0 else 1) ≤ st.1.length + os.length + (if st.2 then 0 else 1) := by
  induction os with
  | nil => intro st; cases h : st.2 <;> simp [h]
  | cons y r ih =>
    intro st
    rw [List.foldl_cons]
    refine Nat.le_trans (ih _) ?_
    rw [List.length_cons]
    unfold rvS
    split
    · omega
    · split
      · rename_i h
        simp only [Bool.and_eq_true, Bool.not_eq_true'] at h
        simp [h.1]; omega
      · simp; omega
theorem insP_len (c : Chg) (os : List Pw) : (insP c os).length ≤ os.length + 1 := by
  have h := rvS_len c os ([], !c.put)
  have h9 : (if (!c.put) = true then 0 else 1) ≤ 1 := by split <;> omega
  unfold insP
  split
  · rename_i h2; rw [if_pos h2] at h; simp only [List.length_nil] at h; omega
  · rename_i h2; rw [if_neg h2] at h; simp only [List.length_nil] at h; rw [List.length_append]; simp only [List.length_singleton]; omega
theorem rvL_snoc (l : List Chg) (c : Chg) : rvL (l ++ [c]) = insP c (rvL l) := by unfold rvL; rw [List.foldl_append]; rfl
theorem rvL_len (l : List Chg) : (rvL l).length ≤ l.length := by
  refine snoc_ind (P := fun l => (rvL l).length ≤ l.length) (Nat.le_refl _) (fun l c ih => ?_) l
  rw [rvL_snoc, List.length_append, List.length_singleton]
  have := insP_len c (rvL l)
  omega
/-- What the document's View ends with. -/
def RvEnd (W : World) (l : List Pw) (e : Ending) (w' : World) : Prop := ∃ (A : Option Addr) (cap : Nat), e = .returned (.slice A l.length cap) ∧ OwnPw w' W.heap.size A l.length cap l ∧ Below W.heap.size W w'
def RVO (W : World) (l : List Chg) (u v : Value) (wr : World) : Prop := ∃ (i : Nat) (A : Option Addr) (cap : Nat) (os : List Pw), i ≤ l.length ∧ v = .int .i64 i ∧ os = rvL (l.take i) ∧ u = .slice A os.length cap ∧ OwnPw wr W.heap.size A os.length cap os ∧ Below W.heap.size W wr
def RVI (w0 : World) (cc : Chg) (os : List Pw) (u d v : Value) (wr : World) : Prop := ∃ (k : Nat) (B : Option Addr) (M cap2 : Nat) (nx : List Pw) (dn : Bool), k ≤ os.length ∧ v = .int .i64 k ∧ d = .bool dn ∧ (os.take k).foldl (rvS cc) ([], !cc.put) = (nx, dn) ∧ M = nx.length ∧ u = .slice B M cap2 ∧ OwnPw wr w0.heap.size B M cap2 nx ∧ Below w0.heap.size w0 wr
theorem rvS_take (cc : Chg) (os : List Pw) (k : Nat) (y : Pw) (hy : os[k]? = some y) (st : List Pw × Bool) : (os.take (k + 1)).foldl (rvS cc) st = rvS cc ((os.take k).foldl (rvS cc) st) y := by
  obtain ⟨hk, rfl⟩ := List.getElem?_eq_some_iff.1 hy
  rw [List.take_succ_eq_append_getElem hk, List.foldl_append]; rfl
set_option maxHeartbeats 8000000 in
theorem rview_any (a : Option Addr) (n c : Nat) (l : List Chg) (hn : n = l.length) (h900 : n ≤ 900) (W : World) (H : Hid (ChAt W a l)) :
    Calls Try.prog 16 #[.slice a n c] W (RvEnd W (rvL l)) := by
  have HN := Lib.hid hn
  clear hn
  go_enter Try.func16, Try.ntmps16
  go_wp2
  go_loopw [3, 4] (fun u v wr => RVO W l u v wr) (fun _ v _ => n - (intOf v).toNat)
  case atStart => exact ⟨0, none, 0, [], Nat.zero_le _, rfl, rfl, rfl, OwnPw.nil _ _, Below.refl _ _⟩
  case round =>
    obtain ⟨i, A, cap, os, hil, rfl, hos, rfl, ho, hb⟩ := hrel
    have HOS := Lib.hid hos; have HO := Lib.hid ho; have HB := Lib.hid hb; have HIL0 := Lib.hid hil
    clear hos ho hb hil
    have HOL : Hid (os.length ≤ i) := Lib.hid (by
      have h := rvL_len (l.take i)
      rw [← HOS.out, List.length_take] at h
      omega)
    by_cases hin : i < n
    · obtain ⟨cc, hcc⟩ : ∃ cc, l[i]? = some cc := ⟨l[i]'(by have := HN.out; omega), List.getElem?_eq_getElem _⟩
      obtain ⟨ga, off, rfl, hga, hr0⟩ := chr H.out i cc hcc
      obtain ⟨w0, hw0⟩ : ∃ w0, w0 = wr := ⟨wr, rfl⟩
      subst hw0
      have hX0 : w0.rangeAt ga (off + i * 10) cc.cells := rangeKeep hr0 hga HB.out
      have HX0 := Lib.hid hX0
      have HGA0 : Hid (ga < w0.heap.size) := Lib.hid (Nat.lt_of_lt_of_le hga HB.out.size)
      have HIN : Hid (i < n ∧ n = l.length) := Lib.hid ⟨hin, HN.out⟩
      have HNX : Hid (rvL (l.take (i + 1)) = insP cc os) := Lib.hid (by
        obtain ⟨h1, rfl⟩ := List.getElem?_eq_some_iff.1 hcc
        rw [List.take_succ_eq_append_getElem h1, rvL_snoc, HOS.out])
      have hc0 : w0.cell? ⟨ga, off + i * 10, none⟩ = some (.bool cc.put) := hX0 0 _ rfl
      clear hr0 hga hcc hX0
      have hz : (i : Int) < (n : Int) := by omega
      go_wp2
      clear hz hc0
      go_loopw [5, 6, 7] (fun u d v wk => RVI w0 cc os u d v wk) (fun _ _ v _ => os.length - (intOf v).toNat)
      case atStart => exact ⟨0, none, 0, 0, [], _, Nat.zero_le _, rfl, rfl, rfl, rfl, rfl, OwnPw.nil _ _, Below.refl _ _⟩
      case round =>
        obtain ⟨k, B, M, cap2, nx, dn, hkl, rfl, rfl, hfo, hM, rfl, hnw, hbk⟩ := hrel
        obtain ⟨wk, hwk⟩ : ∃ wk, wk = wr := ⟨wr, rfl⟩
        subst hwk
        have HKL0 := Lib.hid hkl; have HFO := Lib.hid hfo; have HM := Lib.hid hM; have HNW := Lib.hid hnw; have HBK := Lib.hid hbk
        clear hkl hfo hM hnw hbk
        have HMB : Hid (M ≤ 950) := Lib.hid (by
          have h := rvS_len cc (os.take k) ([], !cc.put)
          rw [HFO.out, List.length_take] at h
          have h9 : (if (!cc.put) = true then 0 else 1) ≤ 1 := by split <;> omega
          have := HM.out; have := HOL.out
          simp only [List.length_nil] at h
          omega)
        by_cases hkn : k < os.length
        · obtain ⟨y, hy⟩ : ∃ y, os[k]? = some y := ⟨os[k], List.getElem?_eq_getElem _⟩
          obtain ⟨gb, off2, rfl, hgb, hr2⟩ := pwr HO.out.at' k y hy
          obtain ⟨-, -, rfl⟩ := HO.out.lt gb off2 rfl
          have HYW : Hid (w0.rangeAt gb (k * 8) y.cells) := Lib.hid (by rw [Nat.zero_add] at hr2; exact hr2)
          have HY : Hid (wk.rangeAt gb (k * 8) y.cells) := Lib.hid (rangeKeep HYW.out hgb HBK.out)
          have HGBW := Lib.hid hgb
          have HGB : Hid (gb < wk.heap.size) := Lib.hid (Nat.lt_of_lt_of_le hgb HBK.out.size)
          have HX : Hid (wk.rangeAt ga (off + i * 10) cc.cells) := Lib.hid (rangeKeep HX0.out HGA0.out HBK.out)
          have HGA : Hid (ga < wk.heap.size) := Lib.hid (Nat.lt_of_lt_of_le HGA0.out HBK.out.size)
          have HST : Hid ((os.take (k + 1)).foldl (rvS cc) ([], !cc.put) = rvS cc (nx, dn) y) := Lib.hid (by rw [rvS_take cc os k y hy, HFO.out])
          have HKL : Hid (k < os.length) := Lib.hid hkn
          clear hr2 hgb hy
          have hz : (k : Int) < (os.length : Int) := by omega
          have hk9 : k < 1000 := by have := HOL.out; omega
          have hb : (y.p.key.toList == cc.p.key.toList) = keyB y.p.key cc.p.key := rfl
          have hwq := winEql_run y.p.s y.p.e cc.p.s cc.p.e
          have HPE := Lib.hid (pl_eq y.p cc.p)
          generalize keyB y.p.key cc.p.key = kb at *
          generalize winB y.p.s y.p.e cc.p.s cc.p.e = wb at *
          cases kb
          · have HNP : Hid (¬ y.p = cc.p) := Lib.hid (fun e => by have h := HPE.out.1 e; revert h; simp)
            clear HPE
            go_upto_region 10 with fail
            refine wp_region_held_drew (S := fun w => Below wk.heap.size wk w) (by kernel_rfl) ((Below.refl _ wk).drew) (fun hHeld => ?_)
            refine wpAnyH_take (i := 0) (v := .slice (some ⟨gb, 0, none⟩) os.length cap) rfl (by kernel_rfl) (by kernel_rfl) (by kernel_rfl) (fun _ _ _ h => h) (Or.inl ⟨by rfl, fun _ _ => rfl⟩) hHeld ?_
            try dsimp only
            try simp only [Act.put, List.getElem_toArray, List.getElem_cons_zero, List.getElem_cons_succ, List.setIfInBounds_toArray, List.set_cons_zero, List.set_cons_succ]
            refine wpAnyH_take (i := 1) (v := .int .i64 (k : Int)) rfl (by kernel_rfl) (by kernel_rfl) (by kernel_rfl) (fun _ _ _ h => h) (Or.inl ⟨by rfl, fun _ _ => rfl⟩) hHeld ?_
            try dsimp only
            try simp only [Act.put, List.getElem_toArray, List.getElem_cons_zero, List.getElem_cons_succ, List.setIfInBounds_toArray, List.set_cons_zero, List.set_cons_succ]
            refine wpAnyH_take (i := 2) (v := .pointer (some ⟨gb, k * 8, none⟩)) rfl (by kernel_rfl) (by kernel_rfl) (by kernel_rfl) (fun _ _ _ h => h) (Or.inl ⟨by rfl, fun w _ => by go_simp⟩) hHeld ?_
            try dsimp only
            try simp only [Act.put, List.getElem_toArray, List.getElem_cons_zero, List.getElem_cons_succ, List.setIfInBounds_toArray, List.set_cons_zero, List.set_cons_succ]
            refine wpAnyH_take (i := 3) (v := .pointer (some ⟨gb, k * 8, none⟩)) rfl (by kernel_rfl) (by kernel_rfl) (by kernel_rfl) (fun _ _ _ h => h) (Or.inl ⟨by rfl, fun w _ => by go_simp⟩) hHeld ?_
            try dsimp only
            try simp only [Act.put, List.getElem_toArray, List.getElem_cons_zero, List.getElem_cons_succ, List.setIfInBounds_toArray, List.set_cons_zero, List.set_cons_succ]
            refine wpAnyH_take (i := 4) (v := .string y.p.key) rfl (by kernel_rfl) (by kernel_rfl) (by kernel_rfl) (fun _ _ _ h => h) (Or.inl ⟨by rfl, fun w hw => by have hr9 : w.rangeAt gb (k * 8) [.string y.p.key, .int .i64 y.p.s, .int .i64 y.p.e, .int .u64 (y.t.c : Int), .float .f64 y.t.s, .bool y.t.o, .float .f64 y.t.lo, .float .f64 y.t.hi] := (rangeKeep HY.out HGB.out hw); have hc : w.cell? ⟨gb, k * 8, none⟩ = some (.string y.p.key) := hr9 0 _ rfl; go_simp⟩) hHeld ?_
            try dsimp only
            try simp only [Act.put, List.getElem_toArray, List.getElem_cons_zero, List.getElem_cons_succ, List.setIfInBounds_toArray, List.set_cons_zero, List.set_cons_succ]
            refine wpAnyH_take (i := 5) (v := .slice (some ⟨ga, off, none⟩) n c) rfl (by kernel_rfl) (by kernel_rfl) (by kernel_rfl) (fun _ _ _ h => h) (Or.inl ⟨by rfl, fun _ _ => rfl⟩) hHeld ?_
            try dsimp only
            try simp only [Act.put, List.getElem_toArray, List.getElem_cons_zero, List.getElem_cons_succ, List.setIfInBounds_toArray, List.set_cons_zero, List.set_cons_succ]
            refine wpAnyH_take (i := 6) (v := .int .i64 (i : Int)) rfl (by kernel_rfl) (by kernel_rfl) (by kernel_rfl) (fun _ _ _ h => h) (Or.inl ⟨by rfl, fun _ _ => rfl⟩) hHeld ?_
            try dsimp only
            try simp only [Act.put, List.getElem_toArray, List.getElem_cons_zero, List.getElem_cons_succ, List.setIfInBounds_toArray, List.set_cons_zero, List.set_cons_succ]
            refine wpAnyH_take (i := 7) (v := .pointer (some ⟨ga, off + i * 10, none⟩)) rfl (by kernel_rfl) (by kernel_rfl) (by kernel_rfl) (fun _ _ _ h => h) (Or.inl ⟨by rfl, fun w _ => by go_simp⟩) hHeld ?_
            try dsimp only
            try simp only [Act.put, List.getElem_toArray, List.getElem_cons_zero, List.getElem_cons_succ, List.setIfInBounds_toArray, List.set_cons_zero, List.set_cons_succ]
            refine wpAnyH_take (i := 8) (v := .pointer (some ⟨ga, off + i * 10 + 2, none⟩)) rfl (by kernel_rfl) (by kernel_rfl) (by kernel_rfl) (fun _ _ _ h => h) (Or.inl ⟨by rfl, fun w _ => by go_simp⟩) hHeld ?_
            try dsimp only
            try simp only [Act.put, List.getElem_toArray, List.getElem_cons_zero, List.getElem_cons_succ, List.setIfInBounds_toArray, List.set_cons_zero, List.set_cons_succ]
            refine wpAnyH_take (i := 9) (v := .pointer (some ⟨ga, off + i * 10 + 2, none⟩)) rfl (by kernel_rfl) (by kernel_rfl) (by kernel_rfl) (fun _ _ _ h => h) (Or.inl ⟨by rfl, fun w _ => by go_simp⟩) hHeld ?_
            try dsimp only
            try simp only [Act.put, List.getElem_toArray, List.getElem_cons_zero, List.getElem_cons_succ, List.setIfInBounds_toArray, List.set_cons_zero, List.set_cons_succ]
            refine wpAnyH_take (i := 10) (v := .string cc.p.key) rfl (by kernel_rfl) (by kernel_rfl) (by kernel_rfl) (fun _ _ _ h => h) (Or.inl ⟨by rfl, fun w hw => by have hr9 : w.rangeAt ga (off + i * 10) [.bool cc.put, .int .u64 (cc.rev : Int), .string cc.p.key, .int .i64 cc.p.s, .int .i64 cc.p.e, .int .u64 (cc.t.c : Int), .float .f64 cc.t.s, .bool cc.t.o, .float .f64 cc.t.lo, .float .f64 cc.t.hi] := (rangeKeep HX.out HGA.out hw); have hc : w.cell? ⟨ga, off + i * 10 + 2, none⟩ = some (.string cc.p.key) := hr9 2 _ rfl; go_simp⟩) hHeld ?_
            try dsimp only
            try simp only [Act.put, List.getElem_toArray, List.getElem_cons_zero, List.getElem_cons_succ, List.setIfInBounds_toArray, List.set_cons_zero, List.set_cons_succ]
            refine wpAnyH_take (i := 11) (v := .bool false) rfl (by kernel_rfl) (by kernel_rfl) (by kernel_rfl) (fun _ _ _ h => h) (Or.inl ⟨by rfl, fun w _ => by go_simp⟩) hHeld ?_
            try dsimp only
            try simp only [Act.put, List.getElem_toArray, List.getElem_cons_zero, List.getElem_cons_succ, List.setIfInBounds_toArray, List.set_cons_zero, List.set_cons_succ]
            refine wpAnyH_take (i := 12) (v := .bool false) rfl (by kernel_rfl) (by kernel_rfl) (by kernel_rfl) (fun _ _ _ h => h) (Or.inl ⟨by rfl, fun _ _ => rfl⟩) hHeld ?_
            try dsimp only
            try simp only [Act.put, List.getElem_toArray, List.getElem_cons_zero, List.getElem_cons_succ, List.setIfInBounds_toArray, List.set_cons_zero, List.set_cons_succ]
            refine wpAnyH_take (i := 13) (v := undef) rfl (by kernel_rfl) (by kernel_rfl) (by kernel_rfl) (fun _ _ _ h => h) (Or.inr ⟨by rfl, rfl⟩) hHeld ?_
            try dsimp only
            try simp only [Act.put, List.getElem_toArray, List.getElem_cons_zero, List.getElem_cons_succ, List.setIfInBounds_toArray, List.set_cons_zero, List.set_cons_succ]
            refine wpAnyH_take (i := 14) (v := undef) rfl (by kernel_rfl) (by kernel_rfl) (by kernel_rfl) (fun _ _ _ h => h) (Or.inr ⟨by rfl, rfl⟩) hHeld ?_
            try dsimp only
            try simp only [Act.put, List.getElem_toArray, List.getElem_cons_zero, List.getElem_cons_succ, List.setIfInBounds_toArray, List.set_cons_zero, List.set_cons_succ]
            refine wpAnyH_take (i := 15) (v := undef) rfl (by kernel_rfl) (by kernel_rfl) (by kernel_rfl) (fun _ _ _ h => h) (Or.inr ⟨by rfl, rfl⟩) hHeld ?_
            try dsimp only
            try simp only [Act.put, List.getElem_toArray, List.getElem_cons_zero, List.getElem_cons_succ, List.setIfInBounds_toArray, List.set_cons_zero, List.set_cons_succ]
            refine wpAnyH_take (i := 16) (v := undef) rfl (by kernel_rfl) (by kernel_rfl) (by kernel_rfl) (fun _ _ _ h => h) (Or.inr ⟨by rfl, rfl⟩) hHeld ?_
            try dsimp only
            try simp only [Act.put, List.getElem_toArray, List.getElem_cons_zero, List.getElem_cons_succ, List.setIfInBounds_toArray, List.set_cons_zero, List.set_cons_succ]
            refine wpAnyH_take (i := 17) (v := undef) rfl (by kernel_rfl) (by kernel_rfl) (by kernel_rfl) (fun _ _ _ h => h) (Or.inr ⟨by rfl, rfl⟩) hHeld ?_
            try dsimp only
            try simp only [Act.put, List.getElem_toArray, List.getElem_cons_zero, List.getElem_cons_succ, List.setIfInBounds_toArray, List.set_cons_zero, List.set_cons_succ]
            refine wpAnyH_take (i := 18) (v := undef) rfl (by kernel_rfl) (by kernel_rfl) (by kernel_rfl) (fun _ _ _ h => h) (Or.inr ⟨by rfl, rfl⟩) hHeld ?_
            try dsimp only
            try simp only [Act.put, List.getElem_toArray, List.getElem_cons_zero, List.getElem_cons_succ, List.setIfInBounds_toArray, List.set_cons_zero, List.set_cons_succ]
            refine wpAnyH_take (i := 19) (v := undef) rfl (by kernel_rfl) (by kernel_rfl) (by kernel_rfl) (fun _ _ _ h => h) (Or.inr ⟨by rfl, rfl⟩) hHeld ?_
            try dsimp only
            try simp only [Act.put, List.getElem_toArray, List.getElem_cons_zero, List.getElem_cons_succ, List.setIfInBounds_toArray, List.set_cons_zero, List.set_cons_succ]
            refine wpAnyH_take (i := 20) (v := undef) rfl (by kernel_rfl) (by kernel_rfl) (by kernel_rfl) (fun _ _ _ h => h) (Or.inr ⟨by rfl, rfl⟩) hHeld ?_
            try dsimp only
            try simp only [Act.put, List.getElem_toArray, List.getElem_cons_zero, List.getElem_cons_succ, List.setIfInBounds_toArray, List.set_cons_zero, List.set_cons_succ]
            refine wpAnyH_take (i := 21) (v := undef) rfl (by kernel_rfl) (by kernel_rfl) (by kernel_rfl) (fun _ _ _ h => h) (Or.inr ⟨by rfl, rfl⟩) hHeld ?_
            try dsimp only
            try simp only [Act.put, List.getElem_toArray, List.getElem_cons_zero, List.getElem_cons_succ, List.setIfInBounds_toArray, List.set_cons_zero, List.set_cons_succ]
            refine wpAnyH_take (i := 22) (v := undef) rfl (by kernel_rfl) (by kernel_rfl) (by kernel_rfl) (fun _ _ _ h => h) (Or.inr ⟨by rfl, rfl⟩) hHeld ?_
            try dsimp only
            try simp only [Act.put, List.getElem_toArray, List.getElem_cons_zero, List.getElem_cons_succ, List.setIfInBounds_toArray, List.set_cons_zero, List.set_cons_succ]
            refine wpAnyH_take (i := 23) (v := undef) rfl (by kernel_rfl) (by kernel_rfl) (by kernel_rfl) (fun _ _ _ h => h) (Or.inr ⟨by rfl, rfl⟩) hHeld ?_
            try dsimp only
            try simp only [Act.put, List.getElem_toArray, List.getElem_cons_zero, List.getElem_cons_succ, List.setIfInBounds_toArray, List.set_cons_zero, List.set_cons_succ]
            refine wpAnyH_take (i := 24) (v := undef) rfl (by kernel_rfl) (by kernel_rfl) (by kernel_rfl) (fun _ _ _ h => h) (Or.inr ⟨by rfl, rfl⟩) hHeld ?_
            try dsimp only
            try simp only [Act.put, List.getElem_toArray, List.getElem_cons_zero, List.getElem_cons_succ, List.setIfInBounds_toArray, List.set_cons_zero, List.set_cons_succ]
            refine wpAnyH_take (i := 25) (v := .bool false) rfl (by kernel_rfl) (by kernel_rfl) (by kernel_rfl) (fun _ _ _ h => h) (Or.inl ⟨by rfl, fun w _ => by go_simp⟩) hHeld ?_
            try dsimp only
            try simp only [Act.put, List.getElem_toArray, List.getElem_cons_zero, List.getElem_cons_succ, List.setIfInBounds_toArray, List.set_cons_zero, List.set_cons_succ]
            refine wpAnyH_done (by kernel_rfl) ?_ _
            clear hwq hb
            obtain ⟨wk2, hwk2⟩ : ∃ wk2, wk2 = World.drew wk := ⟨_, rfl⟩
            rw [← hwk2] at hHeld ⊢
            replace HY : Hid (wk2.rangeAt gb (k * 8) y.cells) := Lib.hid (rangeKeep HY.out HGB.out hHeld)
            replace HX : Hid (wk2.rangeAt ga (off + i * 10) cc.cells) := Lib.hid (rangeKeep HX.out HGA.out hHeld)
            replace HGB : Hid (gb < wk2.heap.size) := Lib.hid (Nat.lt_of_lt_of_le HGB.out hHeld.size)
            replace HGA : Hid (ga < wk2.heap.size) := Lib.hid (Nat.lt_of_lt_of_le HGA.out hHeld.size)
            replace HNW : Hid (OwnPw wk2 w0.heap.size B M cap2 nx) := Lib.hid (HNW.out.below hHeld (fun g' off' e => (HNW.out.lt g' off' e).1))
            replace HBK : Hid (Below w0.heap.size w0 wk2) := Lib.hid (bto HBK.out hHeld)
            clear hHeld hwk2
            clear wk
            obtain ⟨wk, hwk⟩ : ∃ wk, wk = wk2 := ⟨wk2, rfl⟩
            subst hwk
            cases dn
            · rcases hpb : plB cc.p y.p with _ | _
              · have HPB := Lib.hid hpb
                have HRS : Hid (rvS cc (nx, false) y = (nx ++ [y], false)) := Lib.hid (by unfold rvS; rw [if_neg HNP.out, if_neg (by rw [HPB.out]; simp)])
                clear hpb
                go_upto_region 11 with fail
                refine wp_region_held_drew (S := fun w => Below wk.heap.size wk w) (by kernel_rfl) ((Below.refl _ wk).drew) (fun hHeld => ?_)
                refine wpAnyH_take (i := 0) (v := .bool false) rfl (by kernel_rfl) (by kernel_rfl) (by kernel_rfl) (fun _ _ _ h => h) (Or.inl ⟨by rfl, fun _ _ => rfl⟩) hHeld ?_
                try dsimp only
                try simp only [Act.put, List.getElem_toArray, List.getElem_cons_zero, List.getElem_cons_succ, List.setIfInBounds_toArray, List.set_cons_zero, List.set_cons_succ]
                refine wpAnyH_take (i := 1) (v := .bool true) rfl (by kernel_rfl) (by kernel_rfl) (by kernel_rfl) (fun _ _ _ h => h) (Or.inl ⟨by rfl, fun w _ => by go_simp⟩) hHeld ?_
                try dsimp only
                try simp only [Act.put, List.getElem_toArray, List.getElem_cons_zero, List.getElem_cons_succ, List.setIfInBounds_toArray, List.set_cons_zero, List.set_cons_succ]
                refine wpAnyH_take (i := 2) (v := .bool true) rfl (by kernel_rfl) (by kernel_rfl) (by kernel_rfl) (fun _ _ _ h => h) (Or.inl ⟨by rfl, fun _ _ => rfl⟩) hHeld ?_
                try dsimp only
                try simp only [Act.put, List.getElem_toArray, List.getElem_cons_zero, List.getElem_cons_succ, List.setIfInBounds_toArray, List.set_cons_zero, List.set_cons_succ]
                refine wpAnyH_take (i := 3) (v := .slice (some ⟨ga, off, none⟩) n c) rfl (by kernel_rfl) (by kernel_rfl) (by kernel_rfl) (fun _ _ _ h => h) (Or.inl ⟨by rfl, fun _ _ => rfl⟩) hHeld ?_
                try dsimp only
                try simp only [Act.put, List.getElem_toArray, List.getElem_cons_zero, List.getElem_cons_succ, List.setIfInBounds_toArray, List.set_cons_zero, List.set_cons_succ]
                refine wpAnyH_take (i := 4) (v := .int .i64 (i : Int)) rfl (by kernel_rfl) (by kernel_rfl) (by kernel_rfl) (fun _ _ _ h => h) (Or.inl ⟨by rfl, fun _ _ => rfl⟩) hHeld ?_
                try dsimp only
                try simp only [Act.put, List.getElem_toArray, List.getElem_cons_zero, List.getElem_cons_succ, List.setIfInBounds_toArray, List.set_cons_zero, List.set_cons_succ]
                refine wpAnyH_take (i := 5) (v := .pointer (some ⟨ga, off + i * 10, none⟩)) rfl (by kernel_rfl) (by kernel_rfl) (by kernel_rfl) (fun _ _ _ h => h) (Or.inl ⟨by rfl, fun w _ => by go_simp⟩) hHeld ?_
                try dsimp only
                try simp only [Act.put, List.getElem_toArray, List.getElem_cons_zero, List.getElem_cons_succ, List.setIfInBounds_toArray, List.set_cons_zero, List.set_cons_succ]
                refine wpAnyH_take (i := 6) (v := .pointer (some ⟨ga, off + i * 10 + 2, none⟩)) rfl (by kernel_rfl) (by kernel_rfl) (by kernel_rfl) (fun _ _ _ h => h) (Or.inl ⟨by rfl, fun w _ => by go_simp⟩) hHeld ?_
                try dsimp only
                try simp only [Act.put, List.getElem_toArray, List.getElem_cons_zero, List.getElem_cons_succ, List.setIfInBounds_toArray, List.set_cons_zero, List.set_cons_succ]
                refine wpAnyH_take (i := 7) (v := .pointer (some ⟨ga, off + i * 10 + 2, none⟩)) rfl (by kernel_rfl) (by kernel_rfl) (by kernel_rfl) (fun _ _ _ h => h) (Or.inl ⟨by rfl, fun w _ => by go_simp⟩) hHeld ?_
                try dsimp only
                try simp only [Act.put, List.getElem_toArray, List.getElem_cons_zero, List.getElem_cons_succ, List.setIfInBounds_toArray, List.set_cons_zero, List.set_cons_succ]
                refine wpAnyH_take (i := 8) (v := .string cc.p.key) rfl (by kernel_rfl) (by kernel_rfl) (by kernel_rfl) (fun _ _ _ h => h) (Or.inl ⟨by rfl, fun w hw => by have hr9 : w.rangeAt ga (off + i * 10) [.bool cc.put, .int .u64 (cc.rev : Int), .string cc.p.key, .int .i64 cc.p.s, .int .i64 cc.p.e, .int .u64 (cc.t.c : Int), .float .f64 cc.t.s, .bool cc.t.o, .float .f64 cc.t.lo, .float .f64 cc.t.hi] := (rangeKeep HX.out HGA.out hw); have hc : w.cell? ⟨ga, off + i * 10 + 2, none⟩ = some (.string cc.p.key) := hr9 2 _ rfl; go_simp⟩) hHeld ?_
                try dsimp only
                try simp only [Act.put, List.getElem_toArray, List.getElem_cons_zero, List.getElem_cons_succ, List.setIfInBounds_toArray, List.set_cons_zero, List.set_cons_succ]
                refine wpAnyH_take (i := 9) (v := .slice (some ⟨ga, off, none⟩) n c) rfl (by kernel_rfl) (by kernel_rfl) (by kernel_rfl) (fun _ _ _ h => h) (Or.inl ⟨by rfl, fun _ _ => rfl⟩) hHeld ?_
                try dsimp only
                try simp only [Act.put, List.getElem_toArray, List.getElem_cons_zero, List.getElem_cons_succ, List.setIfInBounds_toArray, List.set_cons_zero, List.set_cons_succ]
                refine wpAnyH_take (i := 10) (v := .int .i64 (i : Int)) rfl (by kernel_rfl) (by kernel_rfl) (by kernel_rfl) (fun _ _ _ h => h) (Or.inl ⟨by rfl, fun _ _ => rfl⟩) hHeld ?_
                try dsimp only
                try simp only [Act.put, List.getElem_toArray, List.getElem_cons_zero, List.getElem_cons_succ, List.setIfInBounds_toArray, List.set_cons_zero, List.set_cons_succ]
                refine wpAnyH_take (i := 11) (v := .pointer (some ⟨ga, off + i * 10, none⟩)) rfl (by kernel_rfl) (by kernel_rfl) (by kernel_rfl) (fun _ _ _ h => h) (Or.inl ⟨by rfl, fun w _ => by go_simp⟩) hHeld ?_
                try dsimp only
                try simp only [Act.put, List.getElem_toArray, List.getElem_cons_zero, List.getElem_cons_succ, List.setIfInBounds_toArray, List.set_cons_zero, List.set_cons_succ]
                refine wpAnyH_take (i := 12) (v := .pointer (some ⟨ga, off + i * 10 + 2, none⟩)) rfl (by kernel_rfl) (by kernel_rfl) (by kernel_rfl) (fun _ _ _ h => h) (Or.inl ⟨by rfl, fun w _ => by go_simp⟩) hHeld ?_
                try dsimp only
                try simp only [Act.put, List.getElem_toArray, List.getElem_cons_zero, List.getElem_cons_succ, List.setIfInBounds_toArray, List.set_cons_zero, List.set_cons_succ]
                refine wpAnyH_take (i := 13) (v := .pointer (some ⟨ga, off + i * 10 + 3, none⟩)) rfl (by kernel_rfl) (by kernel_rfl) (by kernel_rfl) (fun _ _ _ h => h) (Or.inl ⟨by rfl, fun w _ => by go_simp⟩) hHeld ?_
                try dsimp only
                try simp only [Act.put, List.getElem_toArray, List.getElem_cons_zero, List.getElem_cons_succ, List.setIfInBounds_toArray, List.set_cons_zero, List.set_cons_succ]
                refine wpAnyH_take (i := 14) (v := .agg [.int .i64 cc.p.s, .int .i64 cc.p.e].toArray) rfl (by kernel_rfl) (by kernel_rfl) (by kernel_rfl) (fun _ _ _ h => h) (yieldsIf_load_mid rfl 31 (.tmp 65) rfl ga (off + i * 10 + 3) rfl [.int .i64 cc.p.s, .int .i64 cc.p.e] _ (fun w hw => rsub (cs := [.bool cc.put, .int .u64 (cc.rev : Int), .string cc.p.key, .int .i64 cc.p.s, .int .i64 cc.p.e, .int .u64 (cc.t.c : Int), .float .f64 cc.t.s, .bool cc.t.o, .float .f64 cc.t.lo, .float .f64 cc.t.hi]) (rangeKeep HX.out HGA.out hw) 3 2 _ rfl _ rfl) uWin rfl iWin) hHeld ?_
                try dsimp only
                try simp only [Act.put, List.getElem_toArray, List.getElem_cons_zero, List.getElem_cons_succ, List.setIfInBounds_toArray, List.set_cons_zero, List.set_cons_succ]
                refine wpAnyH_take (i := 15) (v := .slice (some ⟨gb, 0, none⟩) os.length cap) rfl (by kernel_rfl) (by kernel_rfl) (by kernel_rfl) (fun _ _ _ h => h) (Or.inl ⟨by rfl, fun _ _ => rfl⟩) hHeld ?_
                try dsimp only
                try simp only [Act.put, List.getElem_toArray, List.getElem_cons_zero, List.getElem_cons_succ, List.setIfInBounds_toArray, List.set_cons_zero, List.set_cons_succ]
                refine wpAnyH_take (i := 16) (v := .int .i64 (k : Int)) rfl (by kernel_rfl) (by kernel_rfl) (by kernel_rfl) (fun _ _ _ h => h) (Or.inl ⟨by rfl, fun _ _ => rfl⟩) hHeld ?_
                try dsimp only
                try simp only [Act.put, List.getElem_toArray, List.getElem_cons_zero, List.getElem_cons_succ, List.setIfInBounds_toArray, List.set_cons_zero, List.set_cons_succ]
                refine wpAnyH_take (i := 17) (v := .pointer (some ⟨gb, k * 8, none⟩)) rfl (by kernel_rfl) (by kernel_rfl) (by kernel_rfl) (fun _ _ _ h => h) (Or.inl ⟨by rfl, fun w _ => by go_simp⟩) hHeld ?_
                try dsimp only
                try simp only [Act.put, List.getElem_toArray, List.getElem_cons_zero, List.getElem_cons_succ, List.setIfInBounds_toArray, List.set_cons_zero, List.set_cons_succ]
                refine wpAnyH_take (i := 18) (v := .pointer (some ⟨gb, k * 8, none⟩)) rfl (by kernel_rfl) (by kernel_rfl) (by kernel_rfl) (fun _ _ _ h => h) (Or.inl ⟨by rfl, fun w _ => by go_simp⟩) hHeld ?_
                try dsimp only
                try simp only [Act.put, List.getElem_toArray, List.getElem_cons_zero, List.getElem_cons_succ, List.setIfInBounds_toArray, List.set_cons_zero, List.set_cons_succ]
                refine wpAnyH_take (i := 19) (v := .string y.p.key) rfl (by kernel_rfl) (by kernel_rfl) (by kernel_rfl) (fun _ _ _ h => h) (Or.inl ⟨by rfl, fun w hw => by have hr9 : w.rangeAt gb (k * 8) [.string y.p.key, .int .i64 y.p.s, .int .i64 y.p.e, .int .u64 (y.t.c : Int), .float .f64 y.t.s, .bool y.t.o, .float .f64 y.t.lo, .float .f64 y.t.hi] := (rangeKeep HY.out HGB.out hw); have hc : w.cell? ⟨gb, k * 8, none⟩ = some (.string y.p.key) := hr9 0 _ rfl; go_simp⟩) hHeld ?_
                try dsimp only
                try simp only [Act.put, List.getElem_toArray, List.getElem_cons_zero, List.getElem_cons_succ, List.setIfInBounds_toArray, List.set_cons_zero, List.set_cons_succ]
                refine wpAnyH_take (i := 20) (v := .slice (some ⟨gb, 0, none⟩) os.length cap) rfl (by kernel_rfl) (by kernel_rfl) (by kernel_rfl) (fun _ _ _ h => h) (Or.inl ⟨by rfl, fun _ _ => rfl⟩) hHeld ?_
                try dsimp only
                try simp only [Act.put, List.getElem_toArray, List.getElem_cons_zero, List.getElem_cons_succ, List.setIfInBounds_toArray, List.set_cons_zero, List.set_cons_succ]
                refine wpAnyH_take (i := 21) (v := .int .i64 (k : Int)) rfl (by kernel_rfl) (by kernel_rfl) (by kernel_rfl) (fun _ _ _ h => h) (Or.inl ⟨by rfl, fun _ _ => rfl⟩) hHeld ?_
                try dsimp only
                try simp only [Act.put, List.getElem_toArray, List.getElem_cons_zero, List.getElem_cons_succ, List.setIfInBounds_toArray, List.set_cons_zero, List.set_cons_succ]
                refine wpAnyH_take (i := 22) (v := .pointer (some ⟨gb, k * 8, none⟩)) rfl (by kernel_rfl) (by kernel_rfl) (by kernel_rfl) (fun _ _ _ h => h) (Or.inl ⟨by rfl, fun w _ => by go_simp⟩) hHeld ?_
                try dsimp only
                try simp only [Act.put, List.getElem_toArray, List.getElem_cons_zero, List.getElem_cons_succ, List.setIfInBounds_toArray, List.set_cons_zero, List.set_cons_succ]
                refine wpAnyH_take (i := 23) (v := .pointer (some ⟨gb, k * 8 + 1, none⟩)) rfl (by kernel_rfl) (by kernel_rfl) (by kernel_rfl) (fun _ _ _ h => h) (Or.inl ⟨by rfl, fun w _ => by go_simp⟩) hHeld ?_
                try dsimp only
                try simp only [Act.put, List.getElem_toArray, List.getElem_cons_zero, List.getElem_cons_succ, List.setIfInBounds_toArray, List.set_cons_zero, List.set_cons_succ]
                refine wpAnyH_take (i := 24) (v := .agg [.int .i64 y.p.s, .int .i64 y.p.e].toArray) rfl (by kernel_rfl) (by kernel_rfl) (by kernel_rfl) (fun _ _ _ h => h) (yieldsIf_load_mid rfl 31 (.tmp 75) rfl gb (k * 8 + 1) rfl [.int .i64 y.p.s, .int .i64 y.p.e] _ (fun w hw => rsub (cs := [.string y.p.key, .int .i64 y.p.s, .int .i64 y.p.e, .int .u64 (y.t.c : Int), .float .f64 y.t.s, .bool y.t.o, .float .f64 y.t.lo, .float .f64 y.t.hi]) (rangeKeep HY.out HGB.out hw) 1 2 _ rfl _ rfl) uWin rfl iWin) hHeld ?_
                try dsimp only
                try simp only [Act.put, List.getElem_toArray, List.getElem_cons_zero, List.getElem_cons_succ, List.setIfInBounds_toArray, List.set_cons_zero, List.set_cons_succ]
                refine wpAnyH_ready (rs := [25]) (by kernel_rfl) (by simp) (AllReadyH.cons rfl (fun K hK => ?_) AllReadyH.nil)
                go_simp
                refine (before13_any cc.p y.p _).mono ?_
                rintro e w2 ⟨rfl, hb2⟩
                rw [HPB.out]
                replace hHeld := bto hHeld hb2
                clear hb2
                refine hK.out _ _ hHeld (fun hHeld => ?_)
                clear hK K
                try dsimp only
                try simp only [Act.put, List.getElem_toArray, List.getElem_cons_zero, List.getElem_cons_succ, List.setIfInBounds_toArray, List.set_cons_zero, List.set_cons_succ]
                refine wpAnyH_ready (rs := [26]) (by kernel_rfl) (by simp) (AllReadyH.cons rfl (fun K hK => ?_) AllReadyH.nil)
                go_simp
                refine hK.out _ _ hHeld (fun hHeld => ?_)
                clear hK K
                try dsimp only
                try simp only [Act.put, List.getElem_toArray, List.getElem_cons_zero, List.getElem_cons_succ, List.setIfInBounds_toArray, List.set_cons_zero, List.set_cons_succ]
                refine wpAnyH_done (by kernel_rfl) ?_ _
                have HBE := Lib.hid hHeld
                clear hHeld
                obtain ⟨wz, hwz⟩ : ∃ wz, wz = w2 := ⟨_, rfl⟩
                rw [← hwz]
                rw [← hwz] at HBE
                clear hwz
                have HBZ : Hid (Below w0.heap.size w0 wz) := Lib.hid (bto HBK.out HBE.out)
                have HNZ : Hid (OwnPw wz w0.heap.size B M cap2 nx) := Lib.hid (HNW.out.below HBE.out (fun g' off' e => (HNW.out.lt g' off' e).1))
                have HYZ : Hid (wz.rangeAt gb (k * 8) [.string y.p.key, .int .i64 y.p.s, .int .i64 y.p.e, .int .u64 (y.t.c : Int), .float .f64 y.t.s, .bool y.t.o, .float .f64 y.t.lo, .float .f64 y.t.hi]) := Lib.hid (rangeKeep HY.out HGB.out HBE.out)
                have HCZ : Hid (wz.rangeAt ga (off + i * 10 + 2) [.string cc.p.key, .int .i64 cc.p.s, .int .i64 cc.p.e, .int .u64 (cc.t.c : Int), .float .f64 cc.t.s, .bool cc.t.o, .float .f64 cc.t.lo, .float .f64 cc.t.hi]) := Lib.hid (rsub (rangeKeep HX.out HGA.out HBE.out) 2 8 _ rfl _ rfl)
                go_wp2_with (first
                  | (refine wpList_load_mid rfl 36 (.tmp 90) rfl gb (k * 8) rfl [.string y.p.key, .int .i64 y.p.s, .int .i64 y.p.e, .int .u64 (y.t.c : Int), .float .f64 y.t.s, .bool y.t.o, .float .f64 y.t.lo, .float .f64 y.t.hi] _ HYZ.out uPw rfl iPw ?_)
                  | (at_builtin; refine wpList_append_pw rfl (.tmp 87) (.tmp 92) rfl w0.heap.size B M cap2 nx rfl (HNZ.out.below ((Below.refl _ _).alloc (Nat.le_refl _) _) (fun g' off' e => (HNZ.out.lt g' off' e).1)) (some ⟨wz.heap.size, 0, none⟩) 1 1 [y] rfl rfl (pwAt_new' wz _ [y] _ rfl _ rfl) (fun h => by cases h) (M + 1) rfl (by have := HMB.out; omega) (HBZ.out.alloc HBZ.out.size _).size ?_; intro A4 c4 w4 ho4 hc4 hm4 hn4 hb4 hg4 ha4; have HO4 := Lib.hid ho4; have HB4 := Lib.hid ((HBZ.out.alloc HBZ.out.size _).trans hb4); have HC4 := Lib.hid (And.intro hc4 (And.intro hm4 hn4)); clear ho4 hc4 hm4 hn4 hb4 hg4 ha4))
                go_roundw
                case rel => exact ⟨k + 1, A4, M + 1, c4, nx ++ [y], false, HKL.out, by go_num, rfl, by rw [HST.out]; exact HRS.out, by rw [List.length_append, ← HM.out]; rfl, rfl, HO4.out, HB4.out⟩
                case measure => (have := HKL.out; simp [intOf]; omega)
              · have HPB := Lib.hid hpb
                have HRS : Hid (rvS cc (nx, false) y = ((nx ++ [cc.pw]) ++ [y], true)) := Lib.hid (by unfold rvS; rw [if_neg HNP.out, if_pos (by rw [HPB.out]; rfl)])
                clear hpb
                go_upto_region 11 with fail
                refine wp_region_held_drew (S := fun w => Below wk.heap.size wk w) (by kernel_rfl) ((Below.refl _ wk).drew) (fun hHeld => ?_)
                refine wpAnyH_take (i := 0) (v := .bool false) rfl (by kernel_rfl) (by kernel_rfl) (by kernel_rfl) (fun _ _ _ h => h) (Or.inl ⟨by rfl, fun _ _ => rfl⟩) hHeld ?_
                try dsimp only
                try simp only [Act.put, List.getElem_toArray, List.getElem_cons_zero, List.getElem_cons_succ, List.setIfInBounds_toArray, List.set_cons_zero, List.set_cons_succ]
                refine wpAnyH_take (i := 1) (v := .bool true) rfl (by kernel_rfl) (by kernel_rfl) (by kernel_rfl) (fun _ _ _ h => h) (Or.inl ⟨by rfl, fun w _ => by go_simp⟩) hHeld ?_
                try dsimp only
                try simp only [Act.put, List.getElem_toArray, List.getElem_cons_zero, List.getElem_cons_succ, List.setIfInBounds_toArray, List.set_cons_zero, List.set_cons_succ]
                refine wpAnyH_take (i := 2) (v := .bool true) rfl (by kernel_rfl) (by kernel_rfl) (by kernel_rfl) (fun _ _ _ h => h) (Or.inl ⟨by rfl, fun _ _ => rfl⟩) hHeld ?_
                try dsimp only
                try simp only [Act.put, List.getElem_toArray, List.getElem_cons_zero, List.getElem_cons_succ, List.setIfInBounds_toArray, List.set_cons_zero, List.set_cons_succ]
                refine wpAnyH_take (i := 3) (v := .slice (some ⟨ga, off, none⟩) n c) rfl (by kernel_rfl) (by kernel_rfl) (by kernel_rfl) (fun _ _ _ h => h) (Or.inl ⟨by rfl, fun _ _ => rfl⟩) hHeld ?_
                try dsimp only
                try simp only [Act.put, List.getElem_toArray, List.getElem_cons_zero, List.getElem_cons_succ, List.setIfInBounds_toArray, List.set_cons_zero, List.set_cons_succ]
                refine wpAnyH_take (i := 4) (v := .int .i64 (i : Int)) rfl (by kernel_rfl) (by kernel_rfl) (by kernel_rfl) (fun _ _ _ h => h) (Or.inl ⟨by rfl, fun _ _ => rfl⟩) hHeld ?_
                try dsimp only
                try simp only [Act.put, List.getElem_toArray, List.getElem_cons_zero, List.getElem_cons_succ, List.setIfInBounds_toArray, List.set_cons_zero, List.set_cons_succ]
                refine wpAnyH_take (i := 5) (v := .pointer (some ⟨ga, off + i * 10, none⟩)) rfl (by kernel_rfl) (by kernel_rfl) (by kernel_rfl) (fun _ _ _ h => h) (Or.inl ⟨by rfl, fun w _ => by go_simp⟩) hHeld ?_
                try dsimp only
                try simp only [Act.put, List.getElem_toArray, List.getElem_cons_zero, List.getElem_cons_succ, List.setIfInBounds_toArray, List.set_cons_zero, List.set_cons_succ]
                refine wpAnyH_take (i := 6) (v := .pointer (some ⟨ga, off + i * 10 + 2, none⟩)) rfl (by kernel_rfl) (by kernel_rfl) (by kernel_rfl) (fun _ _ _ h => h) (Or.inl ⟨by rfl, fun w _ => by go_simp⟩) hHeld ?_
                try dsimp only
                try simp only [Act.put, List.getElem_toArray, List.getElem_cons_zero, List.getElem_cons_succ, List.setIfInBounds_toArray, List.set_cons_zero, List.set_cons_succ]
                refine wpAnyH_take (i := 7) (v := .pointer (some ⟨ga, off + i * 10 + 2, none⟩)) rfl (by kernel_rfl) (by kernel_rfl) (by kernel_rfl) (fun _ _ _ h => h) (Or.inl ⟨by rfl, fun w _ => by go_simp⟩) hHeld ?_
                try dsimp only
                try simp only [Act.put, List.getElem_toArray, List.getElem_cons_zero, List.getElem_cons_succ, List.setIfInBounds_toArray, List.set_cons_zero, List.set_cons_succ]
                refine wpAnyH_take (i := 8) (v := .string cc.p.key) rfl (by kernel_rfl) (by kernel_rfl) (by kernel_rfl) (fun _ _ _ h => h) (Or.inl ⟨by rfl, fun w hw => by have hr9 : w.rangeAt ga (off + i * 10) [.bool cc.put, .int .u64 (cc.rev : Int), .string cc.p.key, .int .i64 cc.p.s, .int .i64 cc.p.e, .int .u64 (cc.t.c : Int), .float .f64 cc.t.s, .bool cc.t.o, .float .f64 cc.t.lo, .float .f64 cc.t.hi] := (rangeKeep HX.out HGA.out hw); have hc : w.cell? ⟨ga, off + i * 10 + 2, none⟩ = some (.string cc.p.key) := hr9 2 _ rfl; go_simp⟩) hHeld ?_
                try dsimp only
                try simp only [Act.put, List.getElem_toArray, List.getElem_cons_zero, List.getElem_cons_succ, List.setIfInBounds_toArray, List.set_cons_zero, List.set_cons_succ]
                refine wpAnyH_take (i := 9) (v := .slice (some ⟨ga, off, none⟩) n c) rfl (by kernel_rfl) (by kernel_rfl) (by kernel_rfl) (fun _ _ _ h => h) (Or.inl ⟨by rfl, fun _ _ => rfl⟩) hHeld ?_
                try dsimp only
                try simp only [Act.put, List.getElem_toArray, List.getElem_cons_zero, List.getElem_cons_succ, List.setIfInBounds_toArray, List.set_cons_zero, List.set_cons_succ]
                refine wpAnyH_take (i := 10) (v := .int .i64 (i : Int)) rfl (by kernel_rfl) (by kernel_rfl) (by kernel_rfl) (fun _ _ _ h => h) (Or.inl ⟨by rfl, fun _ _ => rfl⟩) hHeld ?_
                try dsimp only
                try simp only [Act.put, List.getElem_toArray, List.getElem_cons_zero, List.getElem_cons_succ, List.setIfInBounds_toArray, List.set_cons_zero, List.set_cons_succ]
                refine wpAnyH_take (i := 11) (v := .pointer (some ⟨ga, off + i * 10, none⟩)) rfl (by kernel_rfl) (by kernel_rfl) (by kernel_rfl) (fun _ _ _ h => h) (Or.inl ⟨by rfl, fun w _ => by go_simp⟩) hHeld ?_
                try dsimp only
                try simp only [Act.put, List.getElem_toArray, List.getElem_cons_zero, List.getElem_cons_succ, List.setIfInBounds_toArray, List.set_cons_zero, List.set_cons_succ]
                refine wpAnyH_take (i := 12) (v := .pointer (some ⟨ga, off + i * 10 + 2, none⟩)) rfl (by kernel_rfl) (by kernel_rfl) (by kernel_rfl) (fun _ _ _ h => h) (Or.inl ⟨by rfl, fun w _ => by go_simp⟩) hHeld ?_
                try dsimp only
                try simp only [Act.put, List.getElem_toArray, List.getElem_cons_zero, List.getElem_cons_succ, List.setIfInBounds_toArray, List.set_cons_zero, List.set_cons_succ]
                refine wpAnyH_take (i := 13) (v := .pointer (some ⟨ga, off + i * 10 + 3, none⟩)) rfl (by kernel_rfl) (by kernel_rfl) (by kernel_rfl) (fun _ _ _ h => h) (Or.inl ⟨by rfl, fun w _ => by go_simp⟩) hHeld ?_
                try dsimp only
                try simp only [Act.put, List.getElem_toArray, List.getElem_cons_zero, List.getElem_cons_succ, List.setIfInBounds_toArray, List.set_cons_zero, List.set_cons_succ]
                refine wpAnyH_take (i := 14) (v := .agg [.int .i64 cc.p.s, .int .i64 cc.p.e].toArray) rfl (by kernel_rfl) (by kernel_rfl) (by kernel_rfl) (fun _ _ _ h => h) (yieldsIf_load_mid rfl 31 (.tmp 65) rfl ga (off + i * 10 + 3) rfl [.int .i64 cc.p.s, .int .i64 cc.p.e] _ (fun w hw => rsub (cs := [.bool cc.put, .int .u64 (cc.rev : Int), .string cc.p.key, .int .i64 cc.p.s, .int .i64 cc.p.e, .int .u64 (cc.t.c : Int), .float .f64 cc.t.s, .bool cc.t.o, .float .f64 cc.t.lo, .float .f64 cc.t.hi]) (rangeKeep HX.out HGA.out hw) 3 2 _ rfl _ rfl) uWin rfl iWin) hHeld ?_
                try dsimp only
                try simp only [Act.put, List.getElem_toArray, List.getElem_cons_zero, List.getElem_cons_succ, List.setIfInBounds_toArray, List.set_cons_zero, List.set_cons_succ]
                refine wpAnyH_take (i := 15) (v := .slice (some ⟨gb, 0, none⟩) os.length cap) rfl (by kernel_rfl) (by kernel_rfl) (by kernel_rfl) (fun _ _ _ h => h) (Or.inl ⟨by rfl, fun _ _ => rfl⟩) hHeld ?_
                try dsimp only
                try simp only [Act.put, List.getElem_toArray, List.getElem_cons_zero, List.getElem_cons_succ, List.setIfInBounds_toArray, List.set_cons_zero, List.set_cons_succ]
                refine wpAnyH_take (i := 16) (v := .int .i64 (k : Int)) rfl (by kernel_rfl) (by kernel_rfl) (by kernel_rfl) (fun _ _ _ h => h) (Or.inl ⟨by rfl, fun _ _ => rfl⟩) hHeld ?_
                try dsimp only
                try simp only [Act.put, List.getElem_toArray, List.getElem_cons_zero, List.getElem_cons_succ, List.setIfInBounds_toArray, List.set_cons_zero, List.set_cons_succ]
                refine wpAnyH_take (i := 17) (v := .pointer (some ⟨gb, k * 8, none⟩)) rfl (by kernel_rfl) (by kernel_rfl) (by kernel_rfl) (fun _ _ _ h => h) (Or.inl ⟨by rfl, fun w _ => by go_simp⟩) hHeld ?_
                try dsimp only
                try simp only [Act.put, List.getElem_toArray, List.getElem_cons_zero, List.getElem_cons_succ, List.setIfInBounds_toArray, List.set_cons_zero, List.set_cons_succ]
                refine wpAnyH_take (i := 18) (v := .pointer (some ⟨gb, k * 8, none⟩)) rfl (by kernel_rfl) (by kernel_rfl) (by kernel_rfl) (fun _ _ _ h => h) (Or.inl ⟨by rfl, fun w _ => by go_simp⟩) hHeld ?_
                try dsimp only
                try simp only [Act.put, List.getElem_toArray, List.getElem_cons_zero, List.getElem_cons_succ, List.setIfInBounds_toArray, List.set_cons_zero, List.set_cons_succ]
                refine wpAnyH_take (i := 19) (v := .string y.p.key) rfl (by kernel_rfl) (by kernel_rfl) (by kernel_rfl) (fun _ _ _ h => h) (Or.inl ⟨by rfl, fun w hw => by have hr9 : w.rangeAt gb (k * 8) [.string y.p.key, .int .i64 y.p.s, .int .i64 y.p.e, .int .u64 (y.t.c : Int), .float .f64 y.t.s, .bool y.t.o, .float .f64 y.t.lo, .float .f64 y.t.hi] := (rangeKeep HY.out HGB.out hw); have hc : w.cell? ⟨gb, k * 8, none⟩ = some (.string y.p.key) := hr9 0 _ rfl; go_simp⟩) hHeld ?_
                try dsimp only
                try simp only [Act.put, List.getElem_toArray, List.getElem_cons_zero, List.getElem_cons_succ, List.setIfInBounds_toArray, List.set_cons_zero, List.set_cons_succ]
                refine wpAnyH_take (i := 20) (v := .slice (some ⟨gb, 0, none⟩) os.length cap) rfl (by kernel_rfl) (by kernel_rfl) (by kernel_rfl) (fun _ _ _ h => h) (Or.inl ⟨by rfl, fun _ _ => rfl⟩) hHeld ?_
                try dsimp only
                try simp only [Act.put, List.getElem_toArray, List.getElem_cons_zero, List.getElem_cons_succ, List.setIfInBounds_toArray, List.set_cons_zero, List.set_cons_succ]
                refine wpAnyH_take (i := 21) (v := .int .i64 (k : Int)) rfl (by kernel_rfl) (by kernel_rfl) (by kernel_rfl) (fun _ _ _ h => h) (Or.inl ⟨by rfl, fun _ _ => rfl⟩) hHeld ?_
                try dsimp only
                try simp only [Act.put, List.getElem_toArray, List.getElem_cons_zero, List.getElem_cons_succ, List.setIfInBounds_toArray, List.set_cons_zero, List.set_cons_succ]
                refine wpAnyH_take (i := 22) (v := .pointer (some ⟨gb, k * 8, none⟩)) rfl (by kernel_rfl) (by kernel_rfl) (by kernel_rfl) (fun _ _ _ h => h) (Or.inl ⟨by rfl, fun w _ => by go_simp⟩) hHeld ?_
                try dsimp only
                try simp only [Act.put, List.getElem_toArray, List.getElem_cons_zero, List.getElem_cons_succ, List.setIfInBounds_toArray, List.set_cons_zero, List.set_cons_succ]
                refine wpAnyH_take (i := 23) (v := .pointer (some ⟨gb, k * 8 + 1, none⟩)) rfl (by kernel_rfl) (by kernel_rfl) (by kernel_rfl) (fun _ _ _ h => h) (Or.inl ⟨by rfl, fun w _ => by go_simp⟩) hHeld ?_
                try dsimp only
                try simp only [Act.put, List.getElem_toArray, List.getElem_cons_zero, List.getElem_cons_succ, List.setIfInBounds_toArray, List.set_cons_zero, List.set_cons_succ]
                refine wpAnyH_take (i := 24) (v := .agg [.int .i64 y.p.s, .int .i64 y.p.e].toArray) rfl (by kernel_rfl) (by kernel_rfl) (by kernel_rfl) (fun _ _ _ h => h) (yieldsIf_load_mid rfl 31 (.tmp 75) rfl gb (k * 8 + 1) rfl [.int .i64 y.p.s, .int .i64 y.p.e] _ (fun w hw => rsub (cs := [.string y.p.key, .int .i64 y.p.s, .int .i64 y.p.e, .int .u64 (y.t.c : Int), .float .f64 y.t.s, .bool y.t.o, .float .f64 y.t.lo, .float .f64 y.t.hi]) (rangeKeep HY.out HGB.out hw) 1 2 _ rfl _ rfl) uWin rfl iWin) hHeld ?_
                try dsimp only
                try simp only [Act.put, List.getElem_toArray, List.getElem_cons_zero, List.getElem_cons_succ, List.setIfInBounds_toArray, List.set_cons_zero, List.set_cons_succ]
                refine wpAnyH_ready (rs := [25]) (by kernel_rfl) (by simp) (AllReadyH.cons rfl (fun K hK => ?_) AllReadyH.nil)
                go_simp
                refine (before13_any cc.p y.p _).mono ?_
                rintro e w2 ⟨rfl, hb2⟩
                rw [HPB.out]
                replace hHeld := bto hHeld hb2
                clear hb2
                refine hK.out _ _ hHeld (fun hHeld => ?_)
                clear hK K
                try dsimp only
                try simp only [Act.put, List.getElem_toArray, List.getElem_cons_zero, List.getElem_cons_succ, List.setIfInBounds_toArray, List.set_cons_zero, List.set_cons_succ]
                refine wpAnyH_ready (rs := [26]) (by kernel_rfl) (by simp) (AllReadyH.cons rfl (fun K hK => ?_) AllReadyH.nil)
                go_simp
                refine hK.out _ _ hHeld (fun hHeld => ?_)
                clear hK K
                try dsimp only
                try simp only [Act.put, List.getElem_toArray, List.getElem_cons_zero, List.getElem_cons_succ, List.setIfInBounds_toArray, List.set_cons_zero, List.set_cons_succ]
                refine wpAnyH_done (by kernel_rfl) ?_ _
                have HBE := Lib.hid hHeld
                clear hHeld
                obtain ⟨wz, hwz⟩ : ∃ wz, wz = w2 := ⟨_, rfl⟩
                rw [← hwz]
                rw [← hwz] at HBE
                clear hwz
                have HBZ : Hid (Below w0.heap.size w0 wz) := Lib.hid (bto HBK.out HBE.out)
                have HNZ : Hid (OwnPw wz w0.heap.size B M cap2 nx) := Lib.hid (HNW.out.below HBE.out (fun g' off' e => (HNW.out.lt g' off' e).1))
                have HYZ : Hid (wz.rangeAt gb (k * 8) [.string y.p.key, .int .i64 y.p.s, .int .i64 y.p.e, .int .u64 (y.t.c : Int), .float .f64 y.t.s, .bool y.t.o, .float .f64 y.t.lo, .float .f64 y.t.hi]) := Lib.hid (rangeKeep HY.out HGB.out HBE.out)
                have HCZ : Hid (wz.rangeAt ga (off + i * 10 + 2) [.string cc.p.key, .int .i64 cc.p.s, .int .i64 cc.p.e, .int .u64 (cc.t.c : Int), .float .f64 cc.t.s, .bool cc.t.o, .float .f64 cc.t.lo, .float .f64 cc.t.hi]) := Lib.hid (rsub (rangeKeep HX.out HGA.out HBE.out) 2 8 _ rfl _ rfl)
                go_wp2_with (first
                  | (refine wpList_load_mid rfl 36 (.tmp 83) rfl ga (off + i * 10 + 2) rfl [.string cc.p.key, .int .i64 cc.p.s, .int .i64 cc.p.e, .int .u64 (cc.t.c : Int), .float .f64 cc.t.s, .bool cc.t.o, .float .f64 cc.t.lo, .float .f64 cc.t.hi] _ HCZ.out uPw rfl iPw ?_)
                  | (at_builtin; refine wpList_append_pw rfl (.tmp 79) (.tmp 85) rfl w0.heap.size B M cap2 nx rfl (HNZ.out.below ((Below.refl _ _).alloc (Nat.le_refl _) _) (fun g' off' e => (HNZ.out.lt g' off' e).1)) (some ⟨wz.heap.size, 0, none⟩) 1 1 [cc.pw] rfl rfl (pwAt_new' wz _ [cc.pw] _ rfl _ rfl) (fun h => by cases h) (M + 1) rfl (by have := HMB.out; omega) (HBZ.out.alloc HBZ.out.size _).size ?_; intro A3 c3 w3 ho3 hc3 hm3 hn3 hb3 hg3 ha3; have HO3 := Lib.hid ho3; have HB3 := Lib.hid ((HBZ.out.alloc HBZ.out.size _).trans hb3); have HC3 := Lib.hid (And.intro hc3 (And.intro hm3 hn3)); have HY3 : Hid (w3.rangeAt gb (k * 8) [.string y.p.key, .int .i64 y.p.s, .int .i64 y.p.e, .int .u64 (y.t.c : Int), .float .f64 y.t.s, .bool y.t.o, .float .f64 y.t.lo, .float .f64 y.t.hi]) := Lib.hid (rangeKeep HYW.out HGBW.out HB3.out); clear ho3 hc3 hm3 hn3 hb3 hg3 ha3)
                  | (refine wpList_load_mid rfl 36 (.tmp 90) rfl gb (k * 8) rfl [.string y.p.key, .int .i64 y.p.s, .int .i64 y.p.e, .int .u64 (y.t.c : Int), .float .f64 y.t.s, .bool y.t.o, .float .f64 y.t.lo, .float .f64 y.t.hi] _ HY3.out uPw rfl iPw ?_)
                  | (at_builtin; refine wpList_append_pw rfl (.tmp 87) (.tmp 92) rfl w0.heap.size A3 (M + 1) c3 (nx ++ [cc.pw]) rfl (HO3.out.below ((Below.refl _ _).alloc (Nat.le_refl _) _) (fun g' off' e => (HO3.out.lt g' off' e).1)) (some ⟨w3.heap.size, 0, none⟩) 1 1 [y] rfl rfl (pwAt_new' w3 _ [y] _ rfl _ rfl) (fun h => by cases h) (M + 2) rfl (by have := HMB.out; omega) (HB3.out.alloc HB3.out.size _).size ?_; intro A4 c4 w4 ho4 hc4 hm4 hn4 hb4 hg4 ha4; have HO4 := Lib.hid ho4; have HB4 := Lib.hid ((HB3.out.alloc HB3.out.size _).trans hb4); have HC4 := Lib.hid (And.intro hc4 (And.intro hm4 hn4)); clear ho4 hc4 hm4 hn4 hb4 hg4 ha4))
                go_roundw
                case rel => exact ⟨k + 1, A4, M + 2, c4, (nx ++ [cc.pw]) ++ [y], true, HKL.out, by go_num, rfl, by rw [HST.out]; exact HRS.out, by rw [List.length_append, List.length_append, ← HM.out]; rfl, rfl, HO4.out, HB4.out⟩
                case measure => (have := HKL.out; simp [intOf]; omega)
            · have HRS : Hid (rvS cc (nx, true) y = (nx ++ [y], true)) := Lib.hid (by unfold rvS; rw [if_neg HNP.out, if_neg (by simp)])
              go_upto_region 11 with fail
              refine wp_region_held_drew (S := fun w => Below wk.heap.size wk w) (by kernel_rfl) ((Below.refl _ wk).drew) (fun hHeld => ?_)
              refine wpAnyH_take (i := 0) (v := .bool true) rfl (by kernel_rfl) (by kernel_rfl) (by kernel_rfl) (fun _ _ _ h => h) (Or.inl ⟨by rfl, fun _ _ => rfl⟩) hHeld ?_
              try dsimp only
              try simp only [Act.put, List.getElem_toArray, List.getElem_cons_zero, List.getElem_cons_succ, List.setIfInBounds_toArray, List.set_cons_zero, List.set_cons_succ]
              refine wpAnyH_take (i := 1) (v := .bool false) rfl (by kernel_rfl) (by kernel_rfl) (by kernel_rfl) (fun _ _ _ h => h) (Or.inl ⟨by rfl, fun w _ => by go_simp⟩) hHeld ?_
              try dsimp only
              try simp only [Act.put, List.getElem_toArray, List.getElem_cons_zero, List.getElem_cons_succ, List.setIfInBounds_toArray, List.set_cons_zero, List.set_cons_succ]
              refine wpAnyH_take (i := 2) (v := .bool false) rfl (by kernel_rfl) (by kernel_rfl) (by kernel_rfl) (fun _ _ _ h => h) (Or.inl ⟨by rfl, fun _ _ => rfl⟩) hHeld ?_
              try dsimp only
              try simp only [Act.put, List.getElem_toArray, List.getElem_cons_zero, List.getElem_cons_succ, List.setIfInBounds_toArray, List.set_cons_zero, List.set_cons_succ]
              refine wpAnyH_take (i := 3) (v := undef) rfl (by kernel_rfl) (by kernel_rfl) (by kernel_rfl) (fun _ _ _ h => h) (Or.inr ⟨by rfl, rfl⟩) hHeld ?_
              try dsimp only
              try simp only [Act.put, List.getElem_toArray, List.getElem_cons_zero, List.getElem_cons_succ, List.setIfInBounds_toArray, List.set_cons_zero, List.set_cons_succ]
              refine wpAnyH_take (i := 4) (v := undef) rfl (by kernel_rfl) (by kernel_rfl) (by kernel_rfl) (fun _ _ _ h => h) (Or.inr ⟨by rfl, rfl⟩) hHeld ?_
              try dsimp only
              try simp only [Act.put, List.getElem_toArray, List.getElem_cons_zero, List.getElem_cons_succ, List.setIfInBounds_toArray, List.set_cons_zero, List.set_cons_succ]
              refine wpAnyH_take (i := 5) (v := undef) rfl (by kernel_rfl) (by kernel_rfl) (by kernel_rfl) (fun _ _ _ h => h) (Or.inr ⟨by rfl, rfl⟩) hHeld ?_
              try dsimp only
              try simp only [Act.put, List.getElem_toArray, List.getElem_cons_zero, List.getElem_cons_succ, List.setIfInBounds_toArray, List.set_cons_zero, List.set_cons_succ]
              refine wpAnyH_take (i := 6) (v := undef) rfl (by kernel_rfl) (by kernel_rfl) (by kernel_rfl) (fun _ _ _ h => h) (Or.inr ⟨by rfl, rfl⟩) hHeld ?_
              try dsimp only
              try simp only [Act.put, List.getElem_toArray, List.getElem_cons_zero, List.getElem_cons_succ, List.setIfInBounds_toArray, List.set_cons_zero, List.set_cons_succ]
              refine wpAnyH_take (i := 7) (v := undef) rfl (by kernel_rfl) (by kernel_rfl) (by kernel_rfl) (fun _ _ _ h => h) (Or.inr ⟨by rfl, rfl⟩) hHeld ?_
              try dsimp only
              try simp only [Act.put, List.getElem_toArray, List.getElem_cons_zero, List.getElem_cons_succ, List.setIfInBounds_toArray, List.set_cons_zero, List.set_cons_succ]
              refine wpAnyH_take (i := 8) (v := undef) rfl (by kernel_rfl) (by kernel_rfl) (by kernel_rfl) (fun _ _ _ h => h) (Or.inr ⟨by rfl, rfl⟩) hHeld ?_
              try dsimp only
              try simp only [Act.put, List.getElem_toArray, List.getElem_cons_zero, List.getElem_cons_succ, List.setIfInBounds_toArray, List.set_cons_zero, List.set_cons_succ]
              refine wpAnyH_take (i := 9) (v := undef) rfl (by kernel_rfl) (by kernel_rfl) (by kernel_rfl) (fun _ _ _ h => h) (Or.inr ⟨by rfl, rfl⟩) hHeld ?_
              try dsimp only
              try simp only [Act.put, List.getElem_toArray, List.getElem_cons_zero, List.getElem_cons_succ, List.setIfInBounds_toArray, List.set_cons_zero, List.set_cons_succ]
              refine wpAnyH_take (i := 10) (v := undef) rfl (by kernel_rfl) (by kernel_rfl) (by kernel_rfl) (fun _ _ _ h => h) (Or.inr ⟨by rfl, rfl⟩) hHeld ?_
              try dsimp only
              try simp only [Act.put, List.getElem_toArray, List.getElem_cons_zero, List.getElem_cons_succ, List.setIfInBounds_toArray, List.set_cons_zero, List.set_cons_succ]
              refine wpAnyH_take (i := 11) (v := undef) rfl (by kernel_rfl) (by kernel_rfl) (by kernel_rfl) (fun _ _ _ h => h) (Or.inr ⟨by rfl, rfl⟩) hHeld ?_
              try dsimp only
              try simp only [Act.put, List.getElem_toArray, List.getElem_cons_zero, List.getElem_cons_succ, List.setIfInBounds_toArray, List.set_cons_zero, List.set_cons_succ]
              refine wpAnyH_take (i := 12) (v := undef) rfl (by kernel_rfl) (by kernel_rfl) (by kernel_rfl) (fun _ _ _ h => h) (Or.inr ⟨by rfl, rfl⟩) hHeld ?_
              try dsimp only
              try simp only [Act.put, List.getElem_toArray, List.getElem_cons_zero, List.getElem_cons_succ, List.setIfInBounds_toArray, List.set_cons_zero, List.set_cons_succ]
              refine wpAnyH_take (i := 13) (v := undef) rfl (by kernel_rfl) (by kernel_rfl) (by kernel_rfl) (fun _ _ _ h => h) (Or.inr ⟨by rfl, rfl⟩) hHeld ?_
              try dsimp only
              try simp only [Act.put, List.getElem_toArray, List.getElem_cons_zero, List.getElem_cons_succ, List.setIfInBounds_toArray, List.set_cons_zero, List.set_cons_succ]
              refine wpAnyH_take (i := 14) (v := undef) rfl (by kernel_rfl) (by kernel_rfl) (by kernel_rfl) (fun _ _ _ h => h) (Or.inr ⟨by rfl, rfl⟩) hHeld ?_
              try dsimp only
              try simp only [Act.put, List.getElem_toArray, List.getElem_cons_zero, List.getElem_cons_succ, List.setIfInBounds_toArray, List.set_cons_zero, List.set_cons_succ]
              refine wpAnyH_take (i := 15) (v := undef) rfl (by kernel_rfl) (by kernel_rfl) (by kernel_rfl) (fun _ _ _ h => h) (Or.inr ⟨by rfl, rfl⟩) hHeld ?_
              try dsimp only
              try simp only [Act.put, List.getElem_toArray, List.getElem_cons_zero, List.getElem_cons_succ, List.setIfInBounds_toArray, List.set_cons_zero, List.set_cons_succ]
              refine wpAnyH_take (i := 16) (v := undef) rfl (by kernel_rfl) (by kernel_rfl) (by kernel_rfl) (fun _ _ _ h => h) (Or.inr ⟨by rfl, rfl⟩) hHeld ?_
              try dsimp only
              try simp only [Act.put, List.getElem_toArray, List.getElem_cons_zero, List.getElem_cons_succ, List.setIfInBounds_toArray, List.set_cons_zero, List.set_cons_succ]
              refine wpAnyH_take (i := 17) (v := undef) rfl (by kernel_rfl) (by kernel_rfl) (by kernel_rfl) (fun _ _ _ h => h) (Or.inr ⟨by rfl, rfl⟩) hHeld ?_
              try dsimp only
              try simp only [Act.put, List.getElem_toArray, List.getElem_cons_zero, List.getElem_cons_succ, List.setIfInBounds_toArray, List.set_cons_zero, List.set_cons_succ]
              refine wpAnyH_take (i := 18) (v := undef) rfl (by kernel_rfl) (by kernel_rfl) (by kernel_rfl) (fun _ _ _ h => h) (Or.inr ⟨by rfl, rfl⟩) hHeld ?_
              try dsimp only
              try simp only [Act.put, List.getElem_toArray, List.getElem_cons_zero, List.getElem_cons_succ, List.setIfInBounds_toArray, List.set_cons_zero, List.set_cons_succ]
              refine wpAnyH_take (i := 19) (v := undef) rfl (by kernel_rfl) (by kernel_rfl) (by kernel_rfl) (fun _ _ _ h => h) (Or.inr ⟨by rfl, rfl⟩) hHeld ?_
              try dsimp only
              try simp only [Act.put, List.getElem_toArray, List.getElem_cons_zero, List.getElem_cons_succ, List.setIfInBounds_toArray, List.set_cons_zero, List.set_cons_succ]
              refine wpAnyH_take (i := 20) (v := undef) rfl (by kernel_rfl) (by kernel_rfl) (by kernel_rfl) (fun _ _ _ h => h) (Or.inr ⟨by rfl, rfl⟩) hHeld ?_
              try dsimp only
              try simp only [Act.put, List.getElem_toArray, List.getElem_cons_zero, List.getElem_cons_succ, List.setIfInBounds_toArray, List.set_cons_zero, List.set_cons_succ]
              refine wpAnyH_take (i := 21) (v := undef) rfl (by kernel_rfl) (by kernel_rfl) (by kernel_rfl) (fun _ _ _ h => h) (Or.inr ⟨by rfl, rfl⟩) hHeld ?_
              try dsimp only
              try simp only [Act.put, List.getElem_toArray, List.getElem_cons_zero, List.getElem_cons_succ, List.setIfInBounds_toArray, List.set_cons_zero, List.set_cons_succ]
              refine wpAnyH_take (i := 22) (v := undef) rfl (by kernel_rfl) (by kernel_rfl) (by kernel_rfl) (fun _ _ _ h => h) (Or.inr ⟨by rfl, rfl⟩) hHeld ?_
              try dsimp only
              try simp only [Act.put, List.getElem_toArray, List.getElem_cons_zero, List.getElem_cons_succ, List.setIfInBounds_toArray, List.set_cons_zero, List.set_cons_succ]
              refine wpAnyH_take (i := 23) (v := undef) rfl (by kernel_rfl) (by kernel_rfl) (by kernel_rfl) (fun _ _ _ h => h) (Or.inr ⟨by rfl, rfl⟩) hHeld ?_
              try dsimp only
              try simp only [Act.put, List.getElem_toArray, List.getElem_cons_zero, List.getElem_cons_succ, List.setIfInBounds_toArray, List.set_cons_zero, List.set_cons_succ]
              refine wpAnyH_take (i := 24) (v := undef) rfl (by kernel_rfl) (by kernel_rfl) (by kernel_rfl) (fun _ _ _ h => h) (Or.inr ⟨by rfl, rfl⟩) hHeld ?_
              try dsimp only
              try simp only [Act.put, List.getElem_toArray, List.getElem_cons_zero, List.getElem_cons_succ, List.setIfInBounds_toArray, List.set_cons_zero, List.set_cons_succ]
              refine wpAnyH_take (i := 25) (v := undef) rfl (by kernel_rfl) (by kernel_rfl) (by kernel_rfl) (fun _ _ _ h => h) (Or.inr ⟨by rfl, rfl⟩) hHeld ?_
              try dsimp only
              try simp only [Act.put, List.getElem_toArray, List.getElem_cons_zero, List.getElem_cons_succ, List.setIfInBounds_toArray, List.set_cons_zero, List.set_cons_succ]
              refine wpAnyH_take (i := 26) (v := .bool false) rfl (by kernel_rfl) (by kernel_rfl) (by kernel_rfl) (fun _ _ _ h => h) (Or.inl ⟨by rfl, fun w _ => by go_simp⟩) hHeld ?_
              try dsimp only
              try simp only [Act.put, List.getElem_toArray, List.getElem_cons_zero, List.getElem_cons_succ, List.setIfInBounds_toArray, List.set_cons_zero, List.set_cons_succ]
              refine wpAnyH_done (by kernel_rfl) ?_ _
              have HBE := Lib.hid hHeld
              clear hHeld
              obtain ⟨wz, hwz⟩ : ∃ wz, wz = World.drew wk := ⟨_, rfl⟩
              rw [← hwz]
              rw [← hwz] at HBE
              clear hwz
              have HBZ : Hid (Below w0.heap.size w0 wz) := Lib.hid (bto HBK.out HBE.out)
              have HNZ : Hid (OwnPw wz w0.heap.size B M cap2 nx) := Lib.hid (HNW.out.below HBE.out (fun g' off' e => (HNW.out.lt g' off' e).1))
              have HYZ : Hid (wz.rangeAt gb (k * 8) [.string y.p.key, .int .i64 y.p.s, .int .i64 y.p.e, .int .u64 (y.t.c : Int), .float .f64 y.t.s, .bool y.t.o, .float .f64 y.t.lo, .float .f64 y.t.hi]) := Lib.hid (rangeKeep HY.out HGB.out HBE.out)
              have HCZ : Hid (wz.rangeAt ga (off + i * 10 + 2) [.string cc.p.key, .int .i64 cc.p.s, .int .i64 cc.p.e, .int .u64 (cc.t.c : Int), .float .f64 cc.t.s, .bool cc.t.o, .float .f64 cc.t.lo, .float .f64 cc.t.hi]) := Lib.hid (rsub (rangeKeep HX.out HGA.out HBE.out) 2 8 _ rfl _ rfl)
              go_wp2_with (first
                | (refine wpList_load_mid rfl 36 (.tmp 90) rfl gb (k * 8) rfl [.string y.p.key, .int .i64 y.p.s, .int .i64 y.p.e, .int .u64 (y.t.c : Int), .float .f64 y.t.s, .bool y.t.o, .float .f64 y.t.lo, .float .f64 y.t.hi] _ HYZ.out uPw rfl iPw ?_)
                | (at_builtin; refine wpList_append_pw rfl (.tmp 87) (.tmp 92) rfl w0.heap.size B M cap2 nx rfl (HNZ.out.below ((Below.refl _ _).alloc (Nat.le_refl _) _) (fun g' off' e => (HNZ.out.lt g' off' e).1)) (some ⟨wz.heap.size, 0, none⟩) 1 1 [y] rfl rfl (pwAt_new' wz _ [y] _ rfl _ rfl) (fun h => by cases h) (M + 1) rfl (by have := HMB.out; omega) (HBZ.out.alloc HBZ.out.size _).size ?_; intro A4 c4 w4 ho4 hc4 hm4 hn4 hb4 hg4 ha4; have HO4 := Lib.hid ho4; have HB4 := Lib.hid ((HBZ.out.alloc HBZ.out.size _).trans hb4); have HC4 := Lib.hid (And.intro hc4 (And.intro hm4 hn4)); clear ho4 hc4 hm4 hn4 hb4 hg4 ha4))
              go_roundw
              case rel => exact ⟨k + 1, A4, M + 1, c4, nx ++ [y], true, HKL.out, by go_num, rfl, by rw [HST.out]; exact HRS.out, by rw [List.length_append, ← HM.out]; rfl, rfl, HO4.out, HB4.out⟩
              case measure => (have := HKL.out; simp [intOf]; omega)
          · cases wb
            · have HNP : Hid (¬ y.p = cc.p) := Lib.hid (fun e => by have h := HPE.out.1 e; revert h; simp)
              clear HPE
              go_upto_region 10 with fail
              refine wp_region_held_drew (S := fun w => Below wk.heap.size wk w) (by kernel_rfl) ((Below.refl _ wk).drew) (fun hHeld => ?_)
              refine wpAnyH_take (i := 0) (v := .slice (some ⟨gb, 0, none⟩) os.length cap) rfl (by kernel_rfl) (by kernel_rfl) (by kernel_rfl) (fun _ _ _ h => h) (Or.inl ⟨by rfl, fun _ _ => rfl⟩) hHeld ?_
              try dsimp only
              try simp only [Act.put, List.getElem_toArray, List.getElem_cons_zero, List.getElem_cons_succ, List.setIfInBounds_toArray, List.set_cons_zero, List.set_cons_succ]
              refine wpAnyH_take (i := 1) (v := .int .i64 (k : Int)) rfl (by kernel_rfl) (by kernel_rfl) (by kernel_rfl) (fun _ _ _ h => h) (Or.inl ⟨by rfl, fun _ _ => rfl⟩) hHeld ?_
              try dsimp only
              try simp only [Act.put, List.getElem_toArray, List.getElem_cons_zero, List.getElem_cons_succ, List.setIfInBounds_toArray, List.set_cons_zero, List.set_cons_succ]
              refine wpAnyH_take (i := 2) (v := .pointer (some ⟨gb, k * 8, none⟩)) rfl (by kernel_rfl) (by kernel_rfl) (by kernel_rfl) (fun _ _ _ h => h) (Or.inl ⟨by rfl, fun w _ => by go_simp⟩) hHeld ?_
              try dsimp only
              try simp only [Act.put, List.getElem_toArray, List.getElem_cons_zero, List.getElem_cons_succ, List.setIfInBounds_toArray, List.set_cons_zero, List.set_cons_succ]
              refine wpAnyH_take (i := 3) (v := .pointer (some ⟨gb, k * 8, none⟩)) rfl (by kernel_rfl) (by kernel_rfl) (by kernel_rfl) (fun _ _ _ h => h) (Or.inl ⟨by rfl, fun w _ => by go_simp⟩) hHeld ?_
              try dsimp only
              try simp only [Act.put, List.getElem_toArray, List.getElem_cons_zero, List.getElem_cons_succ, List.setIfInBounds_toArray, List.set_cons_zero, List.set_cons_succ]
              refine wpAnyH_take (i := 4) (v := .string y.p.key) rfl (by kernel_rfl) (by kernel_rfl) (by kernel_rfl) (fun _ _ _ h => h) (Or.inl ⟨by rfl, fun w hw => by have hr9 : w.rangeAt gb (k * 8) [.string y.p.key, .int .i64 y.p.s, .int .i64 y.p.e, .int .u64 (y.t.c : Int), .float .f64 y.t.s, .bool y.t.o, .float .f64 y.t.lo, .float .f64 y.t.hi] := (rangeKeep HY.out HGB.out hw); have hc : w.cell? ⟨gb, k * 8, none⟩ = some (.string y.p.key) := hr9 0 _ rfl; go_simp⟩) hHeld ?_
              try dsimp only
              try simp only [Act.put, List.getElem_toArray, List.getElem_cons_zero, List.getElem_cons_succ, List.setIfInBounds_toArray, List.set_cons_zero, List.set_cons_succ]
              refine wpAnyH_take (i := 5) (v := .slice (some ⟨ga, off, none⟩) n c) rfl (by kernel_rfl) (by kernel_rfl) (by kernel_rfl) (fun _ _ _ h => h) (Or.inl ⟨by rfl, fun _ _ => rfl⟩) hHeld ?_
              try dsimp only
              try simp only [Act.put, List.getElem_toArray, List.getElem_cons_zero, List.getElem_cons_succ, List.setIfInBounds_toArray, List.set_cons_zero, List.set_cons_succ]
              refine wpAnyH_take (i := 6) (v := .int .i64 (i : Int)) rfl (by kernel_rfl) (by kernel_rfl) (by kernel_rfl) (fun _ _ _ h => h) (Or.inl ⟨by rfl, fun _ _ => rfl⟩) hHeld ?_
              try dsimp only
              try simp only [Act.put, List.getElem_toArray, List.getElem_cons_zero, List.getElem_cons_succ, List.setIfInBounds_toArray, List.set_cons_zero, List.set_cons_succ]
              refine wpAnyH_take (i := 7) (v := .pointer (some ⟨ga, off + i * 10, none⟩)) rfl (by kernel_rfl) (by kernel_rfl) (by kernel_rfl) (fun _ _ _ h => h) (Or.inl ⟨by rfl, fun w _ => by go_simp⟩) hHeld ?_
              try dsimp only
              try simp only [Act.put, List.getElem_toArray, List.getElem_cons_zero, List.getElem_cons_succ, List.setIfInBounds_toArray, List.set_cons_zero, List.set_cons_succ]
              refine wpAnyH_take (i := 8) (v := .pointer (some ⟨ga, off + i * 10 + 2, none⟩)) rfl (by kernel_rfl) (by kernel_rfl) (by kernel_rfl) (fun _ _ _ h => h) (Or.inl ⟨by rfl, fun w _ => by go_simp⟩) hHeld ?_
              try dsimp only
              try simp only [Act.put, List.getElem_toArray, List.getElem_cons_zero, List.getElem_cons_succ, List.setIfInBounds_toArray, List.set_cons_zero, List.set_cons_succ]
              refine wpAnyH_take (i := 9) (v := .pointer (some ⟨ga, off + i * 10 + 2, none⟩)) rfl (by kernel_rfl) (by kernel_rfl) (by kernel_rfl) (fun _ _ _ h => h) (Or.inl ⟨by rfl, fun w _ => by go_simp⟩) hHeld ?_
              try dsimp only
              try simp only [Act.put, List.getElem_toArray, List.getElem_cons_zero, List.getElem_cons_succ, List.setIfInBounds_toArray, List.set_cons_zero, List.set_cons_succ]
              refine wpAnyH_take (i := 10) (v := .string cc.p.key) rfl (by kernel_rfl) (by kernel_rfl) (by kernel_rfl) (fun _ _ _ h => h) (Or.inl ⟨by rfl, fun w hw => by have hr9 : w.rangeAt ga (off + i * 10) [.bool cc.put, .int .u64 (cc.rev : Int), .string cc.p.key, .int .i64 cc.p.s, .int .i64 cc.p.e, .int .u64 (cc.t.c : Int), .float .f64 cc.t.s, .bool cc.t.o, .float .f64 cc.t.lo, .float .f64 cc.t.hi] := (rangeKeep HX.out HGA.out hw); have hc : w.cell? ⟨ga, off + i * 10 + 2, none⟩ = some (.string cc.p.key) := hr9 2 _ rfl; go_simp⟩) hHeld ?_
              try dsimp only
              try simp only [Act.put, List.getElem_toArray, List.getElem_cons_zero, List.getElem_cons_succ, List.setIfInBounds_toArray, List.set_cons_zero, List.set_cons_succ]
              refine wpAnyH_take (i := 11) (v := .bool true) rfl (by kernel_rfl) (by kernel_rfl) (by kernel_rfl) (fun _ _ _ h => h) (Or.inl ⟨by rfl, fun w _ => by go_simp⟩) hHeld ?_
              try dsimp only
              try simp only [Act.put, List.getElem_toArray, List.getElem_cons_zero, List.getElem_cons_succ, List.setIfInBounds_toArray, List.set_cons_zero, List.set_cons_succ]
              refine wpAnyH_take (i := 12) (v := .bool true) rfl (by kernel_rfl) (by kernel_rfl) (by kernel_rfl) (fun _ _ _ h => h) (Or.inl ⟨by rfl, fun _ _ => rfl⟩) hHeld ?_
              try dsimp only
              try simp only [Act.put, List.getElem_toArray, List.getElem_cons_zero, List.getElem_cons_succ, List.setIfInBounds_toArray, List.set_cons_zero, List.set_cons_succ]
              refine wpAnyH_take (i := 13) (v := .slice (some ⟨gb, 0, none⟩) os.length cap) rfl (by kernel_rfl) (by kernel_rfl) (by kernel_rfl) (fun _ _ _ h => h) (Or.inl ⟨by rfl, fun _ _ => rfl⟩) hHeld ?_
              try dsimp only
              try simp only [Act.put, List.getElem_toArray, List.getElem_cons_zero, List.getElem_cons_succ, List.setIfInBounds_toArray, List.set_cons_zero, List.set_cons_succ]
              refine wpAnyH_take (i := 14) (v := .int .i64 (k : Int)) rfl (by kernel_rfl) (by kernel_rfl) (by kernel_rfl) (fun _ _ _ h => h) (Or.inl ⟨by rfl, fun _ _ => rfl⟩) hHeld ?_
              try dsimp only
              try simp only [Act.put, List.getElem_toArray, List.getElem_cons_zero, List.getElem_cons_succ, List.setIfInBounds_toArray, List.set_cons_zero, List.set_cons_succ]
              refine wpAnyH_take (i := 15) (v := .pointer (some ⟨gb, k * 8, none⟩)) rfl (by kernel_rfl) (by kernel_rfl) (by kernel_rfl) (fun _ _ _ h => h) (Or.inl ⟨by rfl, fun w _ => by go_simp⟩) hHeld ?_
              try dsimp only
              try simp only [Act.put, List.getElem_toArray, List.getElem_cons_zero, List.getElem_cons_succ, List.setIfInBounds_toArray, List.set_cons_zero, List.set_cons_succ]
              refine wpAnyH_take (i := 16) (v := .pointer (some ⟨gb, k * 8 + 1, none⟩)) rfl (by kernel_rfl) (by kernel_rfl) (by kernel_rfl) (fun _ _ _ h => h) (Or.inl ⟨by rfl, fun w _ => by go_simp⟩) hHeld ?_
              try dsimp only
              try simp only [Act.put, List.getElem_toArray, List.getElem_cons_zero, List.getElem_cons_succ, List.setIfInBounds_toArray, List.set_cons_zero, List.set_cons_succ]
              refine wpAnyH_take (i := 17) (v := .agg [.int .i64 y.p.s, .int .i64 y.p.e].toArray) rfl (by kernel_rfl) (by kernel_rfl) (by kernel_rfl) (fun _ _ _ h => h) (yieldsIf_load_mid rfl 31 (.tmp 42) rfl gb (k * 8 + 1) rfl [.int .i64 y.p.s, .int .i64 y.p.e] _ (fun w hw => rsub (cs := [.string y.p.key, .int .i64 y.p.s, .int .i64 y.p.e, .int .u64 (y.t.c : Int), .float .f64 y.t.s, .bool y.t.o, .float .f64 y.t.lo, .float .f64 y.t.hi]) (rangeKeep HY.out HGB.out hw) 1 2 _ rfl _ rfl) uWin rfl iWin) hHeld ?_
              try dsimp only
              try simp only [Act.put, List.getElem_toArray, List.getElem_cons_zero, List.getElem_cons_succ, List.setIfInBounds_toArray, List.set_cons_zero, List.set_cons_succ]
              refine wpAnyH_take (i := 18) (v := .slice (some ⟨ga, off, none⟩) n c) rfl (by kernel_rfl) (by kernel_rfl) (by kernel_rfl) (fun _ _ _ h => h) (Or.inl ⟨by rfl, fun _ _ => rfl⟩) hHeld ?_
              try dsimp only
              try simp only [Act.put, List.getElem_toArray, List.getElem_cons_zero, List.getElem_cons_succ, List.setIfInBounds_toArray, List.set_cons_zero, List.set_cons_succ]
              refine wpAnyH_take (i := 19) (v := .int .i64 (i : Int)) rfl (by kernel_rfl) (by kernel_rfl) (by kernel_rfl) (fun _ _ _ h => h) (Or.inl ⟨by rfl, fun _ _ => rfl⟩) hHeld ?_
              try dsimp only
              try simp only [Act.put, List.getElem_toArray, List.getElem_cons_zero, List.getElem_cons_succ, List.setIfInBounds_toArray, List.set_cons_zero, List.set_cons_succ]
              refine wpAnyH_take (i := 20) (v := .pointer (some ⟨ga, off + i * 10, none⟩)) rfl (by kernel_rfl) (by kernel_rfl) (by kernel_rfl) (fun _ _ _ h => h) (Or.inl ⟨by rfl, fun w _ => by go_simp⟩) hHeld ?_
              try dsimp only
              try simp only [Act.put, List.getElem_toArray, List.getElem_cons_zero, List.getElem_cons_succ, List.setIfInBounds_toArray, List.set_cons_zero, List.set_cons_succ]
              refine wpAnyH_take (i := 21) (v := .pointer (some ⟨ga, off + i * 10 + 2, none⟩)) rfl (by kernel_rfl) (by kernel_rfl) (by kernel_rfl) (fun _ _ _ h => h) (Or.inl ⟨by rfl, fun w _ => by go_simp⟩) hHeld ?_
              try dsimp only
              try simp only [Act.put, List.getElem_toArray, List.getElem_cons_zero, List.getElem_cons_succ, List.setIfInBounds_toArray, List.set_cons_zero, List.set_cons_succ]
              refine wpAnyH_take (i := 22) (v := .pointer (some ⟨ga, off + i * 10 + 3, none⟩)) rfl (by kernel_rfl) (by kernel_rfl) (by kernel_rfl) (fun _ _ _ h => h) (Or.inl ⟨by rfl, fun w _ => by go_simp⟩) hHeld ?_
              try dsimp only
              try simp only [Act.put, List.getElem_toArray, List.getElem_cons_zero, List.getElem_cons_succ, List.setIfInBounds_toArray, List.set_cons_zero, List.set_cons_succ]
              refine wpAnyH_take (i := 23) (v := .agg [.int .i64 cc.p.s, .int .i64 cc.p.e].toArray) rfl (by kernel_rfl) (by kernel_rfl) (by kernel_rfl) (fun _ _ _ h => h) (yieldsIf_load_mid rfl 31 (.tmp 48) rfl ga (off + i * 10 + 3) rfl [.int .i64 cc.p.s, .int .i64 cc.p.e] _ (fun w hw => rsub (cs := [.bool cc.put, .int .u64 (cc.rev : Int), .string cc.p.key, .int .i64 cc.p.s, .int .i64 cc.p.e, .int .u64 (cc.t.c : Int), .float .f64 cc.t.s, .bool cc.t.o, .float .f64 cc.t.lo, .float .f64 cc.t.hi]) (rangeKeep HX.out HGA.out hw) 3 2 _ rfl _ rfl) uWin rfl iWin) hHeld ?_
              try dsimp only
              try simp only [Act.put, List.getElem_toArray, List.getElem_cons_zero, List.getElem_cons_succ, List.setIfInBounds_toArray, List.set_cons_zero, List.set_cons_succ]
              refine wpAnyH_take (i := 24) (v := .bool false) rfl (by kernel_rfl) (by kernel_rfl) (by kernel_rfl) (fun _ _ _ h => h) (Or.inl ⟨by rfl, fun w _ => by go_simp⟩) hHeld ?_
              try dsimp only
              try simp only [Act.put, List.getElem_toArray, List.getElem_cons_zero, List.getElem_cons_succ, List.setIfInBounds_toArray, List.set_cons_zero, List.set_cons_succ]
              refine wpAnyH_take (i := 25) (v := .bool false) rfl (by kernel_rfl) (by kernel_rfl) (by kernel_rfl) (fun _ _ _ h => h) (Or.inl ⟨by rfl, fun w _ => by go_simp⟩) hHeld ?_
              try dsimp only
              try simp only [Act.put, List.getElem_toArray, List.getElem_cons_zero, List.getElem_cons_succ, List.setIfInBounds_toArray, List.set_cons_zero, List.set_cons_succ]
              refine wpAnyH_done (by kernel_rfl) ?_ _
              clear hwq hb
              obtain ⟨wk2, hwk2⟩ : ∃ wk2, wk2 = World.drew wk := ⟨_, rfl⟩
              rw [← hwk2] at hHeld ⊢
              replace HY : Hid (wk2.rangeAt gb (k * 8) y.cells) := Lib.hid (rangeKeep HY.out HGB.out hHeld)
              replace HX : Hid (wk2.rangeAt ga (off + i * 10) cc.cells) := Lib.hid (rangeKeep HX.out HGA.out hHeld)
              replace HGB : Hid (gb < wk2.heap.size) := Lib.hid (Nat.lt_of_lt_of_le HGB.out hHeld.size)
              replace HGA : Hid (ga < wk2.heap.size) := Lib.hid (Nat.lt_of_lt_of_le HGA.out hHeld.size)
              replace HNW : Hid (OwnPw wk2 w0.heap.size B M cap2 nx) := Lib.hid (HNW.out.below hHeld (fun g' off' e => (HNW.out.lt g' off' e).1))
              replace HBK : Hid (Below w0.heap.size w0 wk2) := Lib.hid (bto HBK.out hHeld)
              clear hHeld hwk2
              clear wk
              obtain ⟨wk, hwk⟩ : ∃ wk, wk = wk2 := ⟨wk2, rfl⟩
              subst hwk
              cases dn
              · rcases hpb : plB cc.p y.p with _ | _
                · have HPB := Lib.hid hpb
                  have HRS : Hid (rvS cc (nx, false) y = (nx ++ [y], false)) := Lib.hid (by unfold rvS; rw [if_neg HNP.out, if_neg (by rw [HPB.out]; simp)])
                  clear hpb
                  go_upto_region 11 with fail
                  refine wp_region_held_drew (S := fun w => Below wk.heap.size wk w) (by kernel_rfl) ((Below.refl _ wk).drew) (fun hHeld => ?_)
                  refine wpAnyH_take (i := 0) (v := .bool false) rfl (by kernel_rfl) (by kernel_rfl) (by kernel_rfl) (fun _ _ _ h => h) (Or.inl ⟨by rfl, fun _ _ => rfl⟩) hHeld ?_
                  try dsimp only
                  try simp only [Act.put, List.getElem_toArray, List.getElem_cons_zero, List.getElem_cons_succ, List.setIfInBounds_toArray, List.set_cons_zero, List.set_cons_succ]
                  refine wpAnyH_take (i := 1) (v := .bool true) rfl (by kernel_rfl) (by kernel_rfl) (by kernel_rfl) (fun _ _ _ h => h) (Or.inl ⟨by rfl, fun w _ => by go_simp⟩) hHeld ?_
                  try dsimp only
                  try simp only [Act.put, List.getElem_toArray, List.getElem_cons_zero, List.getElem_cons_succ, List.setIfInBounds_toArray, List.set_cons_zero, List.set_cons_succ]
                  refine wpAnyH_take (i := 2) (v := .bool true) rfl (by kernel_rfl) (by kernel_rfl) (by kernel_rfl) (fun _ _ _ h => h) (Or.inl ⟨by rfl, fun _ _ => rfl⟩) hHeld ?_
                  try dsimp only
                  try simp only [Act.put, List.getElem_toArray, List.getElem_cons_zero, List.getElem_cons_succ, List.setIfInBounds_toArray, List.set_cons_zero, List.set_cons_succ]
                  refine wpAnyH_take (i := 3) (v := .slice (some ⟨ga, off, none⟩) n c) rfl (by kernel_rfl) (by kernel_rfl) (by kernel_rfl) (fun _ _ _ h => h) (Or.inl ⟨by rfl, fun _ _ => rfl⟩) hHeld ?_
                  try dsimp only
                  try simp only [Act.put, List.getElem_toArray, List.getElem_cons_zero, List.getElem_cons_succ, List.setIfInBounds_toArray, List.set_cons_zero, List.set_cons_succ]
                  refine wpAnyH_take (i := 4) (v := .int .i64 (i : Int)) rfl (by kernel_rfl) (by kernel_rfl) (by kernel_rfl) (fun _ _ _ h => h) (Or.inl ⟨by rfl, fun _ _ => rfl⟩) hHeld ?_
                  try dsimp only
                  try simp only [Act.put, List.getElem_toArray, List.getElem_cons_zero, List.getElem_cons_succ, List.setIfInBounds_toArray, List.set_cons_zero, List.set_cons_succ]
                  refine wpAnyH_take (i := 5) (v := .pointer (some ⟨ga, off + i * 10, none⟩)) rfl (by kernel_rfl) (by kernel_rfl) (by kernel_rfl) (fun _ _ _ h => h) (Or.inl ⟨by rfl, fun w _ => by go_simp⟩) hHeld ?_
                  try dsimp only
                  try simp only [Act.put, List.getElem_toArray, List.getElem_cons_zero, List.getElem_cons_succ, List.setIfInBounds_toArray, List.set_cons_zero, List.set_cons_succ]
                  refine wpAnyH_take (i := 6) (v := .pointer (some ⟨ga, off + i * 10 + 2, none⟩)) rfl (by kernel_rfl) (by kernel_rfl) (by kernel_rfl) (fun _ _ _ h => h) (Or.inl ⟨by rfl, fun w _ => by go_simp⟩) hHeld ?_
                  try dsimp only
                  try simp only [Act.put, List.getElem_toArray, List.getElem_cons_zero, List.getElem_cons_succ, List.setIfInBounds_toArray, List.set_cons_zero, List.set_cons_succ]
                  refine wpAnyH_take (i := 7) (v := .pointer (some ⟨ga, off + i * 10 + 2, none⟩)) rfl (by kernel_rfl) (by kernel_rfl) (by kernel_rfl) (fun _ _ _ h => h) (Or.inl ⟨by rfl, fun w _ => by go_simp⟩) hHeld ?_
                  try dsimp only
                  try simp only [Act.put, List.getElem_toArray, List.getElem_cons_zero, List.getElem_cons_succ, List.setIfInBounds_toArray, List.set_cons_zero, List.set_cons_succ]
                  refine wpAnyH_take (i := 8) (v := .string cc.p.key) rfl (by kernel_rfl) (by kernel_rfl) (by kernel_rfl) (fun _ _ _ h => h) (Or.inl ⟨by rfl, fun w hw => by have hr9 : w.rangeAt ga (off + i * 10) [.bool cc.put, .int .u64 (cc.rev : Int), .string cc.p.key, .int .i64 cc.p.s, .int .i64 cc.p.e, .int .u64 (cc.t.c : Int), .float .f64 cc.t.s, .bool cc.t.o, .float .f64 cc.t.lo, .float .f64 cc.t.hi] := (rangeKeep HX.out HGA.out hw); have hc : w.cell? ⟨ga, off + i * 10 + 2, none⟩ = some (.string cc.p.key) := hr9 2 _ rfl; go_simp⟩) hHeld ?_
                  try dsimp only
                  try simp only [Act.put, List.getElem_toArray, List.getElem_cons_zero, List.getElem_cons_succ, List.setIfInBounds_toArray, List.set_cons_zero, List.set_cons_succ]
                  refine wpAnyH_take (i := 9) (v := .slice (some ⟨ga, off, none⟩) n c) rfl (by kernel_rfl) (by kernel_rfl) (by kernel_rfl) (fun _ _ _ h => h) (Or.inl ⟨by rfl, fun _ _ => rfl⟩) hHeld ?_
                  try dsimp only
                  try simp only [Act.put, List.getElem_toArray, List.getElem_cons_zero, List.getElem_cons_succ, List.setIfInBounds_toArray, List.set_cons_zero, List.set_cons_succ]
                  refine wpAnyH_take (i := 10) (v := .int .i64 (i : Int)) rfl (by kernel_rfl) (by kernel_rfl) (by kernel_rfl) (fun _ _ _ h => h) (Or.inl ⟨by rfl, fun _ _ => rfl⟩) hHeld ?_
                  try dsimp only
                  try simp only [Act.put, List.getElem_toArray, List.getElem_cons_zero, List.getElem_cons_succ, List.setIfInBounds_toArray, List.set_cons_zero, List.set_cons_succ]
                  refine wpAnyH_take (i := 11) (v := .pointer (some ⟨ga, off + i * 10, none⟩)) rfl (by kernel_rfl) (by kernel_rfl) (by kernel_rfl) (fun _ _ _ h => h) (Or.inl ⟨by rfl, fun w _ => by go_simp⟩) hHeld ?_
                  try dsimp only
                  try simp only [Act.put, List.getElem_toArray, List.getElem_cons_zero, List.getElem_cons_succ, List.setIfInBounds_toArray, List.set_cons_zero, List.set_cons_succ]
                  refine wpAnyH_take (i := 12) (v := .pointer (some ⟨ga, off + i * 10 + 2, none⟩)) rfl (by kernel_rfl) (by kernel_rfl) (by kernel_rfl) (fun _ _ _ h => h) (Or.inl ⟨by rfl, fun w _ => by go_simp⟩) hHeld ?_
                  try dsimp only
                  try simp only [Act.put, List.getElem_toArray, List.getElem_cons_zero, List.getElem_cons_succ, List.setIfInBounds_toArray, List.set_cons_zero, List.set_cons_succ]
                  refine wpAnyH_take (i := 13) (v := .pointer (some ⟨ga, off + i * 10 + 3, none⟩)) rfl (by kernel_rfl) (by kernel_rfl) (by kernel_rfl) (fun _ _ _ h => h) (Or.inl ⟨by rfl, fun w _ => by go_simp⟩) hHeld ?_
                  try dsimp only
                  try simp only [Act.put, List.getElem_toArray, List.getElem_cons_zero, List.getElem_cons_succ, List.setIfInBounds_toArray, List.set_cons_zero, List.set_cons_succ]
                  refine wpAnyH_take (i := 14) (v := .agg [.int .i64 cc.p.s, .int .i64 cc.p.e].toArray) rfl (by kernel_rfl) (by kernel_rfl) (by kernel_rfl) (fun _ _ _ h => h) (yieldsIf_load_mid rfl 31 (.tmp 65) rfl ga (off + i * 10 + 3) rfl [.int .i64 cc.p.s, .int .i64 cc.p.e] _ (fun w hw => rsub (cs := [.bool cc.put, .int .u64 (cc.rev : Int), .string cc.p.key, .int .i64 cc.p.s, .int .i64 cc.p.e, .int .u64 (cc.t.c : Int), .float .f64 cc.t.s, .bool cc.t.o, .float .f64 cc.t.lo, .float .f64 cc.t.hi]) (rangeKeep HX.out HGA.out hw) 3 2 _ rfl _ rfl) uWin rfl iWin) hHeld ?_
                  try dsimp only
                  try simp only [Act.put, List.getElem_toArray, List.getElem_cons_zero, List.getElem_cons_succ, List.setIfInBounds_toArray, List.set_cons_zero, List.set_cons_succ]
                  refine wpAnyH_take (i := 15) (v := .slice (some ⟨gb, 0, none⟩) os.length cap) rfl (by kernel_rfl) (by kernel_rfl) (by kernel_rfl) (fun _ _ _ h => h) (Or.inl ⟨by rfl, fun _ _ => rfl⟩) hHeld ?_
                  try dsimp only
                  try simp only [Act.put, List.getElem_toArray, List.getElem_cons_zero, List.getElem_cons_succ, List.setIfInBounds_toArray, List.set_cons_zero, List.set_cons_succ]
                  refine wpAnyH_take (i := 16) (v := .int .i64 (k : Int)) rfl (by kernel_rfl) (by kernel_rfl) (by kernel_rfl) (fun _ _ _ h => h) (Or.inl ⟨by rfl, fun _ _ => rfl⟩) hHeld ?_
                  try dsimp only
                  try simp only [Act.put, List.getElem_toArray, List.getElem_cons_zero, List.getElem_cons_succ, List.setIfInBounds_toArray, List.set_cons_zero, List.set_cons_succ]
                  refine wpAnyH_take (i := 17) (v := .pointer (some ⟨gb, k * 8, none⟩)) rfl (by kernel_rfl) (by kernel_rfl) (by kernel_rfl) (fun _ _ _ h => h) (Or.inl ⟨by rfl, fun w _ => by go_simp⟩) hHeld ?_
                  try dsimp only
                  try simp only [Act.put, List.getElem_toArray, List.getElem_cons_zero, List.getElem_cons_succ, List.setIfInBounds_toArray, List.set_cons_zero, List.set_cons_succ]
                  refine wpAnyH_take (i := 18) (v := .pointer (some ⟨gb, k * 8, none⟩)) rfl (by kernel_rfl) (by kernel_rfl) (by kernel_rfl) (fun _ _ _ h => h) (Or.inl ⟨by rfl, fun w _ => by go_simp⟩) hHeld ?_
                  try dsimp only
                  try simp only [Act.put, List.getElem_toArray, List.getElem_cons_zero, List.getElem_cons_succ, List.setIfInBounds_toArray, List.set_cons_zero, List.set_cons_succ]
                  refine wpAnyH_take (i := 19) (v := .string y.p.key) rfl (by kernel_rfl) (by kernel_rfl) (by kernel_rfl) (fun _ _ _ h => h) (Or.inl ⟨by rfl, fun w hw => by have hr9 : w.rangeAt gb (k * 8) [.string y.p.key, .int .i64 y.p.s, .int .i64 y.p.e, .int .u64 (y.t.c : Int), .float .f64 y.t.s, .bool y.t.o, .float .f64 y.t.lo, .float .f64 y.t.hi] := (rangeKeep HY.out HGB.out hw); have hc : w.cell? ⟨gb, k * 8, none⟩ = some (.string y.p.key) := hr9 0 _ rfl; go_simp⟩) hHeld ?_
                  try dsimp only
                  try simp only [Act.put, List.getElem_toArray, List.getElem_cons_zero, List.getElem_cons_succ, List.setIfInBounds_toArray, List.set_cons_zero, List.set_cons_succ]
                  refine wpAnyH_take (i := 20) (v := .slice (some ⟨gb, 0, none⟩) os.length cap) rfl (by kernel_rfl) (by kernel_rfl) (by kernel_rfl) (fun _ _ _ h => h) (Or.inl ⟨by rfl, fun _ _ => rfl⟩) hHeld ?_
                  try dsimp only
                  try simp only [Act.put, List.getElem_toArray, List.getElem_cons_zero, List.getElem_cons_succ, List.setIfInBounds_toArray, List.set_cons_zero, List.set_cons_succ]
                  refine wpAnyH_take (i := 21) (v := .int .i64 (k : Int)) rfl (by kernel_rfl) (by kernel_rfl) (by kernel_rfl) (fun _ _ _ h => h) (Or.inl ⟨by rfl, fun _ _ => rfl⟩) hHeld ?_
                  try dsimp only
                  try simp only [Act.put, List.getElem_toArray, List.getElem_cons_zero, List.getElem_cons_succ, List.setIfInBounds_toArray, List.set_cons_zero, List.set_cons_succ]
                  refine wpAnyH_take (i := 22) (v := .pointer (some ⟨gb, k * 8, none⟩)) rfl (by kernel_rfl) (by kernel_rfl) (by kernel_rfl) (fun _ _ _ h => h) (Or.inl ⟨by rfl, fun w _ => by go_simp⟩) hHeld ?_
                  try dsimp only
                  try simp only [Act.put, List.getElem_toArray, List.getElem_cons_zero, List.getElem_cons_succ, List.setIfInBounds_toArray, List.set_cons_zero, List.set_cons_succ]
                  refine wpAnyH_take (i := 23) (v := .pointer (some ⟨gb, k * 8 + 1, none⟩)) rfl (by kernel_rfl) (by kernel_rfl) (by kernel_rfl) (fun _ _ _ h => h) (Or.inl ⟨by rfl, fun w _ => by go_simp⟩) hHeld ?_
                  try dsimp only
                  try simp only [Act.put, List.getElem_toArray, List.getElem_cons_zero, List.getElem_cons_succ, List.setIfInBounds_toArray, List.set_cons_zero, List.set_cons_succ]
                  refine wpAnyH_take (i := 24) (v := .agg [.int .i64 y.p.s, .int .i64 y.p.e].toArray) rfl (by kernel_rfl) (by kernel_rfl) (by kernel_rfl) (fun _ _ _ h => h) (yieldsIf_load_mid rfl 31 (.tmp 75) rfl gb (k * 8 + 1) rfl [.int .i64 y.p.s, .int .i64 y.p.e] _ (fun w hw => rsub (cs := [.string y.p.key, .int .i64 y.p.s, .int .i64 y.p.e, .int .u64 (y.t.c : Int), .float .f64 y.t.s, .bool y.t.o, .float .f64 y.t.lo, .float .f64 y.t.hi]) (rangeKeep HY.out HGB.out hw) 1 2 _ rfl _ rfl) uWin rfl iWin) hHeld ?_
                  try dsimp only
                  try simp only [Act.put, List.getElem_toArray, List.getElem_cons_zero, List.getElem_cons_succ, List.setIfInBounds_toArray, List.set_cons_zero, List.set_cons_succ]
                  refine wpAnyH_ready (rs := [25]) (by kernel_rfl) (by simp) (AllReadyH.cons rfl (fun K hK => ?_) AllReadyH.nil)
                  go_simp
                  refine (before13_any cc.p y.p _).mono ?_
                  rintro e w2 ⟨rfl, hb2⟩
                  rw [HPB.out]
                  replace hHeld := bto hHeld hb2
                  clear hb2
                  refine hK.out _ _ hHeld (fun hHeld => ?_)
                  clear hK K
                  try dsimp only
                  try simp only [Act.put, List.getElem_toArray, List.getElem_cons_zero, List.getElem_cons_succ, List.setIfInBounds_toArray, List.set_cons_zero, List.set_cons_succ]
                  refine wpAnyH_ready (rs := [26]) (by kernel_rfl) (by simp) (AllReadyH.cons rfl (fun K hK => ?_) AllReadyH.nil)
                  go_simp
                  refine hK.out _ _ hHeld (fun hHeld => ?_)
                  clear hK K
                  try dsimp only
                  try simp only [Act.put, List.getElem_toArray, List.getElem_cons_zero, List.getElem_cons_succ, List.setIfInBounds_toArray, List.set_cons_zero, List.set_cons_succ]
                  refine wpAnyH_done (by kernel_rfl) ?_ _
                  have HBE := Lib.hid hHeld
                  clear hHeld
                  obtain ⟨wz, hwz⟩ : ∃ wz, wz = w2 := ⟨_, rfl⟩
                  rw [← hwz]
                  rw [← hwz] at HBE
                  clear hwz
                  have HBZ : Hid (Below w0.heap.size w0 wz) := Lib.hid (bto HBK.out HBE.out)
                  have HNZ : Hid (OwnPw wz w0.heap.size B M cap2 nx) := Lib.hid (HNW.out.below HBE.out (fun g' off' e => (HNW.out.lt g' off' e).1))
                  have HYZ : Hid (wz.rangeAt gb (k * 8) [.string y.p.key, .int .i64 y.p.s, .int .i64 y.p.e, .int .u64 (y.t.c : Int), .float .f64 y.t.s, .bool y.t.o, .float .f64 y.t.lo, .float .f64 y.t.hi]) := Lib.hid (rangeKeep HY.out HGB.out HBE.out)
                  have HCZ : Hid (wz.rangeAt ga (off + i * 10 + 2) [.string cc.p.key, .int .i64 cc.p.s, .int .i64 cc.p.e, .int .u64 (cc.t.c : Int), .float .f64 cc.t.s, .bool cc.t.o, .float .f64 cc.t.lo, .float .f64 cc.t.hi]) := Lib.hid (rsub (rangeKeep HX.out HGA.out HBE.out) 2 8 _ rfl _ rfl)
                  go_wp2_with (first
                    | (refine wpList_load_mid rfl 36 (.tmp 90) rfl gb (k * 8) rfl [.string y.p.key, .int .i64 y.p.s, .int .i64 y.p.e, .int .u64 (y.t.c : Int), .float .f64 y.t.s, .bool y.t.o, .float .f64 y.t.lo, .float .f64 y.t.hi] _ HYZ.out uPw rfl iPw ?_)
                    | (at_builtin; refine wpList_append_pw rfl (.tmp 87) (.tmp 92) rfl w0.heap.size B M cap2 nx rfl (HNZ.out.below ((Below.refl _ _).alloc (Nat.le_refl _) _) (fun g' off' e => (HNZ.out.lt g' off' e).1)) (some ⟨wz.heap.size, 0, none⟩) 1 1 [y] rfl rfl (pwAt_new' wz _ [y] _ rfl _ rfl) (fun h => by cases h) (M + 1) rfl (by have := HMB.out; omega) (HBZ.out.alloc HBZ.out.size _).size ?_; intro A4 c4 w4 ho4 hc4 hm4 hn4 hb4 hg4 ha4; have HO4 := Lib.hid ho4; have HB4 := Lib.hid ((HBZ.out.alloc HBZ.out.size _).trans hb4); have HC4 := Lib.hid (And.intro hc4 (And.intro hm4 hn4)); clear ho4 hc4 hm4 hn4 hb4 hg4 ha4))
                  go_roundw
                  case rel => exact ⟨k + 1, A4, M + 1, c4, nx ++ [y], false, HKL.out, by go_num, rfl, by rw [HST.out]; exact HRS.out, by rw [List.length_append, ← HM.out]; rfl, rfl, HO4.out, HB4.out⟩
                  case measure => (have := HKL.out; simp [intOf]; omega)
                · have HPB := Lib.hid hpb
                  have HRS : Hid (rvS cc (nx, false) y = ((nx ++ [cc.pw]) ++ [y], true)) := Lib.hid (by unfold rvS; rw [if_neg HNP.out, if_pos (by rw [HPB.out]; rfl)])
                  clear hpb
                  go_upto_region 11 with fail
                  refine wp_region_held_drew (S := fun w => Below wk.heap.size wk w) (by kernel_rfl) ((Below.refl _ wk).drew) (fun hHeld => ?_)
                  refine wpAnyH_take (i := 0) (v := .bool false) rfl (by kernel_rfl) (by kernel_rfl) (by kernel_rfl) (fun _ _ _ h => h) (Or.inl ⟨by rfl, fun _ _ => rfl⟩) hHeld ?_
                  try dsimp only
                  try simp only [Act.put, List.getElem_toArray, List.getElem_cons_zero, List.getElem_cons_succ, List.setIfInBounds_toArray, List.set_cons_zero, List.set_cons_succ]
                  refine wpAnyH_take (i := 1) (v := .bool true) rfl (by kernel_rfl) (by kernel_rfl) (by kernel_rfl) (fun _ _ _ h => h) (Or.inl ⟨by rfl, fun w _ => by go_simp⟩) hHeld ?_
                  try dsimp only
                  try simp only [Act.put, List.getElem_toArray, List.getElem_cons_zero, List.getElem_cons_succ, List.setIfInBounds_toArray, List.set_cons_zero, List.set_cons_succ]
                  refine wpAnyH_take (i := 2) (v := .bool true) rfl (by kernel_rfl) (by kernel_rfl) (by kernel_rfl) (fun _ _ _ h => h) (Or.inl ⟨by rfl, fun _ _ => rfl⟩) hHeld ?_
                  try dsimp only
                  try simp only [Act.put, List.getElem_toArray, List.getElem_cons_zero, List.getElem_cons_succ, List.setIfInBounds_toArray, List.set_cons_zero, List.set_cons_succ]
                  refine wpAnyH_take (i := 3) (v := .slice (some ⟨ga, off, none⟩) n c) rfl (by kernel_rfl) (by kernel_rfl) (by kernel_rfl) (fun _ _ _ h => h) (Or.inl ⟨by rfl, fun _ _ => rfl⟩) hHeld ?_
                  try dsimp only
                  try simp only [Act.put, List.getElem_toArray, List.getElem_cons_zero, List.getElem_cons_succ, List.setIfInBounds_toArray, List.set_cons_zero, List.set_cons_succ]
                  refine wpAnyH_take (i := 4) (v := .int .i64 (i : Int)) rfl (by kernel_rfl) (by kernel_rfl) (by kernel_rfl) (fun _ _ _ h => h) (Or.inl ⟨by rfl, fun _ _ => rfl⟩) hHeld ?_
                  try dsimp only
                  try simp only [Act.put, List.getElem_toArray, List.getElem_cons_zero, List.getElem_cons_succ, List.setIfInBounds_toArray, List.set_cons_zero, List.set_cons_succ]
                  refine wpAnyH_take (i := 5) (v := .pointer (some ⟨ga, off + i * 10, none⟩)) rfl (by kernel_rfl) (by kernel_rfl) (by kernel_rfl) (fun _ _ _ h => h) (Or.inl ⟨by rfl, fun w _ => by go_simp⟩) hHeld ?_
                  try dsimp only
                  try simp only [Act.put, List.getElem_toArray, List.getElem_cons_zero, List.getElem_cons_succ, List.setIfInBounds_toArray, List.set_cons_zero, List.set_cons_succ]
                  refine wpAnyH_take (i := 6) (v := .pointer (some ⟨ga, off + i * 10 + 2, none⟩)) rfl (by kernel_rfl) (by kernel_rfl) (by kernel_rfl) (fun _ _ _ h => h) (Or.inl ⟨by rfl, fun w _ => by go_simp⟩) hHeld ?_
                  try dsimp only
                  try simp only [Act.put, List.getElem_toArray, List.getElem_cons_zero, List.getElem_cons_succ, List.setIfInBounds_toArray, List.set_cons_zero, List.set_cons_succ]
                  refine wpAnyH_take (i := 7) (v := .pointer (some ⟨ga, off + i * 10 + 2, none⟩)) rfl (by kernel_rfl) (by kernel_rfl) (by kernel_rfl) (fun _ _ _ h => h) (Or.inl ⟨by rfl, fun w _ => by go_simp⟩) hHeld ?_
                  try dsimp only
                  try simp only [Act.put, List.getElem_toArray, List.getElem_cons_zero, List.getElem_cons_succ, List.setIfInBounds_toArray, List.set_cons_zero, List.set_cons_succ]
                  refine wpAnyH_take (i := 8) (v := .string cc.p.key) rfl (by kernel_rfl) (by kernel_rfl) (by kernel_rfl) (fun _ _ _ h => h) (Or.inl ⟨by rfl, fun w hw => by have hr9 : w.rangeAt ga (off + i * 10) [.bool cc.put, .int .u64 (cc.rev : Int), .string cc.p.key, .int .i64 cc.p.s, .int .i64 cc.p.e, .int .u64 (cc.t.c : Int), .float .f64 cc.t.s, .bool cc.t.o, .float .f64 cc.t.lo, .float .f64 cc.t.hi] := (rangeKeep HX.out HGA.out hw); have hc : w.cell? ⟨ga, off + i * 10 + 2, none⟩ = some (.string cc.p.key) := hr9 2 _ rfl; go_simp⟩) hHeld ?_
                  try dsimp only
                  try simp only [Act.put, List.getElem_toArray, List.getElem_cons_zero, List.getElem_cons_succ, List.setIfInBounds_toArray, List.set_cons_zero, List.set_cons_succ]
                  refine wpAnyH_take (i := 9) (v := .slice (some ⟨ga, off, none⟩) n c) rfl (by kernel_rfl) (by kernel_rfl) (by kernel_rfl) (fun _ _ _ h => h) (Or.inl ⟨by rfl, fun _ _ => rfl⟩) hHeld ?_
                  try dsimp only
                  try simp only [Act.put, List.getElem_toArray, List.getElem_cons_zero, List.getElem_cons_succ, List.setIfInBounds_toArray, List.set_cons_zero, List.set_cons_succ]
                  refine wpAnyH_take (i := 10) (v := .int .i64 (i : Int)) rfl (by kernel_rfl) (by kernel_rfl) (by kernel_rfl) (fun _ _ _ h => h) (Or.inl ⟨by rfl, fun _ _ => rfl⟩) hHeld ?_
                  try dsimp only
                  try simp only [Act.put, List.getElem_toArray, List.getElem_cons_zero, List.getElem_cons_succ, List.setIfInBounds_toArray, List.set_cons_zero, List.set_cons_succ]
                  refine wpAnyH_take (i := 11) (v := .pointer (some ⟨ga, off + i * 10, none⟩)) rfl (by kernel_rfl) (by kernel_rfl) (by kernel_rfl) (fun _ _ _ h => h) (Or.inl ⟨by rfl, fun w _ => by go_simp⟩) hHeld ?_
                  try dsimp only
                  try simp only [Act.put, List.getElem_toArray, List.getElem_cons_zero, List.getElem_cons_succ, List.setIfInBounds_toArray, List.set_cons_zero, List.set_cons_succ]
                  refine wpAnyH_take (i := 12) (v := .pointer (some ⟨ga, off + i * 10 + 2, none⟩)) rfl (by kernel_rfl) (by kernel_rfl) (by kernel_rfl) (fun _ _ _ h => h) (Or.inl ⟨by rfl, fun w _ => by go_simp⟩) hHeld ?_
                  try dsimp only
                  try simp only [Act.put, List.getElem_toArray, List.getElem_cons_zero, List.getElem_cons_succ, List.setIfInBounds_toArray, List.set_cons_zero, List.set_cons_succ]
                  refine wpAnyH_take (i := 13) (v := .pointer (some ⟨ga, off + i * 10 + 3, none⟩)) rfl (by kernel_rfl) (by kernel_rfl) (by kernel_rfl) (fun _ _ _ h => h) (Or.inl ⟨by rfl, fun w _ => by go_simp⟩) hHeld ?_
                  try dsimp only
                  try simp only [Act.put, List.getElem_toArray, List.getElem_cons_zero, List.getElem_cons_succ, List.setIfInBounds_toArray, List.set_cons_zero, List.set_cons_succ]
                  refine wpAnyH_take (i := 14) (v := .agg [.int .i64 cc.p.s, .int .i64 cc.p.e].toArray) rfl (by kernel_rfl) (by kernel_rfl) (by kernel_rfl) (fun _ _ _ h => h) (yieldsIf_load_mid rfl 31 (.tmp 65) rfl ga (off + i * 10 + 3) rfl [.int .i64 cc.p.s, .int .i64 cc.p.e] _ (fun w hw => rsub (cs := [.bool cc.put, .int .u64 (cc.rev : Int), .string cc.p.key, .int .i64 cc.p.s, .int .i64 cc.p.e, .int .u64 (cc.t.c : Int), .float .f64 cc.t.s, .bool cc.t.o, .float .f64 cc.t.lo, .float .f64 cc.t.hi]) (rangeKeep HX.out HGA.out hw) 3 2 _ rfl _ rfl) uWin rfl iWin) hHeld ?_
                  try dsimp only
                  try simp only [Act.put, List.getElem_toArray, List.getElem_cons_zero, List.getElem_cons_succ, List.setIfInBounds_toArray, List.set_cons_zero, List.set_cons_succ]
                  refine wpAnyH_take (i := 15) (v := .slice (some ⟨gb, 0, none⟩) os.length cap) rfl (by kernel_rfl) (by kernel_rfl) (by kernel_rfl) (fun _ _ _ h => h) (Or.inl ⟨by rfl, fun _ _ => rfl⟩) hHeld ?_
                  try dsimp only
                  try simp only [Act.put, List.getElem_toArray, List.getElem_cons_zero, List.getElem_cons_succ, List.setIfInBounds_toArray, List.set_cons_zero, List.set_cons_succ]
                  refine wpAnyH_take (i := 16) (v := .int .i64 (k : Int)) rfl (by kernel_rfl) (by kernel_rfl) (by kernel_rfl) (fun _ _ _ h => h) (Or.inl ⟨by rfl, fun _ _ => rfl⟩) hHeld ?_
                  try dsimp only
                  try simp only [Act.put, List.getElem_toArray, List.getElem_cons_zero, List.getElem_cons_succ, List.setIfInBounds_toArray, List.set_cons_zero, List.set_cons_succ]
                  refine wpAnyH_take (i := 17) (v := .pointer (some ⟨gb, k * 8, none⟩)) rfl (by kernel_rfl) (by kernel_rfl) (by kernel_rfl) (fun _ _ _ h => h) (Or.inl ⟨by rfl, fun w _ => by go_simp⟩) hHeld ?_
                  try dsimp only
                  try simp only [Act.put, List.getElem_toArray, List.getElem_cons_zero, List.getElem_cons_succ, List.setIfInBounds_toArray, List.set_cons_zero, List.set_cons_succ]
                  refine wpAnyH_take (i := 18) (v := .pointer (some ⟨gb, k * 8, none⟩)) rfl (by kernel_rfl) (by kernel_rfl) (by kernel_rfl) (fun _ _ _ h => h) (Or.inl ⟨by rfl, fun w _ => by go_simp⟩) hHeld ?_
                  try dsimp only
                  try simp only [Act.put, List.getElem_toArray, List.getElem_cons_zero, List.getElem_cons_succ, List.setIfInBounds_toArray, List.set_cons_zero, List.set_cons_succ]
                  refine wpAnyH_take (i := 19) (v := .string y.p.key) rfl (by kernel_rfl) (by kernel_rfl) (by kernel_rfl) (fun _ _ _ h => h) (Or.inl ⟨by rfl, fun w hw => by have hr9 : w.rangeAt gb (k * 8) [.string y.p.key, .int .i64 y.p.s, .int .i64 y.p.e, .int .u64 (y.t.c : Int), .float .f64 y.t.s, .bool y.t.o, .float .f64 y.t.lo, .float .f64 y.t.hi] := (rangeKeep HY.out HGB.out hw); have hc : w.cell? ⟨gb, k * 8, none⟩ = some (.string y.p.key) := hr9 0 _ rfl; go_simp⟩) hHeld ?_
                  try dsimp only
                  try simp only [Act.put, List.getElem_toArray, List.getElem_cons_zero, List.getElem_cons_succ, List.setIfInBounds_toArray, List.set_cons_zero, List.set_cons_succ]
                  refine wpAnyH_take (i := 20) (v := .slice (some ⟨gb, 0, none⟩) os.length cap) rfl (by kernel_rfl) (by kernel_rfl) (by kernel_rfl) (fun _ _ _ h => h) (Or.inl ⟨by rfl, fun _ _ => rfl⟩) hHeld ?_
                  try dsimp only
                  try simp only [Act.put, List.getElem_toArray, List.getElem_cons_zero, List.getElem_cons_succ, List.setIfInBounds_toArray, List.set_cons_zero, List.set_cons_succ]
                  refine wpAnyH_take (i := 21) (v := .int .i64 (k : Int)) rfl (by kernel_rfl) (by kernel_rfl) (by kernel_rfl) (fun _ _ _ h => h) (Or.inl ⟨by rfl, fun _ _ => rfl⟩) hHeld ?_
                  try dsimp only
                  try simp only [Act.put, List.getElem_toArray, List.getElem_cons_zero, List.getElem_cons_succ, List.setIfInBounds_toArray, List.set_cons_zero, List.set_cons_succ]
                  refine wpAnyH_take (i := 22) (v := .pointer (some ⟨gb, k * 8, none⟩)) rfl (by kernel_rfl) (by kernel_rfl) (by kernel_rfl) (fun _ _ _ h => h) (Or.inl ⟨by rfl, fun w _ => by go_simp⟩) hHeld ?_
                  try dsimp only
                  try simp only [Act.put, List.getElem_toArray, List.getElem_cons_zero, List.getElem_cons_succ, List.setIfInBounds_toArray, List.set_cons_zero, List.set_cons_succ]
                  refine wpAnyH_take (i := 23) (v := .pointer (some ⟨gb, k * 8 + 1, none⟩)) rfl (by kernel_rfl) (by kernel_rfl) (by kernel_rfl) (fun _ _ _ h => h) (Or.inl ⟨by rfl, fun w _ => by go_simp⟩) hHeld ?_
                  try dsimp only
                  try simp only [Act.put, List.getElem_toArray, List.getElem_cons_zero, List.getElem_cons_succ, List.setIfInBounds_toArray, List.set_cons_zero, List.set_cons_succ]
                  refine wpAnyH_take (i := 24) (v := .agg [.int .i64 y.p.s, .int .i64 y.p.e].toArray) rfl (by kernel_rfl) (by kernel_rfl) (by kernel_rfl) (fun _ _ _ h => h) (yieldsIf_load_mid rfl 31 (.tmp 75) rfl gb (k * 8 + 1) rfl [.int .i64 y.p.s, .int .i64 y.p.e] _ (fun w hw => rsub (cs := [.string y.p.key, .int .i64 y.p.s, .int .i64 y.p.e, .int .u64 (y.t.c : Int), .float .f64 y.t.s, .bool y.t.o, .float .f64 y.t.lo, .float .f64 y.t.hi]) (rangeKeep HY.out HGB.out hw) 1 2 _ rfl _ rfl) uWin rfl iWin) hHeld ?_
                  try dsimp only
                  try simp only [Act.put, List.getElem_toArray, List.getElem_cons_zero, List.getElem_cons_succ, List.setIfInBounds_toArray, List.set_cons_zero, List.set_cons_succ]
                  refine wpAnyH_ready (rs := [25]) (by kernel_rfl) (by simp) (AllReadyH.cons rfl (fun K hK => ?_) AllReadyH.nil)
                  go_simp
                  refine (before13_any cc.p y.p _).mono ?_
                  rintro e w2 ⟨rfl, hb2⟩
                  rw [HPB.out]
                  replace hHeld := bto hHeld hb2
                  clear hb2
                  refine hK.out _ _ hHeld (fun hHeld => ?_)
                  clear hK K
                  try dsimp only
                  try simp only [Act.put, List.getElem_toArray, List.getElem_cons_zero, List.getElem_cons_succ, List.setIfInBounds_toArray, List.set_cons_zero, List.set_cons_succ]
                  refine wpAnyH_ready (rs := [26]) (by kernel_rfl) (by simp) (AllReadyH.cons rfl (fun K hK => ?_) AllReadyH.nil)
                  go_simp
                  refine hK.out _ _ hHeld (fun hHeld => ?_)
                  clear hK K
                  try dsimp only
                  try simp only [Act.put, List.getElem_toArray, List.getElem_cons_zero, List.getElem_cons_succ, List.setIfInBounds_toArray, List.set_cons_zero, List.set_cons_succ]
                  refine wpAnyH_done (by kernel_rfl) ?_ _
                  have HBE := Lib.hid hHeld
                  clear hHeld
                  obtain ⟨wz, hwz⟩ : ∃ wz, wz = w2 := ⟨_, rfl⟩
                  rw [← hwz]
                  rw [← hwz] at HBE
                  clear hwz
                  have HBZ : Hid (Below w0.heap.size w0 wz) := Lib.hid (bto HBK.out HBE.out)
                  have HNZ : Hid (OwnPw wz w0.heap.size B M cap2 nx) := Lib.hid (HNW.out.below HBE.out (fun g' off' e => (HNW.out.lt g' off' e).1))
                  have HYZ : Hid (wz.rangeAt gb (k * 8) [.string y.p.key, .int .i64 y.p.s, .int .i64 y.p.e, .int .u64 (y.t.c : Int), .float .f64 y.t.s, .bool y.t.o, .float .f64 y.t.lo, .float .f64 y.t.hi]) := Lib.hid (rangeKeep HY.out HGB.out HBE.out)
                  have HCZ : Hid (wz.rangeAt ga (off + i * 10 + 2) [.string cc.p.key, .int .i64 cc.p.s, .int .i64 cc.p.e, .int .u64 (cc.t.c : Int), .float .f64 cc.t.s, .bool cc.t.o, .float .f64 cc.t.lo, .float .f64 cc.t.hi]) := Lib.hid (rsub (rangeKeep HX.out HGA.out HBE.out) 2 8 _ rfl _ rfl)
                  go_wp2_with (first
                    | (refine wpList_load_mid rfl 36 (.tmp 83) rfl ga (off + i * 10 + 2) rfl [.string cc.p.key, .int .i64 cc.p.s, .int .i64 cc.p.e, .int .u64 (cc.t.c : Int), .float .f64 cc.t.s, .bool cc.t.o, .float .f64 cc.t.lo, .float .f64 cc.t.hi] _ HCZ.out uPw rfl iPw ?_)
                    | (at_builtin; refine wpList_append_pw rfl (.tmp 79) (.tmp 85) rfl w0.heap.size B M cap2 nx rfl (HNZ.out.below ((Below.refl _ _).alloc (Nat.le_refl _) _) (fun g' off' e => (HNZ.out.lt g' off' e).1)) (some ⟨wz.heap.size, 0, none⟩) 1 1 [cc.pw] rfl rfl (pwAt_new' wz _ [cc.pw] _ rfl _ rfl) (fun h => by cases h) (M + 1) rfl (by have := HMB.out; omega) (HBZ.out.alloc HBZ.out.size _).size ?_; intro A3 c3 w3 ho3 hc3 hm3 hn3 hb3 hg3 ha3; have HO3 := Lib.hid ho3; have HB3 := Lib.hid ((HBZ.out.alloc HBZ.out.size _).trans hb3); have HC3 := Lib.hid (And.intro hc3 (And.intro hm3 hn3)); have HY3 : Hid (w3.rangeAt gb (k * 8) [.string y.p.key, .int .i64 y.p.s, .int .i64 y.p.e, .int .u64 (y.t.c : Int), .float .f64 y.t.s, .bool y.t.o, .float .f64 y.t.lo, .float .f64 y.t.hi]) := Lib.hid (rangeKeep HYW.out HGBW.out HB3.out); clear ho3 hc3 hm3 hn3 hb3 hg3 ha3)
                    | (refine wpList_load_mid rfl 36 (.tmp 90) rfl gb (k * 8) rfl [.string y.p.key, .int .i64 y.p.s, .int .i64 y.p.e, .int .u64 (y.t.c : Int), .float .f64 y.t.s, .bool y.t.o, .float .f64 y.t.lo, .float .f64 y.t.hi] _ HY3.out uPw rfl iPw ?_)
                    | (at_builtin; refine wpList_append_pw rfl (.tmp 87) (.tmp 92) rfl w0.heap.size A3 (M + 1) c3 (nx ++ [cc.pw]) rfl (HO3.out.below ((Below.refl _ _).alloc (Nat.le_refl _) _) (fun g' off' e => (HO3.out.lt g' off' e).1)) (some ⟨w3.heap.size, 0, none⟩) 1 1 [y] rfl rfl (pwAt_new' w3 _ [y] _ rfl _ rfl) (fun h => by cases h) (M + 2) rfl (by have := HMB.out; omega) (HB3.out.alloc HB3.out.size _).size ?_; intro A4 c4 w4 ho4 hc4 hm4 hn4 hb4 hg4 ha4; have HO4 := Lib.hid ho4; have HB4 := Lib.hid ((HB3.out.alloc HB3.out.size _).trans hb4); have HC4 := Lib.hid (And.intro hc4 (And.intro hm4 hn4)); clear ho4 hc4 hm4 hn4 hb4 hg4 ha4))
                  go_roundw
                  case rel => exact ⟨k + 1, A4, M + 2, c4, (nx ++ [cc.pw]) ++ [y], true, HKL.out, by go_num, rfl, by rw [HST.out]; exact HRS.out, by rw [List.length_append, List.length_append, ← HM.out]; rfl, rfl, HO4.out, HB4.out⟩
                  case measure => (have := HKL.out; simp [intOf]; omega)
              · have HRS : Hid (rvS cc (nx, true) y = (nx ++ [y], true)) := Lib.hid (by unfold rvS; rw [if_neg HNP.out, if_neg (by simp)])
                go_upto_region 11 with fail
                refine wp_region_held_drew (S := fun w => Below wk.heap.size wk w) (by kernel_rfl) ((Below.refl _ wk).drew) (fun hHeld => ?_)
                refine wpAnyH_take (i := 0) (v := .bool true) rfl (by kernel_rfl) (by kernel_rfl) (by kernel_rfl) (fun _ _ _ h => h) (Or.inl ⟨by rfl, fun _ _ => rfl⟩) hHeld ?_
                try dsimp only
                try simp only [Act.put, List.getElem_toArray, List.getElem_cons_zero, List.getElem_cons_succ, List.setIfInBounds_toArray, List.set_cons_zero, List.set_cons_succ]
                refine wpAnyH_take (i := 1) (v := .bool false) rfl (by kernel_rfl) (by kernel_rfl) (by kernel_rfl) (fun _ _ _ h => h) (Or.inl ⟨by rfl, fun w _ => by go_simp⟩) hHeld ?_
                try dsimp only
                try simp only [Act.put, List.getElem_toArray, List.getElem_cons_zero, List.getElem_cons_succ, List.setIfInBounds_toArray, List.set_cons_zero, List.set_cons_succ]
                refine wpAnyH_take (i := 2) (v := .bool false) rfl (by kernel_rfl) (by kernel_rfl) (by kernel_rfl) (fun _ _ _ h => h) (Or.inl ⟨by rfl, fun _ _ => rfl⟩) hHeld ?_
                try dsimp only
                try simp only [Act.put, List.getElem_toArray, List.getElem_cons_zero, List.getElem_cons_succ, List.setIfInBounds_toArray, List.set_cons_zero, List.set_cons_succ]
                refine wpAnyH_take (i := 3) (v := undef) rfl (by kernel_rfl) (by kernel_rfl) (by kernel_rfl) (fun _ _ _ h => h) (Or.inr ⟨by rfl, rfl⟩) hHeld ?_
                try dsimp only
                try simp only [Act.put, List.getElem_toArray, List.getElem_cons_zero, List.getElem_cons_succ, List.setIfInBounds_toArray, List.set_cons_zero, List.set_cons_succ]
                refine wpAnyH_take (i := 4) (v := undef) rfl (by kernel_rfl) (by kernel_rfl) (by kernel_rfl) (fun _ _ _ h => h) (Or.inr ⟨by rfl, rfl⟩) hHeld ?_
                try dsimp only
                try simp only [Act.put, List.getElem_toArray, List.getElem_cons_zero, List.getElem_cons_succ, List.setIfInBounds_toArray, List.set_cons_zero, List.set_cons_succ]
                refine wpAnyH_take (i := 5) (v := undef) rfl (by kernel_rfl) (by kernel_rfl) (by kernel_rfl) (fun _ _ _ h => h) (Or.inr ⟨by rfl, rfl⟩) hHeld ?_
                try dsimp only
                try simp only [Act.put, List.getElem_toArray, List.getElem_cons_zero, List.getElem_cons_succ, List.setIfInBounds_toArray, List.set_cons_zero, List.set_cons_succ]
                refine wpAnyH_take (i := 6) (v := undef) rfl (by kernel_rfl) (by kernel_rfl) (by kernel_rfl) (fun _ _ _ h => h) (Or.inr ⟨by rfl, rfl⟩) hHeld ?_
                try dsimp only
                try simp only [Act.put, List.getElem_toArray, List.getElem_cons_zero, List.getElem_cons_succ, List.setIfInBounds_toArray, List.set_cons_zero, List.set_cons_succ]
                refine wpAnyH_take (i := 7) (v := undef) rfl (by kernel_rfl) (by kernel_rfl) (by kernel_rfl) (fun _ _ _ h => h) (Or.inr ⟨by rfl, rfl⟩) hHeld ?_
                try dsimp only
                try simp only [Act.put, List.getElem_toArray, List.getElem_cons_zero, List.getElem_cons_succ, List.setIfInBounds_toArray, List.set_cons_zero, List.set_cons_succ]
                refine wpAnyH_take (i := 8) (v := undef) rfl (by kernel_rfl) (by kernel_rfl) (by kernel_rfl) (fun _ _ _ h => h) (Or.inr ⟨by rfl, rfl⟩) hHeld ?_
                try dsimp only
                try simp only [Act.put, List.getElem_toArray, List.getElem_cons_zero, List.getElem_cons_succ, List.setIfInBounds_toArray, List.set_cons_zero, List.set_cons_succ]
                refine wpAnyH_take (i := 9) (v := undef) rfl (by kernel_rfl) (by kernel_rfl) (by kernel_rfl) (fun _ _ _ h => h) (Or.inr ⟨by rfl, rfl⟩) hHeld ?_
                try dsimp only
                try simp only [Act.put, List.getElem_toArray, List.getElem_cons_zero, List.getElem_cons_succ, List.setIfInBounds_toArray, List.set_cons_zero, List.set_cons_succ]
                refine wpAnyH_take (i := 10) (v := undef) rfl (by kernel_rfl) (by kernel_rfl) (by kernel_rfl) (fun _ _ _ h => h) (Or.inr ⟨by rfl, rfl⟩) hHeld ?_
                try dsimp only
                try simp only [Act.put, List.getElem_toArray, List.getElem_cons_zero, List.getElem_cons_succ, List.setIfInBounds_toArray, List.set_cons_zero, List.set_cons_succ]
                refine wpAnyH_take (i := 11) (v := undef) rfl (by kernel_rfl) (by kernel_rfl) (by kernel_rfl) (fun _ _ _ h => h) (Or.inr ⟨by rfl, rfl⟩) hHeld ?_
                try dsimp only
                try simp only [Act.put, List.getElem_toArray, List.getElem_cons_zero, List.getElem_cons_succ, List.setIfInBounds_toArray, List.set_cons_zero, List.set_cons_succ]
                refine wpAnyH_take (i := 12) (v := undef) rfl (by kernel_rfl) (by kernel_rfl) (by kernel_rfl) (fun _ _ _ h => h) (Or.inr ⟨by rfl, rfl⟩) hHeld ?_
                try dsimp only
                try simp only [Act.put, List.getElem_toArray, List.getElem_cons_zero, List.getElem_cons_succ, List.setIfInBounds_toArray, List.set_cons_zero, List.set_cons_succ]
                refine wpAnyH_take (i := 13) (v := undef) rfl (by kernel_rfl) (by kernel_rfl) (by kernel_rfl) (fun _ _ _ h => h) (Or.inr ⟨by rfl, rfl⟩) hHeld ?_
                try dsimp only
                try simp only [Act.put, List.getElem_toArray, List.getElem_cons_zero, List.getElem_cons_succ, List.setIfInBounds_toArray, List.set_cons_zero, List.set_cons_succ]
                refine wpAnyH_take (i := 14) (v := undef) rfl (by kernel_rfl) (by kernel_rfl) (by kernel_rfl) (fun _ _ _ h => h) (Or.inr ⟨by rfl, rfl⟩) hHeld ?_
                try dsimp only
                try simp only [Act.put, List.getElem_toArray, List.getElem_cons_zero, List.getElem_cons_succ, List.setIfInBounds_toArray, List.set_cons_zero, List.set_cons_succ]
                refine wpAnyH_take (i := 15) (v := undef) rfl (by kernel_rfl) (by kernel_rfl) (by kernel_rfl) (fun _ _ _ h => h) (Or.inr ⟨by rfl, rfl⟩) hHeld ?_
                try dsimp only
                try simp only [Act.put, List.getElem_toArray, List.getElem_cons_zero, List.getElem_cons_succ, List.setIfInBounds_toArray, List.set_cons_zero, List.set_cons_succ]
                refine wpAnyH_take (i := 16) (v := undef) rfl (by kernel_rfl) (by kernel_rfl) (by kernel_rfl) (fun _ _ _ h => h) (Or.inr ⟨by rfl, rfl⟩) hHeld ?_
                try dsimp only
                try simp only [Act.put, List.getElem_toArray, List.getElem_cons_zero, List.getElem_cons_succ, List.setIfInBounds_toArray, List.set_cons_zero, List.set_cons_succ]
                refine wpAnyH_take (i := 17) (v := undef) rfl (by kernel_rfl) (by kernel_rfl) (by kernel_rfl) (fun _ _ _ h => h) (Or.inr ⟨by rfl, rfl⟩) hHeld ?_
                try dsimp only
                try simp only [Act.put, List.getElem_toArray, List.getElem_cons_zero, List.getElem_cons_succ, List.setIfInBounds_toArray, List.set_cons_zero, List.set_cons_succ]
                refine wpAnyH_take (i := 18) (v := undef) rfl (by kernel_rfl) (by kernel_rfl) (by kernel_rfl) (fun _ _ _ h => h) (Or.inr ⟨by rfl, rfl⟩) hHeld ?_
                try dsimp only
                try simp only [Act.put, List.getElem_toArray, List.getElem_cons_zero, List.getElem_cons_succ, List.setIfInBounds_toArray, List.set_cons_zero, List.set_cons_succ]
                refine wpAnyH_take (i := 19) (v := undef) rfl (by kernel_rfl) (by kernel_rfl) (by kernel_rfl) (fun _ _ _ h => h) (Or.inr ⟨by rfl, rfl⟩) hHeld ?_
                try dsimp only
                try simp only [Act.put, List.getElem_toArray, List.getElem_cons_zero, List.getElem_cons_succ, List.setIfInBounds_toArray, List.set_cons_zero, List.set_cons_succ]
                refine wpAnyH_take (i := 20) (v := undef) rfl (by kernel_rfl) (by kernel_rfl) (by kernel_rfl) (fun _ _ _ h => h) (Or.inr ⟨by rfl, rfl⟩) hHeld ?_
                try dsimp only
                try simp only [Act.put, List.getElem_toArray, List.getElem_cons_zero, List.getElem_cons_succ, List.setIfInBounds_toArray, List.set_cons_zero, List.set_cons_succ]
                refine wpAnyH_take (i := 21) (v := undef) rfl (by kernel_rfl) (by kernel_rfl) (by kernel_rfl) (fun _ _ _ h => h) (Or.inr ⟨by rfl, rfl⟩) hHeld ?_
                try dsimp only
                try simp only [Act.put, List.getElem_toArray, List.getElem_cons_zero, List.getElem_cons_succ, List.setIfInBounds_toArray, List.set_cons_zero, List.set_cons_succ]
                refine wpAnyH_take (i := 22) (v := undef) rfl (by kernel_rfl) (by kernel_rfl) (by kernel_rfl) (fun _ _ _ h => h) (Or.inr ⟨by rfl, rfl⟩) hHeld ?_
                try dsimp only
                try simp only [Act.put, List.getElem_toArray, List.getElem_cons_zero, List.getElem_cons_succ, List.setIfInBounds_toArray, List.set_cons_zero, List.set_cons_succ]
                refine wpAnyH_take (i := 23) (v := undef) rfl (by kernel_rfl) (by kernel_rfl) (by kernel_rfl) (fun _ _ _ h => h) (Or.inr ⟨by rfl, rfl⟩) hHeld ?_
                try dsimp only
                try simp only [Act.put, List.getElem_toArray, List.getElem_cons_zero, List.getElem_cons_succ, List.setIfInBounds_toArray, List.set_cons_zero, List.set_cons_succ]
                refine wpAnyH_take (i := 24) (v := undef) rfl (by kernel_rfl) (by kernel_rfl) (by kernel_rfl) (fun _ _ _ h => h) (Or.inr ⟨by rfl, rfl⟩) hHeld ?_
                try dsimp only
                try simp only [Act.put, List.getElem_toArray, List.getElem_cons_zero, List.getElem_cons_succ, List.setIfInBounds_toArray, List.set_cons_zero, List.set_cons_succ]
                refine wpAnyH_take (i := 25) (v := undef) rfl (by kernel_rfl) (by kernel_rfl) (by kernel_rfl) (fun _ _ _ h => h) (Or.inr ⟨by rfl, rfl⟩) hHeld ?_
                try dsimp only
                try simp only [Act.put, List.getElem_toArray, List.getElem_cons_zero, List.getElem_cons_succ, List.setIfInBounds_toArray, List.set_cons_zero, List.set_cons_succ]
                refine wpAnyH_take (i := 26) (v := .bool false) rfl (by kernel_rfl) (by kernel_rfl) (by kernel_rfl) (fun _ _ _ h => h) (Or.inl ⟨by rfl, fun w _ => by go_simp⟩) hHeld ?_
                try dsimp only
                try simp only [Act.put, List.getElem_toArray, List.getElem_cons_zero, List.getElem_cons_succ, List.setIfInBounds_toArray, List.set_cons_zero, List.set_cons_succ]
                refine wpAnyH_done (by kernel_rfl) ?_ _
                have HBE := Lib.hid hHeld
                clear hHeld
                obtain ⟨wz, hwz⟩ : ∃ wz, wz = World.drew wk := ⟨_, rfl⟩
                rw [← hwz]
                rw [← hwz] at HBE
                clear hwz
                have HBZ : Hid (Below w0.heap.size w0 wz) := Lib.hid (bto HBK.out HBE.out)
                have HNZ : Hid (OwnPw wz w0.heap.size B M cap2 nx) := Lib.hid (HNW.out.below HBE.out (fun g' off' e => (HNW.out.lt g' off' e).1))
                have HYZ : Hid (wz.rangeAt gb (k * 8) [.string y.p.key, .int .i64 y.p.s, .int .i64 y.p.e, .int .u64 (y.t.c : Int), .float .f64 y.t.s, .bool y.t.o, .float .f64 y.t.lo, .float .f64 y.t.hi]) := Lib.hid (rangeKeep HY.out HGB.out HBE.out)
                have HCZ : Hid (wz.rangeAt ga (off + i * 10 + 2) [.string cc.p.key, .int .i64 cc.p.s, .int .i64 cc.p.e, .int .u64 (cc.t.c : Int), .float .f64 cc.t.s, .bool cc.t.o, .float .f64 cc.t.lo, .float .f64 cc.t.hi]) := Lib.hid (rsub (rangeKeep HX.out HGA.out HBE.out) 2 8 _ rfl _ rfl)
                go_wp2_with (first
                  | (refine wpList_load_mid rfl 36 (.tmp 90) rfl gb (k * 8) rfl [.string y.p.key, .int .i64 y.p.s, .int .i64 y.p.e, .int .u64 (y.t.c : Int), .float .f64 y.t.s, .bool y.t.o, .float .f64 y.t.lo, .float .f64 y.t.hi] _ HYZ.out uPw rfl iPw ?_)
                  | (at_builtin; refine wpList_append_pw rfl (.tmp 87) (.tmp 92) rfl w0.heap.size B M cap2 nx rfl (HNZ.out.below ((Below.refl _ _).alloc (Nat.le_refl _) _) (fun g' off' e => (HNZ.out.lt g' off' e).1)) (some ⟨wz.heap.size, 0, none⟩) 1 1 [y] rfl rfl (pwAt_new' wz _ [y] _ rfl _ rfl) (fun h => by cases h) (M + 1) rfl (by have := HMB.out; omega) (HBZ.out.alloc HBZ.out.size _).size ?_; intro A4 c4 w4 ho4 hc4 hm4 hn4 hb4 hg4 ha4; have HO4 := Lib.hid ho4; have HB4 := Lib.hid ((HBZ.out.alloc HBZ.out.size _).trans hb4); have HC4 := Lib.hid (And.intro hc4 (And.intro hm4 hn4)); clear ho4 hc4 hm4 hn4 hb4 hg4 ha4))
                go_roundw
                case rel => exact ⟨k + 1, A4, M + 1, c4, nx ++ [y], true, HKL.out, by go_num, rfl, by rw [HST.out]; exact HRS.out, by rw [List.length_append, ← HM.out]; rfl, rfl, HO4.out, HB4.out⟩
                case measure => (have := HKL.out; simp [intOf]; omega)
            · have HRS : Hid (rvS cc (nx, dn) y = (nx, dn)) := Lib.hid (by unfold rvS; rw [if_pos (HPE.out.2 ⟨rfl, rfl⟩)])
              clear HPE
              go_upto_region 10 with fail
              refine wp_region_held_drew (S := fun w => Below wk.heap.size wk w) (by kernel_rfl) ((Below.refl _ wk).drew) (fun hHeld => ?_)
              refine wpAnyH_take (i := 0) (v := .slice (some ⟨gb, 0, none⟩) os.length cap) rfl (by kernel_rfl) (by kernel_rfl) (by kernel_rfl) (fun _ _ _ h => h) (Or.inl ⟨by rfl, fun _ _ => rfl⟩) hHeld ?_
              try dsimp only
              try simp only [Act.put, List.getElem_toArray, List.getElem_cons_zero, List.getElem_cons_succ, List.setIfInBounds_toArray, List.set_cons_zero, List.set_cons_succ]
              refine wpAnyH_take (i := 1) (v := .int .i64 (k : Int)) rfl (by kernel_rfl) (by kernel_rfl) (by kernel_rfl) (fun _ _ _ h => h) (Or.inl ⟨by rfl, fun _ _ => rfl⟩) hHeld ?_
              try dsimp only
              try simp only [Act.put, List.getElem_toArray, List.getElem_cons_zero, List.getElem_cons_succ, List.setIfInBounds_toArray, List.set_cons_zero, List.set_cons_succ]
              refine wpAnyH_take (i := 2) (v := .pointer (some ⟨gb, k * 8, none⟩)) rfl (by kernel_rfl) (by kernel_rfl) (by kernel_rfl) (fun _ _ _ h => h) (Or.inl ⟨by rfl, fun w _ => by go_simp⟩) hHeld ?_
              try dsimp only
              try simp only [Act.put, List.getElem_toArray, List.getElem_cons_zero, List.getElem_cons_succ, List.setIfInBounds_toArray, List.set_cons_zero, List.set_cons_succ]
              refine wpAnyH_take (i := 3) (v := .pointer (some ⟨gb, k * 8, none⟩)) rfl (by kernel_rfl) (by kernel_rfl) (by kernel_rfl) (fun _ _ _ h => h) (Or.inl ⟨by rfl, fun w _ => by go_simp⟩) hHeld ?_
              try dsimp only
              try simp only [Act.put, List.getElem_toArray, List.getElem_cons_zero, List.getElem_cons_succ, List.setIfInBounds_toArray, List.set_cons_zero, List.set_cons_succ]
              refine wpAnyH_take (i := 4) (v := .string y.p.key) rfl (by kernel_rfl) (by kernel_rfl) (by kernel_rfl) (fun _ _ _ h => h) (Or.inl ⟨by rfl, fun w hw => by have hr9 : w.rangeAt gb (k * 8) [.string y.p.key, .int .i64 y.p.s, .int .i64 y.p.e, .int .u64 (y.t.c : Int), .float .f64 y.t.s, .bool y.t.o, .float .f64 y.t.lo, .float .f64 y.t.hi] := (rangeKeep HY.out HGB.out hw); have hc : w.cell? ⟨gb, k * 8, none⟩ = some (.string y.p.key) := hr9 0 _ rfl; go_simp⟩) hHeld ?_
              try dsimp only
              try simp only [Act.put, List.getElem_toArray, List.getElem_cons_zero, List.getElem_cons_succ, List.setIfInBounds_toArray, List.set_cons_zero, List.set_cons_succ]
              refine wpAnyH_take (i := 5) (v := .slice (some ⟨ga, off, none⟩) n c) rfl (by kernel_rfl) (by kernel_rfl) (by kernel_rfl) (fun _ _ _ h => h) (Or.inl ⟨by rfl, fun _ _ => rfl⟩) hHeld ?_
              try dsimp only
              try simp only [Act.put, List.getElem_toArray, List.getElem_cons_zero, List.getElem_cons_succ, List.setIfInBounds_toArray, List.set_cons_zero, List.set_cons_succ]
              refine wpAnyH_take (i := 6) (v := .int .i64 (i : Int)) rfl (by kernel_rfl) (by kernel_rfl) (by kernel_rfl) (fun _ _ _ h => h) (Or.inl ⟨by rfl, fun _ _ => rfl⟩) hHeld ?_
              try dsimp only
              try simp only [Act.put, List.getElem_toArray, List.getElem_cons_zero, List.getElem_cons_succ, List.setIfInBounds_toArray, List.set_cons_zero, List.set_cons_succ]
              refine wpAnyH_take (i := 7) (v := .pointer (some ⟨ga, off + i * 10, none⟩)) rfl (by kernel_rfl) (by kernel_rfl) (by kernel_rfl) (fun _ _ _ h => h) (Or.inl ⟨by rfl, fun w _ => by go_simp⟩) hHeld ?_
              try dsimp only
              try simp only [Act.put, List.getElem_toArray, List.getElem_cons_zero, List.getElem_cons_succ, List.setIfInBounds_toArray, List.set_cons_zero, List.set_cons_succ]
              refine wpAnyH_take (i := 8) (v := .pointer (some ⟨ga, off + i * 10 + 2, none⟩)) rfl (by kernel_rfl) (by kernel_rfl) (by kernel_rfl) (fun _ _ _ h => h) (Or.inl ⟨by rfl, fun w _ => by go_simp⟩) hHeld ?_
              try dsimp only
              try simp only [Act.put, List.getElem_toArray, List.getElem_cons_zero, List.getElem_cons_succ, List.setIfInBounds_toArray, List.set_cons_zero, List.set_cons_succ]
              refine wpAnyH_take (i := 9) (v := .pointer (some ⟨ga, off + i * 10 + 2, none⟩)) rfl (by kernel_rfl) (by kernel_rfl) (by kernel_rfl) (fun _ _ _ h => h) (Or.inl ⟨by rfl, fun w _ => by go_simp⟩) hHeld ?_
              try dsimp only
              try simp only [Act.put, List.getElem_toArray, List.getElem_cons_zero, List.getElem_cons_succ, List.setIfInBounds_toArray, List.set_cons_zero, List.set_cons_succ]
              refine wpAnyH_take (i := 10) (v := .string cc.p.key) rfl (by kernel_rfl) (by kernel_rfl) (by kernel_rfl) (fun _ _ _ h => h) (Or.inl ⟨by rfl, fun w hw => by have hr9 : w.rangeAt ga (off + i * 10) [.bool cc.put, .int .u64 (cc.rev : Int), .string cc.p.key, .int .i64 cc.p.s, .int .i64 cc.p.e, .int .u64 (cc.t.c : Int), .float .f64 cc.t.s, .bool cc.t.o, .float .f64 cc.t.lo, .float .f64 cc.t.hi] := (rangeKeep HX.out HGA.out hw); have hc : w.cell? ⟨ga, off + i * 10 + 2, none⟩ = some (.string cc.p.key) := hr9 2 _ rfl; go_simp⟩) hHeld ?_
              try dsimp only
              try simp only [Act.put, List.getElem_toArray, List.getElem_cons_zero, List.getElem_cons_succ, List.setIfInBounds_toArray, List.set_cons_zero, List.set_cons_succ]
              refine wpAnyH_take (i := 11) (v := .bool true) rfl (by kernel_rfl) (by kernel_rfl) (by kernel_rfl) (fun _ _ _ h => h) (Or.inl ⟨by rfl, fun w _ => by go_simp⟩) hHeld ?_
              try dsimp only
              try simp only [Act.put, List.getElem_toArray, List.getElem_cons_zero, List.getElem_cons_succ, List.setIfInBounds_toArray, List.set_cons_zero, List.set_cons_succ]
              refine wpAnyH_take (i := 12) (v := .bool true) rfl (by kernel_rfl) (by kernel_rfl) (by kernel_rfl) (fun _ _ _ h => h) (Or.inl ⟨by rfl, fun _ _ => rfl⟩) hHeld ?_
              try dsimp only
              try simp only [Act.put, List.getElem_toArray, List.getElem_cons_zero, List.getElem_cons_succ, List.setIfInBounds_toArray, List.set_cons_zero, List.set_cons_succ]
              refine wpAnyH_take (i := 13) (v := .slice (some ⟨gb, 0, none⟩) os.length cap) rfl (by kernel_rfl) (by kernel_rfl) (by kernel_rfl) (fun _ _ _ h => h) (Or.inl ⟨by rfl, fun _ _ => rfl⟩) hHeld ?_
              try dsimp only
              try simp only [Act.put, List.getElem_toArray, List.getElem_cons_zero, List.getElem_cons_succ, List.setIfInBounds_toArray, List.set_cons_zero, List.set_cons_succ]
              refine wpAnyH_take (i := 14) (v := .int .i64 (k : Int)) rfl (by kernel_rfl) (by kernel_rfl) (by kernel_rfl) (fun _ _ _ h => h) (Or.inl ⟨by rfl, fun _ _ => rfl⟩) hHeld ?_
              try dsimp only
              try simp only [Act.put, List.getElem_toArray, List.getElem_cons_zero, List.getElem_cons_succ, List.setIfInBounds_toArray, List.set_cons_zero, List.set_cons_succ]
              refine wpAnyH_take (i := 15) (v := .pointer (some ⟨gb, k * 8, none⟩)) rfl (by kernel_rfl) (by kernel_rfl) (by kernel_rfl) (fun _ _ _ h => h) (Or.inl ⟨by rfl, fun w _ => by go_simp⟩) hHeld ?_
              try dsimp only
              try simp only [Act.put, List.getElem_toArray, List.getElem_cons_zero, List.getElem_cons_succ, List.setIfInBounds_toArray, List.set_cons_zero, List.set_cons_succ]
              refine wpAnyH_take (i := 16) (v := .pointer (some ⟨gb, k * 8 + 1, none⟩)) rfl (by kernel_rfl) (by kernel_rfl) (by kernel_rfl) (fun _ _ _ h => h) (Or.inl ⟨by rfl, fun w _ => by go_simp⟩) hHeld ?_
              try dsimp only
              try simp only [Act.put, List.getElem_toArray, List.getElem_cons_zero, List.getElem_cons_succ, List.setIfInBounds_toArray, List.set_cons_zero, List.set_cons_succ]
              refine wpAnyH_take (i := 17) (v := .agg [.int .i64 y.p.s, .int .i64 y.p.e].toArray) rfl (by kernel_rfl) (by kernel_rfl) (by kernel_rfl) (fun _ _ _ h => h) (yieldsIf_load_mid rfl 31 (.tmp 42) rfl gb (k * 8 + 1) rfl [.int .i64 y.p.s, .int .i64 y.p.e] _ (fun w hw => rsub (cs := [.string y.p.key, .int .i64 y.p.s, .int .i64 y.p.e, .int .u64 (y.t.c : Int), .float .f64 y.t.s, .bool y.t.o, .float .f64 y.t.lo, .float .f64 y.t.hi]) (rangeKeep HY.out HGB.out hw) 1 2 _ rfl _ rfl) uWin rfl iWin) hHeld ?_
              try dsimp only
              try simp only [Act.put, List.getElem_toArray, List.getElem_cons_zero, List.getElem_cons_succ, List.setIfInBounds_toArray, List.set_cons_zero, List.set_cons_succ]
              refine wpAnyH_take (i := 18) (v := .slice (some ⟨ga, off, none⟩) n c) rfl (by kernel_rfl) (by kernel_rfl) (by kernel_rfl) (fun _ _ _ h => h) (Or.inl ⟨by rfl, fun _ _ => rfl⟩) hHeld ?_
              try dsimp only
              try simp only [Act.put, List.getElem_toArray, List.getElem_cons_zero, List.getElem_cons_succ, List.setIfInBounds_toArray, List.set_cons_zero, List.set_cons_succ]
              refine wpAnyH_take (i := 19) (v := .int .i64 (i : Int)) rfl (by kernel_rfl) (by kernel_rfl) (by kernel_rfl) (fun _ _ _ h => h) (Or.inl ⟨by rfl, fun _ _ => rfl⟩) hHeld ?_
              try dsimp only
              try simp only [Act.put, List.getElem_toArray, List.getElem_cons_zero, List.getElem_cons_succ, List.setIfInBounds_toArray, List.set_cons_zero, List.set_cons_succ]
              refine wpAnyH_take (i := 20) (v := .pointer (some ⟨ga, off + i * 10, none⟩)) rfl (by kernel_rfl) (by kernel_rfl) (by kernel_rfl) (fun _ _ _ h => h) (Or.inl ⟨by rfl, fun w _ => by go_simp⟩) hHeld ?_
              try dsimp only
              try simp only [Act.put, List.getElem_toArray, List.getElem_cons_zero, List.getElem_cons_succ, List.setIfInBounds_toArray, List.set_cons_zero, List.set_cons_succ]
              refine wpAnyH_take (i := 21) (v := .pointer (some ⟨ga, off + i * 10 + 2, none⟩)) rfl (by kernel_rfl) (by kernel_rfl) (by kernel_rfl) (fun _ _ _ h => h) (Or.inl ⟨by rfl, fun w _ => by go_simp⟩) hHeld ?_
              try dsimp only
              try simp only [Act.put, List.getElem_toArray, List.getElem_cons_zero, List.getElem_cons_succ, List.setIfInBounds_toArray, List.set_cons_zero, List.set_cons_succ]
              refine wpAnyH_take (i := 22) (v := .pointer (some ⟨ga, off + i * 10 + 3, none⟩)) rfl (by kernel_rfl) (by kernel_rfl) (by kernel_rfl) (fun _ _ _ h => h) (Or.inl ⟨by rfl, fun w _ => by go_simp⟩) hHeld ?_
              try dsimp only
              try simp only [Act.put, List.getElem_toArray, List.getElem_cons_zero, List.getElem_cons_succ, List.setIfInBounds_toArray, List.set_cons_zero, List.set_cons_succ]
              refine wpAnyH_take (i := 23) (v := .agg [.int .i64 cc.p.s, .int .i64 cc.p.e].toArray) rfl (by kernel_rfl) (by kernel_rfl) (by kernel_rfl) (fun _ _ _ h => h) (yieldsIf_load_mid rfl 31 (.tmp 48) rfl ga (off + i * 10 + 3) rfl [.int .i64 cc.p.s, .int .i64 cc.p.e] _ (fun w hw => rsub (cs := [.bool cc.put, .int .u64 (cc.rev : Int), .string cc.p.key, .int .i64 cc.p.s, .int .i64 cc.p.e, .int .u64 (cc.t.c : Int), .float .f64 cc.t.s, .bool cc.t.o, .float .f64 cc.t.lo, .float .f64 cc.t.hi]) (rangeKeep HX.out HGA.out hw) 3 2 _ rfl _ rfl) uWin rfl iWin) hHeld ?_
              try dsimp only
              try simp only [Act.put, List.getElem_toArray, List.getElem_cons_zero, List.getElem_cons_succ, List.setIfInBounds_toArray, List.set_cons_zero, List.set_cons_succ]
              refine wpAnyH_take (i := 24) (v := .bool true) rfl (by kernel_rfl) (by kernel_rfl) (by kernel_rfl) (fun _ _ _ h => h) (Or.inl ⟨by rfl, fun w _ => by go_simp⟩) hHeld ?_
              try dsimp only
              try simp only [Act.put, List.getElem_toArray, List.getElem_cons_zero, List.getElem_cons_succ, List.setIfInBounds_toArray, List.set_cons_zero, List.set_cons_succ]
              refine wpAnyH_take (i := 25) (v := .bool true) rfl (by kernel_rfl) (by kernel_rfl) (by kernel_rfl) (fun _ _ _ h => h) (Or.inl ⟨by rfl, fun w _ => by go_simp⟩) hHeld ?_
              try dsimp only
              try simp only [Act.put, List.getElem_toArray, List.getElem_cons_zero, List.getElem_cons_succ, List.setIfInBounds_toArray, List.set_cons_zero, List.set_cons_succ]
              refine wpAnyH_done (by kernel_rfl) ?_ _
              clear hwq hb
              have HBE := Lib.hid (bto HBK.out hHeld)
              have HNE : Hid (OwnPw (World.drew wk) w0.heap.size B M cap2 nx) := Lib.hid (HNW.out.below hHeld (fun g' off' e => (HNW.out.lt g' off' e).1))
              clear hHeld
              go_wp2
              go_roundw
              case rel => exact ⟨k + 1, B, M, cap2, nx, dn, HKL.out, by go_num, rfl, by rw [HST.out]; exact HRS.out, HM.out, rfl, HNE.out, HBE.out⟩
              case measure => (have := HKL.out; simp [intOf]; omega)
        · have hz : ¬ ((k : Int) < (os.length : Int)) := by omega
          have HFI : Hid (os.foldl (rvS cc) ([], !cc.put) = (nx, dn)) := Lib.hid (by
            have h := HFO.out
            rwa [show k = os.length by have := HKL0.out; omega, List.take_length] at h)
          have HX : Hid (wk.rangeAt ga (off + i * 10 + 2) [.string cc.p.key, .int .i64 cc.p.s, .int .i64 cc.p.e, .int .u64 (cc.t.c : Int), .float .f64 cc.t.s, .bool cc.t.o, .float .f64 cc.t.lo, .float .f64 cc.t.hi]) := Lib.hid (rsub (rangeKeep HX0.out HGA0.out HBK.out) 2 8 _ rfl _ rfl)
          cases dn
          · have HIP : Hid (insP cc os = nx ++ [cc.pw]) := Lib.hid (by unfold insP; rw [HFI.out]; rfl)
            go_wp2_with (first
              | (refine wpList_load_mid rfl 36 (.tmp 100) rfl ga (off + i * 10 + 2) rfl [.string cc.p.key, .int .i64 cc.p.s, .int .i64 cc.p.e, .int .u64 (cc.t.c : Int), .float .f64 cc.t.s, .bool cc.t.o, .float .f64 cc.t.lo, .float .f64 cc.t.hi] _ HX.out uPw rfl iPw ?_)
              | (at_builtin; refine wpList_append_pw rfl (.tmp 96) (.tmp 102) rfl w0.heap.size B M cap2 nx rfl (HNW.out.below ((Below.refl _ _).alloc (Nat.le_refl _) _) (fun g' off' e => (HNW.out.lt g' off' e).1)) (some ⟨wk.heap.size, 0, none⟩) 1 1 [cc.pw] rfl rfl (pwAt_new' wk _ [cc.pw] _ rfl _ rfl) (fun h => by cases h) (M + 1) rfl (by have := HMB.out; omega) (HBK.out.alloc HBK.out.size _).size ?_; intro A4 c4 w4 ho4 hc4 hm4 hn4 hb4 hg4 ha4; have HO4 := Lib.hid ho4; have HB4 := Lib.hid ((HBK.out.alloc HBK.out.size _).trans hb4); clear ho4 hc4 hm4 hn4 hb4 hg4 ha4))
            go_roundw
            case rel => exact ⟨i + 1, A4, c4, insP cc os, by have := HIN.out; omega, by go_num, HNX.out.symm, by rw [HIP.out, List.length_append, ← HM.out]; rfl, by rw [HIP.out, List.length_append, ← HM.out]; exact HO4.out.less HB.out.size, bto HB.out HB4.out⟩
            case measure => (have := HIN.out; simp [intOf]; omega)
          · have HIP : Hid (insP cc os = nx) := Lib.hid (by unfold insP; rw [HFI.out]; rfl)
            go_wp2
            go_roundw
            case rel => exact ⟨i + 1, B, cap2, insP cc os, by have := HIN.out; omega, by go_num, HNX.out.symm, by rw [HIP.out, ← HM.out], by rw [HIP.out, ← HM.out]; exact HNW.out.less HB.out.size, bto HB.out HBK.out⟩
            case measure => (have := HIN.out; simp [intOf]; omega)
    · have hz : ¬ ((i : Int) < (n : Int)) := by omega
      go_wp2
      go_ret
      have hi : i = l.length := by have := HIL0.out; have := HN.out; omega
      have e : os = rvL l := by have h := HOS.out; rwa [hi, List.take_length] at h
      rw [← e]
      exact ⟨A, cap, rfl, HO.out, HB.out⟩
end Go.Proofs.Ytkhldnihboklaaa
