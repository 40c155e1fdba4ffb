/-
  Layer whole: the document's Same of two lists of panes that are one.
-/
import Derived.Test.YtbimfopbilcdgaaQZy11
set_option linter.unusedSimpArgs false
set_option linter.unusedVariables false
set_option maxRecDepth 8000
namespace Go.Proofs.Ytbimfopbilcdgaa
open Go.RowKit Go.Sort

theorem uAgz : Try.prog.underlying 95 = some (.struct (Try.prog.fieldsOf 95)) := by kernel_rfl
theorem b_neZ (a : ByteArray) (w : World) : (binOp .neq 9 (.string a) (.string a)).run Try.prog w = .ok (.bool false) w := by
  go_simp
theorem telB_selfZ (t : Tel) : telB t t = true := by unfold telB; simp
/-- Two lists of panes that are told alike. -/
structure Alk (l m : List Pz) : Prop where
  len : m.length = l.length
  p : ∀ (k : Nat) (x y : Pz), l[k]? = some x → m[k]? = some y → x.p = y.p ∧ telB x.t y.t = true
theorem Alk.refl (l : List Pz) : Alk l l := ⟨rfl, fun k x y hx hy => by rw [hx] at hy; cases hy; exact ⟨rfl, telB_selfZ _⟩⟩
theorem pz_range {w : World} {B n cap : Nat} {A : Option Addr} {l : List Pz} (h : OwnPz w B A n cap l) (k : Nat) (x : Pz) (hx : l[k]? = some x) : ∃ g, A = some ⟨g, 0, none⟩ ∧ g < w.heap.size ∧ w.rangeAt g (k * 8) x.cells := by
  obtain ⟨g, off, e, hg, hr⟩ := pzr h.at' k x hx
  obtain ⟨-, -, h0⟩ := h.lt g off e
  subst h0
  rw [Nat.zero_add] at hr
  exact ⟨g, e, hg, hr⟩
set_option maxHeartbeats 4000000 in
theorem rsameZ (a a2 : Option Addr) (n c c2 B B2 : Nat) (l l2 : List Pz) (h1000 : n ≤ 1000) (hok : ∀ c ∈ l, c.t.Ok) (hok2 : ∀ c ∈ l2, c.t.Ok) (hal : Alk l l2) (W : World) (H : Hid (OwnPz W B a n c l)) (H2 : Hid (OwnPz W B2 a2 n c2 l2)) :
    Calls Try.prog 40 #[.slice a n c, .slice a2 n c2] W fun e w' => e = .returned (.bool true) ∧ Below W.heap.size W w' := by
  have HN := Lib.hid H.out.len; have HOK := Lib.hid hok; have HOK2 := Lib.hid hok2; have HAL := Lib.hid hal
  clear hok hok2 hal
  go_enter Try.func40, Try.ntmps40
  go_wp2
  go_loopw [5] (fun i wr => ∃ k : Nat, k ≤ n ∧ i = .int .i64 k ∧ Below W.heap.size W wr) (fun i _ => n - (intOf i).toNat)
  case atStart => exact ⟨0, Nat.zero_le _, rfl, Below.refl _ _⟩
  case round =>
    obtain ⟨k, hkn, rfl, hb⟩ := hrel
    obtain ⟨wk, hwk⟩ : ∃ wk, wk = wr := ⟨wr, rfl⟩
    subst hwk
    have HB := Lib.hid hb
    clear hb
    by_cases hin : k < n
    · obtain ⟨y, hy⟩ : ∃ y, l[k]? = some y := ⟨l[k]'(by have := HN.out; omega), List.getElem?_eq_getElem _⟩
      obtain ⟨z, hz⟩ : ∃ z, l2[k]? = some z := ⟨l2[k]'(by have := HN.out; have := HAL.out.len; omega), List.getElem?_eq_getElem _⟩
      obtain ⟨hpe, hte⟩ := HAL.out.p k y z hy hz
      obtain ⟨ga, ea, hg, hr0⟩ := pz_range H.out k y hy
      obtain ⟨gb, eb, hg2, hr2⟩ := pz_range H2.out k z hz
      subst ea; subst eb
      have HX : Hid (wk.rangeAt ga (k * 8) y.cells) := Lib.hid (zkeep hr0 hg HB.out)
      have HY : Hid (wk.rangeAt gb (k * 8) [.string y.p.key, .int .i64 y.p.s, .int .i64 y.p.e, .int .u64 (z.t.c : Int), .float .f64 z.t.s, .bool z.t.o, .float .f64 z.t.lo, .float .f64 z.t.hi]) := Lib.hid (by have h9 := zkeep hr2 hg2 HB.out; unfold Pz.cells at h9; rw [← hpe] at h9; exact h9)
      have HG : Hid (ga < wk.heap.size) := Lib.hid (Nat.lt_of_lt_of_le hg HB.out.size)
      have HG2 : Hid (gb < wk.heap.size) := Lib.hid (Nat.lt_of_lt_of_le hg2 HB.out.size)
      have hyok := HOK.out y (List.mem_of_getElem? hy)
      have hzok := HOK2.out z (List.mem_of_getElem? hz)
      have HCS : Hid (∀ w, Calls Try.prog 51 #[.agg #[.int .u64 (y.t.c : Int), .float .f64 y.t.s, .bool y.t.o, .float .f64 y.t.lo, .float .f64 y.t.hi], .agg #[.int .u64 (z.t.c : Int), .float .f64 z.t.s, .bool z.t.o, .float .f64 z.t.lo, .float .f64 z.t.hi]] w fun e w' => e = .returned (.bool true) ∧ Below w.heap.size w w') := Lib.hid (fun w => by
        have h := refAggSame_any y.t z.t hyok hzok w
        rw [hte] at h; exact h)
      clear hr0 hr2 hg hg2 hy hz hyok hzok hpe hte
      have hkI : (k : Int) < (n : Int) := by omega
      have hwq : ∀ w, (binOp .neq 84 (.agg #[.int .i64 y.p.s, .int .i64 y.p.e]) (.agg #[.int .i64 y.p.s, .int .i64 y.p.e])).run Try.prog w = .ok (.bool false) w := fun w => by
        rw [winNeqZ_run]; unfold winZ; simp
      go_upto_region 6 with fail
      try simp only [List.append_eq, List.cons_append, List.nil_append]
      refine wp_region_held_drew (S := fun w => Below wk.heap.size wk w) (by kernel_rfl) ((Below.refl _ wk).drew) (fun hHeld => ?_)
      refine wpAnyH_take (i := 0) (v := .slice (some ⟨ga, 0, none⟩) n c) rfl (by kernel_rfl) (by kernel_rfl) (by kernel_rfl) (fun _ _ _ h => h) (Or.inl ⟨by rfl, fun _ _ => rfl⟩) hHeld ?_
      try dsimp only
      try simp only [Act.put, List.getElem_toArray, List.getElem_cons_zero, List.getElem_cons_succ, List.setIfInBounds_toArray, List.set_cons_zero, List.set_cons_succ]
      refine wpAnyH_take (i := 1) (v := .int .i64 (k : Int)) rfl (by kernel_rfl) (by kernel_rfl) (by kernel_rfl) (fun _ _ _ h => h) (Or.inl ⟨by rfl, fun _ _ => rfl⟩) hHeld ?_
      try dsimp only
      try simp only [Act.put, List.getElem_toArray, List.getElem_cons_zero, List.getElem_cons_succ, List.setIfInBounds_toArray, List.set_cons_zero, List.set_cons_succ]
      refine wpAnyH_take (i := 2) (v := .pointer (some ⟨ga, k * 8, none⟩)) rfl (by kernel_rfl) (by kernel_rfl) (by kernel_rfl) (fun _ _ _ h => h) (Or.inl ⟨by rfl, fun w _ => by go_simp⟩) hHeld ?_
      try dsimp only
      try simp only [Act.put, List.getElem_toArray, List.getElem_cons_zero, List.getElem_cons_succ, List.setIfInBounds_toArray, List.set_cons_zero, List.set_cons_succ]
      refine wpAnyH_take (i := 3) (v := .pointer (some ⟨ga, k * 8, none⟩)) rfl (by kernel_rfl) (by kernel_rfl) (by kernel_rfl) (fun _ _ _ h => h) (Or.inl ⟨by rfl, fun w _ => by go_simp⟩) hHeld ?_
      try dsimp only
      try simp only [Act.put, List.getElem_toArray, List.getElem_cons_zero, List.getElem_cons_succ, List.setIfInBounds_toArray, List.set_cons_zero, List.set_cons_succ]
      refine wpAnyH_take (i := 4) (v := .string y.p.key) rfl (by kernel_rfl) (by kernel_rfl) (by kernel_rfl) (fun _ _ _ h => h) (Or.inl ⟨by rfl, fun w hw => by have hr9 : w.rangeAt ga (k * 8) [.string y.p.key, .int .i64 y.p.s, .int .i64 y.p.e, .int .u64 (y.t.c : Int), .float .f64 y.t.s, .bool y.t.o, .float .f64 y.t.lo, .float .f64 y.t.hi] := (zkeep HX.out HG.out hw); have hc : w.cell? ⟨ga, k * 8, none⟩ = some (.string y.p.key) := hr9 0 _ rfl; go_simp⟩) hHeld ?_
      try dsimp only
      try simp only [Act.put, List.getElem_toArray, List.getElem_cons_zero, List.getElem_cons_succ, List.setIfInBounds_toArray, List.set_cons_zero, List.set_cons_succ]
      refine wpAnyH_take (i := 5) (v := .slice (some ⟨gb, 0, none⟩) n c2) rfl (by kernel_rfl) (by kernel_rfl) (by kernel_rfl) (fun _ _ _ h => h) (Or.inl ⟨by rfl, fun _ _ => rfl⟩) hHeld ?_
      try dsimp only
      try simp only [Act.put, List.getElem_toArray, List.getElem_cons_zero, List.getElem_cons_succ, List.setIfInBounds_toArray, List.set_cons_zero, List.set_cons_succ]
      refine wpAnyH_take (i := 6) (v := .int .i64 (k : Int)) rfl (by kernel_rfl) (by kernel_rfl) (by kernel_rfl) (fun _ _ _ h => h) (Or.inl ⟨by rfl, fun _ _ => rfl⟩) hHeld ?_
      try dsimp only
      try simp only [Act.put, List.getElem_toArray, List.getElem_cons_zero, List.getElem_cons_succ, List.setIfInBounds_toArray, List.set_cons_zero, List.set_cons_succ]
      refine wpAnyH_take (i := 7) (v := .pointer (some ⟨gb, k * 8, none⟩)) rfl (by kernel_rfl) (by kernel_rfl) (by kernel_rfl) (fun _ _ _ h => h) (Or.inl ⟨by rfl, fun w _ => by go_simp⟩) hHeld ?_
      try dsimp only
      try simp only [Act.put, List.getElem_toArray, List.getElem_cons_zero, List.getElem_cons_succ, List.setIfInBounds_toArray, List.set_cons_zero, List.set_cons_succ]
      refine wpAnyH_take (i := 8) (v := .pointer (some ⟨gb, k * 8, none⟩)) rfl (by kernel_rfl) (by kernel_rfl) (by kernel_rfl) (fun _ _ _ h => h) (Or.inl ⟨by rfl, fun w _ => by go_simp⟩) hHeld ?_
      try dsimp only
      try simp only [Act.put, List.getElem_toArray, List.getElem_cons_zero, List.getElem_cons_succ, List.setIfInBounds_toArray, List.set_cons_zero, List.set_cons_succ]
      refine wpAnyH_take (i := 9) (v := .string y.p.key) rfl (by kernel_rfl) (by kernel_rfl) (by kernel_rfl) (fun _ _ _ h => h) (Or.inl ⟨by rfl, fun w hw => by have hr9 : w.rangeAt gb (k * 8) [.string y.p.key, .int .i64 y.p.s, .int .i64 y.p.e, .int .u64 (z.t.c : Int), .float .f64 z.t.s, .bool z.t.o, .float .f64 z.t.lo, .float .f64 z.t.hi] := (zkeep HY.out HG2.out hw); have hc : w.cell? ⟨gb, k * 8, none⟩ = some (.string y.p.key) := hr9 0 _ rfl; go_simp⟩) hHeld ?_
      try dsimp only
      try simp only [Act.put, List.getElem_toArray, List.getElem_cons_zero, List.getElem_cons_succ, List.setIfInBounds_toArray, List.set_cons_zero, List.set_cons_succ]
      refine wpAnyH_take (i := 10) (v := .bool false) rfl (by kernel_rfl) (by kernel_rfl) (by kernel_rfl) (fun _ _ _ h => h) (yb_bin rfl .neq _ _ _ _ rfl _ _ _ rfl rfl (fun _ => rfl) (fun w => b_neZ y.p.key w)) hHeld ?_
      try dsimp only
      try simp only [Act.put, List.getElem_toArray, List.getElem_cons_zero, List.getElem_cons_succ, List.setIfInBounds_toArray, List.set_cons_zero, List.set_cons_succ]
      refine wpAnyH_take (i := 11) (v := .bool false) rfl (by kernel_rfl) (by kernel_rfl) (by kernel_rfl) (fun _ _ _ h => h) (Or.inl ⟨by rfl, fun _ _ => rfl⟩) hHeld ?_
      try dsimp only
      try simp only [Act.put, List.getElem_toArray, List.getElem_cons_zero, List.getElem_cons_succ, List.setIfInBounds_toArray, List.set_cons_zero, List.set_cons_succ]
      refine wpAnyH_take (i := 12) (v := .slice (some ⟨ga, 0, none⟩) n c) rfl (by kernel_rfl) (by kernel_rfl) (by kernel_rfl) (fun _ _ _ h => h) (Or.inl ⟨by rfl, fun _ _ => rfl⟩) hHeld ?_
      try dsimp only
      try simp only [Act.put, List.getElem_toArray, List.getElem_cons_zero, List.getElem_cons_succ, List.setIfInBounds_toArray, List.set_cons_zero, List.set_cons_succ]
      refine wpAnyH_take (i := 13) (v := .int .i64 (k : Int)) rfl (by kernel_rfl) (by kernel_rfl) (by kernel_rfl) (fun _ _ _ h => h) (Or.inl ⟨by rfl, fun _ _ => rfl⟩) hHeld ?_
      try dsimp only
      try simp only [Act.put, List.getElem_toArray, List.getElem_cons_zero, List.getElem_cons_succ, List.setIfInBounds_toArray, List.set_cons_zero, List.set_cons_succ]
      refine wpAnyH_take (i := 14) (v := .pointer (some ⟨ga, k * 8, none⟩)) rfl (by kernel_rfl) (by kernel_rfl) (by kernel_rfl) (fun _ _ _ h => h) (Or.inl ⟨by rfl, fun w _ => by go_simp⟩) hHeld ?_
      try dsimp only
      try simp only [Act.put, List.getElem_toArray, List.getElem_cons_zero, List.getElem_cons_succ, List.setIfInBounds_toArray, List.set_cons_zero, List.set_cons_succ]
      refine wpAnyH_take (i := 15) (v := .pointer (some ⟨ga, k * 8 + 1, none⟩)) rfl (by kernel_rfl) (by kernel_rfl) (by kernel_rfl) (fun _ _ _ h => h) (Or.inl ⟨by rfl, fun w _ => by go_simp⟩) hHeld ?_
      try dsimp only
      try simp only [Act.put, List.getElem_toArray, List.getElem_cons_zero, List.getElem_cons_succ, List.setIfInBounds_toArray, List.set_cons_zero, List.set_cons_succ]
      refine wpAnyH_take (i := 16) (v := .agg [.int .i64 y.p.s, .int .i64 y.p.e].toArray) rfl (by kernel_rfl) (by kernel_rfl) (by kernel_rfl) (fun _ _ _ h => h) (yieldsIf_load_mid rfl 84 (.tmp 32) rfl ga (k * 8 + 1) rfl [.int .i64 y.p.s, .int .i64 y.p.e] _ (fun w hw => rsub (cs := [.string y.p.key, .int .i64 y.p.s, .int .i64 y.p.e, .int .u64 (y.t.c : Int), .float .f64 y.t.s, .bool y.t.o, .float .f64 y.t.lo, .float .f64 y.t.hi]) (zkeep HX.out HG.out hw) 1 2 _ rfl _ rfl) uWn rfl (by kernel_rfl)) hHeld ?_
      try dsimp only
      try simp only [Act.put, List.getElem_toArray, List.getElem_cons_zero, List.getElem_cons_succ, List.setIfInBounds_toArray, List.set_cons_zero, List.set_cons_succ]
      refine wpAnyH_take (i := 17) (v := .slice (some ⟨gb, 0, none⟩) n c2) rfl (by kernel_rfl) (by kernel_rfl) (by kernel_rfl) (fun _ _ _ h => h) (Or.inl ⟨by rfl, fun _ _ => rfl⟩) hHeld ?_
      try dsimp only
      try simp only [Act.put, List.getElem_toArray, List.getElem_cons_zero, List.getElem_cons_succ, List.setIfInBounds_toArray, List.set_cons_zero, List.set_cons_succ]
      refine wpAnyH_take (i := 18) (v := .int .i64 (k : Int)) rfl (by kernel_rfl) (by kernel_rfl) (by kernel_rfl) (fun _ _ _ h => h) (Or.inl ⟨by rfl, fun _ _ => rfl⟩) hHeld ?_
      try dsimp only
      try simp only [Act.put, List.getElem_toArray, List.getElem_cons_zero, List.getElem_cons_succ, List.setIfInBounds_toArray, List.set_cons_zero, List.set_cons_succ]
      refine wpAnyH_take (i := 19) (v := .pointer (some ⟨gb, k * 8, none⟩)) rfl (by kernel_rfl) (by kernel_rfl) (by kernel_rfl) (fun _ _ _ h => h) (Or.inl ⟨by rfl, fun w _ => by go_simp⟩) hHeld ?_
      try dsimp only
      try simp only [Act.put, List.getElem_toArray, List.getElem_cons_zero, List.getElem_cons_succ, List.setIfInBounds_toArray, List.set_cons_zero, List.set_cons_succ]
      refine wpAnyH_take (i := 20) (v := .pointer (some ⟨gb, k * 8 + 1, none⟩)) rfl (by kernel_rfl) (by kernel_rfl) (by kernel_rfl) (fun _ _ _ h => h) (Or.inl ⟨by rfl, fun w _ => by go_simp⟩) hHeld ?_
      try dsimp only
      try simp only [Act.put, List.getElem_toArray, List.getElem_cons_zero, List.getElem_cons_succ, List.setIfInBounds_toArray, List.set_cons_zero, List.set_cons_succ]
      refine wpAnyH_take (i := 21) (v := .agg [.int .i64 y.p.s, .int .i64 y.p.e].toArray) rfl (by kernel_rfl) (by kernel_rfl) (by kernel_rfl) (fun _ _ _ h => h) (yieldsIf_load_mid rfl 84 (.tmp 37) rfl gb (k * 8 + 1) rfl [.int .i64 y.p.s, .int .i64 y.p.e] _ (fun w hw => rsub (cs := [.string y.p.key, .int .i64 y.p.s, .int .i64 y.p.e, .int .u64 (z.t.c : Int), .float .f64 z.t.s, .bool z.t.o, .float .f64 z.t.lo, .float .f64 z.t.hi]) (zkeep HY.out HG2.out hw) 1 2 _ rfl _ rfl) uWn rfl (by kernel_rfl)) hHeld ?_
      try dsimp only
      try simp only [Act.put, List.getElem_toArray, List.getElem_cons_zero, List.getElem_cons_succ, List.setIfInBounds_toArray, List.set_cons_zero, List.set_cons_succ]
      refine wpAnyH_take (i := 22) (v := .bool false) rfl (by kernel_rfl) (by kernel_rfl) (by kernel_rfl) (fun _ _ _ h => h) (Or.inl ⟨by rfl, fun w _ => by go_simp⟩) hHeld ?_
      try dsimp only
      try simp only [Act.put, List.getElem_toArray, List.getElem_cons_zero, List.getElem_cons_succ, List.setIfInBounds_toArray, List.set_cons_zero, List.set_cons_succ]
      refine wpAnyH_take (i := 23) (v := .bool false) rfl (by kernel_rfl) (by kernel_rfl) (by kernel_rfl) (fun _ _ _ h => h) (Or.inl ⟨by rfl, fun w _ => by go_simp⟩) hHeld ?_
      try dsimp only
      try simp only [Act.put, List.getElem_toArray, List.getElem_cons_zero, List.getElem_cons_succ, List.setIfInBounds_toArray, List.set_cons_zero, List.set_cons_succ]
      refine wpAnyH_take (i := 24) (v := .bool false) rfl (by kernel_rfl) (by kernel_rfl) (by kernel_rfl) (fun _ _ _ h => h) (Or.inl ⟨by rfl, fun _ _ => rfl⟩) hHeld ?_
      try dsimp only
      try simp only [Act.put, List.getElem_toArray, List.getElem_cons_zero, List.getElem_cons_succ, List.setIfInBounds_toArray, List.set_cons_zero, List.set_cons_succ]
      refine wpAnyH_take (i := 25) (v := .slice (some ⟨ga, 0, none⟩) n c) rfl (by kernel_rfl) (by kernel_rfl) (by kernel_rfl) (fun _ _ _ h => h) (Or.inl ⟨by rfl, fun _ _ => rfl⟩) hHeld ?_
      try dsimp only
      try simp only [Act.put, List.getElem_toArray, List.getElem_cons_zero, List.getElem_cons_succ, List.setIfInBounds_toArray, List.set_cons_zero, List.set_cons_succ]
      refine wpAnyH_take (i := 26) (v := .int .i64 (k : Int)) rfl (by kernel_rfl) (by kernel_rfl) (by kernel_rfl) (fun _ _ _ h => h) (Or.inl ⟨by rfl, fun _ _ => rfl⟩) hHeld ?_
      try dsimp only
      try simp only [Act.put, List.getElem_toArray, List.getElem_cons_zero, List.getElem_cons_succ, List.setIfInBounds_toArray, List.set_cons_zero, List.set_cons_succ]
      refine wpAnyH_take (i := 27) (v := .pointer (some ⟨ga, k * 8, none⟩)) rfl (by kernel_rfl) (by kernel_rfl) (by kernel_rfl) (fun _ _ _ h => h) (Or.inl ⟨by rfl, fun w _ => by go_simp⟩) hHeld ?_
      try dsimp only
      try simp only [Act.put, List.getElem_toArray, List.getElem_cons_zero, List.getElem_cons_succ, List.setIfInBounds_toArray, List.set_cons_zero, List.set_cons_succ]
      refine wpAnyH_take (i := 28) (v := .pointer (some ⟨ga, k * 8 + 3, none⟩)) rfl (by kernel_rfl) (by kernel_rfl) (by kernel_rfl) (fun _ _ _ h => h) (Or.inl ⟨by rfl, fun w _ => by go_simp⟩) hHeld ?_
      try dsimp only
      try simp only [Act.put, List.getElem_toArray, List.getElem_cons_zero, List.getElem_cons_succ, List.setIfInBounds_toArray, List.set_cons_zero, List.set_cons_succ]
      refine wpAnyH_take (i := 29) (v := .agg [.int .u64 (y.t.c : Int), .float .f64 y.t.s, .bool y.t.o, .float .f64 y.t.lo, .float .f64 y.t.hi].toArray) rfl (by kernel_rfl) (by kernel_rfl) (by kernel_rfl) (fun _ _ _ h => h) (yieldsIf_load_mid rfl 95 (.tmp 45) rfl ga (k * 8 + 3) rfl [.int .u64 (y.t.c : Int), .float .f64 y.t.s, .bool y.t.o, .float .f64 y.t.lo, .float .f64 y.t.hi] _ (fun w hw => rsub (cs := [.string y.p.key, .int .i64 y.p.s, .int .i64 y.p.e, .int .u64 (y.t.c : Int), .float .f64 y.t.s, .bool y.t.o, .float .f64 y.t.lo, .float .f64 y.t.hi]) (zkeep HX.out HG.out hw) 3 5 _ rfl _ rfl) uAgz rfl (by kernel_rfl)) hHeld ?_
      try dsimp only
      try simp only [Act.put, List.getElem_toArray, List.getElem_cons_zero, List.getElem_cons_succ, List.setIfInBounds_toArray, List.set_cons_zero, List.set_cons_succ]
      refine wpAnyH_take (i := 30) (v := .slice (some ⟨gb, 0, none⟩) n c2) rfl (by kernel_rfl) (by kernel_rfl) (by kernel_rfl) (fun _ _ _ h => h) (Or.inl ⟨by rfl, fun _ _ => rfl⟩) hHeld ?_
      try dsimp only
      try simp only [Act.put, List.getElem_toArray, List.getElem_cons_zero, List.getElem_cons_succ, List.setIfInBounds_toArray, List.set_cons_zero, List.set_cons_succ]
      refine wpAnyH_take (i := 31) (v := .int .i64 (k : Int)) rfl (by kernel_rfl) (by kernel_rfl) (by kernel_rfl) (fun _ _ _ h => h) (Or.inl ⟨by rfl, fun _ _ => rfl⟩) hHeld ?_
      try dsimp only
      try simp only [Act.put, List.getElem_toArray, List.getElem_cons_zero, List.getElem_cons_succ, List.setIfInBounds_toArray, List.set_cons_zero, List.set_cons_succ]
      refine wpAnyH_take (i := 32) (v := .pointer (some ⟨gb, k * 8, none⟩)) rfl (by kernel_rfl) (by kernel_rfl) (by kernel_rfl) (fun _ _ _ h => h) (Or.inl ⟨by rfl, fun w _ => by go_simp⟩) hHeld ?_
      try dsimp only
      try simp only [Act.put, List.getElem_toArray, List.getElem_cons_zero, List.getElem_cons_succ, List.setIfInBounds_toArray, List.set_cons_zero, List.set_cons_succ]
      refine wpAnyH_take (i := 33) (v := .pointer (some ⟨gb, k * 8 + 3, none⟩)) rfl (by kernel_rfl) (by kernel_rfl) (by kernel_rfl) (fun _ _ _ h => h) (Or.inl ⟨by rfl, fun w _ => by go_simp⟩) hHeld ?_
      try dsimp only
      try simp only [Act.put, List.getElem_toArray, List.getElem_cons_zero, List.getElem_cons_succ, List.setIfInBounds_toArray, List.set_cons_zero, List.set_cons_succ]
      refine wpAnyH_take (i := 34) (v := .agg [.int .u64 (z.t.c : Int), .float .f64 z.t.s, .bool z.t.o, .float .f64 z.t.lo, .float .f64 z.t.hi].toArray) rfl (by kernel_rfl) (by kernel_rfl) (by kernel_rfl) (fun _ _ _ h => h) (yieldsIf_load_mid rfl 95 (.tmp 50) rfl gb (k * 8 + 3) rfl [.int .u64 (z.t.c : Int), .float .f64 z.t.s, .bool z.t.o, .float .f64 z.t.lo, .float .f64 z.t.hi] _ (fun w hw => rsub (cs := [.string y.p.key, .int .i64 y.p.s, .int .i64 y.p.e, .int .u64 (z.t.c : Int), .float .f64 z.t.s, .bool z.t.o, .float .f64 z.t.lo, .float .f64 z.t.hi]) (zkeep HY.out HG2.out hw) 3 5 _ rfl _ rfl) uAgz rfl (by kernel_rfl)) hHeld ?_
      try dsimp only
      try simp only [Act.put, List.getElem_toArray, List.getElem_cons_zero, List.getElem_cons_succ, List.setIfInBounds_toArray, List.set_cons_zero, List.set_cons_succ]
      refine wpAnyH_ready (rs := [35]) (by kernel_rfl) (by simp) (AllReadyH.cons rfl (fun K hK => ?_) AllReadyH.nil)
      go_simp
      refine (HCS.out _).mono ?_
      rintro e w9 ⟨rfl, hb9⟩
      replace hHeld := bto hHeld hb9
      clear hb9
      refine hK.out _ _ hHeld (fun hHeld => ?_)
      clear hK K
      try dsimp only
      try simp only [Act.put, List.getElem_toArray, List.getElem_cons_zero, List.getElem_cons_succ, List.setIfInBounds_toArray, List.set_cons_zero, List.set_cons_succ]
      refine wpAnyH_take (i := 36) (v := .bool false) rfl (by kernel_rfl) (by kernel_rfl) (by kernel_rfl) (fun _ _ _ h => h) (Or.inl ⟨by rfl, fun w _ => by go_simp⟩) hHeld ?_
      try dsimp only
      try simp only [Act.put, List.getElem_toArray, List.getElem_cons_zero, List.getElem_cons_succ, List.setIfInBounds_toArray, List.set_cons_zero, List.set_cons_succ]
      refine wpAnyH_take (i := 37) (v := .bool false) rfl (by kernel_rfl) (by kernel_rfl) (by kernel_rfl) (fun _ _ _ h => h) (Or.inl ⟨by rfl, fun w _ => by go_simp⟩) hHeld ?_
      try dsimp only
      try simp only [Act.put, List.getElem_toArray, List.getElem_cons_zero, List.getElem_cons_succ, List.setIfInBounds_toArray, List.set_cons_zero, List.set_cons_succ]
      refine wpAnyH_done (by kernel_rfl) ?_ _
      clear hwq
      have HBE := Lib.hid (bto HB.out hHeld)
      clear hHeld
      go_wp2
      go_roundw
      case rel => exact ⟨k + 1, by omega, by go_num, HBE.out⟩
      case measure => (simp [intOf]; omega)
    · have hz : ¬ ((k : Int) < (n : Int)) := by omega
      go_wp2
      go_ret
      exact ⟨rfl, HB.out⟩
theorem pz_ok {c : Cf} (h : c.Ok) {l : List Ev} (hl : EvFit l) : ∀ p ∈ panesL c l, p.t.Ok := fun p hp => by
  unfold panesL at hp
  obtain ⟨x, hx, rfl⟩ := List.mem_map.1 hp
  have h1 := (grps_ok h hl).ok x hx
  exact telL_ok x.vs h1.1 h1.2
theorem pz_few {c : Cf} (h : c.Ok) {l : List Ev} (hl : EvFit l) : (panesL c l).length ≤ 1000 := by
  unfold panesL
  rw [List.length_map]; exact (grps_ok h hl).few
end Go.Proofs.Ytbimfopbilcdgaa
