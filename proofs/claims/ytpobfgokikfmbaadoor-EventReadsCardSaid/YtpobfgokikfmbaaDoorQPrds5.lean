/-
  Layer column: the document's own reader: Text.
-/
import Derived.Test.YtpobfgokikfmbaaDoorQPrds4
set_option linter.unusedSimpArgs false
set_option linter.unusedVariables false
set_option maxRecDepth 8000
namespace Go.Proofs.YtpobfgokikfmbaaDoor
open Go.RowKit Go.WideShapes Col
def textS (most : Nat) : Option (List Nat) → List Nat × Option (List Nat)
  | none => ([], none)
  | some q => match tP most q with
    | some (t, r) => (t, some r)
    | none => ([], none)
theorem textS_some {most : Nat} {q r t : List Nat} (h : tP most q = some (t, r)) : textS most (some q) = (t, some r) := by simp [textS, h]
theorem textS_none {most : Nat} {q : List Nat} (h : tP most q = none) : textS most (some q) = ([], none) := by simp [textS, h]
theorem tP_of_none {most : Nat} {q : List Nat} (h : uP most q = none) : tP most q = none := by unfold tP; rw [h]; rfl
theorem tP_of_big {most n : Nat} {q r : List Nat} (h : uP most q = some (n, r)) (h2 : r.length < n) : tP most q = none := by unfold tP; rw [h]; simp; omega
theorem tP_of_ok {most n : Nat} {q r : List Nat} (h : uP most q = some (n, r)) (h2 : n ≤ r.length) : tP most q = some (r.take n, r.drop n) := by unfold tP; rw [h]; simp [h2]
theorem str_nil : strB [] = { data := #[] } := by rfl
set_option maxHeartbeats 4000000 in
theorem rtext_any (m C : Nat) (A : Option Addr) (p : List Nat) (most : Nat) (hm : most < 9223372036854775808) (s : Option (List Nat)) (w : World) (H : Hid (RRA w m A C p s)) :
    Calls Tryd.prog 14 #[.pointer (some ⟨m, 0, none⟩), .int .i64 (most : Int)] w (RByte w m A C p (.string (strB (textS most s).1)) (textS most s).2) := by
  have HU := Lib.hid (ruint_any m C A p most s w H)
  have hmw : IntKind.u64.wrap (most : Int) = (most : Int) := by rw [IntKind.wrap_u64]; omega
  obtain ⟨N, hN⟩ : ∃ N, N = p.length := ⟨_, rfl⟩
  have HN := Lib.hid hN
  have hsm : N ≤ 1000000 := by rw [hN]; exact H.out.small
  clear hN
  have HFAIL : Hid (∀ s', uintS most s = (0, s') → s' = none → textS most s = ([], none)) := Lib.hid fun s' h h2 => by
    rcases s with _ | q
    · rfl
    · rcases hu : uP most q with _ | ⟨n, r⟩
      · exact textS_none (tP_of_none hu)
      · rw [uintS_some hu] at h; injection h with h3 h4; rw [h2] at h4; cases h4
  rcases hs : (uintS most s) with ⟨n, s2⟩
  rw [hs] at HU
  rcases s2 with _ | r
  · have hn0 : n = 0 := by
      rcases s with _ | q
      · have := congrArg Prod.fst hs; exact this.symm
      · rcases hu : uP most q with _ | ⟨n', r'⟩
        · rw [uintS_none hu] at hs; exact (congrArg Prod.fst hs).symm
        · rw [uintS_some hu] at hs; have := congrArg Prod.snd hs; cases this
    subst hn0
    have HE := Lib.hid (HFAIL.out none hs rfl)
    clear hs
    go_enter Tryd.func14, Tryd.ntmps14
    go_upto_region 2 with (go_at_call 38; (refine (HU.out).mono ?_); rintro e w2 hy; obtain ⟨rfl, HR2, HK2⟩ := hy.at; have HC1 : Hid (w2.cell? ⟨m, 1, none⟩ = some (.int .i64 (-1))) := Lib.hid HR2.out.c1; have HLT := Lib.hid HR2.out.lt; clear hy)
    refine wp_region_held_drew (S := fun w' => Below w2.heap.size w2 w') (by kernel_rfl) ((Below.refl _ _).drew) (fun hHeld => ?_)
    refine wpAnyH_take (i := 0) (v := .pointer (some ⟨m, 0, none⟩)) rfl (by kernel_rfl) (by kernel_rfl) (by kernel_rfl) (fun _ _ _ h => h) (Or.inl ⟨by rfl, fun _ _ => rfl⟩) hHeld ?_
    try dsimp only
    try simp only [Act.put, List.getElem_toArray, List.getElem_cons_zero, List.getElem_cons_succ, List.setIfInBounds_toArray, List.set_cons_zero, List.set_cons_succ]
    refine wpAnyH_take (i := 1) (v := .pointer (some ⟨m, 0, none⟩)) rfl (by kernel_rfl) (by kernel_rfl) (by kernel_rfl) (fun _ _ _ h => h) (Or.inl ⟨by rfl, fun w _ => by go_simp⟩) hHeld ?_
    try dsimp only
    try simp only [Act.put, List.getElem_toArray, List.getElem_cons_zero, List.getElem_cons_succ, List.setIfInBounds_toArray, List.set_cons_zero, List.set_cons_succ]
    refine wpAnyH_take (i := 2) (v := .pointer (some ⟨m, 1, none⟩)) rfl (by kernel_rfl) (by kernel_rfl) (by kernel_rfl) (fun _ _ _ h => h) (Or.inl ⟨by rfl, fun w _ => by go_simp⟩) hHeld ?_
    try dsimp only
    try simp only [Act.put, List.getElem_toArray, List.getElem_cons_zero, List.getElem_cons_succ, List.setIfInBounds_toArray, List.set_cons_zero, List.set_cons_succ]
    refine wpAnyH_take (i := 3) (v := .int .i64 (-1)) rfl (by kernel_rfl) (by kernel_rfl) (by kernel_rfl) (fun _ _ _ h => h) (Or.inl ⟨by rfl, fun w hw => by have hc : w.cell? ⟨m, 1, none⟩ = some (.int .i64 (-1)) := (hw.cell (p := ⟨m, 1, none⟩) HLT.out).trans HC1.out; go_simp⟩) hHeld ?_
    try dsimp only
    try simp only [Act.put, List.getElem_toArray, List.getElem_cons_zero, List.getElem_cons_succ, List.setIfInBounds_toArray, List.set_cons_zero, List.set_cons_succ]
    refine wpAnyH_take (i := 4) (v := .bool true) rfl (by kernel_rfl) (by kernel_rfl) (by kernel_rfl) (fun _ _ _ h => h) (Or.inl ⟨by rfl, fun w _ => by first | (go_simp; done) | (go_simp; omega)⟩) hHeld ?_
    try dsimp only
    try simp only [Act.put, List.getElem_toArray, List.getElem_cons_zero, List.getElem_cons_succ, List.setIfInBounds_toArray, List.set_cons_zero, List.set_cons_succ]
    refine wpAnyH_take (i := 5) (v := .bool true) rfl (by kernel_rfl) (by kernel_rfl) (by kernel_rfl) (fun _ _ _ h => h) (Or.inl ⟨by rfl, fun _ _ => rfl⟩) hHeld ?_
    try dsimp only
    try simp only [Act.put, List.getElem_toArray, List.getElem_cons_zero, List.getElem_cons_succ, List.setIfInBounds_toArray, List.set_cons_zero, List.set_cons_succ]
    refine wpAnyH_take (i := 6) (v := undef) rfl (by kernel_rfl) (by kernel_rfl) (by kernel_rfl) (fun _ _ _ h => h) (Or.inr ⟨by rfl, rfl⟩) hHeld ?_
    try dsimp only
    try simp only [Act.put, List.getElem_toArray, List.getElem_cons_zero, List.getElem_cons_succ, List.setIfInBounds_toArray, List.set_cons_zero, List.set_cons_succ]
    refine wpAnyH_take (i := 7) (v := undef) rfl (by kernel_rfl) (by kernel_rfl) (by kernel_rfl) (fun _ _ _ h => h) (Or.inr ⟨by rfl, rfl⟩) hHeld ?_
    try dsimp only
    try simp only [Act.put, List.getElem_toArray, List.getElem_cons_zero, List.getElem_cons_succ, List.setIfInBounds_toArray, List.set_cons_zero, List.set_cons_succ]
    refine wpAnyH_take (i := 8) (v := undef) rfl (by kernel_rfl) (by kernel_rfl) (by kernel_rfl) (fun _ _ _ h => h) (Or.inr ⟨by rfl, rfl⟩) hHeld ?_
    try dsimp only
    try simp only [Act.put, List.getElem_toArray, List.getElem_cons_zero, List.getElem_cons_succ, List.setIfInBounds_toArray, List.set_cons_zero, List.set_cons_succ]
    refine wpAnyH_take (i := 9) (v := undef) rfl (by kernel_rfl) (by kernel_rfl) (by kernel_rfl) (fun _ _ _ h => h) (Or.inr ⟨by rfl, rfl⟩) hHeld ?_
    try dsimp only
    try simp only [Act.put, List.getElem_toArray, List.getElem_cons_zero, List.getElem_cons_succ, List.setIfInBounds_toArray, List.set_cons_zero, List.set_cons_succ]
    refine wpAnyH_take (i := 10) (v := undef) rfl (by kernel_rfl) (by kernel_rfl) (by kernel_rfl) (fun _ _ _ h => h) (Or.inr ⟨by rfl, rfl⟩) hHeld ?_
    try dsimp only
    try simp only [Act.put, List.getElem_toArray, List.getElem_cons_zero, List.getElem_cons_succ, List.setIfInBounds_toArray, List.set_cons_zero, List.set_cons_succ]
    refine wpAnyH_take (i := 11) (v := undef) rfl (by kernel_rfl) (by kernel_rfl) (by kernel_rfl) (fun _ _ _ h => h) (Or.inr ⟨by rfl, rfl⟩) hHeld ?_
    try dsimp only
    try simp only [Act.put, List.getElem_toArray, List.getElem_cons_zero, List.getElem_cons_succ, List.setIfInBounds_toArray, List.set_cons_zero, List.set_cons_succ]
    refine wpAnyH_take (i := 12) (v := undef) rfl (by kernel_rfl) (by kernel_rfl) (by kernel_rfl) (fun _ _ _ h => h) (Or.inr ⟨by rfl, rfl⟩) hHeld ?_
    try dsimp only
    try simp only [Act.put, List.getElem_toArray, List.getElem_cons_zero, List.getElem_cons_succ, List.setIfInBounds_toArray, List.set_cons_zero, List.set_cons_succ]
    refine wpAnyH_take (i := 13) (v := undef) rfl (by kernel_rfl) (by kernel_rfl) (by kernel_rfl) (fun _ _ _ h => h) (Or.inr ⟨by rfl, rfl⟩) hHeld ?_
    try dsimp only
    try simp only [Act.put, List.getElem_toArray, List.getElem_cons_zero, List.getElem_cons_succ, List.setIfInBounds_toArray, List.set_cons_zero, List.set_cons_succ]
    refine wpAnyH_take (i := 14) (v := undef) rfl (by kernel_rfl) (by kernel_rfl) (by kernel_rfl) (fun _ _ _ h => h) (Or.inr ⟨by rfl, rfl⟩) hHeld ?_
    try dsimp only
    try simp only [Act.put, List.getElem_toArray, List.getElem_cons_zero, List.getElem_cons_succ, List.setIfInBounds_toArray, List.set_cons_zero, List.set_cons_succ]
    refine wpAnyH_take (i := 15) (v := undef) rfl (by kernel_rfl) (by kernel_rfl) (by kernel_rfl) (fun _ _ _ h => h) (Or.inr ⟨by rfl, rfl⟩) hHeld ?_
    try dsimp only
    try simp only [Act.put, List.getElem_toArray, List.getElem_cons_zero, List.getElem_cons_succ, List.setIfInBounds_toArray, List.set_cons_zero, List.set_cons_succ]
    refine wpAnyH_take (i := 16) (v := undef) rfl (by kernel_rfl) (by kernel_rfl) (by kernel_rfl) (fun _ _ _ h => h) (Or.inr ⟨by rfl, rfl⟩) hHeld ?_
    try dsimp only
    try simp only [Act.put, List.getElem_toArray, List.getElem_cons_zero, List.getElem_cons_succ, List.setIfInBounds_toArray, List.set_cons_zero, List.set_cons_succ]
    refine wpAnyH_take (i := 17) (v := undef) rfl (by kernel_rfl) (by kernel_rfl) (by kernel_rfl) (fun _ _ _ h => h) (Or.inr ⟨by rfl, rfl⟩) hHeld ?_
    try dsimp only
    try simp only [Act.put, List.getElem_toArray, List.getElem_cons_zero, List.getElem_cons_succ, List.setIfInBounds_toArray, List.set_cons_zero, List.set_cons_succ]
    refine wpAnyH_take (i := 18) (v := undef) rfl (by kernel_rfl) (by kernel_rfl) (by kernel_rfl) (fun _ _ _ h => h) (Or.inr ⟨by rfl, rfl⟩) hHeld ?_
    try dsimp only
    try simp only [Act.put, List.getElem_toArray, List.getElem_cons_zero, List.getElem_cons_succ, List.setIfInBounds_toArray, List.set_cons_zero, List.set_cons_succ]
    refine wpAnyH_ready (rs := [19]) (by kernel_rfl) (by simp) (AllReadyH.cons rfl (fun K hK => ?_) AllReadyH.nil)
    go_simp
    refine hK.out _ _ hHeld (fun hHeld => ?_)
    clear hK K
    try dsimp only
    try simp only [Act.put, List.getElem_toArray, List.getElem_cons_zero, List.getElem_cons_succ, List.setIfInBounds_toArray, List.set_cons_zero, List.set_cons_succ]
    refine wpAnyH_done (by kernel_rfl) ?_ _
    have HR := Lib.hid HR2.out.drew
    have f1 := HR.out.fr 1
    have c1 : w2.drew.cell? ⟨m, 1, none⟩ = some (.int .i64 (-1)) := HC1.out
    go_wp2
    go_ret
    exact ⟨by rw [HE.out]; rfl, by rw [HE.out]; exact HR.out.put (s' := none) (fun q h => by cases h), HK2.out.trans (((Kept.refl (Only m) w2).drew).setCell _ _ (.inl rfl))⟩
  · obtain ⟨q, hsq, hu⟩ : ∃ q, s = some q ∧ uP most q = some (n, r) := by
      rcases s with _ | q
      · have := congrArg Prod.snd hs; cases this
      · rcases hu : uP most q with _ | ⟨n', r'⟩
        · rw [uintS_none hu] at hs; have := congrArg Prod.snd hs; cases this
        · rw [uintS_some hu] at hs; injection hs with h1 h2; injection h2 with h2; subst h1; subst h2; exact ⟨q, rfl, hu⟩
    have hnm := (uP_some hu).2
    by_cases hlen : n ≤ r.length
    · have HE : Hid (textS most s = (r.take n, some (r.drop n))) := Lib.hid (by rw [hsq]; exact textS_some (tP_of_ok hu hlen))
      have HL := Lib.hid hlen
      clear hs hsq hu HFAIL hlen
      go_enter Tryd.func14, Tryd.ntmps14
      go_upto_region 2 with (go_at_call 38; (refine (HU.out).mono ?_); rintro e w2 hy; obtain ⟨rfl, HR2, HK2⟩ := hy.at; have HLT := Lib.hid HR2.out.lt; clear hy)
      obtain ⟨z, hz, hzl⟩ := atR_pos HR2.out
      have HC1 : Hid (w2.cell? ⟨m, 1, none⟩ = some (.int .i64 (z : Int))) := Lib.hid (by have h := HR2.out.c1; rwa [hz] at h)
      have HC0 : Hid (w2.cell? ⟨m, 0, none⟩ = some (.slice A N C)) := Lib.hid (by rw [HN.out]; exact HR2.out.c0)
      have HRZ : Hid (r = p.drop z) := Lib.hid (by
        obtain ⟨k, hk, hr⟩ := HR2.out.suf _ rfl
        have : r.length = p.length - k := by rw [hr, List.length_drop]
        rw [hr]; congr 1; omega)
      rw [← HN.out] at hzl
      obtain ⟨W2, hW2⟩ : ∃ W2, W2 = r.length := ⟨_, rfl⟩
      rw [← hW2] at hzl HL
      have hsub : (N : Int) - (z : Int) = (W2 : Int) := by omega
      have hW2w : IntKind.u64.wrap (W2 : Int) = (W2 : Int) := by rw [IntKind.wrap_u64]; omega
      have HZL := Lib.hid hzl
      have hzN : z + W2 ≤ N := by omega
      have HW2 := Lib.hid hW2
      clear hz hW2 hzl
      have hcmp : ¬ ((W2 : Int) < (n : Int)) := by have := HL.out; omega
      refine wp_region_held_drew (S := fun w' => Below w2.heap.size w2 w') (by kernel_rfl) ((Below.refl _ _).drew) (fun hHeld => ?_)
      refine wpAnyH_take (i := 0) (v := .pointer (some ⟨m, 0, none⟩)) rfl (by kernel_rfl) (by kernel_rfl) (by kernel_rfl) (fun _ _ _ h => h) (Or.inl ⟨by rfl, fun _ _ => rfl⟩) hHeld ?_
      try dsimp only
      try simp only [Act.put, List.getElem_toArray, List.getElem_cons_zero, List.getElem_cons_succ, List.setIfInBounds_toArray, List.set_cons_zero, List.set_cons_succ]
      refine wpAnyH_take (i := 1) (v := .pointer (some ⟨m, 0, none⟩)) rfl (by kernel_rfl) (by kernel_rfl) (by kernel_rfl) (fun _ _ _ h => h) (Or.inl ⟨by rfl, fun w _ => by go_simp⟩) hHeld ?_
      try dsimp only
      try simp only [Act.put, List.getElem_toArray, List.getElem_cons_zero, List.getElem_cons_succ, List.setIfInBounds_toArray, List.set_cons_zero, List.set_cons_succ]
      refine wpAnyH_take (i := 2) (v := .pointer (some ⟨m, 1, none⟩)) rfl (by kernel_rfl) (by kernel_rfl) (by kernel_rfl) (fun _ _ _ h => h) (Or.inl ⟨by rfl, fun w _ => by go_simp⟩) hHeld ?_
      try dsimp only
      try simp only [Act.put, List.getElem_toArray, List.getElem_cons_zero, List.getElem_cons_succ, List.setIfInBounds_toArray, List.set_cons_zero, List.set_cons_succ]
      refine wpAnyH_take (i := 3) (v := .int .i64 (z : Int)) rfl (by kernel_rfl) (by kernel_rfl) (by kernel_rfl) (fun _ _ _ h => h) (Or.inl ⟨by rfl, fun w hw => by have hc : w.cell? ⟨m, 1, none⟩ = some (.int .i64 (z : Int)) := (hw.cell (p := ⟨m, 1, none⟩) HLT.out).trans HC1.out; go_simp⟩) hHeld ?_
      try dsimp only
      try simp only [Act.put, List.getElem_toArray, List.getElem_cons_zero, List.getElem_cons_succ, List.setIfInBounds_toArray, List.set_cons_zero, List.set_cons_succ]
      refine wpAnyH_take (i := 4) (v := .bool false) rfl (by kernel_rfl) (by kernel_rfl) (by kernel_rfl) (fun _ _ _ h => h) (Or.inl ⟨by rfl, fun w _ => by first | (go_simp; done) | (go_simp; omega)⟩) hHeld ?_
      try dsimp only
      try simp only [Act.put, List.getElem_toArray, List.getElem_cons_zero, List.getElem_cons_succ, List.setIfInBounds_toArray, List.set_cons_zero, List.set_cons_succ]
      refine wpAnyH_take (i := 5) (v := .bool false) rfl (by kernel_rfl) (by kernel_rfl) (by kernel_rfl) (fun _ _ _ h => h) (Or.inl ⟨by rfl, fun _ _ => rfl⟩) hHeld ?_
      try dsimp only
      try simp only [Act.put, List.getElem_toArray, List.getElem_cons_zero, List.getElem_cons_succ, List.setIfInBounds_toArray, List.set_cons_zero, List.set_cons_succ]
      refine wpAnyH_take (i := 6) (v := .int .u64 (n : Int)) rfl (by kernel_rfl) (by kernel_rfl) (by kernel_rfl) (fun _ _ _ h => h) (Or.inl ⟨by rfl, fun _ _ => rfl⟩) hHeld ?_
      try dsimp only
      try simp only [Act.put, List.getElem_toArray, List.getElem_cons_zero, List.getElem_cons_succ, List.setIfInBounds_toArray, List.set_cons_zero, List.set_cons_succ]
      refine wpAnyH_take (i := 7) (v := .pointer (some ⟨m, 0, none⟩)) rfl (by kernel_rfl) (by kernel_rfl) (by kernel_rfl) (fun _ _ _ h => h) (Or.inl ⟨by rfl, fun _ _ => rfl⟩) hHeld ?_
      try dsimp only
      try simp only [Act.put, List.getElem_toArray, List.getElem_cons_zero, List.getElem_cons_succ, List.setIfInBounds_toArray, List.set_cons_zero, List.set_cons_succ]
      refine wpAnyH_take (i := 8) (v := .pointer (some ⟨m, 0, none⟩)) rfl (by kernel_rfl) (by kernel_rfl) (by kernel_rfl) (fun _ _ _ h => h) (Or.inl ⟨by rfl, fun w _ => by go_simp⟩) hHeld ?_
      try dsimp only
      try simp only [Act.put, List.getElem_toArray, List.getElem_cons_zero, List.getElem_cons_succ, List.setIfInBounds_toArray, List.set_cons_zero, List.set_cons_succ]
      refine wpAnyH_take (i := 9) (v := .pointer (some ⟨m, 0, none⟩)) rfl (by kernel_rfl) (by kernel_rfl) (by kernel_rfl) (fun _ _ _ h => h) (Or.inl ⟨by rfl, fun w _ => by go_simp⟩) hHeld ?_
      try dsimp only
      try simp only [Act.put, List.getElem_toArray, List.getElem_cons_zero, List.getElem_cons_succ, List.setIfInBounds_toArray, List.set_cons_zero, List.set_cons_succ]
      refine wpAnyH_take (i := 10) (v := .slice A N C) rfl (by kernel_rfl) (by kernel_rfl) (by kernel_rfl) (fun _ _ _ h => h) (Or.inl ⟨by rfl, fun w hw => by have hc : w.cell? ⟨m, 0, none⟩ = some (.slice A N C) := (hw.cell (p := ⟨m, 0, none⟩) HLT.out).trans HC0.out; go_simp⟩) hHeld ?_
      try dsimp only
      try simp only [Act.put, List.getElem_toArray, List.getElem_cons_zero, List.getElem_cons_succ, List.setIfInBounds_toArray, List.set_cons_zero, List.set_cons_succ]
      refine wpAnyH_take (i := 11) (v := .int .i64 (N : Int)) rfl (by kernel_rfl) (by kernel_rfl) (by kernel_rfl) (fun _ _ _ h => h) (Or.inl ⟨by rfl, fun w _ => by go_simp⟩) hHeld ?_
      try dsimp only
      try simp only [Act.put, List.getElem_toArray, List.getElem_cons_zero, List.getElem_cons_succ, List.setIfInBounds_toArray, List.set_cons_zero, List.set_cons_succ]
      refine wpAnyH_take (i := 12) (v := .pointer (some ⟨m, 0, none⟩)) rfl (by kernel_rfl) (by kernel_rfl) (by kernel_rfl) (fun _ _ _ h => h) (Or.inl ⟨by rfl, fun _ _ => rfl⟩) hHeld ?_
      try dsimp only
      try simp only [Act.put, List.getElem_toArray, List.getElem_cons_zero, List.getElem_cons_succ, List.setIfInBounds_toArray, List.set_cons_zero, List.set_cons_succ]
      refine wpAnyH_take (i := 13) (v := .pointer (some ⟨m, 0, none⟩)) rfl (by kernel_rfl) (by kernel_rfl) (by kernel_rfl) (fun _ _ _ h => h) (Or.inl ⟨by rfl, fun w _ => by go_simp⟩) hHeld ?_
      try dsimp only
      try simp only [Act.put, List.getElem_toArray, List.getElem_cons_zero, List.getElem_cons_succ, List.setIfInBounds_toArray, List.set_cons_zero, List.set_cons_succ]
      refine wpAnyH_take (i := 14) (v := .pointer (some ⟨m, 1, none⟩)) rfl (by kernel_rfl) (by kernel_rfl) (by kernel_rfl) (fun _ _ _ h => h) (Or.inl ⟨by rfl, fun w _ => by go_simp⟩) hHeld ?_
      try dsimp only
      try simp only [Act.put, List.getElem_toArray, List.getElem_cons_zero, List.getElem_cons_succ, List.setIfInBounds_toArray, List.set_cons_zero, List.set_cons_succ]
      refine wpAnyH_take (i := 15) (v := .int .i64 (z : Int)) rfl (by kernel_rfl) (by kernel_rfl) (by kernel_rfl) (fun _ _ _ h => h) (Or.inl ⟨by rfl, fun w hw => by have hc : w.cell? ⟨m, 1, none⟩ = some (.int .i64 (z : Int)) := (hw.cell (p := ⟨m, 1, none⟩) HLT.out).trans HC1.out; go_simp⟩) hHeld ?_
      try dsimp only
      try simp only [Act.put, List.getElem_toArray, List.getElem_cons_zero, List.getElem_cons_succ, List.setIfInBounds_toArray, List.set_cons_zero, List.set_cons_succ]
      refine wpAnyH_take (i := 16) (v := .int .i64 (W2 : Int)) rfl (by kernel_rfl) (by kernel_rfl) (by kernel_rfl) (fun _ _ _ h => h) (Or.inl ⟨by rfl, fun w _ => by first | (go_simp; done) | (go_simp; rw [IntKind.wrap_i64]; omega) | (go_simp; omega)⟩) hHeld ?_
      try dsimp only
      try simp only [Act.put, List.getElem_toArray, List.getElem_cons_zero, List.getElem_cons_succ, List.setIfInBounds_toArray, List.set_cons_zero, List.set_cons_succ]
      refine wpAnyH_take (i := 17) (v := .int .u64 (W2 : Int)) rfl (by kernel_rfl) (by kernel_rfl) (by kernel_rfl) (fun _ _ _ h => h) (Or.inl ⟨by rfl, fun w _ => by first | (go_simp; done) | (go_simp; exact hW2w)⟩) hHeld ?_
      try dsimp only
      try simp only [Act.put, List.getElem_toArray, List.getElem_cons_zero, List.getElem_cons_succ, List.setIfInBounds_toArray, List.set_cons_zero, List.set_cons_succ]
      refine wpAnyH_take (i := 18) (v := .bool false) rfl (by kernel_rfl) (by kernel_rfl) (by kernel_rfl) (fun _ _ _ h => h) (Or.inl ⟨by rfl, fun w _ => by first | (go_simp; done) | (go_simp; omega)⟩) hHeld ?_
      try dsimp only
      try simp only [Act.put, List.getElem_toArray, List.getElem_cons_zero, List.getElem_cons_succ, List.setIfInBounds_toArray, List.set_cons_zero, List.set_cons_succ]
      refine wpAnyH_ready (rs := [19]) (by kernel_rfl) (by simp) (AllReadyH.cons rfl (fun K hK => ?_) AllReadyH.nil)
      go_simp
      refine hK.out _ _ hHeld (fun hHeld => ?_)
      clear hK K
      try dsimp only
      try simp only [Act.put, List.getElem_toArray, List.getElem_cons_zero, List.getElem_cons_succ, List.setIfInBounds_toArray, List.set_cons_zero, List.set_cons_succ]
      refine wpAnyH_done (by kernel_rfl) ?_ _
      have HR := Lib.hid HR2.out.drew
      have HC1' : Hid (w2.drew.cell? ⟨m, 1, none⟩ = some (.int .i64 (z : Int))) := Lib.hid HC1.out
      have HC0' : Hid (w2.drew.cell? ⟨m, 0, none⟩ = some (.slice A N C)) := Lib.hid HC0.out
      have hzn : ((z : Int) + (n : Int)) = ((z + n : Nat) : Int) := by omega
      obtain ⟨Z, hZ⟩ : ∃ Z, Z = z + n := ⟨_, rfl⟩
      rw [← hZ] at hzn
      have hzZ : z ≤ Z := by omega
      have hZN : Z ≤ N := by have := HL.out; omega
      have hni : IntKind.i64.wrap (n : Int) = (n : Int) := by rw [IntKind.wrap_i64]; omega
      have hNC : N ≤ C := by rw [HN.out]; exact HR2.out.cap
      obtain ⟨A9, C9, hcut, hcl9, hcc9, hat9⟩ := cut_mid A N C z Z hzZ hZN hNC
      have HB9 : Hid (ByAt w2 A9 (r.take n)) := Lib.hid (by
        have h := hat9 w2 p HN.out HR2.out.bytes
        rw [← HRZ.out, show Z - z = n by omega] at h; exact h)
      have HBL : Hid ((r.take n).length = Z - z) := Lib.hid (by rw [List.length_take]; have := HL.out; have := HW2.out; omega)
      have HCUT := Lib.hid hcut
      have HSUF : Hid (∀ q', some (r.drop n) = some q' → ∃ k, k ≤ p.length ∧ q' = p.drop k) := Lib.hid fun q' h => by
        injection h with h; subst h
        exact ⟨z + n, by rw [← HN.out]; omega, by rw [HRZ.out, List.drop_drop]⟩
      have HAT : Hid (atR p (some (r.drop n)) = (Z : Int)) := Lib.hid (by
        show (p.length : Int) - ((r.drop n).length : Int) = _
        rw [List.length_drop, ← HN.out]; have := HL.out; have := HW2.out; have := HZL.out; omega)
      have HZZ := Lib.hid hZ
      clear hcut hat9 hcl9 hcc9 hZ
      go_upto_region 5 with fail
      refine wp_region_held_drew (S := fun w' => Below w2.heap.size w2 w') (by kernel_rfl) (((Below.refl _ _).drew).drew) (fun hHeld => ?_)
      refine wpAnyH_take (i := 0) (v := .pointer (some ⟨m, 0, none⟩)) rfl (by kernel_rfl) (by kernel_rfl) (by kernel_rfl) (fun _ _ _ h => h) (Or.inl ⟨by rfl, fun _ _ => rfl⟩) hHeld ?_
      try dsimp only
      try simp only [Act.put, List.getElem_toArray, List.getElem_cons_zero, List.getElem_cons_succ, List.setIfInBounds_toArray, List.set_cons_zero, List.set_cons_succ]
      refine wpAnyH_take (i := 1) (v := .pointer (some ⟨m, 0, none⟩)) rfl (by kernel_rfl) (by kernel_rfl) (by kernel_rfl) (fun _ _ _ h => h) (Or.inl ⟨by rfl, fun w _ => by go_simp⟩) hHeld ?_
      try dsimp only
      try simp only [Act.put, List.getElem_toArray, List.getElem_cons_zero, List.getElem_cons_succ, List.setIfInBounds_toArray, List.set_cons_zero, List.set_cons_succ]
      refine wpAnyH_take (i := 2) (v := .pointer (some ⟨m, 0, none⟩)) rfl (by kernel_rfl) (by kernel_rfl) (by kernel_rfl) (fun _ _ _ h => h) (Or.inl ⟨by rfl, fun w _ => by go_simp⟩) hHeld ?_
      try dsimp only
      try simp only [Act.put, List.getElem_toArray, List.getElem_cons_zero, List.getElem_cons_succ, List.setIfInBounds_toArray, List.set_cons_zero, List.set_cons_succ]
      refine wpAnyH_take (i := 3) (v := .slice A N C) rfl (by kernel_rfl) (by kernel_rfl) (by kernel_rfl) (fun _ _ _ h => h) (Or.inl ⟨by rfl, fun w hw => by have hc : w.cell? ⟨m, 0, none⟩ = some (.slice A N C) := (hw.cell (p := ⟨m, 0, none⟩) HLT.out).trans HC0.out; go_simp⟩) hHeld ?_
      try dsimp only
      try simp only [Act.put, List.getElem_toArray, List.getElem_cons_zero, List.getElem_cons_succ, List.setIfInBounds_toArray, List.set_cons_zero, List.set_cons_succ]
      refine wpAnyH_take (i := 4) (v := .pointer (some ⟨m, 0, none⟩)) rfl (by kernel_rfl) (by kernel_rfl) (by kernel_rfl) (fun _ _ _ h => h) (Or.inl ⟨by rfl, fun _ _ => rfl⟩) hHeld ?_
      try dsimp only
      try simp only [Act.put, List.getElem_toArray, List.getElem_cons_zero, List.getElem_cons_succ, List.setIfInBounds_toArray, List.set_cons_zero, List.set_cons_succ]
      refine wpAnyH_take (i := 5) (v := .pointer (some ⟨m, 0, none⟩)) rfl (by kernel_rfl) (by kernel_rfl) (by kernel_rfl) (fun _ _ _ h => h) (Or.inl ⟨by rfl, fun w _ => by go_simp⟩) hHeld ?_
      try dsimp only
      try simp only [Act.put, List.getElem_toArray, List.getElem_cons_zero, List.getElem_cons_succ, List.setIfInBounds_toArray, List.set_cons_zero, List.set_cons_succ]
      refine wpAnyH_take (i := 6) (v := .pointer (some ⟨m, 1, none⟩)) rfl (by kernel_rfl) (by kernel_rfl) (by kernel_rfl) (fun _ _ _ h => h) (Or.inl ⟨by rfl, fun w _ => by go_simp⟩) hHeld ?_
      try dsimp only
      try simp only [Act.put, List.getElem_toArray, List.getElem_cons_zero, List.getElem_cons_succ, List.setIfInBounds_toArray, List.set_cons_zero, List.set_cons_succ]
      refine wpAnyH_take (i := 7) (v := .int .i64 (z : Int)) rfl (by kernel_rfl) (by kernel_rfl) (by kernel_rfl) (fun _ _ _ h => h) (Or.inl ⟨by rfl, fun w hw => by have hc : w.cell? ⟨m, 1, none⟩ = some (.int .i64 (z : Int)) := (hw.cell (p := ⟨m, 1, none⟩) HLT.out).trans HC1.out; go_simp⟩) hHeld ?_
      try dsimp only
      try simp only [Act.put, List.getElem_toArray, List.getElem_cons_zero, List.getElem_cons_succ, List.setIfInBounds_toArray, List.set_cons_zero, List.set_cons_succ]
      refine wpAnyH_take (i := 8) (v := .pointer (some ⟨m, 0, none⟩)) rfl (by kernel_rfl) (by kernel_rfl) (by kernel_rfl) (fun _ _ _ h => h) (Or.inl ⟨by rfl, fun _ _ => rfl⟩) hHeld ?_
      try dsimp only
      try simp only [Act.put, List.getElem_toArray, List.getElem_cons_zero, List.getElem_cons_succ, List.setIfInBounds_toArray, List.set_cons_zero, List.set_cons_succ]
      refine wpAnyH_take (i := 9) (v := .pointer (some ⟨m, 0, none⟩)) rfl (by kernel_rfl) (by kernel_rfl) (by kernel_rfl) (fun _ _ _ h => h) (Or.inl ⟨by rfl, fun w _ => by go_simp⟩) hHeld ?_
      try dsimp only
      try simp only [Act.put, List.getElem_toArray, List.getElem_cons_zero, List.getElem_cons_succ, List.setIfInBounds_toArray, List.set_cons_zero, List.set_cons_succ]
      refine wpAnyH_take (i := 10) (v := .pointer (some ⟨m, 1, none⟩)) rfl (by kernel_rfl) (by kernel_rfl) (by kernel_rfl) (fun _ _ _ h => h) (Or.inl ⟨by rfl, fun w _ => by go_simp⟩) hHeld ?_
      try dsimp only
      try simp only [Act.put, List.getElem_toArray, List.getElem_cons_zero, List.getElem_cons_succ, List.setIfInBounds_toArray, List.set_cons_zero, List.set_cons_succ]
      refine wpAnyH_take (i := 11) (v := .int .i64 (z : Int)) rfl (by kernel_rfl) (by kernel_rfl) (by kernel_rfl) (fun _ _ _ h => h) (Or.inl ⟨by rfl, fun w hw => by have hc : w.cell? ⟨m, 1, none⟩ = some (.int .i64 (z : Int)) := (hw.cell (p := ⟨m, 1, none⟩) HLT.out).trans HC1.out; go_simp⟩) hHeld ?_
      try dsimp only
      try simp only [Act.put, List.getElem_toArray, List.getElem_cons_zero, List.getElem_cons_succ, List.setIfInBounds_toArray, List.set_cons_zero, List.set_cons_succ]
      refine wpAnyH_take (i := 12) (v := .int .u64 (n : Int)) rfl (by kernel_rfl) (by kernel_rfl) (by kernel_rfl) (fun _ _ _ h => h) (Or.inl ⟨by rfl, fun _ _ => rfl⟩) hHeld ?_
      try dsimp only
      try simp only [Act.put, List.getElem_toArray, List.getElem_cons_zero, List.getElem_cons_succ, List.setIfInBounds_toArray, List.set_cons_zero, List.set_cons_succ]
      refine wpAnyH_take (i := 13) (v := .int .i64 (n : Int)) rfl (by kernel_rfl) (by kernel_rfl) (by kernel_rfl) (fun _ _ _ h => h) (Or.inl ⟨by rfl, fun w _ => by first | (go_simp; done) | (go_simp; exact hni)⟩) hHeld ?_
      try dsimp only
      try simp only [Act.put, List.getElem_toArray, List.getElem_cons_zero, List.getElem_cons_succ, List.setIfInBounds_toArray, List.set_cons_zero, List.set_cons_succ]
      refine wpAnyH_take (i := 14) (v := .int .i64 (Z : Int)) rfl (by kernel_rfl) (by kernel_rfl) (by kernel_rfl) (fun _ _ _ h => h) (Or.inl ⟨by rfl, fun w _ => by first | (go_simp; done) | (go_simp; rw [IntKind.wrap_i64]; omega) | (go_simp; omega)⟩) hHeld ?_
      try dsimp only
      try simp only [Act.put, List.getElem_toArray, List.getElem_cons_zero, List.getElem_cons_succ, List.setIfInBounds_toArray, List.set_cons_zero, List.set_cons_succ]
      refine wpAnyH_take (i := 15) (v := .slice A9 (Z - z) C9) rfl (by kernel_rfl) (by kernel_rfl) (by kernel_rfl) (fun _ _ _ h => h) (Or.inl ⟨by rfl, fun w _ => by have hcu := HCUT.out w; first | (go_simp; done) | (unfold execOp; simp [hcu])⟩) hHeld ?_
      try dsimp only
      try simp only [Act.put, List.getElem_toArray, List.getElem_cons_zero, List.getElem_cons_succ, List.setIfInBounds_toArray, List.set_cons_zero, List.set_cons_succ]
      refine wpAnyH_take (i := 16) (v := .string (strB (r.take n))) rfl (by kernel_rfl) (by kernel_rfl) (by kernel_rfl) (fun _ _ _ h => h) (yb_conv rfl (.tmp 49) rfl _ _ rfl (fun w hw => conv_by (Z - z) C9 (HB9.out.keep hw) HBL.out.symm)) hHeld ?_
      try dsimp only
      try simp only [Act.put, List.getElem_toArray, List.getElem_cons_zero, List.getElem_cons_succ, List.setIfInBounds_toArray, List.set_cons_zero, List.set_cons_succ]
      refine wpAnyH_ready (rs := [17]) (by kernel_rfl) (by simp) (AllReadyH.cons rfl (fun K hK => ?_) AllReadyH.nil)
      go_simp
      refine hK.out _ _ hHeld (fun hHeld => ?_)
      clear hK K
      try dsimp only
      try simp only [Act.put, List.getElem_toArray, List.getElem_cons_zero, List.getElem_cons_succ, List.setIfInBounds_toArray, List.set_cons_zero, List.set_cons_succ]
      refine wpAnyH_done (by kernel_rfl) ?_ _
      have HR3 := Lib.hid HR.out.drew
      have c3 : w2.drew.drew.cell? ⟨m, 1, none⟩ = some (.int .i64 (z : Int)) := HC1.out
      have f3 := HR3.out.fr 1
      go_wp2
      go_ret
      refine ⟨by rw [HE.out]; rfl, ?_, HK2.out.trans ((((Kept.refl (Only m) w2).drew).drew).setCell _ _ (.inl rfl))⟩
      rw [HE.out, ← HAT.out]
      exact HR3.out.put (s' := some (r.drop n)) HSUF.out
    · have HE : Hid (textS most s = ([], none)) := Lib.hid (by rw [hsq]; exact textS_none (tP_of_big hu (by omega)))
      have HL := Lib.hid (show r.length < n by omega)
      clear hs hsq hu HFAIL hlen
      go_enter Tryd.func14, Tryd.ntmps14
      go_upto_region 2 with (go_at_call 38; (refine (HU.out).mono ?_); rintro e w2 hy; obtain ⟨rfl, HR2, HK2⟩ := hy.at; have HLT := Lib.hid HR2.out.lt; clear hy)
      obtain ⟨z, hz, hzl⟩ := atR_pos HR2.out
      have HC1 : Hid (w2.cell? ⟨m, 1, none⟩ = some (.int .i64 (z : Int))) := Lib.hid (by have h := HR2.out.c1; rwa [hz] at h)
      have HC0 : Hid (w2.cell? ⟨m, 0, none⟩ = some (.slice A N C)) := Lib.hid (by rw [HN.out]; exact HR2.out.c0)
      have HRZ : Hid (r = p.drop z) := Lib.hid (by
        obtain ⟨k, hk, hr⟩ := HR2.out.suf _ rfl
        have : r.length = p.length - k := by rw [hr, List.length_drop]
        rw [hr]; congr 1; omega)
      rw [← HN.out] at hzl
      obtain ⟨W2, hW2⟩ : ∃ W2, W2 = r.length := ⟨_, rfl⟩
      rw [← hW2] at hzl HL
      have hsub : (N : Int) - (z : Int) = (W2 : Int) := by omega
      have hW2w : IntKind.u64.wrap (W2 : Int) = (W2 : Int) := by rw [IntKind.wrap_u64]; omega
      have HZL := Lib.hid hzl
      have hzN : z + W2 ≤ N := by omega
      have HW2 := Lib.hid hW2
      clear hz hW2 hzl
      have hcmp : (W2 : Int) < (n : Int) := by have := HL.out; omega
      refine wp_region_held_drew (S := fun w' => Below w2.heap.size w2 w') (by kernel_rfl) ((Below.refl _ _).drew) (fun hHeld => ?_)
      refine wpAnyH_take (i := 0) (v := .pointer (some ⟨m, 0, none⟩)) rfl (by kernel_rfl) (by kernel_rfl) (by kernel_rfl) (fun _ _ _ h => h) (Or.inl ⟨by rfl, fun _ _ => rfl⟩) hHeld ?_
      try dsimp only
      try simp only [Act.put, List.getElem_toArray, List.getElem_cons_zero, List.getElem_cons_succ, List.setIfInBounds_toArray, List.set_cons_zero, List.set_cons_succ]
      refine wpAnyH_take (i := 1) (v := .pointer (some ⟨m, 0, none⟩)) rfl (by kernel_rfl) (by kernel_rfl) (by kernel_rfl) (fun _ _ _ h => h) (Or.inl ⟨by rfl, fun w _ => by go_simp⟩) hHeld ?_
      try dsimp only
      try simp only [Act.put, List.getElem_toArray, List.getElem_cons_zero, List.getElem_cons_succ, List.setIfInBounds_toArray, List.set_cons_zero, List.set_cons_succ]
      refine wpAnyH_take (i := 2) (v := .pointer (some ⟨m, 1, none⟩)) rfl (by kernel_rfl) (by kernel_rfl) (by kernel_rfl) (fun _ _ _ h => h) (Or.inl ⟨by rfl, fun w _ => by go_simp⟩) hHeld ?_
      try dsimp only
      try simp only [Act.put, List.getElem_toArray, List.getElem_cons_zero, List.getElem_cons_succ, List.setIfInBounds_toArray, List.set_cons_zero, List.set_cons_succ]
      refine wpAnyH_take (i := 3) (v := .int .i64 (z : Int)) rfl (by kernel_rfl) (by kernel_rfl) (by kernel_rfl) (fun _ _ _ h => h) (Or.inl ⟨by rfl, fun w hw => by have hc : w.cell? ⟨m, 1, none⟩ = some (.int .i64 (z : Int)) := (hw.cell (p := ⟨m, 1, none⟩) HLT.out).trans HC1.out; go_simp⟩) hHeld ?_
      try dsimp only
      try simp only [Act.put, List.getElem_toArray, List.getElem_cons_zero, List.getElem_cons_succ, List.setIfInBounds_toArray, List.set_cons_zero, List.set_cons_succ]
      refine wpAnyH_take (i := 4) (v := .bool false) rfl (by kernel_rfl) (by kernel_rfl) (by kernel_rfl) (fun _ _ _ h => h) (Or.inl ⟨by rfl, fun w _ => by first | (go_simp; done) | (go_simp; omega)⟩) hHeld ?_
      try dsimp only
      try simp only [Act.put, List.getElem_toArray, List.getElem_cons_zero, List.getElem_cons_succ, List.setIfInBounds_toArray, List.set_cons_zero, List.set_cons_succ]
      refine wpAnyH_take (i := 5) (v := .bool false) rfl (by kernel_rfl) (by kernel_rfl) (by kernel_rfl) (fun _ _ _ h => h) (Or.inl ⟨by rfl, fun _ _ => rfl⟩) hHeld ?_
      try dsimp only
      try simp only [Act.put, List.getElem_toArray, List.getElem_cons_zero, List.getElem_cons_succ, List.setIfInBounds_toArray, List.set_cons_zero, List.set_cons_succ]
      refine wpAnyH_take (i := 6) (v := .int .u64 (n : Int)) rfl (by kernel_rfl) (by kernel_rfl) (by kernel_rfl) (fun _ _ _ h => h) (Or.inl ⟨by rfl, fun _ _ => rfl⟩) hHeld ?_
      try dsimp only
      try simp only [Act.put, List.getElem_toArray, List.getElem_cons_zero, List.getElem_cons_succ, List.setIfInBounds_toArray, List.set_cons_zero, List.set_cons_succ]
      refine wpAnyH_take (i := 7) (v := .pointer (some ⟨m, 0, none⟩)) rfl (by kernel_rfl) (by kernel_rfl) (by kernel_rfl) (fun _ _ _ h => h) (Or.inl ⟨by rfl, fun _ _ => rfl⟩) hHeld ?_
      try dsimp only
      try simp only [Act.put, List.getElem_toArray, List.getElem_cons_zero, List.getElem_cons_succ, List.setIfInBounds_toArray, List.set_cons_zero, List.set_cons_succ]
      refine wpAnyH_take (i := 8) (v := .pointer (some ⟨m, 0, none⟩)) rfl (by kernel_rfl) (by kernel_rfl) (by kernel_rfl) (fun _ _ _ h => h) (Or.inl ⟨by rfl, fun w _ => by go_simp⟩) hHeld ?_
      try dsimp only
      try simp only [Act.put, List.getElem_toArray, List.getElem_cons_zero, List.getElem_cons_succ, List.setIfInBounds_toArray, List.set_cons_zero, List.set_cons_succ]
      refine wpAnyH_take (i := 9) (v := .pointer (some ⟨m, 0, none⟩)) rfl (by kernel_rfl) (by kernel_rfl) (by kernel_rfl) (fun _ _ _ h => h) (Or.inl ⟨by rfl, fun w _ => by go_simp⟩) hHeld ?_
      try dsimp only
      try simp only [Act.put, List.getElem_toArray, List.getElem_cons_zero, List.getElem_cons_succ, List.setIfInBounds_toArray, List.set_cons_zero, List.set_cons_succ]
      refine wpAnyH_take (i := 10) (v := .slice A N C) rfl (by kernel_rfl) (by kernel_rfl) (by kernel_rfl) (fun _ _ _ h => h) (Or.inl ⟨by rfl, fun w hw => by have hc : w.cell? ⟨m, 0, none⟩ = some (.slice A N C) := (hw.cell (p := ⟨m, 0, none⟩) HLT.out).trans HC0.out; go_simp⟩) hHeld ?_
      try dsimp only
      try simp only [Act.put, List.getElem_toArray, List.getElem_cons_zero, List.getElem_cons_succ, List.setIfInBounds_toArray, List.set_cons_zero, List.set_cons_succ]
      refine wpAnyH_take (i := 11) (v := .int .i64 (N : Int)) rfl (by kernel_rfl) (by kernel_rfl) (by kernel_rfl) (fun _ _ _ h => h) (Or.inl ⟨by rfl, fun w _ => by go_simp⟩) hHeld ?_
      try dsimp only
      try simp only [Act.put, List.getElem_toArray, List.getElem_cons_zero, List.getElem_cons_succ, List.setIfInBounds_toArray, List.set_cons_zero, List.set_cons_succ]
      refine wpAnyH_take (i := 12) (v := .pointer (some ⟨m, 0, none⟩)) rfl (by kernel_rfl) (by kernel_rfl) (by kernel_rfl) (fun _ _ _ h => h) (Or.inl ⟨by rfl, fun _ _ => rfl⟩) hHeld ?_
      try dsimp only
      try simp only [Act.put, List.getElem_toArray, List.getElem_cons_zero, List.getElem_cons_succ, List.setIfInBounds_toArray, List.set_cons_zero, List.set_cons_succ]
      refine wpAnyH_take (i := 13) (v := .pointer (some ⟨m, 0, none⟩)) rfl (by kernel_rfl) (by kernel_rfl) (by kernel_rfl) (fun _ _ _ h => h) (Or.inl ⟨by rfl, fun w _ => by go_simp⟩) hHeld ?_
      try dsimp only
      try simp only [Act.put, List.getElem_toArray, List.getElem_cons_zero, List.getElem_cons_succ, List.setIfInBounds_toArray, List.set_cons_zero, List.set_cons_succ]
      refine wpAnyH_take (i := 14) (v := .pointer (some ⟨m, 1, none⟩)) rfl (by kernel_rfl) (by kernel_rfl) (by kernel_rfl) (fun _ _ _ h => h) (Or.inl ⟨by rfl, fun w _ => by go_simp⟩) hHeld ?_
      try dsimp only
      try simp only [Act.put, List.getElem_toArray, List.getElem_cons_zero, List.getElem_cons_succ, List.setIfInBounds_toArray, List.set_cons_zero, List.set_cons_succ]
      refine wpAnyH_take (i := 15) (v := .int .i64 (z : Int)) rfl (by kernel_rfl) (by kernel_rfl) (by kernel_rfl) (fun _ _ _ h => h) (Or.inl ⟨by rfl, fun w hw => by have hc : w.cell? ⟨m, 1, none⟩ = some (.int .i64 (z : Int)) := (hw.cell (p := ⟨m, 1, none⟩) HLT.out).trans HC1.out; go_simp⟩) hHeld ?_
      try dsimp only
      try simp only [Act.put, List.getElem_toArray, List.getElem_cons_zero, List.getElem_cons_succ, List.setIfInBounds_toArray, List.set_cons_zero, List.set_cons_succ]
      refine wpAnyH_take (i := 16) (v := .int .i64 (W2 : Int)) rfl (by kernel_rfl) (by kernel_rfl) (by kernel_rfl) (fun _ _ _ h => h) (Or.inl ⟨by rfl, fun w _ => by first | (go_simp; done) | (go_simp; rw [IntKind.wrap_i64]; omega) | (go_simp; omega)⟩) hHeld ?_
      try dsimp only
      try simp only [Act.put, List.getElem_toArray, List.getElem_cons_zero, List.getElem_cons_succ, List.setIfInBounds_toArray, List.set_cons_zero, List.set_cons_succ]
      refine wpAnyH_take (i := 17) (v := .int .u64 (W2 : Int)) rfl (by kernel_rfl) (by kernel_rfl) (by kernel_rfl) (fun _ _ _ h => h) (Or.inl ⟨by rfl, fun w _ => by first | (go_simp; done) | (go_simp; exact hW2w)⟩) hHeld ?_
      try dsimp only
      try simp only [Act.put, List.getElem_toArray, List.getElem_cons_zero, List.getElem_cons_succ, List.setIfInBounds_toArray, List.set_cons_zero, List.set_cons_succ]
      refine wpAnyH_take (i := 18) (v := .bool true) rfl (by kernel_rfl) (by kernel_rfl) (by kernel_rfl) (fun _ _ _ h => h) (Or.inl ⟨by rfl, fun w _ => by first | (go_simp; done) | (go_simp; omega)⟩) hHeld ?_
      try dsimp only
      try simp only [Act.put, List.getElem_toArray, List.getElem_cons_zero, List.getElem_cons_succ, List.setIfInBounds_toArray, List.set_cons_zero, List.set_cons_succ]
      refine wpAnyH_ready (rs := [19]) (by kernel_rfl) (by simp) (AllReadyH.cons rfl (fun K hK => ?_) AllReadyH.nil)
      go_simp
      refine hK.out _ _ hHeld (fun hHeld => ?_)
      clear hK K
      try dsimp only
      try simp only [Act.put, List.getElem_toArray, List.getElem_cons_zero, List.getElem_cons_succ, List.setIfInBounds_toArray, List.set_cons_zero, List.set_cons_succ]
      refine wpAnyH_done (by kernel_rfl) ?_ _
      have HR := Lib.hid HR2.out.drew
      have f1 := HR.out.fr 1
      have c1 : w2.drew.cell? ⟨m, 1, none⟩ = some (.int .i64 (z : Int)) := HC1.out
      go_wp2
      go_ret
      exact ⟨by rw [HE.out]; rfl, by rw [HE.out]; exact HR.out.put (s' := none) (fun q h => by cases h), HK2.out.trans (((Kept.refl (Only m) w2).drew).setCell _ _ (.inl rfl))⟩
end Go.Proofs.YtpobfgokikfmbaaDoor

set_option linter.unusedSimpArgs false
set_option linter.unusedVariables false
set_option maxRecDepth 8000
namespace Go.Proofs.YtpobfgokikfmbaaDoor
open Go.RowKit Go.WideShapes Col
/-- How the document's reading of whole numbers ends: `o` where all is well. -/
def RIEnds (w : World) (m C : Nat) (A : Option Addr) (p : List Nat) (o : Option (List Int)) (e : Ending) (w' : World) : Prop := match o with
  | some l => (∃ A' n' cap', e = .returned (.slice A' n' cap') ∧ OwnI w' w.heap.size A' n' cap' l) ∧ RRA w' m A C p (some []) ∧ Kept (Only m) w w'
  | none => ∃ A' n' cap' s', e = .returned (.slice A' n' cap') ∧ s' ≠ some [] ∧ RRA w' m A C p s' ∧ Kept (Only m) w w'
theorem RRA.blk {w : World} {m C : Nat} {A : Option Addr} {p : List Nat} {s : Option (List Nat)} (h : RRA w m A C p s) : ∀ a, A = some a → 0 < p.length → a.block < w.heap.size := fun a ha h0 => by
  obtain ⟨-, g, off, e, hg, -⟩ := h.bytes 0 (p[0]'h0) (List.getElem?_eq_getElem h0)
  rw [ha] at e; injection e with e; rw [e]; exact hg
theorem RRA.wf {w : World} {m C : Nat} {A : Option Addr} {p q : List Nat} (h : RRA w m A C p (some q)) : ∀ x ∈ q, x < 256 := by
  obtain ⟨k, hk, hq⟩ := h.suf _ rfl
  exact fun x hx => h.bytes.lt x (List.mem_of_mem_drop (hq ▸ hx))
/-- The loop over numbers laid plainly. -/
def R0 (w : World) (m C : Nat) (A : Option Addr) (p r : List Nat) (n : Nat) (u v : Value) (wr : World) : Prop :=
  ∃ (k : Nat) (A' : Option Addr) (cap' : Nat) (xs : List Int) (s' : Option (List Nat)), k ≤ n ∧ v = .int .i64 (k : Int) ∧ u = .slice A' k cap' ∧ OwnI wr w.heap.size A' k cap' xs ∧ RRA wr m A C p s' ∧ Kept (Only m) w wr ∧
    ((∃ r', s' = some r' ∧ runS zP k r = some (xs, r')) ∨ (s' = none ∧ runS zP n r = none))
def allOf (o : Option (List Int × List Nat)) : Option (List Int) := match o with
  | some (l, []) => some l
  | _ => none
theorem r0_ends {w wr : World} {m C : Nat} {A A' : Option Addr} {p : List Nat} {k cap' : Nat} {s' : Option (List Nat)} {o : Option (List Int × List Nat)} {xs : List Int} (hr : RRA wr m A C p s') (hk : Kept (Only m) w wr) (ho : OwnI wr w.heap.size A' k cap' xs) (h : (∃ r', s' = some r' ∧ o = some (xs, r')) ∨ (s' = none ∧ o = none)) :
    RIEnds w m C A p (allOf o) (.returned (.slice A' k cap')) wr := by
  rcases h with ⟨r', rfl, rfl⟩ | ⟨rfl, rfl⟩
  · rcases r' with _ | ⟨x, r'⟩
    · exact ⟨⟨A', k, cap', rfl, ho⟩, hr, hk⟩
    · exact ⟨A', k, cap', _, rfl, by simp, hr, hk⟩
  · exact ⟨A', k, cap', none, rfl, by simp, hr, hk⟩
set_option maxHeartbeats 4000000 in
theorem rints0_any (m C : Nat) (A : Option Addr) (p q r : List Nat) (n : Nat) (hu : Hid (uP 4096 q = some (n, r))) (hn : n ≤ 4096) (w : World) (H : Hid (RRA w m A C p (some (0 :: q)))) :
    Calls Tryd.prog 39 #[.pointer (some ⟨m, 0, none⟩)] w (RIEnds w m C A p (allOf (runS zP n r))) := by
  have HB : Hid (Calls Tryd.prog 56 #[.pointer (some ⟨m, 0, none⟩)] w (RByte w m A C p (.int .u8 0) (some q))) := Lib.hid (rbyte_any m C A p (some (0 :: q)) w H)
  have HU : Hid (∀ w2, Hid (RRA w2 m A C p (some q)) → Calls Tryd.prog 38 #[.pointer (some ⟨m, 0, none⟩), .int .u64 4096] w2 (RByte w2 m A C p (.int .u64 (n : Int)) (some r))) := Lib.hid fun w2 h => by
    have := ruint_any m C A p 4096 (some q) w2 h
    rw [uintS_some hu.out] at this; exact this
  have HBLK := Lib.hid H.out.blk
  have HLT := Lib.hid H.out.lt
  have hni : IntKind.i64.wrap (n : Int) = (n : Int) := by rw [IntKind.wrap_i64]; omega
  go_enter Tryd.func39, Tryd.ntmps39
  go_wp2_with (first
    | (go_at_call 56; (with_reducible refine (HB.out).mono ?_); rintro e w2 hy; obtain ⟨rfl, HR2, HK2⟩ := hy.at; clear hy)
    | (go_at_call 38; (refine (HU.out _ HR2).mono ?_); rintro e w3 hy; obtain ⟨rfl, HR3, HK3⟩ := hy.at; have HST : Hid (R0 w m C A p r n (.slice none 0 0) (.int .i64 0) w3) := Lib.hid ⟨0, none, 0, [], some r, Nat.zero_le _, rfl, rfl, OwnI.nil _ _, HR3.out, HK2.out.trans HK3.out, .inl ⟨r, rfl, rfl⟩⟩; obtain ⟨z, hz, hzl⟩ := atR_pos HR3.out; have c1 := HR3.out.c1; rw [hz] at c1; have hz0 : ¬ ((z : Int) < 0) := (by omega); clear hy hz))
  clear c1 hz0 hzl
  go_loopw [5, 6] (fun u v wr => R0 w m C A p r n u v wr) (fun _ v _ => n - (intOf v).toNat)
  case atStart => exact HST.out
  case round =>
    obtain ⟨k, A', cap', xs, s', hk, rfl, rfl, ho, hr, hkp, hcase⟩ := hrel
    have HO := Lib.hid ho; have HR := Lib.hid hr; have HK := Lib.hid hkp
    clear ho hr hkp HST
    have c1 := HR.out.c1
    by_cases hlt : k < n
    · rcases hcase with ⟨r', rfl, hrun⟩ | ⟨rfl, hno⟩
      · obtain ⟨z, hz, hzl⟩ := atR_pos HR.out
        rw [hz] at c1
        have hz0 : (0 : Int) ≤ (z : Int) := by omega
        have HI := Lib.hid (rint_any m C A p (some r') wr HR)
        have HRUN := Lib.hid hrun
        obtain ⟨x, hx⟩ : ∃ x, x = (intS (some r')).1 := ⟨_, rfl⟩
        obtain ⟨s2, hs2⟩ : ∃ s2, s2 = (intS (some r')).2 := ⟨_, rfl⟩
        rw [← hx, ← hs2] at HI
        have HNX : Hid (Wf64 x ∧ ((∃ r2, s2 = some r2 ∧ runS zP (k + 1) r = some (xs ++ [x], r2)) ∨ (s2 = none ∧ runS zP n r = none))) := Lib.hid (by
          rcases hzp : zP r' with _ | ⟨y, r2⟩
          · rw [intS_none hzp] at hx hs2
            refine ⟨by rw [hx]; show Wf64 0; unfold Wf64; omega, .inr ⟨hs2, runS_none hrun hzp n hlt⟩⟩
          · rw [intS_some hzp] at hx hs2
            refine ⟨by rw [hx]; exact zP_wf hzp HR.out.wf, .inl ⟨r2, hs2, by rw [hx]; exact runS_some hrun hzp⟩⟩)
        have hbs0 := HK.out.size
        clear hrun hx hs2 hz hzl
        go_wp2_with (first
          | (go_at_call 57; (with_reducible refine (HI.out).mono ?_); rintro e w4 hy; obtain ⟨rfl, HR4, HK4⟩ := hy.at; have HAX := Lib.hid (is_one w4 x HNX.out.1); have HKB : Hid (Kept (fun _ => False) w4 (w4.alloc (.cells #[.int .i64 x] 2))) := Lib.hid ((Kept.refl _ _).alloc _); have HO4 := Lib.hid (HO.out.keptG HK4.out HLT.out); have HOX := Lib.hid (HO4.out.keep ((Below.refl w4.heap.size w4).alloc (Nat.le_refl _) (.cells #[.int .i64 x] 2))); have hbs : w.heap.size ≤ (w4.alloc (.cells #[.int .i64 x] 2)).heap.size := Nat.le_trans hbs0 (Nat.le_trans HK4.out.size HKB.out.size); clear hy)
          | (refine wpList_append_is rfl (.tmp 162) (.tmp 165) rfl w.heap.size A' k cap' _ rfl HOX.out ⟨w4.heap.size, 0, none⟩ 1 1 [x] rfl rfl HAX.out (by omega) hbs ?_; intro A3 c3 w5 ho hg; have HO5 := Lib.hid ho; have HK5 : Hid (Kept (fun k => A'.map (·.block) = some k) (w4.alloc (.cells #[.int .i64 x] 2)) w5) := Lib.hid (Kept.of_grown hg); clear ho hg))
        go_roundw
        case rel =>
          have hb := HO.out.base
          have hm1 : ¬ A'.map (·.block) = some m := fun e => by have := hb m e; have := HLT.out; omega
          have ho1 : Off (fun k => A'.map (·.block) = some k) A p := fun a ha h0 e => by have := hb _ e; have := HBLK.out a ha h0; omega
          have hr5 : RRA w5 m A C p s2 := (HR4.out.keep HKB.out (fun e => e) (fun a _ _ e => e)).keep HK5.out hm1 ho1
          have hk5 : Kept (Only m) w w5 := ((HK.out.trans HK4.out).trans' HKB.out (fun i h => h.elim)).trans' HK5.out (fun i h => .inr (hb i h))
          exact ⟨k + 1, A3, c3, xs ++ [x], s2, by omega, by go_num, rfl, HO5.out, hr5, hk5, HNX.out.2⟩
        case measure => simp [intOf]; omega
      · have HE := Lib.hid (r0_ends (o := runS zP n r) HR.out HK.out HO.out (.inr ⟨rfl, hno⟩))
        have c1 : wr.cell? ⟨m, 1, none⟩ = some (.int .i64 (-1)) := c1
        clear hno
        go_wp2
        go_ret
        exact HE.out
    · obtain rfl : k = n := by omega
      have HE := Lib.hid (r0_ends (o := runS zP k r) HR.out HK.out HO.out hcase)
      clear hcase c1
      go_wp2
      go_ret
      exact HE.out
end Go.Proofs.YtpobfgokikfmbaaDoor

set_option linter.unusedSimpArgs false
set_option linter.unusedVariables false
set_option maxRecDepth 8000
namespace Go.Proofs.YtpobfgokikfmbaaDoor
open Go.RowKit Go.WideShapes Col
/-- The loop over numbers laid as distances. -/
def R1 (w : World) (m C : Nat) (A : Option Addr) (p r : List Nat) (n : Nat) (u t v : Value) (wr : World) : Prop :=
  ∃ (k : Nat) (A' : Option Addr) (cap' : Nat) (xs : List Int) (s' : Option (List Nat)) (last : Int), k ≤ n ∧ v = .int .i64 (k : Int) ∧ t = .int .i64 last ∧ u = .slice A' k cap' ∧ OwnI wr w.heap.size A' k cap' xs ∧ RRA wr m A C p s' ∧ Kept (Only m) w wr ∧ Wf64 last ∧
    ((∃ r', s' = some r' ∧ runS dstep k (0, r) = some (xs, (last, r'))) ∨ (s' = none ∧ runS dstep n (0, r) = none))
theorem wrapW (x : Int) : Wf64 (IntKind.i64.wrap x) := by unfold Wf64; rw [IntKind.wrap_i64]; omega
set_option maxHeartbeats 4000000 in
theorem rints1_any (m C : Nat) (A : Option Addr) (p q r : List Nat) (n : Nat) (hu : Hid (uP 4096 q = some (n, r))) (hn : n ≤ 4096) (w : World) (H : Hid (RRA w m A C p (some (1 :: q)))) :
    Calls Tryd.prog 39 #[.pointer (some ⟨m, 0, none⟩)] w (RIEnds w m C A p (allOf (rdDelta n r))) := by
  have HB : Hid (Calls Tryd.prog 56 #[.pointer (some ⟨m, 0, none⟩)] w (RByte w m A C p (.int .u8 1) (some q))) := Lib.hid (rbyte_any m C A p (some (1 :: q)) w H)
  have HU : Hid (∀ w2, Hid (RRA w2 m A C p (some q)) → Calls Tryd.prog 38 #[.pointer (some ⟨m, 0, none⟩), .int .u64 4096] w2 (RByte w2 m A C p (.int .u64 (n : Int)) (some r))) := Lib.hid fun w2 h => by
    have := ruint_any m C A p 4096 (some q) w2 h
    rw [uintS_some hu.out] at this; exact this
  have HBLK := Lib.hid H.out.blk
  have HLT := Lib.hid H.out.lt
  have hni : IntKind.i64.wrap (n : Int) = (n : Int) := by rw [IntKind.wrap_i64]; omega
  go_enter Tryd.func39, Tryd.ntmps39
  go_wp2_with (first
    | (go_at_call 56; (with_reducible refine (HB.out).mono ?_); rintro e w2 hy; obtain ⟨rfl, HR2, HK2⟩ := hy.at; clear hy)
    | (go_at_call 38; (refine (HU.out _ HR2).mono ?_); rintro e w3 hy; obtain ⟨rfl, HR3, HK3⟩ := hy.at; have HST : Hid (R1 w m C A p r n (.slice none 0 0) (.int .i64 0) (.int .i64 0) w3) := Lib.hid ⟨0, none, 0, [], some r, 0, Nat.zero_le _, rfl, rfl, rfl, OwnI.nil _ _, HR3.out, HK2.out.trans HK3.out, by unfold Wf64; omega, .inl ⟨r, rfl, rfl⟩⟩; obtain ⟨z, hz, hzl⟩ := atR_pos HR3.out; have c1 := HR3.out.c1; rw [hz] at c1; have hz0 : ¬ ((z : Int) < 0) := (by omega); clear hy hz))
  clear c1 hz0 hzl
  go_loopw [5, 7, 8] (fun u t v wr => R1 w m C A p r n u t v wr) (fun _ _ v _ => n - (intOf v).toNat)
  case atStart => exact HST.out
  case round =>
    obtain ⟨k, A', cap', xs, s', last, hk, rfl, rfl, rfl, ho, hr, hkp, hlast, hcase⟩ := hrel
    have HO := Lib.hid ho; have HR := Lib.hid hr; have HK := Lib.hid hkp
    clear ho hr hkp HST
    have c1 := HR.out.c1
    by_cases hlt : k < n
    · rcases hcase with ⟨r', rfl, hrun⟩ | ⟨rfl, hno⟩
      · obtain ⟨z, hz, hzl⟩ := atR_pos HR.out
        rw [hz] at c1
        have hz0 : (0 : Int) ≤ (z : Int) := by omega
        have HI := Lib.hid (rint_any m C A p (some r') wr HR)
        have HRUN := Lib.hid hrun
        obtain ⟨x, hx⟩ : ∃ x, x = (intS (some r')).1 := ⟨_, rfl⟩
        obtain ⟨s2, hs2⟩ : ∃ s2, s2 = (intS (some r')).2 := ⟨_, rfl⟩
        rw [← hx, ← hs2] at HI
        obtain ⟨y, hy⟩ : ∃ y, y = IntKind.i64.wrap (last + x) := ⟨_, rfl⟩
        have hyw : IntKind.i64.wrap (last + x) = y := hy.symm
        have HNX : Hid (Wf64 y ∧ ((∃ r2, s2 = some r2 ∧ runS dstep (k + 1) (0, r) = some (xs ++ [y], (y, r2))) ∨ (s2 = none ∧ runS dstep n (0, r) = none))) := Lib.hid (by
          refine ⟨by rw [hy]; exact wrapW _, ?_⟩
          rcases hzp : zP r' with _ | ⟨y0, r2⟩
          · rw [intS_none hzp] at hx hs2
            exact .inr ⟨hs2, runS_none hrun (by unfold dstep; simp [hzp]) n hlt⟩
          · rw [intS_some hzp] at hx hs2
            exact .inl ⟨r2, hs2, by rw [hy, hx, i64_wrap]; exact runS_some hrun (by unfold dstep; simp [hzp])⟩)
        have hbs0 := HK.out.size
        clear hrun hx hs2 hz hzl hy hlast
        go_wp2_with (first
          | (go_at_call 57; (with_reducible refine (HI.out).mono ?_); rintro e w4 h7; obtain ⟨rfl, HR4, HK4⟩ := h7.at; have HAX := Lib.hid (is_one w4 y HNX.out.1); have HKB : Hid (Kept (fun _ => False) w4 (w4.alloc (.cells #[.int .i64 y] 2))) := Lib.hid ((Kept.refl _ _).alloc _); have HO4 := Lib.hid (HO.out.keptG HK4.out HLT.out); have HOX := Lib.hid (HO4.out.keep ((Below.refl w4.heap.size w4).alloc (Nat.le_refl _) (.cells #[.int .i64 y] 2))); have hbs : w.heap.size ≤ (w4.alloc (.cells #[.int .i64 y] 2)).heap.size := Nat.le_trans hbs0 (Nat.le_trans HK4.out.size HKB.out.size); clear h7)
          | (refine wpList_append_is rfl (.tmp 185) (.tmp 187) rfl w.heap.size A' k cap' _ rfl HOX.out ⟨w4.heap.size, 0, none⟩ 1 1 [y] rfl rfl HAX.out (by omega) hbs ?_; intro A3 c3 w5 ho hg; have HO5 := Lib.hid ho; have HK5 : Hid (Kept (fun k => A'.map (·.block) = some k) (w4.alloc (.cells #[.int .i64 y] 2)) w5) := Lib.hid (Kept.of_grown hg); clear ho hg))
        go_roundw
        case rel =>
          have hb := HO.out.base
          have hm1 : ¬ A'.map (·.block) = some m := fun e => by have := hb m e; have := HLT.out; omega
          have ho1 : Off (fun k => A'.map (·.block) = some k) A p := fun a ha h0 e => by have := hb _ e; have := HBLK.out a ha h0; omega
          have hr5 : RRA w5 m A C p s2 := (HR4.out.keep HKB.out (fun e => e) (fun a _ _ e => e)).keep HK5.out hm1 ho1
          have hk5 : Kept (Only m) w w5 := ((HK.out.trans HK4.out).trans' HKB.out (fun i h => h.elim)).trans' HK5.out (fun i h => .inr (hb i h))
          exact ⟨k + 1, A3, c3, xs ++ [y], s2, y, by omega, by go_num, by go_num, rfl, HO5.out, hr5, hk5, HNX.out.1, HNX.out.2⟩
        case measure => simp [intOf]; omega
      · have HE := Lib.hid (r0_ends (o := rdDelta n r) HR.out HK.out HO.out (.inr ⟨rfl, by unfold rdDelta; rw [hno]; rfl⟩))
        have c1 : wr.cell? ⟨m, 1, none⟩ = some (.int .i64 (-1)) := c1
        clear hno
        go_wp2
        go_ret
        exact HE.out
    · obtain rfl : k = n := by omega
      have HE := Lib.hid (r0_ends (o := rdDelta k r) HR.out HK.out HO.out (hcase.imp (fun ⟨r', h1, h2⟩ => ⟨r', h1, by unfold rdDelta; rw [h2]; rfl⟩) fun ⟨h1, h2⟩ => ⟨h1, by unfold rdDelta; rw [h2]; rfl⟩))
      clear hcase c1
      go_wp2
      go_ret
      exact HE.out
end Go.Proofs.YtpobfgokikfmbaaDoor

set_option linter.unusedSimpArgs false
set_option linter.unusedVariables false
set_option maxRecDepth 8000
namespace Go.Proofs.YtpobfgokikfmbaaDoor
open Go.RowKit Go.WideShapes Col
/-- The loop over runs. -/
def R2 (w : World) (m C : Nat) (A : Option Addr) (p r : List Nat) (n : Nat) (u : Value) (wr : World) : Prop :=
  ∃ (L : Nat) (A' : Option Addr) (cap' : Nat) (l : List Int) (s' : Option (List Nat)), L ≤ n ∧ L = l.length ∧ u = .slice A' L cap' ∧ OwnI wr w.heap.size A' L cap' l ∧ RRA wr m A C p s' ∧ Kept (Only m) w wr ∧
    ((∃ r', s' = some r' ∧ rruns n r = (rruns (n - L) r').map fun t => (l ++ t.1, t.2)) ∨ (s' = none ∧ rruns n r = none))
/-- One run's numbers, put behind. -/
def R2i (w : World) (m C : Nat) (A : Option Addr) (p : List Nat) (s : Option (List Nat)) (l : List Int) (L R : Nat) (x : Int) (u v : Value) (wr : World) : Prop :=
  ∃ (j N : Nat) (A' : Option Addr) (cap' : Nat), j ≤ R ∧ v = .int .i64 (j : Int) ∧ u = .slice A' N cap' ∧ N = L + j ∧ OwnI wr w.heap.size A' N cap' (l ++ List.replicate j x) ∧ RRA wr m A C p s ∧ Kept (Only m) w wr
set_option maxHeartbeats 8000000 in
theorem rints2_any (m C : Nat) (A : Option Addr) (p q r : List Nat) (n : Nat) (hu : Hid (uP 4096 q = some (n, r))) (hn : n ≤ 4096) (w : World) (H : Hid (RRA w m A C p (some (2 :: q)))) :
    Calls Tryd.prog 39 #[.pointer (some ⟨m, 0, none⟩)] w (RIEnds w m C A p (allOf (rruns n r))) := by
  have HB : Hid (Calls Tryd.prog 56 #[.pointer (some ⟨m, 0, none⟩)] w (RByte w m A C p (.int .u8 2) (some q))) := Lib.hid (rbyte_any m C A p (some (2 :: q)) w H)
  have HU : Hid (∀ w2, Hid (RRA w2 m A C p (some q)) → Calls Tryd.prog 38 #[.pointer (some ⟨m, 0, none⟩), .int .u64 4096] w2 (RByte w2 m A C p (.int .u64 (n : Int)) (some r))) := Lib.hid fun w2 h => by
    have := ruint_any m C A p 4096 (some q) w2 h
    rw [uintS_some hu.out] at this; exact this
  have HBLK := Lib.hid H.out.blk
  have HLT := Lib.hid H.out.lt
  have hni : IntKind.i64.wrap (n : Int) = (n : Int) := by rw [IntKind.wrap_i64]; omega
  go_enter Tryd.func39, Tryd.ntmps39
  go_wp2_with (first
    | (go_at_call 56; (with_reducible refine (HB.out).mono ?_); rintro e w2 hy; obtain ⟨rfl, HR2, HK2⟩ := hy.at; clear hy)
    | (go_at_call 38; (refine (HU.out _ HR2).mono ?_); rintro e w3 hy; obtain ⟨rfl, HR3, HK3⟩ := hy.at; have HST : Hid (R2 w m C A p r n (.slice none 0 0) w3) := Lib.hid ⟨0, none, 0, [], some r, Nat.zero_le _, rfl, rfl, OwnI.nil _ _, HR3.out, HK2.out.trans HK3.out, .inl ⟨r, rfl, by rw [Nat.sub_zero]; rcases rruns n r with _ | t <;> simp⟩⟩; obtain ⟨z, hz, hzl⟩ := atR_pos HR3.out; have c1 := HR3.out.c1; rw [hz] at c1; have hz0 : ¬ ((z : Int) < 0) := (by omega); clear hy hz))
  clear c1 hz0 hzl
  go_loopw [5] (fun u wr => R2 w m C A p r n u wr) (fun u _ => n - lenOfS u)
  case atStart => exact HST.out
  case round =>
    obtain ⟨L, A', cap', l, s', hL, hLl, rfl, ho, hr, hkp, hcase⟩ := hrel
    have HO := Lib.hid ho; have HR := Lib.hid hr; have HK := Lib.hid hkp; have HLL := Lib.hid hLl
    clear ho hr hkp HST hLl
    have c1 := HR.out.c1
    by_cases hlt : L < n
    · rcases hcase with ⟨r', rfl, hrun⟩ | ⟨rfl, hno⟩
      · obtain ⟨z, hz, hzl⟩ := atR_pos HR.out
        rw [hz] at c1
        have hz0 : (0 : Int) ≤ (z : Int) := by omega
        obtain ⟨M, hM⟩ : ∃ M, n - L = M + 1 := ⟨n - L - 1, by omega⟩
        have hmw : IntKind.u64.wrap (M : Int) = (M : Int) := by rw [IntKind.wrap_u64]; omega
        have hd3 : (n : Int) - (L : Int) - 1 = (M : Int) := by omega
        have hd1 : (n : Int) - (L : Int) = ((M + 1 : Nat) : Int) := by omega
        have hd2 : ((M + 1 : Nat) : Int) - 1 = (M : Int) := by omega
        have HI := Lib.hid (rint_any m C A p (some r') wr HR)
        obtain ⟨x, hx⟩ : ∃ x, x = (intS (some r')).1 := ⟨_, rfl⟩
        obtain ⟨s1, hs1⟩ : ∃ s1, s1 = (intS (some r')).2 := ⟨_, rfl⟩
        rw [← hx, ← hs1] at HI
        have HU1 := Lib.hid fun w2 h => ruint_any m C A p M s1 w2 h
        obtain ⟨K, hK⟩ : ∃ K, K = (uintS M s1).1 := ⟨_, rfl⟩
        obtain ⟨s2, hs2⟩ : ∃ s2, s2 = (uintS M s1).2 := ⟨_, rfl⟩
        rw [← hK, ← hs2] at HU1
        have hfacts : Wf64 x ∧ K ≤ M ∧ ((∃ r2, s2 = some r2 ∧ rruns n r = (rruns (n - (L + (K + 1))) r2).map fun t => ((l ++ List.replicate (K + 1) x) ++ t.1, t.2)) ∨ (s2 = none ∧ rruns n r = none)) := by
          rw [hM] at hrun
          rcases hzp : zP r' with _ | ⟨y, ra⟩
          · rw [intS_none hzp] at hx hs1
            rw [hs1] at hK hs2
            refine ⟨by rw [hx]; show Wf64 0; unfold Wf64; omega, by rw [hK]; exact Nat.zero_le _, .inr ⟨hs2, by rw [hrun, rruns_no1 hzp]; rfl⟩⟩
          · rw [intS_some hzp] at hx hs1
            rw [hs1] at hK hs2
            refine ⟨by rw [hx]; exact zP_wf hzp HR.out.wf, ?_⟩
            rcases hup : uP M ra with _ | ⟨K2, r2⟩
            · have e : uintS M (some ra) = (0, none) := uintS_none hup
              rw [e] at hK hs2
              exact ⟨by rw [hK]; exact Nat.zero_le _, .inr ⟨hs2, by rw [hrun, rruns_no2 hzp hup]; rfl⟩⟩
            · have e : uintS M (some ra) = (K2, some r2) := uintS_some hup
              rw [e] at hK hs2
              have hk2 := (uP_some hup).2
              subst hK
              refine ⟨hk2, .inl ⟨r2, hs2, ?_⟩⟩
              rw [hrun, rruns_yes hzp hup, Option.map_map, show n - (L + (K + 1)) = M - K by omega, hx]
              congr 1; funext t; simp
        obtain ⟨hwx, hKM, hnx⟩ := hfacts
        have HWX := Lib.hid hwx; have HNX := Lib.hid hnx
        obtain ⟨R, hR⟩ : ∃ R, R = K + 1 := ⟨_, rfl⟩
        rw [← hR] at HNX
        have HRK := Lib.hid hR
        have hki : IntKind.i64.wrap (K : Int) = (K : Int) := by rw [IntKind.wrap_i64]; omega
        have hLR : L + R ≤ n := by omega
        have hbs0 := HK.out.size
        clear hrun hx hs1 hK hs2 hz hzl hwx hnx hM hR
        go_wp2_with (first
          | (go_at_call 57; (with_reducible refine (HI.out).mono ?_); rintro e w4 hy; obtain ⟨rfl, HR4, HK4⟩ := hy.at; clear hy)
          | (go_at_call 38; (refine (HU1.out _ HR4).mono ?_); rintro e w5 hy; obtain ⟨rfl, HR5, HK5⟩ := hy.at; have HV : Hid (R2i w m C A p s2 l L R x (.slice A' L cap') (.int .i64 0) w5) := Lib.hid ⟨0, L, A', cap', Nat.zero_le _, rfl, rfl, rfl, by simpa using (HO.out.keptG HK4.out HLT.out).keptG HK5.out HLT.out, HR5.out, (HK.out.trans HK4.out).trans HK5.out⟩; clear hy))
        clear HI HU1 HR4 HK4 HR5 HK5 HO HR HK c1 hz0 hd1 hd2 hd3 hmw
        go_loopw [5, 11] (fun u v wk => R2i w m C A p s2 l L R x u v wk) (fun _ v _ => R - (intOf v).toNat)
        case atStart => exact HV.out
        case round =>
          obtain ⟨j, N, A2, c2, hj, rfl, rfl, hN, ho, hr, hk⟩ := hrel
          have HO2 := Lib.hid ho; have HR2 := Lib.hid hr; have HK2 := Lib.hid hk
          have HNE := Lib.hid hN
          have hN4 : N ≤ 4096 := by omega
          clear ho hr hk HV hN
          by_cases hjR : j < R
          · have hjK : (j : Int) ≤ (K : Int) := by have := HRK.out; omega
            have HAX := Lib.hid (is_one wr x HWX.out)
            have HKB : Hid (Kept (fun _ => False) wr (wr.alloc (.cells #[.int .i64 x] 2))) := Lib.hid ((Kept.refl _ _).alloc _)
            have HOX := Lib.hid (HO2.out.keep ((Below.refl wr.heap.size wr).alloc (Nat.le_refl _) (.cells #[.int .i64 x] 2)))
            have hbs : w.heap.size ≤ (wr.alloc (.cells #[.int .i64 x] 2)).heap.size := Nat.le_trans HK2.out.size HKB.out.size
            go_wp2_with (refine wpList_append_is rfl (.tmp 218) (.tmp 220) rfl w.heap.size A2 N c2 _ rfl HOX.out ⟨wr.heap.size, 0, none⟩ 1 1 [x] rfl rfl HAX.out (by omega) hbs ?_; intro A3 c3 w6 ho hg; have HO6 := Lib.hid ho; have HK6 : Hid (Kept (fun k => A2.map (·.block) = some k) (wr.alloc (.cells #[.int .i64 x] 2)) w6) := Lib.hid (Kept.of_grown hg); clear ho hg)
            go_roundw
            case rel =>
              have hb := HO2.out.base
              have hm1 : ¬ A2.map (·.block) = some m := fun e => by have := hb m e; have := HLT.out; omega
              have ho1 : Off (fun k => A2.map (·.block) = some k) A p := fun a ha h0 e => by have := hb _ e; have := HBLK.out a ha h0; omega
              have hr5 : RRA w6 m A C p s2 := (HR2.out.keep HKB.out (fun e => e) (fun a _ _ e => e)).keep HK6.out hm1 ho1
              have hk5 : Kept (Only m) w w6 := (HK2.out.trans' HKB.out (fun i h => h.elim)).trans' HK6.out (fun i h => .inr (hb i h))
              exact ⟨j + 1, N + 1, A3, c3, by omega, by go_num, rfl, by have := HNE.out; omega, by rw [← rep_snoc]; exact HO6.out, hr5, hk5⟩
            case measure => simp [intOf]; omega
          · obtain rfl : j = R := by omega
            have hjK : ¬ (j : Int) ≤ (K : Int) := by have := HRK.out; omega
            go_wp2
            go_roundw
            case rel => exact ⟨N, A2, c2, l ++ List.replicate j x, s2, by have := HNE.out; omega, by rw [List.length_append, List.length_replicate, ← HLL.out]; exact HNE.out, rfl, HO2.out, HR2.out, HK2.out, by rw [HNE.out]; exact HNX.out⟩
            case measure => have := HNE.out; have := HRK.out; simp [lenOfS]; omega
      · have HE := Lib.hid (r0_ends (o := rruns n r) HR.out HK.out HO.out (.inr ⟨rfl, hno⟩))
        have c1 : wr.cell? ⟨m, 1, none⟩ = some (.int .i64 (-1)) := c1
        clear hno
        go_wp2
        go_ret
        exact HE.out
    · obtain rfl : L = n := by omega
      have HE := Lib.hid (r0_ends (o := rruns L r) HR.out HK.out HO.out (hcase.imp (fun ⟨r', h1, h2⟩ => ⟨r', h1, by rw [h2, Nat.sub_self, rruns_zero]; simp⟩) id))
      clear hcase c1
      go_wp2
      go_ret
      exact HE.out
end Go.Proofs.YtpobfgokikfmbaaDoor

set_option linter.unusedSimpArgs false
set_option linter.unusedVariables false
set_option maxRecDepth 8000
namespace Go.Proofs.YtpobfgokikfmbaaDoor
open Go.RowKit Go.WideShapes Col
set_option maxHeartbeats 2000000 in
theorem rintsNo_any (m C : Nat) (A : Option Addr) (p : List Nat) (s s1 s2 : Option (List Nat)) (b n : Nat) (hb : Hid (byteS s = (b, s1))) (hu : Hid (uintS 4096 s1 = (n, s2))) (hn : n ≤ 4096) (hno : s2 = none ∨ 3 < b) (w : World) (H : Hid (RRA w m A C p s)) :
    Calls Tryd.prog 39 #[.pointer (some ⟨m, 0, none⟩)] w (RIEnds w m C A p none) := by
  have HB : Hid (Calls Tryd.prog 56 #[.pointer (some ⟨m, 0, none⟩)] w (RByte w m A C p (.int .u8 (b : Int)) s1)) := Lib.hid (by have := rbyte_any m C A p s w H; rw [hb.out] at this; exact this)
  have HU : Hid (∀ w2, Hid (RRA w2 m A C p s1) → Calls Tryd.prog 38 #[.pointer (some ⟨m, 0, none⟩), .int .u64 4096] w2 (RByte w2 m A C p (.int .u64 (n : Int)) s2)) := Lib.hid fun w2 h => by
    have := ruint_any m C A p 4096 s1 w2 h
    rw [hu.out] at this; exact this
  have hni : IntKind.i64.wrap (n : Int) = (n : Int) := by rw [IntKind.wrap_i64]; omega
  have hend : Hid (∀ w3 : World, RRA w3 m A C p s2 → Kept (Only m) w w3 → RIEnds w m C A p none (.returned (.slice none 0 0)) (w3.setCell ⟨m, 1, none⟩ (.int .i64 (-1)))) := Lib.hid fun w3 h1 h2 => ⟨none, 0, 0, none, rfl, by simp, h1.put (s' := none) (fun q h => by cases h), h2.setCell _ _ (.inl rfl)⟩
  rcases s2 with _ | q2
  · go_enter Tryd.func39, Tryd.ntmps39
    go_wp2_with (first
      | (go_at_call 56; (with_reducible refine (HB.out).mono ?_); rintro e w2 hy; obtain ⟨rfl, HR2, HK2⟩ := hy.at; clear hy)
      | (go_at_call 38; (refine (HU.out _ HR2).mono ?_); rintro e w3 hy; obtain ⟨rfl, HR3, HK3⟩ := hy.at; have c1 : w3.cell? ⟨m, 1, none⟩ = some (.int .i64 (-1)) := HR3.out.c1; have f1 := HR3.out.fr 1; clear hy))
    go_ret
    exact hend.out _ HR3.out (HK2.out.trans HK3.out)
  · have h3 : (3 : Int) < (b : Int) := by rcases hno with h | h; cases h; omega
    clear hno
    go_enter Tryd.func39, Tryd.ntmps39
    go_wp2_with (first
      | (go_at_call 56; (with_reducible refine (HB.out).mono ?_); rintro e w2 hy; obtain ⟨rfl, HR2, HK2⟩ := hy.at; clear hy)
      | (go_at_call 38; (refine (HU.out _ HR2).mono ?_); rintro e w3 hy; obtain ⟨rfl, HR3, HK3⟩ := hy.at; obtain ⟨z, hz, hzl⟩ := atR_pos HR3.out; have c1 := HR3.out.c1; rw [hz] at c1; have hz0 : ¬ ((z : Int) < 0) := (by omega); have f1 := HR3.out.fr 1; clear hy hz))
    go_ret
    exact hend.out _ HR3.out (HK2.out.trans HK3.out)
end Go.Proofs.YtpobfgokikfmbaaDoor

set_option linter.unusedSimpArgs false
set_option linter.unusedVariables false
set_option maxRecDepth 8000
namespace Go.Proofs.YtpobfgokikfmbaaDoor
open Go.RowKit Go.WideShapes Col
theorem b_quo8 (T : Nat) (hT : T ≤ 1000000) (w : World) : (binOp .quo 3 (.int .i64 (T : Int)) (.int .i64 8)).run Tryd.prog w = .ok (.int .i64 ((T / 8 : Nat) : Int)) w := by
  have e : IntKind.i64.wrap ((T : Int).tdiv 8) = ((T / 8 : Nat) : Int) := by rw [IntKind.wrap_i64, Int.tdiv_eq_ediv_of_nonneg (by omega)]; omega
  rw [← e]; rfl
theorem b_rem8 (T : Nat) (hT : T ≤ 1000000) (w : World) : (binOp .rem 3 (.int .i64 (T : Int)) (.int .i64 8)).run Tryd.prog w = .ok (.int .i64 ((T % 8 : Nat) : Int)) w := by
  have e : (T : Int).tmod 8 = ((T % 8 : Nat) : Int) := by rw [Int.tmod_eq_emod_of_nonneg (by omega)]; omega
  rw [← e]; rfl
theorem b_addN (a b : Nat) (h : a + b ≤ 100000000) (w : World) : (binOp .add 3 (.int .i64 (a : Int)) (.int .i64 (b : Int))).run Tryd.prog w = .ok (.int .i64 ((a + b : Nat) : Int)) w := by
  have e : IntKind.i64.wrap ((a : Int) + (b : Int)) = ((a + b : Nat) : Int) := by rw [IntKind.wrap_i64]; omega
  rw [← e]; rfl
theorem b_subN (a b : Nat) (h : b ≤ a) (h2 : a ≤ 100000000) (w : World) : (binOp .sub 3 (.int .i64 (a : Int)) (.int .i64 (b : Int))).run Tryd.prog w = .ok (.int .i64 ((a - b : Nat) : Int)) w := by
  have e : IntKind.i64.wrap ((a : Int) - (b : Int)) = ((a - b : Nat) : Int) := by rw [IntKind.wrap_i64]; omega
  rw [← e]; rfl
theorem b_mulN (a b : Nat) (h : a * b ≤ 100000000) (w : World) : (binOp .mul 3 (.int .i64 (a : Int)) (.int .i64 (b : Int))).run Tryd.prog w = .ok (.int .i64 ((a * b : Nat) : Int)) w := by
  have e : IntKind.i64.wrap ((a : Int) * (b : Int)) = ((a * b : Nat) : Int) := by rw [IntKind.wrap_i64, ← Int.natCast_mul]; omega
  rw [← e]; rfl
theorem b_neqN (a b : Nat) (c : Bool) (h : (a != b) = c) (w : World) : (binOp .neq 3 (.int .i64 (a : Int)) (.int .i64 (b : Int))).run Tryd.prog w = .ok (.bool c) w := by
  subst h
  have e : (a != b) = ((a : Int) != (b : Int)) := by rw [Bool.eq_iff_iff, bne_iff_ne, bne_iff_ne]; omega
  rw [e]; first | rfl | go_simp
theorem b_shr8 (b s : Nat) (hb : b < 256) (hs : s < 8) (w : World) : (binOp .shr 5 (.int .u8 (b : Int)) (.int .i64 (s : Int))).run Tryd.prog w = .ok (.int .u8 ((b / 2 ^ s : Nat) : Int)) w := by
  have h1 : (s : Int) < 8 := by omega
  rw [← shr_u8 b s hb hs]
  go_simp
theorem b_rem2 (x : Nat) (hx : x < 256) (w : World) : (binOp .rem 5 (.int .u8 (x : Int)) (.int .u8 2)).run Tryd.prog w = .ok (.int .u8 ((x % 2 : Nat) : Int)) w := by
  have e : (x : Int).tmod 2 = ((x % 2 : Nat) : Int) := by rw [Int.tmod_eq_emod_of_nonneg (by omega)]; omega
  rw [← e]; rfl
theorem b_shl64 (b k : Nat) (hb : b < 2) (hk : k < 64) (w : World) : (binOp .shl 33 (.int .u64 (b : Int)) (.int .i64 (k : Int))).run Tryd.prog w = .ok (.int .u64 ((b * 2 ^ k : Nat) : Int)) w := by
  have h1 : (k : Int) < 64 := by omega
  have h2 : b * 2 ^ k < 18446744073709551616 := by
    have h3 : 2 ^ k ≤ 2 ^ 63 := Nat.pow_le_pow_right (by decide) (by omega)
    have h4 : b * 2 ^ k ≤ 1 * 2 ^ k := Nat.mul_le_mul_right _ (by omega)
    omega
  have e : IntKind.u64.wrap ((b : Int) * 2 ^ k) = ((b * 2 ^ k : Nat) : Int) := by
    have e1 : (b : Int) * 2 ^ k = ((b * 2 ^ k : Nat) : Int) := by rw [Int.natCast_mul, Int.natCast_pow]; rfl
    rw [e1, IntKind.wrap_u64]; omega
  go_simp
theorem b_add64 (a b : Nat) (h : a + b < 18446744073709551616) (w : World) : (binOp .add 33 (.int .u64 (a : Int)) (.int .u64 (b : Int))).run Tryd.prog w = .ok (.int .u64 ((a + b : Nat) : Int)) w := by
  have e : IntKind.u64.wrap ((a : Int) + (b : Int)) = ((a + b : Nat) : Int) := by rw [IntKind.wrap_u64]; omega
  rw [← e]; rfl
theorem b_eql1 (x : Nat) (c : Bool) (h : (x == 1) = c) (w : World) : (binOp .eql 5 (.int .u8 (x : Int)) (.int .u8 1)).run Tryd.prog w = .ok (.bool c) w := by
  subst h
  have e : (x == 1) = ((x : Int) == 1) := by rw [Bool.eq_iff_iff, beq_iff_eq, beq_iff_eq]; omega
  rw [e]; first | rfl | go_simp
theorem c_u8 (x : Nat) (hx : x < 256) (w : World) : (convert 5 33 (.int .u8 (x : Int))).run Tryd.prog w = .ok (.int .u64 (x : Int)) w := by
  have e : IntKind.u64.wrap (x : Int) = (x : Int) := by rw [IntKind.wrap_u64]; omega
  go_simp
theorem yb_cv {ops : Array Oper} {S : World → Prop} {op : Oper} {a : Act} (hw : Region.wanted op (yielded ops a.tmps) = true) (f t : TypeId) (x : Operand) (ho : op.op = .convert f t x) (v u : Value) (hx : a.eval x = v)
    (h : ∀ w, (convert f t v).run Tryd.prog w = .ok u w) : YieldsIf Tryd.prog ops S op u a :=
  .inl ⟨hw, fun w hw' => by
    unfold execOp
    simp only [ho, hx, Sem.run_bind, Sem.run_pure, h w, Result.andThen_ok]⟩
theorem yb_ixb {ops : Array Oper} {S : World → Prop} {op : Oper} {a : Act} (hw : Region.wanted op (yielded ops a.tmps) = true) (x y : Operand) (ho : op.op = .indexAddr 22 x y) (g off m c k : Nat) (hx : a.eval x = .slice (some ⟨g, off, none⟩) m c) (hy : a.eval y = .int .i64 (k : Int)) (h : k < m) : YieldsIf Tryd.prog ops S op (.pointer (some ⟨g, off + k, none⟩)) a :=
  .inl ⟨hw, fun w _ => by
    unfold execOp
    have e : (Instr.indexAt 22 (.slice (some ⟨g, off, none⟩) m c) (.int .i64 (k : Int))).run Tryd.prog w = .ok (.pointer (some ⟨g, off + k, none⟩)) w := by
      have h1 : (k : Int) < (m : Int) := by omega
      first | (go_simp; done) | (go_simp; intro h; exfalso; omega)
    simp only [ho, hx, hy, Sem.run_bind, Sem.run_pure, Result.andThen_ok, e]⟩
theorem lv_u8 (w : World) (g j : Nat) (v : Value) (h : w.cell? ⟨g, j, none⟩ = some v) : (loadVar 5 ⟨g, j, none⟩).run Tryd.prog w = .ok v w := by
  go_simp
theorem yb_ldb {ops : Array Oper} {S : World → Prop} {op : Oper} {a : Act} (hw : Region.wanted op (yielded ops a.tmps) = true) (x : Operand) (ho : op.op = .load 5 x) (g j : Nat) (hx : a.eval x = .pointer (some ⟨g, j, none⟩)) (v : Value)
    (hS : ∀ w, S w → w.cell? ⟨g, j, none⟩ = some v) : YieldsIf Tryd.prog ops S op v a :=
  .inl ⟨hw, fun w hw' => by
    unfold execOp
    simp only [ho, hx, Instr.loadAt, Instr.sureAddr, Sem.run_bind, Sem.run_pure, Result.andThen_ok, lv_u8 w g j v (hS w hw')]⟩
end Go.Proofs.YtpobfgokikfmbaaDoor
