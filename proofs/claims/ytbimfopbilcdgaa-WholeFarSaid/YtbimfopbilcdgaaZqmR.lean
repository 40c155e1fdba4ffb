/-
  Layer whole: the document's Panes in memory, told alike the program's.
-/
import Derived.Test.YtbimfopbilcdgaaZqlR
import Derived.Test.YtbimfopbilcdgaaAtR
set_option linter.unusedSimpArgs false
set_option linter.unusedVariables false
set_option maxRecDepth 8000
namespace Go.Proofs.Ytbimfopbilcdgaa
open Go.RowKit Go.Sort Sm

theorem telL_perm {l m : List Nat} (hp : List.Perm m l) (h : ∀ x ∈ l, x < 18446744073709551616) : telL m = telL l := by
  unfold telL
  rw [hp.length_eq, accN_perm hp, accH_perm hp, accLo_perm hp (fun x hx => h x (hp.mem_iff.1 hx)), accHi_perm hp (fun x hx => h x (hp.mem_iff.1 hx))]
/-- Panes told of groups as the document does. -/
structure DocP (gs : List Grp) (ps : List Pz) : Prop where
  len : ps.length = gs.length
  all : ∀ (k : Nat) (g : Grp) (p : Pz), gs[k]? = some g → ps[k]? = some p → p.p = g.p ∧ telB (telL g.vs) p.t = true
  ok : ∀ p ∈ ps, p.t.Ok
theorem DocP.nil : DocP [] [] := ⟨rfl, (fun k g p h => by cases h), (fun p hp => by cases hp)⟩
theorem DocP.snoc {gs : List Grp} {ps : List Pz} (h : DocP gs ps) {g : Grp} {p : Pz} (hp : p.p = g.p) (ht : telB (telL g.vs) p.t = true) (hok : p.t.Ok) : DocP (gs ++ [g]) (ps ++ [p]) := by
  refine ⟨by rw [List.length_append, List.length_append, h.len]; rfl, fun k g' p' hg hp' => ?_, fun q hq => ?_⟩
  · by_cases hk : k < gs.length
    · rw [List.getElem?_append_left hk] at hg
      rw [List.getElem?_append_left (by rw [h.len]; exact hk)] at hp'
      exact h.all k g' p' hg hp'
    · rw [List.getElem?_append_right (by omega)] at hg
      rw [List.getElem?_append_right (by rw [h.len]; omega), h.len] at hp'
      have h0 := (List.getElem?_eq_some_iff.1 hg).1
      simp only [List.length_cons, List.length_nil] at h0
      have e : k - gs.length = 0 := by omega
      rw [e] at hg hp'
      injection hg with hg; injection hp' with hp'
      subst hg; subst hp'
      exact ⟨hp, ht⟩
  · rcases List.mem_append.1 hq with hq | hq
    · exact h.ok q hq
    · simp at hq; subst hq; exact hok
/-- What the document's groups are: the program's, but for the order of values. -/
theorem doc_groups {c : Cf} (h : c.Ok) (l : List Ev) (hS : c.kind = 2 → ∀ x ∈ l, SesP c.size l x (wS c.size l x)) : (grps c l).map (·.p) = (addA (dIts c l l)).map (·.p) ∧ ∀ g ∈ grps c l, ∀ y ∈ addA (dIts c l l), g.p = y.p → g.vs.Perm y.vs := by
  by_cases hk : c.kind = 2
  · have e : dIts c l l = l.map fun x => ⟨wS c.size l x, [x.val]⟩ := by
      have hS := hS hk
      have h1 : ∀ m : List Ev, (∀ x ∈ m, x ∈ l) → dIts c l m = m.map fun x => ⟨wS c.size l x, [x.val]⟩ := fun m => by
        induction m with
        | nil => intro _; rfl
        | cons x r ih =>
          intro hm
          have hx := hS x (hm x (by simp))
          have h2 : dIts c l (x :: r) = dItE c l x ++ dIts c l r := by unfold dIts; rw [List.flatMap_cons]
          rw [h2, ih (fun y hy => hm y (by simp [hy])), List.map_cons]
          have h3 : dItE c l x = [⟨wS c.size l x, [x.val]⟩] := by
            unfold dItE dWs
            rw [if_pos hk]
            show [(⟨⟨x.key, (wS c.size l x).s, (wS c.size l x).e⟩, [x.val]⟩ : Grp)] = _
            rw [show (⟨x.key, (wS c.size l x).s, (wS c.size l x).e⟩ : ZP) = wS c.size l x from zp_eq hx.2.2.1.symm rfl rfl]
          rw [h3]; rfl
      exact h1 l (fun x hx => hx)
    rw [e]
    exact ses_doc h hk l _ (hS hk)
  · have e : dIts c l l = itsL c l := by
      unfold dIts itsL
      congr 1
      funext x
      unfold dItE itE dWs
      rw [if_neg hk]
    rw [e]
    exact grid_doc hk l _ (List.Perm.refl _)
theorem doc_alike {c : Cf} (h : c.Ok) {l : List Ev} (hl : EvFit l) (hS : c.kind = 2 → ∀ x ∈ l, SesP c.size l x (wS c.size l x)) {ps : List Pz} (hd : DocP (addA (dIts c l l)) ps) (hv : ∀ y ∈ addA (dIts c l l), ∀ v ∈ y.vs, v < 18446744073709551616) : Alk (panesL c l) ps := by
  obtain ⟨e1, e2⟩ := doc_groups h l hS
  have hlen : (grps c l).length = (addA (dIts c l l)).length := by have := congrArg List.length e1; simpa using this
  refine ⟨by unfold panesL; rw [hd.len, List.length_map, hlen], fun k x y hx hy => ?_⟩
  unfold panesL at hx
  rw [List.getElem?_map] at hx
  obtain ⟨g, hg, rfl⟩ := Option.map_eq_some_iff.1 hx
  have hk : k < (addA (dIts c l l)).length := by rw [← hlen]; exact (List.getElem?_eq_some_iff.1 hg).1
  obtain ⟨z, hz⟩ : ∃ z, (addA (dIts c l l))[k]? = some z := ⟨_, List.getElem?_eq_getElem hk⟩
  have h1 : ((grps c l).map (·.p))[k]? = some g.p := by rw [List.getElem?_map, hg]; rfl
  have h2 : ((addA (dIts c l l)).map (·.p))[k]? = some z.p := by rw [List.getElem?_map, hz]; rfl
  rw [e1, h2] at h1
  injection h1 with h1
  have hp := e2 g (List.mem_of_getElem? hg) z (List.mem_of_getElem? hz) h1.symm
  obtain ⟨h3, h4⟩ := hd.all k z y hz hy
  refine ⟨by show g.p = y.p; rw [h3, h1], ?_⟩
  show telB (telL g.vs) y.t = true
  rw [telL_perm hp (hv z (List.mem_of_getElem? hz))]; exact h4
def DPEnds (W : World) (gs : List Grp) (e : Ending) (w' : World) : Prop := ∃ A n cap ps, e = .returned (.slice A n cap) ∧ OwnPz w' W.heap.size A n cap ps ∧ DocP gs ps ∧ Below W.heap.size W w'
set_option maxHeartbeats 8000000 in
theorem dpanes_any (c : Cf) (h : c.Ok) (al : Option Addr) (nl cl : Nat) (l : List Ev) (hl : EvFit l) (W : World) (B : Nat) (HA : Hid (OwnE W B al nl cl l)) :
    Calls Try.prog 42 #[c.v, .slice al nl cl] W (DPEnds W (addA (dIts c l l))) := by
  have HGA := Lib.hid fun w (hb : Below W.heap.size W w) => dgroups_any c h al nl cl l hl w B (Lib.hid (ownE_keep HA.out hb))
  have HIL : Hid ((dIts c l l).length ≤ 960) := Lib.hid (by have h1 := dIts_len h l l; have h2 := hl.few; omega)
  generalize dIts c l l = its at *
  have HRC : Hid ((W.alloc (.cells #[.int .u8 (c.kind : Int), .int .i64 c.size, .int .i64 c.step, .int .i64 c.late, .int .i64 c.skew, .int .i64 c.parts, .int .u64 (c.cut : Int)] 64)).heap[W.heap.size]? = some (.cells #[.int .u8 (c.kind : Int), .int .i64 c.size, .int .i64 c.step, .int .i64 c.late, .int .i64 c.skew, .int .i64 c.parts, .int .u64 (c.cut : Int)] 64 (0, 0))) := Lib.hid (heap_new W _)
  clear h hl
  go_enter Try.func42, Try.ntmps42
  go_wp2_with (first
    | (refine wpList_load_row rfl 64 (.tmp 2) rfl W.heap.size rfl _ #[.int .u8 (c.kind : Int), .int .i64 c.size, .int .i64 c.step, .int .i64 c.late, .int .i64 c.skew, .int .i64 c.parts, .int .u64 (c.cut : Int)] (0, 0) _ HRC.out uCf rfl (by kernel_rfl) ?_)
    | (go_at_call 70; (with_reducible refine (HGA.out _ ((Below.refl _ _).alloc (Nat.le_refl _) _)).mono ?_); rintro e w2 ⟨A2, n2, cap2, os, rfl, ho2, hg2, he2, hf2, hv2, hb2⟩; have HO2 := Lib.hid ho2; have HG2 := Lib.hid hg2; have HE2 := Lib.hid he2; have HF2 := Lib.hid hf2; have HV2 := Lib.hid hv2; have HB2 := Lib.hid hb2; clear ho2 hg2 he2 hf2 hv2 hb2))
  have HBW : Hid (Below W.heap.size W w2) := Lib.hid (((Below.refl _ _).alloc (Nat.le_refl _) _).trans (HB2.out.mono (by simp)))
  have HN2 : Hid (n2 = os.length) := Lib.hid HO2.out.len
  have n1000 : n2 ≤ 960 := by have := HF2.out; have := HIL.out; omega
  obtain ⟨W2, rfl⟩ : ∃ W2, W2 = w2 := ⟨_, rfl⟩
  clear HB2
  go_loopw [6, 7] (fun p i wr => ∃ (k : Nat) (Ap : Option Addr) (np cq : Nat) (ps : List Pz), k ≤ n2 ∧ i = .int .i64 k ∧ p = .slice Ap np cq ∧ np = k ∧ np ≤ cq ∧ cq ≤ maxLen ∧ (Ap = none → cq = 0) ∧ DocP ((os.take k).map Gd.grp) ps ∧ OwnPz wr W2.heap.size Ap np cq ps ∧ Below W2.heap.size W2 wr) (fun _ i _ => n2 - (intOf i).toNat)
  case atStart => exact ⟨0, none, 0, 0, [], Nat.zero_le _, rfl, rfl, rfl, Nat.le_refl _, Nat.zero_le _, fun _ => rfl, DocP.nil, OwnPz.nil _ _, Below.refl _ _⟩
  case round =>
    obtain ⟨k, Ap, np, cq, ps, hk, rfl, rfl, hnp, hq1, hq2, hq3, hdp, hop, hb⟩ := hrel
    have HNP := Lib.hid hnp; have HCQ := Lib.hid (And.intro hq1 (And.intro hq2 hq3)); have HOP := Lib.hid hop; have HB := Lib.hid hb; have HDP := Lib.hid hdp
    clear hnp hq1 hq2 hq3 hop hb hdp
    by_cases hin : k < n2
    · obtain ⟨x, hx⟩ : ∃ x, os[k]? = some x := ⟨os[k]'(by have := HN2.out; omega), List.getElem?_eq_getElem _⟩
      have hxm : x ∈ os := List.mem_of_getElem? hx
      have HXA := Lib.hid (HG2.out x hxm)
      have HXN : Hid (x.n ≤ 960) := Lib.hid (by have h1 := HV2.out x hxm; have h2 := HIL.out; omega)
      have HVA : Hid (∀ w, Below W2.heap.size W2 w → ∃ t : Tel, t.Ok ∧ telB (telL x.vs) t = true ∧ Calls Try.prog 71 #[.slice x.A x.n x.c] w (TelEnds w t)) := Lib.hid fun w hw =>
        refVal_any x.A x.vs x.n x.c (Lib.hid HXA.out.1.len) (by have := HXN.out; omega) w (Lib.hid (HXA.out.keep hw).1.flAt)
      have HTK : Hid ((os.take (k + 1)).map Gd.grp = (os.take k).map Gd.grp ++ [x.grp]) := Lib.hid (by
        have h2 := List.getElem?_eq_some_iff.1 hx
        rw [List.take_succ_eq_append_getElem h2.1, h2.2, List.map_append]; rfl)
      obtain ⟨ga, oa, hA2, hga, hr2⟩ := gdr HO2.out.at' k x hx
      obtain ⟨-, -, hoa⟩ := HO2.out.lt ga oa hA2
      subst hoa
      subst hA2
      rw [Nat.zero_add] at hr2
      have HRX := Lib.hid hr2
      have HGA := Lib.hid hga
      have hkI : (k : Int) < (n2 : Int) := by omega
      have hszz : W2.heap.size ≤ wr.heap.size := HB.out.size
      have HOD : Hid (OwnPz wr.drew W2.heap.size Ap np cq ps) := Lib.hid (HOP.out.below ((Below.refl _ _).drew) (fun g' off e => (HOP.out.lt g' off e).1))
      clear hx hxm hr2 hga
      go_upto_region 6 with fail
      refine wp_region_held_drew (S := fun w' => Below W2.heap.size W2 w') (by kernel_rfl) (HB.out.drew) (fun hHeld => ?_)
      have hO := HOD.out
      refine wpAnyH_take (i := 0) (v := .slice Ap np cq) rfl (by kernel_rfl) (by kernel_rfl) (by kernel_rfl) (fun _ _ _ h => h) (Or.inl ⟨by rfl, fun _ _ => rfl⟩) hHeld ?_
      try dsimp only
      try simp only [Act.put, List.getElem_toArray, List.getElem_cons_zero, List.getElem_cons_succ, List.setIfInBounds_toArray, List.set_cons_zero, List.set_cons_succ]
      refine wpAnyH_take (i := 1) (v := .slice (some ⟨ga, 0, none⟩) n2 cap2) rfl (by kernel_rfl) (by kernel_rfl) (by kernel_rfl) (fun _ _ _ h => h) (Or.inl ⟨by rfl, fun _ _ => rfl⟩) hHeld ?_
      try dsimp only
      try simp only [Act.put, List.getElem_toArray, List.getElem_cons_zero, List.getElem_cons_succ, List.setIfInBounds_toArray, List.set_cons_zero, List.set_cons_succ]
      refine wpAnyH_take (i := 2) (v := .int .i64 (k : Int)) rfl (by kernel_rfl) (by kernel_rfl) (by kernel_rfl) (fun _ _ _ h => h) (Or.inl ⟨by rfl, fun _ _ => rfl⟩) hHeld ?_
      try dsimp only
      try simp only [Act.put, List.getElem_toArray, List.getElem_cons_zero, List.getElem_cons_succ, List.setIfInBounds_toArray, List.set_cons_zero, List.set_cons_succ]
      refine wpAnyH_take (i := 3) (v := .pointer (some ⟨ga, k * 4, none⟩)) rfl (by kernel_rfl) (by kernel_rfl) (by kernel_rfl) (fun _ _ _ h => h) (Or.inl ⟨by rfl, fun w _ => by go_simp⟩) hHeld ?_
      try dsimp only
      try simp only [Act.put, List.getElem_toArray, List.getElem_cons_zero, List.getElem_cons_succ, List.setIfInBounds_toArray, List.set_cons_zero, List.set_cons_succ]
      refine wpAnyH_take (i := 4) (v := .pointer (some ⟨ga, k * 4, none⟩)) rfl (by kernel_rfl) (by kernel_rfl) (by kernel_rfl) (fun _ _ _ h => h) (Or.inl ⟨by rfl, fun w _ => by go_simp⟩) hHeld ?_
      try dsimp only
      try simp only [Act.put, List.getElem_toArray, List.getElem_cons_zero, List.getElem_cons_succ, List.setIfInBounds_toArray, List.set_cons_zero, List.set_cons_succ]
      refine wpAnyH_take (i := 5) (v := .string x.p.key) rfl (by kernel_rfl) (by kernel_rfl) (by kernel_rfl) (fun _ _ _ h => h) (Or.inl ⟨by rfl, fun w hw => by have hr9 : w.rangeAt ga (k * 4) [.string x.p.key, .int .i64 x.p.s, .int .i64 x.p.e, .slice x.A x.n x.c] := (zkeep HRX.out HGA.out hw); have hc : w.cell? ⟨ga, k * 4, none⟩ = some (.string x.p.key) := hr9 0 _ rfl; go_simp⟩) hHeld ?_
      try dsimp only
      try simp only [Act.put, List.getElem_toArray, List.getElem_cons_zero, List.getElem_cons_succ, List.setIfInBounds_toArray, List.set_cons_zero, List.set_cons_succ]
      refine wpAnyH_take (i := 6) (v := .slice (some ⟨ga, 0, none⟩) n2 cap2) rfl (by kernel_rfl) (by kernel_rfl) (by kernel_rfl) (fun _ _ _ h => h) (Or.inl ⟨by rfl, fun _ _ => rfl⟩) hHeld ?_
      try dsimp only
      try simp only [Act.put, List.getElem_toArray, List.getElem_cons_zero, List.getElem_cons_succ, List.setIfInBounds_toArray, List.set_cons_zero, List.set_cons_succ]
      refine wpAnyH_take (i := 7) (v := .int .i64 (k : Int)) rfl (by kernel_rfl) (by kernel_rfl) (by kernel_rfl) (fun _ _ _ h => h) (Or.inl ⟨by rfl, fun _ _ => rfl⟩) hHeld ?_
      try dsimp only
      try simp only [Act.put, List.getElem_toArray, List.getElem_cons_zero, List.getElem_cons_succ, List.setIfInBounds_toArray, List.set_cons_zero, List.set_cons_succ]
      refine wpAnyH_take (i := 8) (v := .pointer (some ⟨ga, k * 4, none⟩)) rfl (by kernel_rfl) (by kernel_rfl) (by kernel_rfl) (fun _ _ _ h => h) (Or.inl ⟨by rfl, fun w _ => by go_simp⟩) hHeld ?_
      try dsimp only
      try simp only [Act.put, List.getElem_toArray, List.getElem_cons_zero, List.getElem_cons_succ, List.setIfInBounds_toArray, List.set_cons_zero, List.set_cons_succ]
      refine wpAnyH_take (i := 9) (v := .pointer (some ⟨ga, k * 4 + 1, none⟩)) rfl (by kernel_rfl) (by kernel_rfl) (by kernel_rfl) (fun _ _ _ h => h) (Or.inl ⟨by rfl, fun w _ => by go_simp⟩) hHeld ?_
      try dsimp only
      try simp only [Act.put, List.getElem_toArray, List.getElem_cons_zero, List.getElem_cons_succ, List.setIfInBounds_toArray, List.set_cons_zero, List.set_cons_succ]
      refine wpAnyH_take (i := 10) (v := .agg [.int .i64 x.p.s, .int .i64 x.p.e].toArray) rfl (by kernel_rfl) (by kernel_rfl) (by kernel_rfl) (fun _ _ _ h => h) (yieldsIf_load_mid rfl 84 (.tmp 26) rfl ga (k * 4 + 1) rfl [.int .i64 x.p.s, .int .i64 x.p.e] _ (fun w hw => rsub (cs := [.string x.p.key, .int .i64 x.p.s, .int .i64 x.p.e, .slice x.A x.n x.c]) (zkeep HRX.out HGA.out hw) 1 2 _ rfl _ rfl) uWn rfl (by kernel_rfl)) hHeld ?_
      try dsimp only
      try simp only [Act.put, List.getElem_toArray, List.getElem_cons_zero, List.getElem_cons_succ, List.setIfInBounds_toArray, List.set_cons_zero, List.set_cons_succ]
      refine wpAnyH_take (i := 11) (v := .slice (some ⟨ga, 0, none⟩) n2 cap2) rfl (by kernel_rfl) (by kernel_rfl) (by kernel_rfl) (fun _ _ _ h => h) (Or.inl ⟨by rfl, fun _ _ => rfl⟩) hHeld ?_
      try dsimp only
      try simp only [Act.put, List.getElem_toArray, List.getElem_cons_zero, List.getElem_cons_succ, List.setIfInBounds_toArray, List.set_cons_zero, List.set_cons_succ]
      refine wpAnyH_take (i := 12) (v := .int .i64 (k : Int)) rfl (by kernel_rfl) (by kernel_rfl) (by kernel_rfl) (fun _ _ _ h => h) (Or.inl ⟨by rfl, fun _ _ => rfl⟩) hHeld ?_
      try dsimp only
      try simp only [Act.put, List.getElem_toArray, List.getElem_cons_zero, List.getElem_cons_succ, List.setIfInBounds_toArray, List.set_cons_zero, List.set_cons_succ]
      refine wpAnyH_take (i := 13) (v := .pointer (some ⟨ga, k * 4, none⟩)) rfl (by kernel_rfl) (by kernel_rfl) (by kernel_rfl) (fun _ _ _ h => h) (Or.inl ⟨by rfl, fun w _ => by go_simp⟩) hHeld ?_
      try dsimp only
      try simp only [Act.put, List.getElem_toArray, List.getElem_cons_zero, List.getElem_cons_succ, List.setIfInBounds_toArray, List.set_cons_zero, List.set_cons_succ]
      refine wpAnyH_take (i := 14) (v := .pointer (some ⟨ga, k * 4 + 3, none⟩)) rfl (by kernel_rfl) (by kernel_rfl) (by kernel_rfl) (fun _ _ _ h => h) (Or.inl ⟨by rfl, fun w _ => by go_simp⟩) hHeld ?_
      try dsimp only
      try simp only [Act.put, List.getElem_toArray, List.getElem_cons_zero, List.getElem_cons_succ, List.setIfInBounds_toArray, List.set_cons_zero, List.set_cons_succ]
      refine wpAnyH_take (i := 15) (v := .slice x.A x.n x.c) rfl (by kernel_rfl) (by kernel_rfl) (by kernel_rfl) (fun _ _ _ h => h) (Or.inl ⟨by rfl, fun w hw => by have hr9 : w.rangeAt ga (k * 4) [.string x.p.key, .int .i64 x.p.s, .int .i64 x.p.e, .slice x.A x.n x.c] := (zkeep HRX.out HGA.out hw); have hc : w.cell? ⟨ga, k * 4 + 3, none⟩ = some (.slice x.A x.n x.c) := hr9 3 _ rfl; go_simp⟩) hHeld ?_
      try dsimp only
      try simp only [Act.put, List.getElem_toArray, List.getElem_cons_zero, List.getElem_cons_succ, List.setIfInBounds_toArray, List.set_cons_zero, List.set_cons_succ]
      obtain ⟨t, ht1, ht2, hcall⟩ := HVA.out _ hHeld
      have HT := Lib.hid (And.intro ht1 ht2)
      clear ht1 ht2
      refine wpAnyH_ready (rs := [16]) (by kernel_rfl) (by simp) (AllReadyH.cons rfl (fun K hK => ?_) AllReadyH.nil)
      go_simp
      refine (hcall).mono ?_
      rintro e w9 ⟨rfl, hb9⟩
      replace hO := hO.below hb9 (fun g' off e => (hO.lt g' off e).1)
      replace hHeld := bto hHeld hb9
      clear hb9 hcall
      refine hK.out _ _ hHeld (fun hHeld => ?_)
      clear hK K
      try dsimp only
      try simp only [Act.put, List.getElem_toArray, List.getElem_cons_zero, List.getElem_cons_succ, List.setIfInBounds_toArray, List.set_cons_zero, List.set_cons_succ]
      refine wpAnyH_take (i := 17) (v := .agg #[.string x.p.key, .int .i64 x.p.s, .int .i64 x.p.e, .int .u64 (t.c : Int), .float .f64 t.s, .bool t.o, .float .f64 t.lo, .float .f64 t.hi]) rfl (by kernel_rfl) (by kernel_rfl) (by kernel_rfl) (fun _ _ _ h => h) (Or.inl ⟨by rfl, fun w _ => by go_simp⟩) hHeld ?_
      try dsimp only
      try simp only [Act.put, List.getElem_toArray, List.getElem_cons_zero, List.getElem_cons_succ, List.setIfInBounds_toArray, List.set_cons_zero, List.set_cons_succ]
      refine wpAnyH_ready (rs := [18]) (by kernel_rfl) (by simp) (AllReadyH.cons rfl (fun K hK => ?_) AllReadyH.nil)
      go_simp
      have hs9 := hHeld.size
      refine hK.out _ _ (hHeld.alloc hs9 _) (fun _ => ?_)
      clear hK K
      try dsimp only
      try simp only [Act.put, List.getElem_toArray, List.getElem_cons_zero, List.getElem_cons_succ, List.setIfInBounds_toArray, List.set_cons_zero, List.set_cons_succ]
      refine wpAnyH_ready (rs := [19]) (by kernel_rfl) (by simp) (AllReadyH.cons rfl (fun K hK => ?_) AllReadyH.nil)
      rw [if_pos (by rfl)]
      refine wp_append_pz (.tmp 17) (.tmp 35) rfl W2.heap.size Ap np cq ps rfl (hO.below ((Below.refl _ _).alloc (Nat.le_refl _) _) (fun g' off e => (hO.lt g' off e).1)) w9.heap.size 1 ⟨x.p, t⟩ rfl (zheap_new' _ _ _ rfl) (np + 1) rfl (by have := HNP.out; omega) (by simp; omega) ?_
      intro A3 c3 w3 ho3 hc3 hm3 hn3 hb3 hg3
      replace hHeld := (hHeld.alloc hs9 (.cells #[.string x.p.key, .int .i64 x.p.s, .int .i64 x.p.e, .int .u64 (t.c : Int), .float .f64 t.s, .bool t.o, .float .f64 t.lo, .float .f64 t.hi] 97)).trans hb3
      refine hK.out _ _ hHeld (fun _ => ?_)
      clear hK K
      try dsimp only
      try simp only [Act.put, List.getElem_toArray, List.getElem_cons_zero, List.getElem_cons_succ, List.setIfInBounds_toArray, List.set_cons_zero, List.set_cons_succ]
      refine wpAnyH_take (i := 20) (v := .slice A3 (np + 1) c3) rfl (by kernel_rfl) (by kernel_rfl) (by kernel_rfl) (fun _ _ _ h => h) (Or.inl ⟨by rfl, fun _ _ => rfl⟩) hHeld ?_
      try dsimp only
      try simp only [Act.put, List.getElem_toArray, List.getElem_cons_zero, List.getElem_cons_succ, List.setIfInBounds_toArray, List.set_cons_zero, List.set_cons_succ]
      refine wpAnyH_done (by kernel_rfl) ?_ _
      have HO3 := Lib.hid ho3; have HC3 := Lib.hid (And.intro hc3 (And.intro hm3 hn3)); have HB3 := Lib.hid hHeld
      clear ho3 hc3 hm3 hn3 hb3 hg3 hO hHeld
      go_wp2
      go_roundw
      case rel => exact ⟨k + 1, A3, np + 1, c3, _, hin, by go_num, rfl, by rw [HNP.out], HC3.out.1, HC3.out.2.1, HC3.out.2.2, by rw [HTK.out]; exact HDP.out.snoc (g := x.grp) (p := ⟨x.p, t⟩) rfl HT.out.2 HT.out.1, HO3.out, HB3.out⟩
      case measure => simp [intOf]; omega
    · have HE : Hid (DocP (addA its) ps) := Lib.hid (by
        have h1 := HDP.out
        rw [List.take_of_length_le (by have := HN2.out; omega), HE2.out] at h1; exact h1)
      go_wp2
      go_ret
      exact ⟨Ap, np, cq, ps, rfl, HOP.out.less HBW.out.size, HE.out, HBW.out.trans (HB.out.mono HBW.out.size)⟩
end Go.Proofs.Ytbimfopbilcdgaa
