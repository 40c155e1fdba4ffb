/-
  Layer segment: Write, the document's too, of any events: which error, which bytes.
-/
import Derived.Test.YtifabkbdiiolfaaDoorYdbK
open List renaming getElem_toArray → qz0, getElem_cons_zero → qz1, getElem_cons_succ → qz2, setIfInBounds_toArray → qz3, set_cons_zero → qz4, set_cons_succ → qz5
set_option linter.unusedSimpArgs false
set_option linter.unusedVariables false
set_option maxRecDepth 8000
namespace Go.Proofs.YtifabkbdiiolfaaDoor
open Go.RowKit Go.WideShapes Col
def wCode (p : Int) (l : List Ev) : Nat := if l = [] ∨ p < 1 ∨ 8 < p then 1 else chkL p none l
def wBy (p : Int) (l : List Ev) : List Nat := if wCode p l = 0 then segB p.toNat l else []
/-- How both end. -/
def WrRet (p : Int) (l : List Ev) (W : World) (e : Ending) (w' : World) : Prop := ∃ A m cap, e = .returned (.tuple #[.slice A m cap, .int .i64 (wCode p l : Nat)]) ∧ OwnS w' W.heap.size A m cap (wBy p l) ∧ Below W.heap.size W w'
theorem wrRet_bad {p : Int} {l : List Ev} {W w' : World} {c : Nat} (hc : wCode p l = c) (h0 : c ≠ 0) (hb : Below W.heap.size W w') (v : Int) (hv : v = (c : Int)) : WrRet p l W (.returned (.tuple #[.slice none 0 0, .int .i64 v])) w' := by
 refine ⟨none, 0, 0, by rw [hv, hc], ?_, hb⟩
 unfold wBy
 rw [if_neg (by omega)]
 exact OwnS.nil _ _
theorem wCode_chk {p : Int} {l : List Ev} (h0 : l ≠ []) (h1 : 1 ≤ p) (h8 : p ≤ 8) : wCode p l = chkL p none l := by
 unfold wCode
 rw [if_neg]
 rintro (h | h | h)
 ·exact h0 h
 ·omega
 ·omega
theorem wCode_one {p : Int} {l : List Ev} (h : l = [] ∨ p < 1 ∨ 8 < p) : wCode p l = 1 := if_pos h
set_option maxHeartbeats 4000000 in
theorem refWrite_arg (A0 : Option Addr) (n c : Nat) (l : List Ev) (hn : Hid (n = l.length)) (p : Int) (hbad : n = 0 ∨ p < 1 ∨ 8 < p) (W : World) :
  Calls Tryd.prog 6 #[.slice A0 n c, .int .i64 p] W (WrRet p l W) := by
 have HW1 : Hid (wCode p l = 1) := Lib.hid (wCode_one (by
  rcases hbad with h | h | h
  ·exact .inl (List.eq_nil_of_length_eq_zero (by have := hn.out; omega))
  ·exact .inr (.inl h)
  ·exact .inr (.inr h)))
 rcases Nat.eq_zero_or_pos n with h0 | h0
 ·have hn0 : ((n : Int) == 0) = true := by subst h0; rfl
  clear hbad h0
  go_enter Tryd.func6, Tryd.ntmps6
  go_wp2
  refine bodyPost_ret (results_tmp2S rfl _ _ _) rfl ?_
  exact wrRet_bad HW1.out (by decide) (Below.refl _ _) _ rfl
 ·have hn0 : ((n : Int) == 0) = false := by rw [beq_eq_false_iff_ne]; omega
  by_cases h1 : p < 1
  ·clear hbad
   go_enter Tryd.func6, Tryd.ntmps6
   go_wp2
   refine bodyPost_ret (results_tmp2S rfl _ _ _) rfl ?_
   exact wrRet_bad HW1.out (by decide) (Below.refl _ _) _ rfl
  ·have h8 : 8 < p := by omega
   clear hbad
   go_enter Tryd.func6, Tryd.ntmps6
   go_wp2
   refine bodyPost_ret (results_tmp2S rfl _ _ _) rfl ?_
   exact wrRet_bad HW1.out (by decide) (Below.refl _ _) _ rfl
set_option maxHeartbeats 8000000 in
theorem refWrite_chk (g off n c : Nat) (l : List Ev) (hn : Hid (n = l.length)) (h0 : 0 < n) (hn9 : n ≤ 200) (p : Int) (hp1 : 1 ≤ p) (hp8 : p ≤ 8) (hck : Hid (chkL p none l ≠ 0)) (W : World) (HE : Hid (EvAt W (some ⟨g, off, none⟩) l)) :
  Calls Tryd.prog 6 #[.slice (some ⟨g, off, none⟩) n c, .int .i64 p] W (WrRet p l W) := by
 have hn0 : ((n : Int) == 0) = false := by rw [beq_eq_false_iff_ne]; omega
 have hd1 : ¬ (p < 1) := by omega
 have hd2 : ¬ ((8 : Int) < p) := by omega
 have hd3 : ¬ ((1024 : Int) < (n : Int)) := by omega
 have HWC : Hid (wCode p l = chkL p none l) := Lib.hid (wCode_chk (fun e => by have := hn.out; rw [e] at this; simp at this; omega) hp1 hp8)
 obtain ⟨x0, hx0⟩ : ∃ x, l[0]? = some x := ⟨_, List.getElem?_eq_getElem (by have := hn.out; omega)⟩
 go_enter Tryd.func6, Tryd.ntmps6
 go_wp2
 go_loopw [6] (fun i wr => ∃ k : Nat, k ≤ n ∧ i = .int .i64 (k : Int) ∧ Hid (Below W.heap.size W wr) ∧ Hid (chkL p none l = chkL p (prevO l k) (l.drop k)) ∧ Hid (∀ j x, j < k → l[j]? = some x → formB x p = true ∧ x.off = x0.off + j)) (fun i _ => n - (intOf i).toNat)
 case atStart => exact ⟨0, by omega, rfl, Below.refl _ _, rfl, fun j x h => absurd h (by omega)⟩
 case round =>
  obtain ⟨k, hk, rfl, HB, HC, HF⟩ := hrel
  by_cases hlt : k < n
  ·obtain ⟨x, hx⟩ : ∃ x, l[k]? = some x := ⟨_, List.getElem?_eq_getElem (by have := hn.out; omega)⟩
   have hli : (k : Int) < (n : Int) := by omega
   obtain ⟨g', o', e0, hg, hr⟩ := evr (HE.out.keep HB.out) k x hx
   injection e0 with e0; injection e0 with e1 e2; subst e1; subst e2
   have HX : Hid (wr.rangeAt g (off + k * 5) [.int .u64 (x.off : Int), .int .i64 x.part, .int .i64 x.time, .string x.key, .float .f64 x.val]) := Lib.hid hr
   have HC2 : Hid (chkL p none l = if formB x p = true then (match prevO l k with | none => chkL p (some x.off) (l.drop (k + 1)) | some y => if x.off = y + 1 then chkL p (some x.off) (l.drop (k + 1)) else 8) else 3) := Lib.hid (by rw [HC.out, drop_at hx]; rfl)
   have HHX := Lib.hid hx
   have HIN : Hid (k < n ∧ 0 < n) := Lib.hid ⟨hlt, h0⟩
   have HKU : Hid (IntKind.u64.wrap (k : Int) = (k : Int)) := Lib.hid (by rw [IntKind.wrap_u64]; omega)
   have hk1 : IntKind.i64.wrap ((k : Int) + 1) = ((k + 1 : Nat) : Int) := by rw [IntKind.wrap_i64]; omega
   clear hr hg hx
   rcases hf : formB x p with _ | _
   ·have HFM := Lib.hid hf
    have HC3 : Hid (wCode p l = 3) := Lib.hid (by rw [HWC.out, HC2.out, hf]; rfl)
    clear hf
    go_wp2_with (first
     | (refine wpList_load_mid rfl 34 (.tmp 41) rfl g (off + k * 5) rfl [.int .u64 (x.off : Int), .int .i64 x.part, .int .i64 x.time, .string x.key, .float .f64 x.val] _ HX.out uEvent rfl (iEvent x) ?_)
     | (go_at_call 16; (with_reducible refine (refForm_any x p _).mono ?_); rintro e w2 ⟨rfl, h⟩; rw [HFM.out]; have HB2 := Lib.hid (below_to HB.out h); clear h))
    refine bodyPost_ret (results_tmp2S rfl _ _ _) rfl ?_
    exact wrRet_bad HC3.out (by decide) HB2.out 3 rfl
   ·have HFM := Lib.hid hf
    have hfb := hf
    unfold formB at hfb
    simp only [Bool.and_eq_true, decide_eq_true_eq] at hfb
    have hx9 : x.off < 1099511627776 := hfb.2
    have hx09 : k ≠ 0 → x0.off < 1099511627776 := fun hk0 => by
     have h := (HF.out 0 x0 (by omega) hx0).1
     unfold formB at h
     simp only [Bool.and_eq_true, decide_eq_true_eq] at h
     exact h.2
    have hprev : k ≠ 0 → prevO l k = some (x0.off + (k - 1)) := fun hk0 => by
     obtain ⟨y, hy⟩ : ∃ y, l[k - 1]? = some y := ⟨_, List.getElem?_eq_getElem (by have := hn.out; omega)⟩
     have h := (HF.out (k - 1) y (by omega) hy).2
     unfold prevO
     rw [if_neg hk0, hy]
     show some y.off = _
     rw [h]
    have h00 : k = 0 → x = x0 := fun hk0 => by
     have h := HHX.out
     rw [hk0, hx0] at h; injection h with h; exact h.symm
    by_cases ho : x.off = x0.off + k
    ·have HSU : Hid (IntKind.u64.wrap ((x.off : Int) - (x0.off : Int)) = (k : Int)) := Lib.hid (by rw [IntKind.wrap_u64]; omega)
     have HLT : Hid (x0.off ≤ x.off) := Lib.hid (by omega)
     have HC3 : Hid (chkL p none l = chkL p (prevO l (k + 1)) (l.drop (k + 1))) := Lib.hid (by
      rw [HC2.out, hf, if_pos rfl, prevO_succ HHX.out]
      by_cases hk0 : k = 0
      ·subst hk0; rfl
      ·rw [hprev hk0]
       show (if x.off = x0.off + (k - 1) + 1 then _ else _) = _
       rw [if_pos (by omega)])
     have HF2 : Hid (∀ j z, j < k + 1 → l[j]? = some z → formB z p = true ∧ z.off = x0.off + j) := Lib.hid fun j z hj hz => by
      by_cases e : j = k
      ·subst e
       have h := HHX.out
       rw [hz] at h; injection h with h; subst h
       exact ⟨hf, ho⟩
      ·exact HF.out j z (by omega) hz
     clear hf hfb hx9 hx09 hprev h00 ho
     go_upto_region 10 with (first
      | (refine wpList_load_mid rfl 34 (.tmp 41) rfl g (off + k * 5) rfl [.int .u64 (x.off : Int), .int .i64 x.part, .int .i64 x.time, .string x.key, .float .f64 x.val] _ HX.out uEvent rfl (iEvent x) ?_)
      | (go_at_call 16; (with_reducible refine (refForm_any x p _).mono ?_); rintro e w2 ⟨rfl, h⟩; rw [HFM.out]; have HB2 := Lib.hid (below_to HB.out h); clear h))
     have HXK : Hid (∀ w', Below w2.heap.size w2 w' → w'.cell? ⟨g, off + k * 5, none⟩ = some (.int .u64 (x.off : Int))) := Lib.hid fun w' hb => by
      obtain ⟨g', o', e0, -, hr⟩ := evr ((HE.out.keep HB2.out).keep hb) k x HHX.out
      injection e0 with e0; injection e0 with e1 e2; subst e1; subst e2
      exact hr 0 _ rfl
     have HX0 : Hid (∀ w', Below w2.heap.size w2 w' → w'.cell? ⟨g, off, none⟩ = some (.int .u64 (x0.off : Int))) := Lib.hid fun w' hb => by
      obtain ⟨g', o', e0, -, hr⟩ := evr ((HE.out.keep HB2.out).keep hb) 0 x0 hx0
      injection e0 with e0; injection e0 with e1 e2; subst e1; subst e2
      have h := hr 0 _ rfl
      simpa using h
     refine wp_region_held_drew (S := Below w2.heap.size w2) (by kernel_rfl) (Below.refl _ _).drew (fun hHeld => ?_)
     refine wpAnyH_take (i := 0) (v := .slice (some ⟨g, off, none⟩) n c) rfl (by kernel_rfl) (by kernel_rfl) (by kernel_rfl) (fun _ _ _ h => h) (Or.inl ⟨by rfl, fun _ _ => rfl⟩) hHeld ?_
     try dsimp only
     try simp only [Act.put, qz0, qz1, qz2, qz3, qz4, qz5]
     refine wpAnyH_take (i := 1) (v := .int .i64 (k : Int)) rfl (by kernel_rfl) (by kernel_rfl) (by kernel_rfl) (fun _ _ _ h => h) (Or.inl ⟨by rfl, fun _ _ => rfl⟩) hHeld ?_
     try dsimp only
     try simp only [Act.put, qz0, qz1, qz2, qz3, qz4, qz5]
     refine wpAnyH_take (i := 2) (v := .pointer (some ⟨g, off + k * 5, none⟩)) rfl (by kernel_rfl) (by kernel_rfl) (by kernel_rfl) (fun _ _ _ h => h) (Or.inl ⟨by rfl, fun w _ => by have h9 := HIN.out; go_simp⟩) hHeld ?_
     try dsimp only
     try simp only [Act.put, qz0, qz1, qz2, qz3, qz4, qz5]
     refine wpAnyH_take (i := 3) (v := .pointer (some ⟨g, off + k * 5, none⟩)) rfl (by kernel_rfl) (by kernel_rfl) (by kernel_rfl) (fun _ _ _ h => h) (Or.inl ⟨by rfl, fun w _ => by go_simp⟩) hHeld ?_
     try dsimp only
     try simp only [Act.put, qz0, qz1, qz2, qz3, qz4, qz5]
     refine wpAnyH_take (i := 4) (v := .int .u64 (x.off : Int)) rfl (by kernel_rfl) (by kernel_rfl) (by kernel_rfl) (fun _ _ _ h => h) (ylS lv_u64S rfl (.tmp 49) rfl g (off + k * 5) rfl _ (fun w hw => HXK.out w hw)) hHeld ?_
     try dsimp only
     try simp only [Act.put, qz0, qz1, qz2, qz3, qz4, qz5]
     refine wpAnyH_take (i := 5) (v := .slice (some ⟨g, off, none⟩) n c) rfl (by kernel_rfl) (by kernel_rfl) (by kernel_rfl) (fun _ _ _ h => h) (Or.inl ⟨by rfl, fun _ _ => rfl⟩) hHeld ?_
     try dsimp only
     try simp only [Act.put, qz0, qz1, qz2, qz3, qz4, qz5]
     refine wpAnyH_take (i := 6) (v := .pointer (some ⟨g, off, none⟩)) rfl (by kernel_rfl) (by kernel_rfl) (by kernel_rfl) (fun _ _ _ h => h) (Or.inl ⟨by rfl, fun w _ => by have h9 := HIN.out; go_simp⟩) hHeld ?_
     try dsimp only
     try simp only [Act.put, qz0, qz1, qz2, qz3, qz4, qz5]
     refine wpAnyH_take (i := 7) (v := .pointer (some ⟨g, off, none⟩)) rfl (by kernel_rfl) (by kernel_rfl) (by kernel_rfl) (fun _ _ _ h => h) (Or.inl ⟨by rfl, fun w _ => by go_simp⟩) hHeld ?_
     try dsimp only
     try simp only [Act.put, qz0, qz1, qz2, qz3, qz4, qz5]
     refine wpAnyH_take (i := 8) (v := .int .u64 (x0.off : Int)) rfl (by kernel_rfl) (by kernel_rfl) (by kernel_rfl) (fun _ _ _ h => h) (ylS lv_u64S rfl (.tmp 53) rfl g off rfl _ (fun w hw => HX0.out w hw)) hHeld ?_
     try dsimp only
     try simp only [Act.put, qz0, qz1, qz2, qz3, qz4, qz5]
     refine wpAnyH_take (i := 9) (v := .int .u64 (k : Int)) rfl (by kernel_rfl) (by kernel_rfl) (by kernel_rfl) (fun _ _ _ h => h) (Or.inl ⟨by rfl, fun w _ => by have h9 := HSU.out; go_simp⟩) hHeld ?_
     try dsimp only
     try simp only [Act.put, qz0, qz1, qz2, qz3, qz4, qz5]
     refine wpAnyH_take (i := 10) (v := .int .i64 (k : Int)) rfl (by kernel_rfl) (by kernel_rfl) (by kernel_rfl) (fun _ _ _ h => h) (Or.inl ⟨by rfl, fun _ _ => rfl⟩) hHeld ?_
     try dsimp only
     try simp only [Act.put, qz0, qz1, qz2, qz3, qz4, qz5]
     refine wpAnyH_take (i := 11) (v := .int .u64 (k : Int)) rfl (by kernel_rfl) (by kernel_rfl) (by kernel_rfl) (fun _ _ _ h => h) (Or.inl ⟨by rfl, fun w _ => by have h9 := HKU.out; go_simp⟩) hHeld ?_
     try dsimp only
     try simp only [Act.put, qz0, qz1, qz2, qz3, qz4, qz5]
     refine wpAnyH_take (i := 12) (v := .bool false) rfl (by kernel_rfl) (by kernel_rfl) (by kernel_rfl) (fun _ _ _ h => h) (Or.inl ⟨by rfl, fun w _ => by go_simp⟩) hHeld ?_
     try dsimp only
     try simp only [Act.put, qz0, qz1, qz2, qz3, qz4, qz5]
     refine wpAnyH_take (i := 13) (v := .bool false) rfl (by kernel_rfl) (by kernel_rfl) (by kernel_rfl) (fun _ _ _ h => h) (Or.inl ⟨by rfl, fun _ _ => rfl⟩) hHeld ?_
     try dsimp only
     try simp only [Act.put, qz0, qz1, qz2, qz3, qz4, qz5]
     refine wpAnyH_take (i := 14) (v := .slice (some ⟨g, off, none⟩) n c) rfl (by kernel_rfl) (by kernel_rfl) (by kernel_rfl) (fun _ _ _ h => h) (Or.inl ⟨by rfl, fun _ _ => rfl⟩) hHeld ?_
     try dsimp only
     try simp only [Act.put, qz0, qz1, qz2, qz3, qz4, qz5]
     refine wpAnyH_take (i := 15) (v := .int .i64 (k : Int)) rfl (by kernel_rfl) (by kernel_rfl) (by kernel_rfl) (fun _ _ _ h => h) (Or.inl ⟨by rfl, fun _ _ => rfl⟩) hHeld ?_
     try dsimp only
     try simp only [Act.put, qz0, qz1, qz2, qz3, qz4, qz5]
     refine wpAnyH_take (i := 16) (v := .pointer (some ⟨g, off + k * 5, none⟩)) rfl (by kernel_rfl) (by kernel_rfl) (by kernel_rfl) (fun _ _ _ h => h) (Or.inl ⟨by rfl, fun w _ => by have h9 := HIN.out; go_simp⟩) hHeld ?_
     try dsimp only
     try simp only [Act.put, qz0, qz1, qz2, qz3, qz4, qz5]
     refine wpAnyH_take (i := 17) (v := .pointer (some ⟨g, off + k * 5, none⟩)) rfl (by kernel_rfl) (by kernel_rfl) (by kernel_rfl) (fun _ _ _ h => h) (Or.inl ⟨by rfl, fun w _ => by go_simp⟩) hHeld ?_
     try dsimp only
     try simp only [Act.put, qz0, qz1, qz2, qz3, qz4, qz5]
     refine wpAnyH_take (i := 18) (v := .int .u64 (x.off : Int)) rfl (by kernel_rfl) (by kernel_rfl) (by kernel_rfl) (fun _ _ _ h => h) (ylS lv_u64S rfl (.tmp 63) rfl g (off + k * 5) rfl _ (fun w hw => HXK.out w hw)) hHeld ?_
     try dsimp only
     try simp only [Act.put, qz0, qz1, qz2, qz3, qz4, qz5]
     refine wpAnyH_take (i := 19) (v := .slice (some ⟨g, off, none⟩) n c) rfl (by kernel_rfl) (by kernel_rfl) (by kernel_rfl) (fun _ _ _ h => h) (Or.inl ⟨by rfl, fun _ _ => rfl⟩) hHeld ?_
     try dsimp only
     try simp only [Act.put, qz0, qz1, qz2, qz3, qz4, qz5]
     refine wpAnyH_take (i := 20) (v := .pointer (some ⟨g, off, none⟩)) rfl (by kernel_rfl) (by kernel_rfl) (by kernel_rfl) (fun _ _ _ h => h) (Or.inl ⟨by rfl, fun w _ => by have h9 := HIN.out; go_simp⟩) hHeld ?_
     try dsimp only
     try simp only [Act.put, qz0, qz1, qz2, qz3, qz4, qz5]
     refine wpAnyH_take (i := 21) (v := .pointer (some ⟨g, off, none⟩)) rfl (by kernel_rfl) (by kernel_rfl) (by kernel_rfl) (fun _ _ _ h => h) (Or.inl ⟨by rfl, fun w _ => by go_simp⟩) hHeld ?_
     try dsimp only
     try simp only [Act.put, qz0, qz1, qz2, qz3, qz4, qz5]
     refine wpAnyH_take (i := 22) (v := .int .u64 (x0.off : Int)) rfl (by kernel_rfl) (by kernel_rfl) (by kernel_rfl) (fun _ _ _ h => h) (ylS lv_u64S rfl (.tmp 67) rfl g off rfl _ (fun w hw => HX0.out w hw)) hHeld ?_
     try dsimp only
     try simp only [Act.put, qz0, qz1, qz2, qz3, qz4, qz5]
     refine wpAnyH_take (i := 23) (v := .bool false) rfl (by kernel_rfl) (by kernel_rfl) (by kernel_rfl) (fun _ _ _ h => h) (Or.inl ⟨by rfl, fun w _ => by have h9 := HLT.out; go_simp; try omega⟩) hHeld ?_
     try dsimp only
     try simp only [Act.put, qz0, qz1, qz2, qz3, qz4, qz5]
     refine wpAnyH_take (i := 24) (v := .bool false) rfl (by kernel_rfl) (by kernel_rfl) (by kernel_rfl) (fun _ _ _ h => h) (Or.inl ⟨by rfl, fun w _ => by go_simp⟩) hHeld ?_
     try dsimp only
     try simp only [Act.put, qz0, qz1, qz2, qz3, qz4, qz5]
     refine wpAnyH_done (by kernel_rfl) ?_ _
     clear hHeld
     have HB3 : Hid (Below W.heap.size W w2.drew) := Lib.hid HB2.out.drew
     go_wp2
     go_roundw
     case rel => exact ⟨k + 1, by omega, by go_num, HB3.out, HC3.out, HF2.out⟩
     case measure => simp [intOf]; omega
    ·have hk0 : k ≠ 0 := fun hk0 => ho (by rw [h00 hk0, hk0]; rfl)
     have hy9 := hx09 hk0
     obtain ⟨d, hd⟩ : ∃ d : Nat, IntKind.u64.wrap ((x.off : Int) - (x0.off : Int)) = (d : Int) ∧ d ≠ k := by
      by_cases hle : x0.off ≤ x.off
      ·exact ⟨x.off - x0.off, by rw [IntKind.wrap_u64]; omega, by omega⟩
      ·exact ⟨18446744073709551616 - (x0.off - x.off), by rw [IntKind.wrap_u64]; omega, by omega⟩
     have HSU := Lib.hid hd.1
     have HDK := Lib.hid hd.2
     have HC3 : Hid (wCode p l = 8) := Lib.hid (by
      rw [HWC.out, HC2.out, hf, if_pos rfl, hprev hk0]
      show (if x.off = x0.off + (k - 1) + 1 then _ else 8) = 8
      rw [if_neg (by omega)])
     clear hf hfb hx9 hx09 hprev h00 ho hd hy9
     go_upto_region 10 with (first
      | (refine wpList_load_mid rfl 34 (.tmp 41) rfl g (off + k * 5) rfl [.int .u64 (x.off : Int), .int .i64 x.part, .int .i64 x.time, .string x.key, .float .f64 x.val] _ HX.out uEvent rfl (iEvent x) ?_)
      | (go_at_call 16; (with_reducible refine (refForm_any x p _).mono ?_); rintro e w2 ⟨rfl, h⟩; rw [HFM.out]; have HB2 := Lib.hid (below_to HB.out h); clear h))
     have HXK : Hid (∀ w', Below w2.heap.size w2 w' → w'.cell? ⟨g, off + k * 5, none⟩ = some (.int .u64 (x.off : Int))) := Lib.hid fun w' hb => by
      obtain ⟨g', o', e0, -, hr⟩ := evr ((HE.out.keep HB2.out).keep hb) k x HHX.out
      injection e0 with e0; injection e0 with e1 e2; subst e1; subst e2
      exact hr 0 _ rfl
     have HX0 : Hid (∀ w', Below w2.heap.size w2 w' → w'.cell? ⟨g, off, none⟩ = some (.int .u64 (x0.off : Int))) := Lib.hid fun w' hb => by
      obtain ⟨g', o', e0, -, hr⟩ := evr ((HE.out.keep HB2.out).keep hb) 0 x0 hx0
      injection e0 with e0; injection e0 with e1 e2; subst e1; subst e2
      have h := hr 0 _ rfl
      simpa using h
     refine wp_region_held_drew (S := Below w2.heap.size w2) (by kernel_rfl) (Below.refl _ _).drew (fun hHeld => ?_)
     refine wpAnyH_take (i := 0) (v := .slice (some ⟨g, off, none⟩) n c) rfl (by kernel_rfl) (by kernel_rfl) (by kernel_rfl) (fun _ _ _ h => h) (Or.inl ⟨by rfl, fun _ _ => rfl⟩) hHeld ?_
     try dsimp only
     try simp only [Act.put, qz0, qz1, qz2, qz3, qz4, qz5]
     refine wpAnyH_take (i := 1) (v := .int .i64 (k : Int)) rfl (by kernel_rfl) (by kernel_rfl) (by kernel_rfl) (fun _ _ _ h => h) (Or.inl ⟨by rfl, fun _ _ => rfl⟩) hHeld ?_
     try dsimp only
     try simp only [Act.put, qz0, qz1, qz2, qz3, qz4, qz5]
     refine wpAnyH_take (i := 2) (v := .pointer (some ⟨g, off + k * 5, none⟩)) rfl (by kernel_rfl) (by kernel_rfl) (by kernel_rfl) (fun _ _ _ h => h) (Or.inl ⟨by rfl, fun w _ => by have h9 := HIN.out; go_simp⟩) hHeld ?_
     try dsimp only
     try simp only [Act.put, qz0, qz1, qz2, qz3, qz4, qz5]
     refine wpAnyH_take (i := 3) (v := .pointer (some ⟨g, off + k * 5, none⟩)) rfl (by kernel_rfl) (by kernel_rfl) (by kernel_rfl) (fun _ _ _ h => h) (Or.inl ⟨by rfl, fun w _ => by go_simp⟩) hHeld ?_
     try dsimp only
     try simp only [Act.put, qz0, qz1, qz2, qz3, qz4, qz5]
     refine wpAnyH_take (i := 4) (v := .int .u64 (x.off : Int)) rfl (by kernel_rfl) (by kernel_rfl) (by kernel_rfl) (fun _ _ _ h => h) (ylS lv_u64S rfl (.tmp 49) rfl g (off + k * 5) rfl _ (fun w hw => HXK.out w hw)) hHeld ?_
     try dsimp only
     try simp only [Act.put, qz0, qz1, qz2, qz3, qz4, qz5]
     refine wpAnyH_take (i := 5) (v := .slice (some ⟨g, off, none⟩) n c) rfl (by kernel_rfl) (by kernel_rfl) (by kernel_rfl) (fun _ _ _ h => h) (Or.inl ⟨by rfl, fun _ _ => rfl⟩) hHeld ?_
     try dsimp only
     try simp only [Act.put, qz0, qz1, qz2, qz3, qz4, qz5]
     refine wpAnyH_take (i := 6) (v := .pointer (some ⟨g, off, none⟩)) rfl (by kernel_rfl) (by kernel_rfl) (by kernel_rfl) (fun _ _ _ h => h) (Or.inl ⟨by rfl, fun w _ => by have h9 := HIN.out; go_simp⟩) hHeld ?_
     try dsimp only
     try simp only [Act.put, qz0, qz1, qz2, qz3, qz4, qz5]
     refine wpAnyH_take (i := 7) (v := .pointer (some ⟨g, off, none⟩)) rfl (by kernel_rfl) (by kernel_rfl) (by kernel_rfl) (fun _ _ _ h => h) (Or.inl ⟨by rfl, fun w _ => by go_simp⟩) hHeld ?_
     try dsimp only
     try simp only [Act.put, qz0, qz1, qz2, qz3, qz4, qz5]
     refine wpAnyH_take (i := 8) (v := .int .u64 (x0.off : Int)) rfl (by kernel_rfl) (by kernel_rfl) (by kernel_rfl) (fun _ _ _ h => h) (ylS lv_u64S rfl (.tmp 53) rfl g off rfl _ (fun w hw => HX0.out w hw)) hHeld ?_
     try dsimp only
     try simp only [Act.put, qz0, qz1, qz2, qz3, qz4, qz5]
     refine wpAnyH_take (i := 9) (v := .int .u64 (d : Int)) rfl (by kernel_rfl) (by kernel_rfl) (by kernel_rfl) (fun _ _ _ h => h) (Or.inl ⟨by rfl, fun w _ => by have h9 := HSU.out; go_simp⟩) hHeld ?_
     try dsimp only
     try simp only [Act.put, qz0, qz1, qz2, qz3, qz4, qz5]
     refine wpAnyH_take (i := 10) (v := .int .i64 (k : Int)) rfl (by kernel_rfl) (by kernel_rfl) (by kernel_rfl) (fun _ _ _ h => h) (Or.inl ⟨by rfl, fun _ _ => rfl⟩) hHeld ?_
     try dsimp only
     try simp only [Act.put, qz0, qz1, qz2, qz3, qz4, qz5]
     refine wpAnyH_take (i := 11) (v := .int .u64 (k : Int)) rfl (by kernel_rfl) (by kernel_rfl) (by kernel_rfl) (fun _ _ _ h => h) (Or.inl ⟨by rfl, fun w _ => by have h9 := HKU.out; go_simp⟩) hHeld ?_
     try dsimp only
     try simp only [Act.put, qz0, qz1, qz2, qz3, qz4, qz5]
     refine wpAnyH_take (i := 12) (v := .bool true) rfl (by kernel_rfl) (by kernel_rfl) (by kernel_rfl) (fun _ _ _ h => h) (Or.inl ⟨by rfl, fun w _ => by have h9 := HDK.out; go_simp; try omega⟩) hHeld ?_
     try dsimp only
     try simp only [Act.put, qz0, qz1, qz2, qz3, qz4, qz5]
     refine wpAnyH_take (i := 13) (v := .bool true) rfl (by kernel_rfl) (by kernel_rfl) (by kernel_rfl) (fun _ _ _ h => h) (Or.inl ⟨by rfl, fun _ _ => rfl⟩) hHeld ?_
     try dsimp only
     try simp only [Act.put, qz0, qz1, qz2, qz3, qz4, qz5]
     refine wpAnyH_take (i := 14) (v := undef) rfl (by kernel_rfl) (by kernel_rfl) (by kernel_rfl) (fun _ _ _ h => h) (Or.inr ⟨by rfl, rfl⟩) hHeld ?_
     try dsimp only
     try simp only [Act.put, qz0, qz1, qz2, qz3, qz4, qz5]
     refine wpAnyH_take (i := 15) (v := undef) rfl (by kernel_rfl) (by kernel_rfl) (by kernel_rfl) (fun _ _ _ h => h) (Or.inr ⟨by rfl, rfl⟩) hHeld ?_
     try dsimp only
     try simp only [Act.put, qz0, qz1, qz2, qz3, qz4, qz5]
     refine wpAnyH_take (i := 16) (v := undef) rfl (by kernel_rfl) (by kernel_rfl) (by kernel_rfl) (fun _ _ _ h => h) (Or.inr ⟨by rfl, rfl⟩) hHeld ?_
     try dsimp only
     try simp only [Act.put, qz0, qz1, qz2, qz3, qz4, qz5]
     refine wpAnyH_take (i := 17) (v := undef) rfl (by kernel_rfl) (by kernel_rfl) (by kernel_rfl) (fun _ _ _ h => h) (Or.inr ⟨by rfl, rfl⟩) hHeld ?_
     try dsimp only
     try simp only [Act.put, qz0, qz1, qz2, qz3, qz4, qz5]
     refine wpAnyH_take (i := 18) (v := undef) rfl (by kernel_rfl) (by kernel_rfl) (by kernel_rfl) (fun _ _ _ h => h) (Or.inr ⟨by rfl, rfl⟩) hHeld ?_
     try dsimp only
     try simp only [Act.put, qz0, qz1, qz2, qz3, qz4, qz5]
     refine wpAnyH_take (i := 19) (v := undef) rfl (by kernel_rfl) (by kernel_rfl) (by kernel_rfl) (fun _ _ _ h => h) (Or.inr ⟨by rfl, rfl⟩) hHeld ?_
     try dsimp only
     try simp only [Act.put, qz0, qz1, qz2, qz3, qz4, qz5]
     refine wpAnyH_take (i := 20) (v := undef) rfl (by kernel_rfl) (by kernel_rfl) (by kernel_rfl) (fun _ _ _ h => h) (Or.inr ⟨by rfl, rfl⟩) hHeld ?_
     try dsimp only
     try simp only [Act.put, qz0, qz1, qz2, qz3, qz4, qz5]
     refine wpAnyH_take (i := 21) (v := undef) rfl (by kernel_rfl) (by kernel_rfl) (by kernel_rfl) (fun _ _ _ h => h) (Or.inr ⟨by rfl, rfl⟩) hHeld ?_
     try dsimp only
     try simp only [Act.put, qz0, qz1, qz2, qz3, qz4, qz5]
     refine wpAnyH_take (i := 22) (v := undef) rfl (by kernel_rfl) (by kernel_rfl) (by kernel_rfl) (fun _ _ _ h => h) (Or.inr ⟨by rfl, rfl⟩) hHeld ?_
     try dsimp only
     try simp only [Act.put, qz0, qz1, qz2, qz3, qz4, qz5]
     refine wpAnyH_take (i := 23) (v := undef) rfl (by kernel_rfl) (by kernel_rfl) (by kernel_rfl) (fun _ _ _ h => h) (Or.inr ⟨by rfl, rfl⟩) hHeld ?_
     try dsimp only
     try simp only [Act.put, qz0, qz1, qz2, qz3, qz4, qz5]
     refine wpAnyH_take (i := 24) (v := .bool true) rfl (by kernel_rfl) (by kernel_rfl) (by kernel_rfl) (fun _ _ _ h => h) (Or.inl ⟨by rfl, fun w _ => by go_simp⟩) hHeld ?_
     try dsimp only
     try simp only [Act.put, qz0, qz1, qz2, qz3, qz4, qz5]
     refine wpAnyH_done (by kernel_rfl) ?_ _
     clear hHeld
     have HB3 : Hid (Below W.heap.size W w2.drew) := Lib.hid HB2.out.drew
     go_wp2
     refine bodyPost_ret (results_tmp2S rfl _ _ _) rfl ?_
     exact wrRet_bad HC3.out (by decide) HB3.out 8 rfl
  ·exfalso
   apply hck.out
   rw [HC.out, List.drop_eq_nil_of_le (by have := hn.out; omega)]
   cases prevO l k <;> rfl
set_option maxHeartbeats 4000000 in
theorem write_bad (A0 : Option Addr) (n c : Nat) (l : List Ev) (hn : Hid (n = l.length)) (hn9 : n ≤ 200) (p : Int) (hbad : wCode p l ≠ 0) (W : World) (HE : Hid (EvAt W A0 l)) :
  Calls Tryd.prog 5 #[.slice A0 n c, .int .i64 p] W (WrRet p l W) := by
 have HBD := Lib.hid hbad
 have hn5 : ¬ ((1024 : Int) < (n : Int)) := by omega
 by_cases h0 : n = 0
 ·have HW1 : Hid (wCode p l = 1) := Lib.hid (wCode_one (.inl (List.eq_nil_of_length_eq_zero (by have := hn.out; omega))))
  have hn0 : ((n : Int) == 0) = true := by subst h0; rfl
  clear hbad
  go_enter Tryd.func5, Tryd.ntmps5
  go_wp2
  refine bodyPost_ret (results_tmp2S rfl _ _ _) rfl ?_
  exact wrRet_bad HW1.out (by decide) (Below.refl _ _) 1 rfl
 ·have hn0 : ((n : Int) == 0) = false := by rw [beq_eq_false_iff_ne]; omega
  have hl0 : l ≠ [] := fun e => h0 (by rw [hn.out, e]; rfl)
  by_cases h1 : p < 1
  ·have HW1 : Hid (wCode p l = 1) := Lib.hid (wCode_one (.inr (.inl h1)))
   clear hbad
   go_enter Tryd.func5, Tryd.ntmps5
   go_wp2
   refine bodyPost_ret (results_tmp2S rfl _ _ _) rfl ?_
   exact wrRet_bad HW1.out (by decide) (Below.refl _ _) 1 rfl
  ·by_cases h8 : 8 < p
   ·have HW1 : Hid (wCode p l = 1) := Lib.hid (wCode_one (.inr (.inr h8)))
    clear hbad
    go_enter Tryd.func5, Tryd.ntmps5
    go_wp2
    refine bodyPost_ret (results_tmp2S rfl _ _ _) rfl ?_
    exact wrRet_bad HW1.out (by decide) (Below.refl _ _) 1 rfl
   ·have HWC : Hid (wCode p l = chkL p none l) := Lib.hid (wCode_chk hl0 (by omega) (by omega))
    have HCK := Lib.hid (chk_any A0 n c l hn (by omega) p W HE)
    obtain ⟨z, hz⟩ : ∃ z, z = chkL p none l := ⟨_, rfl⟩
    have hzi : ¬ ((z : Int) = 0) := by have := HWC.out; have := HBD.out; omega
    rw [← hz] at HCK HWC
    have HZ : Hid (z ≠ 0) := Lib.hid (by omega)
    clear hbad hz
    go_enter Tryd.func5, Tryd.ntmps5
    go_wp2_with (go_at_call 9; (with_reducible refine HCK.out.mono ?_); rintro e w1 ⟨rfl, hb⟩; have HB1 := Lib.hid hb; clear hb)
    refine bodyPost_ret (results_tmp2S rfl _ _ _) rfl ?_
    exact wrRet_bad HWC.out HZ.out HB1.out (z : Int) rfl
end Go.Proofs.YtifabkbdiiolfaaDoor
