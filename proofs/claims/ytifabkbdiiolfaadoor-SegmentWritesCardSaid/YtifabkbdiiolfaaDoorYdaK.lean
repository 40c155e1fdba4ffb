/-
  Layer segment: the document's least and greatest, and its foot's bytes: plain.
-/
import Derived.Test.YtifabkbdiiolfaaDoorYvK
import Derived.Test.YtifabkbdiiolfaaDoorYpK
set_option linter.unusedSimpArgs false
set_option linter.unusedVariables false
set_option maxRecDepth 8000
namespace Go.Proofs.YtifabkbdiiolfaaDoor
open Go.RowKit Go.WideShapes Col
set_option maxHeartbeats 1000000 in
theorem cloneC_any (ad : Addr) (n c : Nat) (l : List Ck) (hn : Hid (n = l.length)) (hn9 : n ≤ 900) (w : World) (HC : Hid (CkAt w (some ad) l)) :
  Calls Tryd.prog 28 #[.slice (some ad) n c] w fun e w' => ∃ A' cap', e = .returned (.slice A' n cap') ∧ OwnC w' w.heap.size A' n cap' l ∧ Below w.heap.size w w' := by
 have q22 : ∀ (w : World) (a : Option Addr) (n c n' c' : Nat), (binOp .eql 38 (.slice a n c) (.slice none n' c')).run Tryd.prog w = .ok (.bool a.isNone) w := fun w a n c n' c' => Lib.run_eql_slice_nil w _ _ a n c n' c' Tryd.underlying38
 have HA1 : Hid (CkAt (w.alloc (.cells #[] 41)) (some ad) l) := Lib.hid (HC.out.keep ((Below.refl _ _).alloc (Nat.le_refl _) _))
 have HO : Hid (OwnC (w.alloc (.cells #[] 41)) w.heap.size (some ⟨w.heap.size, 0, none⟩) 0 0 []) := Lib.hid (World.ownsRow_made w #[] 0 (Nat.le_refl _) (Nat.zero_le _) (by simp))
 go_enter Tryd.func28, Tryd.ntmps28
 go_wp2_with (at_builtin; refine wpList_append_ck rfl (.tmp 5) (.tmp 6) rfl w.heap.size (some ⟨w.heap.size, 0, none⟩) 0 0 [] rfl HO.out (some ad) n c l rfl hn.out HA1.out (fun h => by cases h) n (by omega) (by omega) (by simp) ?_; intro A' cap' w' hO _ _ _ hb)
 go_ret
 exact ⟨A', cap', rfl, hO, ((Below.refl _ w).alloc (Nat.le_refl _) _).trans hb⟩
set_option maxHeartbeats 1000000 in
theorem chunks_any (b : Nat) (P : List Nat) (p : Nat) (cs : List Ck) (foot : Nat) (h0 : 0 < cs.length) (hn9 : cs.length ≤ 900) (w : World) (HS : Hid (SegAt w b P p cs foot)) :
  Calls Tryd.prog 8 #[.pointer (some ⟨b, 0, none⟩)] w fun e w' => ∃ A' n cap', e = .returned (.slice A' n cap') ∧ n = cs.length ∧ OwnC w' w.heap.size A' n cap' cs ∧ Below w.heap.size w w' := by
 obtain ⟨A, n, c, A2, n2, c2, h1, -, -, -, -, h6⟩ := HS.out
 have hn2 : n2 = cs.length := by have h4 := h6.1; rw [cks_length] at h4; omega
 have HN2 := Lib.hid hn2
 have HC := Lib.hid h6.at'
 obtain ⟨x, hx⟩ : ∃ x, cs[0]? = some x := ⟨_, List.getElem?_eq_getElem h0⟩
 obtain ⟨g, off, rfl, -, -⟩ := ckr HC.out 0 x hx
 have cb2 : w.cell? ⟨b, 2, none⟩ = some (.slice (some ⟨g, off, none⟩) n2 c2) := by rw [cell_of_row _ _ _ _ _ _ h1]; rfl
 have hn9' : n2 ≤ 900 := by omega
 clear h1 h6 hn2 hx
 go_enter Tryd.func8, Tryd.ntmps8
 go_wp2_with (go_at_call 28; (with_reducible refine (cloneC_any _ n2 c2 cs HN2 hn9' w HC).mono ?_); rintro e w1 ⟨A', cap', rfl, ho, hb⟩)
 go_ret
 exact ⟨A', n2, cap', rfl, HN2.out, ho, hb⟩
theorem ownE_nil (w : World) (B : Nat) : OwnE w B none 0 0 [] := w.ownsRow_nil B _ 5
theorem ownE_keep {w w' : World} {B n cap : Nat} {A : Option Addr} {l : List Ev} (h : OwnE w B A n cap l) (hb : Below w.heap.size w w') : OwnE w' B A n cap l :=
 World.ownsRow.kept (row := none) h ⟨hb.os, hb.tape, hb.output, hb.size, fun k hk _ => hb.block k hk⟩ (by rcases A with _ | a <;> simp [Value.ownBlock])
/-! The document's example. -/
def evX (i : Nat) : Ev := ⟨i, 0, (i : Int), ByteArray.empty, 0⟩
def evXs (n : Nat) : List Ev := (List.range n).map evX
theorem evXs_succ (n : Nat) : evXs (n + 1) = evXs n ++ [evX n] := by unfold evXs; rw [List.range_succ, List.map_append]; rfl
theorem evXs_len (n : Nat) : (evXs n).length = n := by unfold evXs; simp
theorem evXs_form (i : Nat) (h : i < 200) : formB (evX i) 1 = true := by
 unfold formB evX
 dsimp only
 rw [decide_eq_true (by omega), decide_eq_true (by omega), decide_eq_true (by omega), decide_eq_true (by omega), decide_eq_true (by show 0 ≤ 32; omega), decide_eq_true (by omega)]
 rfl
theorem evXs_chk (o : Nat) : ∀ (m k : Nat), k + m ≤ 190 → chkL 1 (some (k + o)) ((List.range' (k + 1) m).map fun i => evX i) = 0 ∨ o ≠ 0
 | 0, k, h => .inl rfl
 | m + 1, k, h => by
  rcases evXs_chk o m (k + 1) (by omega) with h1 | h1
  ·by_cases ho : o = 0
   ·subst ho
    left
    show chkL 1 (some (k + 0)) (evX (k + 1) :: (List.range' (k + 1 + 1) m).map fun i => evX i) = 0
    unfold chkL
    rw [if_pos (evXs_form (k + 1) (by omega))]
    dsimp only
    rw [if_pos (show (evX (k + 1)).off = k + 0 + 1 from rfl)]
    exact h1
   ·exact .inr ho
  ·exact .inr h1
theorem evXs_chk0 : chkL (((1 : Nat) : Int)) none (evXs 130) = 0 := by
 have h := (evXs_chk 0 129 0 (by omega)).resolve_right (fun h => h rfl)
 have e : evXs 130 = evX 0 :: (List.range' (0 + 1) 129).map fun i => evX i := by
  unfold evXs
  rw [List.range_eq_range', show (130 : Nat) = 129 + 1 from rfl, List.range'_succ]; rfl
 rw [e]
 show chkL 1 none (evX 0 :: _) = 0
 unfold chkL
 rw [if_pos (evXs_form 0 (by omega))]
 exact h
theorem evXs_fine (n : Nat) (hn : n ≤ 200) : ∀ x ∈ evXs n, FineE x := fun x hx => by
 unfold evXs at hx
 obtain ⟨i, hi, rfl⟩ := List.mem_map.1 hx
 have hi : i < n := List.mem_range.1 hi
 exact ⟨by show i < _; omega, ⟨by show (0 : Int) ≤ 0; omega, by show (0 : Int) < 8; omega⟩, ⟨by show _ ≤ (i : Int); omega, by show (i : Int) ≤ _; omega⟩, by show 0 ≤ 32; omega, by show 0 < _; omega⟩
set_option maxHeartbeats 4000000 in
theorem awakeS_any (w : World) (HG : Hid (HalvesAt w)) : Calls Tryd.prog 4 #[] w fun e w' => e = .returned (.bool true) ∧ Below w.heap.size w w' := by
 go_enter Tryd.func4, Tryd.ntmps4
 go_wp2
 go_loopw [1, 2] (fun u v wr => ∃ (k : Nat) (A : Option Addr) (cap : Nat), k ≤ 130 ∧ u = .slice A k cap ∧ v = .int .i64 (k : Int) ∧ OwnE wr w.heap.size A k cap (evXs k) ∧ k ≤ cap ∧ cap ≤ maxLen ∧ Below w.heap.size w wr) (fun _ v _ => 130 - (intOf v).toNat)
 case atStart => exact ⟨0, none, 0, by omega, rfl, rfl, ownE_nil _ _, Nat.le_refl _, Nat.zero_le _, Below.refl _ _⟩
 case round =>
  obtain ⟨k, A, cap, hk, rfl, rfl, ho, hkc, hcm, hb⟩ := hrel
  have HO := Lib.hid ho
  have HB := Lib.hid hb
  clear ho hb
  by_cases hlt : k < 130
  ·have hki : (k : Int) < 130 := by omega
   have hwk : IntKind.u64.wrap (k : Int) = (k : Int) := by rw [IntKind.wrap_u64]; omega
   have hwb : w.heap.size ≤ wr.heap.size := HB.out.size
   have HA : Hid (OwnE (wr.alloc (.cells #[.int .u64 (k : Int), .int .i64 0, .int .i64 (k : Int), .string { data := #[] }, .float .f64 0] 34)) w.heap.size A k cap (evXs k)) := Lib.hid (ownE_keep HO.out ((Below.refl _ _).alloc (Nat.le_refl _) _))
   have HE : Hid (EvAt (wr.alloc (.cells #[.int .u64 (k : Int), .int .i64 0, .int .i64 (k : Int), .string { data := #[] }, .float .f64 0] 34)) (some ⟨wr.heap.size, 0, none⟩) [evX k]) := Lib.hid (evAt_new wr [evX k] _ rfl _)
   have HBA : Hid (Below w.heap.size w (wr.alloc (.cells #[.int .u64 (k : Int), .int .i64 0, .int .i64 (k : Int), .string { data := #[] }, .float .f64 0] 34))) := Lib.hid (HB.out.alloc HB.out.size _)
   go_wp2_with (at_builtin; refine wpList_append_ev rfl _ _ rfl w.heap.size A k cap (evXs k) rfl HA.out (some ⟨wr.heap.size, 0, none⟩) 1 1 [evX k] rfl rfl HE.out (fun h => by cases h) (k + 1) rfl (by omega) (by simp; omega) ?_; intro A3 c3 w3 ho3 h31 h32 h33 hb3; have HO3 := Lib.hid ho3; have HC3 := Lib.hid (And.intro h31 h32); have HB3 := Lib.hid (HBA.out.trans hb3); clear ho3 h31 h32 h33 hb3)
   go_roundw
   case rel => exact ⟨k + 1, A3, c3, by omega, rfl, by go_num, by rw [evXs_succ]; exact HO3.out, HC3.out.1, HC3.out.2, HB3.out⟩
   case measure => simp [intOf]; omega
  ·obtain rfl : k = 130 := by omega
   have hEA := HO.out.at'
   obtain ⟨x, hx⟩ : ∃ x, (evXs 130)[0]? = some x := ⟨_, rfl⟩
   obtain ⟨g, off, rfl, -, -⟩ := evr hEA 0 x hx
   have HW := Lib.hid (write_any g off 130 cap (evXs 130) (Lib.hid (evXs_len 130).symm) (by omega) (by omega) hkc hcm 1 (by omega) (by omega) (Lib.hid evXs_chk0) (Lib.hid (evXs_fine 130 (by omega))) wr (Lib.hid hEA) (Lib.hid (HG.out.keep HB.out)))
   have HOP : Hid ((∀ x ∈ segB 1 (evXs 130), x < 256) → openP (segB 1 (evXs 130)) = some ((1, segCk (evXs 130)), (segPg (evXs 130)).length)) := Lib.hid fun hb => segB_opens 1 (by omega) (by omega) (evXs 130) (by rw [evXs_len]; omega) (by rw [evXs_len]; omega) evXs_chk0 (evXs_fine 130 (by omega)) hb
   have HLN : Hid ((segB 1 (evXs 130)).length ≤ 1000000) := Lib.hid (segB_len 1 (by omega) (evXs 130) (by rw [evXs_len]; omega) (by rw [evXs_len]; omega) (evXs_fine 130 (by omega)))
   have HCL : Hid ((segCk (evXs 130)).length = 3) := Lib.hid (by rw [segCk_len]; unfold segN; rw [evXs_len])
   have HR : Hid (∀ k c, (segCk (evXs 130))[k]? = some c → c.rows = lnC 130 k) := Lib.hid fun k c hc => by
    obtain ⟨h1, h2⟩ := wrS_get (evXs 130) (segN (evXs 130)) k c hc
    have h3 := (segCk_facts evXs_chk0 hx k h1 (ahead (evXs 130) k)).1
    rw [← h2, evXs_len] at h3
    exact h3
   clear hEA hx
   generalize segB 1 (evXs 130) = P at *
   generalize segCk (evXs 130) = cs at *
   generalize (segPg (evXs 130)).length = foot at *
   obtain ⟨c0, hc0⟩ : ∃ c0, cs[0]? = some c0 := ⟨_, List.getElem?_eq_getElem (by have := HCL.out; omega)⟩
   obtain ⟨c2, hc2⟩ : ∃ c2, cs[2]? = some c2 := ⟨_, List.getElem?_eq_getElem (by have := HCL.out; omega)⟩
   have r0 : c0.rows = 64 := by rw [HR.out 0 c0 hc0]; rfl
   have r2 : c2.rows = 2 := by rw [HR.out 2 c2 hc2]; rfl
   have HCC := Lib.hid (And.intro (And.intro hc0 r0) (And.intro hc2 r2))
   clear hc0 hc2 r0 r2 HR
   go_wp2_with (first
    | (go_at_call 5; (with_reducible refine (show Calls Tryd.prog 5 #[.slice (some ⟨g, off, none⟩) 130 cap, .int .i64 1] wr _ from HW.out).mono ?_); rintro e w1 ⟨A1, m1, cap1, rfl, h1, h2⟩; have HO1 := Lib.hid h1; have HB1 := Lib.hid h2; have HB1w := Lib.hid (below_to HB.out h2); clear h1 h2)
    | (go_at_call 7; have hop := open_any A1 m1 cap1 P (Lib.hid HO1.out.len) (by have := HLN.out; have := HO1.out.len; omega) HO1.out.caps.1 HO1.out.caps.2 w1 (Lib.hid HO1.out.byAt) (Lib.hid (HG.out.keep HB1w.out)); rw [HOP.out HO1.out.2] at hop; (with_reducible refine hop.mono ?_); rintro e w2 ⟨b, rfl, hs, -, h2⟩; have HS2 : Hid (SegAt w2 b P 1 cs foot) := Lib.hid hs; have HB2w := Lib.hid (below_to HB1w.out h2); clear hop hs h2)
    | (go_at_call 8; (with_reducible refine (chunks_any b P 1 cs foot (by have := HCL.out; omega) (by have := HCL.out; omega) w2 HS2).mono ?_); rintro e w3 ⟨A3, n3, c3, rfl, hn3, ho3, hb3⟩; obtain rfl : n3 = 3 := hn3.trans HCL.out; have HB3w := Lib.hid (below_to HB2w.out hb3); obtain ⟨g3, o3, hA3, -, hr0⟩ := ckr ho3.at' 0 c0 HCC.out.1.1; subst hA3; obtain ⟨g4, o4, hA4, -, hr2⟩ := ckr ho3.at' 2 c2 HCC.out.2.1; injection hA4 with hA4; injection hA4 with e3 e4; subst e3; subst e4; have q0 := hr0 0 _ rfl; have q2 := hr2 0 _ rfl; rw [HCC.out.1.2] at q0; rw [HCC.out.2.2] at q2; have q0 : w3.cell? ⟨g3, o3, none⟩ = some (.int .i64 64) := q0; have q2 : w3.cell? ⟨g3, o3 + 2 * 8, none⟩ = some (.int .i64 2) := q2; clear hn3 ho3 hb3 hr0 hr2))
   go_ret
   exact ⟨rfl, HB3w.out⟩
end Go.Proofs.YtifabkbdiiolfaaDoor

namespace Go.Proofs.YtifabkbdiiolfaaDoor
open Go.RowKit Go.WideShapes Col
def KLe (a b : ByteArray) : Prop := a.toList ≤ b.toList
theorem KLe.refl (a : ByteArray) : KLe a a := List.le_refl _
theorem KLe.trans {a b c : ByteArray} (h1 : KLe a b) (h2 : KLe b c) : KLe a c := List.le_trans h1 h2
theorem KLe.not {a b : ByteArray} (h : KLe a b) : Op.bytesLess b.toList a.toList = false := by
 rw [bytesLess_eq, decide_eq_false_iff_not]; exact List.not_lt.2 h
theorem KLe.gtr {a b : ByteArray} (h : KLe a b) : (!(Op.bytesLess a.toList b.toList || a.toList == b.toList)) = false := by
 rw [Bool.not_eq_false', Bool.or_eq_true, bytesLess_eq, decide_eq_true_eq, beq_iff_eq]
 by_cases h1 : a.toList < b.toList
 ·exact .inl h1
 ·exact .inr (List.le_antisymm h (List.not_lt.1 h1))
end Go.Proofs.YtifabkbdiiolfaaDoor

namespace Go.Proofs.YtifabkbdiiolfaaDoor
open Go.RowKit Go.WideShapes Col
theorem minK_lss (a b : ByteArray) : minK a b = if Op.bytesLess b.toList a.toList = true then b else a := by
 by_cases h : Op.bytesLess b.toList a.toList = true
 ·rw [if_pos h]
  unfold minK
  rw [if_neg]
  rw [bytesLess_eq, decide_eq_true_eq] at h
  intro h2
  rw [Bool.or_eq_true, bytesLess_eq, decide_eq_true_eq, beq_iff_eq] at h2
  rcases h2 with h2 | h2
  ·exact absurd (List.lt_trans h h2) (List.lt_irrefl _)
  ·rw [h2] at h; exact absurd h (List.lt_irrefl _)
 ·rw [if_neg h]
  unfold minK
  rw [if_pos]
  rw [bytesLess_eq, decide_eq_true_eq] at h
  rw [Bool.or_eq_true, bytesLess_eq, decide_eq_true_eq, beq_iff_eq]
  by_cases h1 : a.toList < b.toList
  ·exact .inl h1
  ·exact .inr (List.le_antisymm (List.not_lt.1 h) (List.not_lt.1 h1))
theorem maxK_gtr (a b : ByteArray) : maxK a b = if (!(Op.bytesLess b.toList a.toList || b.toList == a.toList)) = true then b else a := by
 unfold maxK
 by_cases h : a.toList < b.toList
 ·have h1 : Op.bytesLess a.toList b.toList = true := by rw [bytesLess_eq, decide_eq_true_eq]; exact h
  have h2 : Op.bytesLess b.toList a.toList = false := by rw [bytesLess_eq, decide_eq_false_iff_not]; exact fun h3 => absurd (List.lt_trans h h3) (List.lt_irrefl _)
  have h3 : (b.toList == a.toList) = false := by rw [beq_eq_false_iff_ne]; intro e; rw [e] at h; exact absurd h (List.lt_irrefl _)
  rw [h1, h2, h3]; rfl
 ·have h1 : Op.bytesLess a.toList b.toList = false := by rw [bytesLess_eq, decide_eq_false_iff_not]; exact h
  have h2 : (Op.bytesLess b.toList a.toList || b.toList == a.toList) = true := by
   rw [Bool.or_eq_true, bytesLess_eq, decide_eq_true_eq, beq_iff_eq]
   by_cases h3 : b.toList < a.toList
   ·exact .inl h3
   ·exact .inr (List.le_antisymm (List.not_lt.1 h) (List.not_lt.1 h3))
  rw [h1, h2]; rfl
/-- What is told of the first events of a chunk. -/
def ckT (l : List Ev) (p t : Nat) : Ck := (l.take t).foldl ckF (ckS l p)
theorem ckT_succ (l : List Ev) (p t : Nat) (x : Ev) (h : l[t]? = some x) : ckT l p (t + 1) = ckF (ckT l p t) x := by
 unfold ckT
 rw [List.take_add_one, h, Option.toList_some, List.foldl_append]; rfl
theorem ckT_all (l : List Ev) (p t : Nat) (h : l.length ≤ t) : ckT l p t = ckOf l p := by
 unfold ckT; rw [List.take_of_length_le h]; rfl
theorem ckT_zero (l : List Ev) (p : Nat) (x : Ev) (h : l[0]? = some x) : (ckT l p 0).ta = x.time ∧ (ckT l p 0).tz = x.time ∧ (ckT l p 0).ka = x.key ∧ (ckT l p 0).kz = x.key := by
 rcases l with _ | ⟨y, r⟩
 ·simp at h
 ·rw [List.getElem?_cons_zero] at h; injection h with h; subst h
  exact ⟨rfl, rfl, rfl, rfl⟩
theorem ckOf_ends (l : List Ev) (p : Nat) (x y : Ev) (h : l[0]? = some x) (hy : l[l.length - 1]? = some y) : (ckOf l p).rows = l.length ∧ (ckOf l p).pl = p ∧ (ckOf l p).oa = x.off ∧ (ckOf l p).ob = y.off := by
 have hf := ckF_fold l (ckS l p)
 unfold ckOf
 rw [hf.1, hf.2.1, hf.2.2.1, hf.2.2.2]
 rcases l with _ | ⟨z, r⟩
 ·simp at h
 ·rw [List.getElem?_cons_zero] at h; injection h with h; subst h
  refine ⟨rfl, rfl, rfl, ?_⟩
  show ((z :: r).getLast (by simp)).off = y.off
  rw [List.getLast_eq_getElem, ← Option.some_inj.1 ((List.getElem?_eq_getElem _).symm.trans hy)]
/-- A chunk's bytes in the foot, one behind the other. -/
theorem ckB_cat (x : Ck) (f : List Nat) : (((((((f ++ ub x.rows) ++ ub x.pl) ++ ub x.oa) ++ ub x.ob) ++ ub (zz x.ta)) ++ ub (zz x.tz)) ++ txL (kbS x.ka)) ++ txL (kbS x.kz) = f ++ ckB x := by
 simp [ckB, nums, nsB, List.append_assoc]
theorem footB_cat (p : Nat) (l : List Ck) : (ub p ++ ub l.length) ++ cksB l = footB p l := by
 simp [footB, nsB, List.append_assoc]
theorem cksB_add (l : List Ck) (x : Ck) : cksB (l ++ [x]) = cksB l ++ ckB x := by
 simp [cksB]
theorem stW_of {len k : Nat} (h : k < (len + 63) / 64) : stC len k = 64 * k := by unfold stC; rw [if_pos (by omega)]
theorem pcs_drop {l : List Ev} {k : Nat} (hs : stC l.length k = 64 * k) : (l.drop (64 * k)).take (min 64 (l.length - 64 * k)) = pcs l k := by
 unfold pcs lnC; rw [hs]
end Go.Proofs.YtifabkbdiiolfaaDoor
