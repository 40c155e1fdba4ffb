/-
  A filter that came in, opened: beside a tied card's frame.
-/
import Derived.Test.YtifabkbdiiolfaaGreatDoorYvK
import Derived.Test.YtifabkbdiiolfaaGreatDoorYpK
import Derived.Test.YtifabkbdiiolfaaGreatDoorPlK
import Derived.Test.YtifabkbdiiolfaaGreatDoorEsK
set_option linter.unusedSimpArgs false
set_option linter.unusedVariables false
set_option maxRecDepth 8000
namespace Go.Proofs.YtifabkbdiiolfaaGreatDoor
open Go.RowKit Go.WideShapes Col
set_option maxHeartbeats 1000000 in
theorem cloneC_any (ad : Addr) (n c : Nat) (l : List Ck) (hn : Hid (n = l.length)) (hn9 : n ≤ 900) (w : World) (HC : Hid (CkAt w (some ad) l)) :
  Calls Tryz.prog 64 #[.slice (some ad) n c] w fun e w' => ∃ A' cap', e = .returned (.slice A' n cap') ∧ OwnC w' w.heap.size A' n cap' l ∧ Below w.heap.size w w' := by
 have q22 : ∀ (w : World) (a : Option Addr) (n c n' c' : Nat), (binOp .eql 74 (.slice a n c) (.slice none n' c')).run Tryz.prog w = .ok (.bool a.isNone) w := fun w a n c n' c' => Lib.run_eql_slice_nil w _ _ a n c n' c' Tryz.underlying74
 have HA1 : Hid (CkAt (w.alloc (.cells #[] 77)) (some ad) l) := Lib.hid (HC.out.keep ((Below.refl _ _).alloc (Nat.le_refl _) _))
 have HO : Hid (OwnC (w.alloc (.cells #[] 77)) w.heap.size (some ⟨w.heap.size, 0, none⟩) 0 0 []) := Lib.hid (World.ownsRow_made w #[] 0 (Nat.le_refl _) (Nat.zero_le _) (by simp))
 go_enter Tryz.func64, Tryz.ntmps64
 go_wp2_with (at_builtin; refine wpList_append_ck rfl (.tmp 5) (.tmp 6) rfl w.heap.size (some ⟨w.heap.size, 0, none⟩) 0 0 [] rfl HO.out (some ad) n c l rfl hn.out HA1.out (fun h => by cases h) n (by omega) (by omega) (by simp) ?_; intro A' cap' w' hO _ _ _ hb)
 go_ret
 exact ⟨A', cap', rfl, hO, ((Below.refl _ w).alloc (Nat.le_refl _) _).trans hb⟩
set_option maxHeartbeats 1000000 in
theorem chunks_any (b : Nat) (P : List Nat) (p : Nat) (cs : List Ck) (foot : Nat) (h0 : 0 < cs.length) (hn9 : cs.length ≤ 900) (w : World) (HS : Hid (SegAt w b P p cs foot)) :
  Calls Tryz.prog 35 #[.pointer (some ⟨b, 0, none⟩)] w fun e w' => ∃ A' n cap', e = .returned (.slice A' n cap') ∧ n = cs.length ∧ OwnC w' w.heap.size A' n cap' cs ∧ Below w.heap.size w w' := by
 obtain ⟨A, n, c, A2, n2, c2, h1, -, -, -, -, h6⟩ := HS.out
 have hn2 : n2 = cs.length := by have h4 := h6.1; rw [cks_length] at h4; omega
 have HN2 := Lib.hid hn2
 have HC := Lib.hid h6.at'
 obtain ⟨x, hx⟩ : ∃ x, cs[0]? = some x := ⟨_, List.getElem?_eq_getElem h0⟩
 obtain ⟨g, off, rfl, -, -⟩ := ckr HC.out 0 x hx
 have cb2 : w.cell? ⟨b, 2, none⟩ = some (.slice (some ⟨g, off, none⟩) n2 c2) := by rw [cell_of_row _ _ _ _ _ _ h1]; rfl
 have hn9' : n2 ≤ 900 := by omega
 clear h1 h6 hn2 hx
 go_enter Tryz.func35, Tryz.ntmps35
 go_wp2_with (go_at_call 64; (with_reducible refine (cloneC_any _ n2 c2 cs HN2 hn9' w HC).mono ?_); rintro e w1 ⟨A', cap', rfl, ho, hb⟩)
 go_ret
 exact ⟨A', n2, cap', rfl, HN2.out, ho, hb⟩
theorem ownE_nil (w : World) (B : Nat) : OwnE w B none 0 0 [] := w.ownsRow_nil B _ 5
theorem ownE_keep {w w' : World} {B n cap : Nat} {A : Option Addr} {l : List Ev} (h : OwnE w B A n cap l) (hb : Below w.heap.size w w') : OwnE w' B A n cap l :=
 World.ownsRow.kept (row := none) h ⟨hb.os, hb.tape, hb.output, hb.size, fun k hk _ => hb.block k hk⟩ (by rcases A with _ | a <;> simp [Value.ownBlock])
/-! The document's example. -/
def evX (i : Nat) : Ev := ⟨i, 0, (i : Int), ByteArray.empty, 0⟩
def evXs (n : Nat) : List Ev := (List.range n).map evX
theorem evXs_succ (n : Nat) : evXs (n + 1) = evXs n ++ [evX n] := by unfold evXs; rw [List.range_succ, List.map_append]; rfl
theorem evXs_len (n : Nat) : (evXs n).length = n := by unfold evXs; simp
theorem evXs_form (i : Nat) (h : i < 200) : formB (evX i) 1 = true := by
 unfold formB evX
 dsimp only
 rw [decide_eq_true (by omega), decide_eq_true (by omega), decide_eq_true (by omega), decide_eq_true (by omega), decide_eq_true (by show 0 ≤ 32; omega), decide_eq_true (by omega)]
 rfl
theorem evXs_chk (o : Nat) : ∀ (m k : Nat), k + m ≤ 190 → chkL 1 (some (k + o)) ((List.range' (k + 1) m).map fun i => evX i) = 0 ∨ o ≠ 0
 | 0, k, h => .inl rfl
 | m + 1, k, h => by
  rcases evXs_chk o m (k + 1) (by omega) with h1 | h1
  ·by_cases ho : o = 0
   ·subst ho
    left
    show chkL 1 (some (k + 0)) (evX (k + 1) :: (List.range' (k + 1 + 1) m).map fun i => evX i) = 0
    unfold chkL
    rw [if_pos (evXs_form (k + 1) (by omega))]
    dsimp only
    rw [if_pos (show (evX (k + 1)).off = k + 0 + 1 from rfl)]
    exact h1
   ·exact .inr ho
  ·exact .inr h1
theorem evXs_chk0 : chkL (((1 : Nat) : Int)) none (evXs 130) = 0 := by
 have h := (evXs_chk 0 129 0 (by omega)).resolve_right (fun h => h rfl)
 have e : evXs 130 = evX 0 :: (List.range' (0 + 1) 129).map fun i => evX i := by
  unfold evXs
  rw [List.range_eq_range', show (130 : Nat) = 129 + 1 from rfl, List.range'_succ]; rfl
 rw [e]
 show chkL 1 none (evX 0 :: _) = 0
 unfold chkL
 rw [if_pos (evXs_form 0 (by omega))]
 exact h
theorem evXs_fine (n : Nat) (hn : n ≤ 200) : ∀ x ∈ evXs n, FineE x := fun x hx => by
 unfold evXs at hx
 obtain ⟨i, hi, rfl⟩ := List.mem_map.1 hx
 have hi : i < n := List.mem_range.1 hi
 exact ⟨by show i < _; omega, ⟨by show (0 : Int) ≤ 0; omega, by show (0 : Int) < 8; omega⟩, ⟨by show _ ≤ (i : Int); omega, by show (i : Int) ≤ _; omega⟩, by show 0 ≤ 32; omega, by show 0 < _; omega⟩
set_option maxHeartbeats 4000000 in
theorem awakeS_any (w : World) (HG : Hid (HalvesAt w)) : Calls Tryz.prog 11 #[] w fun e w' => e = .returned (.bool true) ∧ Below w.heap.size w w' := by
 go_enter Tryz.func11, Tryz.ntmps11
 go_wp2
 go_loopw [1, 2] (fun u v wr => ∃ (k : Nat) (A : Option Addr) (cap : Nat), k ≤ 130 ∧ u = .slice A k cap ∧ v = .int .i64 (k : Int) ∧ OwnE wr w.heap.size A k cap (evXs k) ∧ k ≤ cap ∧ cap ≤ maxLen ∧ Below w.heap.size w wr) (fun _ v _ => 130 - (intOf v).toNat)
 case atStart => exact ⟨0, none, 0, by omega, rfl, rfl, ownE_nil _ _, Nat.le_refl _, Nat.zero_le _, Below.refl _ _⟩
 case round =>
  obtain ⟨k, A, cap, hk, rfl, rfl, ho, hkc, hcm, hb⟩ := hrel
  have HO := Lib.hid ho
  have HB := Lib.hid hb
  clear ho hb
  by_cases hlt : k < 130
  ·have hki : (k : Int) < 130 := by omega
   have hwk : IntKind.u64.wrap (k : Int) = (k : Int) := by rw [IntKind.wrap_u64]; omega
   have hwb : w.heap.size ≤ wr.heap.size := HB.out.size
   have HA : Hid (OwnE (wr.alloc (.cells #[.int .u64 (k : Int), .int .i64 0, .int .i64 (k : Int), .string { data := #[] }, .float .f64 0] 45)) w.heap.size A k cap (evXs k)) := Lib.hid (ownE_keep HO.out ((Below.refl _ _).alloc (Nat.le_refl _) _))
   have HE : Hid (EvAt (wr.alloc (.cells #[.int .u64 (k : Int), .int .i64 0, .int .i64 (k : Int), .string { data := #[] }, .float .f64 0] 45)) (some ⟨wr.heap.size, 0, none⟩) [evX k]) := Lib.hid (evAt_new wr [evX k] _ rfl _)
   have HBA : Hid (Below w.heap.size w (wr.alloc (.cells #[.int .u64 (k : Int), .int .i64 0, .int .i64 (k : Int), .string { data := #[] }, .float .f64 0] 45))) := Lib.hid (HB.out.alloc HB.out.size _)
   go_wp2_with (at_builtin; refine wpList_append_ev rfl _ _ rfl w.heap.size A k cap (evXs k) rfl HA.out (some ⟨wr.heap.size, 0, none⟩) 1 1 [evX k] rfl rfl HE.out (fun h => by cases h) (k + 1) rfl (by omega) (by simp; omega) ?_; intro A3 c3 w3 ho3 h31 h32 h33 hb3; have HO3 := Lib.hid ho3; have HC3 := Lib.hid (And.intro h31 h32); have HB3 := Lib.hid (HBA.out.trans hb3); clear ho3 h31 h32 h33 hb3)
   go_roundw
   case rel => exact ⟨k + 1, A3, c3, by omega, rfl, by go_num, by rw [evXs_succ]; exact HO3.out, HC3.out.1, HC3.out.2, HB3.out⟩
   case measure => simp [intOf]; omega
  ·obtain rfl : k = 130 := by omega
   have hEA := HO.out.at'
   obtain ⟨x, hx⟩ : ∃ x, (evXs 130)[0]? = some x := ⟨_, rfl⟩
   obtain ⟨g, off, rfl, -, -⟩ := evr hEA 0 x hx
   have HW := Lib.hid (write_any g off 130 cap (evXs 130) (Lib.hid (evXs_len 130).symm) (by omega) (by omega) hkc hcm 1 (by omega) (by omega) (Lib.hid evXs_chk0) (Lib.hid (evXs_fine 130 (by omega))) wr (Lib.hid hEA) (Lib.hid (HG.out.keep HB.out)))
   have HOP : Hid ((∀ x ∈ segB 1 (evXs 130), x < 256) → openP (segB 1 (evXs 130)) = some ((1, segCk (evXs 130)), (segPg (evXs 130)).length)) := Lib.hid fun hb => segB_opens 1 (by omega) (by omega) (evXs 130) (by rw [evXs_len]; omega) (by rw [evXs_len]; omega) evXs_chk0 (evXs_fine 130 (by omega)) hb
   have HLN : Hid ((segB 1 (evXs 130)).length ≤ 1000000) := Lib.hid (segB_len 1 (by omega) (evXs 130) (by rw [evXs_len]; omega) (by rw [evXs_len]; omega) (evXs_fine 130 (by omega)))
   have HCL : Hid ((segCk (evXs 130)).length = 3) := Lib.hid (by rw [segCk_len]; unfold segN; rw [evXs_len])
   have HR : Hid (∀ k c, (segCk (evXs 130))[k]? = some c → c.rows = lnC 130 k) := Lib.hid fun k c hc => by
    obtain ⟨h1, h2⟩ := wrS_get (evXs 130) (segN (evXs 130)) k c hc
    have h3 := (segCk_facts evXs_chk0 hx k h1 (ahead (evXs 130) k)).1
    rw [← h2, evXs_len] at h3
    exact h3
   clear hEA hx
   generalize segB 1 (evXs 130) = P at *
   generalize segCk (evXs 130) = cs at *
   generalize (segPg (evXs 130)).length = foot at *
   obtain ⟨c0, hc0⟩ : ∃ c0, cs[0]? = some c0 := ⟨_, List.getElem?_eq_getElem (by have := HCL.out; omega)⟩
   obtain ⟨c2, hc2⟩ : ∃ c2, cs[2]? = some c2 := ⟨_, List.getElem?_eq_getElem (by have := HCL.out; omega)⟩
   have r0 : c0.rows = 64 := by rw [HR.out 0 c0 hc0]; rfl
   have r2 : c2.rows = 2 := by rw [HR.out 2 c2 hc2]; rfl
   have HCC := Lib.hid (And.intro (And.intro hc0 r0) (And.intro hc2 r2))
   clear hc0 hc2 r0 r2 HR
   go_wp2_with (first
    | (go_at_call 13; (with_reducible refine (show Calls Tryz.prog 13 #[.slice (some ⟨g, off, none⟩) 130 cap, .int .i64 1] wr _ from HW.out).mono ?_); rintro e w1 ⟨A1, m1, cap1, rfl, h1, h2⟩; have HO1 := Lib.hid h1; have HB1 := Lib.hid h2; have HB1w := Lib.hid (below_to HB.out h2); clear h1 h2)
    | (go_at_call 14; have hop := open_any A1 m1 cap1 P (Lib.hid HO1.out.len) (by have := HLN.out; have := HO1.out.len; omega) HO1.out.caps.1 HO1.out.caps.2 w1 (Lib.hid HO1.out.byAt) (Lib.hid (HG.out.keep HB1w.out)); rw [HOP.out HO1.out.2] at hop; (with_reducible refine hop.mono ?_); rintro e w2 ⟨b, rfl, hs, -, h2⟩; have HS2 : Hid (SegAt w2 b P 1 cs foot) := Lib.hid hs; have HB2w := Lib.hid (below_to HB1w.out h2); clear hop hs h2)
    | (go_at_call 35; (with_reducible refine (chunks_any b P 1 cs foot (by have := HCL.out; omega) (by have := HCL.out; omega) w2 HS2).mono ?_); rintro e w3 ⟨A3, n3, c3, rfl, hn3, ho3, hb3⟩; obtain rfl : n3 = 3 := hn3.trans HCL.out; have HB3w := Lib.hid (below_to HB2w.out hb3); obtain ⟨g3, o3, hA3, -, hr0⟩ := ckr ho3.at' 0 c0 HCC.out.1.1; subst hA3; obtain ⟨g4, o4, hA4, -, hr2⟩ := ckr ho3.at' 2 c2 HCC.out.2.1; injection hA4 with hA4; injection hA4 with e3 e4; subst e3; subst e4; have q0 := hr0 0 _ rfl; have q2 := hr2 0 _ rfl; rw [HCC.out.1.2] at q0; rw [HCC.out.2.2] at q2; have q0 : w3.cell? ⟨g3, o3, none⟩ = some (.int .i64 64) := q0; have q2 : w3.cell? ⟨g3, o3 + 2 * 8, none⟩ = some (.int .i64 2) := q2; clear hn3 ho3 hb3 hr0 hr2))
   go_ret
   exact ⟨rfl, HB3w.out⟩
end Go.Proofs.YtifabkbdiiolfaaGreatDoor

set_option linter.unusedSimpArgs false
set_option linter.unusedVariables false
set_option maxRecDepth 8000
namespace Go.Proofs.YtifabkbdiiolfaaGreatDoor
open Go.ChangeShapes Go.WideShapes Go.ChangeAt Go.RowKit
section
variable {H : Type} {enc : TypeId × Value → H} {P : Program}
theorem trod_float' {w : World} {base : Nat} {spare : Nat → Bool} {held : Bool} {fuel : Nat} {cs : List Value} {x : DataW H × List MemPlace} {t : TypeId} (ht : P.underlying t = some (.float .f64)) (h : DataW.trod enc P w base spare held fuel t cs = some x) :
  ∃ b, cs = [.float .f64 b] ∧ (Lit.float .f64 b).wf = true := by
 cases fuel with
 | zero => simp [DataW.trod] at h
 | succ n =>
  unfold DataW.trod at h
  rw [ht] at h
  split at h <;> simp_all
end
section
variable {H : Type} {enc : TypeId × Value → H} {W : World} {base : Nat} {spare : Nat → Bool} {held : Bool}
/-- The cells of an event that came in. -/
theorem ev_cells {fuel : Nat} {cs : List Value} {y : DataW H × List MemPlace} (h : DataW.trod enc Tryz.prog W base spare held fuel 45 cs = some y) : ∃ x : Ev, cs = x.cells ∧ x.val < 18446744073709551616 := by
 obtain ⟨xs, n, -, -, hl, hxl, hg⟩ := DataW.trod_struct Tryz.underlying45 h
 have hC : Tryz.prog.cellsOf 45 = 5 := by kernel_rfl
 have hx5 : xs.length = 5 := hxl
 rw [hC] at hl
 have one : ∀ (i : Nat) (c : Value) (f : Field), cs[i]? = some c → i < 5 → f.offset = i → Tryz.prog.cellsOf f.type = 1 → DataW.trod enc Tryz.prog W base spare held n f.type ((cs.drop f.offset).take (Tryz.prog.cellsOf f.type)) = xs[i]? → ∃ y, DataW.trod enc Tryz.prog W base spare held n f.type [c] = some y := by
  intro i c f hc hi ho hk hf
  rw [ho, hk] at hf
  have e : (cs.drop i).take 1 = [c] := by
   obtain ⟨h1, h2⟩ := List.getElem?_eq_some_iff.1 hc
   rw [List.drop_eq_getElem_cons h1, h2]; rfl
  rw [e, List.getElem?_eq_getElem (by omega)] at hf
  exact ⟨_, hf⟩
 match cs, hl with
 | [c0, c1, c2, c3, c4], _ =>
  obtain ⟨y0, t0⟩ := one 0 c0 _ rfl (by decide) rfl (by kernel_rfl) (hg 0 _ rfl)
  obtain ⟨y1, t1⟩ := one 1 c1 _ rfl (by decide) rfl (by kernel_rfl) (hg 1 _ rfl)
  obtain ⟨y2, t2⟩ := one 2 c2 _ rfl (by decide) rfl (by kernel_rfl) (hg 2 _ rfl)
  obtain ⟨y3, t3⟩ := one 3 c3 _ rfl (by decide) rfl (by kernel_rfl) (hg 3 _ rfl)
  obtain ⟨y4, t4⟩ := one 4 c4 _ rfl (by decide) rfl (by kernel_rfl) (hg 4 _ rfl)
  obtain ⟨n0, e0, -, w0⟩ := DataW.trod_int (k := .u64) Tryz.underlying24 t0
  obtain ⟨n1, e1, -, -⟩ := DataW.trod_int (k := .i64) Tryz.underlying3 t1
  obtain ⟨n2, e2, -, -⟩ := DataW.trod_int (k := .i64) Tryz.underlying2 t2
  obtain ⟨s3, e3, -, -⟩ := DataW.trod_string Tryz.underlying9 t3
  obtain ⟨b4, e4, w4⟩ := trod_float' Tryz.underlying43 t4
  cases e0; cases e1; cases e2; cases e3; cases e4
  have h0 : 0 ≤ n0 := by
   have h : 0 ≤ n0 ∧ n0 ≤ 18446744073709551615 := by simpa [Lit.wf, IntKind.min, IntKind.max, IntKind.signed, IntKind.bits] using w0
   exact h.1
  refine ⟨⟨n0.toNat, n1, n2, s3, b4⟩, ?_, by simpa [Lit.wf] using w4⟩
  unfold Ev.cells
  rw [Int.toNat_of_nonneg h0]
end
section
variable {H : Type} {enc : TypeId × Value → H} {W : World}
theorem open_evs {b0 : Nat} {r : Reach} {v : Value} {d : DataW H} {ps : List MemPlace} (hok : Value.okWide Tryz.prog W r b0 22 v) (hd : DataW.Trod enc Tryz.prog W 0 (fun _ => true) true 22 v d ps) :
  ∃ (a : Option Addr) (l : List Ev) (cap : Nat), v = .slice a l.length cap ∧ l.length ≤ cap ∧ cap ≤ maxLen ∧ (a = none → l.length = 0 ∧ cap = 0) ∧ (∀ x, a = some x → x.spot = none) ∧ (∀ x ∈ l, x.val < 18446744073709551616) ∧ EvAt W a l := by
 have hu := Tryz.underlying22
 have hC : Tryz.prog.cellsOf 45 = 5 := by kernel_rfl
 obtain ⟨fuel, hf⟩ := hd
 obtain ⟨a, len, cap, rfl⟩ := okWide_slice hu hok
 rcases Deep.open_slice hu hf with ⟨hcs, -⟩ | ⟨a', len', cap', m, n, D, Pl, hcs, -, hl, hm, hmm, hx, hcell⟩
 ·simp [Value.cells] at hcs
  obtain ⟨rfl, rfl, rfl⟩ := hcs
  exact ⟨none, [], 0, rfl, Nat.le_refl _, by unfold maxLen; omega, fun _ => ⟨rfl, rfl⟩, fun x hx => (by cases hx), fun x hx => (by cases hx), fun k x hx => by simp [evs] at hx⟩
 ·simp [Value.cells] at hcs
  obtain ⟨rfl, rfl, rfl⟩ := hcs
  simp only [if_true] at hmm
  subst hmm
  have hspot : a'.spot = none := by
   simp only [Value.okWide, hu, Cell.okWide, Cell.ok] at hok
   exact hok.2.2.2.1
  obtain ⟨g, off, s⟩ := a'
  obtain rfl : s = none := hspot
  have hE : ∀ i, i < m → ∃ x : Ev, W.cells? 0 ((⟨g, off, none⟩ : Addr).add (i * 5)) 5 = some x.cells ∧ x.val < 18446744073709551616 := fun i hi => by
   obtain ⟨cs', h1, h2⟩ := hcell i hi
   rw [hC] at h1
   obtain ⟨x, rfl, hx⟩ := ev_cells h2
   exact ⟨x, h1, hx⟩
  obtain ⟨E, hE⟩ := Deep.choose_lt (α := Ev) (p := fun i x => W.cells? 0 ((⟨g, off, none⟩ : Addr).add (i * 5)) 5 = some x.cells ∧ x.val < 18446744073709551616) hE
  refine ⟨some ⟨g, off, none⟩, (List.range len).map E, m, by simp, by simpa using hl, hm, fun h => (by cases h), fun x hx => (by cases hx; rfl), fun x hx => ?_, fun k v hv => ?_⟩
  ·obtain ⟨i, hi, rfl⟩ := List.mem_map.1 hx
   exact (hE i (by have := List.mem_range.1 hi; omega)).2
  ·have hk : k < len * 5 := by
    have := (List.getElem?_eq_some_iff.1 hv).1
    rw [evs_length] at this; simpa using this
   have e := evs_get ((List.range len).map E) (k / 5) (k % 5) (by omega)
   rw [show k / 5 * 5 + k % 5 = k by omega, hv, List.getElem?_map, List.getElem?_range (by omega)] at e
   obtain ⟨h0, h1, h2⟩ := World.cells?_some (hE (k / 5) (by omega)).1
   have hg := World.cells?_block (hE (k / 5) (by omega)).1 (by decide)
   rw [Addr.add_lit] at hg
   refine ⟨g, off, rfl, hg, ?_⟩
   have h3 := h2 (k % 5) (by omega)
   rw [Addr.add_lit, Addr.add_lit, Nat.add_assoc, show k / 5 * 5 + k % 5 = k by omega] at h3
   rw [h3]; exact e.symm
end
end Go.Proofs.YtifabkbdiiolfaaGreatDoor

set_option linter.unusedSimpArgs false
set_option linter.unusedVariables false
set_option maxRecDepth 8000
namespace Go.Proofs.YtifabkbdiiolfaaGreatDoor
open Go.ChangeShapes Go.WideShapes Go.ChangeAt Go.RowKit
section
variable {H : Type} {enc : TypeId × Value → H} {W : World} {base : Nat} {spare : Nat → Bool} {held : Bool}
theorem open_flt {r : Reach} {b0 : Nat} {v : Value} {d : DataW H} {p : List MemPlace} (hv : Value.okWide Tryz.prog W r b0 26 v) (h : DataW.Trod enc Tryz.prog W base spare held 26 v d p) :
  ∃ (a b : Nat) (x y : Int), v = .agg #[.int .u64 (a : Int), .int .u64 (b : Int), .int .i64 x, .int .i64 y] ∧ a < 18446744073709551616 ∧ b < 18446744073709551616 ∧ Wf64 x ∧ Wf64 y := by
 obtain ⟨cs0, rfl, -⟩ := okWide_struct Tryz.underlying26 hv
 obtain ⟨fuel, hf⟩ := h
 obtain ⟨l⟩ := cs0
 have hf : DataW.trod enc Tryz.prog W base spare held fuel 26 l = _ := hf
 obtain ⟨xs, n, -, -, hl, hxl, hg⟩ := DataW.trod_struct Tryz.underlying26 hf
 have hC : Tryz.prog.cellsOf 26 = 4 := by kernel_rfl
 have hx4 : xs.length = 4 := hxl
 rw [hC] at hl
 have one : ∀ (i : Nat) (c : Value) (f : Field), l[i]? = some c → i < 4 → f.offset = i → Tryz.prog.cellsOf f.type = 1 → DataW.trod enc Tryz.prog W base spare held n f.type ((l.drop f.offset).take (Tryz.prog.cellsOf f.type)) = xs[i]? → ∃ y, DataW.trod enc Tryz.prog W base spare held n f.type [c] = some y := by
  intro i c f hc hi ho hk hf
  rw [ho, hk] at hf
  have e : (l.drop i).take 1 = [c] := by
   obtain ⟨h1, h2⟩ := List.getElem?_eq_some_iff.1 hc
   rw [List.drop_eq_getElem_cons h1, h2]; rfl
  rw [e, List.getElem?_eq_getElem (by omega)] at hf
  exact ⟨_, hf⟩
 match l, hl with
 | [c0, c1, c2, c3], _ =>
  obtain ⟨y0, t0⟩ := one 0 c0 _ rfl (by decide) rfl (by kernel_rfl) (hg 0 _ rfl)
  obtain ⟨y1, t1⟩ := one 1 c1 _ rfl (by decide) rfl (by kernel_rfl) (hg 1 _ rfl)
  obtain ⟨y2, t2⟩ := one 2 c2 _ rfl (by decide) rfl (by kernel_rfl) (hg 2 _ rfl)
  obtain ⟨y3, t3⟩ := one 3 c3 _ rfl (by decide) rfl (by kernel_rfl) (hg 3 _ rfl)
  obtain ⟨n0, e0, -, w0⟩ := DataW.trod_int (k := .u64) Tryz.underlying24 t0
  obtain ⟨n1, e1, -, w1⟩ := DataW.trod_int (k := .u64) Tryz.underlying24 t1
  obtain ⟨n2, e2, -, w2⟩ := DataW.trod_int (k := .i64) Tryz.underlying2 t2
  obtain ⟨n3, e3, -, w3⟩ := DataW.trod_int (k := .i64) Tryz.underlying2 t3
  cases e0; cases e1; cases e2; cases e3
  have h0 : 0 ≤ n0 ∧ n0 ≤ 18446744073709551615 := by simpa [Lit.wf, IntKind.min, IntKind.max, IntKind.signed, IntKind.bits] using w0
  have h1 : 0 ≤ n1 ∧ n1 ≤ 18446744073709551615 := by simpa [Lit.wf, IntKind.min, IntKind.max, IntKind.signed, IntKind.bits] using w1
  have h2 : -9223372036854775808 ≤ n2 ∧ n2 ≤ 9223372036854775807 := by simpa [Lit.wf, IntKind.min, IntKind.max, IntKind.signed, IntKind.bits] using w2
  have h3 : -9223372036854775808 ≤ n3 ∧ n3 ≤ 9223372036854775807 := by simpa [Lit.wf, IntKind.min, IntKind.max, IntKind.signed, IntKind.bits] using w3
  refine ⟨n0.toNat, n1.toNat, n2, n3, ?_, by omega, by omega, by unfold Wf64; omega, by unfold Wf64; omega⟩
  rw [Int.toNat_of_nonneg h0.1, Int.toNat_of_nonneg h1.1]
end
end Go.Proofs.YtifabkbdiiolfaaGreatDoor
