/-
  Layer event: the document's Read, of any bytes: columns that fit.
-/
import Derived.Laws.AppendOwnNone
import Derived.Laws.OwnMore
import Derived.Maps.AppendAt
import Derived.OwnWalk
import Derived.OwnWalkIn
import Derived.Test.YtpobfgokikfmbaaDoorQPrds13
import Derived.Test.YtpobfgokikfmbaaDoorQPrds3
import Derived.Test.YtpobfgokikfmbaaDoorTie
import Derived.Test.YtpobfgokikfmbaaDoorCards
import Derived.ProofKit
import Derived.Laws.Cover2
import Derived.WideKeyArgs
import Derived.Carry
import Derived.Deep.Slices
import Derived.LaidMore
import Derived.OpenShut
import Derived.Stop.Joined
import Derived.SevenTiedAt
import Derived.SizedLaws
import Derived.Test.YtpobfgokikfmbaaDoorQPrds0
import Derived.Test.YtpobfgokikfmbaaDoorQPrds9
set_option linter.unusedSimpArgs false
set_option linter.unusedVariables false
set_option maxRecDepth 8000
namespace Go.Proofs.YtpobfgokikfmbaaDoor
open Go.RowKit Go.Sort Go.WideShapes Col
theorem ro_sliceY {w : World} {B n : Nat} {v : Value} {xs : List Value} (h : w.ownsRow B 36 5 v n xs) : ∃ A cap, v = .slice A n cap ∧ n ≤ cap ∧ cap ≤ maxLen ∧ (A = none → cap = 0) := by
  rcases h.2 with ⟨e0, e1⟩ | ⟨g, cap', cur, e0, -, -, h1, h2, -⟩
  · exact ⟨none, 0, by rw [e0, e1], by omega, Nat.zero_le _, fun _ => rfl⟩
  · exact ⟨_, _, e0, h1, h2, fun h => by cases h⟩
theorem ro_baseY {w : World} {B n cap : Nat} {A : Option Addr} {l : List Ev} (h : OwnE w B A n cap l) : ∀ k, (Value.slice A n cap).ownBlock = some k → B ≤ k := by
  intro k hk
  rcases h.2 with ⟨e0, e1⟩ | ⟨g, cap', cur, e0, hb, -⟩
  · rw [e0] at hk; cases hk
  · rw [e0] at hk; cases hk; exact hb
/-- append of events, the source nil, empty or not. -/
theorem wpList_append_evY {w : World} {ops : Array Oper} {rest : List Oper} {o : Oper} {ac : Act} {Q : Exit → Act → World → Prop} (hgd : o.guard = none) (s x : Operand)
    (ho : o.op = .call { callee := .builtin .append, args := #[s, x], argTypes := #[24, 24] })
    (B : Nat) (A : Option Addr) (n cap : Nat) (l : List Ev) (hs : ac.eval s = .slice A n cap) (hown : OwnE w B A n cap l) (a : Option Addr) (m c : Nat) (l2 : List Ev) (hx : ac.eval x = .slice a m c) (hm : m = l2.length) (h2 : EvAt w a l2) (hnil : a = none → c = 0)
    (N : Nat) (hN : N = n + m) (hbytes : n + m ≤ 5000) (hbase : B ≤ w.heap.size)
    (h : ∀ A' cap' w', OwnE w' B A' N cap' (l ++ l2) → N ≤ cap' → cap' ≤ maxLen → (A' = none → cap' = 0) → Below B w w' → wpList Tryd.prog ops Q rest (ac.put o.dst (.slice A' N cap')) w') : wpList Tryd.prog ops Q (o :: rest) ac w := by
  subst hN
  obtain ⟨i0, hi, hz0, hz1, hz2⟩ := info_parts infoEv
  rcases a with _ | ad
  · obtain rfl := hnil rfl
    have hl2 : l2 = [] := by
      rcases l2 with _ | ⟨x, r⟩
      · rfl
      · obtain ⟨g, off, e, -⟩ := h2 0 (.int .u64 (x.off : Int)) rfl; cases e
    subst hl2
    have h0 : m = 0 := hm
    subst h0
    obtain ⟨A1, c1, e1, e2, e3, e4⟩ := ro_sliceY hown
    injection e1 with b1 b2 b3
    subst b1; subst b3
    refine wpList_append_own_none hgd s x 24 ho B 36 i0 5 Tryd.underlying24 hi (.slice A n cap) n (evs l) hs hown hx ?_
    exact h A cap w (by rw [List.append_nil]; exact hown) e2 e3 e4 (Below.refl _ _)
  · refine wpList_append_own_at w hgd s x 24 ho B 36 i0 _ 5 48 Tryd.underlying24 hi hz0 hz1 hz2 rfl (by decide) (.slice A n cap) n (evs l) hs hown ad m c (evs l2) hx (by rw [evs_length, hm]) (fun j u hu => by
      obtain ⟨g', off', e, -, hc⟩ := h2 j u hu
      injection e with e; subst e
      rw [Addr.add_lit]; exact hc) (evs_one l2) (by unfold maxLen; omega) (by omega) hbase ?_
    intro v' w2 hown2 hgr _ _
    have e : evs l ++ evs l2 = evs (l ++ l2) := by unfold evs; rw [List.flatMap_append]
    rw [e] at hown2
    obtain ⟨A1, c1, rfl, e2, e3, e4⟩ := ro_sliceY hown2
    exact h A1 c1 w2 hown2 e2 e3 e4 ((Below.refl _ w).grown hgr hbase (ro_baseY hown))
theorem OwnE.atY {w : World} {B n cap : Nat} {A : Option Addr} {l : List Ev} (h : OwnE w B A n cap l) : EvAt w A l := fun j v hv => by
  have hjl := (List.getElem?_eq_some_iff.1 hv).1
  rcases h.2 with ⟨e0, e1⟩ | ⟨g, cap', cur, e0, hb, hg, hn, hm, hs, ht⟩
  · have := h.1; rw [e1, Nat.zero_mul] at this; omega
  · injection e0 with a1 a2 a3
    subst a1
    refine ⟨g, 0, rfl, (Array.getElem?_eq_some_iff.1 hg).1, ?_⟩
    rw [cell_of_row _ _ _ _ _ _ hg, Nat.zero_add, ← Array.getElem?_toList]
    have := h.1
    rw [← ht, List.getElem?_take] at hv
    rw [if_pos (by omega)] at hv
    exact hv
theorem OwnE.keepY {w w' : World} {B n cap : Nat} {A : Option Addr} {l : List Ev} (h : OwnE w B A n cap l) (hb : Below w.heap.size w w') : OwnE w' B A n cap l :=
  World.ownsRow.kept (row := none) h ⟨hb.os, hb.tape, hb.output, hb.size, fun k hk _ => hb.block k hk⟩ (by rcases A with _ | a <;> simp [Value.ownBlock])
/-- How the document's Read ends. -/
def DRet (o : Option (List Ev)) (E : Int) (w : World) (e : Ending) (w' : World) : Prop := match o with
  | none => e = .returned (.tuple #[.slice none 0 0, .int .i64 0, .int .i64 3]) ∧ Below w.heap.size w w'
  | some l => ∃ A n c, e = .returned (.tuple #[.slice A n c, .int .i64 E, .int .i64 0]) ∧ n = l.length ∧ EvAt w' A l ∧ Below w.heap.size w w'
set_option maxHeartbeats 16000000 in
theorem dRead_Y (A : Option Addr) (N cap : Nat) (i p : Int) (body : List Nat) (m : Nat) (hm : Hid (m = body.length)) (hq : m ≤ 1000000) (hbw : Hid (∀ x ∈ body, x < 256)) (E : Int) (D1 D2 D3 D4 D5 : List Nat) (d1 d2 d3 d4 d5 : Nat)
    (HS : Hid (tS 5 (some body) = ([D1, D2, D3, D4, D5], some [])))
    (HW1 : WfT D1) (hd1 : Hid (d1 = D1.length)) (hl1 : d1 ≤ 1000000) (O : List Int) (HR1 : Hid (∀ A C w', ByAt w' A D1 → d1 ≤ C → C ≤ maxLen → Calls Tryd.prog 15 #[.slice A d1 C] w' (RdQ QI true O w')))
    (HW2 : WfT D2) (hd2 : Hid (d2 = D2.length)) (hl2 : d2 ≤ 1000000) (P : List Int) (HR2 : Hid (∀ A C w', ByAt w' A D2 → d2 ≤ C → C ≤ maxLen → Calls Tryd.prog 15 #[.slice A d2 C] w' (RdQ QI true P w')))
    (HW3 : WfT D3) (hd3 : Hid (d3 = D3.length)) (hl3 : d3 ≤ 1000000) (T : List Int) (HR3 : Hid (∀ A C w', ByAt w' A D3 → d3 ≤ C → C ≤ maxLen → Calls Tryd.prog 15 #[.slice A d3 C] w' (RdQ QI true T w')))
    (HW4 : WfT D4) (hd4 : Hid (d4 = D4.length)) (hl4 : d4 ≤ 1000000) (K0 : List (List Nat)) (HR4 : Hid (∀ A C w', ByAt w' A D4 → d4 ≤ C → C ≤ maxLen → Calls Tryd.prog 16 #[.slice A d4 C] w' (RdQ QT true K0 w')))
    (HW5 : WfT D5) (hd5 : Hid (d5 = D5.length)) (hl5 : d5 ≤ 1000000) (V : List Nat) (HR5 : Hid (∀ A C w', ByAt w' A D5 → d5 ≤ C → C ≤ maxLen → Calls Tryd.prog 17 #[.slice A d5 C] w' (RdQ QF true V w')))
    (hlen : Hid (P.length = O.length ∧ T.length = O.length ∧ K0.length = O.length ∧ V.length = O.length)) (h46 : O.length ≤ 4096) (l : List Ev) (hl : Hid (l = mkE O P T K0 V)) (w : World)
    (HPR : Hid (Calls Tryd.prog 13 #[.slice A N cap, .int .i64 i] w fun e w' => ∃ A6 C6, e = .returned (.tuple #[.int .u8 101, .slice A6 m C6, .int .i64 E, .int .i64 0]) ∧ ByAt w' A6 body ∧ m ≤ C6 ∧ C6 ≤ maxLen ∧ Below w.heap.size w w')) :
    Calls Tryd.prog 6 #[.slice A N cap, .int .i64 i, .int .i64 p] w fun e w' => DRet (if allE l p = true then some l else none) E w e w' := by
  have HCV1 : Hid (∀ w : World, ∃ (w' : World) (C : Nat), (convert 9 22 (.string (strB D1))).run Tryd.prog w = .ok (.slice (some ⟨w.heap.size, 0, none⟩) d1 C) w' ∧ ByAt w' (some ⟨w.heap.size, 0, none⟩) D1 ∧ Below w.heap.size w w' ∧ d1 ≤ C ∧ C ≤ maxLen) := Lib.hid fun w => conv_sbY D1 HW1 (by rw [← hd1.out]; exact hl1) d1 hd1.out w
  have HCV2 : Hid (∀ w : World, ∃ (w' : World) (C : Nat), (convert 9 22 (.string (strB D2))).run Tryd.prog w = .ok (.slice (some ⟨w.heap.size, 0, none⟩) d2 C) w' ∧ ByAt w' (some ⟨w.heap.size, 0, none⟩) D2 ∧ Below w.heap.size w w' ∧ d2 ≤ C ∧ C ≤ maxLen) := Lib.hid fun w => conv_sbY D2 HW2 (by rw [← hd2.out]; exact hl2) d2 hd2.out w
  have HCV3 : Hid (∀ w : World, ∃ (w' : World) (C : Nat), (convert 9 22 (.string (strB D3))).run Tryd.prog w = .ok (.slice (some ⟨w.heap.size, 0, none⟩) d3 C) w' ∧ ByAt w' (some ⟨w.heap.size, 0, none⟩) D3 ∧ Below w.heap.size w w' ∧ d3 ≤ C ∧ C ≤ maxLen) := Lib.hid fun w => conv_sbY D3 HW3 (by rw [← hd3.out]; exact hl3) d3 hd3.out w
  have HCV4 : Hid (∀ w : World, ∃ (w' : World) (C : Nat), (convert 9 22 (.string (strB D4))).run Tryd.prog w = .ok (.slice (some ⟨w.heap.size, 0, none⟩) d4 C) w' ∧ ByAt w' (some ⟨w.heap.size, 0, none⟩) D4 ∧ Below w.heap.size w w' ∧ d4 ≤ C ∧ C ≤ maxLen) := Lib.hid fun w => conv_sbY D4 HW4 (by rw [← hd4.out]; exact hl4) d4 hd4.out w
  have HCV5 : Hid (∀ w : World, ∃ (w' : World) (C : Nat), (convert 9 22 (.string (strB D5))).run Tryd.prog w = .ok (.slice (some ⟨w.heap.size, 0, none⟩) d5 C) w' ∧ ByAt w' (some ⟨w.heap.size, 0, none⟩) D5 ∧ Below w.heap.size w w' ∧ d5 ≤ C ∧ C ≤ maxLen) := Lib.hid fun w => conv_sbY D5 HW5 (by rw [← hd5.out]; exact hl5) d5 hd5.out w
  go_enter Tryd.func6, Tryd.ntmps6
  go_upto_region 5 with (go_at_call 13; (with_reducible refine (HPR.out).mono ?_); rintro e w1 ⟨A6, C6, rfl, h1, h2, h3, h4⟩; have HBY := Lib.hid h1; have hC6 := h2; have hM6 := h3; have HB1 := Lib.hid h4; clear h1 h2 h3 h4)
  have HRR : Hid (RRA (w1.alloc (.cells #[.slice A6 m C6, .int .i64 0] 47)) w1.heap.size A6 C6 body (some body)) := Lib.hid (by rw [hm.out]; exact rra_new (by have := hm.out; omega) (by have := hm.out; omega) hM6 HBY.out)
  have HBn := Lib.hid (HB1.out.alloc HB1.out.size (.cells #[.slice A6 m C6, .int .i64 0] 47))
  have HMW : Hid (w.heap.size ≤ w1.heap.size) := Lib.hid HB1.out.size
  have HA6 : Hid (Off (fun k => w1.heap.size ≤ k) A6 body) := Lib.hid (off_low HBY.out)
  generalize w1.alloc _ = w2 at *
  generalize w1.heap.size = mR at *
  have HD0 : Hid (DL w mR A6 C6 body (.slice none 0 0) (.int .i64 0) w2) := Lib.hid ⟨⟨0, none, 0, Nat.zero_le _, rfl, rfl, OwnX.nil _ _, HRR.out, HBn.out⟩⟩
  clear HRR HBn HBY HB1
  go_wp2
  go_loopw [14, 15] (fun u v wr => DL w mR A6 C6 body u v wr) (fun _ v _ => 5 - (intOf v).toNat)
  case atStart => exact HD0.out
  case round =>
    obtain ⟨j, Ac, cc, hj, rfl, rfl, hox, hrr, hbr⟩ := hrel.ex
    have HOX := Lib.hid hox; have HR := Lib.hid hrr; have HBR := Lib.hid hbr
    clear hrel hox hrr hbr HD0
    by_cases hj5 : j < 5
    · have hji : (j : Int) < 5 := by omega
      have HT := Lib.hid (rtext_any mR C6 A6 body 1048576 (by decide) (tS j (some body)).2 wr HR)
      have hmr : mR < wr.heap.size := HR.out.lt
      have HTW : Hid (WfT (textS 1048576 (tS j (some body)).2).1) := Lib.hid (textS_wf _ _ hbw.out HR.out.suf)
      have HTS : Hid (tS (j + 1) (some body) = ((tS j (some body)).1 ++ [(textS 1048576 (tS j (some body)).2).1], (textS 1048576 (tS j (some body)).2).2)) := Lib.hid rfl
      generalize (textS 1048576 (tS j (some body)).2).1 = Dn at *
      generalize (textS 1048576 (tS j (some body)).2).2 = Sn at *
      go_wp2_with (first
        | (go_at_call 14; refine (HT.out).mono ?_; rintro e w3 hy; obtain ⟨rfl, HR3, HK3⟩ := hy.at; have HO3 := Lib.hid (HOX.out.keptGX HK3.out (by omega)); have HB3 : Hid (Below w.heap.size w w3) := Lib.hid (HBR.out.trans (HK3.out.below HBR.out.size (fun k hk => by have hk : k = mR := hk; have := HMW.out; omega))); have h3s : wr.heap.size ≤ w3.heap.size := HK3.out.size; clear hy)
        | (at_builtin; refine wpList_append_tx rfl (.tmp 47) (.tmp 50) rfl (mR + 1) Ac j cc _ rfl (HO3.out.keep ((Below.refl _ _).alloc (Nat.le_refl _) _)) ⟨w3.heap.size, 0, none⟩ 1 1 [Dn] rfl rfl (tx_one w3 Dn HTW.out) (by omega) (by simp; omega) ?_; intro A4 c4 w4 ho hg; have HO4 := Lib.hid ho; have hal : Below w.heap.size w (w3.alloc (.cells #[.string (strB Dn)] 9)) := HB3.out.alloc HB3.out.size _; have HB4 : Hid (Below w.heap.size w w4) := Lib.hid (hal.grown hg hal.size (fun k hk => by have h9 := HO3.out.base k hk; have h8 := HMW.out; omega)); have HK4 : Hid (RRA w4 mR A6 C6 body Sn) := Lib.hid (rra_grow HR3.out hg HO3.out rfl HA6.out); clear ho hg hal)
        | (at_builtin; trace_state; sorry))
      go_roundw
      case rel => exact ⟨⟨j + 1, A4, c4, by omega, by go_num, rfl, by rw [HTS.out]; exact HO4.out, by rw [HTS.out]; exact HK4.out, HB4.out⟩⟩
      case measure => simp [intOf]; omega
    · obtain rfl : j = 5 := by omega
      have hc1 := HR.out.c1
      have hat : atR body (tS 5 (some body)).2 = (m : Int) := by rw [HS.out, hm.out]; show (body.length : Int) - ((([] : List Nat).length : Nat) : Int) = _; simp
      rw [hat] at hc1
      have hox := HOX.out.isAt
      rw [HS.out] at hox
      obtain ⟨-, g, off, hA, hgw, hcc1⟩ := hox 0 D1 rfl
      subst hA
      have hcc0 : wr.cell? ⟨g, off, none⟩ = some (.string (strB D1)) := hcc1
      clear hcc1
      obtain ⟨-, g2, off2, hA, -, hcc2⟩ := hox 1 D2 rfl
      injection hA with hA; injection hA with e1 e2; subst e1; subst e2
      obtain ⟨-, g3, off3, hA, -, hcc3⟩ := hox 2 D3 rfl
      injection hA with hA; injection hA with e1 e2; subst e1; subst e2
      obtain ⟨-, g4, off4, hA, -, hcc4⟩ := hox 3 D4 rfl
      injection hA with hA; injection hA with e1 e2; subst e1; subst e2
      obtain ⟨-, g5, off5, hA, -, hcc5⟩ := hox 4 D5 rfl
      injection hA with hA; injection hA with e1 e2; subst e1; subst e2
      have HGW := Lib.hid hgw; have HB0 := Lib.hid (Below.refl wr.heap.size wr)
      have HCC2 := Lib.hid hcc2
      have HCC3 := Lib.hid hcc3
      have HCC4 := Lib.hid hcc4
      have HCC5 := Lib.hid hcc5
      clear hox hat hcc2 hcc3 hcc4 hcc5
      obtain ⟨x1, C1, hcv1, hby1, hx1, hC1, hM1⟩ := HCV1.out wr
      have HY1 := Lib.hid hby1; have HX1 := Lib.hid hx1; clear hby1 hx1
      go_upto_region 13 with
        (go_at_call 15; (with_reducible refine (HR1.out _ C1 _ HY1.out hC1 hM1).mono ?_); rintro e y1 ⟨A1, n1, c1, rfl, hq, hb⟩; have HQ1 := Lib.hid hq; have HZ1 := Lib.hid (below_to HX1.out hb); have HB1 := Lib.hid (HZ1.out); clear hq hb hcv1; have hcc2 : y1.cell? ⟨g, off + 1, none⟩ = some (.string (strB D2)) := (HB1.out.cell (p := ⟨g, off + 1, none⟩) HGW.out).trans HCC2.out; obtain ⟨x2, C2, hcv2, hby, hx, hC2, hM2⟩ := HCV2.out y1; have HY2 := Lib.hid hby; have HX2 := Lib.hid hx; clear hby hx)
      go_upto_region 14 with
        (go_at_call 15; (with_reducible refine (HR2.out _ C2 _ HY2.out hC2 hM2).mono ?_); rintro e y2 ⟨A2, n2, c2, rfl, hq, hb⟩; have HQ2 := Lib.hid hq; have HZ2 := Lib.hid (below_to HX2.out hb); have HB2 := Lib.hid (HB1.out.trans (HZ2.out.mono HB1.out.size)); clear hq hb hcv2; have hcc3 : y2.cell? ⟨g, off + 2, none⟩ = some (.string (strB D3)) := (HB2.out.cell (p := ⟨g, off + 2, none⟩) HGW.out).trans HCC3.out; obtain ⟨x3, C3, hcv3, hby, hx, hC3, hM3⟩ := HCV3.out y2; have HY3 := Lib.hid hby; have HX3 := Lib.hid hx; clear hby hx)
      go_upto_region 15 with
        (go_at_call 15; (with_reducible refine (HR3.out _ C3 _ HY3.out hC3 hM3).mono ?_); rintro e y3 ⟨A3, n3, c3, rfl, hq, hb⟩; have HQ3 := Lib.hid hq; have HZ3 := Lib.hid (below_to HX3.out hb); have HB3 := Lib.hid (HB2.out.trans (HZ3.out.mono HB2.out.size)); clear hq hb hcv3; have hcc4 : y3.cell? ⟨g, off + 3, none⟩ = some (.string (strB D4)) := (HB3.out.cell (p := ⟨g, off + 3, none⟩) HGW.out).trans HCC4.out; obtain ⟨x4, C4, hcv4, hby, hx, hC4, hM4⟩ := HCV4.out y3; have HY4 := Lib.hid hby; have HX4 := Lib.hid hx; clear hby hx)
      go_upto_region 16 with
        (go_at_call 16; (with_reducible refine (HR4.out _ C4 _ HY4.out hC4 hM4).mono ?_); rintro e y4 ⟨A4, n4, c4, rfl, hq, hb⟩; have HQ4 := Lib.hid hq; have HZ4 := Lib.hid (below_to HX4.out hb); have HB4 := Lib.hid (HB3.out.trans (HZ4.out.mono HB3.out.size)); clear hq hb hcv4; have hcc5 : y4.cell? ⟨g, off + 4, none⟩ = some (.string (strB D5)) := (HB4.out.cell (p := ⟨g, off + 4, none⟩) HGW.out).trans HCC5.out; obtain ⟨x5, C5, hcv5, hby, hx, hC5, hM5⟩ := HCV5.out y4; have HY5 := Lib.hid hby; have HX5 := Lib.hid hx; clear hby hx)
      go_upto_region 17 with
        (go_at_call 17; (with_reducible refine (HR5.out _ C5 _ HY5.out hC5 hM5).mono ?_); rintro e y5 ⟨A5, n5, c5, rfl, hq, hb⟩; have HQ5 := Lib.hid hq; have HZ5 := Lib.hid (below_to HX5.out hb); have HB5 := Lib.hid (HB4.out.trans (HZ5.out.mono HB4.out.size)); clear hq hb hcv5)
      have HBW := Lib.hid (below_to HBR.out HB5.out)
      clear HB0 HB1 HB2 HB3 HB4 HR1 HR2 HR3 HR4 HR5 HCV1 HCV2 HCV3 HCV4 HCV5 HY1 HY2 HY3 HY4 HY5 HX1 HX2 HX3 HX4 HX5 hc1 hcc0 HPR HR HOX
      obtain ⟨L1, hq1⟩ := HQ1.out (by simp)
      obtain ⟨L2, hq2⟩ := HQ2.out (by simp)
      obtain ⟨L3, hq3⟩ := HQ3.out (by simp)
      obtain ⟨L4, hq4⟩ := HQ4.out (by simp)
      obtain ⟨L5, hq5⟩ := HQ5.out (by simp)
      obtain rfl : n2 = n1 := by have := hlen.out; omega
      obtain rfl : n3 = n2 := by have := hlen.out; omega
      obtain rfl : n4 = n3 := by have := hlen.out; omega
      obtain rfl : n5 = n4 := by have := hlen.out; omega
      have hnn : ((n5 : Int) == (n5 : Int)) = true := by simp
      have hnb : ((n5 : Int) != (n5 : Int)) = false := by simp
      have V1 := Lib.hid (((((hq1).keep HZ2.out).keep HZ3.out).keep HZ4.out).keep HZ5.out)
      have V2 := Lib.hid ((((hq2).keep HZ3.out).keep HZ4.out).keep HZ5.out)
      have V3 := Lib.hid (((hq3).keep HZ4.out).keep HZ5.out)
      have V4 := Lib.hid ((hq4).keep HZ5.out)
      have V5 := Lib.hid hq5
      have HOL : Hid (O.length = n5) := Lib.hid L1.symm
      have HWY : Hid (w.heap.size ≤ y5.heap.size) := Lib.hid HBW.out.size
      have HN4 : n5 ≤ 4096 := by have := h46; omega
      clear hgw HGW HCC2 HCC3 HCC4 HCC5 hcc2 hcc3 hcc4 hcc5
      clear hq1 hq2 hq3 hq4 hq5 HQ1 HQ2 HQ3 HQ4 HQ5 HZ1 HZ2 HZ3 HZ4 HZ5 HB5 HBR L1 L2 L3 L4 L5
      go_wp2
      go_loopw [26, 27] (fun u v wr => ∃ (k : Nat) (A : Option Addr) (c : Nat), k ≤ n5 ∧ v = .int .i64 (k : Int) ∧ u = .slice A k c ∧ OwnE wr y5.heap.size A k c (l.take k) ∧ Below y5.heap.size y5 wr ∧ ∀ x ∈ l.take k, formB x p = true) (fun _ v _ => n5 - (intOf v).toNat)
      case atStart => exact ⟨0, none, 0, Nat.zero_le _, rfl, rfl, by rw [List.take_zero]; exact World.ownsRow_nil _ _ _ 5, Below.refl _ _, fun x hx => by rw [List.take_zero] at hx; cases hx⟩
      case round =>
        obtain ⟨k, Ac, ca, hk, rfl, rfl, ho, hb, hfo⟩ := hrel
        have HOW := Lib.hid ho; have HBK := Lib.hid hb; have HFF := Lib.hid hfo
        have HAL := Lib.hid (below_to HBW.out hb)
        clear ho hb hfo
        have HLN : Hid (l.length = n5) := Lib.hid (by rw [hl.out, mkE_len]; exact HOL.out)
        by_cases hlt : k < n5
        · have hkk : (k : Int) < (n5 : Int) := by omega
          obtain ⟨x, hx⟩ : ∃ x, l[k]? = some x := ⟨_, List.getElem?_eq_getElem (by have := HLN.out; omega)⟩
          have HX := Lib.hid hx
          have hx2 := hx
          rw [hl.out] at hx2
          obtain ⟨z1, s4, f1, f2, f3, f4, f5, f6, f7⟩ := mkE_zip O P T K0 V hlen.out.1 hlen.out.2.1 hlen.out.2.2.1 hlen.out.2.2.2 k x hx2
          have HF := Lib.hid f1; have HS4 := Lib.hid f6
          obtain ⟨-, g1, o1, hA1, hb1, hc1⟩ := (V1.out.keep HBK.out) k z1 f2
          obtain ⟨-, g2, o2, hA2, hb2, hc2⟩ := (V2.out.keep HBK.out) k x.part f3
          obtain ⟨-, g3, o3, hA3, hb3, hc3⟩ := (V3.out.keep HBK.out) k x.time f4
          obtain ⟨-, g4, o4, hA4, hb4, hc4⟩ := (V4.out.keep HBK.out) k s4 f5
          obtain ⟨-, g5, o5, hA5, hb5, hc5⟩ := (V5.out.keep HBK.out) k x.val f7
          subst hA1; subst hA2; subst hA3; subst hA4; subst hA5
          clear hx hx2 f1 f2 f3 f4 f5 f6 f7
          go_upto_region 23 with fail
          refine wp_region_held_drew (S := fun w' => Below wr.heap.size wr w') (by kernel_rfl) ((Below.refl _ _).drew) (fun hHeld => ?_)
          refine wpAnyH_take (i := 0) (v := .slice (some ⟨g1, o1, none⟩) n5 c1) rfl (by kernel_rfl) (by kernel_rfl) (by kernel_rfl) (fun _ _ _ h => h) (Or.inl ⟨by rfl, fun _ _ => rfl⟩) hHeld ?_
          try dsimp only
          try simp only [Act.put, List.getElem_toArray, List.getElem_cons_zero, List.getElem_cons_succ, List.setIfInBounds_toArray, List.set_cons_zero, List.set_cons_succ]
          refine wpAnyH_take (i := 1) (v := .int .i64 (k : Int)) rfl (by kernel_rfl) (by kernel_rfl) (by kernel_rfl) (fun _ _ _ h => h) (Or.inl ⟨by rfl, fun _ _ => rfl⟩) hHeld ?_
          try dsimp only
          try simp only [Act.put, List.getElem_toArray, List.getElem_cons_zero, List.getElem_cons_succ, List.setIfInBounds_toArray, List.set_cons_zero, List.set_cons_succ]
          refine wpAnyH_take (i := 2) (v := .pointer (some ⟨g1, o1 + k, none⟩)) rfl (by kernel_rfl) (by kernel_rfl) (by kernel_rfl) (fun _ _ _ h => h) (Or.inl ⟨by rfl, fun w _ => by go_simp⟩) hHeld ?_
          try dsimp only
          try simp only [Act.put, List.getElem_toArray, List.getElem_cons_zero, List.getElem_cons_succ, List.setIfInBounds_toArray, List.set_cons_zero, List.set_cons_succ]
          refine wpAnyH_take (i := 3) (v := .int .i64 z1) rfl (by kernel_rfl) (by kernel_rfl) (by kernel_rfl) (fun _ _ _ h => h) (Or.inl ⟨by rfl, fun w hw => by have hc : w.cell? ⟨g1, o1 + k, none⟩ = some (.int .i64 z1) := (hw.cell (p := ⟨g1, o1 + k, none⟩) hb1).trans hc1; go_simp⟩) hHeld ?_
          try dsimp only
          try simp only [Act.put, List.getElem_toArray, List.getElem_cons_zero, List.getElem_cons_succ, List.setIfInBounds_toArray, List.set_cons_zero, List.set_cons_succ]
          refine wpAnyH_take (i := 4) (v := .int .u64 (x.off : Int)) rfl (by kernel_rfl) (by kernel_rfl) (by kernel_rfl) (fun _ _ _ h => h) (yb_cv rfl 2 33 (.tmp 158) rfl _ _ rfl (fun w => c_iuA z1 x HF.out w)) hHeld ?_
          try dsimp only
          try simp only [Act.put, List.getElem_toArray, List.getElem_cons_zero, List.getElem_cons_succ, List.setIfInBounds_toArray, List.set_cons_zero, List.set_cons_succ]
          refine wpAnyH_take (i := 5) (v := .slice (some ⟨g2, o2, none⟩) n5 c2) rfl (by kernel_rfl) (by kernel_rfl) (by kernel_rfl) (fun _ _ _ h => h) (Or.inl ⟨by rfl, fun _ _ => rfl⟩) hHeld ?_
          try dsimp only
          try simp only [Act.put, List.getElem_toArray, List.getElem_cons_zero, List.getElem_cons_succ, List.setIfInBounds_toArray, List.set_cons_zero, List.set_cons_succ]
          refine wpAnyH_take (i := 6) (v := .int .i64 (k : Int)) rfl (by kernel_rfl) (by kernel_rfl) (by kernel_rfl) (fun _ _ _ h => h) (Or.inl ⟨by rfl, fun _ _ => rfl⟩) hHeld ?_
          try dsimp only
          try simp only [Act.put, List.getElem_toArray, List.getElem_cons_zero, List.getElem_cons_succ, List.setIfInBounds_toArray, List.set_cons_zero, List.set_cons_succ]
          refine wpAnyH_take (i := 7) (v := .pointer (some ⟨g2, o2 + k, none⟩)) rfl (by kernel_rfl) (by kernel_rfl) (by kernel_rfl) (fun _ _ _ h => h) (Or.inl ⟨by rfl, fun w _ => by go_simp⟩) hHeld ?_
          try dsimp only
          try simp only [Act.put, List.getElem_toArray, List.getElem_cons_zero, List.getElem_cons_succ, List.setIfInBounds_toArray, List.set_cons_zero, List.set_cons_succ]
          refine wpAnyH_take (i := 8) (v := .int .i64 x.part) rfl (by kernel_rfl) (by kernel_rfl) (by kernel_rfl) (fun _ _ _ h => h) (Or.inl ⟨by rfl, fun w hw => by have hc : w.cell? ⟨g2, o2 + k, none⟩ = some (.int .i64 x.part) := (hw.cell (p := ⟨g2, o2 + k, none⟩) hb2).trans hc2; go_simp⟩) hHeld ?_
          try dsimp only
          try simp only [Act.put, List.getElem_toArray, List.getElem_cons_zero, List.getElem_cons_succ, List.setIfInBounds_toArray, List.set_cons_zero, List.set_cons_succ]
          refine wpAnyH_take (i := 9) (v := .slice (some ⟨g3, o3, none⟩) n5 c3) rfl (by kernel_rfl) (by kernel_rfl) (by kernel_rfl) (fun _ _ _ h => h) (Or.inl ⟨by rfl, fun _ _ => rfl⟩) hHeld ?_
          try dsimp only
          try simp only [Act.put, List.getElem_toArray, List.getElem_cons_zero, List.getElem_cons_succ, List.setIfInBounds_toArray, List.set_cons_zero, List.set_cons_succ]
          refine wpAnyH_take (i := 10) (v := .int .i64 (k : Int)) rfl (by kernel_rfl) (by kernel_rfl) (by kernel_rfl) (fun _ _ _ h => h) (Or.inl ⟨by rfl, fun _ _ => rfl⟩) hHeld ?_
          try dsimp only
          try simp only [Act.put, List.getElem_toArray, List.getElem_cons_zero, List.getElem_cons_succ, List.setIfInBounds_toArray, List.set_cons_zero, List.set_cons_succ]
          refine wpAnyH_take (i := 11) (v := .pointer (some ⟨g3, o3 + k, none⟩)) rfl (by kernel_rfl) (by kernel_rfl) (by kernel_rfl) (fun _ _ _ h => h) (Or.inl ⟨by rfl, fun w _ => by go_simp⟩) hHeld ?_
          try dsimp only
          try simp only [Act.put, List.getElem_toArray, List.getElem_cons_zero, List.getElem_cons_succ, List.setIfInBounds_toArray, List.set_cons_zero, List.set_cons_succ]
          refine wpAnyH_take (i := 12) (v := .int .i64 x.time) rfl (by kernel_rfl) (by kernel_rfl) (by kernel_rfl) (fun _ _ _ h => h) (Or.inl ⟨by rfl, fun w hw => by have hc : w.cell? ⟨g3, o3 + k, none⟩ = some (.int .i64 x.time) := (hw.cell (p := ⟨g3, o3 + k, none⟩) hb3).trans hc3; go_simp⟩) hHeld ?_
          try dsimp only
          try simp only [Act.put, List.getElem_toArray, List.getElem_cons_zero, List.getElem_cons_succ, List.setIfInBounds_toArray, List.set_cons_zero, List.set_cons_succ]
          refine wpAnyH_take (i := 13) (v := .slice (some ⟨g4, o4, none⟩) n5 c4) rfl (by kernel_rfl) (by kernel_rfl) (by kernel_rfl) (fun _ _ _ h => h) (Or.inl ⟨by rfl, fun _ _ => rfl⟩) hHeld ?_
          try dsimp only
          try simp only [Act.put, List.getElem_toArray, List.getElem_cons_zero, List.getElem_cons_succ, List.setIfInBounds_toArray, List.set_cons_zero, List.set_cons_succ]
          refine wpAnyH_take (i := 14) (v := .int .i64 (k : Int)) rfl (by kernel_rfl) (by kernel_rfl) (by kernel_rfl) (fun _ _ _ h => h) (Or.inl ⟨by rfl, fun _ _ => rfl⟩) hHeld ?_
          try dsimp only
          try simp only [Act.put, List.getElem_toArray, List.getElem_cons_zero, List.getElem_cons_succ, List.setIfInBounds_toArray, List.set_cons_zero, List.set_cons_succ]
          refine wpAnyH_take (i := 15) (v := .pointer (some ⟨g4, o4 + k, none⟩)) rfl (by kernel_rfl) (by kernel_rfl) (by kernel_rfl) (fun _ _ _ h => h) (Or.inl ⟨by rfl, fun w _ => by go_simp⟩) hHeld ?_
          try dsimp only
          try simp only [Act.put, List.getElem_toArray, List.getElem_cons_zero, List.getElem_cons_succ, List.setIfInBounds_toArray, List.set_cons_zero, List.set_cons_succ]
          refine wpAnyH_take (i := 16) (v := .string (strB s4)) rfl (by kernel_rfl) (by kernel_rfl) (by kernel_rfl) (fun _ _ _ h => h) (Or.inl ⟨by rfl, fun w hw => by have hc : w.cell? ⟨g4, o4 + k, none⟩ = some (.string (strB s4)) := (hw.cell (p := ⟨g4, o4 + k, none⟩) hb4).trans hc4; go_simp⟩) hHeld ?_
          try dsimp only
          try simp only [Act.put, List.getElem_toArray, List.getElem_cons_zero, List.getElem_cons_succ, List.setIfInBounds_toArray, List.set_cons_zero, List.set_cons_succ]
          refine wpAnyH_take (i := 17) (v := .slice (some ⟨g5, o5, none⟩) n5 c5) rfl (by kernel_rfl) (by kernel_rfl) (by kernel_rfl) (fun _ _ _ h => h) (Or.inl ⟨by rfl, fun _ _ => rfl⟩) hHeld ?_
          try dsimp only
          try simp only [Act.put, List.getElem_toArray, List.getElem_cons_zero, List.getElem_cons_succ, List.setIfInBounds_toArray, List.set_cons_zero, List.set_cons_succ]
          refine wpAnyH_take (i := 18) (v := .int .i64 (k : Int)) rfl (by kernel_rfl) (by kernel_rfl) (by kernel_rfl) (fun _ _ _ h => h) (Or.inl ⟨by rfl, fun _ _ => rfl⟩) hHeld ?_
          try dsimp only
          try simp only [Act.put, List.getElem_toArray, List.getElem_cons_zero, List.getElem_cons_succ, List.setIfInBounds_toArray, List.set_cons_zero, List.set_cons_succ]
          refine wpAnyH_take (i := 19) (v := .pointer (some ⟨g5, o5 + k, none⟩)) rfl (by kernel_rfl) (by kernel_rfl) (by kernel_rfl) (fun _ _ _ h => h) (Or.inl ⟨by rfl, fun w _ => by go_simp⟩) hHeld ?_
          try dsimp only
          try simp only [Act.put, List.getElem_toArray, List.getElem_cons_zero, List.getElem_cons_succ, List.setIfInBounds_toArray, List.set_cons_zero, List.set_cons_succ]
          refine wpAnyH_take (i := 20) (v := .float .f64 x.val) rfl (by kernel_rfl) (by kernel_rfl) (by kernel_rfl) (fun _ _ _ h => h) (Or.inl ⟨by rfl, fun w hw => by have hc : w.cell? ⟨g5, o5 + k, none⟩ = some (.float .f64 x.val) := (hw.cell (p := ⟨g5, o5 + k, none⟩) hb5).trans hc5; go_simp⟩) hHeld ?_
          try dsimp only
          try simp only [Act.put, List.getElem_toArray, List.getElem_cons_zero, List.getElem_cons_succ, List.setIfInBounds_toArray, List.set_cons_zero, List.set_cons_succ]
          refine wpAnyH_take (i := 21) (v := .agg #[.int .u64 (x.off : Int), .int .i64 x.part, .int .i64 x.time, .string (strB s4), .float .f64 x.val]) rfl (by kernel_rfl) (by kernel_rfl) (by kernel_rfl) (fun _ _ _ h => h) (Or.inl ⟨by rfl, fun w _ => by go_simp⟩) hHeld ?_
          try dsimp only
          try simp only [Act.put, List.getElem_toArray, List.getElem_cons_zero, List.getElem_cons_succ, List.setIfInBounds_toArray, List.set_cons_zero, List.set_cons_succ]
          refine wpAnyH_ready (rs := [22]) (by kernel_rfl) (by simp) (AllReadyH.cons rfl (fun K hK => ?_) AllReadyH.nil)
          go_simp
          refine hK.out _ _ (hHeld.alloc ((Below.refl wr.heap.size wr).drew).size _) (fun _ => ?_)
          clear hK K
          try dsimp only
          try simp only [Act.put, List.getElem_toArray, List.getElem_cons_zero, List.getElem_cons_succ, List.setIfInBounds_toArray, List.set_cons_zero, List.set_cons_succ]
          refine wpAnyH_ready (rs := [23]) (by kernel_rfl) (by simp) (AllReadyH.cons rfl (fun K hK => ?_) AllReadyH.nil)
          rw [if_pos (by rfl)]
          refine wp_store_row 36 (.tmp 28) (.tmp 176) rfl _ #[.int .u64 (x.off : Int), .int .i64 x.part, .int .i64 x.time, .string (strB s4), .float .f64 x.val] rfl rfl _ _ (heap_alloc_new' _ _) (iEvC x) rfl (by simp [Value.oneCell']) ?_
          refine hK.out _ _ (below_setRowY (((Below.refl wr.heap.size wr).alloc (Nat.le_refl _) _).drew) (Nat.le_refl _) _) (fun _ => ?_)
          clear hK K
          refine wpAnyH_done (by kernel_rfl) ?_ _
          have hcE : x.cells.toArray = #[.int .u64 (x.off : Int), .int .i64 x.part, .int .i64 x.time, .string (strB s4), .float .f64 x.val] := by rw [HS4.out]; rfl
          rw [← hcE]
          obtain ⟨w7, hw7⟩ : ∃ w7, w7 = ((wr.alloc (.cells #[.int .u64 0, .int .i64 0, .int .i64 0, .string { data := #[] }, .float .f64 0] 36)).drew).setRow wr.heap.size x.cells.toArray := ⟨_, rfl⟩
          obtain ⟨bE, hbE⟩ : ∃ bE, bE = wr.heap.size := ⟨_, rfl⟩
          have hb7 : Below wr.heap.size wr w7 := by rw [hw7]; exact below_setRowY (((Below.refl wr.heap.size wr).alloc (Nat.le_refl _) _).drew) (Nat.le_refl _) _
          have HEV : Hid (w7.heap[bE]? = some (.cells x.cells.toArray 36 (0, 0))) := Lib.hid (by rw [hw7, hbE]; exact setRow_heap _ _ _ _ _ _ (heap_alloc_new' wr (.cells #[.int .u64 0, .int .i64 0, .int .i64 0, .string { data := #[] }, .float .f64 0] 36)))
          have HBE : Hid (bE < w7.heap.size) := Lib.hid (Array.getElem?_eq_some_iff.1 HEV.out).1
          have HB7 := Lib.hid hb7
          have HW7 := Lib.hid hw7; have HBB := Lib.hid hbE
          have HO7 := Lib.hid (HOW.out.keepY hb7)
          have HK7 := Lib.hid (HBK.out.trans (hb7.mono HBK.out.size))
          clear hw7 hbE hb7 hHeld hb1 hb2 hb3 hb4 hb5 hc1 hc2 hc3 hc4 hc5 hcE
          rw [← HW7.out, ← HBB.out]
          have HFM : Hid (∀ w, Calls Tryd.prog 18 #[.agg x.cells.toArray, .int .i64 p] w fun e w' => e = .returned (.bool (formB x p)) ∧ Below w.heap.size w w') := Lib.hid fun w => refForm_any x p w
          have HCE : Hid (x.cells.toArray.toList = evs [x]) := Lib.hid (by simp [evs])
          have HIC := Lib.hid (iEvC x)
          have HON := Lib.hid (oneEvB x)
          rcases hfx : formB x p with _ | _
          · rw [hfx] at HFM
            have HNO : Hid (¬ allE l p = true) := Lib.hid fun h => by have := allE_yes h x (List.mem_of_getElem? HX.out); rw [hfx] at this; cases this
            clear hfx
            generalize x.cells.toArray = CE at *
            go_wp2_with (first
              | (refine wpList_load_row rfl 36 (.tmp 28) rfl bE rfl _ CE (0, 0) _ HEV.out uEvB rfl HIC.out ?_)
              | (go_at_call 18; (with_reducible refine (HFM.out w7).mono ?_); rintro e v1 ⟨rfl, hb8⟩; have HB8 := Lib.hid (below_to HAL.out (below_to HB7.out hb8)); clear hb8))
            all_goals
              refine bodyPost_ret (results_tmp3Y rfl _ _ _) rfl ?_
              try rw [if_neg HNO.out]
              exact ⟨rfl, HB8.out⟩
          · rw [hfx] at HFM
            have HFX := Lib.hid hfx
            clear hfx
            clear HW7 HBB
            have hCE : x.cells.toArray = #[.int .u64 (x.off : Int), .int .i64 x.part, .int .i64 x.time, .string x.key, .float .f64 x.val] := rfl
            rw [hCE] at HEV HFM HCE HIC HON
            clear hCE
            go_wp2_with (first
              | (refine wpList_load_row rfl 36 (.tmp 28) rfl bE rfl _ #[.int .u64 (x.off : Int), .int .i64 x.part, .int .i64 x.time, .string x.key, .float .f64 x.val] (0, 0) _ HEV.out uEvB rfl HIC.out ?_)
              | (go_at_call 18; (with_reducible refine (HFM.out w7).mono ?_); rintro e v1 ⟨rfl, hb8⟩; have HE8 := Lib.hid ((hb8.block bE HBE.out).trans HEV.out); have HO8 := Lib.hid (HO7.out.keepY hb8); have HK8 := Lib.hid (HK7.out.trans (hb8.mono HK7.out.size)); have hbs := (HK8.out.alloc HK8.out.size (.cells #[.int .u64 (x.off : Int), .int .i64 x.part, .int .i64 x.time, .string x.key, .float .f64 x.val] 36)).size; clear hb8)
              | (refine wpList_load_row rfl 36 (.tmp 28) rfl bE rfl _ #[.int .u64 (x.off : Int), .int .i64 x.part, .int .i64 x.time, .string x.key, .float .f64 x.val] (0, 0) _ HE8.out uEvB rfl HIC.out ?_)
              | (at_builtin; refine wpList_append_evY rfl (.tmp 181) (.tmp 183) rfl y5.heap.size Ac k ca (l.take k) rfl (HO8.out.keepY ((Below.refl v1.heap.size v1).alloc (Nat.le_refl _) (.cells #[.int .u64 (x.off : Int), .int .i64 x.part, .int .i64 x.time, .string x.key, .float .f64 x.val] 36))) (some ⟨v1.heap.size, 0, none⟩) 1 1 [x] rfl rfl (evAt_new v1 [x] #[.int .u64 (x.off : Int), .int .i64 x.part, .int .i64 x.time, .string x.key, .float .f64 x.val] HCE.out _) (fun h => by cases h) (k + 1) rfl (by omega) hbs ?_; intro A4 c4 w4 ho4 hc4 hm4 hn4 hb4; have HO4 := Lib.hid ho4; have HB4 := Lib.hid ((HK8.out.alloc HK8.out.size (.cells #[.int .u64 (x.off : Int), .int .i64 x.part, .int .i64 x.time, .string x.key, .float .f64 x.val] 36)).trans hb4); clear ho4 hb4 hc4 hm4 hn4)
              )
            go_roundw
            case rel =>
              have htk : l.take (k + 1) = l.take k ++ [x] := by rw [List.take_add_one, HX.out]; rfl
              refine ⟨k + 1, A4, c4, by omega, by go_num, rfl, by rw [htk]; exact HO4.out, HB4.out, fun y hy => ?_⟩
              rw [htk, List.mem_append] at hy
              rcases hy with h | h
              · exact HFF.out y h
              · rw [List.mem_singleton] at h; subst h; exact HFX.out
            case measure => simp [intOf]; omega
        · obtain rfl : k = n5 := by omega
          have hii : ¬ (k : Int) < (k : Int) := by omega
          have htk : l.take k = l := List.take_of_length_le (by have := HLN.out; omega)
          rw [htk] at HOW HFF
          have HYE : Hid (allE l p = true) := Lib.hid (List.all_eq_true.2 HFF.out)
          go_wp2
          refine bodyPost_ret (results_tmp3Y rfl _ _ _) rfl ?_
          try rw [if_pos HYE.out]
          exact ⟨Ac, k, ca, rfl, HLN.out.symm, HOW.out.atY, HAL.out⟩
end Go.Proofs.YtpobfgokikfmbaaDoor

set_option linter.unusedSimpArgs false
set_option linter.unusedVariables false
set_option maxRecDepth 8000
namespace Go.Proofs.YtpobfgokikfmbaaDoor
open Go.RowKit Go.Sort Go.WideShapes Col
theorem textS_of {most : Nat} {s : Option (List Nat)} {r : List Nat} (h : (textS most s).2 = some r) : ∃ q t, s = some q ∧ tP most q = some (t, r) ∧ (textS most s).1 = t := by
  rcases s with _ | q
  · cases h
  · rcases ht : tP most q with _ | ⟨t, r'⟩
    · rw [textS_none ht] at h; cases h
    · rw [textS_some ht] at h ⊢
      injection h with h; subst h
      exact ⟨q, t, rfl, ht, rfl⟩
theorem textS_next {most : Nat} {q t r : List Nat} (h : tP most q = some (t, r)) : textS most (some q) = (t, some r) := textS_some h
/-- Five texts that were read. -/
theorem tS5_of {body r : List Nat} (h : (tS 5 (some body)).2 = some r) : ∃ D1 D2 D3 D4 D5 q2 q3 q4 q5, tP 1048576 body = some (D1, q2) ∧ tP 1048576 q2 = some (D2, q3) ∧ tP 1048576 q3 = some (D3, q4) ∧ tP 1048576 q4 = some (D4, q5) ∧ tP 1048576 q5 = some (D5, r) ∧ tS 5 (some body) = ([D1, D2, D3, D4, D5], some r) := by
  have h5 : (textS 1048576 (tS 4 (some body)).2).2 = some r := h
  obtain ⟨q5, D5, e5, t5, g5⟩ := textS_of h5
  have h4 : (textS 1048576 (tS 3 (some body)).2).2 = some q5 := e5
  obtain ⟨q4, D4, e4, t4, g4⟩ := textS_of h4
  have h3 : (textS 1048576 (tS 2 (some body)).2).2 = some q4 := e4
  obtain ⟨q3, D3, e3, t3, g3⟩ := textS_of h3
  have h2 : (textS 1048576 (tS 1 (some body)).2).2 = some q3 := e3
  obtain ⟨q2, D2, e2, t2, g2⟩ := textS_of h2
  have h1 : (textS 1048576 (tS 0 (some body)).2).2 = some q2 := e2
  obtain ⟨q1, D1, e1, t1, g1⟩ := textS_of h1
  have e1 : some body = some q1 := e1
  injection e1 with e1; subst e1
  have s0 : tS 0 (some body) = ([], some body) := rfl
  have s1 : tS 1 (some body) = ([D1], some q2) := by rw [tS, s0, textS_some t1]; rfl
  have s2 : tS 2 (some body) = ([D1, D2], some q3) := by rw [tS, s1, textS_some t2]; rfl
  have s3 : tS 3 (some body) = ([D1, D2, D3], some q4) := by rw [tS, s2, textS_some t3]; rfl
  have s4 : tS 4 (some body) = ([D1, D2, D3, D4], some q5) := by rw [tS, s3, textS_some t4]; rfl
  have s5 : tS 5 (some body) = ([D1, D2, D3, D4, D5], some r) := by rw [tS, s4, textS_some t5]; rfl
  exact ⟨D1, D2, D3, D4, D5, q2, q3, q4, q5, t1, t2, t3, t4, t5, s5⟩
theorem rcA_of {α : Type} {rd : List Nat → Option α} {q D r : List Nat} (h : tP 1048576 q = some (D, r)) : rcA rd q = (rd D).map fun l => (l, r) := by
  unfold rcA; rw [h]
  cases hh : rd D with
  | none => simp [hh]
  | some l => simp [hh]
theorem rcA_tP {α : Type} {rd : List Nat → Option α} {q r : List Nat} {a : α} (h : rcA rd q = some (a, r)) : ∃ D, tP 1048576 q = some (D, r) ∧ rd D = some a := by
  unfold rcA at h
  rcases ht : tP 1048576 q with _ | ⟨D, r'⟩
  · rw [ht] at h; cases h
  · rw [ht] at h
    simp only [Option.bind_some] at h
    rcases hr : rd D with _ | l
    · rw [hr] at h; cases h
    · rw [hr] at h
      injection h with h; injection h with h1 h2
      subst h1; subst h2
      exact ⟨D, rfl, hr⟩
theorem evC_some {p : Int} {O P T : List Int} {K : List (List Nat)} {V : List Nat} {r : List Nat} {x : List Ev × List Nat} (h : evC p O P T K V r = some x) : x.2 = r := by
  unfold evC at h
  split at h
  · injection h with h; rw [← h]
  · cases h
/-- What is read of a body, all of it read, is what the five texts hold. -/
theorem evR_rest {p : Int} {q : List Nat} {x : List Ev × List Nat} (h : evR p q = some x) : (tS 5 (some q)).2 = some x.2 := by
  unfold evR at h
  rcases e1 : rcA riL q with _ | ⟨v1, q2⟩
  · rw [e1] at h; cases h
  rw [e1] at h
  simp only [Option.bind_some] at h
  obtain ⟨D1, t1, -⟩ := rcA_tP e1
  rcases e2 : rcA riL q2 with _ | ⟨v2, q3⟩
  · rw [e2] at h; cases h
  rw [e2] at h
  simp only [Option.bind_some] at h
  obtain ⟨D2, t2, -⟩ := rcA_tP e2
  rcases e3 : rcA riL q3 with _ | ⟨v3, q4⟩
  · rw [e3] at h; cases h
  rw [e3] at h
  simp only [Option.bind_some] at h
  obtain ⟨D3, t3, -⟩ := rcA_tP e3
  rcases e4 : rcA rTL q4 with _ | ⟨v4, q5⟩
  · rw [e4] at h; cases h
  rw [e4] at h
  simp only [Option.bind_some] at h
  obtain ⟨D4, t4, -⟩ := rcA_tP e4
  rcases e5 : rcA rFL q5 with _ | ⟨v5, q6⟩
  · rw [e5] at h; cases h
  rw [e5] at h
  simp only [Option.bind_some] at h
  obtain ⟨D5, t5, -⟩ := rcA_tP e5
  have hx := evC_some h
  have s0 : tS 0 (some q) = ([], some q) := rfl
  have s1 : tS 1 (some q) = ([D1], some q2) := by rw [tS, s0, textS_some t1]; rfl
  have s2 : tS 2 (some q) = ([D1, D2], some q3) := by rw [tS, s1, textS_some t2]; rfl
  have s3 : tS 3 (some q) = ([D1, D2, D3], some q4) := by rw [tS, s2, textS_some t3]; rfl
  have s4 : tS 4 (some q) = ([D1, D2, D3, D4], some q5) := by rw [tS, s3, textS_some t4]; rfl
  rw [tS, s4, textS_some t5, hx]
theorem evR_five {p : Int} {body D1 D2 D3 D4 D5 q2 q3 q4 q5 r : List Nat} (t1 : tP 1048576 body = some (D1, q2)) (t2 : tP 1048576 q2 = some (D2, q3)) (t3 : tP 1048576 q3 = some (D3, q4)) (t4 : tP 1048576 q4 = some (D4, q5)) (t5 : tP 1048576 q5 = some (D5, r)) :
    evR p body = (riL D1).bind fun a => (riL D2).bind fun b => (riL D3).bind fun c => (rTL D4).bind fun d => (rFL D5).bind fun e => evC p a b c d e r := by
  unfold evR
  rw [rcA_of t1]
  cases riL D1 with
  | none => rfl
  | some a =>
    simp only [Option.map_some, Option.bind_some]
    rw [rcA_of t2]
    cases riL D2 with
    | none => rfl
    | some b =>
      simp only [Option.map_some, Option.bind_some]
      rw [rcA_of t3]
      cases riL D3 with
      | none => rfl
      | some c =>
        simp only [Option.map_some, Option.bind_some]
        rw [rcA_of t4]
        cases rTL D4 with
        | none => rfl
        | some d =>
          simp only [Option.map_some, Option.bind_some]
          rw [rcA_of t5]
          cases rFL D5 with
          | none => rfl
          | some e => simp only [Option.map_some, Option.bind_some]
theorem tP_all {most : Nat} {q t r : List Nat} (h : tP most q = some (t, r)) : (∀ x ∈ t, x ∈ q) ∧ (∀ x ∈ r, x ∈ q) ∧ t.length ≤ q.length ∧ r.length ≤ q.length := by
  obtain ⟨n, q', h1, h2, h3, h4⟩ := tP_some h
  obtain ⟨-, -, m, hm0, hm, hml⟩ := grp_lt q 0 n q' (uP_some h1).1
  subst h3; subst h4; subst hm
  refine ⟨fun x hx => List.mem_of_mem_drop (List.mem_of_mem_take hx), fun x hx => List.mem_of_mem_drop (List.mem_of_mem_drop hx), ?_, ?_⟩
  · rw [List.length_take, List.length_drop]; omega
  · rw [List.length_drop, List.length_drop]; omega
/-- How the document's Read of any bytes ends. -/
def DEnd (o : Nat ⊕ (List Ev × Int)) (w : World) (e : Ending) (w' : World) : Prop := match o with
  | .inl c => e = .returned (.tuple #[.slice none 0 0, .int .i64 0, .int .i64 (c : Int)]) ∧ Below w.heap.size w w'
  | .inr p => ∃ A n c, e = .returned (.tuple #[.slice A n c, .int .i64 p.2, .int .i64 0]) ∧ n = p.1.length ∧ EvAt w' A p.1 ∧ Below w.heap.size w w'
theorem opt_yes {α : Type} {o : Option α} {d : α} (h : o.isSome = true) : o = some (o.getD d) := by cases o <;> simp_all
theorem dRead_any (A : Option Addr) (N cap : Nat) (i p : Int) (Q : List Nat) (hN : Hid (N = Q.length)) (hQ : N ≤ 100000) (hc : N ≤ cap) (hcm : cap ≤ maxLen) (w : World) (HA : Hid (ByAt w A Q)) :
    Calls Tryd.prog 6 #[.slice A N cap, .int .i64 i, .int .i64 p] w (DEnd (evOut p Q i) w) := by
  have hlen : (Pg.bodyAt Q i).length ≤ 1000000 := by
    unfold Pg.bodyAt
    split
    · rw [List.length_take, List.length_drop, List.length_drop]; have := hN.out; omega
    · exact Nat.zero_le _
  have hbw : ∀ x ∈ Pg.bodyAt Q i, x < 256 := by
    unfold Pg.bodyAt
    split
    · intro x hx
      exact HA.out.lt x (List.mem_of_mem_drop (List.mem_of_mem_drop (List.mem_of_mem_take hx)))
    · intro x hx; cases hx
  have HPR : Calls Tryd.prog 13 #[.slice A N cap, .int .i64 i] w fun e w' => ∃ A6 C6, e = .returned (.tuple #[.int .u8 (Pg.kindAt Q i : Nat), .slice A6 (Pg.bodyAt Q i).length C6, .int .i64 (Pg.endAt Q i), .int .i64 (Pg.errAt Q i : Nat)]) ∧ ByAt w' A6 (Pg.bodyAt Q i) ∧ (Pg.bodyAt Q i).length ≤ C6 ∧ C6 ≤ maxLen ∧ Below w.heap.size w w' :=
    refRead_any A Q N cap i hN hc hcm w HA
  by_cases he : Pg.errAt Q i = 0
  · rw [he] at HPR
    have ho1 : evOut p Q i = if Pg.kindAt Q i ≠ 101 then .inl 3 else match evR p (Pg.bodyAt Q i) with
      | some (l, []) => .inr (l, Pg.endAt Q i)
      | _ => .inl 3 := by unfold evOut; rw [if_neg (fun h => h he)]; rfl
    generalize Pg.bodyAt Q i = body at *
    generalize Pg.endAt Q i = E at *
    by_cases hk : Pg.kindAt Q i = 101
    · rw [hk] at HPR
      rw [if_neg (fun h => h hk)] at ho1
      by_cases hr : (tS 5 (some body)).2 = some []
      · obtain ⟨D1, D2, D3, D4, D5, q2, q3, q4, q5, t1, t2, t3, t4, t5, s5⟩ := tS5_of hr
        have a1 := tP_all t1; have a2 := tP_all t2; have a3 := tP_all t3; have a4 := tP_all t4; have a5 := tP_all t5
        have w1 : WfT D1 := fun x hx => hbw x (a1.1 x hx)
        have w2 : WfT D2 := fun x hx => hbw x (a1.2.1 x (a2.1 x hx))
        have w3 : WfT D3 := fun x hx => hbw x (a1.2.1 x (a2.2.1 x (a3.1 x hx)))
        have w4 : WfT D4 := fun x hx => hbw x (a1.2.1 x (a2.2.1 x (a3.2.1 x (a4.1 x hx))))
        have w5 : WfT D5 := fun x hx => hbw x (a1.2.1 x (a2.2.1 x (a3.2.1 x (a4.2.1 x (a5.1 x hx)))))
        have l1 : D1.length ≤ 1000000 := by omega
        have l2 : D2.length ≤ 1000000 := by omega
        have l3 : D3.length ≤ 1000000 := by omega
        have l4 : D4.length ≤ 1000000 := by omega
        have l5 : D5.length ≤ 1000000 := by omega
        rw [evR_five t1 t2 t3 t4 t5] at ho1
        by_cases hall : (riL D1).isSome = true ∧ (riL D2).isSome = true ∧ (riL D3).isSome = true ∧ (rTL D4).isSome = true ∧ (rFL D5).isSome = true ∧ ((riL D2).getD []).length = ((riL D1).getD []).length ∧ ((riL D3).getD []).length = ((riL D1).getD []).length ∧ ((rTL D4).getD []).length = ((riL D1).getD []).length ∧ ((rFL D5).getD []).length = ((riL D1).getD []).length
        · obtain ⟨c1, c2, c3, c4, c5, m2, m3, m4, m5⟩ := hall
          have hY := dRead_Y A N cap i p body _ (Lib.hid rfl) hlen (Lib.hid hbw) E D1 D2 D3 D4 D5 _ _ _ _ _ (Lib.hid s5)
            w1 (Lib.hid rfl) l1 _ (Lib.hid fun A C w' h hC hC' => by have h2 := dInts_q A C D1 _ (Lib.hid rfl) l1 hC hC' w' (Lib.hid h); rw [c1] at h2; exact h2)
            w2 (Lib.hid rfl) l2 _ (Lib.hid fun A C w' h hC hC' => by have h2 := dInts_q A C D2 _ (Lib.hid rfl) l2 hC hC' w' (Lib.hid h); rw [c2] at h2; exact h2)
            w3 (Lib.hid rfl) l3 _ (Lib.hid fun A C w' h hC hC' => by have h2 := dInts_q A C D3 _ (Lib.hid rfl) l3 hC hC' w' (Lib.hid h); rw [c3] at h2; exact h2)
            w4 (Lib.hid rfl) l4 _ (Lib.hid fun A C w' h hC hC' => by have h2 := dTexts_q A C D4 _ (Lib.hid rfl) l4 hC hC' w' (Lib.hid h); rw [c4] at h2; exact h2)
            w5 (Lib.hid rfl) l5 _ (Lib.hid fun A C w' h hC hC' => by have h2 := dReals_q A C D5 _ (Lib.hid rfl) l5 hC hC' w' (Lib.hid h); rw [c5] at h2; exact h2)
            (Lib.hid ⟨m2, m3, m4, m5⟩) (riL_few (opt_yes (d := []) c1)) (mkE ((riL D1).getD []) ((riL D2).getD []) ((riL D3).getD []) ((rTL D4).getD []) ((rFL D5).getD [])) (Lib.hid rfl) w (Lib.hid HPR)
          rw [opt_yes (d := []) c1, opt_yes (d := []) c2, opt_yes (d := []) c3, opt_yes (d := []) c4, opt_yes (d := []) c5] at ho1
          simp only [Option.bind_some] at ho1
          generalize (riL D1).getD [] = O at *
          generalize (riL D2).getD [] = P at *
          generalize (riL D3).getD [] = T at *
          generalize (rTL D4).getD [] = K0 at *
          generalize (rFL D5).getD [] = V at *
          rcases ha : allE (mkE O P T K0 V) p with _ | _
          · have ho : evC p O P T K0 V [] = none := by unfold evC; rw [if_neg (fun h => by rw [ha] at h; exact absurd h.2.2.2.2 (by decide))]
            rw [ho] at ho1
            rw [ho1]
            rw [if_neg (by rw [ha]; decide)] at hY
            exact hY
          · have ho : evC p O P T K0 V [] = some (mkE O P T K0 V, []) := by unfold evC; rw [if_pos ⟨m2, m3, m4, m5, ha⟩]
            rw [ho] at ho1
            rw [ho1]
            rw [if_pos ha] at hY
            exact hY
        · have hN := dRead_N A N cap i p body _ (Lib.hid rfl) hlen (Lib.hid hbw) E D1 D2 D3 D4 D5 _ _ _ _ _ (Lib.hid s5)
            w1 (Lib.hid rfl) l1 (riL D1).isSome (riL D1 |>.getD []) (Lib.hid fun A C w' h hC hC' => dInts_q A C D1 _ (Lib.hid rfl) l1 hC hC' w' (Lib.hid h))
            w2 (Lib.hid rfl) l2 (riL D2).isSome (riL D2 |>.getD []) (Lib.hid fun A C w' h hC hC' => dInts_q A C D2 _ (Lib.hid rfl) l2 hC hC' w' (Lib.hid h))
            w3 (Lib.hid rfl) l3 (riL D3).isSome (riL D3 |>.getD []) (Lib.hid fun A C w' h hC hC' => dInts_q A C D3 _ (Lib.hid rfl) l3 hC hC' w' (Lib.hid h))
            w4 (Lib.hid rfl) l4 (rTL D4).isSome (rTL D4 |>.getD []) (Lib.hid fun A C w' h hC hC' => dTexts_q A C D4 _ (Lib.hid rfl) l4 hC hC' w' (Lib.hid h))
            w5 (Lib.hid rfl) l5 (rFL D5).isSome (rFL D5 |>.getD []) (Lib.hid fun A C w' h hC hC' => dReals_q A C D5 _ (Lib.hid rfl) l5 hC hC' w' (Lib.hid h))
            (fun c1 c2 c3 c4 c5 m2 m3 m4 m5 => hall ⟨c1, c2, c3, c4, c5, m2, m3, m4, m5⟩) w (Lib.hid HPR)
          have ho : evOut p Q i = .inl 3 := by
            rw [ho1]
            rcases o1 : riL D1 with _ | O
            · rfl
            rcases o2 : riL D2 with _ | P
            · rfl
            rcases o3 : riL D3 with _ | T
            · rfl
            rcases o4 : rTL D4 with _ | K0
            · rfl
            rcases o5 : rFL D5 with _ | V
            · rfl
            simp only [Option.bind_some]
            rw [o1, o2, o3, o4, o5] at hall
            have hc : evC p O P T K0 V [] = none := by
              unfold evC
              rw [if_neg (fun h => hall ⟨rfl, rfl, rfl, rfl, rfl, h.1, h.2.1, h.2.2.1, h.2.2.2.1⟩)]
            rw [hc]
          rw [ho]
          exact hN
      · have ho : evOut p Q i = .inl 3 := by
          rw [ho1]
          rcases hev : evR p body with _ | ⟨l, r⟩
          · rfl
          · have := evR_rest hev
            rcases r with _ | ⟨a, r⟩
            · exact absurd this hr
            · rfl
        rw [ho]
        exact dRead_T A N cap i p body _ (Lib.hid rfl) hlen (Lib.hid hbw) E 101 (.inr hr) w (Lib.hid HPR)
    · rw [if_pos hk] at ho1
      rw [ho1]
      exact dRead_T A N cap i p body _ (Lib.hid rfl) hlen (Lib.hid hbw) E _ (.inl hk) w (Lib.hid HPR)
  · have ho : evOut p Q i = .inl (Pg.errAt Q i) := by unfold evOut; rw [if_pos he]
    rw [ho]
    exact dRead_E A N cap i p _ (by omega) w (Lib.hid (HPR.mono fun e w' h => by
      obtain ⟨A6, C6, h1, -, -, -, h2⟩ := h
      exact ⟨_, _, _, h1, h2⟩))
end Go.Proofs.YtpobfgokikfmbaaDoor

set_option linter.unusedSimpArgs false
set_option linter.unusedVariables false
set_option maxRecDepth 8000
namespace Go.Proofs.YtpobfgokikfmbaaDoor
open Go.RowKit Go.Sort Go.WideShapes Col
theorem range_keepY {w w' : World} {g o : Nat} {x : Ev} (h : w.rangeAt g o x.cells) (hg : g < w.heap.size) (hb : Below w.heap.size w w') : w'.rangeAt g o x.cells := fun j v hv => (hb.cell (p := ⟨g, o + j, none⟩) hg).trans (h j v hv)
theorem wpAnyH_more {P : Program} {ops : Array Oper} {Q : Exit → Act → World → Prop} {md : Region.Mode} {S S' : World → Prop} (h : ∀ w, S' w → S w) : ∀ {n : Nat} {listed : Array Bool} {a : Act} {w : World}, wpAnyH P md ops Q S' n listed a w → wpAnyH P md ops Q S n listed a w
  | 0, _, _, _, H => H
  | n + 1, _, _, _, H => ⟨H.1, fun i hi => wpOp_mono (fun _ _ h' => ⟨h _ h'.1, wpAnyH_more h h'.2⟩) (H.2 i hi)⟩
set_option maxHeartbeats 4000000 in
theorem sameTwo_core (g1 o1 g2 o2 n c1 c2 : Nat) (l1 l : List Ev) (hn1 : Hid (n = l1.length)) (hn : Hid (n = l.length)) (h60 : n ≤ 5000) (hs : Hid (∀ (k : Nat) (y x : Ev), l1[k]? = some y → l[k]? = some x → ∀ w, Calls Tryd.prog 19 #[.agg y.cells.toArray, .agg x.cells.toArray] w fun e w' => e = .returned (.bool true) ∧ Below w.heap.size w w')) (W : World) (H1 : Hid (EvAt W (some ⟨g1, o1, none⟩) l1)) (H2 : Hid (EvAt W (some ⟨g2, o2, none⟩) l)) :
    Calls Tryd.prog 7 #[.slice (some ⟨g1, o1, none⟩) n c1, .slice (some ⟨g2, o2, none⟩) n c2] W fun e w' => e = .returned (.bool true) ∧ Below W.heap.size W w' := by
  have hq : ((n : Int) != (n : Int)) = false := by simp
  go_enter Tryd.func7, Tryd.ntmps7
  go_wp2
  clear hq
  go_loopw [5] (fun v wr => ∃ k : Nat, k ≤ n ∧ v = .int .i64 k ∧ Below W.heap.size W wr) (fun v _ => n - (intOf v).toNat)
  case atStart => exact ⟨0, Nat.zero_le _, rfl, Below.refl _ _⟩
  case round =>
    obtain ⟨k, hk, rfl, hb⟩ := hrel
    have HB := Lib.hid hb
    clear hb
    by_cases hkn : k < n
    · have hkl : k < l.length := by have := hn.out; omega
      obtain ⟨x, hx⟩ : ∃ x, l[k]? = some x := ⟨l[k], List.getElem?_eq_getElem hkl⟩
      obtain ⟨y, hy⟩ : ∃ y, l1[k]? = some y := ⟨l1[k]'(by have := hn1.out; omega), List.getElem?_eq_getElem _⟩
      have HSM := Lib.hid (hs.out k y x hy hx)
      obtain ⟨g, off, e, hg, hr⟩ := evrB (H1.out.keep HB.out) k y hy
      injection e with e; injection e with b1 b2; subst b1; subst b2
      obtain ⟨g', off', e, hg', hr'⟩ := evrB (H2.out.keep HB.out) k x hx
      injection e with e; injection e with b1 b2; subst b1; subst b2
      have HG1 := Lib.hid hg; have HG2 := Lib.hid hg'; have HX1 := Lib.hid hr; have HX2 := Lib.hid hr'
      clear hx hy hg hg' hr hr'
      have hz : (k : Int) < (n : Int) := by omega
      go_upto_region 6 with fail
      have hh0 : Below wr.heap.size wr wr.drew := (Below.refl _ _).drew
      refine wp_region_held_drew (S := fun w => Below wr.heap.size wr w) (by kernel_rfl) hh0 (fun hHeld => ?_)
      refine wpAnyH_take (i := 0) (v := .slice (some ⟨g1, o1, none⟩) n c1) rfl (by kernel_rfl) (by kernel_rfl) (by kernel_rfl) (fun _ _ _ h => h) (Or.inl ⟨by rfl, fun _ _ => rfl⟩) hHeld ?_
      try dsimp only
      try simp only [Act.put, List.getElem_toArray, List.getElem_cons_zero, List.getElem_cons_succ, List.setIfInBounds_toArray, List.set_cons_zero, List.set_cons_succ]
      refine wpAnyH_take (i := 1) (v := .int .i64 (k : Nat)) rfl (by kernel_rfl) (by kernel_rfl) (by kernel_rfl) (fun _ _ _ h => h) (Or.inl ⟨by rfl, fun _ _ => rfl⟩) hHeld ?_
      try dsimp only
      try simp only [Act.put, List.getElem_toArray, List.getElem_cons_zero, List.getElem_cons_succ, List.setIfInBounds_toArray, List.set_cons_zero, List.set_cons_succ]
      refine wpAnyH_take (i := 2) (v := .pointer (some ⟨g1, o1 + k * 5, none⟩)) rfl (by kernel_rfl) (by kernel_rfl) (by kernel_rfl) (fun _ _ _ h => h) (Or.inl ⟨by rfl, fun w _ => by go_simp⟩) hHeld ?_
      try dsimp only
      try simp only [Act.put, List.getElem_toArray, List.getElem_cons_zero, List.getElem_cons_succ, List.setIfInBounds_toArray, List.set_cons_zero, List.set_cons_succ]
      refine wpAnyH_take (i := 3) (v := .agg y.cells.toArray) rfl (by kernel_rfl) (by kernel_rfl) (by kernel_rfl) (fun _ _ _ h => h) (yieldsIf_load_mid rfl 36 (.tmp 19) rfl g1 (o1 + k * 5) rfl y.cells _ (fun w hw => range_keepY HX1.out HG1.out hw) uEvB rfl (iEvB y)) hHeld ?_
      try dsimp only
      try simp only [Act.put, List.getElem_toArray, List.getElem_cons_zero, List.getElem_cons_succ, List.setIfInBounds_toArray, List.set_cons_zero, List.set_cons_succ]
      refine wpAnyH_take (i := 4) (v := .slice (some ⟨g2, o2, none⟩) n c2) rfl (by kernel_rfl) (by kernel_rfl) (by kernel_rfl) (fun _ _ _ h => h) (Or.inl ⟨by rfl, fun _ _ => rfl⟩) hHeld ?_
      try dsimp only
      try simp only [Act.put, List.getElem_toArray, List.getElem_cons_zero, List.getElem_cons_succ, List.setIfInBounds_toArray, List.set_cons_zero, List.set_cons_succ]
      refine wpAnyH_take (i := 5) (v := .int .i64 (k : Nat)) rfl (by kernel_rfl) (by kernel_rfl) (by kernel_rfl) (fun _ _ _ h => h) (Or.inl ⟨by rfl, fun _ _ => rfl⟩) hHeld ?_
      try dsimp only
      try simp only [Act.put, List.getElem_toArray, List.getElem_cons_zero, List.getElem_cons_succ, List.setIfInBounds_toArray, List.set_cons_zero, List.set_cons_succ]
      refine wpAnyH_take (i := 6) (v := .pointer (some ⟨g2, o2 + k * 5, none⟩)) rfl (by kernel_rfl) (by kernel_rfl) (by kernel_rfl) (fun _ _ _ h => h) (Or.inl ⟨by rfl, fun w _ => by go_simp⟩) hHeld ?_
      try dsimp only
      try simp only [Act.put, List.getElem_toArray, List.getElem_cons_zero, List.getElem_cons_succ, List.setIfInBounds_toArray, List.set_cons_zero, List.set_cons_succ]
      refine wpAnyH_take (i := 7) (v := .agg x.cells.toArray) rfl (by kernel_rfl) (by kernel_rfl) (by kernel_rfl) (fun _ _ _ h => h) (yieldsIf_load_mid rfl 36 (.tmp 23) rfl g2 (o2 + k * 5) rfl x.cells _ (fun w hw => range_keepY HX2.out HG2.out hw) uEvB rfl (iEvB x)) hHeld ?_
      try dsimp only
      try simp only [Act.put, List.getElem_toArray, List.getElem_cons_zero, List.getElem_cons_succ, List.setIfInBounds_toArray, List.set_cons_zero, List.set_cons_succ]
      refine wpAnyH_ready (rs := [8]) (by kernel_rfl) (by simp) (AllReadyH.cons rfl (fun K hK => ?_) AllReadyH.nil)
      go_simp
      refine (HSM.out _).mono ?_
      rintro e w2 ⟨rfl, hb⟩
      replace hHeld := below_to hHeld hb
      clear hb
      refine hK.out _ _ hHeld (fun hHeld => ?_)
      clear hK K
      try dsimp only
      try simp only [Act.put, List.getElem_toArray, List.getElem_cons_zero, List.getElem_cons_succ, List.setIfInBounds_toArray, List.set_cons_zero, List.set_cons_succ]
      refine wpAnyH_ready (rs := [9]) (by kernel_rfl) (by simp) (AllReadyH.cons rfl (fun K hK => ?_) AllReadyH.nil)
      go_simp
      refine hK.out _ _ hHeld (fun hHeld => ?_)
      clear hK K
      try dsimp only
      try simp only [Act.put, List.getElem_toArray, List.getElem_cons_zero, List.getElem_cons_succ, List.setIfInBounds_toArray, List.set_cons_zero, List.set_cons_succ]
      refine wpAnyH_done (by kernel_rfl) ?_ _
      have HB2 := Lib.hid (below_to HB.out hHeld)
      go_wp2
      go_roundw
      case rel => exact ⟨k + 1, by omega, by go_num, HB2.out⟩
      case measure => simp [intOf]; omega
    · have hz : ¬ ((k : Int) < (n : Int)) := by omega
      go_wp2
      go_ret
      exact ⟨rfl, HB.out⟩
set_option maxHeartbeats 1000000 in
theorem sameTwo_none (a b : Option Addr) (c1 c2 : Nat) (W : World) :
    Calls Tryd.prog 7 #[.slice a 0 c1, .slice b 0 c2] W fun e w' => e = .returned (.bool true) ∧ Below W.heap.size W w' := by
  go_enter Tryd.func7, Tryd.ntmps7
  go_wp2
  refine wp_loop_rounds 1 ?_
  rw [rounds_succ]
  go_wp2
  go_ret
  exact ⟨rfl, Below.refl _ _⟩
/-- SameAll of two lists that are the same, one by one. -/
theorem sameTwo_any (a b : Option Addr) (n c1 c2 : Nat) (l1 l : List Ev) (hn1 : Hid (n = l1.length)) (hn : Hid (n = l.length)) (h60 : n ≤ 5000) (hs : Hid (∀ (k : Nat) (y x : Ev), l1[k]? = some y → l[k]? = some x → ∀ w, Calls Tryd.prog 19 #[.agg y.cells.toArray, .agg x.cells.toArray] w fun e w' => e = .returned (.bool true) ∧ Below w.heap.size w w')) (W : World) (H1 : Hid (EvAt W a l1)) (H2 : Hid (EvAt W b l)) :
    Calls Tryd.prog 7 #[.slice a n c1, .slice b n c2] W fun e w' => e = .returned (.bool true) ∧ Below W.heap.size W w' := by
  by_cases h0 : n = 0
  · subst h0
    exact sameTwo_none a b c1 c2 W
  · obtain ⟨y, hy⟩ : ∃ y, l1[0]? = some y := ⟨_, List.getElem?_eq_getElem (by have := hn1.out; omega)⟩
    obtain ⟨x, hx⟩ : ∃ x, l[0]? = some x := ⟨_, List.getElem?_eq_getElem (by have := hn.out; omega)⟩
    obtain ⟨g1, o1, rfl, -, -⟩ := evrB H1.out 0 y hy
    obtain ⟨g2, o2, rfl, -, -⟩ := evrB H2.out 0 x hx
    exact sameTwo_core g1 o1 g2 o2 n c1 c2 l1 l hn1 hn h60 hs W H1 H2
theorem evC_fine {p : Int} {O P T : List Int} {K : List (List Nat)} {V : List Nat} {r : List Nat} {x : List Ev × List Nat} (h : evC p O P T K V r = some x) (hO : O.length ≤ 4096) (hV : ∀ v ∈ V, v < 18446744073709551616) : x.1.length ≤ 4096 ∧ ∀ y ∈ x.1, y.val < 18446744073709551616 := by
  unfold evC at h
  split at h
  · injection h with h
    subst h
    refine ⟨by rw [mkE_len]; exact hO, fun y hy => ?_⟩
    unfold mkE at hy
    obtain ⟨i, -, hi⟩ := List.mem_map.1 hy
    subst hi
    show V.getD i 0 < 18446744073709551616
    rw [List.getD_eq_getElem?_getD]
    rcases hv : V[i]? with _ | v
    · show (0 : Nat) < _
      omega
    · exact hV v (List.mem_of_getElem? hv)
  · cases h
theorem evR_fine {p : Int} {q : List Nat} {x : List Ev × List Nat} (h : evR p q = some x) : x.1.length ≤ 4096 ∧ ∀ y ∈ x.1, y.val < 18446744073709551616 := by
  unfold evR at h
  rcases e1 : rcA riL q with _ | ⟨v1, q2⟩
  · rw [e1] at h; cases h
  rw [e1] at h
  simp only [Option.bind_some] at h
  rcases e2 : rcA riL q2 with _ | ⟨v2, q3⟩
  · rw [e2] at h; cases h
  rw [e2] at h
  simp only [Option.bind_some] at h
  rcases e3 : rcA riL q3 with _ | ⟨v3, q4⟩
  · rw [e3] at h; cases h
  rw [e3] at h
  simp only [Option.bind_some] at h
  rcases e4 : rcA rTL q4 with _ | ⟨v4, q5⟩
  · rw [e4] at h; cases h
  rw [e4] at h
  simp only [Option.bind_some] at h
  rcases e5 : rcA rFL q5 with _ | ⟨v5, q6⟩
  · rw [e5] at h; cases h
  rw [e5] at h
  simp only [Option.bind_some] at h
  obtain ⟨D5, -, hr⟩ := rcA_tP e5
  exact evC_fine h (rcA_few e1) (rFL_lt hr)
theorem evOut_fine {p : Int} {Q : List Nat} {i : Int} {x : List Ev × Int} (h : evOut p Q i = .inr x) : x.1.length ≤ 4096 ∧ ∀ y ∈ x.1, y.val < 18446744073709551616 := by
  unfold evOut at h
  split at h
  · cases h
  · split at h
    · cases h
    · rcases he : evR p (Pg.bodyAt Q i) with _ | ⟨l, r⟩
      · rw [he] at h; cases h
      · rw [he] at h
        rcases r with _ | ⟨a, r⟩
        · have h : Sum.inr (l, Pg.endAt Q i) = (Sum.inr x : Nat ⊕ (List Ev × Int)) := h
          injection h with h
          subst h
          exact evR_fine he
        · cases h
set_option maxHeartbeats 4000000 in
theorem eventReads_long (a : Option Addr) (la ca : Nat) (i : Int) (k : Nat) (hk : k < 256) (hL : 2000 < la) (hl4 : la ≤ maxLen) (W : World) :
    Calls Tryd.prog 3 #[.slice a la ca, .int .i64 i, .int .u8 (k : Int)] W fun e w' => e = .returned (.bool true) ∧ Below W.heap.size W w' := by
  have hLi : (2000 : Int) < (la : Int) := by omega
  have HB := Below.refl W.heap.size W
  go_enter Tryd.func3, Tryd.ntmps3
  go_wp2_with (go_at_call 4; refine (awake_any _).mono ?_; rintro e w' ⟨rfl, hb⟩; replace HB := HB.trans (hb.mono HB.size); clear hb)
  go_ret
  exact ⟨rfl, HB⟩
set_option maxHeartbeats 8000000 in
theorem eventReads_bad (a : Option Addr) (la ca : Nat) (i : Int) (k : Nat) (hk : k < 256) (hL : la ≤ 2000) (K : Int) (hK : K = ((1 + k % 8 : Nat) : Int)) (cd : Nat) (W : World)
    (HRD : Hid (∀ w, Below W.heap.size W w → Calls Tryd.prog 5 #[.slice a la ca, .int .i64 i, .int .i64 K] w (EvRet (.inl cd) w)))
    (HRR : Hid (∀ w, Below W.heap.size W w → Calls Tryd.prog 6 #[.slice a la ca, .int .i64 i, .int .i64 K] w (DEnd (.inl cd) w))) :
    Calls Tryd.prog 3 #[.slice a la ca, .int .i64 i, .int .u8 (k : Int)] W fun e w' => e = .returned (.bool true) ∧ Below W.heap.size W w' := by
  have hLi : ¬ (2000 : Int) < (la : Int) := by omega
  have hk1 : IntKind.i64.wrap (k : Int) = (k : Int) := by rw [IntKind.wrap_i64]; omega
  have hKm : (1 : Int) + (k : Int) % 8 = K := by rw [hK]; omega
  have hKt : (1 : Int) + Int.tmod (k : Int) 8 = K := by rw [hK, Int.tmod_eq_emod_of_nonneg (by omega)]; omega
  have HB := Below.refl W.heap.size W
  clear hK
  go_enter Tryd.func3, Tryd.ntmps3
  go_wp2_with (first
    | (go_at_call 4; refine (awake_any _).mono ?_; rintro e w' ⟨rfl, hb⟩; replace HB := HB.trans (hb.mono HB.size); clear hb)
    | (go_at_call 5; (with_reducible refine (HRD.out _ HB).mono ?_); rintro e w' ⟨rfl, hb⟩; replace HB := HB.trans (hb.mono HB.size); clear hb)
    | (go_at_call 6; (with_reducible refine (HRR.out _ HB).mono ?_); rintro e w' ⟨rfl, hb⟩; replace HB := HB.trans (hb.mono HB.size); clear hb)
    | (go_at_call 7; (with_reducible refine (sameTwo_none none none 0 0 _).mono ?_); rintro e w' ⟨rfl, hb⟩; replace HB := HB.trans (hb.mono HB.size); clear hb))
  go_ret
  exact ⟨rfl, HB⟩
set_option maxHeartbeats 8000000 in
theorem eventReads_yes (a : Option Addr) (la ca : Nat) (i : Int) (k : Nat) (hk : k < 256) (hL : la ≤ 2000) (K : Int) (hK : K = ((1 + k % 8 : Nat) : Int)) (l : List Ev) (E : Int) (hf : l.length ≤ 4096) (hv : Hid (∀ y ∈ l, y.val < 18446744073709551616)) (W : World)
    (HRD : Hid (∀ w, Below W.heap.size W w → Calls Tryd.prog 5 #[.slice a la ca, .int .i64 i, .int .i64 K] w (EvRet (.inr (l, E)) w)))
    (HRR : Hid (∀ w, Below W.heap.size W w → Calls Tryd.prog 6 #[.slice a la ca, .int .i64 i, .int .i64 K] w (DEnd (.inr (l, E)) w))) :
    Calls Tryd.prog 3 #[.slice a la ca, .int .i64 i, .int .u8 (k : Int)] W fun e w' => e = .returned (.bool true) ∧ Below W.heap.size W w' := by
  have HSA : Hid (∀ A1 A2 n c1 c2 w, n = l.length → EvAt w A1 l → EvAt w A2 l → Calls Tryd.prog 7 #[.slice A1 n c1, .slice A2 n c2] w fun e w' => e = .returned (.bool true) ∧ Below w.heap.size w w') := Lib.hid fun A1 A2 n c1 c2 w hn h1 h2 =>
    sameTwo_any A1 A2 n c1 c2 l l (Lib.hid hn) (Lib.hid hn) (by omega) (Lib.hid fun j y x hy hx w => by
      rw [hy] at hx; injection hx with hx; subst hx
      have hvx := hv.out y (List.mem_of_getElem? hy)
      have h := refEvSame_any y y hvx hvx w
      have e : sameB y y = true := by unfold sameB keqB; simp
      rw [e] at h
      exact h) w (Lib.hid h1) (Lib.hid h2)
  have hLi : ¬ (2000 : Int) < (la : Int) := by omega
  have hk1 : IntKind.i64.wrap (k : Int) = (k : Int) := by rw [IntKind.wrap_i64]; omega
  have hKm : (1 : Int) + (k : Int) % 8 = K := by rw [hK]; omega
  have hKt : (1 : Int) + Int.tmod (k : Int) 8 = K := by rw [hK, Int.tmod_eq_emod_of_nonneg (by omega)]; omega
  have HB := Below.refl W.heap.size W
  clear hK
  clear hf hv
  go_enter Tryd.func3, Tryd.ntmps3
  go_wp2_with (first
    | (go_at_call 4; refine (awake_any _).mono ?_; rintro e w' ⟨rfl, hb⟩; replace HB := HB.trans (hb.mono HB.size); clear hb)
    | (go_at_call 5; (with_reducible refine (HRD.out _ HB).mono ?_); rintro e w1 ⟨L, n, rfl, h1, h2, hb⟩; have HN1 := Lib.hid h1; have HE1 := Lib.hid h2; replace HB := HB.trans (hb.mono HB.size); clear h1 h2 hb)
    | (go_at_call 6; (with_reducible refine (HRR.out _ HB).mono ?_); rintro e w2 ⟨A2, n2, c2, rfl, h1, h2, hb⟩; have e2 : n2 = n := (by have := HN1.out; have := h1; simp_all); have HE2 := Lib.hid h2; have HE3 := Lib.hid (HE1.out.keep hb); replace HB := HB.trans (hb.mono HB.size); clear h1 h2 hb; subst e2)
    | (go_at_call 7; (with_reducible refine (HSA.out _ _ _ _ _ _ HN1.out HE3.out HE2.out).mono ?_); rintro e w' ⟨rfl, hb⟩; replace HB := HB.trans (hb.mono HB.size); clear hb))
  go_ret
  exact ⟨rfl, HB⟩
theorem eventReads_any (a : Option Addr) (lp : List Nat) (la ca : Nat) (hla : Hid (la = lp.length)) (hac : la ≤ ca) (hcm : ca ≤ maxLen) (i : Int) (hib : -9223372036854775808 ≤ i ∧ i ≤ 9223372036854775807) (k : Nat) (hk : k < 256) (W : World) (HA : Hid (ByAt W a lp)) (HG : Hid (HalvesAt W)) :
    Calls Tryd.prog 3 #[.slice a la ca, .int .i64 i, .int .u8 (k : Int)] W fun e w' => e = .returned (.bool true) ∧ Below W.heap.size W w' := by
  by_cases hL : 2000 < la
  · exact eventReads_long a la ca i k hk hL (by omega) W
  · have HRD : Hid (∀ w, Below W.heap.size W w → Calls Tryd.prog 5 #[.slice a la ca, .int .i64 i, .int .i64 ((1 + k % 8 : Nat) : Int)] w (EvRet (evOut ((1 + k % 8 : Nat) : Int) lp i) w)) := Lib.hid fun w hw =>
      evReadA_any a la ca i _ lp hla (by omega) hac hcm w (Lib.hid (HA.out.keep hw)) (Lib.hid (HG.out.keep hw))
    have HRR : Hid (∀ w, Below W.heap.size W w → Calls Tryd.prog 6 #[.slice a la ca, .int .i64 i, .int .i64 ((1 + k % 8 : Nat) : Int)] w (DEnd (evOut ((1 + k % 8 : Nat) : Int) lp i) w)) := Lib.hid fun w hw =>
      dRead_any a la ca i _ lp hla (by omega) hac hcm w (Lib.hid (HA.out.keep hw))
    rcases ho : evOut ((1 + k % 8 : Nat) : Int) lp i with cd | ⟨l, E⟩
    · rw [ho] at HRD HRR
      exact eventReads_bad a la ca i k hk (by omega) _ rfl cd W HRD HRR
    · rw [ho] at HRD HRR
      have hf := evOut_fine ho
      exact eventReads_yes a la ca i k hk (by omega) _ rfl l E hf.1 (Lib.hid hf.2) W HRD HRR
end Go.Proofs.YtpobfgokikfmbaaDoor

set_option linter.unusedSimpArgs false
set_option linter.unusedVariables false
set_option maxRecDepth 8000
namespace Go.Proofs.YtpobfgokikfmbaaDoor
open Go.ChangeShapes Go.WideShapes Go.ChangeAt Go.WideElems Go.RowKit

theorem Tryd.own : ownKnob Tryd.prog.godebug = none := by kernel_rfl
theorem Tryd.laidOut : laidOutB Tryd.prog = true := by kernel_rfl

section
variable {H : Type} {enc : TypeId × Value → H} {P : Program}

theorem trodAll_keep {W W' : World} {sp : Nat → Bool} (hl : laidOutB P = true) (hs : ∀ x : MemPlace, x.block < W.heap.size → W.sameAt W' x) : ∀ (ts : List TypeId) (vs : List Value) (ds : List (DataW H)) (ps : List MemPlace),
    (∀ t, t ∈ ts → P.readableRec t = true ∧ t < P.types.size) → DataW.TrodAll enc P W 0 (fun _ => true) true ts vs ds ps → (∀ x, x ∈ ps → x.block < W.heap.size) → (∀ x, x ∈ ps → sp x.block = true) →
    DataW.TrodAll enc P W' 0 sp true ts vs ds ps
  | [], [], [], _, _, h, _, _ => h
  | t :: ts, v :: vs, d :: ds, ps, hr, ⟨p, q, hd, hrest, he⟩, hlt, hsp => by
    subst he
    refine ⟨p, q, ?_, trodAll_keep hl hs ts vs ds q (fun t ht => hr t (by simp [ht])) hrest (fun x hx => hlt x (by simp [hx])) (fun x hx => hsp x (by simp [hx])), rfl⟩
    exact WideElems.Trod_stays hl (hr t (by simp)).1 (hr t (by simp)).2 hd (fun x hx => hs x (hlt x (by simp [hx]))) (fun x hx => hsp x (by simp [hx]))
  | [], [], _ :: _, _, _, h, _, _ => h.elim
  | [], _ :: _, _, _, _, h, _, _ => h.elim
  | _ :: _, [], _, _, _, h, _, _ => h.elim
  | _ :: _, _ :: _, [], _, _, h, _, _ => h.elim

theorem post_law {f : Func} {s : ChangeSpec} {W W' : World} {args : Array Value} {ds : List (DataW H)} {before : List MemPlace} {tb : TypeId} (hl : laidOutB P = true)
    (hv : s.vars = []) (hW : DataW.Whole enc P f.params.toList s.vars false W args.toList ds [] before)
    (hrec : ∀ t, t ∈ f.params.toList → P.readableRec t = true ∧ t < P.types.size)
    (hres : (s.fn H ds).results = [.lit (.bool true)]) (hargs : (s.fn H ds).args = ds) (hvs : (s.fn H ds).vars = [])
    (hrt : f.resultTypes = #[tb]) (htb : P.underlying tb = some .bool) (hb : Below W.heap.size W W') : s.post enc P f false true false false W args (.bool true) W' := by
  have hlt : ∀ x, x ∈ before → x.block < W.heap.size := fun x hx => hW.lt x hx
  have hW2 := hW
  obtain ⟨p, q, hA, hV, rfl, -, -⟩ := hW2
  have hq : q = [] := by rw [hv] at hV; exact hV
  subst hq
  refine ⟨ds, [], p ++ [], [], p, [], hW, ?_, ?_, ?_, hb.frame _, fun h => by cases h⟩
  · rw [List.append_nil, hres, hrt]
    exact trodAll_mk1 (shut_bool htb true)
  · rw [List.append_nil, hargs]
    exact trodAll_keep hl (fun x hx => hb.same hx) _ _ _ _ hrec hA (fun x hx => hlt x (by simp [hx])) (fun x hx => by simpa using hlt x (by simp [hx]))
  · rw [List.append_nil, hv, hvs]; rfl

/-- A slice of bytes that came in. -/
theorem open_bys {W : World} {t e : TypeId} {v : Value} {d : DataW H} {ps : List MemPlace} (ht : P.underlying t = some (.slice e)) (he : P.underlying e = some (.int .u8)) (hc : P.cellsOf e = 1)
    {b0 : Nat} {r : Reach} (hok : Value.okWide P W r b0 t v) (hd : DataW.Trod enc P W 0 (fun _ => true) true t v d ps) (hlt : ∀ x, x ∈ ps → x.block < W.heap.size) :
    ∃ (a : Option Addr) (l : List Nat) (cap : Nat), v = .slice a l.length cap ∧ l.length ≤ cap ∧ cap ≤ maxLen ∧ ByAt W a l := by
  obtain ⟨fuel, hf⟩ := hd
  obtain ⟨a, len, cap, rfl⟩ : ∃ a len cap, v = .slice a len cap := by
    simp only [Value.okWide, ht, Cell.okWide] at hok
    cases v <;> simp_all [Cell.ok]
  rcases Deep.open_slice1 ht hc hf with ⟨hcs, -⟩ | ⟨a', len', cap', m, n, V, D, Pl, hcs, -, hl, hm, hmm, hx, hcell⟩
  · simp [Value.cells] at hcs
    obtain ⟨rfl, rfl, rfl⟩ := hcs
    exact ⟨none, [], 0, rfl, Nat.le_refl _, by unfold maxLen; omega, fun k x hx => by simp at hx⟩
  · simp [Value.cells] at hcs
    obtain ⟨rfl, rfl, rfl⟩ := hcs
    simp only [if_true] at hmm
    subst hmm
    have hV : ∀ i, i < m → ∃ b : Nat, V i = .int .u8 (b : Int) ∧ b < 256 := fun i hi => by
      obtain ⟨b, h1, _, h2⟩ := DataW.trod_int he (hcell i hi).2
      have h3 : 0 ≤ b ∧ b ≤ 255 := by simpa [Lit.wf, IntKind.min, IntKind.max, IntKind.signed, IntKind.bits] using h2
      exact ⟨b.toNat, by rw [show ((b.toNat : Nat) : Int) = b by omega]; simpa using h1, by omega⟩
    let B : Nat → Nat := fun i => match V i with | .int _ b => b.toNat | _ => 0
    have hB : ∀ i, i < m → V i = .int .u8 (B i : Int) ∧ B i < 256 := fun i hi => by
      obtain ⟨b, h1, h2⟩ := hV i hi
      have : B i = b := by show (match V i with | .int _ b => b.toNat | _ => 0) = b; rw [h1]; simp
      rw [this]; exact ⟨h1, h2⟩
    refine ⟨some a', (List.range len).map B, m, by simp, by simpa using hl, hm, fun k x hx2 => ?_⟩
    have hk : k < len := by
      rcases Nat.lt_or_ge k len with h | h
      · exact h
      · rw [List.getElem?_eq_none (by simpa using h)] at hx2; cases hx2
    have hx3 : x = B k := by simp [hk] at hx2; exact hx2.symm
    subst hx3
    obtain ⟨b, off, spot⟩ := a'
    have hspot : spot = none := by simpa [Addr.add] using World.cell?_spot (hcell 0 (by omega)).1
    subst hspot
    refine ⟨(hB k (by omega)).2, b, off, rfl, ?_, ?_⟩
    · have hcl := (hcell 0 (by omega)).1
      have := block_lt_of_cell hcl
      simpa [Addr.add] using this
    · have h := (hcell k (by omega)).1
      rw [(hB k (by omega)).1] at h
      rw [Addr.add_lit] at h
      exact h
/-- A slice of bytes that came in, and its reading. -/
theorem open_bysd {W : World} {t e : TypeId} {v : Value} {d : DataW H} {ps : List MemPlace} (ht : P.underlying t = some (.slice e)) (he : P.underlying e = some (.int .u8)) (hc : P.cellsOf e = 1)
    {b0 : Nat} {r : Reach} (hok : Value.okWide P W r b0 t v) (hd : DataW.Trod enc P W 0 (fun _ => true) true t v d ps) (hlt : ∀ x, x ∈ ps → x.block < W.heap.size) :
    ∃ (a : Option Addr) (l : List Nat) (cap : Nat), v = .slice a l.length cap ∧ l.length ≤ cap ∧ cap ≤ maxLen ∧ ByAt W a l ∧ (d = .nil ∧ l = [] ∨ ∃ elems spare, d = .slice elems spare ∧ elems.length = l.length) := by
  obtain ⟨fuel, hf⟩ := hd
  obtain ⟨a, len, cap, rfl⟩ : ∃ a len cap, v = .slice a len cap := by
    simp only [Value.okWide, ht, Cell.okWide] at hok
    cases v <;> simp_all [Cell.ok]
  rcases Deep.open_slice1 ht hc hf with ⟨hcs, hx0⟩ | ⟨a', len', cap', m, n, V, D, Pl, hcs, -, hl, hm, hmm, hx, hcell⟩
  · simp [Value.cells] at hcs
    obtain ⟨rfl, rfl, rfl⟩ := hcs
    exact ⟨none, [], 0, rfl, Nat.le_refl _, by unfold maxLen; omega, fun k x hx => by simp at hx, .inl ⟨by simpa using congrArg Prod.fst hx0, rfl⟩⟩
  · simp [Value.cells] at hcs
    obtain ⟨rfl, rfl, rfl⟩ := hcs
    simp only [if_true] at hmm
    subst hmm
    have hV : ∀ i, i < m → ∃ b : Nat, V i = .int .u8 (b : Int) ∧ b < 256 := fun i hi => by
      obtain ⟨b, h1, _, h2⟩ := DataW.trod_int he (hcell i hi).2
      have h3 : 0 ≤ b ∧ b ≤ 255 := by simpa [Lit.wf, IntKind.min, IntKind.max, IntKind.signed, IntKind.bits] using h2
      exact ⟨b.toNat, by rw [show ((b.toNat : Nat) : Int) = b by omega]; simpa using h1, by omega⟩
    let B : Nat → Nat := fun i => match V i with | .int _ b => b.toNat | _ => 0
    have hB : ∀ i, i < m → V i = .int .u8 (B i : Int) ∧ B i < 256 := fun i hi => by
      obtain ⟨b, h1, h2⟩ := hV i hi
      have : B i = b := by show (match V i with | .int _ b => b.toNat | _ => 0) = b; rw [h1]; simp
      rw [this]; exact ⟨h1, h2⟩
    refine ⟨some a', (List.range len).map B, m, by simp, by simpa using hl, hm, fun k x hx2 => ?_, .inr ⟨_, _, by simpa using congrArg Prod.fst hx, by simp⟩⟩
    have hk : k < len := by
      rcases Nat.lt_or_ge k len with h | h
      · exact h
      · rw [List.getElem?_eq_none (by simpa using h)] at hx2; cases hx2
    have hx3 : x = B k := by simp [hk] at hx2; exact hx2.symm
    subst hx3
    obtain ⟨b, off, spot⟩ := a'
    have hspot : spot = none := by simpa [Addr.add] using World.cell?_spot (hcell 0 (by omega)).1
    subst hspot
    refine ⟨(hB k (by omega)).2, b, off, rfl, ?_, ?_⟩
    · have hcl := (hcell 0 (by omega)).1
      have := block_lt_of_cell hcl
      simpa [Addr.add] using this
    · have h := (hcell k (by omega)).1
      rw [(hB k (by omega)).1] at h
      rw [Addr.add_lit] at h
      exact h
theorem bys_reach {ts : List TypeId} {ds : List (DataW H)} (h : (DataW.weightsEach P ts ds).all (· ≤ reachBytes) = true) {j : Nat} {t e : TypeId} {d : DataW H} {l : List Nat} (ht : ts[j]? = some t) (hd : ds[j]? = some d) (hu : P.underlying t = some (.slice e)) (hb : P.bytesOf e = 1)
    (hdl : d = .nil ∧ l = [] ∨ ∃ elems spare, d = .slice elems spare ∧ elems.length = l.length) : l.length ≤ 140737488351232 := by
  rcases hdl with ⟨-, rfl⟩ | ⟨elems, spare, rfl, hl⟩
  · simp
  · have := sized_slice h ht hd hu
    rw [hb] at this
    simp only [reachBytes] at this
    omega
end

theorem gHalves : Tryd.prog.globalNamed "headrace/page.halves" = some 0 := by kernel_rfl
theorem tHalves : (Tryd.prog.globals[0]?).map (·.type) = some 88 := by kernel_rfl
def laidHalves {H : Type} : List (String × DataW H) := [("headrace/page.halves", Rows.laid_headrace_page_halves)]
theorem door_met (os : Os) (args : Array Value) : laidMetH Tryd.prog laidHalves ((World.doorLaid Tryd.prog 400 os).forCall (fun _ _ => 0) ⟨#[], args, []⟩).memory :=
  laidMetH_of_parts3 (fuel := 8) (laidMet_of_run' 8 (by kernel_rfl) (by kernel_rfl)) (by kernel_rfl) (by kernel_rfl)
theorem laid_parts (i : Nat) (hi : i < 16) : ∃ parts : List (DataW Unit), (Rows.laid_headrace_page_halves : DataW Unit) = .agg parts ∧ parts[i]? = some (.lit (.int .u32 (Pg.half i : Nat))) := by
  refine ⟨_, rfl, ?_⟩
  exact match i, hi with
  | 0, _ => rfl
  | 1, _ => rfl
  | 2, _ => rfl
  | 3, _ => rfl
  | 4, _ => rfl
  | 5, _ => rfl
  | 6, _ => rfl
  | 7, _ => rfl
  | 8, _ => rfl
  | 9, _ => rfl
  | 10, _ => rfl
  | 11, _ => rfl
  | 12, _ => rfl
  | 13, _ => rfl
  | 14, _ => rfl
  | 15, _ => rfl
  | n + 16, h => absurd h (by omega)
/-- What the condition gives the walks: the table's cells. -/
theorem of_laid {W : World} (h : laidMetH Tryd.prog laidHalves W) : HalvesAt W := by
  rw [MakeChecks.laidMetH_plain _ _ _ (by kernel_rfl)] at h
  obtain ⟨ps, ⟨g0, t0, cs0, f0, p0, q0, hg0, ht0, hv0, hd0, _, _⟩, _, _⟩ := h
  obtain rfl := Option.some.inj (gHalves.symm.trans hg0)
  obtain rfl := Option.some.inj (tHalves.symm.trans ht0)
  obtain ⟨xs, m1, rfl, hx1, hlen, hn3, hel⟩ := DataW.trod_array Tryd.underlying88 hd0
  have c3 : Tryd.prog.cellsOf 62 = 1 := by kernel_rfl
  intro i hi
  obtain ⟨parts, hp, hpi⟩ := laid_parts i hi
  rw [hp] at hx1
  simp only [Prod.mk.injEq, DataW.agg.injEq] at hx1
  have hxi : xs[i]? = some (xs[i]'(by omega)) := List.getElem?_eq_getElem (by omega)
  have hi1 := hel i hi
  rw [c3, Nat.mul_one, hxi] at hi1
  obtain ⟨k, e1, e2, _⟩ := DataW.trod_int Tryd.underlying62 hi1
  have hk : k = (Pg.half i : Nat) := by
    rw [hx1.1, List.getElem?_map, hxi] at hpi
    simp only [Option.map_some, Option.some.injEq] at hpi
    rw [e2] at hpi
    simpa using hpi
  subst hk
  have hc := World.var?_cell hg0 hv0 i
  rw [hc, ← Array.getElem?_toList]
  have h2 : (cs0.toList.drop i)[0]? = some (.int .u32 (Pg.half i : Nat)) := by
    have h3 : ((cs0.toList.drop i).take 1)[0]? = some (.int .u32 (Pg.half i : Nat)) := by rw [e1]; rfl
    rw [List.getElem?_take] at h3
    simpa using h3
  rw [List.getElem?_drop] at h2
  simpa using h2
end Go.Proofs.YtpobfgokikfmbaaDoor

set_option linter.unusedSimpArgs false
set_option linter.unusedVariables false
set_option maxRecDepth 8000
namespace Go.Proofs.YtpobfgokikfmbaaDoor
open Go.ChangeShapes Go.WideShapes Go.ChangeAt Go.RowKit
section
variable {H : Type} {enc : TypeId × Value → H} {P : Program}
theorem trod_float' {w : World} {base : Nat} {spare : Nat → Bool} {held : Bool} {fuel : Nat} {cs : List Value} {x : DataW H × List MemPlace} {t : TypeId} (ht : P.underlying t = some (.float .f64)) (h : DataW.trod enc P w base spare held fuel t cs = some x) :
    ∃ b, cs = [.float .f64 b] ∧ (Lit.float .f64 b).wf = true := by
  cases fuel with
  | zero => simp [DataW.trod] at h
  | succ n =>
    unfold DataW.trod at h
    rw [ht] at h
    split at h <;> simp_all
end
section
variable {H : Type} {enc : TypeId × Value → H} {W : World} {base : Nat} {spare : Nat → Bool} {held : Bool}
/-- The cells of an event that came in. -/
theorem ev_cells {fuel : Nat} {cs : List Value} {y : DataW H × List MemPlace} (h : DataW.trod enc Tryd.prog W base spare held fuel 36 cs = some y) : ∃ x : Ev, cs = x.cells ∧ x.val < 18446744073709551616 := by
  obtain ⟨xs, n, -, -, hl, hxl, hg⟩ := DataW.trod_struct Tryd.underlying36 h
  have hC : Tryd.prog.cellsOf 36 = 5 := by kernel_rfl
  have hx5 : xs.length = 5 := hxl
  rw [hC] at hl
  have one : ∀ (i : Nat) (c : Value) (f : Field), cs[i]? = some c → i < 5 → f.offset = i → Tryd.prog.cellsOf f.type = 1 → DataW.trod enc Tryd.prog W base spare held n f.type ((cs.drop f.offset).take (Tryd.prog.cellsOf f.type)) = xs[i]? → ∃ y, DataW.trod enc Tryd.prog W base spare held n f.type [c] = some y := by
    intro i c f hc hi ho hk hf
    rw [ho, hk] at hf
    have e : (cs.drop i).take 1 = [c] := by
      obtain ⟨h1, h2⟩ := List.getElem?_eq_some_iff.1 hc
      rw [List.drop_eq_getElem_cons h1, h2]; rfl
    rw [e, List.getElem?_eq_getElem (by omega)] at hf
    exact ⟨_, hf⟩
  match cs, hl with
  | [c0, c1, c2, c3, c4], _ =>
    obtain ⟨y0, t0⟩ := one 0 c0 _ rfl (by decide) rfl (by kernel_rfl) (hg 0 _ rfl)
    obtain ⟨y1, t1⟩ := one 1 c1 _ rfl (by decide) rfl (by kernel_rfl) (hg 1 _ rfl)
    obtain ⟨y2, t2⟩ := one 2 c2 _ rfl (by decide) rfl (by kernel_rfl) (hg 2 _ rfl)
    obtain ⟨y3, t3⟩ := one 3 c3 _ rfl (by decide) rfl (by kernel_rfl) (hg 3 _ rfl)
    obtain ⟨y4, t4⟩ := one 4 c4 _ rfl (by decide) rfl (by kernel_rfl) (hg 4 _ rfl)
    obtain ⟨n0, e0, -, w0⟩ := DataW.trod_int (k := .u64) Tryd.underlying33 t0
    obtain ⟨n1, e1, -, -⟩ := DataW.trod_int (k := .i64) Tryd.underlying3 t1
    obtain ⟨n2, e2, -, -⟩ := DataW.trod_int (k := .i64) Tryd.underlying2 t2
    obtain ⟨s3, e3, -, -⟩ := DataW.trod_string Tryd.underlying9 t3
    obtain ⟨b4, e4, w4⟩ := trod_float' Tryd.underlying34 t4
    cases e0; cases e1; cases e2; cases e3; cases e4
    have h0 : 0 ≤ n0 := by
      have h : 0 ≤ n0 ∧ n0 ≤ 18446744073709551615 := by simpa [Lit.wf, IntKind.min, IntKind.max, IntKind.signed, IntKind.bits] using w0
      exact h.1
    refine ⟨⟨n0.toNat, n1, n2, s3, b4⟩, ?_, by simpa [Lit.wf] using w4⟩
    unfold Ev.cells
    rw [Int.toNat_of_nonneg h0]
end
section
variable {H : Type} {enc : TypeId × Value → H} {W : World}
theorem open_evs {b0 : Nat} {r : Reach} {v : Value} {d : DataW H} {ps : List MemPlace} (hok : Value.okWide Tryd.prog W r b0 24 v) (hd : DataW.Trod enc Tryd.prog W 0 (fun _ => true) true 24 v d ps) :
    ∃ (a : Option Addr) (l : List Ev) (cap : Nat), v = .slice a l.length cap ∧ l.length ≤ cap ∧ cap ≤ maxLen ∧ (a = none → l.length = 0 ∧ cap = 0) ∧ (∀ x, a = some x → x.spot = none) ∧ (∀ x ∈ l, x.val < 18446744073709551616) ∧ EvAt W a l := by
  have hu := Tryd.underlying24
  have hC : Tryd.prog.cellsOf 36 = 5 := by kernel_rfl
  obtain ⟨fuel, hf⟩ := hd
  obtain ⟨a, len, cap, rfl⟩ := okWide_slice hu hok
  rcases Deep.open_slice hu hf with ⟨hcs, -⟩ | ⟨a', len', cap', m, n, D, Pl, hcs, -, hl, hm, hmm, hx, hcell⟩
  · simp [Value.cells] at hcs
    obtain ⟨rfl, rfl, rfl⟩ := hcs
    exact ⟨none, [], 0, rfl, Nat.le_refl _, by unfold maxLen; omega, fun _ => ⟨rfl, rfl⟩, fun x hx => (by cases hx), fun x hx => (by cases hx), fun k x hx => by simp [evs] at hx⟩
  · simp [Value.cells] at hcs
    obtain ⟨rfl, rfl, rfl⟩ := hcs
    simp only [if_true] at hmm
    subst hmm
    have hspot : a'.spot = none := by
      simp only [Value.okWide, hu, Cell.okWide, Cell.ok] at hok
      exact hok.2.2.2.1
    obtain ⟨g, off, s⟩ := a'
    obtain rfl : s = none := hspot
    have hE : ∀ i, i < m → ∃ x : Ev, W.cells? 0 ((⟨g, off, none⟩ : Addr).add (i * 5)) 5 = some x.cells ∧ x.val < 18446744073709551616 := fun i hi => by
      obtain ⟨cs', h1, h2⟩ := hcell i hi
      rw [hC] at h1
      obtain ⟨x, rfl, hx⟩ := ev_cells h2
      exact ⟨x, h1, hx⟩
    obtain ⟨E, hE⟩ := Deep.choose_lt (α := Ev) (p := fun i x => W.cells? 0 ((⟨g, off, none⟩ : Addr).add (i * 5)) 5 = some x.cells ∧ x.val < 18446744073709551616) hE
    refine ⟨some ⟨g, off, none⟩, (List.range len).map E, m, by simp, by simpa using hl, hm, fun h => (by cases h), fun x hx => (by cases hx; rfl), fun x hx => ?_, fun k v hv => ?_⟩
    · obtain ⟨i, hi, rfl⟩ := List.mem_map.1 hx
      exact (hE i (by have := List.mem_range.1 hi; omega)).2
    · have hk : k < len * 5 := by
        have := (List.getElem?_eq_some_iff.1 hv).1
        rw [evs_length] at this; simpa using this
      have e := evs_get ((List.range len).map E) (k / 5) (k % 5) (by omega)
      rw [show k / 5 * 5 + k % 5 = k by omega, hv, List.getElem?_map, List.getElem?_range (by omega)] at e
      obtain ⟨h0, h1, h2⟩ := World.cells?_some (hE (k / 5) (by omega)).1
      have hg := World.cells?_block (hE (k / 5) (by omega)).1 (by decide)
      rw [Addr.add_lit] at hg
      refine ⟨g, off, rfl, hg, ?_⟩
      have h3 := h2 (k % 5) (by omega)
      rw [Addr.add_lit, Addr.add_lit, Nat.add_assoc, show k / 5 * 5 + k % 5 = k by omega] at h3
      rw [h3]; exact e.symm
end
end Go.Proofs.YtpobfgokikfmbaaDoor
