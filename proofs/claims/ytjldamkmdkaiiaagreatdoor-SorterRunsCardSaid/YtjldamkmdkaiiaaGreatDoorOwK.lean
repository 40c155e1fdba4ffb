/-
  Layer sorter: begin: the first runs; single operations of its drawn regions.
-/
import Derived.Test.YtjldamkmdkaiiaaGreatDoorOqK
import Derived.Shelf.Strings.Prefix
import Derived.RangeFuncFrom
import Derived.OrdersIn
import Derived.Sort.CutIn
set_option linter.unusedSimpArgs false
set_option linter.unusedVariables false
set_option maxRecDepth 8000
namespace Go.Proofs.YtjldamkmdkaiiaaGreatDoor
open Go.RowKit Go.WideShapes Col Go.Sort
def ckN (Z n : Nat) : Nat := (n + Z - 1) / Z
theorem ckN_iff {Z n : Nat} (hZ : 2 ≤ Z) (k : Nat) : Z * k < n ↔ k < ckN Z n := by
 unfold ckN
 rw [Nat.lt_div_iff_mul_lt (by omega), Nat.mul_comm]
 omega
theorem ckN_half {Z n : Nat} (hZ : 2 ≤ Z) : 2 * ckN Z n ≤ n + 1 := by
 have h := ckN_iff (n := n) hZ (ckN Z n - 1)
 by_cases h0 : ckN Z n = 0
 ·omega
 ·have h1 := h.2 (by omega)
  have h2 : 2 * (ckN Z n - 1) ≤ Z * (ckN Z n - 1) := Nat.mul_le_mul_right _ hZ
  omega
theorem ckN_pos {Z n : Nat} (hZ : 2 ≤ Z) (h : 0 < n) : 0 < ckN Z n := (ckN_iff hZ 0).1 (by simpa using h)
def itP (Z : Nat) (ps : List (Nat × List Ev)) (k : Nat) : Nat → List (Nat × List Ev) × Nat
 | 0 => (ps, k)
 | j + 1 => pst Z (itP Z ps k j).1 (itP Z ps k j).2 (ckN Z (itP Z ps k j).1.length)
section
variable {TT : Nat} {dgs : Nat → ByteArray} {W : Bs} {w : World} {g : Nat} {room : Int} {b nb bb Z : Nat} {parts : Int}
structure SortI (TT : Nat) (dgs : Nat → ByteArray) (base w : World) (g : Nat) (room : Int) (b : Nat) (parts : Int) (nb bb : Nat) (n0 K0 : Nat) (ops0 : Int) (j : Nat) (wr : World) (ps : List (Nat × List Ev)) (k : Nat) (xs : List Fil) (ops : Int) (gn cap : Nat) : Prop where
 rs : RS TT dgs parts nb bb xs ps k
 sa : SA ⟨base, wr⟩ g room false 0 ops xs wr
 hrow : RunsAt9 wr b g parts (some ⟨gn, 0, none⟩) ps.length cap k
 nm : NmAt wr gn 0 (nmP dgs ps)
 hne : gn ≠ b
 hcap : ps.length ≤ cap ∧ cap ≤ maxLen
 kx : KX b w wr
 hnum : 0 < ps.length ∧ k + 2 * ps.length ≤ K0 ∧ j + ps.length ≤ n0
 hops : 0 ≤ ops ∧ ops ≤ ops0 + 6000 * j
structure SortG (TT : Nat) (dgs : Nat → ByteArray) (base w : World) (g : Nat) (room : Int) (b nb bb Z n0 K0 : Nat) (ops0 : Int) : Prop where
 nmr : Namer dgs
 hz : 2 ≤ Z ∧ Z ≤ 16
 hg : TabsAt base
 hgg : base.heap.size ≤ g
 hbb : base.heap.size ≤ b
 hbl : b < w.heap.size
 hnb : nb < 100
 hroom : room ≤ 16777216
 hfit : ((bb + 700 * TT : Nat) : Int) ≤ room
 hn0 : n0 ≤ 320
 hK0 : K0 < 998
 hops : 0 ≤ ops0 ∧ ops0 < 700000000
theorem SortI.pass {n0 K0 : Nat} {ops0 : Int} {j : Nat} {wr : World} {ps : List (Nat × List Ev)} {k : Nat} {xs : List Fil} {ops : Int} {gn cap : Nat} (hG : SortG TT dgs W.b w g room b nb bb Z n0 K0 ops0) (h : SortI TT dgs W.b w g room b parts nb bb n0 K0 ops0 j wr ps k xs ops gn cap) (h2 : 2 ≤ ps.length) :
  Calls Tryz.prog 46 #[.pointer (some ⟨b, 0, none⟩), .int .i64 (Z : Int)] wr fun e w' => e = .returned (.int .i64 0) ∧ ∃ xs' ops' gn' cap', SortI TT dgs W.b w g room b parts nb bb n0 K0 ops0 (j + 1) w' (pst Z ps k (ckN Z ps.length)).1 (pst Z ps k (ckN Z ps.length)).2 xs' ops' gn' cap' := by
 have hz := hG.hz
 have hhalf := ckN_half (n := ps.length) hz.1
 have hpos := ckN_pos (n := ps.length) hz.1 (by omega)
 have hnum := h.hnum
 have hops := h.hops
 have hGo := hG.hops
 have hcnt := h.rs.count
 have hn0 := hG.hn0
 have hK0 := hG.hK0
 obtain ⟨cur, t, fr, q1, q2, q3⟩ := h.nm
 have hgl : gn < wr.heap.size := (Array.getElem?_eq_some_iff.1 q1).1
 have hPG : PassG TT dgs W.b wr g room b gn ps.length nb bb Z ps (ckN Z ps.length) k ops wr.heap.size := ⟨hG.nmr, ⟨h.sa.below.gb.size, Nat.le_refl _, hG.hbb, Nat.lt_of_lt_of_le hG.hbl h.kx.size, h.hne, hgl⟩, rfl, by omega, hz, ckN_iff hz.1, h.rs.lt, by omega, ⟨hops.1, by omega⟩, hG.hg, hG.hgg, hG.hnb, hG.hroom, hG.hfit⟩
 refine (pass_any (W := ⟨W.b, wr⟩) hPG h.rs h.sa h.hrow ⟨cur, t, fr, q1, q2, q3⟩ h.hcap.1 h.hcap.2).mono ?_
 rintro e w' ⟨rfl, xs', ops', gn', cap', hrs, hsa, hop, hrow, hnm, hgn, hc1, hc2, hkx⟩
 have hle := pst_le Z ps k (ckN Z ps.length)
 have hln := pst_len Z ps k (ckN Z ps.length)
 have hbl := hG.hbl
 have hkxs := h.kx.size
 exact ⟨rfl, xs', ops', gn', cap', hrs, hsa, by rw [hln]; exact hrow, hnm, by omega, by rw [hln]; exact ⟨hc1, hc2⟩, h.kx.trans hkx, by rw [hln]; omega, by constructor; exact hop.1; omega⟩
end
theorem results_tmp4O {fn : Func} {t u v x : Tmp} (h : fn.results = #[.tmp t, .tmp u, .tmp v, .tmp x]) (tmps : Array Value) (P : Program) (w : World) :
  (results fn tmps).run P w = .ok (.tuple #[tmps.getD t undef, tmps.getD u undef, tmps.getD v undef, tmps.getD x undef]) w := by simp [results, h]
section
variable {TT : Nat} {dgs : Nat → ByteArray} {W : Bs} {w : World} {g : Nat} {room : Int} {b nb bb Z : Nat} {parts : Int}
theorem SortG.more {w' : World} {n0 K0 : Nat} {ops0 : Int} (h : SortG TT dgs W.b w g room b nb bb Z n0 K0 ops0) (hs : w.heap.size ≤ w'.heap.size) : SortG TT dgs W.b w' g room b nb bb Z n0 K0 ops0 :=
 ⟨h.nmr, h.hz, h.hg, h.hgg, h.hbb, Nat.lt_of_lt_of_le h.hbl hs, h.hnb, h.hroom, h.hfit, h.hn0, h.hK0, h.hops⟩
def SortEnd (dgs : Nat → ByteArray) (base w : World) (g : Nat) (room : Int) (b nb Z : Nat) (PS0 : List (Nat × List Ev)) (K1 : Nat) (ops0 : Int) (e : Ending) (w' : World) : Prop :=
 ∃ J i l L c, (itP Z PS0 K1 J).1 = [(i, l)] ∧ e = .returned (.tuple #[.slice L l.length c, .int .i64 (PS0.length : Nat), .int .i64 (J : Nat), .int .i64 0]) ∧ (∀ j, j < J → 2 ≤ (itP Z PS0 K1 j).1.length) ∧ l.length ≤ c ∧ c ≤ maxLen ∧ OwnE w' w.heap.size L l.length c (l.map canE) ∧ KX b w w' ∧ ∃ xs ops, SA ⟨base, w'⟩ g room false 0 ops xs w' ∧ xs.length = nb ∧ (0 ≤ ops ∧ ops ≤ ops0 + 1921000) ∧ Ordered ltM (l.map canE)
set_option maxHeartbeats 8000000 in
theorem sort_walk (A : Option Addr) (n c : Nat) (hold : Nat) (n0 K0 : Nat) (ops0 : Int) (PS0 : List (Nat × List Ev)) (K1 : Nat) (hG : Hid (SortG TT dgs W.b w g room b nb bb Z n0 K0 ops0)) (hn0 : n0 = PS0.length)
  (HBG : Hid (∀ w1, Below w.heap.size w w1 → Calls Tryz.prog 45 #[.pointer (some ⟨b, 0, none⟩), .slice A n c, .int .i64 (hold : Int)] w1 fun e w2 => e = .returned (.int .i64 0) ∧ KX b w1 w2 ∧ ∃ xs ops gn cap, SortI TT dgs W.b w2 g room b parts nb bb n0 K0 ops0 0 w2 PS0 K1 xs ops gn cap)) :
  Calls Tryz.prog 30 #[.pointer (some ⟨b, 0, none⟩), .slice A n c, .agg #[.int .i64 (hold : Int), .int .i64 (Z : Int)]] w (SortEnd dgs W.b w g room b nb Z PS0 K1 ops0) := by
 have hbl := hG.out.hbl
 have HBL := Lib.hid hbl
 clear hbl
 obtain ⟨pb, hpb⟩ : ∃ pb, pb = w.heap.size := ⟨_, rfl⟩
 have HPB := Lib.hid hpb
 have hb1 := (Below.refl w.heap.size w).alloc (Nat.le_refl _) (.cells #[.int .i64 (hold : Int), .int .i64 (Z : Int)] 26)
 have HB1 := Lib.hid hb1
 have HBG1 := Lib.hid (HBG.out _ hb1)
 have hrp : (w.alloc (.cells #[.int .i64 (hold : Int), .int .i64 (Z : Int)] 26)).heap[w.heap.size]? = some (.cells #[.int .i64 (hold : Int), .int .i64 (Z : Int)] 26 (0, 0)) := heap_alloc_new' _ _
 have HRP := Lib.hid hrp
 clear hb1 hpb hrp
 go_enter Tryz.func30, Tryz.ntmps30
 go_wp2_with (go_at_call 45; (with_reducible refine HBG1.out.mono ?_); rintro e w2 ⟨rfl, h1, xs, ops, gn, cap, h2⟩; have HK2 := Lib.hid h1; have HI2 := Lib.hid h2; have cb2 : w2.cell? ⟨b, 2, none⟩ = some (.slice (some ⟨gn, 0, none⟩) PS0.length cap) := (by rw [cell_of_row _ _ _ _ _ _ h2.hrow]; rfl); clear h1 h2)
 have hrp2 : w2.heap[w.heap.size]? = some (.cells #[.int .i64 (hold : Int), .int .i64 (Z : Int)] 26 (0, 0)) := HK2.out.row (by have := HBL.out; omega) HRP.out (not_st (by decide) (by decide) (by decide))
 have HRP2 := Lib.hid hrp2
 have HG2 : Hid (SortG TT dgs W.b w2 g room b nb bb Z n0 K0 ops0) := Lib.hid (hG.out.more (Nat.le_trans HB1.out.size HK2.out.size))
 have HKW : Hid (KX b w w2) := Lib.hid ((KX.of_kf (KF.of_below HB1.out)).trans HK2.out)
 have HSZ : Hid (w.heap.size < w2.heap.size) := Lib.hid (Array.getElem?_eq_some_iff.1 hrp2).1
 have HN0 := Lib.hid hn0
 have hps0 : 0 < PS0.length := HI2.out.hnum.1
 have HPS := Lib.hid hps0
 clear hrp2 cb2 HBG HBG1 HRP hn0 hps0
 go_loopw [12] (fun y wr => ∃ (j : Nat) (ps : List (Nat × List Ev)) (k : Nat) (xs : List Fil) (ops : Int) (gn cap : Nat), y = .int .i64 (j : Int) ∧ Hid (SortI TT dgs W.b w2 g room b parts nb bb n0 K0 ops0 j wr ps k xs ops gn cap) ∧ Hid ((ps, k) = itP Z PS0 K1 j ∧ ∀ i, i < j → 2 ≤ (itP Z PS0 K1 i).1.length)) (fun y _ => n0 - (intOf y).toNat)
 case atStart => exact ⟨0, PS0, K1, xs, ops, gn, cap, rfl, HI2, Lib.hid ⟨rfl, fun i hi => absurd hi (by omega)⟩⟩
 case round =>
  obtain ⟨j, ps, k, xs, ops, gn, cap, rfl, HI, HIT⟩ := hrel
  have cb : wr.cell? ⟨b, 2, none⟩ = some (.slice (some ⟨gn, 0, none⟩) ps.length cap) := by rw [cell_of_row _ _ _ _ _ _ HI.out.hrow]; rfl
  have hrp : wr.heap[w.heap.size]? = some (.cells #[.int .i64 (hold : Int), .int .i64 (Z : Int)] 26 (0, 0)) := HI.out.kx.row (by have := HBL.out; omega) HRP2.out (not_st (by decide) (by decide) (by decide))
  have cp1 : wr.cell? ⟨w.heap.size, 1, none⟩ = some (.int .i64 (Z : Int)) := by rw [cell_of_row _ _ _ _ _ _ hrp]; rfl
  clear hrp
  obtain ⟨len, hlen⟩ : ∃ len, len = ps.length := ⟨_, rfl⟩
  rw [← hlen] at cb
  have HLEN := Lib.hid hlen
  have HNM := Lib.hid HI.out.hnum
  clear hlen
  have hj9 : j < 1000 := by have := HNM.out; have := HG2.out.hn0; omega
  have hlz : len ≤ 1000 := by have := HNM.out; have := HG2.out.hn0; have := HLEN.out; omega
  by_cases h2 : 2 ≤ len
  ·have h1i : (1 : Int) < (len : Int) := by omega
   have HP := Lib.hid (HI.out.pass HG2.out (by rw [← HLEN.out]; exact h2))
   go_wp2_with (go_at_call 46; (with_reducible refine HP.out.mono ?_); rintro e w4 ⟨rfl, xs', ops', gn', cap', h1⟩; have HI4 := Lib.hid h1; clear h1)
   go_roundw
   case rel =>
    refine ⟨j + 1, _, _, xs', ops', gn', cap', by go_num, HI4, Lib.hid ⟨?_, fun i hi => ?_⟩⟩
    ·show _ = pst Z (itP Z PS0 K1 j).1 (itP Z PS0 K1 j).2 (ckN Z (itP Z PS0 K1 j).1.length)
     rw [← HIT.out.1]
    ·rcases Nat.lt_or_ge i j with h9 | h9
     ·exact HIT.out.2 i h9
     ·have : i = j := by omega
      subst this
      rw [← HIT.out.1]; show 2 ≤ ps.length; rw [← HLEN.out]; exact h2
   case measure => have := HNM.out; have := HLEN.out; simp [intOf]; omega
  ·have h1i : ¬ (1 : Int) < (len : Int) := by omega
   have hf0 : ¬ (PS0.length : Int) = 0 := by have := HPS.out; omega
   obtain ⟨⟨i, l⟩, hps⟩ : ∃ p, ps = [p] := by
    rcases ps with _ | ⟨p, _ | ⟨q, r⟩⟩
    ·have := HNM.out.1; simp at this
    ·exact ⟨p, rfl⟩
    ·have := HLEN.out; simp at this; omega
   subst hps
   have hcn := HI.out.nm.cell (j := 0) (s := rn dgs i) rfl
   rw [Nat.add_zero] at hcn
   have hrun := HI.out.rs.run (i, l) (List.mem_singleton.2 rfl)
   have hgood := HI.out.rs.good (i, l) (List.mem_singleton.2 rfl)
   have htot := HI.out.rs.tot
   have hl6 : l.length ≤ 320 := by
    have h9 : (evP [(i, l)]).flatten.length = l.length := by simp [evP]
    omega
   obtain ⟨lo, x, hTh, hxl⟩ := hrun.there HI.out.rs.rises
   have hxs : xs.length ≤ 1000 := by have h1 := HI.out.rs.num; have h3 := HG2.out.hnb; simp at h1; omega
   have hwb : (⟨W.b, wr⟩ : Bs).heap.size ≤ g := HG2.out.hgg
   have HTA := Lib.hid (take_any (W := ⟨W.b, wr⟩) (g := g) (room := room) (xs := xs) (ops := ops) b parts (some ⟨gn, 0, none⟩) [((i, l) : Nat × List Ev)].length cap k l hgood.pos hl6 (Lib.hid hgood.fine) (Lib.hid hgood.form) hxs lo x wr (Lib.hid HI.out.sa) (Lib.hid hTh) (Lib.hid hxl) (Lib.hid (by have h1 := HI.out.hops; have h3 := HG2.out.hops; omega)) (Lib.hid HI.out.hrow) (Lib.hid HG2.out.hg) hwb)
   have hlen1 : len = 1 := HLEN.out
   have HORD := Lib.hid hgood.ord
   have HNB : Hid ((xs.eraseIdx lo).length = nb) := Lib.hid (by rw [List.length_eraseIdx_of_lt hTh.lt]; have h9 := HI.out.rs.num; simp at h9; omega)
   clear hrun hgood htot hTh hxl
   subst hlen1
   go_wp2_with (go_at_call 47; (with_reducible refine HTA.out.mono ?_); rintro e w4 ⟨L, m, c4, rfl, h1, h3, h4, h5, h6, h7⟩; have HM := Lib.hid h1; have HC4 := Lib.hid (And.intro h3 h4); have HO4 := Lib.hid h5; have HK4 := Lib.hid h6; have HS4 := Lib.hid h7; clear h1 h3 h4 h5 h6 h7)
   refine bodyPost_ret (results_tmp4O rfl _ _ _) rfl ?_
   refine ⟨j, i, l, L, c4, by rw [← HIT.out.1], by rw [← HM.out]; rfl, HIT.out.2, by rw [← HM.out]; exact HC4.out.1, HC4.out.2, by rw [← HM.out]; exact HO4.out.less (by have := HI.out.kx.size; have := HSZ.out; omega), HKW.out.trans (HI.out.kx.trans (KX.of_kf HK4.out)), _, _, HS4.out.now, HNB.out, by have h1 := HG2.out.hops; have h2 := HI.out.hops; have h3 := HI.out.hnum; have h4 := HG2.out.hn0; omega, HORD.out⟩
end
def planB (hold fan : Int) : Bool := decide (1 ≤ hold) && decide (hold ≤ 4096) && decide (2 ≤ fan) && decide (fan ≤ 16)
set_option maxHeartbeats 4000000 in
theorem planForm_any (hold fan : Int) (w : World) : Calls Tryz.prog 21 #[.agg #[.int .i64 hold, .int .i64 fan]] w fun e w' => e = .returned (.bool (planB hold fan)) ∧ Below w.heap.size w w' := by
 obtain ⟨r, hr⟩ : ∃ r, r = planB hold fan := ⟨_, rfl⟩
 have HR := Lib.hid hr
 rw [← hr]
 clear hr
 go_enter Tryz.func21, Tryz.ntmps21
 go_wp2
 all_goals
  go_ret
  refine ⟨?_, (Below.refl _ _).alloc (Nat.le_refl _) _⟩
  rw [HR.out]; unfold planB
  simp_all <;> omega
section
variable {W : Bs} {g : Nat} {room ops : Int}
set_option maxHeartbeats 4000000 in
theorem refuses_fine (a : Option Addr) (n c : Nat) (l : List Ev) (hn : Hid (n = l.length)) (hn9 : n ≤ 1100) (parts hold fan : Int) (hp : Hid (1 ≤ parts ∧ parts ≤ 8)) (hpl : planB hold fan = true) (hall : Hid (∀ x ∈ l, formB x parts = true)) (W : World) (HE : Hid (EvAt W a l)) :
  Calls Tryz.prog 29 #[.slice a n c, .int .i64 parts, .agg #[.int .i64 hold, .int .i64 fan]] W fun e w' => e = .returned (.int .i64 0) ∧ Below W.heap.size W w' := by
 have hp1 : ¬ parts < 1 := by have := hp.out; omega
 have hp8 : ¬ 8 < parts := by have := hp.out; omega
 have HPF : Hid (∀ w, Calls Tryz.prog 21 #[.agg #[.int .i64 hold, .int .i64 fan]] w fun e w' => e = .returned (.bool true) ∧ Below w.heap.size w w') := Lib.hid fun w => by have h := planForm_any hold fan w; rwa [hpl] at h
 clear hpl
 go_enter Tryz.func29, Tryz.ntmps29
 go_wp2_with (go_at_call 21; (with_reducible refine (HPF.out _).mono ?_); rintro e w2 ⟨rfl, h1⟩; have HB2 := Lib.hid (((Below.refl _ W).alloc (Nat.le_refl _) (.cells #[.int .i64 hold, .int .i64 fan] 26)).trans (h1.mono (by simp))); clear h1)
 go_loopw [22] (fun i wr => ∃ k : Nat, k ≤ n ∧ i = .int .i64 (k : Int) ∧ Hid (Below W.heap.size W wr)) (fun i _ => n - (intOf i).toNat)
 case atStart => exact ⟨0, by omega, rfl, HB2⟩
 case round =>
  obtain ⟨k, hk, rfl, HB⟩ := hrel
  by_cases hlt : k < n
  ·obtain ⟨x, hx⟩ : ∃ x, l[k]? = some x := ⟨l[k]'(by have := hn.out; omega), List.getElem?_eq_getElem _⟩
   obtain ⟨gq, off, rfl, hg, hr⟩ := evr (HE.out.keep HB.out) k x hx
   have HX := Lib.hid hr
   have HR0 : Hid ((wr.alloc (.cells #[.int .u64 (x.off : Int), .int .i64 x.part, .int .i64 x.time, .string x.key, .float .f64 x.val] 51)).heap[wr.heap.size]? = some (.cells #[.int .u64 (x.off : Int), .int .i64 x.part, .int .i64 x.time, .string x.key, .float .f64 x.val] 51 (0, 0))) := Lib.hid (heap_alloc_new' wr _)
   have HB0 : Hid (Below W.heap.size W (wr.alloc (.cells #[.int .u64 (x.off : Int), .int .i64 x.part, .int .i64 x.time, .string x.key, .float .f64 x.val] 51))) := Lib.hid (HB.out.alloc HB.out.size _)
   have HFM : Hid (formB x parts = true) := Lib.hid (hall.out x (List.mem_of_getElem? hx))
   have hlti : (k : Int) < (n : Int) := by omega
   clear hr hg hx
   go_wp2_with (first
    | (refine wpList_load_mid rfl 51 (.tmp 24) rfl gq (off + k * 5) rfl [.int .u64 (x.off : Int), .int .i64 x.part, .int .i64 x.time, .string x.key, .float .f64 x.val] _ HX.out uEvent rfl (iEvent x) ?_)
    | (refine wpList_store_row rfl 51 (.tmp 8) (.tmp 25) rfl wr.heap.size #[.int .u64 (x.off : Int), .int .i64 x.part, .int .i64 x.time, .string x.key, .float .f64 x.val] rfl rfl _ _ (heap_alloc_new' _ _) (iEvA x) (sizeEvB x) (oneEvA x) ?_; rw [World.setRow_alloc_new])
    | (refine wpList_load_row rfl 51 (.tmp 8) rfl wr.heap.size rfl _ #[.int .u64 (x.off : Int), .int .i64 x.part, .int .i64 x.time, .string x.key, .float .f64 x.val] (0, 0) _ HR0.out uEvent rfl (iEvA x) ?_)
    | (go_at_call 44; (with_reducible refine (form_any x parts _).mono ?_); rintro e w4 ⟨rfl, hb⟩; rw [HFM.out]; have HB4 := Lib.hid (below_to HB0.out hb); clear hb))
   go_roundw
   case rel => exact ⟨k + 1, by omega, by go_num, HB4⟩
   case measure => simp [intOf]; omega
  ·have hge : ¬ (k : Int) < (n : Int) := by omega
   go_wp2
   go_ret
   exact ⟨rfl, HB.out⟩
end
def hpfLays_ren : Go.Shelf.Ren := ⟨fun | 99 => 35 | 206 => 49 | n => n, fun | 9 => 9 | 4 => 4 | 3 => 3 | n => n, fun n => n⟩
theorem hpfLays : Go.Proofs.Lays.n99 Tryz.prog hpfLays_ren := {
 mixed := by kernel_rfl
 f99 := Tryz.func35.trans (congrArg some (by kernel_rfl))
 f206 := Tryz.func49.trans (congrArg some (by kernel_rfl))
 t3 := Tryz.underlying3
 a3 := Tryz.isAgg3
 z3 := Tryz.sizeOf3
 v3 := Tryz.zeroValue3
 t4 := Tryz.underlying4
 a4 := Tryz.isAgg4
 z4 := Tryz.sizeOf4
 v4 := Tryz.zeroValue4
 t9 := Tryz.underlying9
 a9 := Tryz.isAgg9
 z9 := Tryz.sizeOf9
 v9 := Tryz.zeroValue9 }
theorem hasPrefix_any (s p : ByteArray) (w : World) : Calls Tryz.prog 35 #[.string s, .string p] w fun e w' => e = .returned (.bool (Lib.hasPrefix s.data.toList p.data.toList)) ∧ w' = w := by
 have h := Any.strings_HasPrefix hpfLays s p w
 change Calls Tryz.prog 35 _ _ _ at h
 exact h
def runT (s : ByteArray) : Bool := Lib.hasPrefix s.data.toList ({ data := #[114, 117, 110, 46] } : ByteArray).data.toList
theorem Rises.sub {xs ys : List Fil} (h : Rises xs) (hs : ys.Sublist xs) : Rises ys := by
 have h1 : xs.Pairwise fun a b => cmpKF a.name b.name < 0 := List.pairwise_iff_getElem.2 fun i j hi hj hij => h i j _ _ hij (List.getElem?_eq_getElem hi) (List.getElem?_eq_getElem hj)
 have h2 := h1.sublist hs
 intro j k x y hjk hx hy
 obtain ⟨hj, rfl⟩ := List.getElem?_eq_some_iff.1 hx
 obtain ⟨hk, rfl⟩ := List.getElem?_eq_some_iff.1 hy
 exact List.pairwise_iff_getElem.1 h2 j k hj hk hjk
def clP (xs : List Fil) (k : Nat) : List Fil := (xs.take k).filter (fun x => !runT x.name) ++ xs.drop k
theorem clP_0 (xs : List Fil) : clP xs 0 = xs := by unfold clP; rw [List.take_zero, List.drop_zero]; rfl
theorem clP_n (xs : List Fil) : clP xs xs.length = xs.filter fun x => !runT x.name := by unfold clP; rw [List.take_length, List.drop_length, List.append_nil]
theorem clP_sub (xs : List Fil) (k : Nat) : (clP xs k).Sublist xs := by
 have h := (List.filter_sublist (p := fun x : Fil => !runT x.name) (l := xs.take k)).append (List.Sublist.refl (xs.drop k))
 rwa [List.take_append_drop] at h
theorem clP_no {xs : List Fil} {k : Nat} {x : Fil} (hx : xs[k]? = some x) (hp : runT x.name = false) : clP xs (k + 1) = clP xs k := by
 obtain ⟨hk, hx'⟩ := List.getElem?_eq_some_iff.1 hx
 unfold clP
 rw [List.take_add_one, hx, List.filter_append, List.drop_eq_getElem_cons hk, hx']
 simp [hp]
theorem clP_yes {xs : List Fil} {k : Nat} {x : Fil} (hx : xs[k]? = some x) (hp : runT x.name = true) : ∃ lo, (clP xs k)[lo]? = some x ∧ (clP xs k).eraseIdx lo = clP xs (k + 1) := by
 obtain ⟨hk, hx'⟩ := List.getElem?_eq_some_iff.1 hx
 refine ⟨((xs.take k).filter fun x => !runT x.name).length, ?_, ?_⟩
 ·unfold clP
  rw [List.getElem?_append_right (Nat.le_refl _), Nat.sub_self, List.getElem?_drop, Nat.add_zero, hx]
 ·unfold clP
  rw [List.eraseIdx_append_of_length_le (Nat.le_refl _), Nat.sub_self, List.drop_eq_getElem_cons hk, List.eraseIdx_cons_zero, List.take_add_one, hx, List.filter_append]
  simp [hp]
section
variable {W : Bs} {g : Nat} {room ops : Int} {xs : List Fil}
set_option maxHeartbeats 8000000 in
theorem clean_any (hr : Rises xs) (hf : ∀ x ∈ xs, x.name.size ≤ 2000 ∧ formK x.name = true) (hn : xs.length ≤ 1000) (w : World) (hs : SA W g room false 0 ops xs w) (h : 0 ≤ ops ∧ ops < 900000000) :
  Calls Tryz.prog 23 #[.pointer (some ⟨g, 0, none⟩)] w fun e w' => e = .returned (.int .i64 0) ∧ KF w w' ∧ ∃ ops', (0 ≤ ops' ∧ ops' ≤ ops + xs.length) ∧ SA ⟨W.b, w'⟩ g room false 0 ops' (xs.filter fun x => !runT x.name) w' := by
 have HL := Lib.hid (list_A hn w (Lib.hid hs))
 obtain ⟨n, hnn⟩ : ∃ n, n = xs.length := ⟨_, rfl⟩
 have HN := Lib.hid hnn
 rw [← hnn] at HL hn
 have HS := Lib.hid hs; have HOP := Lib.hid h; have HR := Lib.hid hr; have HF := Lib.hid hf
 clear hs h hr hf hnn
 go_enter Tryz.func23, Tryz.ntmps23
 go_wp2_with (go_at_call 17; (with_reducible refine HL.out.mono ?_); rintro e w2 ⟨b2, rfl, h1, ⟨cur, h2⟩, h3⟩; have HST := Lib.hid h1; have HRW := Lib.hid h2; have HB2 := Lib.hid h3; clear h1 h2 h3)
 have HNM : Hid (NmAt w2 b2 0 (xs.map (·.name))) := Lib.hid ⟨cur, _, _, HRW.out, not_st (by decide) (by decide) (by decide), fun j s hj => by
  obtain ⟨b, off, e, hb, hc⟩ := HST.out j s hj
  injection e with e; injection e with e1 e2 e3
  subst e1; subst e2
  rw [cell_of_row _ _ _ _ _ _ HRW.out] at hc; exact hc⟩
 clear HST HRW
 go_loopw [11] (fun i wr => ∃ (k : Nat) (o : Int), k ≤ n ∧ i = .int .i64 (k : Int) ∧ Hid (SA W g room false 0 o (clP xs k) wr) ∧ Hid (0 ≤ o ∧ o ≤ ops + k) ∧ Hid (KF w wr) ∧ Hid (NmAt wr b2 0 (xs.map (·.name)))) (fun i _ => n - (intOf i).toNat)
 case atStart => exact ⟨0, ops, by omega, rfl, Lib.hid (by rw [clP_0]; exact HS.out.next HB2.out), Lib.hid ⟨HOP.out.1, by simp⟩, Lib.hid (KF.of_below HB2.out), HNM⟩
 case round =>
  obtain ⟨k, o, hk, rfl, HSR, HO, HK, HNR⟩ := hrel
  by_cases hlt : k < n
  ·obtain ⟨x, hx⟩ : ∃ x, xs[k]? = some x := ⟨xs[k]'(by have := HN.out; omega), List.getElem?_eq_getElem _⟩
   have hc := HNR.out.cell (j := k) (s := x.name) (by rw [List.getElem?_map, hx]; rfl)
   rw [Nat.zero_add] at hc
   have HX := Lib.hid hx
   have hlti : (k : Int) < (n : Int) := by omega
   obtain ⟨t, ht⟩ : ∃ t, t = x.name := ⟨_, rfl⟩
   rw [← ht] at hc
   have HT := Lib.hid ht
   clear hx ht
   by_cases hp : runT x.name = true
   ·obtain ⟨lo, hlo, her⟩ := clP_yes HX.out hp
    have hfx := HF.out x (List.mem_of_getElem? HX.out)
    have hthere : There (clP xs k) t lo x := (HR.out.sub (clP_sub xs k)).there hlo HT.out.symm (by rw [HT.out]; omega) (by rw [HT.out]; exact hfx.2)
    have hlen : (clP xs k).length ≤ 1000 := by have := (clP_sub xs k).length_le; have := HN.out; omega
    have HD := Lib.hid (delete_K (armed' := 0) hlen lo x wr HSR (Lib.hid hthere) (Lib.hid ⟨.inl ⟨rfl, rfl, rfl, rfl⟩⟩) (Lib.hid ⟨HO.out.1, by have := HO.out.2; have := HOP.out.2; omega⟩) (Lib.hid (by omega)))
    rw [her] at HD
    have HHP : Hid (Calls Tryz.prog 35 #[.string t, .string { data := #[114, 117, 110, 46] }] wr fun e w' => e = .returned (.bool true) ∧ w' = wr) := Lib.hid (by
     have h := hasPrefix_any t { data := #[114, 117, 110, 46] } wr
     unfold runT at hp
     rw [← HT.out] at hp
     rw [hp] at h; exact h)
    clear hlo her hfx hthere hlen hp
    go_wp2_with (first
     | (go_at_call 35; (with_reducible refine HHP.out.mono ?_); rintro e w4 ⟨rfl, rfl⟩)
     | (go_at_call 36; (with_reducible refine HD.out.mono ?_); rintro e w5 ⟨rfl, h1, h2⟩; have HK5 := Lib.hid h1; have HS5 := Lib.hid h2; clear h1 h2))
    go_roundw
    case rel => exact ⟨k + 1, o + 1, by omega, by go_num, HS5, Lib.hid (by have := HO.out; push_cast; omega), Lib.hid (HK.out.trans HK5.out), Lib.hid (HNR.out.kf HK5.out)⟩
    case measure => simp [intOf]; omega
   ·have hp0 : runT x.name = false := by simpa using hp
    have HHP : Hid (Calls Tryz.prog 35 #[.string t, .string { data := #[114, 117, 110, 46] }] wr fun e w' => e = .returned (.bool false) ∧ w' = wr) := Lib.hid (by
     have h := hasPrefix_any t { data := #[114, 117, 110, 46] } wr
     have hp1 := hp0
     unfold runT at hp1
     rw [← HT.out] at hp1
     rw [hp1] at h; exact h)
    have HCL := Lib.hid (clP_no HX.out hp0)
    clear hp hp0
    go_wp2_with (go_at_call 35; (with_reducible refine HHP.out.mono ?_); rintro e w4 ⟨rfl, rfl⟩)
    go_roundw
    case rel => exact ⟨k + 1, o, by omega, by go_num, Lib.hid (by rw [HCL.out]; exact HSR.out), Lib.hid (by have := HO.out; push_cast; omega), HK, HNR⟩
    case measure => simp [intOf]; omega
  ·have hge : ¬ (k : Int) < (n : Int) := by omega
   have hkn : k = n := by omega
   have HKN := Lib.hid hkn
   clear hkn
   go_wp2
   go_ret
   refine ⟨rfl, HK.out, o, ?_, ?_⟩
   ·have := HO.out; have := HN.out; have := HKN.out; omega
   ·have h1 := HSR.out.now
    rw [HKN.out, HN.out, clP_n] at h1; exact h1
end
theorem RS.lay {TT : Nat} {dgs : Nat → ByteArray} {parts : Int} {nb bb : Nat} {xs zs : List Fil} {ps : List (Nat × List Ev)} {k : Nat} {L : List Ev} (hN : Namer dgs) (h : RS TT dgs parts nb bb xs ps k) (hk : k < 1000) (hL : Good parts L) (ht : (evP ps).flatten.length + L.length ≤ min TT 320)
  (hA : AppRel xs (rn dgs k) (runB L) zs) : RS TT dgs parts nb bb zs (ps ++ [(k, L)]) (k + 1) := by
 have hno : ∀ x ∈ xs, cmpKF x.name (rn dgs k) ≠ 0 := fun x hx => h.fresh k (Nat.le_refl _) hk x hx
 obtain ⟨Aa, c, hm, hl⟩ := app_new hno hA
 have hf := hA.facts h.rises
 have he : evP (ps ++ [(k, L)]) = evP ps ++ [L] := by unfold evP; rw [List.map_append]; rfl
 refine ⟨hf.1, fun p hp => ?_, ?_, fun p hp => ?_, fun i hi hi4 x hx => ?_, ?_, ?_, fun p hp => ?_, ?_⟩
 ·rcases List.mem_append.1 hp with hp | hp
  ·have := h.lt p hp; omega
  ·rw [List.mem_singleton.1 hp]; exact Nat.lt_succ_self _
 ·rw [List.pairwise_append]
  refine ⟨h.dis, List.pairwise_singleton _ _, fun a ha q hq => ?_⟩
  rw [List.mem_singleton.1 hq]
  have := h.lt a ha; dsimp only; omega
 ·rcases List.mem_append.1 hp with hp | hp
  ·exact Run.lay hno hA (h.run p hp)
  ·rw [List.mem_singleton.1 hp]; exact Run.new hno hA (hN.rsize hk) (hN.form k hk)
 ·rcases (hm x).1 hx with rfl | hx
  ·exact hN.inj k i hk hi4 (by omega)
  ·exact h.fresh i (by omega) hi4 x hx
 ·have h1 := h.num; rw [List.length_append, List.length_singleton]; omega
 ·have h1 := h.sum; have h3 := hf.2.1
  rw [he, runsLen_append]
  have h4 : runsLen [L] = (runB L).length := by simp [runsLen]
  rw [h4]; omega
 ·rcases List.mem_append.1 hp with hp | hp
  ·exact h.good p hp
  ·rw [List.mem_singleton.1 hp]; exact hL
 ·rw [he, List.flatten_append, List.length_append]; simpa using ht
def bgc (Z : Nat) (l : List Ev) (x : Nat) : List Ev := (l.drop (stZ Z l.length x)).take (lnZ Z l.length x)
theorem bgc_len {Z : Nat} {l : List Ev} (hZ : 1 ≤ Z) (h : 0 < l.length) (x : Nat) : (bgc Z l x).length = lnZ Z l.length x := by
 have := lnZ_facts (j := x) hZ h
 unfold bgc; rw [List.length_take, List.length_drop]; omega
theorem bgc_mem {Z : Nat} {l : List Ev} {x : Nat} {y : Ev} (h : y ∈ bgc Z l x) : y ∈ l := List.mem_of_mem_drop (List.mem_of_mem_take h)
theorem isort_can (l : List Ev) : Ordered ltM ((isort ltM l).map canE) := by
 have h := isort_ordered (lt := ltM) wkE l
 unfold Ordered at h ⊢
 rw [List.pairwise_map]
 exact h
theorem isort_memE (l : List Ev) (x : Ev) (h : x ∈ isort ltM l) : x ∈ l := isort_memM l x h
theorem Good.first {parts : Int} {l : List Ev} (h0 : 0 < l.length) (hf : ∀ x ∈ l, FineE x) (hp : ∀ x ∈ l, formB x parts = true) : Good parts (isort ltM l) :=
 ⟨by rw [isort_len]; exact h0, fun x hx => hf x (isort_memE l x hx), fun x hx => hp x (isort_memE l x hx), isort_can l⟩
def bgP (Z : Nat) (l : List Ev) (pre : List Nat) : List (Nat × List Ev) := pre.mapIdx fun i x => (i, isort ltM (bgc Z l x))
theorem bgP_snoc (Z : Nat) (l : List Ev) (pre : List Nat) (x : Nat) : bgP Z l (pre ++ [x]) = bgP Z l pre ++ [(pre.length, isort ltM (bgc Z l x))] := by
 unfold bgP; rw [List.mapIdx_concat]
theorem bgP_len (Z : Nat) (l : List Ev) (pre : List Nat) : (bgP Z l pre).length = pre.length := by unfold bgP; rw [List.length_mapIdx]
theorem bgP_tot {Z : Nat} {l : List Ev} (hZ : 1 ≤ Z) (h : 0 < l.length) (pre : List Nat) : (evP (bgP Z l pre)).flatten.length ≤ pre.length * min Z l.length := by
 have key : ∀ (n : Nat) (pre : List Nat), pre.length = n → (evP (bgP Z l pre)).flatten.length ≤ pre.length * min Z l.length := by
  intro n
  induction n with
  | zero => intro pre hp; rw [List.eq_nil_of_length_eq_zero hp]; exact Nat.zero_le _
  | succ n ih =>
   intro pre hp
   rcases List.eq_nil_or_concat pre with rfl | ⟨q, x, rfl⟩
   ·simp at hp
   ·rw [List.concat_eq_append] at hp ⊢
    have hq : q.length = n := by simpa using hp
    have h1 := ih q hq
    have h2 := lnZ_facts (j := x) hZ h
    have h3 : (evP (bgP Z l (q ++ [x]))).flatten.length = (evP (bgP Z l q)).flatten.length + lnZ Z l.length x := by
     rw [bgP_snoc]; unfold evP
     rw [List.map_append, List.flatten_append, List.length_append]
     simp [isort_len, bgc_len hZ h]
    rw [h3, List.length_append, List.length_singleton, Nat.add_mul, Nat.one_mul]
    have h4 : lnZ Z l.length x ≤ min Z l.length := by omega
    omega
 exact key _ _ rfl
end Go.Proofs.YtjldamkmdkaiiaaGreatDoor
namespace Go.Proofs.YtjldamkmdkaiiaaGreatDoor
open Go.RowKit Go.WideShapes Col Go.Sort Go.Shelf
def EvR (w : World) (gl ol : Nat) (l : List Ev) : Prop := ∃ (cur : Array Value) (t : TypeId) (fr : Nat × Nat), w.heap[gl]? = some (.cells cur t fr) ∧ ¬ StT t ∧ ∀ (j : Nat) (v : Value), (evs l)[j]? = some v → cur[ol + j]? = some v
theorem EvR.at {w : World} {gl ol : Nat} {l : List Ev} (h : EvR w gl ol l) : EvAt w (some ⟨gl, ol, none⟩) l := fun j v hv => by
 obtain ⟨cur, t, fr, h1, -, h3⟩ := h
 exact ⟨gl, ol, rfl, (Array.getElem?_eq_some_iff.1 h1).1, by rw [cell_of_row _ _ _ _ _ _ h1]; exact h3 j v hv⟩
theorem EvR.kx {w w' : World} {b gl ol : Nat} {l : List Ev} (h : EvR w gl ol l) (hk : KX b w w') (hb : gl ≠ b) : EvR w' gl ol l := by
 obtain ⟨cur, t, fr, h1, h2, h3⟩ := h; exact ⟨cur, t, fr, hk.row hb h1 h2, h2, h3⟩
structure BegI (base : World) (g : Nat) (room : Int) (b : Nat) (parts : Int) (gl ol n c Z : Nat) (l : List Ev) (w : World) (s : Nat) (W : World) (xs : List Fil) (ops : Int) (A : Option Addr) (m cap : Nat) (names : List ByteArray) (k : Nat) : Prop where
 r0 : W.heap[s]? = some (.cells #[.pointer (some ⟨b, 0, none⟩)] 68 (0, 0))
 r1 : W.heap[s + 1]? = some (.cells #[.int .i64 0] 28 (0, 0))
 r2 : W.heap[s + 2]? = some (.cells #[.slice (some ⟨gl, ol, none⟩) n c] 22 (0, 0))
 r3 : W.heap[s + 3]? = some (.cells #[.int .i64 (Z : Int)] 3 (0, 0))
 own : OwnT W (s + 4) A m cap names
 sa : SA ⟨base, W⟩ g room false 0 ops xs W
 runs : RunsAt9 W b g parts A m cap k
 ev : EvR W gl ol l
 size : s + 4 ≤ W.heap.size
 kx : KX b w W
structure BegF (base w : World) (b gl s : Nat) : Prop where
 bs : base.heap.size ≤ s
 ws : w.heap.size ≤ s
 bb : base.heap.size ≤ b
 hb : b < w.heap.size
 hgl : gl ≠ b
 gl : gl < w.heap.size
section
variable {base : World} {g : Nat} {room : Int} {b : Nat} {parts : Int} {gl ol n c Z : Nat} {l : List Ev} {w : World} {s : Nat} {W W' : World} {xs : List Fil} {ops : Int} {A : Option Addr} {m cap : Nat} {names : List ByteArray} {k : Nat}
theorem BegI.grown (h : BegI base g room b parts gl ol n c Z l w s W xs ops A m cap names k) (hf : BegF base w b gl s) {row : Option Nat} (hg : W.grownBy W' row) (hr : ∀ r, row = some r → s + 4 ≤ r ∧ ∃ o : Obj, W.heap[r]? = some o ∧ o.isCells = false) :
  BegI base g room b parts gl ol n c Z l w s W' xs ops A m cap names k := by
 have no : ∀ k cs t fr, W.heap[k]? = some (.cells cs t fr) → ¬ row = some k := fun k cs t fr hk e => by
  obtain ⟨-, o, ho, hc⟩ := hr k e
  rw [hk] at ho; injection ho with ho; subst ho; cases hc
 have row' : ∀ (k : Nat) (cs : Array Value) (t : TypeId) (fr : Nat × Nat), W.heap[k]? = some (Obj.cells cs t fr) → W'.heap[k]? = some (Obj.cells cs t fr) := fun k cs t fr hk =>
  (hg.block k (Array.getElem?_eq_some_iff.1 hk).1 (fun e => no _ _ _ _ hk e.symm)).trans hk
 refine ⟨row' _ _ _ _ h.r0, row' _ _ _ _ h.r1, row' _ _ _ _ h.r2, row' _ _ _ _ h.r3, ?_, h.sa.grownN hg (fun r e => ⟨by have := (hr r e).1; have := hf.bs; show base.heap.size ≤ r; omega, (hr r e).2⟩), row' _ _ _ _ h.runs, ?_, Nat.le_trans h.size hg.size, ?_⟩
 ·refine ⟨h.own.1, ?_⟩
  rcases h.own.2 with h1 | ⟨a, cap', cur, h1, hb', hrow, hrest⟩
  ·exact .inl h1
  ·exact .inr ⟨a, cap', cur, h1, hb', row' _ _ _ _ hrow, hrest⟩
 ·obtain ⟨cur, t, fr, h1, h2, h3⟩ := h.ev; exact ⟨cur, t, fr, row' _ _ _ _ h1, h2, h3⟩
 ·refine ⟨Nat.le_trans h.kx.size hg.size, fun k o hk hb hn => ?_⟩
  have h1 := h.kx.kept k o hk hb hn
  have hlt := (Array.getElem?_eq_some_iff.1 hk).1
  exact (hg.block k (Array.getElem?_eq_some_iff.1 h1).1 (fun e => by have := (hr k e.symm).1; have := hf.ws; omega)).trans h1
theorem BegI.next (h : BegI base g room b parts gl ol n c Z l w s W xs ops A m cap names k) (hf : BegF base w b gl s) (hk : KX b W W') {ys : List Fil} {ops' : Int} {k' : Nat} (hs : SA ⟨base, W'⟩ g room false 0 ops' ys W') (hr : RunsAt9 W' b g parts A m cap k') :
  BegI base g room b parts gl ol n c Z l w s W' ys ops' A m cap names k' := by
 have h1 := hf.hb; have h2 := hf.ws
 exact ⟨hk.row (by omega) h.r0 (not_st (by decide) (by decide) (by decide)), hk.row (by omega) h.r1 (not_st (by decide) (by decide) (by decide)), hk.row (by omega) h.r2 (not_st (by decide) (by decide) (by decide)), hk.row (by omega) h.r3 (not_st (by decide) (by decide) (by decide)),
  h.own.kx hk (by omega), hs, hr, h.ev.kx hk hf.hgl, Nat.le_trans h.size hk.size, h.kx.trans hk⟩
theorem BegI.put (h : BegI base g room b parts gl ol n c Z l w s W xs ops A m cap names k) (hf : BegF base w b gl s) {t : ByteArray} {v : World} {A' : Option Addr} {cap' : Nat} (ho : OwnT v (s + 4) A' (m + 1) cap' (names ++ [t])) (hg : (W.alloc (.cells #[.string t] 9)).grownBy v (A.map (·.block))) :
  BegI base g room b parts gl ol n c Z l w s (v.setCell ⟨b, 2, none⟩ (.slice A' (m + 1) cap')) xs ops A' (m + 1) cap' (names ++ [t]) k ∧ (W.heap.size ≤ (v.setCell ⟨b, 2, none⟩ (.slice A' (m + 1) cap')).heap.size ∧ ∀ (j : Nat) (o : Obj), W.heap[j]? = some o → o.isCells = false → (v.setCell ⟨b, 2, none⟩ (.slice A' (m + 1) cap')).heap[j]? = some o) ∧ RunsAt9 v b g parts A m cap k := by
 have hsz := h.size
 have hA : ∀ r, A.map (·.block) = some r → s + 4 ≤ r ∧ ∃ cs fr, W.heap[r]? = some (.cells cs 9 fr) := fun r hr => by
  rcases h.own.2 with ⟨e0, e1⟩ | ⟨q, cap', cur, e0, hb, hq, -⟩
  ·injection e0 with e0 _ _; rw [e0] at hr; cases hr
  ·injection e0 with e0 _ _; rw [e0] at hr; injection hr with hr; subst hr; exact ⟨hb, _, _, hq⟩
 have hal : ∀ (j : Nat) (o : Obj), W.heap[j]? = some o → (W.alloc (.cells #[.string t] 9)).heap[j]? = some o := fun j o hj => by
  have := (Array.getElem?_eq_some_iff.1 hj).1
  show (W.heap.push _)[j]? = _
  rw [Array.getElem?_push, if_neg (by omega)]; exact hj
 have row' : ∀ (j : Nat) (o : Obj), W.heap[j]? = some o → A.map (·.block) ≠ some j → v.heap[j]? = some o := fun j o hj hn =>
  (hg.block j (Array.getElem?_eq_some_iff.1 (hal j o hj)).1 (fun e => hn e.symm)).trans (hal j o hj)
 have low : ∀ (j : Nat) (o : Obj), j < s + 4 → W.heap[j]? = some o → v.heap[j]? = some o := fun j o hj hk => row' j o hk (fun e => by have := (hA j e).1; omega)
 have typ : ∀ (j : Nat) (cs : Array Value) (ty : TypeId) (fr : Nat × Nat), ty ≠ 9 → W.heap[j]? = some (.cells cs ty fr) → v.heap[j]? = some (.cells cs ty fr) := fun j cs ty fr ht hk => row' j _ hk (fun e => by
  obtain ⟨-, cs', fr', h1⟩ := hA j e
  rw [hk] at h1; injection h1 with h1; injection h1 with _ h1 _; exact ht h1)
 have h1 := hf.hb; have h2 := hf.ws; have h3 := hf.bs
 have vr : v.heap[b]? = _ := low b _ (by omega) h.runs
 have hsa := ((h.sa.next ((Below.refl _ W).alloc (Nat.le_refl _) (.cells #[.string t] 9))).grownT hg (fun r hr => ⟨by have := (hA r hr).1; show base.heap.size ≤ r; omega, fun cs ty fr hk => by
  obtain ⟨-, cs', fr', h1⟩ := hA r hr
  rw [hal r _ h1] at hk; injection hk with hk; injection hk with _ hk _; rw [← hk]; exact not_st (by decide) (by decide) (by decide)⟩)).setB b 2 (.slice A' (m + 1) cap') vr (not_st (by decide) (by decide) (by decide)) (by show base.heap.size ≤ b; have := hf.bb; omega)
 have hsv : W.heap.size ≤ v.heap.size := by have := hg.size; simp at this; omega
 refine ⟨⟨row_far (by omega) (low s _ (by omega) h.r0), row_far (by omega) (low (s + 1) _ (by omega) h.r1), row_far (by omega) (low (s + 2) _ (by omega) h.r2), row_far (by omega) (low (s + 3) _ (by omega) h.r3), ?_, hsa, row_set vr 2 _, ?_, by rw [setCell_size]; omega, ⟨by rw [setCell_size]; have := h.kx.size; omega, fun j o hj hb hn => ?_⟩⟩, ⟨by rw [setCell_size]; exact hsv, fun j o hj hc => ?_⟩, vr⟩
 ·refine ⟨ho.1, ?_⟩
  rcases ho.2 with h1 | ⟨a, cap', cur, h1, hb', hrow, hrest⟩
  ·exact .inl h1
  ·exact .inr ⟨a, cap', cur, h1, hb', row_far (by omega) hrow, hrest⟩
 ·obtain ⟨cur, ty, fr, q1, q2, q3⟩ := h.ev
  have h4 := hf.gl
  have h5 := hf.hgl
  exact ⟨cur, ty, fr, row_far (Ne.symm h5) (low gl _ (by omega) q1), q2, q3⟩
 ·have hlt := (Array.getElem?_eq_some_iff.1 hj).1
  exact row_far (Ne.symm hb) (low j o (by omega) (h.kx.kept j o hj hb hn))
 ·have hne : b ≠ j := fun e => by subst e; rw [h.runs] at hj; injection hj with hj; subst hj; cases hc
  exact row_far hne (row' j o hj (fun e => by
   obtain ⟨-, cs', fr', q1⟩ := hA j e
   rw [hj] at q1; injection q1 with q1; subst q1; cases hc))
end
theorem oper_round {l n : Nat} {P : Program} {o : Oper} {a : Act} {w : World} {K : Act → World → Prop} {Q : Exit → Act → World → Prop} (hd : ∀ c, o.op ≠ .defer c) (h : o.wp P a w K Q) : o.wpIn (Fence.wide.inRound l) n P a w K Q := by
 unfold Oper.wpIn
 refine ⟨fun _ _ => trivial, ?_⟩
 rw [show (Fence.wide.inRound l).round = some l from rfl, Oper.semAt_some l _ _ hd]
 unfold Oper.wp at h
 generalize (execOp a.eval o).run P w = r at *
 cases r with
 | ok x w' =>
  cases x with
  | value v => exact h
  | skip => exact h
  | defer d => exact h
  | enter f args => exact ⟨(fun h => by cases h), CallsIn.inRound l (callsIn_wide.2 h)⟩
  | row row args => exact ⟨(fun h => by cases h), fun c cs _ => by
    obtain ⟨v, w2, hr, hs⟩ := h c cs
    exact ⟨v, w2, hr, by rw [fenced_inRound]; exact stepsIn_wide.2 hs⟩⟩
  | round => exact h.elim
  | _ => first | exact h.elim | exact h
 | halt x w' => cases x <;> first | exact h | exact h.elim
theorem wpOpIn_round {l n : Nat} {P : Program} {ops : Array Oper} {Q : Exit → Act → World → Prop} (hd : ∀ (i : Nat) (o : Oper) c, ops[i]? = some o → o.op ≠ .defer c) (hlo : ¬ LetsOut Q) {i : Nat} {K K' : Act → World → Prop} (hK : ∀ a w, K a w → K' a w) {a : Act} {w : World}
  (h : wpOp P ops Q i K a w) : wpOpIn (Fence.wide.inRound l) n P ops Q i K' a w := by
 refine wpOpIn_mono hK ?_
 unfold wpOp at h
 unfold wpOpIn
 rcases ho : ops[i]? with _ | o
 ·simp only [ho] at h ⊢; exact h
 ·simp only [ho] at h ⊢
  split
  ·rename_i hw
   simp only [hw, if_true] at h
   rcases h with h | h
   ·exact oper_round (fun c => hd i o c ho) h
   ·exact (hlo h.2).elim
  ·rename_i hw
   simp only [hw] at h
   exact ⟨fun _ _ => trivial, h⟩
theorem wpAnyIn_round {l n : Nat} {P : Program} {md : Region.Mode} {ops : Array Oper} {Q : Exit → Act → World → Prop} (hd : ∀ (i : Nat) (o : Oper) c, ops[i]? = some o → o.op ≠ .defer c) (hlo : ¬ LetsOut Q) :
  ∀ (fuel : Nat) (listed : Array Bool) (a : Act) (w : World), wpAny P md ops Q fuel listed a w → wpAnyIn (Fence.wide.inRound l) n P md ops Q fuel listed a w
 | 0, _, _, _, h => h
 | fuel + 1, _, _, _, h => ⟨h.1, fun i hi => wpOpIn_round hd hlo (fun a w h' => wpAnyIn_round hd hlo fuel _ a w h') (h.2 i hi)⟩
theorem wpIn_region_round {l n : Nat} {P : Program} {id : Nat} {ops : Array Oper} {Q : Exit → Act → World → Prop} {S : World → Prop} {a : Act} {w : World} (hm : P.follows .mixedOrders = true) (hd : ops.all (fun o => match o.op with | .defer _ => false | _ => true) = true) (hlo : ¬ LetsOut Q)
  (hS : S w.drew) (h : S w.drew → wpAnyH P .any ops Q S ops.size (Array.replicate ops.size false) a w.drew) : (Code.region id ops true).wpIn (Fence.wide.inRound l) n P Q a w :=
 wpIn_region_any hm (wpAnyIn_round (fun i o c ho e => by
  have h1 := Array.all_eq_true.1 hd i (Array.getElem?_eq_some_iff.1 ho).1
  rw [(Array.getElem?_eq_some_iff.1 ho).2, e] at h1
  cases h1) hlo _ _ _ _ (wpAny_of_held _ _ _ _ (h hS)))
theorem wp_append_T {o : Oper} {ac : Act} {w : World} {K : Act → World → Prop} {Q : Exit → Act → World → Prop} (s x : Operand)
  (ho : o.op = .call { callee := .builtin .append, args := #[s, x], argTypes := #[37, 37] })
  (B : Nat) (A : Option Addr) (n cap : Nat) (l : List ByteArray) (hs : ac.eval s = .slice A n cap) (hown : OwnT w B A n cap l) (aq ao : Nat) (t : ByteArray) (hx : ac.eval x = .slice (some ⟨aq, ao, none⟩) 1 1) (h2 : w.cell? ⟨aq, ao, none⟩ = some (.string t))
  (hbytes : n ≤ 1000) (hbase : B ≤ w.heap.size)
  (h : ∀ A' cap' w', OwnT w' B A' (n + 1) cap' (l ++ [t]) → w.grownBy w' (A.map (·.block)) → K (ac.put o.dst (.slice A' (n + 1) cap')) w') : o.wp Tryz.prog ac w K Q := by
 obtain ⟨i0, hi, hz0, hz1, hz2⟩ := info_parts infoStrF
 obtain ⟨v', w', hr, hown2, hgr, h5, h6⟩ := run_append_own_at (P := Tryz.prog) w B 37 o.type 9 i0 _ 1 16 Tryz.underlying37 hi hz0 hz1 hz2 rfl (by decide) (.slice A n cap) n (tvT l) hown ⟨aq, ao, none⟩ 1 1 (tvT [t]) rfl (fun j u hu => by
  rcases j with _ | j
  ·injection hu with hu; subst hu
   rw [Addr.add_lit, Nat.add_zero]; exact h2
  ·cases hu) (fun u hu => by obtain ⟨y, -, rfl⟩ := List.mem_map.1 hu; rfl) (by unfold maxLen; omega) (by omega) hbase
 have e : tvT l ++ tvT [t] = tvT (l ++ [t]) := by unfold tvT; rw [List.map_append]
 rw [e] at hown2
 obtain ⟨A1, c1, rfl⟩ : ∃ A1 c1, v' = .slice A1 (n + 1) c1 := by
  rcases hown2.2 with ⟨h1, h3⟩ | ⟨g, cap', cur, h1, -⟩
  ·omega
  ·exact ⟨_, _, h1⟩
 unfold Oper.wp execOp
 simp only [ho, resolve, invoke, builtin, Sem.run_bind, Sem.run_pure, Result.andThen_ok, List.map_toArray, List.map_cons, List.map_nil, hs, hx, hr]
 exact h A1 c1 w' hown2 (by rcases A with _ | a <;> exact hgr)
theorem lv_txsO (w : World) (g j : Nat) (v : Value) (h : w.cell? ⟨g, j, none⟩ = some v) : (loadVar 37 ⟨g, j, none⟩).run Tryz.prog w = .ok v w := by go_simp
theorem lv_rnsO (w : World) (g j : Nat) (v : Value) (h : w.cell? ⟨g, j, none⟩ = some v) : (loadVar 68 ⟨g, j, none⟩).run Tryz.prog w = .ok v w := by go_simp
theorem wp_st_txsO {o : Oper} {a : Act} {w : World} {K : Act → World → Prop} {Q : Exit → Act → World → Prop} (x y : Operand) (ho : o.op = .store 37 x y) (g j : Nat) (hx : a.eval x = .pointer (some ⟨g, j, none⟩)) (A : Option Addr) (n c : Nat) (hy : a.eval y = .slice A n c) {u : Value} (hc : w.cell? ⟨g, j, none⟩ = some u) (hf : w.frozen? ⟨g, j, none⟩ = false)
  (h : K (a.put o.dst undef) (w.setCell ⟨g, j, none⟩ (.slice A n c))) : o.wp Tryz.prog a w K Q := by
 have hr : (storeVar 37 ⟨g, j, none⟩ (.slice A n c)).run Tryz.prog w = .ok () (w.setCell ⟨g, j, none⟩ (.slice A n c)) := by go_simp
 unfold Oper.wp execOp
 simp only [ho, hx, hy, Instr.storeAt, Instr.sureAddr, Sem.run_bind, Sem.run_pure, Result.andThen_ok, hr]
 exact h
theorem EvR.chunk {w : World} {gl ol Z : Nat} {l : List Ev} (h : EvR w gl ol l) (h0 : 0 < l.length) (x : Nat) : EvAt w (some ⟨gl, ol + stZ Z l.length x * 5, none⟩) (bgc Z l x) := fun j v hv => by
 have hst := stZ_lt (Z := Z) (len := l.length) (j := x) h0
 unfold bgc at hv
 have h1 := evs_take _ _ _ _ hv
 rw [evs_drop _ _ (by omega)] at h1
 obtain ⟨g, off, e, h3, h4⟩ := h.at _ _ h1
 injection e with e; injection e with e1 e2 e3; subst e1; subst e2
 exact ⟨gl, _, rfl, h3, by rw [Nat.add_assoc]; exact h4⟩
end Go.Proofs.YtjldamkmdkaiiaaGreatDoor
