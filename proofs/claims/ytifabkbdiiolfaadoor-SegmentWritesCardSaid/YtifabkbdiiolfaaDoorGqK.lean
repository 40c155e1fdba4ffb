/-
  Read, where the bytes are there: the sum, and the parts.
-/
import Derived.Test.YtifabkbdiiolfaaDoorByK
import Derived.Test.YtifabkbdiiolfaaDoorGrK
set_option linter.unusedSimpArgs false
set_option linter.unusedVariables false
set_option maxRecDepth 8000
namespace Go.Proofs.YtifabkbdiiolfaaDoor
open Go.RowKit
theorem drewN_halves {w : World} (h : Hid (HalvesAt w)) (n : Nat) : Hid (HalvesAt (w.drewN n)) := Lib.hid (h.out.keep (below_drewN (Below.refl _ _) n))
theorem tup4_eq {a a' : Int} {A : Option Addr} {n n' c : Nat} {i i' e e' : Int} (h1 : a = a') (h2 : n = n') (h3 : i = i') (h4 : e = e') :
  Ending.returned (.tuple #[.int .u8 a, .slice A n c, .int .i64 i, .int .i64 e]) = Ending.returned (.tuple #[.int .u8 a', .slice A n' c, .int .i64 i', .int .i64 e']) := by rw [h1, h2, h3, h4]
set_option maxHeartbeats 2000000 in
theorem read_sum (a : Option Addr) (l : List Nat) (len cap k : Nat) (hk : k ≤ len) (A : Option Addr) (n C : Nat) (q : List Nat) (w : World) (R : Hid (Rest w a l len cap k A n C q)) (hl : len ≤ maxLen) (HG : Hid (HalvesAt w))
  (N V S : Nat) (HN : Hid (N = Pg.sz q)) (h1 : N ≤ 1048576) (h2 : N + 9 ≤ n) (HV : Hid (Pg.val ((q.drop (5 + N)).take 4) = V)) (HS : Hid (Pg.sum (q.take (5 + N)) = S)) (hne : ((V : Int) != (S : Int)) = true) :
  Calls Tryd.prog 24 #[.slice a len cap, .int .i64 (k : Int)] w (RetQ w l k) := by
 have hc' := R.out.cap'
 have hcn := R.out.cap
 have he : Hid (Pg.errAt l k = 4) := Lib.hid (by
  have hq := R.out.len.out
  rw [R.out.err]; unfold Pg.errOf
  rw [if_neg (by omega), ← HN.out, if_neg (by omega), if_neg (by omega), if_neg]
  rw [HV.out, HS.out]; rw [bne_iff_ne] at hne; omega)
 have hr := R.out.run
 have HL := R.out.len
 have HQ := R.out.byAt
 obtain ⟨A1, C1, r1, d1, d2, d3⟩ := cut_from A n C (5 + N) (by omega) hcn
 obtain ⟨A2, r2, d4⟩ := cut_to A n C (5 + N) (by omega) hcn
 have r1 : ∀ w, (Instr.slice 24 (.slice A n C) (some (.int .i64 (5 + (N : Int)))) none none).run Tryd.prog w = .ok (.slice A1 (n - (5 + N)) C1) w := r1
 have r2 : ∀ w, (Instr.slice 24 (.slice A n C) none (some (.int .i64 (5 + (N : Int)))) none).run Tryd.prog w = .ok (.slice A2 (5 + N) C) w := r2
 have D3 := Lib.hid d3
 have D4 := Lib.hid d4
 have L1 : Hid (n - (5 + N) = (q.drop (5 + N)).length) := Lib.hid (by rw [List.length_drop, HL.out])
 have L2 : Hid (5 + N = (q.take (5 + N)).length) := Lib.hid (by rw [List.length_take, ← HL.out]; omega)
 clear d3 d4
 have g1 : ¬ (len : Int) < (k : Int) := by omega
 have g2 : 4 ≤ n - (5 + N) := by omega
 have g3 : n - (5 + N) ≤ maxLen := by omega
 have g4 : 5 + N ≤ maxLen := by unfold maxLen; omega
 unfold maxLen at hl hc'
 go_enter Tryd.func24, Tryd.ntmps24
 go_wp2_with (go_at_call 45; (refine (wordOf_at A q n C HL (by omega) (by unfold maxLen; omega) w HQ).mono ?_); rintro e w2 ⟨rfl, hb⟩; rw [← HN.out]; have HB := Lib.hid hb; clear hb; have HQ2 := ByAt.at HQ HB.out; have HG2 := HalvesAt.at HG HB.out)
 go_quiet ((first
  | (go_at_call 45; exact Calls.quiet_of (wordOf_q A1 _ V HV.out _ _ L1 g2 g3 _ (drewN_by (Lib.hid (D3.out _ _ HL.out HQ2.out)) _)))
  | (go_at_call 37; exact Calls.quiet_of_same (sum_q A2 _ S HS.out _ _ L2 g4 _ (drewN_by (Lib.hid (D4.out _ _ HL.out HQ2.out)) _) (drewN_halves HG2 _)))))
 go_wp2
 refine bodyPost_ret (results_tmp4 rfl _ _ _) rfl ?_
 exact RetQ.err 4 he.out (by decide) (below_drewN HB.out _)
set_option maxHeartbeats 2000000 in
theorem read_ok (a : Option Addr) (l : List Nat) (len cap k : Nat) (hk : k ≤ len) (A : Option Addr) (n C : Nat) (q : List Nat) (w : World) (R : Hid (Rest w a l len cap k A n C q)) (hl : len ≤ maxLen) (HG : Hid (HalvesAt w))
  (N V : Nat) (HN : Hid (N = Pg.sz q)) (h1 : N ≤ 1048576) (h2 : N + 9 ≤ n) (hkn : Hid (k + n = len)) (HV : Hid (Pg.val ((q.drop (5 + N)).take 4) = V)) (HS : Hid (Pg.sum (q.take (5 + N)) = V)) :
  Calls Tryd.prog 24 #[.slice a len cap, .int .i64 (k : Int)] w (RetQ w l k) := by
 have hc' := R.out.cap'
 have hcn := R.out.cap
 have he : Hid (Pg.errAt l k = 0) := Lib.hid (by
  have hq := R.out.len.out
  rw [R.out.err]; unfold Pg.errOf
  rw [if_neg (by omega), ← HN.out, if_neg (by omega), if_neg (by omega), if_pos]
  rw [HV.out, HS.out])
 have hr := R.out.run
 have HL := R.out.len
 have HQ := R.out.byAt
 have hb : Hid (Pg.bodyAt l k = (q.drop 5).take N) := Lib.hid (by unfold Pg.bodyAt; rw [if_pos he.out, R.out.drop, ← HN.out])
 have hE : Hid (Pg.endAt l k = (k : Int) + 9 + N) := Lib.hid (by unfold Pg.endAt; rw [if_pos he.out, R.out.drop, ← HN.out])
 obtain ⟨A1, C1, r1, d1, d2, d3⟩ := cut_from A n C (5 + N) (by omega) hcn
 obtain ⟨A2, r2, d4⟩ := cut_to A n C (5 + N) (by omega) hcn
 obtain ⟨A3, C3, r3, d5, d6, d7⟩ := cut_mid A n C 5 (5 + N) (by omega) (by omega) hcn
 have r1 : ∀ w, (Instr.slice 24 (.slice A n C) (some (.int .i64 (5 + (N : Int)))) none none).run Tryd.prog w = .ok (.slice A1 (n - (5 + N)) C1) w := r1
 have r2 : ∀ w, (Instr.slice 24 (.slice A n C) none (some (.int .i64 (5 + (N : Int)))) none).run Tryd.prog w = .ok (.slice A2 (5 + N) C) w := r2
 have r3 : ∀ w, (Instr.slice 24 (.slice A n C) (some (.int .i64 5)) (some (.int .i64 (5 + (N : Int)))) none).run Tryd.prog w = .ok (.slice A3 N C3) w := by rw [show 5 + N - 5 = N by omega] at r3; exact r3
 have D3 := Lib.hid d3
 have D4 := Lib.hid d4
 have D7 := Lib.hid d7
 have L1 : Hid (n - (5 + N) = (q.drop (5 + N)).length) := Lib.hid (by rw [List.length_drop, HL.out])
 have L2 : Hid (5 + N = (q.take (5 + N)).length) := Lib.hid (by rw [List.length_take, ← HL.out]; omega)
 have L3 : Hid (N = ((q.drop 5).take (5 + N - 5)).length) := Lib.hid (by rw [List.length_take, List.length_drop, ← HL.out]; omega)
 have h4 : 4 < q.length := by have := HL.out; omega
 have HK : Hid (Pg.kindAt l k = q[4]) := Lib.hid (by unfold Pg.kindAt; rw [if_pos he.out, R.out.drop, List.getD_eq_getElem?_getD, List.getElem?_eq_getElem h4]; rfl)
 have HC := Lib.hid (HQ.out 4 q[4] (List.getElem?_eq_getElem h4))
 generalize q[4] = κ at *
 obtain ⟨-, g, off, rfl, hg, hcell⟩ := HC.out
 have HC := Lib.hid hcell
 clear hcell d3 d4 d7 d5 d6
 have g1 : ¬ (len : Int) < (k : Int) := by omega
 have g2 : 4 ≤ n - (5 + N) := by omega
 have g3 : n - (5 + N) ≤ maxLen := by omega
 have g4 : 5 + N ≤ maxLen := by unfold maxLen; omega
 have g5 : (4 : Int) < (n : Int) := by omega
 have g6 : (k : Int) + (5 + N) + 4 ≤ len := by have := hkn.out; omega
 unfold maxLen at hl hc'
 go_enter Tryd.func24, Tryd.ntmps24
 go_wp2_with (go_at_call 45; (refine (wordOf_at (some ⟨g, off, none⟩) q n C HL (by omega) (by unfold maxLen; omega) w HQ).mono ?_); rintro e w2 ⟨rfl, hb⟩; rw [← HN.out]; have HB := Lib.hid hb; clear hb; have HQ2 := ByAt.at HQ HB.out; have HG2 := HalvesAt.at HG HB.out)
 go_quiet ((first
  | (go_at_call 45; exact Calls.quiet_of (wordOf_q A1 _ V HV.out _ _ L1 g2 g3 _ (drewN_by (Lib.hid (D3.out _ _ HL.out HQ2.out)) _)))
  | (go_at_call 37; exact Calls.quiet_of_same (sum_q A2 _ V HS.out _ _ L2 g4 _ (drewN_by (Lib.hid (D4.out _ _ HL.out HQ2.out)) _) (drewN_halves HG2 _)))))
 go_wp2
 have hcell : w2.cell? ⟨g, off + 4, none⟩ = some (.int .u8 (κ : Int)) := (HB.out.cell (p := ⟨g, off + 4, none⟩) hg).trans HC.out
 have hcell' : (w2.drewN nq).drew.cell? ⟨g, off + 4, none⟩ = some (.int .u8 (κ : Int)) := hcell
 have hg2 : g < w2.heap.size := Nat.lt_of_lt_of_le hg HB.out.size
 have hl3 : N ≤ 140737488355328 := by omega
 have HA3 : Hid (ByAt (w2.drewN nq).drew A3 ((q.drop 5).take (5 + N - 5))) := Lib.hid (D7.out _ _ HL.out HQ2.out)
 go_region_held3 (fun w' => w'.cell? ⟨g, off + 4, none⟩ = some (.int .u8 (κ : Int))) (first | exact hcell' | exact (hb3.cell (p := ⟨g, off + 4, none⟩) hg2).trans hcell' | go_keep)
  ((go_at_call 27; (refine (clone_any A3 _ N C3 L3 hl3 _ HA3).mono ?_); rintro e w3 ⟨A', cap', rfl, hO, hb3⟩))
 all_goals
  go_wp2
  refine bodyPost_ret (results_tmp4 rfl _ _ _) rfl ?_
  have e5 : (q.drop 5).take (5 + N - 5) = Pg.bodyAt l k := by rw [hb.out, show 5 + N - 5 = N by omega]
  rw [e5] at hO
  refine ⟨A', cap', ?_, hO.byAt, hO.caps.1, hO.caps.2, ?_⟩
  ·have s1 : IntKind.i64.wrap ((k : Int) + (5 + (N : Int))) = (k : Int) + (5 + (N : Int)) := by rw [IntKind.wrap_i64]; omega
   have s2 : IntKind.i64.wrap ((k : Int) + (5 + (N : Int)) + 4) = (k : Int) + (5 + (N : Int)) + 4 := by rw [IntKind.wrap_i64]; omega
   exact tup4_eq (by rw [HK.out]) (by rw [hb.out, List.length_take, List.length_drop]) (by rw [hE.out, s1, s2]; omega) (by rw [he.out]; rfl)
  ·exact (below_drewN HB.out nq).drew.trans (hb3.mono HB.out.size)
/-- Read: whatever the bytes and the place. -/
theorem read_any (a : Option Addr) (l : List Nat) (len cap : Nat) (i : Int) (hlen : Hid (len = l.length)) (hc : len ≤ cap) (hl : cap ≤ maxLen) (w : World) (HA : Hid (ByAt w a l)) (HG : Hid (HalvesAt w)) :
  Calls Tryd.prog 24 #[.slice a len cap, .int .i64 i] w (RetQ w l i) := by
 have hlm : len ≤ maxLen := by omega
 by_cases hi : i < 0 ∨ (len : Int) < i
 ·exact read_arg a l len cap i hlen hlm hi w
 ·obtain ⟨k, rfl⟩ : ∃ k : Nat, i = (k : Int) := ⟨i.toNat, by omega⟩
  have hk : k ≤ len := by omega
  obtain ⟨A, n, C, q, hR⟩ := rest_of a l len cap k hlen hk hc hl w HA
  have R := Lib.hid hR
  by_cases hn : n < 9
  ·exact read_short a l len cap k hk A n C q w R hn hlm
  ·have hql := hR.len.out
   have hkn : k + n = len := by
    have := congrArg List.length hR.drop
    rw [List.length_drop] at this
    have h2 := hlen.out
    omega
   have hqb := hR.byAt.out.lt
   have hz : Pg.sz q < 4294967296 := by
    have h := Pg.val_lt (q.take 4) (fun x hx => hqb x (List.mem_of_mem_take hx))
    rw [List.length_take, Nat.min_eq_left (by omega)] at h
    exact h
   by_cases hs : 1048576 < Pg.sz q ∨ n < Pg.sz q + 9
   ·exact read_long a l len cap k hk A n C q w R hn hlm hs hz
   ·by_cases hv : Pg.val ((q.drop (5 + Pg.sz q)).take 4) = Pg.sum (q.take (5 + Pg.sz q))
    ·exact read_ok a l len cap k hk A n C q w R hlm HG (Pg.sz q) _ (Lib.hid rfl) (by omega) (by omega) (Lib.hid hkn) (Lib.hid rfl) (Lib.hid hv.symm)
    ·exact read_sum a l len cap k hk A n C q w R hlm HG (Pg.sz q) _ _ (Lib.hid rfl) (by omega) (by omega) (Lib.hid rfl) (Lib.hid rfl) (by rw [bne_iff_ne]; omega)
end Go.Proofs.YtifabkbdiiolfaaDoor
