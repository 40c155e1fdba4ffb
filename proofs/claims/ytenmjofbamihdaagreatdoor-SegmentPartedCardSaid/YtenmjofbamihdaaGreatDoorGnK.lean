/-
  Pages that were laid are read; the law PageLengths.
-/
import Derived.Test.YtenmjofbamihdaaGreatDoorByK
import Derived.Test.YtenmjofbamihdaaGreatDoorGrK
import Derived.Laws.BytesArg
import Derived.Test.YtenmjofbamihdaaGreatDoorGyK
set_option linter.unusedSimpArgs false
set_option linter.unusedVariables false
set_option maxRecDepth 8000
namespace Go.Proofs.YtenmjofbamihdaaGreatDoor
open Go.RowKit

theorem drewN_halves {w : World} (h : Hid (HalvesAt w)) (n : Nat) : Hid (HalvesAt (w.drewN n)) := Lib.hid (h.out.keep (below_drewN (Below.refl _ _) n))

theorem tup4_eq {a a' : Int} {A : Option Addr} {n n' c : Nat} {i i' e e' : Int} (h1 : a = a') (h2 : n = n') (h3 : i = i') (h4 : e = e') :
    Ending.returned (.tuple #[.int .u8 a, .slice A n c, .int .i64 i, .int .i64 e]) = Ending.returned (.tuple #[.int .u8 a', .slice A n' c, .int .i64 i', .int .i64 e']) := by rw [h1, h2, h3, h4]

set_option maxHeartbeats 2000000 in
theorem read_sum (a : Option Addr) (l : List Nat) (len cap k : Nat) (hk : k ≤ len) (A : Option Addr) (n C : Nat) (q : List Nat) (w : World) (R : Hid (Rest w a l len cap k A n C q)) (hl : len ≤ maxLen) (HG : Hid (HalvesAt w))
    (N V S : Nat) (HN : Hid (N = Pg.sz q)) (h1 : N ≤ 1048576) (h2 : N + 9 ≤ n) (HV : Hid (Pg.val ((q.drop (5 + N)).take 4) = V)) (HS : Hid (Pg.sum (q.take (5 + N)) = S)) (hne : ((V : Int) != (S : Int)) = true) :
    Calls Tryz.prog 29 #[.slice a len cap, .int .i64 (k : Int)] w (RetQ w l k) := by
  have hc' := R.out.cap'
  have hcn := R.out.cap
  have he : Hid (Pg.errAt l k = 4) := Lib.hid (by
    have hq := R.out.len.out
    rw [R.out.err]; unfold Pg.errOf
    rw [if_neg (by omega), ← HN.out, if_neg (by omega), if_neg (by omega), if_neg]
    rw [HV.out, HS.out]; rw [bne_iff_ne] at hne; omega)
  have hr := R.out.run
  have HL := R.out.len
  have HQ := R.out.byAt
  obtain ⟨A1, C1, r1, d1, d2, d3⟩ := cut_from A n C (5 + N) (by omega) hcn
  obtain ⟨A2, r2, d4⟩ := cut_to A n C (5 + N) (by omega) hcn
  have r1 : ∀ w, (Instr.slice 29 (.slice A n C) (some (.int .i64 (5 + (N : Int)))) none none).run Tryz.prog w = .ok (.slice A1 (n - (5 + N)) C1) w := r1
  have r2 : ∀ w, (Instr.slice 29 (.slice A n C) none (some (.int .i64 (5 + (N : Int)))) none).run Tryz.prog w = .ok (.slice A2 (5 + N) C) w := r2
  have D3 := Lib.hid d3
  have D4 := Lib.hid d4
  have L1 : Hid (n - (5 + N) = (q.drop (5 + N)).length) := Lib.hid (by rw [List.length_drop, HL.out])
  have L2 : Hid (5 + N = (q.take (5 + N)).length) := Lib.hid (by rw [List.length_take, ← HL.out]; omega)
  clear d3 d4
  have g1 : ¬ (len : Int) < (k : Int) := by omega
  have g2 : 4 ≤ n - (5 + N) := by omega
  have g3 : n - (5 + N) ≤ maxLen := by omega
  have g4 : 5 + N ≤ maxLen := by unfold maxLen; omega
  unfold maxLen at hl hc'
  go_enter Tryz.func29, Tryz.ntmps29
  go_wp2_with (go_at_call 48; (refine (wordOf_at A q n C HL (by omega) (by unfold maxLen; omega) w HQ).mono ?_); rintro e w2 ⟨rfl, hb⟩; rw [← HN.out]; have HB := Lib.hid hb; clear hb; have HQ2 := ByAt.at HQ HB.out; have HG2 := HalvesAt.at HG HB.out)
  go_quiet ((first
    | (go_at_call 48; exact Calls.quiet_of (wordOf_q A1 _ V HV.out _ _ L1 g2 g3 _ (drewN_by (Lib.hid (D3.out _ _ HL.out HQ2.out)) _)))
    | (go_at_call 45; exact Calls.quiet_of_same (sum_q A2 _ S HS.out _ _ L2 g4 _ (drewN_by (Lib.hid (D4.out _ _ HL.out HQ2.out)) _) (drewN_halves HG2 _)))))
  go_wp2
  refine bodyPost_ret (results_tmp4 rfl _ _ _) rfl ?_
  exact RetQ.err 4 he.out (by decide) (below_drewN HB.out _)

set_option maxHeartbeats 2000000 in
theorem read_ok (a : Option Addr) (l : List Nat) (len cap k : Nat) (hk : k ≤ len) (A : Option Addr) (n C : Nat) (q : List Nat) (w : World) (R : Hid (Rest w a l len cap k A n C q)) (hl : len ≤ maxLen) (HG : Hid (HalvesAt w))
    (N V : Nat) (HN : Hid (N = Pg.sz q)) (h1 : N ≤ 1048576) (h2 : N + 9 ≤ n) (hkn : Hid (k + n = len)) (HV : Hid (Pg.val ((q.drop (5 + N)).take 4) = V)) (HS : Hid (Pg.sum (q.take (5 + N)) = V)) :
    Calls Tryz.prog 29 #[.slice a len cap, .int .i64 (k : Int)] w (RetQ w l k) := by
  have hc' := R.out.cap'
  have hcn := R.out.cap
  have he : Hid (Pg.errAt l k = 0) := Lib.hid (by
    have hq := R.out.len.out
    rw [R.out.err]; unfold Pg.errOf
    rw [if_neg (by omega), ← HN.out, if_neg (by omega), if_neg (by omega), if_pos]
    rw [HV.out, HS.out])
  have hr := R.out.run
  have HL := R.out.len
  have HQ := R.out.byAt
  have hb : Hid (Pg.bodyAt l k = (q.drop 5).take N) := Lib.hid (by unfold Pg.bodyAt; rw [if_pos he.out, R.out.drop, ← HN.out])
  have hE : Hid (Pg.endAt l k = (k : Int) + 9 + N) := Lib.hid (by unfold Pg.endAt; rw [if_pos he.out, R.out.drop, ← HN.out])
  obtain ⟨A1, C1, r1, d1, d2, d3⟩ := cut_from A n C (5 + N) (by omega) hcn
  obtain ⟨A2, r2, d4⟩ := cut_to A n C (5 + N) (by omega) hcn
  obtain ⟨A3, C3, r3, d5, d6, d7⟩ := cut_mid A n C 5 (5 + N) (by omega) (by omega) hcn
  have r1 : ∀ w, (Instr.slice 29 (.slice A n C) (some (.int .i64 (5 + (N : Int)))) none none).run Tryz.prog w = .ok (.slice A1 (n - (5 + N)) C1) w := r1
  have r2 : ∀ w, (Instr.slice 29 (.slice A n C) none (some (.int .i64 (5 + (N : Int)))) none).run Tryz.prog w = .ok (.slice A2 (5 + N) C) w := r2
  have r3 : ∀ w, (Instr.slice 29 (.slice A n C) (some (.int .i64 5)) (some (.int .i64 (5 + (N : Int)))) none).run Tryz.prog w = .ok (.slice A3 N C3) w := by rw [show 5 + N - 5 = N by omega] at r3; exact r3
  have D3 := Lib.hid d3
  have D4 := Lib.hid d4
  have D7 := Lib.hid d7
  have L1 : Hid (n - (5 + N) = (q.drop (5 + N)).length) := Lib.hid (by rw [List.length_drop, HL.out])
  have L2 : Hid (5 + N = (q.take (5 + N)).length) := Lib.hid (by rw [List.length_take, ← HL.out]; omega)
  have L3 : Hid (N = ((q.drop 5).take (5 + N - 5)).length) := Lib.hid (by rw [List.length_take, List.length_drop, ← HL.out]; omega)
  have h4 : 4 < q.length := by have := HL.out; omega
  have HK : Hid (Pg.kindAt l k = q[4]) := Lib.hid (by unfold Pg.kindAt; rw [if_pos he.out, R.out.drop, List.getD_eq_getElem?_getD, List.getElem?_eq_getElem h4]; rfl)
  have HC := Lib.hid (HQ.out 4 q[4] (List.getElem?_eq_getElem h4))
  generalize q[4] = κ at *
  obtain ⟨-, g, off, rfl, hg, hcell⟩ := HC.out
  have HC := Lib.hid hcell
  clear hcell d3 d4 d7 d5 d6
  have g1 : ¬ (len : Int) < (k : Int) := by omega
  have g2 : 4 ≤ n - (5 + N) := by omega
  have g3 : n - (5 + N) ≤ maxLen := by omega
  have g4 : 5 + N ≤ maxLen := by unfold maxLen; omega
  have g5 : (4 : Int) < (n : Int) := by omega
  have g6 : (k : Int) + (5 + N) + 4 ≤ len := by have := hkn.out; omega
  unfold maxLen at hl hc'
  go_enter Tryz.func29, Tryz.ntmps29
  go_wp2_with (go_at_call 48; (refine (wordOf_at (some ⟨g, off, none⟩) q n C HL (by omega) (by unfold maxLen; omega) w HQ).mono ?_); rintro e w2 ⟨rfl, hb⟩; rw [← HN.out]; have HB := Lib.hid hb; clear hb; have HQ2 := ByAt.at HQ HB.out; have HG2 := HalvesAt.at HG HB.out)
  go_quiet ((first
    | (go_at_call 48; exact Calls.quiet_of (wordOf_q A1 _ V HV.out _ _ L1 g2 g3 _ (drewN_by (Lib.hid (D3.out _ _ HL.out HQ2.out)) _)))
    | (go_at_call 45; exact Calls.quiet_of_same (sum_q A2 _ V HS.out _ _ L2 g4 _ (drewN_by (Lib.hid (D4.out _ _ HL.out HQ2.out)) _) (drewN_halves HG2 _)))))
  go_wp2
  have hcell : w2.cell? ⟨g, off + 4, none⟩ = some (.int .u8 (κ : Int)) := (HB.out.cell (p := ⟨g, off + 4, none⟩) hg).trans HC.out
  have hcell' : (w2.drewN nq).drew.cell? ⟨g, off + 4, none⟩ = some (.int .u8 (κ : Int)) := hcell
  have hg2 : g < w2.heap.size := Nat.lt_of_lt_of_le hg HB.out.size
  have hl3 : N ≤ 140737488355328 := by omega
  have HA3 : Hid (ByAt (w2.drewN nq).drew A3 ((q.drop 5).take (5 + N - 5))) := Lib.hid (D7.out _ _ HL.out HQ2.out)
  go_region_held3 (fun w' => w'.cell? ⟨g, off + 4, none⟩ = some (.int .u8 (κ : Int))) (first | exact hcell' | exact (hb3.cell (p := ⟨g, off + 4, none⟩) hg2).trans hcell' | go_keep)
    ((go_at_call 32; (refine (clone_any A3 _ N C3 L3 hl3 _ HA3).mono ?_); rintro e w3 ⟨A', cap', rfl, hO, hb3⟩))
  all_goals
    go_wp2
    refine bodyPost_ret (results_tmp4 rfl _ _ _) rfl ?_
    have e5 : (q.drop 5).take (5 + N - 5) = Pg.bodyAt l k := by rw [hb.out, show 5 + N - 5 = N by omega]
    rw [e5] at hO
    refine ⟨A', cap', ?_, hO.byAt, hO.caps.1, hO.caps.2, ?_⟩
    · have s1 : IntKind.i64.wrap ((k : Int) + (5 + (N : Int))) = (k : Int) + (5 + (N : Int)) := by rw [IntKind.wrap_i64]; omega
      have s2 : IntKind.i64.wrap ((k : Int) + (5 + (N : Int)) + 4) = (k : Int) + (5 + (N : Int)) + 4 := by rw [IntKind.wrap_i64]; omega
      exact tup4_eq (by rw [HK.out]) (by rw [hb.out, List.length_take, List.length_drop]) (by rw [hE.out, s1, s2]; omega) (by rw [he.out]; rfl)
    · exact (below_drewN HB.out nq).drew.trans (hb3.mono HB.out.size)

/-- Read: whatever the bytes and the place. -/
theorem read_any (a : Option Addr) (l : List Nat) (len cap : Nat) (i : Int) (hlen : Hid (len = l.length)) (hc : len ≤ cap) (hl : cap ≤ maxLen) (w : World) (HA : Hid (ByAt w a l)) (HG : Hid (HalvesAt w)) :
    Calls Tryz.prog 29 #[.slice a len cap, .int .i64 i] w (RetQ w l i) := by
  have hlm : len ≤ maxLen := by omega
  by_cases hi : i < 0 ∨ (len : Int) < i
  · exact read_arg a l len cap i hlen hlm hi w
  · obtain ⟨k, rfl⟩ : ∃ k : Nat, i = (k : Int) := ⟨i.toNat, by omega⟩
    have hk : k ≤ len := by omega
    obtain ⟨A, n, C, q, hR⟩ := rest_of a l len cap k hlen hk hc hl w HA
    have R := Lib.hid hR
    by_cases hn : n < 9
    · exact read_short a l len cap k hk A n C q w R hn hlm
    · have hql := hR.len.out
      have hkn : k + n = len := by
        have := congrArg List.length hR.drop
        rw [List.length_drop] at this
        have h2 := hlen.out
        omega
      have hqb := hR.byAt.out.lt
      have hz : Pg.sz q < 4294967296 := by
        have h := Pg.val_lt (q.take 4) (fun x hx => hqb x (List.mem_of_mem_take hx))
        rw [List.length_take, Nat.min_eq_left (by omega)] at h
        exact h
      by_cases hs : 1048576 < Pg.sz q ∨ n < Pg.sz q + 9
      · exact read_long a l len cap k hk A n C q w R hn hlm hs hz
      · by_cases hv : Pg.val ((q.drop (5 + Pg.sz q)).take 4) = Pg.sum (q.take (5 + Pg.sz q))
        · exact read_ok a l len cap k hk A n C q w R hlm HG (Pg.sz q) _ (Lib.hid rfl) (by omega) (by omega) (Lib.hid hkn) (Lib.hid rfl) (Lib.hid hv.symm)
        · exact read_sum a l len cap k hk A n C q w R hlm HG (Pg.sz q) _ _ (Lib.hid rfl) (by omega) (by omega) (Lib.hid rfl) (Lib.hid rfl) (by rw [bne_iff_ne]; omega)
end Go.Proofs.YtenmjofbamihdaaGreatDoor

set_option linter.unusedSimpArgs false
set_option linter.unusedVariables false
set_option maxRecDepth 8000
namespace Go.Proofs.YtenmjofbamihdaaGreatDoor
open Go.RowKit

def part (b0 b1 b2 b3 : Nat) : Nat → Nat
  | 0 => 0
  | 1 => b3
  | 2 => b3 * 256 + b2
  | 3 => (b3 * 256 + b2) * 256 + b1
  | _ => ((b3 * 256 + b2) * 256 + b1) * 256 + b0
end Go.Proofs.YtenmjofbamihdaaGreatDoor

set_option linter.unusedSimpArgs false
set_option linter.unusedVariables false
set_option maxRecDepth 8000
namespace Go.Proofs.YtenmjofbamihdaaGreatDoor
open Go.RowKit

namespace Pg
def oneErr (l : List Nat) (kind : Nat) : Nat := if errAt l 0 ≠ 0 then errAt l 0 else if kindAt l 0 = kind ∧ endAt l 0 = (l.length : Int) then 0 else 3
def oneBody (l : List Nat) (kind : Nat) : List Nat := if oneErr l kind = 0 then bodyAt l 0 else []
end Pg

/-- What One returns: a body, or an error. -/
def RetO (w : World) (l : List Nat) (kind : Nat) (e : Ending) (w' : World) : Prop := ∃ A cap, e = .returned (.tuple #[.slice A (Pg.oneBody l kind).length cap, .int .i64 (Pg.oneErr l kind : Nat)]) ∧
  ByAt w' A (Pg.oneBody l kind) ∧ (Pg.oneBody l kind).length ≤ cap ∧ cap ≤ maxLen ∧ Below w.heap.size w w'
theorem tup2_eq {A : Option Addr} {n n' c : Nat} {e e' : Int} (h2 : n = n') (h4 : e = e') : Ending.returned (.tuple #[.slice A n c, .int .i64 e]) = Ending.returned (.tuple #[.slice A n' c, .int .i64 e']) := by rw [h2, h4]
theorem RetO.err {w w' : World} {l : List Nat} {kind : Nat} {c : Int} (h : Pg.oneErr l kind ≠ 0) (hc : c = ((Pg.oneErr l kind : Nat) : Int)) (hb : Below w.heap.size w w') : RetO w l kind (.returned (.tuple #[.slice none 0 0, .int .i64 c])) w' := by
  have hb0 : Pg.oneBody l kind = [] := if_neg h
  exact ⟨none, 0, by rw [hb0, hc]; rfl, by rw [hb0]; exact ByAt.nil _ _, by rw [hb0]; exact Nat.le_refl _, Nat.zero_le _, hb⟩

set_option maxHeartbeats 2000000 in
theorem one_any (a : Option Addr) (l : List Nat) (len cap : Nat) (kind : Nat) (hlen : Hid (len = l.length)) (hc : len ≤ cap) (hl : cap ≤ maxLen) (w : World) (HA : Hid (ByAt w a l)) (HG : Hid (HalvesAt w)) :
    Calls Tryz.prog 27 #[.slice a len cap, .int .u8 (kind : Int)] w (RetO w l kind) := by
  have HQ : Hid (Calls Tryz.prog 29 #[.slice a len cap, .int .i64 0] w (RetQ w l 0)) := Lib.hid (read_any a l len cap 0 hlen hc hl w HA HG)
  have hO : Hid (Pg.oneErr l kind = if Pg.errAt l 0 ≠ 0 then Pg.errAt l 0 else if Pg.kindAt l 0 = kind ∧ Pg.endAt l 0 = (l.length : Int) then 0 else 3) := rfl
  have hB : Hid (Pg.oneBody l kind = if Pg.oneErr l kind = 0 then Pg.bodyAt l 0 else []) := rfl
  have HE : Hid (Pg.endAt l 0 = (l.length : Int) ↔ Pg.endAt l 0 = (len : Int)) := Lib.hid (by rw [hlen.out])
  by_cases h0 : Pg.errAt l 0 = 0
  · have t0 : (((Pg.errAt l 0 : Nat) : Int) != 0) = false := by rw [h0]; rfl
    have H0 := Lib.hid h0
    by_cases h1 : Pg.kindAt l 0 = kind
    · have t1 : (((Pg.kindAt l 0 : Nat) : Int) != (kind : Int)) = false := by rw [h1]; simp
      by_cases h2 : Pg.endAt l 0 = (len : Int)
      · have t2 : (Pg.endAt l 0 != (len : Int)) = false := by rw [h2]; simp
        have F : Hid (Pg.oneErr l kind = 0) := Lib.hid (by rw [hO.out, if_neg (by rw [h0]; exact fun h => h rfl), if_pos ⟨h1, HE.out.2 h2⟩])
        clear h0 h1 h2
        go_enter Tryz.func27, Tryz.ntmps27
        go_wp2_with (go_at_call 29; refine HQ.out.mono ?_; rintro e w2 ⟨A', cap', rfl, hA, hc1, hc2, hb⟩; have HA2 := Lib.hid hA; have HB2 := Lib.hid hb; clear hA hb)
        go_ret2
        have hbo : Pg.oneBody l kind = Pg.bodyAt l 0 := by rw [hB.out, if_pos F.out]
        exact ⟨A', cap', tup2_eq (by rw [hbo]) (by rw [F.out]; rfl), by rw [hbo]; exact HA2.out, by rw [hbo]; exact hc1, hc2, HB2.out⟩
      · have t2 : (Pg.endAt l 0 != (len : Int)) = true := by simpa using h2
        have F : Hid (Pg.oneErr l kind = 3) := Lib.hid (by rw [hO.out, if_neg (by rw [h0]; exact fun h => h rfl), if_neg (fun h => h2 (HE.out.1 h.2))])
        clear h0 h1 h2
        go_enter Tryz.func27, Tryz.ntmps27
        go_wp2_with (go_at_call 29; refine HQ.out.mono ?_; rintro e w2 ⟨A', cap', rfl, hA, hc1, hc2, hb⟩; have HA2 := Lib.hid hA; have HB2 := Lib.hid hb; clear hA hb)
        go_ret2
        exact RetO.err (by rw [F.out]; decide) (by rw [F.out]; rfl) HB2.out
    · have t1 : (((Pg.kindAt l 0 : Nat) : Int) != (kind : Int)) = true := by rw [bne_iff_ne]; omega
      have F : Hid (Pg.oneErr l kind = 3) := Lib.hid (by rw [hO.out, if_neg (by rw [h0]; exact fun h => h rfl), if_neg (fun h => h1 h.1)])
      clear h0 h1
      go_enter Tryz.func27, Tryz.ntmps27
      go_wp2_with (go_at_call 29; refine HQ.out.mono ?_; rintro e w2 ⟨A', cap', rfl, hA, hc1, hc2, hb⟩; have HA2 := Lib.hid hA; have HB2 := Lib.hid hb; clear hA hb)
      go_ret2
      exact RetO.err (by rw [F.out]; decide) (by rw [F.out]; rfl) HB2.out
  · have t0 : (((Pg.errAt l 0 : Nat) : Int) != 0) = true := by rw [bne_iff_ne]; omega
    have F : Hid (Pg.oneErr l kind = Pg.errAt l 0) := Lib.hid (by rw [hO.out, if_pos h0])
    have H0 := Lib.hid h0
    clear h0
    go_enter Tryz.func27, Tryz.ntmps27
    go_wp2_with (go_at_call 29; refine HQ.out.mono ?_; rintro e w2 ⟨A', cap', rfl, hA, hc1, hc2, hb⟩; have HA2 := Lib.hid hA; have HB2 := Lib.hid hb; clear hA hb)
    go_ret2
    exact RetO.err (by rw [F.out]; exact H0.out) (by rw [F.out]) HB2.out
end Go.Proofs.YtenmjofbamihdaaGreatDoor

set_option linter.unusedSimpArgs false
set_option linter.unusedVariables false
set_option maxRecDepth 8000
namespace Go.Proofs.YtenmjofbamihdaaGreatDoor
open Go.RowKit

namespace Pg
theorem lay_len (kind : Nat) (body : List Nat) : (lay kind body).length = 9 + body.length := by unfold lay four; rw [List.length_append, front_len]; simp; omega
theorem front_four (kind : Nat) (body : List Nat) : front kind body = four body.length ++ kind :: body := rfl
theorem four_len (n : Nat) : (four n).length = 4 := rfl
/-- A page, where it stands. -/
theorem errOf_lay (kind : Nat) (body r : List Nat) (hk : kind < 256) (hb : ∀ x ∈ body, x < 256) (hm : body.length ≤ 1048576) : errOf (lay kind body ++ r) = 0 ∧ sz (lay kind body ++ r) = body.length ∧ (lay kind body ++ r).getD 4 0 = kind ∧ ((lay kind body ++ r).drop 5).take body.length = body := by
  have h1 : lay kind body ++ r = four body.length ++ (kind :: (body ++ (four (sum (front kind body)) ++ r))) := by unfold lay; rw [front_four]; simp
  have hs : sz (lay kind body ++ r) = body.length := by
    unfold sz
    rw [h1, List.take_append_of_le_length (by rw [four_len]; exact Nat.le_refl _), List.take_of_length_le (by rw [four_len]; exact Nat.le_refl _), val_four _ (by omega)]
  refine ⟨?_, hs, ?_, ?_⟩
  · unfold errOf
    have hl : (lay kind body ++ r).length = 9 + body.length + r.length := by rw [List.length_append, lay_len]
    rw [hs, if_neg (by omega), if_neg (by omega), if_neg (by omega), if_pos]
    have h2 : lay kind body ++ r = front kind body ++ (four (sum (front kind body)) ++ r) := by unfold lay; rw [List.append_assoc]
    have hf := front_len kind body
    rw [h2, ← hf, List.take_append_of_le_length (Nat.le_refl _), List.take_length, List.drop_append_of_le_length (Nat.le_refl _), List.drop_length, List.nil_append, List.take_append_of_le_length (by rw [four_len]; exact Nat.le_refl _), List.take_of_length_le (by rw [four_len]; exact Nat.le_refl _)]
    exact val_four _ (sum_lt (front_lt kind body hk hb))
  · rw [h1]; rfl
  · rw [h1, show (four body.length ++ (kind :: (body ++ (four (sum (front kind body)) ++ r)))).drop 5 = body ++ (four (sum (front kind body)) ++ r) from rfl, List.take_append_of_le_length (Nat.le_refl _), List.take_length]
theorem read_lay (l : List Nat) (kind : Nat) (body r : List Nat) (i : Int) (hi : i = (l.length : Int)) (hk : kind < 256) (hb : ∀ x ∈ body, x < 256) (hm : body.length ≤ 1048576) :
    errAt (l ++ (lay kind body ++ r)) i = 0 ∧ kindAt (l ++ (lay kind body ++ r)) i = kind ∧ bodyAt (l ++ (lay kind body ++ r)) i = body ∧ endAt (l ++ (lay kind body ++ r)) i = i + 9 + body.length := by
  obtain ⟨h1, h2, h3, h4⟩ := errOf_lay kind body r hk hb hm
  have hd : (l ++ (lay kind body ++ r)).drop i.toNat = lay kind body ++ r := by
    rw [hi, Int.toNat_natCast, List.drop_append_of_le_length (Nat.le_refl _), List.drop_length, List.nil_append]
  have he : errAt (l ++ (lay kind body ++ r)) i = 0 := by
    unfold errAt
    rw [if_neg (by rw [List.length_append, hi]; omega), hd, h1]
  refine ⟨he, ?_, ?_, ?_⟩
  · unfold kindAt; rw [if_pos he, hd, h3]
  · unfold bodyAt; rw [if_pos he, hd, h2, h4]
  · unfold endAt; rw [if_pos he, hd, h2]
end Pg

theorem Roomy.set4 {w : World} {B g k cap : Nat} {cs : List Value} {l : List Nat} (h : Roomy w B g k cap cs l) (n : Nat) (hn : n < 4294967296) (i0 i1 i2 i3 : Int) (h0 : i0 = ((n % 256 : Nat) : Int)) (h1 : i1 = ((n / 256 % 256 : Nat) : Int)) (h2 : i2 = ((n / 65536 % 256 : Nat) : Int)) (h3 : i3 = ((n / 16777216 % 256 : Nat) : Int))
    (hl : ∃ a b c d r, l = a :: b :: c :: d :: r) : Roomy ((((w.setCell ⟨g, 0, none⟩ (.int .u8 i0)).setCell ⟨g, 1, none⟩ (.int .u8 i1)).setCell ⟨g, 2, none⟩ (.int .u8 i2)).setCell ⟨g, 3, none⟩ (.int .u8 i3)) B g k cap ((((cs.set 0 (bv (n % 256))).set 1 (bv (n / 256 % 256))).set 2 (bv (n / 65536 % 256))).set 3 (bv (n / 16777216 % 256))) (Pg.four n ++ l.drop 4) := by
  obtain ⟨a, b, c, d, r, rfl⟩ := hl
  subst h0 h1 h2 h3
  exact (((h.set 0 (n % 256) (by omega)).set 1 (n / 256 % 256) (by omega)).set 2 (n / 65536 % 256) (by omega)).set 3 (n / 16777216 % 256) (by omega)
end Go.Proofs.YtenmjofbamihdaaGreatDoor
