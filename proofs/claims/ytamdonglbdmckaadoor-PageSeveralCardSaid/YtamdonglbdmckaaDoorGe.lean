/-
  The document's Read, where the bytes are there.
-/
import Derived.Test.YtamdonglbdmckaaDoorGd
set_option linter.unusedSimpArgs false
set_option linter.unusedVariables false
namespace Go.Proofs.YtamdonglbdmckaaDoor
open Go.RowKit Go.WideShapes

set_option maxHeartbeats 4000000 in
theorem refRead_sum (a : Option Addr) (l : List Nat) (len cap k : Nat) (hk : k ≤ len) (A : Option Addr) (n C : Nat) (q : List Nat) (w : World) (R : Hid (Rest w a l len cap k A n C q)) (hl : len ≤ maxLen)
    (N S : Nat) (hNz : N = Pg.sz q) (h1 : N ≤ 1048576) (h2 : N + 9 ≤ n) (hS : S < 4294967296) (HS : Hid (Pg.sum (q.take (5 + N)) = S)) (hne : ((strB (Pg.four S)).toList == (strB ((q.drop (5 + N)).take 4)).toList) = false) (he : Hid (Pg.errAt l k = 4)) :
    Calls Tryd.prog 16 #[.slice a len cap, .int .i64 (k : Int)] w (RetQ w l k) := by
  have hc' := R.out.cap'
  have hcn := R.out.cap
  have hr := R.out.run
  have HL := R.out.len
  have HQ := R.out.byAt
  obtain ⟨g, off, b0, b1, b2, b3, r, rfl, hq, l0, l1, l2, l3, hg, c0, c1, c2, c3⟩ := first_four R.out.byAt.out (by rw [← R.out.len.out]; omega)
  rw [hq, size_loop] at hNz
  have HN := Lib.hid hNz
  clear hNz hq
  obtain ⟨A2, r2, d4⟩ := cut_to (some ⟨g, off, none⟩) n C (5 + N) (by omega) hcn
  obtain ⟨A3, C3, r3, d5, d6, d7⟩ := cut_mid (some ⟨g, off, none⟩) n C (5 + N) (9 + N) (by omega) (by omega) hcn
  have r2 : ∀ w, (Instr.slice 22 (.slice (some ⟨g, off, none⟩) n C) none (some (.int .i64 (5 + (N : Int)))) none).run Tryd.prog w = .ok (.slice A2 (5 + N) C) w := r2
  have r3 : ∀ w, (Instr.slice 22 (.slice (some ⟨g, off, none⟩) n C) (some (.int .i64 (5 + (N : Int)))) (some (.int .i64 (9 + (N : Int)))) none).run Tryd.prog w = .ok (.slice A3 4 C3) w := by rw [show 9 + N - (5 + N) = 4 by omega] at r3; exact r3
  rw [show 9 + N - (5 + N) = 4 by omega] at d7
  have HA2 := Lib.hid (d4 w q HL.out HQ.out)
  have HA3 := Lib.hid (d7 w q HL.out HQ.out)
  have L2 : Hid (5 + N = (q.take (5 + N)).length) := Lib.hid (by rw [List.length_take, ← HL.out]; omega)
  have L3 : Hid (4 = ((q.drop (5 + N)).take 4).length) := Lib.hid (by rw [List.length_take, List.length_drop, ← HL.out]; omega)
  have k52 : ∀ W : World, (convert 22 9 (.slice (some ⟨W.heap.size, 0, none⟩) 4 4)).run Tryd.prog (W.alloc (.cells (fourC S) 5)).drew = .ok (.string (strB (Pg.four S))) (W.alloc (.cells (fourC S) 5)).drew := fun W =>
    conv_by 4 4 (ByAt.of_row _ (Pg.four_lt S) (w := (W.alloc (.cells (fourC S) 5)).drew) (heap_alloc_new' W _) (by rw [fourC_list]; exact ⟨[], by simp⟩)) rfl
  have c59a : (convert 22 9 (.slice A3 4 C3)).run Tryd.prog w.drew = .ok (.string (strB ((q.drop (5 + N)).take 4))) w.drew := conv_by 4 C3 (HA3.out.keep ((Below.refl _ _).drew)) L3.out
  have c59b : (convert 22 9 (.slice A3 4 C3)).run Tryd.prog (w.alloc (.cells (fourC S) 5)).drew = .ok (.string (strB ((q.drop (5 + N)).take 4))) (w.alloc (.cells (fourC S) 5)).drew := conv_by 4 C3 (HA3.out.keep (((Below.refl _ _).alloc (Nat.le_refl _) _).drew)) L3.out
  generalize hs1 : strB (Pg.four S) = s1 at *
  generalize hs2 : strB ((q.drop (5 + N)).take 4) = s2 at *
  have HS2 := Lib.hid hs2
  clear hs1 hs2 d4 d7 d5 d6
  have g1 : ¬ (len : Int) < (k : Int) := by omega
  have g4 : 5 + N ≤ maxLen := by unfold maxLen; omega
  unfold maxLen at hl hc'
  go_enter Tryd.func16, Tryd.ntmps16
  go_wp2
  go_loop [9, 10] (fun s i => ∃ j : Nat, j ≤ 4 ∧ i = .int .i64 (3 - (j : Int)) ∧ s = .int .i64 (part b0 b1 b2 b3 j : Nat)) (fun _ i => (1 + intOf i).toNat)
  case atStart => exact ⟨0, Nat.zero_le _, rfl, rfl⟩
  case round =>
    obtain ⟨j, hj, rfl, rfl⟩ := hrel
    have hjc : j = 0 ∨ j = 1 ∨ j = 2 ∨ j = 3 ∨ j = 4 := by omega
    rcases hjc with rfl | rfl | rfl | rfl | rfl
    · simp only [part]
      go_wp2
      go_round
      case rel => exact ⟨1, by omega, rfl, by simp only [part]; try go_num⟩
      case measure => simp [intOf]
    · simp only [part]
      go_wp2
      go_round
      case rel => exact ⟨2, by omega, rfl, by simp only [part]; try go_num⟩
      case measure => simp [intOf]
    · simp only [part]
      go_wp2
      go_round
      case rel => exact ⟨3, by omega, rfl, by simp only [part]; try go_num⟩
      case measure => simp [intOf]
    · simp only [part]
      go_wp2
      go_round
      case rel => exact ⟨4, by omega, rfl, by simp only [part]; try go_num⟩
      case measure => simp [intOf]
    · have hP : part b0 b1 b2 b3 4 = N := by have := HN.out; show ((b3 * 256 + b2) * 256 + b1) * 256 + b0 = N; omega
      rw [hP]
      clear hP
      go_wp2
      have sm1 : IntKind.i64.wrap (5 + (N : Int)) = 5 + (N : Int) := by rw [IntKind.wrap_i64]; omega
      have sm2 : IntKind.i64.wrap (9 + (N : Int)) = 9 + (N : Int) := by rw [IntKind.wrap_i64]; omega
      go_region_with
        ((first
          | (go_at_call 11; (refine (refSum_any A2 _ _ C L2 g4 _ (Lib.hid (HA2.out.keep ((Below.refl _ _).drew)))).mono ?_); rintro e w3 ⟨rfl, rfl⟩; rw [HS.out])
          | (go_at_call 20; (refine (four_any S hS _).mono ?_); rintro e w3 ⟨rfl, rfl⟩)))
      all_goals
        go_wp2
        refine bodyPost_ret (results_tmp4 rfl _ _ _) rfl ?_
        exact RetQ.err 4 he.out (by decide) (((Below.refl _ _).alloc (Nat.le_refl _) _).drew)
set_option maxHeartbeats 4000000 in
theorem refRead_ok (a : Option Addr) (l : List Nat) (len cap k : Nat) (hk : k ≤ len) (A : Option Addr) (n C : Nat) (q : List Nat) (w : World) (R : Hid (Rest w a l len cap k A n C q)) (hl : len ≤ maxLen)
    (N S : Nat) (hNz : N = Pg.sz q) (h1 : N ≤ 1048576) (h2 : N + 9 ≤ n) (hS : S < 4294967296) (HS : Hid (Pg.sum (q.take (5 + N)) = S)) (hne : ((strB (Pg.four S)).toList == (strB ((q.drop (5 + N)).take 4)).toList) = true) (he : Hid (Pg.errAt l k = 0)) (hkn : Hid (k + n = len)) :
    Calls Tryd.prog 16 #[.slice a len cap, .int .i64 (k : Int)] w (RetQ w l k) := by
  have hc' := R.out.cap'
  have hcn := R.out.cap
  have hr := R.out.run
  have HL := R.out.len
  have HQ := R.out.byAt
  obtain ⟨g, off, b0, b1, b2, b3, r, rfl, hq, l0, l1, l2, l3, hg, c0, c1, c2, c3⟩ := first_four R.out.byAt.out (by rw [← R.out.len.out]; omega)
  rw [hq, size_loop] at hNz
  have HN := Lib.hid hNz
  have hb : Hid (Pg.bodyAt l k = (q.drop 5).take N) := Lib.hid (by unfold Pg.bodyAt; rw [if_pos he.out, R.out.drop]; rw [hq, size_loop, ← hNz])
  have hE : Hid (Pg.endAt l k = (k : Int) + 9 + N) := Lib.hid (by unfold Pg.endAt; rw [if_pos he.out, R.out.drop]; rw [hq, size_loop, ← hNz])
  have h4 : 4 < q.length := by have := HL.out; omega
  have HK : Hid (Pg.kindAt l k = q[4]) := Lib.hid (by unfold Pg.kindAt; rw [if_pos he.out, R.out.drop, List.getD_eq_getElem?_getD, List.getElem?_eq_getElem h4]; rfl)
  have HC := Lib.hid (HQ.out 4 q[4] (List.getElem?_eq_getElem h4))
  generalize q[4] = κ at *
  obtain ⟨-, g', off', e', -, hcell⟩ := HC.out
  cases e'
  clear hNz hq HC
  obtain ⟨A4, C4, r4, e5, e6, e7⟩ := cut_mid (some ⟨g, off, none⟩) n C 5 (5 + N) (by omega) (by omega) hcn
  have r4 : ∀ w, (Instr.slice 22 (.slice (some ⟨g, off, none⟩) n C) (some (.int .i64 5)) (some (.int .i64 (5 + (N : Int)))) none).run Tryd.prog w = .ok (.slice A4 N C4) w := by rw [show 5 + N - 5 = N by omega] at r4; exact r4
  rw [show 5 + N - 5 = N by omega] at e7 e5
  have HA4 := Lib.hid (e7 w q HL.out HQ.out)
  clear e7
  have hcell' : (w.alloc (.cells (fourC S) 5)).cell? ⟨g, off + 4, none⟩ = some (.int .u8 (κ : Int)) := (World.cell?_alloc_lt w _ ⟨g, off + 4, none⟩ hg).trans hcell
  have g5 : (4 : Int) < (n : Int) := by omega
  have g6 : (k : Int) + 9 + N ≤ len := by have := hkn.out; omega
  obtain ⟨A2, r2, d4⟩ := cut_to (some ⟨g, off, none⟩) n C (5 + N) (by omega) hcn
  obtain ⟨A3, C3, r3, d5, d6, d7⟩ := cut_mid (some ⟨g, off, none⟩) n C (5 + N) (9 + N) (by omega) (by omega) hcn
  have r2 : ∀ w, (Instr.slice 22 (.slice (some ⟨g, off, none⟩) n C) none (some (.int .i64 (5 + (N : Int)))) none).run Tryd.prog w = .ok (.slice A2 (5 + N) C) w := r2
  have r3 : ∀ w, (Instr.slice 22 (.slice (some ⟨g, off, none⟩) n C) (some (.int .i64 (5 + (N : Int)))) (some (.int .i64 (9 + (N : Int)))) none).run Tryd.prog w = .ok (.slice A3 4 C3) w := by rw [show 9 + N - (5 + N) = 4 by omega] at r3; exact r3
  rw [show 9 + N - (5 + N) = 4 by omega] at d7
  have HA2 := Lib.hid (d4 w q HL.out HQ.out)
  have HA3 := Lib.hid (d7 w q HL.out HQ.out)
  have L2 : Hid (5 + N = (q.take (5 + N)).length) := Lib.hid (by rw [List.length_take, ← HL.out]; omega)
  have L3 : Hid (4 = ((q.drop (5 + N)).take 4).length) := Lib.hid (by rw [List.length_take, List.length_drop, ← HL.out]; omega)
  have k52 : ∀ W : World, (convert 22 9 (.slice (some ⟨W.heap.size, 0, none⟩) 4 4)).run Tryd.prog (W.alloc (.cells (fourC S) 5)).drew = .ok (.string (strB (Pg.four S))) (W.alloc (.cells (fourC S) 5)).drew := fun W =>
    conv_by 4 4 (ByAt.of_row _ (Pg.four_lt S) (w := (W.alloc (.cells (fourC S) 5)).drew) (heap_alloc_new' W _) (by rw [fourC_list]; exact ⟨[], by simp⟩)) rfl
  have c59a : (convert 22 9 (.slice A3 4 C3)).run Tryd.prog w.drew = .ok (.string (strB ((q.drop (5 + N)).take 4))) w.drew := conv_by 4 C3 (HA3.out.keep ((Below.refl _ _).drew)) L3.out
  have c59b : (convert 22 9 (.slice A3 4 C3)).run Tryd.prog (w.alloc (.cells (fourC S) 5)).drew = .ok (.string (strB ((q.drop (5 + N)).take 4))) (w.alloc (.cells (fourC S) 5)).drew := conv_by 4 C3 (HA3.out.keep (((Below.refl _ _).alloc (Nat.le_refl _) _).drew)) L3.out
  generalize hs1 : strB (Pg.four S) = s1 at *
  generalize hs2 : strB ((q.drop (5 + N)).take 4) = s2 at *
  have HS2 := Lib.hid hs2
  clear hs1 hs2 d4 d7 d5 d6
  have g1 : ¬ (len : Int) < (k : Int) := by omega
  have g4 : 5 + N ≤ maxLen := by unfold maxLen; omega
  unfold maxLen at hl hc'
  go_enter Tryd.func16, Tryd.ntmps16
  go_wp2
  go_loop [9, 10] (fun s i => ∃ j : Nat, j ≤ 4 ∧ i = .int .i64 (3 - (j : Int)) ∧ s = .int .i64 (part b0 b1 b2 b3 j : Nat)) (fun _ i => (1 + intOf i).toNat)
  case atStart => exact ⟨0, Nat.zero_le _, rfl, rfl⟩
  case round =>
    obtain ⟨j, hj, rfl, rfl⟩ := hrel
    have hjc : j = 0 ∨ j = 1 ∨ j = 2 ∨ j = 3 ∨ j = 4 := by omega
    rcases hjc with rfl | rfl | rfl | rfl | rfl
    · simp only [part]
      go_wp2
      go_round
      case rel => exact ⟨1, by omega, rfl, by simp only [part]; try go_num⟩
      case measure => simp [intOf]
    · simp only [part]
      go_wp2
      go_round
      case rel => exact ⟨2, by omega, rfl, by simp only [part]; try go_num⟩
      case measure => simp [intOf]
    · simp only [part]
      go_wp2
      go_round
      case rel => exact ⟨3, by omega, rfl, by simp only [part]; try go_num⟩
      case measure => simp [intOf]
    · simp only [part]
      go_wp2
      go_round
      case rel => exact ⟨4, by omega, rfl, by simp only [part]; try go_num⟩
      case measure => simp [intOf]
    · have hP : part b0 b1 b2 b3 4 = N := by have := HN.out; show ((b3 * 256 + b2) * 256 + b1) * 256 + b0 = N; omega
      rw [hP]
      clear hP
      go_wp2
      have sm1 : IntKind.i64.wrap (5 + (N : Int)) = 5 + (N : Int) := by rw [IntKind.wrap_i64]; omega
      have sm2 : IntKind.i64.wrap (9 + (N : Int)) = 9 + (N : Int) := by rw [IntKind.wrap_i64]; omega
      go_region_with
        ((first
          | (go_at_call 11; (refine (refSum_any A2 _ _ C L2 g4 _ (Lib.hid (HA2.out.keep ((Below.refl _ _).drew)))).mono ?_); rintro e w3 ⟨rfl, rfl⟩; rw [HS.out])
          | (go_at_call 20; (refine (four_any S hS _).mono ?_); rintro e w3 ⟨rfl, rfl⟩)))
      all_goals
        have sm3 : IntKind.i64.wrap ((k : Int) + 9) = (k : Int) + 9 := by rw [IntKind.wrap_i64]; omega
        have sm4 : IntKind.i64.wrap ((k : Int) + 9 + (N : Int)) = (k : Int) + 9 + (N : Int) := by rw [IntKind.wrap_i64]; omega
        go_wp2
        go_quiet (fail)
        go_wp2
        refine bodyPost_ret (results_tmp4 rfl _ _ _) rfl ?_
        refine ⟨A4, C4, ?_, ?_, ?_, by unfold maxLen; omega, ?_⟩
        · exact tup4_eq (by rw [HK.out]) (by rw [hb.out, List.length_take, List.length_drop, ← HL.out]; omega) (by rw [hE.out]) (by rw [he.out]; rfl)
        · rw [hb.out]; exact HA4.out.keep (below_drewN (((Below.refl _ _).alloc (Nat.le_refl _) _).drew) _)
        · rw [hb.out, List.length_take, List.length_drop, ← HL.out]; omega
        · exact below_drewN (((Below.refl _ _).alloc (Nat.le_refl _) _).drew) _

theorem beq_strB {l m : List Nat} (hl : ∀ x ∈ l, x < 256) (hm : ∀ x ∈ m, x < 256) : ((strB l).toList == (strB m).toList) = decide (l = m) := by
  rw [Bool.eq_iff_iff, beq_iff_eq, decide_eq_true_eq]
  constructor
  · intro h
    rw [ByteArray.toList_eq, ByteArray.toList_eq] at h
    exact strB_inj hl hm (bytes_inj h)
  · intro h; rw [h]

/-- The document's Read: whatever the bytes and the place. -/
theorem refRead_any (a : Option Addr) (l : List Nat) (len cap : Nat) (i : Int) (hlen : Hid (len = l.length)) (hc : len ≤ cap) (hl : cap ≤ maxLen) (w : World) (HA : Hid (ByAt w a l)) :
    Calls Tryd.prog 16 #[.slice a len cap, .int .i64 i] w (RetQ w l i) := by
  have hlm : len ≤ maxLen := by omega
  by_cases hi : i < 0 ∨ (len : Int) < i
  · exact refRead_arg a l len cap i hlen hlm hi w
  · obtain ⟨k, rfl⟩ : ∃ k : Nat, i = (k : Int) := ⟨i.toNat, by omega⟩
    have hk : k ≤ len := by omega
    obtain ⟨A, n, C, q, hR⟩ := rest_of a l len cap k hlen hk hc hl w HA
    have R := Lib.hid hR
    by_cases hn : n < 9
    · exact refRead_short a l len cap k hk A n C q w R hn hlm
    · have hql := hR.len.out
      have hkn : k + n = len := by
        have := congrArg List.length hR.drop
        rw [List.length_drop] at this
        have h2 := hlen.out
        omega
      have hqb := hR.byAt.out.lt
      have hz : Pg.sz q < 4294967296 := by
        have h := Pg.val_lt (q.take 4) (fun x hx => hqb x (List.mem_of_mem_take hx))
        rw [List.length_take, Nat.min_eq_left (by omega)] at h
        exact h
      by_cases hs : 1048576 < Pg.sz q ∨ n < Pg.sz q + 9
      · exact refRead_long a l len cap k hk A n C q w R hn hlm hs hz
      · have hS : Pg.sum (q.take (5 + Pg.sz q)) < 4294967296 := Pg.sum_lt (fun x hx => hqb x (List.mem_of_mem_take hx))
        have h4 : ((q.drop (5 + Pg.sz q)).take 4).length = 4 := by rw [List.length_take, List.length_drop]; omega
        have hb4 : ∀ x ∈ (q.drop (5 + Pg.sz q)).take 4, x < 256 := fun x hx => hqb x (List.mem_of_mem_drop (List.mem_of_mem_take hx))
        have heq := beq_strB (Pg.four_lt (Pg.sum (q.take (5 + Pg.sz q)))) hb4
        have hE : Pg.errAt l k = if Pg.val ((q.drop (5 + Pg.sz q)).take 4) = Pg.sum (q.take (5 + Pg.sz q)) then 0 else 4 := by
          rw [hR.err]; unfold Pg.errOf; rw [if_neg (by omega), if_neg (by omega), if_neg (by omega)]
        by_cases hv : Pg.val ((q.drop (5 + Pg.sz q)).take 4) = Pg.sum (q.take (5 + Pg.sz q))
        · exact refRead_ok a l len cap k hk A n C q w R hlm (Pg.sz q) _ rfl (by omega) (by omega) hS (Lib.hid rfl) (by rw [heq, decide_eq_true_eq, ← hv]; exact Pg.four_val _ h4 hb4) (Lib.hid (by rw [hE, if_pos hv])) (Lib.hid hkn)
        · exact refRead_sum a l len cap k hk A n C q w R hlm (Pg.sz q) _ rfl (by omega) (by omega) hS (Lib.hid rfl) (by
            rw [heq, decide_eq_false_iff_not]; intro h; apply hv; rw [← h, Pg.val_four _ hS]) (Lib.hid (by rw [hE, if_neg hv]))
end Go.Proofs.YtamdonglbdmckaaDoor
