/-
  The law ColumnTries: walked.
-/
import Derived.Test.YtplmafbdalkopaaRv
set_option linter.unusedSimpArgs false
set_option linter.unusedVariables false
set_option maxRecDepth 8000
namespace Go.Proofs.Ytplmafbdalkopaa
open Go.RowKit Go.WideShapes Col
theorem atR_start (p : List Nat) : atR p (some p) = 0 := by show (p.length : Int) - (p.length : Int) = 0; omega
set_option maxHeartbeats 8000000 in
theorem columnTries_core (A : Option Addr) (p : List Nat) (n C : Nat) (hn : Hid (n = p.length)) (hnC : n ≤ C) (hC : C ≤ 9223372036854775807) (Aa : Option Addr) (asks : List Nat) (na Ca : Nat) (hna : Hid (na = asks.length)) (hnaC : na ≤ Ca) (hCa : Ca ≤ 9223372036854775807) (chk : Bool) (W : World) (HA : Hid (ByAt W A p)) (HS : Hid (ByAt W Aa asks)) :
    Calls Try.prog 7 #[.slice A n C, .slice Aa na Ca, .bool chk] W fun e w' => e = .returned (.bool true) ∧ Below W.heap.size W w' := by
  obtain ⟨ba, w1, hba, hw1, hrow1, hb1, hlt1⟩ := alloc_pt W (.slice Aa na Ca) 24
  obtain ⟨bc, w2, hbc, hw2, hrow2, hb2, hlt2⟩ := alloc_pt w1 (.bool chk) 4
  have HW2 : Hid ((W.alloc (.cells #[.slice Aa na Ca] 24)).alloc (.cells #[.bool chk] 4) = w2) := Lib.hid (by rw [hw2, hw1])
  have hsz1 : w1.heap.size = W.heap.size + 1 := by rw [hw1]; simp
  have HBA := Lib.hid hba; have HBC : Hid (bc = W.heap.size + 1) := Lib.hid (by rw [hbc, hsz1])
  have HB2 : Hid (Below W.heap.size W w2) := Lib.hid (below_to hb1 hb2)
  have HRA2 : Hid (w2.heap[ba]? = some (.cells #[.slice Aa na Ca] 24 (0, 0))) := Lib.hid ((Kept.of_below (S := fun _ => False) hb2).heap hrow1 fun e => e)
  have HRC2 := Lib.hid hrow2
  have hca2 : w2.cell? ⟨ba, 0, none⟩ = some (.slice Aa na Ca) := by rw [cell_of_row _ _ _ _ _ _ HRA2.out]; rfl
  have HCA2 := Lib.hid hca2
  have hbalt : ba < w2.heap.size := by have := (Array.getElem?_eq_some_iff.1 HRA2.out).1; exact this
  clear hw1 hrow1 hb1 hlt1 hw2 hrow2 hb2 hlt2 hsz1 hca2 hba hbc
  have HSZ2 : Hid (ba < bc ∧ bc < w2.heap.size) := Lib.hid ⟨by have := HBA.out; have := HBC.out; omega, (Array.getElem?_eq_some_iff.1 HRC2.out).1⟩
  by_cases hsmall : n ≤ 500 ∧ na ≤ 30
  · obtain ⟨hn5, hn30⟩ := hsmall
    go_enter Try.func7, Try.ntmps7
    go_upto_region 3 with (go_at_call 10; rw [HW2.out]; refine (awakeC_any _).mono ?_; rintro e w3 ⟨rfl, hb⟩; have HB3 := Lib.hid hb; have ca3 : w3.cell? ⟨ba, 0, none⟩ = some (.slice Aa na Ca) := (hb.cell (p := ⟨ba, 0, none⟩) hbalt).trans HCA2.out; rw [HBA.out] at ca3; clear hb)
    clear ca3
    have hsz3 : w2.heap.size ≤ w3.heap.size := HB3.out.size
    have HBW3 := Lib.hid (below_to HB2.out HB3.out)
    have hk23 : Kept (fun _ => False) w2 w3 := Kept.of_below HB3.out
    have hra3 := hk23.heap HRA2.out fun e => e
    have hrc3 := hk23.heap HRC2.out fun e => e
    obtain ⟨m, w4, hm, hw4, hrow4, hb4, hlt4⟩ : ∃ c w', c = w3.heap.size ∧ w' = w3.alloc (.cells #[.slice A n C, .int .i64 0] 54) ∧ w'.heap[c]? = some (.cells #[.slice A n C, .int .i64 0] 54 (0, 0)) ∧ Below w3.heap.size w3 w' ∧ c < w'.heap.size := ⟨_, _, rfl, rfl, heap_alloc_new' w3 _, (Below.refl _ _).alloc (Nat.le_refl _) _, by simp⟩
    obtain ⟨bm, w5, hbm, hw5, hrow5, hb5, hlt5⟩ := alloc_pt w4 (.pointer (some ⟨m, 0, none⟩)) 52
    obtain ⟨br, w6, hbr, hw6, hrow6, hb6, hlt6⟩ := alloc_pt w5 (.bool true) 4
    obtain ⟨bn, w7, hbn, hw7, hrow7, hb7, hlt7⟩ := alloc_pt w6 (.int .i64 0) 3
    have k34 : Kept (fun _ => False) w3 w4 := Kept.of_below hb4
    have k45 : Kept (fun _ => False) w4 w5 := Kept.of_below hb5
    have k56 : Kept (fun _ => False) w5 w6 := Kept.of_below hb6
    have k67 : Kept (fun _ => False) w6 w7 := Kept.of_below hb7
    have k37 := ((k34.trans k45).trans k56).trans k67
    have hs4 : w4.heap.size = w3.heap.size + 1 := by rw [hw4]; simp
    have hs5 : w5.heap.size = w3.heap.size + 2 := by rw [hw5]; simp [hs4]
    have hs6 : w6.heap.size = w3.heap.size + 3 := by rw [hw6]; simp [hs5]
    have hord := HSZ2.out
    have HBW7 : Hid (Below W.heap.size W w7) := Lib.hid (below_to (below_to (below_to (below_to HBW3.out hb4) hb5) hb6) hb7)
    have HTB : Hid (TB m ba bm br bn bc A C p Aa na Ca asks chk 0 (some p) w7) := Lib.hid
      ⟨k37.heap hra3 fun e => e, (k56.trans k67).heap hrow5 fun e => e, k67.heap hrow6 fun e => e, hrow7, k37.heap hrc3 fun e => e,
        ⟨by rw [atR_start, ← hn.out]; exact ((k45.trans k56).trans k67).heap hrow4 fun e => e, by rw [← hn.out]; exact hnC, hC, HA.out.keep HBW7.out, fun q h => by injection h with h; exact ⟨0, Nat.zero_le _, by rw [← h]; rfl⟩, fun a ha h0 e => by
          obtain ⟨b', off, e1, hb', -⟩ := HA.out.spot h0
          rw [e1] at ha; injection ha with ha; subst ha
          have e : b' = m := e
          have := HBW3.out.size; omega, by rw [← hn.out]; omega⟩,
        HS.out.keep HBW7.out, by omega⟩
    have hm0 := HTB.out.ord
    have hlast : bn < w7.heap.size := hlt7
    have hWm : W.heap.size ≤ m := by have := HBW3.out.size; omega
    have HW7 : Hid ((((w3.alloc (.cells #[.slice A n C, .int .i64 0] 54)).alloc (.cells #[.pointer (some ⟨w3.heap.size, 0, none⟩)] 52)).alloc (.cells #[.bool true] 4)).alloc (.cells #[.int .i64 0] 3) = w7) := Lib.hid (by rw [hw7, hw6, hw5, hw4, hm])
    have ht := try_any 29 #[] #[.pointer (some ⟨ba, 0, none⟩), .pointer (some ⟨bm, 0, none⟩), .pointer (some ⟨br, 0, none⟩), .pointer (some ⟨bn, 0, none⟩), .pointer (some ⟨bc, 0, none⟩)] A C p n hn hnC hC w7 (Lib.hid (HA.out.keep HBW7.out)) (Four m br bn) (fun k hk => by rcases hk with e | e | e <;> omega)
      (fun g => RGf m ba bm br bn bc A C p Aa na Ca asks chk g) (RTr m ba bm br bn bc A C p Aa na Ca asks chk)
      (fun g b v2 v3 hg h hk => by
        obtain ⟨h1, hoA, hoS⟩ := h
        have hS : ∀ k, Only g k → k ≠ ba ∧ k ≠ bm ∧ k ≠ br ∧ k ≠ bn ∧ k ≠ bc ∧ k ≠ m := fun k e => by have e : k = g := e; omega
        rcases h1 with ⟨i, k, s, h2, h3, h4, h5, h6⟩ | ⟨q, h2, h3⟩
        · exact .inl ⟨i, k, s, h2, h3, h4, h5, h6.keep hk hS hoA hoS⟩
        · exact .inr ⟨q, h2, h3.keep hk hS hoA hoS⟩)
      (fun g v1 hg hr hb => triesFn_any m ba bm br bn bc g A C p Aa na Ca asks chk hna hn30 (by rw [← hn.out]; exact hn5) (by omega) v1 (Lib.hid hr) (Lib.hid (HTB.out.keep (S := fun _ => False) (Kept.of_below hb) (fun k e => e.elim) (fun _ _ _ e => e) (fun _ _ _ e => e))))
      (fun _ _ => by first | rfl | kernel_rfl)
    have HT := Lib.hid ht
    have HP4 : Hid (w3.heap.size = m ∧ w3.heap.size + 1 = bm ∧ w3.heap.size + 1 + 1 = br ∧ w3.heap.size + 1 + 1 + 1 = bn) := Lib.hid (by omega)
    clear ht hm hw4 hrow4 hb4 hlt4 hbm hw5 hrow5 hb5 hlt5 hbr hw6 hrow6 hb6 hlt6 hbn hw7 hrow7 hb7 hlt7 k34 k45 k56 k67 k37 hs4 hs5 hs6 hra3 hrc3 hk23 hord hsz3
    go_upto_region 6 with fail
    rw [HW7.out]
    have e1 := HP4.out.1; have e2 := HP4.out.2.1; have e3 := HP4.out.2.2.1; have e4 := HP4.out.2.2.2; have e5 := HBA.out; have e6 := HBC.out
    rw [e4, e3, e2, e1, ← e6, ← e5]
    clear e1 e2 e3 e4 e5 e6
    go_upto_region 7 with (go_at_call 28; (with_reducible refine (HT.out).mono ?_); rintro e w8 ⟨b, rfl, hr, hk⟩; have HRT := Lib.hid hr; have HK8 := Lib.hid hk; clear hr hk)
    have HBW8 : Hid (Below W.heap.size W w8) := Lib.hid (HBW7.out.trans (HK8.out.below (B := W.heap.size) (by omega) fun k hk => by rcases hk with e | e | e <;> omega))
    rcases HRT.out with ⟨i, k, s, hi, hki, rfl, hfl, htb⟩ | ⟨q, hb, htb⟩
    · have HTB8 := Lib.hid htb
      have HFL := Lib.hid hfl
      have cn := htb.c_n; have ca := htb.c_a; have cm := htb.c_m; have cr := htb.c_r
      obtain ⟨hk256, gk, ok, rfl, -, ck⟩ := htb.asks i k hki
      have hkw : IntKind.u64.wrap (k : Int) = (k : Int) := by rw [IntKind.wrap_u64]; omega
      have hki64 : IntKind.i64.wrap (k : Int) = (k : Int) := by rw [IntKind.wrap_i64]; omega
      have hmul : (k : Int) * (k : Int) = ((k * k : Nat) : Int) := (Int.natCast_mul k k).symm
      have hkk : k * k ≤ 65025 := by
        have : k * k ≤ 255 * 255 := Nat.mul_le_mul (by omega) (by omega)
        omega
      obtain ⟨kk, hkke⟩ : ∃ kk, kk = k * k := ⟨_, rfl⟩
      rw [← hkke] at hmul hkk
      have HKK := Lib.hid hkke
      have HNM : Hid (¬ Only m bm ∧ ¬ Only m br) := Lib.hid ⟨fun e => by have e : bm = m := e; omega, fun e => by have e : br = m := e; omega⟩
      have HML : Hid (bm < w8.heap.size ∧ br < w8.heap.size) := Lib.hid ⟨htb.mlt, (Array.getElem?_eq_some_iff.1 htb.rr).1⟩
      have HCM := Lib.hid cm; have HCR := Lib.hid cr
      have HBE : Hid (∀ w9, Kept (Only m) w8 w9 → Below W.heap.size W w9) := Lib.hid fun w9 h => HBW8.out.trans (h.below (B := W.heap.size) HBW8.out.size fun k hk => by have hk : k = m := hk; omega)
      obtain ⟨k4, hk4⟩ : ∃ k4, k4 = k % 4 := ⟨_, rfl⟩
      have hk4i : (k : Int) % 4 = (k4 : Int) := by omega
      have HK4 := Lib.hid (show k % 4 = k4 from hk4.symm)
      have hcases : k4 = 0 ∨ k4 = 1 ∨ k4 = 2 ∨ k4 = 3 := by omega
      clear htb hfl hki hk4 hkke HRT
      rcases hcases with rfl | rfl | rfl | rfl
      · have HNO : Hid ((uintS kk s).2 = none) := Lib.hid (by have h := HFL.out; unfold refT at h; rw [if_pos HK4.out] at h; rw [HKK.out]; exact h)
        have HREF := Lib.hid (ruint_any m C A p kk s w8 (Lib.hid HTB8.out.ref))
        rw [HNO.out] at HREF
        go_wp2_with (go_at_call 31; (with_reducible refine (HREF.out).mono ?_); rintro e w9 hy; obtain ⟨rfl, HR9, HK9⟩ := hy.at; have c19 : w9.cell? ⟨m, 1, none⟩ = some (.int .i64 (-1)) := HR9.out.c1; have cm9 := (HK9.out.cell (p := ⟨bm, 0, none⟩) HML.out.1 HNM.out.1).trans HCM.out; have cr9 := (HK9.out.cell (p := ⟨br, 0, none⟩) HML.out.2 HNM.out.2).trans HCR.out; have HB9 := Lib.hid (HBE.out w9 HK9.out); clear hy)
        go_ret
        exact ⟨rfl, HB9.out⟩
      · have HNO : Hid ((intS s).2 = none) := Lib.hid (by have h := HFL.out; unfold refT at h; rw [if_neg (by have := HK4.out; omega), if_pos HK4.out] at h; exact h)
        have HREF := Lib.hid (rint_any m C A p s w8 (Lib.hid HTB8.out.ref))
        rw [HNO.out] at HREF
        go_wp2_with (go_at_call 33; (with_reducible refine (HREF.out).mono ?_); rintro e w9 hy; obtain ⟨rfl, HR9, HK9⟩ := hy.at; have c19 : w9.cell? ⟨m, 1, none⟩ = some (.int .i64 (-1)) := HR9.out.c1; have cm9 := (HK9.out.cell (p := ⟨bm, 0, none⟩) HML.out.1 HNM.out.1).trans HCM.out; have cr9 := (HK9.out.cell (p := ⟨br, 0, none⟩) HML.out.2 HNM.out.2).trans HCR.out; have HB9 := Lib.hid (HBE.out w9 HK9.out); clear hy)
        go_ret
        exact ⟨rfl, HB9.out⟩
      · have HNO : Hid ((textS k s).2 = none) := Lib.hid (by have h := HFL.out; unfold refT at h; rw [if_neg (by have := HK4.out; omega), if_neg (by have := HK4.out; omega), if_pos HK4.out] at h; exact h)
        have HREF := Lib.hid (rtext_any m C A p k (by omega) s w8 (Lib.hid HTB8.out.ref))
        rw [HNO.out] at HREF
        go_wp2_with (go_at_call 35; (with_reducible refine (HREF.out).mono ?_); rintro e w9 hy; obtain ⟨rfl, HR9, HK9⟩ := hy.at; have c19 : w9.cell? ⟨m, 1, none⟩ = some (.int .i64 (-1)) := HR9.out.c1; have cm9 := (HK9.out.cell (p := ⟨bm, 0, none⟩) HML.out.1 HNM.out.1).trans HCM.out; have cr9 := (HK9.out.cell (p := ⟨br, 0, none⟩) HML.out.2 HNM.out.2).trans HCR.out; have HB9 := Lib.hid (HBE.out w9 HK9.out); clear hy)
        go_ret
        exact ⟨rfl, HB9.out⟩
      · have HNO : Hid ((byteS s).2 = none) := Lib.hid (by have h := HFL.out; unfold refT at h; rw [if_neg (by have := HK4.out; omega), if_neg (by have := HK4.out; omega), if_neg (by have := HK4.out; omega)] at h; exact h)
        have HREF := Lib.hid (rbyte_any m C A p s w8 (Lib.hid HTB8.out.ref))
        rw [HNO.out] at HREF
        go_wp2_with (go_at_call 37; (with_reducible refine (HREF.out).mono ?_); rintro e w9 hy; obtain ⟨rfl, HR9, HK9⟩ := hy.at; have c19 : w9.cell? ⟨m, 1, none⟩ = some (.int .i64 (-1)) := HR9.out.c1; have cm9 := (HK9.out.cell (p := ⟨bm, 0, none⟩) HML.out.1 HNM.out.1).trans HCM.out; have cr9 := (HK9.out.cell (p := ⟨br, 0, none⟩) HML.out.2 HNM.out.2).trans HCR.out; have HB9 := Lib.hid (HBE.out w9 HK9.out); clear hy)
        go_ret
        exact ⟨rfl, HB9.out⟩
    · have HTB8 := Lib.hid htb
      have cn := htb.c_n; have ca := htb.c_a; have cm := htb.c_m; have cr := htb.c_r; have cc := htb.c_c
      obtain ⟨z, hz, hzl⟩ := atR_pos htb.ref
      have c1 := htb.ref.c1
      rw [hz] at c1
      rw [← hn.out] at hzl
      have hnn : ¬ ((na : Int) < (na : Int)) := by omega
      clear htb HRT
      cases chk
      · obtain rfl : b = false := by rw [hb]; rfl
        clear hb
        go_wp2
        go_ret
        exact ⟨rfl, HBW8.out⟩
      · by_cases hq : q = []
        · obtain rfl : b = true := by rw [hb, hq]; rfl
          obtain rfl : z = n := by rw [hq] at hzl; simpa using hzl
          clear hb
          have hzz : ((z : Int) == (z : Int)) = true := by simp
          go_wp2
          go_ret
          exact ⟨rfl, HBW8.out⟩
        · obtain rfl : b = false := by rw [hb]; simp [hq]
          have hql : 0 < q.length := List.length_pos_iff.2 hq
          have hzz : ((z : Int) == (n : Int)) = false := by rw [beq_eq_false_iff_ne]; omega
          clear hb
          go_wp2
          go_ret
          exact ⟨rfl, HBW8.out⟩
  · have HNS := Lib.hid hsmall
    clear hsmall
    by_cases hn5 : n ≤ 500
    · have hna30 : ¬ na ≤ 30 := fun h => HNS.out ⟨hn5, h⟩
      go_enter Try.func7, Try.ntmps7
      go_wp2_with (go_at_call 10; first | rw [HW2.out] | skip; refine (awakeC_any _).mono ?_; rintro e w3 ⟨rfl, hb⟩; first | (have HB4 := Lib.hid (below_to HB3.out hb); clear hb) | (have HB3 := Lib.hid hb; have ca3 : w3.cell? ⟨ba, 0, none⟩ = some (.slice Aa na Ca) := (hb.cell (p := ⟨ba, 0, none⟩) hbalt).trans HCA2.out; rw [HBA.out] at ca3; clear hb))
      go_ret
      exact ⟨rfl, below_to HB2.out HB4.out⟩
    · go_enter Try.func7, Try.ntmps7
      go_wp2_with (go_at_call 10; (first | rw [HW2.out] | skip); refine (awakeC_any _).mono ?_; rintro e w3 ⟨rfl, hb⟩; first | (have HB4 := Lib.hid (below_to HB3.out hb); clear hb) | (have HB3 := Lib.hid hb; clear hb))
      go_ret
      exact ⟨rfl, below_to HB2.out HB4.out⟩
theorem columnTries_any (A : Option Addr) (p : List Nat) (n C : Nat) (hn : Hid (n = p.length)) (hnC : n ≤ C) (hC : C ≤ maxLen) (Aa : Option Addr) (asks : List Nat) (na Ca : Nat) (hna : Hid (na = asks.length)) (hnaC : na ≤ Ca) (hCa : Ca ≤ maxLen) (chk : Bool) (W : World) (HA : Hid (ByAt W A p)) (HS : Hid (ByAt W Aa asks)) :
    Calls Try.prog 7 #[.slice A n C, .slice Aa na Ca, .bool chk] W fun e w' => e = .returned (.bool true) ∧ Below W.heap.size W w' :=
  columnTries_core A p n C hn hnC hC Aa asks na Ca hna hnaC hCa chk W HA HS
end Go.Proofs.Ytplmafbdalkopaa
