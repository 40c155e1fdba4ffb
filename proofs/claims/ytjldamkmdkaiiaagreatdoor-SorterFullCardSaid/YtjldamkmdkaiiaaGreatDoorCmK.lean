/-
  Layer column: readInts, ReadInts.
-/
import Derived.Test.YtjldamkmdkaiiaaGreatDoorCiK
set_option linter.unusedSimpArgs false
set_option linter.unusedVariables false
set_option maxRecDepth 8000
namespace Go.Proofs.YtjldamkmdkaiiaaGreatDoor
open Go.RowKit Go.WideShapes Col
namespace Col
def rpk2 (n : Nat) (mn : Int) : List Nat → Option (List Int × List Nat)
 | [] => none
 | W :: r => if W ≤ 64 ∧ (n * W + 7) / 8 ≤ r.length ∧ vlb (r.take ((n * W + 7) / 8)) < 2 ^ (n * W) then some ((List.range n).map (pval W (vlb (r.take ((n * W + 7) / 8))) mn), r.drop ((n * W + 7) / 8)) else none
def rpk (n : Nat) (q : List Nat) : Option (List Int × List Nat) := if n = 0 then some ([], q) else (zP q).bind fun p => rpk2 n p.1 p.2
theorem rpk_of {n : Nat} {q r : List Nat} {mn : Int} (h0 : n ≠ 0) (h : zP q = some (mn, r)) : rpk n q = rpk2 n mn r := by unfold rpk; rw [if_neg h0, h]; rfl
theorem rpk2_no {n W K : Nat} {mn : Int} {r : List Nat} (hK : K = (n * W + 7) / 8) (h : ¬ (W ≤ 64 ∧ K ≤ r.length ∧ vlb (r.take K) < 2 ^ (n * W))) : rpk2 n mn (W :: r) = none := by subst hK; rw [rpk2, if_neg h]
theorem rpk2_yes {n W K : Nat} {mn : Int} {r : List Nat} (hK : K = (n * W + 7) / 8) (h : W ≤ 64 ∧ K ≤ r.length ∧ vlb (r.take K) < 2 ^ (n * W)) : rpk2 n mn (W :: r) = some ((List.range n).map (pval W (vlb (r.take K)) mn), r.drop K) := by subst hK; rw [rpk2, if_pos h]
end Col
theorem packed_times (g ca cw cl cp W K C V : Nat) (A : Option Addr) (mn : Int) (n : Nat) (hn : n ≤ 4096) (r2 : List Nat) (w0 w8 : World) (hW : W ≤ 64) (hK : K ≤ 100000000) (hWn : n * W ≤ 8 * K) (hV : Hid (V < 2 ^ (8 * K))) (H : Hid (PS g ca cw cl cp W K C V A mn (0, r2) w8)) (hk : Kept (Only g) w0 w8) (hca : w0.heap.size ≤ ca) :
  Calls Tryz.prog 173 #[.int .i64 (n : Int), .func (.func 192) #[] #[.pointer (some ⟨ca, 0, none⟩), .pointer (some ⟨cw, 0, none⟩), .pointer (some ⟨cl, 0, none⟩), .pointer (some ⟨cp, 0, none⟩)]] w8
   (ListEnds g (Only g) (RdM g) (some ((List.range n).map (pval W V mn), r2)) w0) := by
 have hl := H.out.lts
 have ht := times_any (pstep W V mn) 192 #[] #[.pointer (some ⟨ca, 0, none⟩), .pointer (some ⟨cw, 0, none⟩), .pointer (some ⟨cl, 0, none⟩), .pointer (some ⟨cp, 0, none⟩)] (fun _ _ => by first | rfl | kernel_rfl) n hn g (Two g ca) (PS g ca cw cl cp W K C V A mn) w8
  (Lib.hid fun k hk => by have := H.out.n1; rcases hk with hk | hk <;> omega)
  (Lib.hid fun s w1 w3 h hk => h.keep hk fun k hk => by have := H.out.n1; have hk : w8.heap.size ≤ k := hk; omega)
  (0, r2) (Lib.hid fun k xs s w1 hkn hrun h _ => by
   rw [prun] at hrun
   injection hrun with hrun
   injection hrun with e1 e2
   subst e2
   exact packed_step g ca cw cl cp W K C V A mn k r2 hW hK (by
    have : (k + 1) * W ≤ n * W := Nat.mul_le_mul_right _ (by omega)
    rw [Nat.add_mul, Nat.one_mul] at this; omega) hV w1 (Lib.hid h)) H
 refine ht.mono fun e w' h => ?_
 rw [prun] at h
 exact h.lift hk (fun s => s.2) (fun s w' h => h.rd) (fun k hk => by
  rcases hk with hk | hk
  ·exact .inl hk
  ·right; omega)
theorem alloc_pt (w : World) (v : Value) (ty : TypeId) : ∃ c w', c = w.heap.size ∧ w' = w.alloc (.cells #[v] ty) ∧ w'.heap[c]? = some (.cells #[v] ty (0, 0)) ∧ Below w.heap.size w w' ∧ c < w'.heap.size :=
 ⟨_, _, rfl, rfl, heap_alloc_new' w _, (Below.refl _ _).alloc (Nat.le_refl _) _, by simp⟩
theorem last_byte {K V MW us b : Nat} (hV : V < 2 ^ (8 * K)) (hK : K = (MW + 7) / 8) (hus : us = MW % 8) (h0 : 0 < us) (hb : b = V / 2 ^ (8 * (K - 1)) % 256) : (b / 2 ^ us = 0 ↔ V < 2 ^ MW) := by
 have hK1 : 8 * K = 8 * (K - 1) + 8 := by omega
 have hMW : MW = 8 * (K - 1) + us := by omega
 have h1 : V / 2 ^ (8 * (K - 1)) < 256 := by rw [Nat.div_lt_iff_lt_mul (Nat.two_pow_pos _), Nat.mul_comm, show (256 : Nat) = 2 ^ 8 from rfl, ← Nat.pow_add, ← hK1]; exact hV
 rw [Nat.mod_eq_of_lt h1] at hb
 subst hb
 rw [Nat.div_div_eq_div_mul, ← Nat.pow_add, ← hMW]
 rw [Nat.div_eq_zero_iff]
 have := Nat.two_pow_pos MW
 omega
set_option maxHeartbeats 4000000 in
theorem readPacked_any (g : Nat) (n : Nat) (hn : n ≤ 4096) (q : List Nat) (w : World) (H : Hid (RdM g q w)) :
  Calls Tryz.prog 177 #[.pointer (some ⟨g, 0, none⟩), .int .i64 (n : Int)] w (ListEnds g (Only g) (RdM g) (rpk n q) w) := by
 by_cases hn0 : n = 0
 ·subst hn0
  go_enter Tryz.func177, Tryz.ntmps177
  go_wp2
  go_ret
  exact ⟨⟨none, 0, 0, rfl, OwnI.nil _ _⟩, H.out, Kept.refl _ _⟩
 ·have hz0 : ((n : Int) == 0) = false := by rw [beq_eq_false_iff_ne]; omega
  rcases hz : zP q with _ | ⟨mn, q1⟩
  ·have HI := Lib.hid (int_no g q (Lib.hid hz) q.length (Lib.hid rfl) H.out.2 w (Lib.hid H.out.1))
   have HN : Hid (rpk n q = none) := Lib.hid (by unfold rpk; rw [if_neg hn0, hz]; rfl)
   rw [HN.out]
   clear hz hn0
   go_enter Tryz.func177, Tryz.ntmps177
   go_wp2_with (go_at_call 174; (with_reducible refine (HI.out).mono ?_); rintro e w2 ⟨rfl, h1, h2⟩)
   exact ⟨rfl, rfl, h1, h2⟩
  ·have HI := Lib.hid (int_yes g mn q q1 (Lib.hid hz) (by have := H.out.2; omega) w (Lib.hid H.out.1))
   have HL1 := Lib.hid (Nat.le_trans (zP_left hz) H.out.2)
   have HWM := Lib.hid (zP_wf hz H.out.1.lt)
   have HN : Hid (rpk n q = rpk2 n mn q1) := Lib.hid (rpk_of hn0 hz)
   rw [HN.out]
   clear hz hn0
   go_enter Tryz.func177, Tryz.ntmps177
   go_wp2_with (go_at_call 174; (with_reducible refine (HI.out).mono ?_); rintro e w2 hy; obtain ⟨rfl, HR1, HK1⟩ := Yes.rd hy; clear hy)
   obtain ⟨cl, hcl⟩ : ∃ cl, cl = w2.heap.size := ⟨_, rfl⟩
   obtain ⟨w3, hw3⟩ : ∃ w3, w3 = w2.alloc (.cells #[.int .i64 mn] 2) := ⟨_, rfl⟩
   have HCL : Hid (w3.heap[cl]? = some (.cells #[.int .i64 mn] 2 (0, 0))) := Lib.hid (by rw [hw3, hcl]; exact heap_alloc_new' _ _)
   have HB3 : Hid (Below w2.heap.size w2 w3) := Lib.hid (by rw [hw3]; exact (Below.refl _ _).alloc (Nat.le_refl _) _)
   have hgcl : g < cl := by rw [hcl]; exact HR1.out.glt
   have hcl3 : cl < w3.heap.size := by rw [hw3, hcl]; simp
   have HWcl : Hid (w.heap.size ≤ cl) := Lib.hid (by rw [hcl]; exact HK1.out.size)
   have HR3 : Hid (Rd w3 g q1) := Lib.hid (HR1.out.high (S := fun _ => False) (Kept.of_below HB3.out) fun k hk => hk.elim)
   have HK3 : Hid (Kept (Only g) w w3) := Lib.hid (HK1.out.trans (Kept.of_below HB3.out))
   rw [← hw3, ← hcl]
   clear hw3 hcl HB3 HR1 HK1 HI
   rcases q1 with _ | ⟨W, r⟩
   ·refine (byte_no g _ HR3).mono ?_
    rintro e w4 ⟨rfl, h1, h2⟩
    exact ⟨rfl, rfl, h1, HK3.out.trans h2⟩
   ·have HWB : Hid (W < 256) := Lib.hid (HR3.out.lt W (List.mem_cons_self ..))
    refine (byte_yes g W r _ HR3).mono ?_
    rintro e w4 hy; obtain ⟨rfl, HR4, HK4⟩ := Yes.rd hy; clear hy
    have hwi : IntKind.i64.wrap (W : Int) = (W : Int) := by have := HWB.out; rw [IntKind.wrap_i64]; omega
    have hw256 := HWB.out
    obtain ⟨cw, hcw⟩ : ∃ cw, cw = w4.heap.size := ⟨_, rfl⟩
    obtain ⟨w5, hw5⟩ : ∃ w5, w5 = w4.alloc (.cells #[.int .i64 (W : Int)] 3) := ⟨_, rfl⟩
    have HE5 : Hid (w4.alloc (.cells #[.int .i64 (W : Int)] 3) = w5) := Lib.hid hw5.symm
    have HEC : Hid (w4.heap.size = cw) := Lib.hid hcw.symm
    have HB5 : Hid (Below w4.heap.size w4 w5) := Lib.hid (by rw [hw5]; exact (Below.refl _ _).alloc (Nat.le_refl _) _)
    have HCW : Hid (w5.heap[cw]? = some (.cells #[.int .i64 (W : Int)] 3 (0, 0))) := Lib.hid (by rw [hw5, hcw]; exact heap_alloc_new' _ _)
    have HCL5 : Hid (w5.heap[cl]? = some (.cells #[.int .i64 mn] 2 (0, 0))) := Lib.hid ((Kept.of_below (S := fun _ => False) HB5.out).heap (HK4.out.heap HCL.out fun e => by have e : cl = g := e; omega) fun e => e.elim)
    have hgcw : g < cw := by rw [hcw]; exact HR4.out.glt
    have hclw : cl < cw := by rw [hcw]; exact Nat.lt_of_lt_of_le hcl3 HK4.out.size
    have hcw5 : cw < w5.heap.size := by rw [hw5, hcw]; simp
    have HR5 : Hid (Rd w5 g r) := Lib.hid (HR4.out.high (S := fun _ => False) (Kept.of_below HB5.out) fun k hk => hk.elim)
    have HK5 : Hid (Kept (Only g) w w5) := Lib.hid ((HK3.out.trans HK4.out).trans (Kept.of_below HB5.out))
    have hc5 : w5.cell? ⟨cw, 0, none⟩ = some (.int .i64 (W : Int)) := by rw [cell_of_row _ _ _ _ _ _ HCW.out]; rfl
    clear hw5 hcw HB5 HR4 HR3 HCL HK3
    go_upto_region 5 with fail
    rw [HE5.out, HEC.out]
    clear HE5 HEC HK4
    by_cases hW : W ≤ 64
    ·have hWi : (W : Int) ≤ 64 := by omega
     obtain ⟨MW, hMW⟩ : ∃ MW, MW = n * W := ⟨_, rfl⟩
     have hMWi : (n : Int) * (W : Int) = (MW : Int) := by rw [hMW]; exact (Int.natCast_mul n W).symm
     have hMWb : MW ≤ 262144 := by
      have : n * W ≤ 4096 * 64 := Nat.mul_le_mul hn hW
      omega
     obtain ⟨K, hK⟩ : ∃ K, K = (MW + 7) / 8 := ⟨_, rfl⟩
     have hKb : K ≤ 32769 := by omega
     have hKw : IntKind.u64.wrap (K : Int) = (K : Int) := by rw [IntKind.wrap_u64]; omega
     have HKE : Hid (K = (n * W + 7) / 8) := Lib.hid (by rw [hK, hMW])
     have HKM : Hid (K = (MW + 7) / 8) := Lib.hid hK
     have HMW := Lib.hid hMW
     have hBC := byteCount_any MW (by omega)
     rw [← hK] at hBC
     have HBC := Lib.hid hBC
     clear hBC hK hMW
     by_cases hKr : K ≤ r.length
     ·obtain ⟨V, hVe⟩ : ∃ V, V = vlb (r.take K) := ⟨_, rfl⟩
      have hrl : ∀ x ∈ r.take K, x < 256 := fun x hx => HR5.out.lt x (List.mem_of_mem_take hx)
      have htl : (r.take K).length = K := by rw [List.length_take]; omega
      have HLEB : Hid (r.take K = leb K V) := Lib.hid (by
       have h := leb_vlb _ hrl
       rw [htl, ← hVe] at h; exact h.symm)
      have HV : Hid (V < 2 ^ (8 * K)) := Lib.hid (by have h := vlb_lt _ hrl; rwa [htl, ← hVe] at h)
      have HVE := Lib.hid hVe
      have HRL : Hid (r.length ≤ 1099511627776) := Lib.hid (by have := HL1.out; simp at this; omega)
      obtain ⟨A5, C5, hrd5⟩ := HR5.out
      have HT := Lib.hid (take_yes g C5 A5 r K r.length (Lib.hid rfl) hKr w5 (Lib.hid hrd5))
      have HKR := Lib.hid hKr
      clear hKr hrd5 hrl htl hVe
      go_upto_region 7 with (first
       | (go_at_call 121; refine (check_true _ _).mono ?_; rintro e w6 ⟨rfl, rfl⟩)
       | (go_at_call 150; refine (HBC.out _).mono ?_; rintro e w6 ⟨rfl, rfl⟩)
       | (go_at_call 169; (with_reducible refine (HT.out).mono ?_); rintro e w6 ⟨A, C, rfl, h1, h2, h3, h4, h5, h6, h7⟩; have HBY := Lib.hid h3; have HOF := Lib.hid h4; have HR6 := Lib.hid h5; have HK6 := Lib.hid h6; have HLO := Lib.hid h7; clear h3 h4 h5 h6 h7))
      obtain ⟨cp, w7, hcp, hw7, hrow7, hb7, hcp7⟩ := alloc_pt w6 (.slice A K C) 32
      rw [← hcp, ← hw7]
      have HK7 : Hid (Kept (Only g) w5 w7) := Lib.hid (HK6.out.trans (Kept.of_below hb7))
      have hw56 := HK6.out.size
      have HR7 : Hid (Rd w7 g (r.drop K)) := Lib.hid (HR6.out.high (S := fun _ => False) (Kept.of_below hb7) fun k hk => hk.elim)
      have HCW7 := Lib.hid (HK7.out.heap HCW.out fun e => by have e : cw = g := e; omega)
      have HCL7 := Lib.hid (HK7.out.heap HCL5.out fun e => by have e : cl = g := e; omega)
      have HCP7 := Lib.hid hrow7
      have HBY7 : Hid (ByAt w7 A (leb K V)) := Lib.hid (by rw [← HLEB.out]; exact (HBY.out.kept HK6.out HOF.out).keep hb7)
      have HLO7 : Hid (∀ a, A = some a → 0 < (leb K V).length → a.block < g) := Lib.hid (by rw [← HLEB.out]; exact HLO.out)
      have hgcp : g < cp := by omega
      have hc7 : w7.cell? ⟨cw, 0, none⟩ = some (.int .i64 (W : Int)) := by rw [cell_of_row _ _ _ _ _ _ HCW7.out]; rfl
      have hp7 : w7.cell? ⟨cp, 0, none⟩ = some (.slice A K C) := by rw [cell_of_row _ _ _ _ _ _ HCP7.out]; rfl
      have hcw7 : cw < w7.heap.size := Nat.lt_of_lt_of_le hcw5 HK7.out.size
      clear hcp hw7 hrow7 hb7 HT HBY HOF HR6 HK6 HLO HR5 hc5
      obtain ⟨us, hus⟩ : ∃ us, us = MW % 8 := ⟨_, rfl⟩
      have hqs : (MW : Int) % 8 = (us : Int) := by omega
      have hqs2 : (MW : Int).tmod 8 = (us : Int) := by rw [Int.tmod_eq_emod_of_nonneg (by omega)]; exact hqs
      have HUS := Lib.hid hus
      have hus8 : us < 8 := by omega
      have hK9 : K ≤ 100000000 := by omega
      have hWn : n * W ≤ 8 * K := by have := HKE.out; omega
      have HYES : ∀ (hv : V < 2 ^ MW), Hid (rpk2 n mn (W :: r) = some ((List.range n).map (pval W V mn), r.drop K)) := fun hv => Lib.hid (by
       rw [rpk2_yes HKE.out ⟨hW, HKR.out, by rw [← HVE.out, ← HMW.out]; exact hv⟩, ← HVE.out])
      have HNO : ∀ (hv : ¬ V < 2 ^ MW), Hid (rpk2 n mn (W :: r) = none) := fun hv => Lib.hid (rpk2_no HKE.out fun h => hv (by rw [HVE.out, HMW.out]; exact h.2.2))
      have HYES := Lib.hid HYES
      have HNO := Lib.hid HNO
      obtain ⟨ca, w8, hca, hw8, hrow8, hb8, hca8⟩ := alloc_pt w7 (.int .i64 (-(W : Int))) 3
      have HW8 : Hid (w7.alloc (.cells #[.int .i64 (-(W : Int))] 3) = w8) := Lib.hid hw8.symm
      have HCA : Hid (w7.heap.size = ca) := Lib.hid hca.symm
      have hk78 : Kept (fun _ => False) w7 w8 := Kept.of_below hb8
      have HPS : Hid (PS g ca cw cl cp W K C V A mn (0, r.drop K) w8) := Lib.hid ⟨⟨HR7.out.high hk78 fun k hk => hk.elim, by rw [List.length_drop]; have := HRL.out; omega⟩, by rw [atI_zero]; exact hrow8, hk78.heap HCW7.out fun e => e.elim, hk78.heap HCL7.out fun e => e.elim, hk78.heap HCP7.out fun e => e.elim, HBY7.out.keep hb8, HLO7.out, by omega, hgcw, hgcl, hgcp, by omega, by omega, by omega⟩
      have HTM := Lib.hid (packed_times g ca cw cl cp W K C V A mn n hn (r.drop K) w w8 hW hK9 hWn HV HPS (HK5.out.trans (HK7.out.trans (Kept.of_below hb8))) (by have := HWcl.out; omega))
      clear hca hw8 hrow8 hb8 hca8 hk78 hus
      by_cases hu0 : us = 0
      ·have hv : V < 2 ^ MW := by have := HV.out; have := HKM.out; have := HUS.out; rw [show 8 * K = MW by omega] at *; assumption
       have HY := HYES.out hv
       subst hu0
       clear hv
       go_wp2_with (go_at_call 173; rw [HW8.out, HCA.out]; refine (HTM.out).mono ?_; rintro e w9 ⟨⟨A9, n9, c9, rfl, h1⟩, h2, h3⟩; have H1 := Lib.hid h1; have H2 := Lib.hid h2; have H3 := Lib.hid h3; clear h1 h2 h3)
       go_ret
       rw [HY.out]
       exact ⟨⟨A9, n9, c9, rfl, H1.out⟩, H2.out, H3.out⟩
      ·have hui : (0 : Int) < (us : Int) := by omega
       obtain ⟨b, hb⟩ : ∃ b, b = V / 2 ^ (8 * (K - 1)) % 256 := ⟨_, rfl⟩
       have hLB := last_byte HV.out HKM.out HUS.out (by omega) hb
       have hK1 : 1 ≤ K := by have := HKM.out; have := HUS.out; omega
       obtain ⟨kl, hkl⟩ : ∃ kl, K = kl + 1 := ⟨K - 1, by omega⟩
       obtain ⟨hb256, gb, off, rfl, -, hcb⟩ := HBY7.out (K - 1) b (by rw [hb]; exact leb_get K V (K - 1) (by omega))
       rw [show K - 1 = kl by omega] at hcb
       have hkli : (K : Int) - 1 = (kl : Int) := by omega
       have hklK : (kl : Int) < (K : Int) := by omega
       have hshr := shr_u8 b us hb256 hus8
       obtain ⟨x, hx⟩ : ∃ x, x = b / 2 ^ us := ⟨_, rfl⟩
       rw [← hx] at hshr hLB
       have HLB := Lib.hid hLB
       have HKL := Lib.hid hkl
       clear hb hx hLB hkl hu0
       have hu64 : (us : Int) < 64 := by omega
       by_cases hx0 : x = 0
       ·have HY := HYES.out (HLB.out.1 hx0)
        subst hx0
        go_wp2_with (first
         | (go_at_call 121; refine (check_true _ _).mono ?_; rintro e w6 ⟨rfl, rfl⟩)
         | (go_at_call 173; rw [HW8.out, HCA.out]; refine (HTM.out).mono ?_; rintro e w9 ⟨⟨A9, n9, c9, rfl, h1⟩, h2, h3⟩; have H1 := Lib.hid h1; have H2 := Lib.hid h2; have H3 := Lib.hid h3; clear h1 h2 h3))
        go_ret
        rw [HY.out]
        exact ⟨⟨A9, n9, c9, rfl, H1.out⟩, H2.out, H3.out⟩
       ·have HN2 := HNO.out (fun h => hx0 (HLB.out.2 h))
        have hxz : ((x : Int) == 0) = false := by rw [beq_eq_false_iff_ne]; omega
        obtain ⟨A7, C7, hrd7⟩ := HR7.out
        have HRA := Lib.hid hrd7
        clear hx0 hrd7
        go_wp2_with (go_at_call 121; refine (check_false g C7 A7 (r.drop K) _ HRA).mono ?_; rintro e w6 ⟨rfl, h1, h2⟩)
        rw [HN2.out]
        exact ⟨rfl, rfl, h1, (HK5.out.trans HK7.out).trans h2⟩
     ·have HNO := Lib.hid (rpk2_no (mn := mn) HKE.out (fun h => hKr h.2.1) : rpk2 n mn (W :: r) = none)
      have HTN := Lib.hid fun A C (h : RdA w5 g A C r) => take_no g C A r K r.length (Lib.hid rfl) (by omega) w5 (Lib.hid h)
      obtain ⟨A5, C5, hrd5⟩ := HR5.out
      have HT := Lib.hid (HTN.out A5 C5 hrd5)
      clear hKr
      go_wp2_with (first
       | (go_at_call 121; refine (check_true _ _).mono ?_; rintro e w6 ⟨rfl, rfl⟩)
       | (go_at_call 150; refine (HBC.out _).mono ?_; rintro e w6 ⟨rfl, rfl⟩)
       | (go_at_call 169; (with_reducible refine (HT.out).mono ?_); rintro e w6 ⟨rfl, h1, h2⟩))
      rw [HNO.out]
      exact ⟨rfl, rfl, h1, HK5.out.trans h2⟩
    ·have hWi : ¬ (W : Int) ≤ 64 := by omega
     have hWd : decide ((W : Int) ≤ 64) = false := by simpa using hWi
     have HNO := Lib.hid (rpk2_no (mn := mn) rfl (fun h => hW h.1) : rpk2 n mn (W :: r) = none)
     clear hW
     obtain ⟨A5, C5, hrd5⟩ := HR5.out
     have HRA := Lib.hid hrd5
     clear hrd5
     go_wp2_with (go_at_call 121; refine (check_false g C5 A5 r _ HRA).mono ?_; rintro e w6 ⟨rfl, h1, h2⟩)
     rw [HNO.out]
     exact ⟨rfl, rfl, h1, HK5.out.trans h2⟩
namespace Col
def rW (way n : Nat) (q : List Nat) : Option (List Int × List Nat) := if way = 0 then runS zP n q else if way = 1 then rdDelta n q else if way = 2 then rruns n q else if way = 3 then rpk n q else none
def rI : List Nat → Option (List Int × List Nat)
 | [] => none
 | way :: q => (uP 4096 q).bind fun p => rW way p.1 p.2
theorem rI_no {way : Nat} {q : List Nat} (h : uP 4096 q = none) : rI (way :: q) = none := by rw [rI, h]; rfl
theorem rI_yes {way n : Nat} {q r : List Nat} (h : uP 4096 q = some (n, r)) : rI (way :: q) = rW way n r := by rw [rI, h]; rfl
end Col
theorem Rd.high' {w w' : World} {g : Nat} {q : List Nat} {S : Nat → Prop} (h : Rd w g q) (hk : Kept S w w') (hS : ∀ k, S k → k ≠ g) (ho : ∀ A C, RdA w g A C q → Off S A q) : Rd w' g q := by
 obtain ⟨A, C, h⟩ := h
 exact ⟨A, C, h.keep hk (fun e => hS g e rfl) (ho A C h)⟩
theorem ListEnds.up {g : Nat} {o : Option (List Int × List Nat)} {w w2 w' : World} {e : Ending} (h : ListEnds g (Only g) (RdM g) o w2 e w') (hb : Kept (Only g) w w2) : ListEnds g (Only g) (RdM g) o w e w' := by
 have := h.lift hb (fun s => s) (fun s w' h => h) (fun k hk => .inl hk)
 rcases o with _ | p <;> exact this
set_option maxHeartbeats 4000000 in
theorem readInts_any (g : Nat) (q : List Nat) (w : World) (H : Hid (RdM g q w)) :
  Calls Tryz.prog 140 #[.pointer (some ⟨g, 0, none⟩)] w (ListEnds g (Only g) (RdM g) (rI q) w) := by
 rcases q with _ | ⟨way, q⟩
 ·have HB := Lib.hid (byte_no g w (Lib.hid H.out.1))
  go_enter Tryz.func140, Tryz.ntmps140
  go_wp2_with (go_at_call 172; (with_reducible refine (HB.out).mono ?_); rintro e w2 ⟨rfl, h1, h2⟩)
  exact ⟨rfl, rfl, h1, h2⟩
 ·have HB := Lib.hid (byte_yes g way q w (Lib.hid H.out.1))
  have hw256 := H.out.1.lt way (List.mem_cons_self ..)
  have HQL : Hid (q.length ≤ 1099511627776) := Lib.hid (by have := H.out.2; simp at this; omega)
  rcases hu : uP 4096 q with _ | ⟨n, r⟩
  ·have HN := Lib.hid (rI_no (way := way) hu)
   have HU := Lib.hid hu
   clear hu
   go_enter Tryz.func140, Tryz.ntmps140
   go_wp2_with (first
    | (go_at_call 172; (with_reducible refine (HB.out).mono ?_); rintro e w2 hy; obtain ⟨rfl, HR1, HK1⟩ := Yes.rd hy; clear hy)
    | (go_at_call 170; (refine (uint_no g 4096 q HU q.length (Lib.hid rfl) HQL.out _ HR1).mono ?_); rintro e w3 ⟨rfl, h1, h2⟩))
   rw [HN.out]
   exact ⟨rfl, rfl, h1, HK1.out.trans h2⟩
  ·have HU := Lib.hid hu
   have HY := Lib.hid (rI_yes (way := way) hu)
   have hn := (uP_some hu).2
   have HRL := Lib.hid (Nat.le_trans (uP_left hu) HQL.out)
   have hni : IntKind.i64.wrap (n : Int) = (n : Int) := by rw [IntKind.wrap_i64]; omega
   clear hu
   have hcases : way = 0 ∨ way = 1 ∨ way = 2 ∨ way = 3 ∨ 4 ≤ way := by omega
   rcases hcases with rfl | rfl | rfl | rfl | h4
   ·have HE : Hid (rI (0 :: q) = runS zP n r) := Lib.hid (by rw [HY.out]; rfl)
    rcases ho : runS zP n r with _ | ⟨xs, r9⟩
    ·have HO := Lib.hid (HE.out.trans ho)
     have HO2 := Lib.hid ho
     clear ho
     go_enter Tryz.func140, Tryz.ntmps140
     go_wp2_with (first
      | (go_at_call 172; (first | (with_reducible refine (HB.out).mono ?_) | refine (HB.out).mono ?_); rintro e w2 hy; obtain ⟨rfl, HR1, HK1⟩ := Yes.rd hy; clear hy)
      | (go_at_call 170; (refine (uint_yes g 4096 n q r HU (by have := HQL.out; omega) _ HR1).mono ?_); rintro e w3 hy; obtain ⟨rfl, HR2, HK2⟩ := Yes.rd hy; clear hy)
      | (go_at_call 173; (refine (plain_any g n hn r _ (Lib.hid ⟨HR2.out, HRL.out⟩)).mono ?_); intro e w4 h9; have h8 := h9.up (HK1.out.trans HK2.out); clear h9; rw [HO2.out] at h8; obtain ⟨rfl, h1, h2⟩ := h8))
     rw [HO.out]
     exact ⟨rfl, rfl, h1, h2⟩
    ·have HO := Lib.hid (HE.out.trans ho)
     have HO2 := Lib.hid ho
     clear ho
     go_enter Tryz.func140, Tryz.ntmps140
     go_wp2_with (first
      | (go_at_call 172; (first | (with_reducible refine (HB.out).mono ?_) | refine (HB.out).mono ?_); rintro e w2 hy; obtain ⟨rfl, HR1, HK1⟩ := Yes.rd hy; clear hy)
      | (go_at_call 170; (refine (uint_yes g 4096 n q r HU (by have := HQL.out; omega) _ HR1).mono ?_); rintro e w3 hy; obtain ⟨rfl, HR2, HK2⟩ := Yes.rd hy; clear hy)
      | (go_at_call 173; (refine (plain_any g n hn r _ (Lib.hid ⟨HR2.out, HRL.out⟩)).mono ?_); intro e w4 h9; have h8 := h9.up (HK1.out.trans HK2.out); clear h9; rw [HO2.out] at h8; obtain ⟨⟨A, n', cap, rfl, ho'⟩, h1, h2⟩ := h8; have HO' := Lib.hid ho'; have H1 := Lib.hid h1; have H2 := Lib.hid h2; clear ho' h1 h2))
     go_ret
     rw [HO.out]
     exact ⟨⟨A, n', cap, rfl, HO'.out⟩, H1.out, H2.out⟩
   ·have HE : Hid (rI (1 :: q) = rdDelta n r) := Lib.hid (by rw [HY.out]; rfl)
    rcases ho : rdDelta n r with _ | ⟨xs, r9⟩
    ·have HO := Lib.hid (HE.out.trans ho)
     have HO2 := Lib.hid ho
     clear ho
     go_enter Tryz.func140, Tryz.ntmps140
     go_wp2_with (first
      | (go_at_call 172; (first | (with_reducible refine (HB.out).mono ?_) | refine (HB.out).mono ?_); rintro e w2 hy; obtain ⟨rfl, HR1, HK1⟩ := Yes.rd hy; clear hy)
      | (go_at_call 170; (refine (uint_yes g 4096 n q r HU (by have := HQL.out; omega) _ HR1).mono ?_); rintro e w3 hy; obtain ⟨rfl, HR2, HK2⟩ := Yes.rd hy; clear hy)
      | (go_at_call 175; (refine (readDelta_any g n hn r _ (Lib.hid ⟨HR2.out, HRL.out⟩)).mono ?_); intro e w4 h9; have h8 := h9.up (HK1.out.trans HK2.out); clear h9; rw [HO2.out] at h8; obtain ⟨rfl, h1, h2⟩ := h8))
     rw [HO.out]
     exact ⟨rfl, rfl, h1, h2⟩
    ·have HO := Lib.hid (HE.out.trans ho)
     have HO2 := Lib.hid ho
     clear ho
     go_enter Tryz.func140, Tryz.ntmps140
     go_wp2_with (first
      | (go_at_call 172; (first | (with_reducible refine (HB.out).mono ?_) | refine (HB.out).mono ?_); rintro e w2 hy; obtain ⟨rfl, HR1, HK1⟩ := Yes.rd hy; clear hy)
      | (go_at_call 170; (refine (uint_yes g 4096 n q r HU (by have := HQL.out; omega) _ HR1).mono ?_); rintro e w3 hy; obtain ⟨rfl, HR2, HK2⟩ := Yes.rd hy; clear hy)
      | (go_at_call 175; (refine (readDelta_any g n hn r _ (Lib.hid ⟨HR2.out, HRL.out⟩)).mono ?_); intro e w4 h9; have h8 := h9.up (HK1.out.trans HK2.out); clear h9; rw [HO2.out] at h8; obtain ⟨⟨A, n', cap, rfl, ho'⟩, h1, h2⟩ := h8; have HO' := Lib.hid ho'; have H1 := Lib.hid h1; have H2 := Lib.hid h2; clear ho' h1 h2))
     go_ret
     rw [HO.out]
     exact ⟨⟨A, n', cap, rfl, HO'.out⟩, H1.out, H2.out⟩
   ·have HE : Hid (rI (2 :: q) = rruns n r) := Lib.hid (by rw [HY.out]; rfl)
    rcases ho : rruns n r with _ | ⟨xs, r9⟩
    ·have HO := Lib.hid (HE.out.trans ho)
     have HO2 := Lib.hid ho
     clear ho
     go_enter Tryz.func140, Tryz.ntmps140
     go_wp2_with (first
      | (go_at_call 172; (first | (with_reducible refine (HB.out).mono ?_) | refine (HB.out).mono ?_); rintro e w2 hy; obtain ⟨rfl, HR1, HK1⟩ := Yes.rd hy; clear hy)
      | (go_at_call 170; (refine (uint_yes g 4096 n q r HU (by have := HQL.out; omega) _ HR1).mono ?_); rintro e w3 hy; obtain ⟨rfl, HR2, HK2⟩ := Yes.rd hy; clear hy)
      | (go_at_call 176; (refine (readRuns_any g n hn r _ (Lib.hid ⟨HR2.out, HRL.out⟩)).mono ?_); intro e w4 h9; have h8 := h9.up (HK1.out.trans HK2.out); clear h9; rw [HO2.out] at h8; obtain ⟨rfl, h1, h2⟩ := h8))
     rw [HO.out]
     exact ⟨rfl, rfl, h1, h2⟩
    ·have HO := Lib.hid (HE.out.trans ho)
     have HO2 := Lib.hid ho
     clear ho
     go_enter Tryz.func140, Tryz.ntmps140
     go_wp2_with (first
      | (go_at_call 172; (first | (with_reducible refine (HB.out).mono ?_) | refine (HB.out).mono ?_); rintro e w2 hy; obtain ⟨rfl, HR1, HK1⟩ := Yes.rd hy; clear hy)
      | (go_at_call 170; (refine (uint_yes g 4096 n q r HU (by have := HQL.out; omega) _ HR1).mono ?_); rintro e w3 hy; obtain ⟨rfl, HR2, HK2⟩ := Yes.rd hy; clear hy)
      | (go_at_call 176; (refine (readRuns_any g n hn r _ (Lib.hid ⟨HR2.out, HRL.out⟩)).mono ?_); intro e w4 h9; have h8 := h9.up (HK1.out.trans HK2.out); clear h9; rw [HO2.out] at h8; obtain ⟨⟨A, n', cap, rfl, ho'⟩, h1, h2⟩ := h8; have HO' := Lib.hid ho'; have H1 := Lib.hid h1; have H2 := Lib.hid h2; clear ho' h1 h2))
     go_ret
     rw [HO.out]
     exact ⟨⟨A, n', cap, rfl, HO'.out⟩, H1.out, H2.out⟩
   ·have HE : Hid (rI (3 :: q) = rpk n r) := Lib.hid (by rw [HY.out]; rfl)
    rcases ho : rpk n r with _ | ⟨xs, r9⟩
    ·have HO := Lib.hid (HE.out.trans ho)
     have HO2 := Lib.hid ho
     clear ho
     go_enter Tryz.func140, Tryz.ntmps140
     go_wp2_with (first
      | (go_at_call 172; (first | (with_reducible refine (HB.out).mono ?_) | refine (HB.out).mono ?_); rintro e w2 hy; obtain ⟨rfl, HR1, HK1⟩ := Yes.rd hy; clear hy)
      | (go_at_call 170; (refine (uint_yes g 4096 n q r HU (by have := HQL.out; omega) _ HR1).mono ?_); rintro e w3 hy; obtain ⟨rfl, HR2, HK2⟩ := Yes.rd hy; clear hy)
      | (go_at_call 177; (refine (readPacked_any g n hn r _ (Lib.hid ⟨HR2.out, HRL.out⟩)).mono ?_); intro e w4 h9; have h8 := h9.up (HK1.out.trans HK2.out); clear h9; rw [HO2.out] at h8; obtain ⟨rfl, h1, h2⟩ := h8))
     rw [HO.out]
     exact ⟨rfl, rfl, h1, h2⟩
    ·have HO := Lib.hid (HE.out.trans ho)
     have HO2 := Lib.hid ho
     clear ho
     go_enter Tryz.func140, Tryz.ntmps140
     go_wp2_with (first
      | (go_at_call 172; (first | (with_reducible refine (HB.out).mono ?_) | refine (HB.out).mono ?_); rintro e w2 hy; obtain ⟨rfl, HR1, HK1⟩ := Yes.rd hy; clear hy)
      | (go_at_call 170; (refine (uint_yes g 4096 n q r HU (by have := HQL.out; omega) _ HR1).mono ?_); rintro e w3 hy; obtain ⟨rfl, HR2, HK2⟩ := Yes.rd hy; clear hy)
      | (go_at_call 177; (refine (readPacked_any g n hn r _ (Lib.hid ⟨HR2.out, HRL.out⟩)).mono ?_); intro e w4 h9; have h8 := h9.up (HK1.out.trans HK2.out); clear h9; rw [HO2.out] at h8; obtain ⟨⟨A, n', cap, rfl, ho'⟩, h1, h2⟩ := h8; have HO' := Lib.hid ho'; have H1 := Lib.hid h1; have H2 := Lib.hid h2; clear ho' h1 h2))
     go_ret
     rw [HO.out]
     exact ⟨⟨A, n', cap, rfl, HO'.out⟩, H1.out, H2.out⟩
   ·have HN : Hid (rI (way :: q) = none) := Lib.hid (by rw [HY.out]; unfold rW; rw [if_neg (by omega), if_neg (by omega), if_neg (by omega), if_neg (by omega)])
    have e0 : ((way : Int) == 0) = false := by rw [beq_eq_false_iff_ne]; omega
    have e1 : ((way : Int) == 1) = false := by rw [beq_eq_false_iff_ne]; omega
    have e2 : ((way : Int) == 2) = false := by rw [beq_eq_false_iff_ne]; omega
    have e3 : ((way : Int) == 3) = false := by rw [beq_eq_false_iff_ne]; omega
    go_enter Tryz.func140, Tryz.ntmps140
    go_wp2_with (first
     | (go_at_call 172; (with_reducible refine (HB.out).mono ?_); rintro e w2 hy; obtain ⟨rfl, HR1, HK1⟩ := Yes.rd hy; clear hy)
     | (go_at_call 170; (refine (uint_yes g 4096 n q r HU (by have := HQL.out; omega) _ HR1).mono ?_); rintro e w3 hy; obtain ⟨rfl, HR2, HK2⟩ := Yes.rd hy; clear hy)
     | (go_at_call 121; obtain ⟨A1, C1, hR⟩ := HR2.out; (refine (check_false g C1 A1 r _ (Lib.hid hR)).mono ?_); rintro e w4 ⟨rfl, h1, h2⟩))
    rw [HN.out]
    exact ⟨rfl, rfl, h1, (HK1.out.trans HK2.out).trans h2⟩
def riL (q : List Nat) : Option (List Int) := match rI q with
 | some (l, []) => some l
 | _ => none
theorem riL_some {q : List Nat} {l : List Int} (h : rI q = some (l, [])) : riL q = some l := by unfold riL; rw [h]
theorem riL_none {q : List Nat} (h : rI q = none) : riL q = none := by unfold riL; rw [h]
theorem riL_left {q r : List Nat} {l : List Int} (h : rI q = some (l, r)) (hr : r ≠ []) : riL q = none := by
 unfold riL; rw [h]
 rcases r with _ | ⟨x, r⟩
 ·exact absurd rfl hr
 ·rfl
theorem OwnI.keptG {w w' : World} {B n cap g : Nat} {A : Option Addr} {l : List Int} (h : OwnI w B A n cap l) (hk : Kept (Only g) w w') (hne : g < B) : OwnI w' B A n cap l :=
 ⟨h.1.kept (row := some g) ⟨hk.os, hk.tape, hk.output, hk.size, fun k hk' hn => hk.block k hk' (fun e => hn (by rw [show k = g from e]))⟩ (by
  have hb := h.base
  rcases A with _ | a
  ·simp [Value.ownBlock]
  ·have := hb a.block rfl
   simp [Value.ownBlock]; omega), h.2⟩
theorem off_slice {w : World} {cl y z : Nat} {A x : Option Addr} {q : List Nat} {ty : TypeId} (h : ByAt w A q) (hr : w.heap[cl]? = some (.cells #[.slice x y z] ty (0, 0))) : Off (fun k => k = cl) A q := fun a ha hl hs => by
 obtain ⟨b, off, e, hb, hc⟩ := h.spot hl
 rw [e] at ha; injection ha with ha; subst ha
 have hc0 := hc 0 q[0] (List.getElem?_eq_getElem hl)
 have hs : b = cl := hs
 subst hs
 rw [cell_of_row _ _ _ _ _ _ hr] at hc0
 have hj : off + 0 < 1 := (Array.getElem?_eq_some_iff.1 hc0).1
 obtain rfl : off = 0 := by omega
 simp at hc0
def RdL (q : List Nat) (cl B : Nat) (b : Bool) (w : World) : Prop := match b with
 | true => ∃ A n cap l, riL q = some l ∧ w.heap[cl]? = some (.cells #[.slice A n cap] 119 (0, 0)) ∧ OwnI w B A n cap l
 | false => riL q = none
theorem RdL.keep {q : List Nat} {cl B g : Nat} {b : Bool} {w w' : World} (h : RdL q cl B b w) (hk : Kept (Only g) w w') (h1 : cl ≠ g) (h2 : g < B) : RdL q cl B b w' := by
 cases b with
 | false => exact h
 | true =>
  obtain ⟨A, n, cap, l, e, hr, ho⟩ := h
  exact ⟨A, n, cap, l, e, hk.heap hr fun e => h1 e, ho.keptG hk h2⟩
theorem RdL.less {q : List Nat} {cl B B' : Nat} {b : Bool} {w : World} (h : RdL q cl B b w) (hB : B' ≤ B) : RdL q cl B' b w := by
 cases b with
 | false => exact h
 | true =>
  obtain ⟨A, n, cap, l, e, hr, ho⟩ := h
  exact ⟨A, n, cap, l, e, hr, ho.more hB⟩
set_option maxHeartbeats 2000000 in
theorem listFn_any (g bf cl : Nat) (q : List Nat) (hql : q.length ≤ 1099511627776) (w : World) (HR : Hid (Rd w g q)) (Hf : Hid (w.heap[bf]? = some (.cells #[.func (.func 140) #[] #[]] 185 (0, 0)))) (Hc : Hid (w.heap[cl]? = some (.cells #[.slice none 0 0] 119 (0, 0)))) (h1 : cl < g) (h2 : bf < g) :
  Calls Tryz.prog 171 #[.pointer (some ⟨g, 0, none⟩), .pointer (some ⟨bf, 0, none⟩), .pointer (some ⟨cl, 0, none⟩)] w (Tried g (fun k => k = cl) (RdL q cl (g + 1)) w) := by
 have hc := cell_of_row w bf 0 _ _ _ Hf.out
 simp only [List.getElem?_toArray] at hc
 have hc : w.cell? ⟨bf, 0, none⟩ = some (.func (.func 140) #[] #[]) := by rw [cell_of_row _ _ _ _ _ _ Hf.out]; rfl
 have HI := Lib.hid (readInts_any g q w (Lib.hid ⟨HR.out, hql⟩))
 have hgl := HR.out.glt
 rcases ho : rI q with _ | ⟨l, r⟩
 ·have HO := Lib.hid ho
  clear ho
  go_enter Tryz.func171, Tryz.ntmps171
  go_wp2_with (go_at_call 140; refine (HI.out).mono ?_; intro e w3 h8; rw [HO.out] at h8; obtain ⟨rfl, h1, h2⟩ := h8)
  exact ⟨rfl, h2.mono fun k hk => .inl (.inr hk), .inr ⟨rfl, h1, riL_none HO.out⟩⟩
 ·have HO := Lib.hid ho
  clear ho
  go_enter Tryz.func171, Tryz.ntmps171
  go_wp2_with (go_at_call 140; refine (HI.out).mono ?_; intro e w3 h8; rw [HO.out] at h8; obtain ⟨⟨A, n, cap, rfl, h3⟩, h4, h5⟩ := h8; have HOW := Lib.hid h3; have HRD := Lib.hid h4; have HK := Lib.hid h5; have hrow := h5.heap Hc.out (fun e => by have e : cl = g := e; omega); have c3 : w3.cell? ⟨cl, 0, none⟩ = some (.slice none 0 0) := (by rw [cell_of_row _ _ _ _ _ _ hrow]; rfl); have f3 : w3.frozen? ⟨cl, 0, none⟩ = false := row_frozen hrow 0; have HROW := Lib.hid hrow; clear h3 h4 h5 hrow)
  have hk : Kept (fun k => k = cl) w3 (w3.setCell ⟨cl, 0, none⟩ (.slice A n cap)) := (Kept.refl _ _).setCell _ _ (.inl rfl)
  have hrow2 : (w3.setCell ⟨cl, 0, none⟩ (.slice A n cap)).heap[cl]? = some (.cells #[.slice A n cap] 119 (0, 0)) := by
   have := HROW.out; rw [World.setCell]; simp [Array.getElem?_modify, this]
  have hkk : Kept (fun k => k = cl ∨ k = g) w (w3.setCell ⟨cl, 0, none⟩ (.slice A n cap)) := (HK.out.mono fun k hk => .inl (.inr hk)).setCell _ _ (.inl (.inl rfl))
  refine bodyPost_end (results_none rfl _ _ _) rfl ⟨hkk, .inl ⟨r, rfl, HRD.out.1.high' hk (fun k hk => by have hk : k = cl := hk; omega) (fun A C h => off_slice h.bytes HROW.out), ?_⟩⟩
  by_cases hr : r = []
  ·subst hr
   have ho2 : OwnI (w3.setCell ⟨cl, 0, none⟩ (.slice A n cap)) w.heap.size A n cap l := HOW.out.keptG (g := cl) hk (by omega)
   exact ⟨A, n, cap, l, riL_some HO.out, hrow2, ho2.more (by omega)⟩
  ·have : decide (r = []) = false := by simpa using hr
   rw [this]
   exact riL_left HO.out hr
end Go.Proofs.YtjldamkmdkaiiaaGreatDoor
