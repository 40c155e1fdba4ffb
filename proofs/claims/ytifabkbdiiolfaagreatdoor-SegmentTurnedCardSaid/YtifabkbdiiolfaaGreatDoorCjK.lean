/-
  Layer column: readPacked.
-/
import Derived.Test.YtifabkbdiiolfaaGreatDoorCiK
set_option linter.unusedSimpArgs false
set_option linter.unusedVariables false
set_option maxRecDepth 8000
namespace Go.Proofs.YtifabkbdiiolfaaGreatDoor
open Go.RowKit Go.WideShapes Col
namespace Col
/-- Packed numbers read. -/
def rpk2 (n : Nat) (mn : Int) : List Nat → Option (List Int × List Nat)
 | [] => none
 | W :: r => if W ≤ 64 ∧ (n * W + 7) / 8 ≤ r.length ∧ vlb (r.take ((n * W + 7) / 8)) < 2 ^ (n * W) then some ((List.range n).map (pval W (vlb (r.take ((n * W + 7) / 8))) mn), r.drop ((n * W + 7) / 8)) else none
def rpk (n : Nat) (q : List Nat) : Option (List Int × List Nat) := if n = 0 then some ([], q) else (zP q).bind fun p => rpk2 n p.1 p.2
theorem rpk_of {n : Nat} {q r : List Nat} {mn : Int} (h0 : n ≠ 0) (h : zP q = some (mn, r)) : rpk n q = rpk2 n mn r := by unfold rpk; rw [if_neg h0, h]; rfl
theorem rpk2_no {n W K : Nat} {mn : Int} {r : List Nat} (hK : K = (n * W + 7) / 8) (h : ¬ (W ≤ 64 ∧ K ≤ r.length ∧ vlb (r.take K) < 2 ^ (n * W))) : rpk2 n mn (W :: r) = none := by subst hK; rw [rpk2, if_neg h]
theorem rpk2_yes {n W K : Nat} {mn : Int} {r : List Nat} (hK : K = (n * W + 7) / 8) (h : W ≤ 64 ∧ K ≤ r.length ∧ vlb (r.take K) < 2 ^ (n * W)) : rpk2 n mn (W :: r) = some ((List.range n).map (pval W (vlb (r.take K)) mn), r.drop K) := by subst hK; rw [rpk2, if_pos h]
end Col
theorem packed_times (g ca cw cl cp W K C V : Nat) (A : Option Addr) (mn : Int) (n : Nat) (hn : n ≤ 4096) (r2 : List Nat) (w0 w8 : World) (hW : W ≤ 64) (hK : K ≤ 100000000) (hWn : n * W ≤ 8 * K) (hV : Hid (V < 2 ^ (8 * K))) (H : Hid (PS g ca cw cl cp W K C V A mn (0, r2) w8)) (hk : Kept (Only g) w0 w8) (hca : w0.heap.size ≤ ca) :
  Calls Tryz.prog 185 #[.int .i64 (n : Int), .func (.func 205) #[] #[.pointer (some ⟨ca, 0, none⟩), .pointer (some ⟨cw, 0, none⟩), .pointer (some ⟨cl, 0, none⟩), .pointer (some ⟨cp, 0, none⟩)]] w8
   (ListEnds g (Only g) (RdM g) (some ((List.range n).map (pval W V mn), r2)) w0) := by
 have hl := H.out.lts
 have ht := times_any (pstep W V mn) 205 #[] #[.pointer (some ⟨ca, 0, none⟩), .pointer (some ⟨cw, 0, none⟩), .pointer (some ⟨cl, 0, none⟩), .pointer (some ⟨cp, 0, none⟩)] (fun _ _ => by first | rfl | kernel_rfl) n hn g (Two g ca) (PS g ca cw cl cp W K C V A mn) w8
  (Lib.hid fun k hk => by have := H.out.n1; rcases hk with hk | hk <;> omega)
  (Lib.hid fun s w1 w3 h hk => h.keep hk fun k hk => by have := H.out.n1; have hk : w8.heap.size ≤ k := hk; omega)
  (0, r2) (Lib.hid fun k xs s w1 hkn hrun h _ => by
   rw [prun] at hrun
   injection hrun with hrun
   injection hrun with e1 e2
   subst e2
   exact packed_step g ca cw cl cp W K C V A mn k r2 hW hK (by
    have : (k + 1) * W ≤ n * W := Nat.mul_le_mul_right _ (by omega)
    rw [Nat.add_mul, Nat.one_mul] at this; omega) hV w1 (Lib.hid h)) H
 refine ht.mono fun e w' h => ?_
 rw [prun] at h
 exact h.lift hk (fun s => s.2) (fun s w' h => h.rd) (fun k hk => by
  rcases hk with hk | hk
  ·exact .inl hk
  ·right; omega)
theorem alloc_pt (w : World) (v : Value) (ty : TypeId) : ∃ c w', c = w.heap.size ∧ w' = w.alloc (.cells #[v] ty) ∧ w'.heap[c]? = some (.cells #[v] ty (0, 0)) ∧ Below w.heap.size w w' ∧ c < w'.heap.size :=
 ⟨_, _, rfl, rfl, heap_alloc_new' w _, (Below.refl _ _).alloc (Nat.le_refl _) _, by simp⟩
theorem last_byte {K V MW us b : Nat} (hV : V < 2 ^ (8 * K)) (hK : K = (MW + 7) / 8) (hus : us = MW % 8) (h0 : 0 < us) (hb : b = V / 2 ^ (8 * (K - 1)) % 256) : (b / 2 ^ us = 0 ↔ V < 2 ^ MW) := by
 have hK1 : 8 * K = 8 * (K - 1) + 8 := by omega
 have hMW : MW = 8 * (K - 1) + us := by omega
 have h1 : V / 2 ^ (8 * (K - 1)) < 256 := by rw [Nat.div_lt_iff_lt_mul (Nat.two_pow_pos _), Nat.mul_comm, show (256 : Nat) = 2 ^ 8 from rfl, ← Nat.pow_add, ← hK1]; exact hV
 rw [Nat.mod_eq_of_lt h1] at hb
 subst hb
 rw [Nat.div_div_eq_div_mul, ← Nat.pow_add, ← hMW]
 rw [Nat.div_eq_zero_iff]
 have := Nat.two_pow_pos MW
 omega
set_option maxHeartbeats 4000000 in
theorem readPacked_any (g : Nat) (n : Nat) (hn : n ≤ 4096) (q : List Nat) (w : World) (H : Hid (RdM g q w)) :
  Calls Tryz.prog 188 #[.pointer (some ⟨g, 0, none⟩), .int .i64 (n : Int)] w (ListEnds g (Only g) (RdM g) (rpk n q) w) := by
 by_cases hn0 : n = 0
 ·subst hn0
  go_enter Tryz.func188, Tryz.ntmps188
  go_wp2
  go_ret
  exact ⟨⟨none, 0, 0, rfl, OwnI.nil _ _⟩, H.out, Kept.refl _ _⟩
 ·have hz0 : ((n : Int) == 0) = false := by rw [beq_eq_false_iff_ne]; omega
  rcases hz : zP q with _ | ⟨mn, q1⟩
  ·have HI := Lib.hid (int_no g q (Lib.hid hz) q.length (Lib.hid rfl) H.out.2 w (Lib.hid H.out.1))
   have HN : Hid (rpk n q = none) := Lib.hid (by unfold rpk; rw [if_neg hn0, hz]; rfl)
   rw [HN.out]
   clear hz hn0
   go_enter Tryz.func188, Tryz.ntmps188
   go_wp2_with (go_at_call 108; (with_reducible refine (HI.out).mono ?_); rintro e w2 ⟨rfl, h1, h2⟩)
   exact ⟨rfl, rfl, h1, h2⟩
  ·have HI := Lib.hid (int_yes g mn q q1 (Lib.hid hz) (by have := H.out.2; omega) w (Lib.hid H.out.1))
   have HL1 := Lib.hid (Nat.le_trans (zP_left hz) H.out.2)
   have HWM := Lib.hid (zP_wf hz H.out.1.lt)
   have HN : Hid (rpk n q = rpk2 n mn q1) := Lib.hid (rpk_of hn0 hz)
   rw [HN.out]
   clear hz hn0
   go_enter Tryz.func188, Tryz.ntmps188
   go_wp2_with (go_at_call 108; (with_reducible refine (HI.out).mono ?_); rintro e w2 hy; obtain ⟨rfl, HR1, HK1⟩ := Yes.rd hy; clear hy)
   obtain ⟨cl, hcl⟩ : ∃ cl, cl = w2.heap.size := ⟨_, rfl⟩
   obtain ⟨w3, hw3⟩ : ∃ w3, w3 = w2.alloc (.cells #[.int .i64 mn] 2) := ⟨_, rfl⟩
   have HCL : Hid (w3.heap[cl]? = some (.cells #[.int .i64 mn] 2 (0, 0))) := Lib.hid (by rw [hw3, hcl]; exact heap_alloc_new' _ _)
   have HB3 : Hid (Below w2.heap.size w2 w3) := Lib.hid (by rw [hw3]; exact (Below.refl _ _).alloc (Nat.le_refl _) _)
   have hgcl : g < cl := by rw [hcl]; exact HR1.out.glt
   have hcl3 : cl < w3.heap.size := by rw [hw3, hcl]; simp
   have HWcl : Hid (w.heap.size ≤ cl) := Lib.hid (by rw [hcl]; exact HK1.out.size)
   have HR3 : Hid (Rd w3 g q1) := Lib.hid (HR1.out.high (S := fun _ => False) (Kept.of_below HB3.out) fun k hk => hk.elim)
   have HK3 : Hid (Kept (Only g) w w3) := Lib.hid (HK1.out.trans (Kept.of_below HB3.out))
   rw [← hw3, ← hcl]
   clear hw3 hcl HB3 HR1 HK1 HI
   rcases q1 with _ | ⟨W, r⟩
   ·refine (byte_no g _ HR3).mono ?_
    rintro e w4 ⟨rfl, h1, h2⟩
    exact ⟨rfl, rfl, h1, HK3.out.trans h2⟩
   ·have HWB : Hid (W < 256) := Lib.hid (HR3.out.lt W (List.mem_cons_self ..))
    refine (byte_yes g W r _ HR3).mono ?_
    rintro e w4 hy; obtain ⟨rfl, HR4, HK4⟩ := Yes.rd hy; clear hy
    have hwi : IntKind.i64.wrap (W : Int) = (W : Int) := by have := HWB.out; rw [IntKind.wrap_i64]; omega
    have hw256 := HWB.out
    obtain ⟨cw, hcw⟩ : ∃ cw, cw = w4.heap.size := ⟨_, rfl⟩
    obtain ⟨w5, hw5⟩ : ∃ w5, w5 = w4.alloc (.cells #[.int .i64 (W : Int)] 3) := ⟨_, rfl⟩
    have HE5 : Hid (w4.alloc (.cells #[.int .i64 (W : Int)] 3) = w5) := Lib.hid hw5.symm
    have HEC : Hid (w4.heap.size = cw) := Lib.hid hcw.symm
    have HB5 : Hid (Below w4.heap.size w4 w5) := Lib.hid (by rw [hw5]; exact (Below.refl _ _).alloc (Nat.le_refl _) _)
    have HCW : Hid (w5.heap[cw]? = some (.cells #[.int .i64 (W : Int)] 3 (0, 0))) := Lib.hid (by rw [hw5, hcw]; exact heap_alloc_new' _ _)
    have HCL5 : Hid (w5.heap[cl]? = some (.cells #[.int .i64 mn] 2 (0, 0))) := Lib.hid ((Kept.of_below (S := fun _ => False) HB5.out).heap (HK4.out.heap HCL.out fun e => by have e : cl = g := e; omega) fun e => e.elim)
    have hgcw : g < cw := by rw [hcw]; exact HR4.out.glt
    have hclw : cl < cw := by rw [hcw]; exact Nat.lt_of_lt_of_le hcl3 HK4.out.size
    have hcw5 : cw < w5.heap.size := by rw [hw5, hcw]; simp
    have HR5 : Hid (Rd w5 g r) := Lib.hid (HR4.out.high (S := fun _ => False) (Kept.of_below HB5.out) fun k hk => hk.elim)
    have HK5 : Hid (Kept (Only g) w w5) := Lib.hid ((HK3.out.trans HK4.out).trans (Kept.of_below HB5.out))
    have hc5 : w5.cell? ⟨cw, 0, none⟩ = some (.int .i64 (W : Int)) := by rw [cell_of_row _ _ _ _ _ _ HCW.out]; rfl
    clear hw5 hcw HB5 HR4 HR3 HCL HK3
    go_upto_region 5 with fail
    rw [HE5.out, HEC.out]
    clear HE5 HEC HK4
    by_cases hW : W ≤ 64
    ·have hWi : (W : Int) ≤ 64 := by omega
     obtain ⟨MW, hMW⟩ : ∃ MW, MW = n * W := ⟨_, rfl⟩
     have hMWi : (n : Int) * (W : Int) = (MW : Int) := by rw [hMW]; exact (Int.natCast_mul n W).symm
     have hMWb : MW ≤ 262144 := by
      have : n * W ≤ 4096 * 64 := Nat.mul_le_mul hn hW
      omega
     obtain ⟨K, hK⟩ : ∃ K, K = (MW + 7) / 8 := ⟨_, rfl⟩
     have hKb : K ≤ 32769 := by omega
     have hKw : IntKind.u64.wrap (K : Int) = (K : Int) := by rw [IntKind.wrap_u64]; omega
     have HKE : Hid (K = (n * W + 7) / 8) := Lib.hid (by rw [hK, hMW])
     have HKM : Hid (K = (MW + 7) / 8) := Lib.hid hK
     have HMW := Lib.hid hMW
     have hBC := byteCount_any MW (by omega)
     rw [← hK] at hBC
     have HBC := Lib.hid hBC
     clear hBC hK hMW
     by_cases hKr : K ≤ r.length
     ·obtain ⟨V, hVe⟩ : ∃ V, V = vlb (r.take K) := ⟨_, rfl⟩
      have hrl : ∀ x ∈ r.take K, x < 256 := fun x hx => HR5.out.lt x (List.mem_of_mem_take hx)
      have htl : (r.take K).length = K := by rw [List.length_take]; omega
      have HLEB : Hid (r.take K = leb K V) := Lib.hid (by
       have h := leb_vlb _ hrl
       rw [htl, ← hVe] at h; exact h.symm)
      have HV : Hid (V < 2 ^ (8 * K)) := Lib.hid (by have h := vlb_lt _ hrl; rwa [htl, ← hVe] at h)
      have HVE := Lib.hid hVe
      have HRL : Hid (r.length ≤ 1099511627776) := Lib.hid (by have := HL1.out; simp at this; omega)
      obtain ⟨A5, C5, hrd5⟩ := HR5.out
      have HT := Lib.hid (take_yes g C5 A5 r K r.length (Lib.hid rfl) hKr w5 (Lib.hid hrd5))
      have HKR := Lib.hid hKr
      clear hKr hrd5 hrl htl hVe
      go_upto_region 7 with (first
       | (go_at_call 80; refine (check_true _ _).mono ?_; rintro e w6 ⟨rfl, rfl⟩)
       | (go_at_call 152; refine (HBC.out _).mono ?_; rintro e w6 ⟨rfl, rfl⟩)
       | (go_at_call 134; (with_reducible refine (HT.out).mono ?_); rintro e w6 ⟨A, C, rfl, h1, h2, h3, h4, h5, h6, h7⟩; have HBY := Lib.hid h3; have HOF := Lib.hid h4; have HR6 := Lib.hid h5; have HK6 := Lib.hid h6; have HLO := Lib.hid h7; clear h3 h4 h5 h6 h7))
      obtain ⟨cp, w7, hcp, hw7, hrow7, hb7, hcp7⟩ := alloc_pt w6 (.slice A K C) 29
      rw [← hcp, ← hw7]
      have HK7 : Hid (Kept (Only g) w5 w7) := Lib.hid (HK6.out.trans (Kept.of_below hb7))
      have hw56 := HK6.out.size
      have HR7 : Hid (Rd w7 g (r.drop K)) := Lib.hid (HR6.out.high (S := fun _ => False) (Kept.of_below hb7) fun k hk => hk.elim)
      have HCW7 := Lib.hid (HK7.out.heap HCW.out fun e => by have e : cw = g := e; omega)
      have HCL7 := Lib.hid (HK7.out.heap HCL5.out fun e => by have e : cl = g := e; omega)
      have HCP7 := Lib.hid hrow7
      have HBY7 : Hid (ByAt w7 A (leb K V)) := Lib.hid (by rw [← HLEB.out]; exact (HBY.out.kept HK6.out HOF.out).keep hb7)
      have HLO7 : Hid (∀ a, A = some a → 0 < (leb K V).length → a.block < g) := Lib.hid (by rw [← HLEB.out]; exact HLO.out)
      have hgcp : g < cp := by omega
      have hc7 : w7.cell? ⟨cw, 0, none⟩ = some (.int .i64 (W : Int)) := by rw [cell_of_row _ _ _ _ _ _ HCW7.out]; rfl
      have hp7 : w7.cell? ⟨cp, 0, none⟩ = some (.slice A K C) := by rw [cell_of_row _ _ _ _ _ _ HCP7.out]; rfl
      have hcw7 : cw < w7.heap.size := Nat.lt_of_lt_of_le hcw5 HK7.out.size
      clear hcp hw7 hrow7 hb7 HT HBY HOF HR6 HK6 HLO HR5 hc5
      obtain ⟨us, hus⟩ : ∃ us, us = MW % 8 := ⟨_, rfl⟩
      have hqs : (MW : Int) % 8 = (us : Int) := by omega
      have hqs2 : (MW : Int).tmod 8 = (us : Int) := by rw [Int.tmod_eq_emod_of_nonneg (by omega)]; exact hqs
      have HUS := Lib.hid hus
      have hus8 : us < 8 := by omega
      have hK9 : K ≤ 100000000 := by omega
      have hWn : n * W ≤ 8 * K := by have := HKE.out; omega
      have HYES : ∀ (hv : V < 2 ^ MW), Hid (rpk2 n mn (W :: r) = some ((List.range n).map (pval W V mn), r.drop K)) := fun hv => Lib.hid (by
       rw [rpk2_yes HKE.out ⟨hW, HKR.out, by rw [← HVE.out, ← HMW.out]; exact hv⟩, ← HVE.out])
      have HNO : ∀ (hv : ¬ V < 2 ^ MW), Hid (rpk2 n mn (W :: r) = none) := fun hv => Lib.hid (rpk2_no HKE.out fun h => hv (by rw [HVE.out, HMW.out]; exact h.2.2))
      have HYES := Lib.hid HYES
      have HNO := Lib.hid HNO
      obtain ⟨ca, w8, hca, hw8, hrow8, hb8, hca8⟩ := alloc_pt w7 (.int .i64 (-(W : Int))) 3
      have HW8 : Hid (w7.alloc (.cells #[.int .i64 (-(W : Int))] 3) = w8) := Lib.hid hw8.symm
      have HCA : Hid (w7.heap.size = ca) := Lib.hid hca.symm
      have hk78 : Kept (fun _ => False) w7 w8 := Kept.of_below hb8
      have HPS : Hid (PS g ca cw cl cp W K C V A mn (0, r.drop K) w8) := Lib.hid ⟨⟨HR7.out.high hk78 fun k hk => hk.elim, by rw [List.length_drop]; have := HRL.out; omega⟩, by rw [atI_zero]; exact hrow8, hk78.heap HCW7.out fun e => e.elim, hk78.heap HCL7.out fun e => e.elim, hk78.heap HCP7.out fun e => e.elim, HBY7.out.keep hb8, HLO7.out, by omega, hgcw, hgcl, hgcp, by omega, by omega, by omega⟩
      have HTM := Lib.hid (packed_times g ca cw cl cp W K C V A mn n hn (r.drop K) w w8 hW hK9 hWn HV HPS (HK5.out.trans (HK7.out.trans (Kept.of_below hb8))) (by have := HWcl.out; omega))
      clear hca hw8 hrow8 hb8 hca8 hk78 hus
      by_cases hu0 : us = 0
      ·have hv : V < 2 ^ MW := by have := HV.out; have := HKM.out; have := HUS.out; rw [show 8 * K = MW by omega] at *; assumption
       have HY := HYES.out hv
       subst hu0
       clear hv
       go_wp2_with (go_at_call 185; rw [HW8.out, HCA.out]; refine (HTM.out).mono ?_; rintro e w9 ⟨⟨A9, n9, c9, rfl, h1⟩, h2, h3⟩; have H1 := Lib.hid h1; have H2 := Lib.hid h2; have H3 := Lib.hid h3; clear h1 h2 h3)
       go_ret
       rw [HY.out]
       exact ⟨⟨A9, n9, c9, rfl, H1.out⟩, H2.out, H3.out⟩
      ·have hui : (0 : Int) < (us : Int) := by omega
       obtain ⟨b, hb⟩ : ∃ b, b = V / 2 ^ (8 * (K - 1)) % 256 := ⟨_, rfl⟩
       have hLB := last_byte HV.out HKM.out HUS.out (by omega) hb
       have hK1 : 1 ≤ K := by have := HKM.out; have := HUS.out; omega
       obtain ⟨kl, hkl⟩ : ∃ kl, K = kl + 1 := ⟨K - 1, by omega⟩
       obtain ⟨hb256, gb, off, rfl, -, hcb⟩ := HBY7.out (K - 1) b (by rw [hb]; exact leb_get K V (K - 1) (by omega))
       rw [show K - 1 = kl by omega] at hcb
       have hkli : (K : Int) - 1 = (kl : Int) := by omega
       have hklK : (kl : Int) < (K : Int) := by omega
       have hshr := shr_u8 b us hb256 hus8
       obtain ⟨x, hx⟩ : ∃ x, x = b / 2 ^ us := ⟨_, rfl⟩
       rw [← hx] at hshr hLB
       have HLB := Lib.hid hLB
       have HKL := Lib.hid hkl
       clear hb hx hLB hkl hu0
       have hu64 : (us : Int) < 64 := by omega
       by_cases hx0 : x = 0
       ·have HY := HYES.out (HLB.out.1 hx0)
        subst hx0
        go_wp2_with (first
         | (go_at_call 80; refine (check_true _ _).mono ?_; rintro e w6 ⟨rfl, rfl⟩)
         | (go_at_call 185; rw [HW8.out, HCA.out]; refine (HTM.out).mono ?_; rintro e w9 ⟨⟨A9, n9, c9, rfl, h1⟩, h2, h3⟩; have H1 := Lib.hid h1; have H2 := Lib.hid h2; have H3 := Lib.hid h3; clear h1 h2 h3))
        go_ret
        rw [HY.out]
        exact ⟨⟨A9, n9, c9, rfl, H1.out⟩, H2.out, H3.out⟩
       ·have HN2 := HNO.out (fun h => hx0 (HLB.out.2 h))
        have hxz : ((x : Int) == 0) = false := by rw [beq_eq_false_iff_ne]; omega
        obtain ⟨A7, C7, hrd7⟩ := HR7.out
        have HRA := Lib.hid hrd7
        clear hx0 hrd7
        go_wp2_with (go_at_call 80; refine (check_false g C7 A7 (r.drop K) _ HRA).mono ?_; rintro e w6 ⟨rfl, h1, h2⟩)
        rw [HN2.out]
        exact ⟨rfl, rfl, h1, (HK5.out.trans HK7.out).trans h2⟩
     ·have HNO := Lib.hid (rpk2_no (mn := mn) HKE.out (fun h => hKr h.2.1) : rpk2 n mn (W :: r) = none)
      have HTN := Lib.hid fun A C (h : RdA w5 g A C r) => take_no g C A r K r.length (Lib.hid rfl) (by omega) w5 (Lib.hid h)
      obtain ⟨A5, C5, hrd5⟩ := HR5.out
      have HT := Lib.hid (HTN.out A5 C5 hrd5)
      clear hKr
      go_wp2_with (first
       | (go_at_call 80; refine (check_true _ _).mono ?_; rintro e w6 ⟨rfl, rfl⟩)
       | (go_at_call 152; refine (HBC.out _).mono ?_; rintro e w6 ⟨rfl, rfl⟩)
       | (go_at_call 134; (with_reducible refine (HT.out).mono ?_); rintro e w6 ⟨rfl, h1, h2⟩))
      rw [HNO.out]
      exact ⟨rfl, rfl, h1, HK5.out.trans h2⟩
    ·have hWi : ¬ (W : Int) ≤ 64 := by omega
     have hWd : decide ((W : Int) ≤ 64) = false := by simpa using hWi
     have HNO := Lib.hid (rpk2_no (mn := mn) rfl (fun h => hW h.1) : rpk2 n mn (W :: r) = none)
     clear hW
     obtain ⟨A5, C5, hrd5⟩ := HR5.out
     have HRA := Lib.hid hrd5
     clear hrd5
     go_wp2_with (go_at_call 80; refine (check_false g C5 A5 r _ HRA).mono ?_; rintro e w6 ⟨rfl, h1, h2⟩)
     rw [HNO.out]
     exact ⟨rfl, rfl, h1, HK5.out.trans h2⟩
end Go.Proofs.YtifabkbdiiolfaaGreatDoor
