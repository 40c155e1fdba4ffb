/-
  Layer column: readPacked.
-/
import Derived.Test.YtpobfgokikfmbaaDoorQPrds2
set_option linter.unusedSimpArgs false
set_option linter.unusedVariables false
set_option maxRecDepth 8000
namespace Go.Proofs.YtpobfgokikfmbaaDoor
open Go.RowKit Go.WideShapes Col
namespace Col
/-- Packed numbers read. -/
def rpk2 (n : Nat) (mn : Int) : List Nat → Option (List Int × List Nat)
  | [] => none
  | W :: r => if W ≤ 64 ∧ (n * W + 7) / 8 ≤ r.length ∧ vlb (r.take ((n * W + 7) / 8)) < 2 ^ (n * W) then some ((List.range n).map (pval W (vlb (r.take ((n * W + 7) / 8))) mn), r.drop ((n * W + 7) / 8)) else none
def rpk (n : Nat) (q : List Nat) : Option (List Int × List Nat) := if n = 0 then some ([], q) else (zP q).bind fun p => rpk2 n p.1 p.2
theorem rpk_of {n : Nat} {q r : List Nat} {mn : Int} (h0 : n ≠ 0) (h : zP q = some (mn, r)) : rpk n q = rpk2 n mn r := by unfold rpk; rw [if_neg h0, h]; rfl
theorem rpk2_no {n W K : Nat} {mn : Int} {r : List Nat} (hK : K = (n * W + 7) / 8) (h : ¬ (W ≤ 64 ∧ K ≤ r.length ∧ vlb (r.take K) < 2 ^ (n * W))) : rpk2 n mn (W :: r) = none := by subst hK; rw [rpk2, if_neg h]
theorem rpk2_yes {n W K : Nat} {mn : Int} {r : List Nat} (hK : K = (n * W + 7) / 8) (h : W ≤ 64 ∧ K ≤ r.length ∧ vlb (r.take K) < 2 ^ (n * W)) : rpk2 n mn (W :: r) = some ((List.range n).map (pval W (vlb (r.take K)) mn), r.drop K) := by subst hK; rw [rpk2, if_pos h]
end Col
theorem packed_times (g ca cw cl cp W K C V : Nat) (A : Option Addr) (mn : Int) (n : Nat) (hn : n ≤ 4096) (r2 : List Nat) (w0 w8 : World) (hW : W ≤ 64) (hK : K ≤ 100000000) (hWn : n * W ≤ 8 * K) (hV : Hid (V < 2 ^ (8 * K))) (H : Hid (PS g ca cw cl cp W K C V A mn (0, r2) w8)) (hk : Kept (Only g) w0 w8) (hca : w0.heap.size ≤ ca) :
    Calls Tryd.prog 69 #[.int .i64 (n : Int), .func (.func 85) #[] #[.pointer (some ⟨ca, 0, none⟩), .pointer (some ⟨cw, 0, none⟩), .pointer (some ⟨cl, 0, none⟩), .pointer (some ⟨cp, 0, none⟩)]] w8
      (ListEnds g (Only g) (RdM g) (some ((List.range n).map (pval W V mn), r2)) w0) := by
  have hl := H.out.lts
  have ht := times_any (pstep W V mn) 85 #[] #[.pointer (some ⟨ca, 0, none⟩), .pointer (some ⟨cw, 0, none⟩), .pointer (some ⟨cl, 0, none⟩), .pointer (some ⟨cp, 0, none⟩)] (fun _ _ => by first | rfl | kernel_rfl) n hn g (Two g ca) (PS g ca cw cl cp W K C V A mn) w8
    (Lib.hid fun k hk => by have := H.out.n1; rcases hk with hk | hk <;> omega)
    (Lib.hid fun s w1 w3 h hk => h.keep hk fun k hk => by have := H.out.n1; have hk : w8.heap.size ≤ k := hk; omega)
    (0, r2) (Lib.hid fun k xs s w1 hkn hrun h _ => by
      rw [prun] at hrun
      injection hrun with hrun
      injection hrun with e1 e2
      subst e2
      exact packed_step g ca cw cl cp W K C V A mn k r2 hW hK (by
        have : (k + 1) * W ≤ n * W := Nat.mul_le_mul_right _ (by omega)
        rw [Nat.add_mul, Nat.one_mul] at this; omega) hV w1 (Lib.hid h)) H
  refine ht.mono fun e w' h => ?_
  rw [prun] at h
  exact h.lift hk (fun s => s.2) (fun s w' h => h.rd) (fun k hk => by
    rcases hk with hk | hk
    · exact .inl hk
    · right; omega)
theorem alloc_pt (w : World) (v : Value) (ty : TypeId) : ∃ c w', c = w.heap.size ∧ w' = w.alloc (.cells #[v] ty) ∧ w'.heap[c]? = some (.cells #[v] ty (0, 0)) ∧ Below w.heap.size w w' ∧ c < w'.heap.size :=
  ⟨_, _, rfl, rfl, heap_alloc_new' w _, (Below.refl _ _).alloc (Nat.le_refl _) _, by simp⟩
theorem last_byte {K V MW us b : Nat} (hV : V < 2 ^ (8 * K)) (hK : K = (MW + 7) / 8) (hus : us = MW % 8) (h0 : 0 < us) (hb : b = V / 2 ^ (8 * (K - 1)) % 256) : (b / 2 ^ us = 0 ↔ V < 2 ^ MW) := by
  have hK1 : 8 * K = 8 * (K - 1) + 8 := by omega
  have hMW : MW = 8 * (K - 1) + us := by omega
  have h1 : V / 2 ^ (8 * (K - 1)) < 256 := by rw [Nat.div_lt_iff_lt_mul (Nat.two_pow_pos _), Nat.mul_comm, show (256 : Nat) = 2 ^ 8 from rfl, ← Nat.pow_add, ← hK1]; exact hV
  rw [Nat.mod_eq_of_lt h1] at hb
  subst hb
  rw [Nat.div_div_eq_div_mul, ← Nat.pow_add, ← hMW]
  rw [Nat.div_eq_zero_iff]
  have := Nat.two_pow_pos MW
  omega
set_option maxHeartbeats 4000000 in
theorem readPacked_any (g : Nat) (n : Nat) (hn : n ≤ 4096) (q : List Nat) (w : World) (H : Hid (RdM g q w)) :
    Calls Tryd.prog 73 #[.pointer (some ⟨g, 0, none⟩), .int .i64 (n : Int)] w (ListEnds g (Only g) (RdM g) (rpk n q) w) := by
  by_cases hn0 : n = 0
  · subst hn0
    go_enter Tryd.func73, Tryd.ntmps73
    go_wp2
    go_ret
    exact ⟨⟨none, 0, 0, rfl, OwnI.nil _ _⟩, H.out, Kept.refl _ _⟩
  · have hz0 : ((n : Int) == 0) = false := by rw [beq_eq_false_iff_ne]; omega
    rcases hz : zP q with _ | ⟨mn, q1⟩
    · have HI := Lib.hid (int_no g q (Lib.hid hz) q.length (Lib.hid rfl) H.out.2 w (Lib.hid H.out.1))
      have HN : Hid (rpk n q = none) := Lib.hid (by unfold rpk; rw [if_neg hn0, hz]; rfl)
      rw [HN.out]
      clear hz hn0
      go_enter Tryd.func73, Tryd.ntmps73
      go_wp2_with (go_at_call 70; (with_reducible refine (HI.out).mono ?_); rintro e w2 ⟨rfl, h1, h2⟩)
      exact ⟨rfl, rfl, h1, h2⟩
    · have HI := Lib.hid (int_yes g mn q q1 (Lib.hid hz) (by have := H.out.2; omega) w (Lib.hid H.out.1))
      have HL1 := Lib.hid (Nat.le_trans (zP_left hz) H.out.2)
      have HWM := Lib.hid (zP_wf hz H.out.1.lt)
      have HN : Hid (rpk n q = rpk2 n mn q1) := Lib.hid (rpk_of hn0 hz)
      rw [HN.out]
      clear hz hn0
      go_enter Tryd.func73, Tryd.ntmps73
      go_wp2_with (go_at_call 70; (with_reducible refine (HI.out).mono ?_); rintro e w2 hy; obtain ⟨rfl, HR1, HK1⟩ := Yes.rd hy; clear hy)
      obtain ⟨cl, hcl⟩ : ∃ cl, cl = w2.heap.size := ⟨_, rfl⟩
      obtain ⟨w3, hw3⟩ : ∃ w3, w3 = w2.alloc (.cells #[.int .i64 mn] 2) := ⟨_, rfl⟩
      have HCL : Hid (w3.heap[cl]? = some (.cells #[.int .i64 mn] 2 (0, 0))) := Lib.hid (by rw [hw3, hcl]; exact heap_alloc_new' _ _)
      have HB3 : Hid (Below w2.heap.size w2 w3) := Lib.hid (by rw [hw3]; exact (Below.refl _ _).alloc (Nat.le_refl _) _)
      have hgcl : g < cl := by rw [hcl]; exact HR1.out.glt
      have hcl3 : cl < w3.heap.size := by rw [hw3, hcl]; simp
      have HWcl : Hid (w.heap.size ≤ cl) := Lib.hid (by rw [hcl]; exact HK1.out.size)
      have HR3 : Hid (Rd w3 g q1) := Lib.hid (HR1.out.high (S := fun _ => False) (Kept.of_below HB3.out) fun k hk => hk.elim)
      have HK3 : Hid (Kept (Only g) w w3) := Lib.hid (HK1.out.trans (Kept.of_below HB3.out))
      rw [← hw3, ← hcl]
      clear hw3 hcl HB3 HR1 HK1 HI
      rcases q1 with _ | ⟨W, r⟩
      · refine (byte_no g _ HR3).mono ?_
        rintro e w4 ⟨rfl, h1, h2⟩
        exact ⟨rfl, rfl, h1, HK3.out.trans h2⟩
      · have HWB : Hid (W < 256) := Lib.hid (HR3.out.lt W (List.mem_cons_self ..))
        refine (byte_yes g W r _ HR3).mono ?_
        rintro e w4 hy; obtain ⟨rfl, HR4, HK4⟩ := Yes.rd hy; clear hy
        have hwi : IntKind.i64.wrap (W : Int) = (W : Int) := by have := HWB.out; rw [IntKind.wrap_i64]; omega
        have hw256 := HWB.out
        obtain ⟨cw, hcw⟩ : ∃ cw, cw = w4.heap.size := ⟨_, rfl⟩
        obtain ⟨w5, hw5⟩ : ∃ w5, w5 = w4.alloc (.cells #[.int .i64 (W : Int)] 3) := ⟨_, rfl⟩
        have HE5 : Hid (w4.alloc (.cells #[.int .i64 (W : Int)] 3) = w5) := Lib.hid hw5.symm
        have HEC : Hid (w4.heap.size = cw) := Lib.hid hcw.symm
        have HB5 : Hid (Below w4.heap.size w4 w5) := Lib.hid (by rw [hw5]; exact (Below.refl _ _).alloc (Nat.le_refl _) _)
        have HCW : Hid (w5.heap[cw]? = some (.cells #[.int .i64 (W : Int)] 3 (0, 0))) := Lib.hid (by rw [hw5, hcw]; exact heap_alloc_new' _ _)
        have HCL5 : Hid (w5.heap[cl]? = some (.cells #[.int .i64 mn] 2 (0, 0))) := Lib.hid ((Kept.of_below (S := fun _ => False) HB5.out).heap (HK4.out.heap HCL.out fun e => by have e : cl = g := e; omega) fun e => e.elim)
        have hgcw : g < cw := by rw [hcw]; exact HR4.out.glt
        have hclw : cl < cw := by rw [hcw]; exact Nat.lt_of_lt_of_le hcl3 HK4.out.size
        have hcw5 : cw < w5.heap.size := by rw [hw5, hcw]; simp
        have HR5 : Hid (Rd w5 g r) := Lib.hid (HR4.out.high (S := fun _ => False) (Kept.of_below HB5.out) fun k hk => hk.elim)
        have HK5 : Hid (Kept (Only g) w w5) := Lib.hid ((HK3.out.trans HK4.out).trans (Kept.of_below HB5.out))
        have hc5 : w5.cell? ⟨cw, 0, none⟩ = some (.int .i64 (W : Int)) := by rw [cell_of_row _ _ _ _ _ _ HCW.out]; rfl
        clear hw5 hcw HB5 HR4 HR3 HCL HK3
        go_upto_region 5 with fail
        rw [HE5.out, HEC.out]
        clear HE5 HEC HK4
        by_cases hW : W ≤ 64
        · have hWi : (W : Int) ≤ 64 := by omega
          obtain ⟨MW, hMW⟩ : ∃ MW, MW = n * W := ⟨_, rfl⟩
          have hMWi : (n : Int) * (W : Int) = (MW : Int) := by rw [hMW]; exact (Int.natCast_mul n W).symm
          have hMWb : MW ≤ 262144 := by
            have : n * W ≤ 4096 * 64 := Nat.mul_le_mul hn hW
            omega
          obtain ⟨K, hK⟩ : ∃ K, K = (MW + 7) / 8 := ⟨_, rfl⟩
          have hKb : K ≤ 32769 := by omega
          have hKw : IntKind.u64.wrap (K : Int) = (K : Int) := by rw [IntKind.wrap_u64]; omega
          have HKE : Hid (K = (n * W + 7) / 8) := Lib.hid (by rw [hK, hMW])
          have HKM : Hid (K = (MW + 7) / 8) := Lib.hid hK
          have HMW := Lib.hid hMW
          have hBC := byteCount_any MW (by omega)
          rw [← hK] at hBC
          have HBC := Lib.hid hBC
          clear hBC hK hMW
          by_cases hKr : K ≤ r.length
          · obtain ⟨V, hVe⟩ : ∃ V, V = vlb (r.take K) := ⟨_, rfl⟩
            have hrl : ∀ x ∈ r.take K, x < 256 := fun x hx => HR5.out.lt x (List.mem_of_mem_take hx)
            have htl : (r.take K).length = K := by rw [List.length_take]; omega
            have HLEB : Hid (r.take K = leb K V) := Lib.hid (by
              have h := leb_vlb _ hrl
              rw [htl, ← hVe] at h; exact h.symm)
            have HV : Hid (V < 2 ^ (8 * K)) := Lib.hid (by have h := vlb_lt _ hrl; rwa [htl, ← hVe] at h)
            have HVE := Lib.hid hVe
            have HRL : Hid (r.length ≤ 1099511627776) := Lib.hid (by have := HL1.out; simp at this; omega)
            obtain ⟨A5, C5, hrd5⟩ := HR5.out
            have HT := Lib.hid (take_yes g C5 A5 r K r.length (Lib.hid rfl) hKr w5 (Lib.hid hrd5))
            have HKR := Lib.hid hKr
            clear hKr hrd5 hrl htl hVe
            go_upto_region 7 with (first
              | (go_at_call 34; refine (check_true _ _).mono ?_; rintro e w6 ⟨rfl, rfl⟩)
              | (go_at_call 84; refine (HBC.out _).mono ?_; rintro e w6 ⟨rfl, rfl⟩)
              | (go_at_call 65; (with_reducible refine (HT.out).mono ?_); rintro e w6 ⟨A, C, rfl, h1, h2, h3, h4, h5, h6, h7⟩; have HBY := Lib.hid h3; have HOF := Lib.hid h4; have HR6 := Lib.hid h5; have HK6 := Lib.hid h6; have HLO := Lib.hid h7; clear h3 h4 h5 h6 h7))
            obtain ⟨cp, w7, hcp, hw7, hrow7, hb7, hcp7⟩ := alloc_pt w6 (.slice A K C) 22
            rw [← hcp, ← hw7]
            have HK7 : Hid (Kept (Only g) w5 w7) := Lib.hid (HK6.out.trans (Kept.of_below hb7))
            have hw56 := HK6.out.size
            have HR7 : Hid (Rd w7 g (r.drop K)) := Lib.hid (HR6.out.high (S := fun _ => False) (Kept.of_below hb7) fun k hk => hk.elim)
            have HCW7 := Lib.hid (HK7.out.heap HCW.out fun e => by have e : cw = g := e; omega)
            have HCL7 := Lib.hid (HK7.out.heap HCL5.out fun e => by have e : cl = g := e; omega)
            have HCP7 := Lib.hid hrow7
            have HBY7 : Hid (ByAt w7 A (leb K V)) := Lib.hid (by rw [← HLEB.out]; exact (HBY.out.kept HK6.out HOF.out).keep hb7)
            have HLO7 : Hid (∀ a, A = some a → 0 < (leb K V).length → a.block < g) := Lib.hid (by rw [← HLEB.out]; exact HLO.out)
            have hgcp : g < cp := by omega
            have hc7 : w7.cell? ⟨cw, 0, none⟩ = some (.int .i64 (W : Int)) := by rw [cell_of_row _ _ _ _ _ _ HCW7.out]; rfl
            have hp7 : w7.cell? ⟨cp, 0, none⟩ = some (.slice A K C) := by rw [cell_of_row _ _ _ _ _ _ HCP7.out]; rfl
            have hcw7 : cw < w7.heap.size := Nat.lt_of_lt_of_le hcw5 HK7.out.size
            clear hcp hw7 hrow7 hb7 HT HBY HOF HR6 HK6 HLO HR5 hc5
            obtain ⟨us, hus⟩ : ∃ us, us = MW % 8 := ⟨_, rfl⟩
            have hqs : (MW : Int) % 8 = (us : Int) := by omega
            have hqs2 : (MW : Int).tmod 8 = (us : Int) := by rw [Int.tmod_eq_emod_of_nonneg (by omega)]; exact hqs
            have HUS := Lib.hid hus
            have hus8 : us < 8 := by omega
            have hK9 : K ≤ 100000000 := by omega
            have hWn : n * W ≤ 8 * K := by have := HKE.out; omega
            have HYES : ∀ (hv : V < 2 ^ MW), Hid (rpk2 n mn (W :: r) = some ((List.range n).map (pval W V mn), r.drop K)) := fun hv => Lib.hid (by
              rw [rpk2_yes HKE.out ⟨hW, HKR.out, by rw [← HVE.out, ← HMW.out]; exact hv⟩, ← HVE.out])
            have HNO : ∀ (hv : ¬ V < 2 ^ MW), Hid (rpk2 n mn (W :: r) = none) := fun hv => Lib.hid (rpk2_no HKE.out fun h => hv (by rw [HVE.out, HMW.out]; exact h.2.2))
            have HYES := Lib.hid HYES
            have HNO := Lib.hid HNO
            obtain ⟨ca, w8, hca, hw8, hrow8, hb8, hca8⟩ := alloc_pt w7 (.int .i64 (-(W : Int))) 3
            have HW8 : Hid (w7.alloc (.cells #[.int .i64 (-(W : Int))] 3) = w8) := Lib.hid hw8.symm
            have HCA : Hid (w7.heap.size = ca) := Lib.hid hca.symm
            have hk78 : Kept (fun _ => False) w7 w8 := Kept.of_below hb8
            have HPS : Hid (PS g ca cw cl cp W K C V A mn (0, r.drop K) w8) := Lib.hid ⟨⟨HR7.out.high hk78 fun k hk => hk.elim, by rw [List.length_drop]; have := HRL.out; omega⟩, by rw [atI_zero]; exact hrow8, hk78.heap HCW7.out fun e => e.elim, hk78.heap HCL7.out fun e => e.elim, hk78.heap HCP7.out fun e => e.elim, HBY7.out.keep hb8, HLO7.out, by omega, hgcw, hgcl, hgcp, by omega, by omega, by omega⟩
            have HTM := Lib.hid (packed_times g ca cw cl cp W K C V A mn n hn (r.drop K) w w8 hW hK9 hWn HV HPS (HK5.out.trans (HK7.out.trans (Kept.of_below hb8))) (by have := HWcl.out; omega))
            clear hca hw8 hrow8 hb8 hca8 hk78 hus
            by_cases hu0 : us = 0
            · have hv : V < 2 ^ MW := by have := HV.out; have := HKM.out; have := HUS.out; rw [show 8 * K = MW by omega] at *; assumption
              have HY := HYES.out hv
              subst hu0
              clear hv
              go_wp2_with (go_at_call 69; rw [HW8.out, HCA.out]; refine (HTM.out).mono ?_; rintro e w9 ⟨⟨A9, n9, c9, rfl, h1⟩, h2, h3⟩; have H1 := Lib.hid h1; have H2 := Lib.hid h2; have H3 := Lib.hid h3; clear h1 h2 h3)
              go_ret
              rw [HY.out]
              exact ⟨⟨A9, n9, c9, rfl, H1.out⟩, H2.out, H3.out⟩
            · have hui : (0 : Int) < (us : Int) := by omega
              obtain ⟨b, hb⟩ : ∃ b, b = V / 2 ^ (8 * (K - 1)) % 256 := ⟨_, rfl⟩
              have hLB := last_byte HV.out HKM.out HUS.out (by omega) hb
              have hK1 : 1 ≤ K := by have := HKM.out; have := HUS.out; omega
              obtain ⟨kl, hkl⟩ : ∃ kl, K = kl + 1 := ⟨K - 1, by omega⟩
              obtain ⟨hb256, gb, off, rfl, -, hcb⟩ := HBY7.out (K - 1) b (by rw [hb]; exact leb_get K V (K - 1) (by omega))
              rw [show K - 1 = kl by omega] at hcb
              have hkli : (K : Int) - 1 = (kl : Int) := by omega
              have hklK : (kl : Int) < (K : Int) := by omega
              have hshr := shr_u8 b us hb256 hus8
              obtain ⟨x, hx⟩ : ∃ x, x = b / 2 ^ us := ⟨_, rfl⟩
              rw [← hx] at hshr hLB
              have HLB := Lib.hid hLB
              have HKL := Lib.hid hkl
              clear hb hx hLB hkl hu0
              have hu64 : (us : Int) < 64 := by omega
              by_cases hx0 : x = 0
              · have HY := HYES.out (HLB.out.1 hx0)
                subst hx0
                go_wp2_with (first
                  | (go_at_call 34; refine (check_true _ _).mono ?_; rintro e w6 ⟨rfl, rfl⟩)
                  | (go_at_call 69; rw [HW8.out, HCA.out]; refine (HTM.out).mono ?_; rintro e w9 ⟨⟨A9, n9, c9, rfl, h1⟩, h2, h3⟩; have H1 := Lib.hid h1; have H2 := Lib.hid h2; have H3 := Lib.hid h3; clear h1 h2 h3))
                go_ret
                rw [HY.out]
                exact ⟨⟨A9, n9, c9, rfl, H1.out⟩, H2.out, H3.out⟩
              · have HN2 := HNO.out (fun h => hx0 (HLB.out.2 h))
                have hxz : ((x : Int) == 0) = false := by rw [beq_eq_false_iff_ne]; omega
                obtain ⟨A7, C7, hrd7⟩ := HR7.out
                have HRA := Lib.hid hrd7
                clear hx0 hrd7
                go_wp2_with (go_at_call 34; refine (check_false g C7 A7 (r.drop K) _ HRA).mono ?_; rintro e w6 ⟨rfl, h1, h2⟩)
                rw [HN2.out]
                exact ⟨rfl, rfl, h1, (HK5.out.trans HK7.out).trans h2⟩
          · have HNO := Lib.hid (rpk2_no (mn := mn) HKE.out (fun h => hKr h.2.1) : rpk2 n mn (W :: r) = none)
            have HTN := Lib.hid fun A C (h : RdA w5 g A C r) => take_no g C A r K r.length (Lib.hid rfl) (by omega) w5 (Lib.hid h)
            obtain ⟨A5, C5, hrd5⟩ := HR5.out
            have HT := Lib.hid (HTN.out A5 C5 hrd5)
            clear hKr
            go_wp2_with (first
              | (go_at_call 34; refine (check_true _ _).mono ?_; rintro e w6 ⟨rfl, rfl⟩)
              | (go_at_call 84; refine (HBC.out _).mono ?_; rintro e w6 ⟨rfl, rfl⟩)
              | (go_at_call 65; (with_reducible refine (HT.out).mono ?_); rintro e w6 ⟨rfl, h1, h2⟩))
            rw [HNO.out]
            exact ⟨rfl, rfl, h1, HK5.out.trans h2⟩
        · have hWi : ¬ (W : Int) ≤ 64 := by omega
          have hWd : decide ((W : Int) ≤ 64) = false := by simpa using hWi
          have HNO := Lib.hid (rpk2_no (mn := mn) rfl (fun h => hW h.1) : rpk2 n mn (W :: r) = none)
          clear hW
          obtain ⟨A5, C5, hrd5⟩ := HR5.out
          have HRA := Lib.hid hrd5
          clear hrd5
          go_wp2_with (go_at_call 34; refine (check_false g C5 A5 r _ HRA).mono ?_; rintro e w6 ⟨rfl, h1, h2⟩)
          rw [HNO.out]
          exact ⟨rfl, rfl, h1, HK5.out.trans h2⟩
end Go.Proofs.YtpobfgokikfmbaaDoor

set_option linter.unusedSimpArgs false
set_option linter.unusedVariables false
set_option maxRecDepth 8000
namespace Go.Proofs.YtpobfgokikfmbaaDoor
open Go.RowKit Go.WideShapes Col
namespace Col
def rW (way n : Nat) (q : List Nat) : Option (List Int × List Nat) := if way = 0 then runS zP n q else if way = 1 then rdDelta n q else if way = 2 then rruns n q else if way = 3 then rpk n q else none
/-- Whole numbers read, in whatever way they were laid. -/
def rI : List Nat → Option (List Int × List Nat)
  | [] => none
  | way :: q => (uP 4096 q).bind fun p => rW way p.1 p.2
theorem rI_no {way : Nat} {q : List Nat} (h : uP 4096 q = none) : rI (way :: q) = none := by rw [rI, h]; rfl
theorem rI_yes {way n : Nat} {q r : List Nat} (h : uP 4096 q = some (n, r)) : rI (way :: q) = rW way n r := by rw [rI, h]; rfl
end Col
theorem Rd.high' {w w' : World} {g : Nat} {q : List Nat} {S : Nat → Prop} (h : Rd w g q) (hk : Kept S w w') (hS : ∀ k, S k → k ≠ g) (ho : ∀ A C, RdA w g A C q → Off S A q) : Rd w' g q := by
  obtain ⟨A, C, h⟩ := h
  exact ⟨A, C, h.keep hk (fun e => hS g e rfl) (ho A C h)⟩
theorem ListEnds.up {g : Nat} {o : Option (List Int × List Nat)} {w w2 w' : World} {e : Ending} (h : ListEnds g (Only g) (RdM g) o w2 e w') (hb : Kept (Only g) w w2) : ListEnds g (Only g) (RdM g) o w e w' := by
  have := h.lift hb (fun s => s) (fun s w' h => h) (fun k hk => .inl hk)
  rcases o with _ | p <;> exact this
set_option maxHeartbeats 4000000 in
theorem readInts_any (g : Nat) (q : List Nat) (w : World) (H : Hid (RdM g q w)) :
    Calls Tryd.prog 50 #[.pointer (some ⟨g, 0, none⟩)] w (ListEnds g (Only g) (RdM g) (rI q) w) := by
  rcases q with _ | ⟨way, q⟩
  · have HB := Lib.hid (byte_no g w (Lib.hid H.out.1))
    go_enter Tryd.func50, Tryd.ntmps50
    go_wp2_with (go_at_call 68; (with_reducible refine (HB.out).mono ?_); rintro e w2 ⟨rfl, h1, h2⟩)
    exact ⟨rfl, rfl, h1, h2⟩
  · have HB := Lib.hid (byte_yes g way q w (Lib.hid H.out.1))
    have hw256 := H.out.1.lt way (List.mem_cons_self ..)
    have HQL : Hid (q.length ≤ 1099511627776) := Lib.hid (by have := H.out.2; simp at this; omega)
    rcases hu : uP 4096 q with _ | ⟨n, r⟩
    · have HN := Lib.hid (rI_no (way := way) hu)
      have HU := Lib.hid hu
      clear hu
      go_enter Tryd.func50, Tryd.ntmps50
      go_wp2_with (first
        | (go_at_call 68; (with_reducible refine (HB.out).mono ?_); rintro e w2 hy; obtain ⟨rfl, HR1, HK1⟩ := Yes.rd hy; clear hy)
        | (go_at_call 66; (refine (uint_no g 4096 q HU q.length (Lib.hid rfl) HQL.out _ HR1).mono ?_); rintro e w3 ⟨rfl, h1, h2⟩))
      rw [HN.out]
      exact ⟨rfl, rfl, h1, HK1.out.trans h2⟩
    · have HU := Lib.hid hu
      have HY := Lib.hid (rI_yes (way := way) hu)
      have hn := (uP_some hu).2
      have HRL := Lib.hid (Nat.le_trans (uP_left hu) HQL.out)
      have hni : IntKind.i64.wrap (n : Int) = (n : Int) := by rw [IntKind.wrap_i64]; omega
      clear hu
      have hcases : way = 0 ∨ way = 1 ∨ way = 2 ∨ way = 3 ∨ 4 ≤ way := by omega
      rcases hcases with rfl | rfl | rfl | rfl | h4
      · have HE : Hid (rI (0 :: q) = runS zP n r) := Lib.hid (by rw [HY.out]; rfl)
        rcases ho : runS zP n r with _ | ⟨xs, r9⟩
        · have HO := Lib.hid (HE.out.trans ho)
          have HO2 := Lib.hid ho
          clear ho
          go_enter Tryd.func50, Tryd.ntmps50
          go_wp2_with (first
            | (go_at_call 68; (first | (with_reducible refine (HB.out).mono ?_) | refine (HB.out).mono ?_); rintro e w2 hy; obtain ⟨rfl, HR1, HK1⟩ := Yes.rd hy; clear hy)
            | (go_at_call 66; (refine (uint_yes g 4096 n q r HU (by have := HQL.out; omega) _ HR1).mono ?_); rintro e w3 hy; obtain ⟨rfl, HR2, HK2⟩ := Yes.rd hy; clear hy)
            | (go_at_call 69; (refine (plain_any g n hn r _ (Lib.hid ⟨HR2.out, HRL.out⟩)).mono ?_); intro e w4 h9; have h8 := h9.up (HK1.out.trans HK2.out); clear h9; rw [HO2.out] at h8; obtain ⟨rfl, h1, h2⟩ := h8))
          rw [HO.out]
          exact ⟨rfl, rfl, h1, h2⟩
        · have HO := Lib.hid (HE.out.trans ho)
          have HO2 := Lib.hid ho
          clear ho
          go_enter Tryd.func50, Tryd.ntmps50
          go_wp2_with (first
            | (go_at_call 68; (first | (with_reducible refine (HB.out).mono ?_) | refine (HB.out).mono ?_); rintro e w2 hy; obtain ⟨rfl, HR1, HK1⟩ := Yes.rd hy; clear hy)
            | (go_at_call 66; (refine (uint_yes g 4096 n q r HU (by have := HQL.out; omega) _ HR1).mono ?_); rintro e w3 hy; obtain ⟨rfl, HR2, HK2⟩ := Yes.rd hy; clear hy)
            | (go_at_call 69; (refine (plain_any g n hn r _ (Lib.hid ⟨HR2.out, HRL.out⟩)).mono ?_); intro e w4 h9; have h8 := h9.up (HK1.out.trans HK2.out); clear h9; rw [HO2.out] at h8; obtain ⟨⟨A, n', cap, rfl, ho'⟩, h1, h2⟩ := h8; have HO' := Lib.hid ho'; have H1 := Lib.hid h1; have H2 := Lib.hid h2; clear ho' h1 h2))
          go_ret
          rw [HO.out]
          exact ⟨⟨A, n', cap, rfl, HO'.out⟩, H1.out, H2.out⟩
      · have HE : Hid (rI (1 :: q) = rdDelta n r) := Lib.hid (by rw [HY.out]; rfl)
        rcases ho : rdDelta n r with _ | ⟨xs, r9⟩
        · have HO := Lib.hid (HE.out.trans ho)
          have HO2 := Lib.hid ho
          clear ho
          go_enter Tryd.func50, Tryd.ntmps50
          go_wp2_with (first
            | (go_at_call 68; (first | (with_reducible refine (HB.out).mono ?_) | refine (HB.out).mono ?_); rintro e w2 hy; obtain ⟨rfl, HR1, HK1⟩ := Yes.rd hy; clear hy)
            | (go_at_call 66; (refine (uint_yes g 4096 n q r HU (by have := HQL.out; omega) _ HR1).mono ?_); rintro e w3 hy; obtain ⟨rfl, HR2, HK2⟩ := Yes.rd hy; clear hy)
            | (go_at_call 71; (refine (readDelta_any g n hn r _ (Lib.hid ⟨HR2.out, HRL.out⟩)).mono ?_); intro e w4 h9; have h8 := h9.up (HK1.out.trans HK2.out); clear h9; rw [HO2.out] at h8; obtain ⟨rfl, h1, h2⟩ := h8))
          rw [HO.out]
          exact ⟨rfl, rfl, h1, h2⟩
        · have HO := Lib.hid (HE.out.trans ho)
          have HO2 := Lib.hid ho
          clear ho
          go_enter Tryd.func50, Tryd.ntmps50
          go_wp2_with (first
            | (go_at_call 68; (first | (with_reducible refine (HB.out).mono ?_) | refine (HB.out).mono ?_); rintro e w2 hy; obtain ⟨rfl, HR1, HK1⟩ := Yes.rd hy; clear hy)
            | (go_at_call 66; (refine (uint_yes g 4096 n q r HU (by have := HQL.out; omega) _ HR1).mono ?_); rintro e w3 hy; obtain ⟨rfl, HR2, HK2⟩ := Yes.rd hy; clear hy)
            | (go_at_call 71; (refine (readDelta_any g n hn r _ (Lib.hid ⟨HR2.out, HRL.out⟩)).mono ?_); intro e w4 h9; have h8 := h9.up (HK1.out.trans HK2.out); clear h9; rw [HO2.out] at h8; obtain ⟨⟨A, n', cap, rfl, ho'⟩, h1, h2⟩ := h8; have HO' := Lib.hid ho'; have H1 := Lib.hid h1; have H2 := Lib.hid h2; clear ho' h1 h2))
          go_ret
          rw [HO.out]
          exact ⟨⟨A, n', cap, rfl, HO'.out⟩, H1.out, H2.out⟩
      · have HE : Hid (rI (2 :: q) = rruns n r) := Lib.hid (by rw [HY.out]; rfl)
        rcases ho : rruns n r with _ | ⟨xs, r9⟩
        · have HO := Lib.hid (HE.out.trans ho)
          have HO2 := Lib.hid ho
          clear ho
          go_enter Tryd.func50, Tryd.ntmps50
          go_wp2_with (first
            | (go_at_call 68; (first | (with_reducible refine (HB.out).mono ?_) | refine (HB.out).mono ?_); rintro e w2 hy; obtain ⟨rfl, HR1, HK1⟩ := Yes.rd hy; clear hy)
            | (go_at_call 66; (refine (uint_yes g 4096 n q r HU (by have := HQL.out; omega) _ HR1).mono ?_); rintro e w3 hy; obtain ⟨rfl, HR2, HK2⟩ := Yes.rd hy; clear hy)
            | (go_at_call 72; (refine (readRuns_any g n hn r _ (Lib.hid ⟨HR2.out, HRL.out⟩)).mono ?_); intro e w4 h9; have h8 := h9.up (HK1.out.trans HK2.out); clear h9; rw [HO2.out] at h8; obtain ⟨rfl, h1, h2⟩ := h8))
          rw [HO.out]
          exact ⟨rfl, rfl, h1, h2⟩
        · have HO := Lib.hid (HE.out.trans ho)
          have HO2 := Lib.hid ho
          clear ho
          go_enter Tryd.func50, Tryd.ntmps50
          go_wp2_with (first
            | (go_at_call 68; (first | (with_reducible refine (HB.out).mono ?_) | refine (HB.out).mono ?_); rintro e w2 hy; obtain ⟨rfl, HR1, HK1⟩ := Yes.rd hy; clear hy)
            | (go_at_call 66; (refine (uint_yes g 4096 n q r HU (by have := HQL.out; omega) _ HR1).mono ?_); rintro e w3 hy; obtain ⟨rfl, HR2, HK2⟩ := Yes.rd hy; clear hy)
            | (go_at_call 72; (refine (readRuns_any g n hn r _ (Lib.hid ⟨HR2.out, HRL.out⟩)).mono ?_); intro e w4 h9; have h8 := h9.up (HK1.out.trans HK2.out); clear h9; rw [HO2.out] at h8; obtain ⟨⟨A, n', cap, rfl, ho'⟩, h1, h2⟩ := h8; have HO' := Lib.hid ho'; have H1 := Lib.hid h1; have H2 := Lib.hid h2; clear ho' h1 h2))
          go_ret
          rw [HO.out]
          exact ⟨⟨A, n', cap, rfl, HO'.out⟩, H1.out, H2.out⟩
      · have HE : Hid (rI (3 :: q) = rpk n r) := Lib.hid (by rw [HY.out]; rfl)
        rcases ho : rpk n r with _ | ⟨xs, r9⟩
        · have HO := Lib.hid (HE.out.trans ho)
          have HO2 := Lib.hid ho
          clear ho
          go_enter Tryd.func50, Tryd.ntmps50
          go_wp2_with (first
            | (go_at_call 68; (first | (with_reducible refine (HB.out).mono ?_) | refine (HB.out).mono ?_); rintro e w2 hy; obtain ⟨rfl, HR1, HK1⟩ := Yes.rd hy; clear hy)
            | (go_at_call 66; (refine (uint_yes g 4096 n q r HU (by have := HQL.out; omega) _ HR1).mono ?_); rintro e w3 hy; obtain ⟨rfl, HR2, HK2⟩ := Yes.rd hy; clear hy)
            | (go_at_call 73; (refine (readPacked_any g n hn r _ (Lib.hid ⟨HR2.out, HRL.out⟩)).mono ?_); intro e w4 h9; have h8 := h9.up (HK1.out.trans HK2.out); clear h9; rw [HO2.out] at h8; obtain ⟨rfl, h1, h2⟩ := h8))
          rw [HO.out]
          exact ⟨rfl, rfl, h1, h2⟩
        · have HO := Lib.hid (HE.out.trans ho)
          have HO2 := Lib.hid ho
          clear ho
          go_enter Tryd.func50, Tryd.ntmps50
          go_wp2_with (first
            | (go_at_call 68; (first | (with_reducible refine (HB.out).mono ?_) | refine (HB.out).mono ?_); rintro e w2 hy; obtain ⟨rfl, HR1, HK1⟩ := Yes.rd hy; clear hy)
            | (go_at_call 66; (refine (uint_yes g 4096 n q r HU (by have := HQL.out; omega) _ HR1).mono ?_); rintro e w3 hy; obtain ⟨rfl, HR2, HK2⟩ := Yes.rd hy; clear hy)
            | (go_at_call 73; (refine (readPacked_any g n hn r _ (Lib.hid ⟨HR2.out, HRL.out⟩)).mono ?_); intro e w4 h9; have h8 := h9.up (HK1.out.trans HK2.out); clear h9; rw [HO2.out] at h8; obtain ⟨⟨A, n', cap, rfl, ho'⟩, h1, h2⟩ := h8; have HO' := Lib.hid ho'; have H1 := Lib.hid h1; have H2 := Lib.hid h2; clear ho' h1 h2))
          go_ret
          rw [HO.out]
          exact ⟨⟨A, n', cap, rfl, HO'.out⟩, H1.out, H2.out⟩
      · have HN : Hid (rI (way :: q) = none) := Lib.hid (by rw [HY.out]; unfold rW; rw [if_neg (by omega), if_neg (by omega), if_neg (by omega), if_neg (by omega)])
        have e0 : ((way : Int) == 0) = false := by rw [beq_eq_false_iff_ne]; omega
        have e1 : ((way : Int) == 1) = false := by rw [beq_eq_false_iff_ne]; omega
        have e2 : ((way : Int) == 2) = false := by rw [beq_eq_false_iff_ne]; omega
        have e3 : ((way : Int) == 3) = false := by rw [beq_eq_false_iff_ne]; omega
        go_enter Tryd.func50, Tryd.ntmps50
        go_wp2_with (first
          | (go_at_call 68; (with_reducible refine (HB.out).mono ?_); rintro e w2 hy; obtain ⟨rfl, HR1, HK1⟩ := Yes.rd hy; clear hy)
          | (go_at_call 66; (refine (uint_yes g 4096 n q r HU (by have := HQL.out; omega) _ HR1).mono ?_); rintro e w3 hy; obtain ⟨rfl, HR2, HK2⟩ := Yes.rd hy; clear hy)
          | (go_at_call 34; obtain ⟨A1, C1, hR⟩ := HR2.out; (refine (check_false g C1 A1 r _ (Lib.hid hR)).mono ?_); rintro e w4 ⟨rfl, h1, h2⟩))
        rw [HN.out]
        exact ⟨rfl, rfl, h1, (HK1.out.trans HK2.out).trans h2⟩

/-- The reading of a list, all of it. -/
def riL (q : List Nat) : Option (List Int) := match rI q with
  | some (l, []) => some l
  | _ => none
theorem riL_some {q : List Nat} {l : List Int} (h : rI q = some (l, [])) : riL q = some l := by unfold riL; rw [h]
theorem riL_none {q : List Nat} (h : rI q = none) : riL q = none := by unfold riL; rw [h]
theorem riL_left {q r : List Nat} {l : List Int} (h : rI q = some (l, r)) (hr : r ≠ []) : riL q = none := by
  unfold riL; rw [h]
  rcases r with _ | ⟨x, r⟩
  · exact absurd rfl hr
  · rfl
theorem OwnI.keptG {w w' : World} {B n cap g : Nat} {A : Option Addr} {l : List Int} (h : OwnI w B A n cap l) (hk : Kept (Only g) w w') (hne : g < B) : OwnI w' B A n cap l :=
  ⟨h.1.kept (row := some g) ⟨hk.os, hk.tape, hk.output, hk.size, fun k hk' hn => hk.block k hk' (fun e => hn (by rw [show k = g from e]))⟩ (by
    have hb := h.base
    rcases A with _ | a
    · simp [Value.ownBlock]
    · have := hb a.block rfl
      simp [Value.ownBlock]; omega), h.2⟩
theorem off_slice {w : World} {cl y z : Nat} {A x : Option Addr} {q : List Nat} {ty : TypeId} (h : ByAt w A q) (hr : w.heap[cl]? = some (.cells #[.slice x y z] ty (0, 0))) : Off (fun k => k = cl) A q := fun a ha hl hs => by
  obtain ⟨b, off, e, hb, hc⟩ := h.spot hl
  rw [e] at ha; injection ha with ha; subst ha
  have hc0 := hc 0 q[0] (List.getElem?_eq_getElem hl)
  have hs : b = cl := hs
  subst hs
  rw [cell_of_row _ _ _ _ _ _ hr] at hc0
  have hj : off + 0 < 1 := (Array.getElem?_eq_some_iff.1 hc0).1
  obtain rfl : off = 0 := by omega
  simp at hc0
/-- What the list's cell holds behind the reading. -/
def RdL (q : List Nat) (cl B : Nat) (b : Bool) (w : World) : Prop := match b with
  | true => ∃ A n cap l, riL q = some l ∧ w.heap[cl]? = some (.cells #[.slice A n cap] 50 (0, 0)) ∧ OwnI w B A n cap l
  | false => riL q = none
theorem RdL.keep {q : List Nat} {cl B g : Nat} {b : Bool} {w w' : World} (h : RdL q cl B b w) (hk : Kept (Only g) w w') (h1 : cl ≠ g) (h2 : g < B) : RdL q cl B b w' := by
  cases b with
  | false => exact h
  | true =>
    obtain ⟨A, n, cap, l, e, hr, ho⟩ := h
    exact ⟨A, n, cap, l, e, hk.heap hr fun e => h1 e, ho.keptG hk h2⟩
theorem RdL.less {q : List Nat} {cl B B' : Nat} {b : Bool} {w : World} (h : RdL q cl B b w) (hB : B' ≤ B) : RdL q cl B' b w := by
  cases b with
  | false => exact h
  | true =>
    obtain ⟨A, n, cap, l, e, hr, ho⟩ := h
    exact ⟨A, n, cap, l, e, hr, ho.more hB⟩
set_option maxHeartbeats 2000000 in
theorem listFn_any (g bf cl : Nat) (q : List Nat) (hql : q.length ≤ 1099511627776) (w : World) (HR : Hid (Rd w g q)) (Hf : Hid (w.heap[bf]? = some (.cells #[.func (.func 50) #[] #[]] 94 (0, 0)))) (Hc : Hid (w.heap[cl]? = some (.cells #[.slice none 0 0] 50 (0, 0)))) (h1 : cl < g) (h2 : bf < g) :
    Calls Tryd.prog 67 #[.pointer (some ⟨g, 0, none⟩), .pointer (some ⟨bf, 0, none⟩), .pointer (some ⟨cl, 0, none⟩)] w (Tried g (fun k => k = cl) (RdL q cl (g + 1)) w) := by
  have hc := cell_of_row w bf 0 _ _ _ Hf.out
  simp only [List.getElem?_toArray] at hc
  have hc : w.cell? ⟨bf, 0, none⟩ = some (.func (.func 50) #[] #[]) := by rw [cell_of_row _ _ _ _ _ _ Hf.out]; rfl
  have HI := Lib.hid (readInts_any g q w (Lib.hid ⟨HR.out, hql⟩))
  have hgl := HR.out.glt
  rcases ho : rI q with _ | ⟨l, r⟩
  · have HO := Lib.hid ho
    clear ho
    go_enter Tryd.func67, Tryd.ntmps67
    go_wp2_with (go_at_call 50; refine (HI.out).mono ?_; intro e w3 h8; rw [HO.out] at h8; obtain ⟨rfl, h1, h2⟩ := h8)
    exact ⟨rfl, h2.mono fun k hk => .inl (.inr hk), .inr ⟨rfl, h1, riL_none HO.out⟩⟩
  · have HO := Lib.hid ho
    clear ho
    go_enter Tryd.func67, Tryd.ntmps67
    go_wp2_with (go_at_call 50; refine (HI.out).mono ?_; intro e w3 h8; rw [HO.out] at h8; obtain ⟨⟨A, n, cap, rfl, h3⟩, h4, h5⟩ := h8; have HOW := Lib.hid h3; have HRD := Lib.hid h4; have HK := Lib.hid h5; have hrow := h5.heap Hc.out (fun e => by have e : cl = g := e; omega); have c3 : w3.cell? ⟨cl, 0, none⟩ = some (.slice none 0 0) := (by rw [cell_of_row _ _ _ _ _ _ hrow]; rfl); have f3 : w3.frozen? ⟨cl, 0, none⟩ = false := row_frozen hrow 0; have HROW := Lib.hid hrow; clear h3 h4 h5 hrow)
    have hk : Kept (fun k => k = cl) w3 (w3.setCell ⟨cl, 0, none⟩ (.slice A n cap)) := (Kept.refl _ _).setCell _ _ (.inl rfl)
    have hrow2 : (w3.setCell ⟨cl, 0, none⟩ (.slice A n cap)).heap[cl]? = some (.cells #[.slice A n cap] 50 (0, 0)) := by
      have := HROW.out; rw [World.setCell]; simp [Array.getElem?_modify, this]
    have hkk : Kept (fun k => k = cl ∨ k = g) w (w3.setCell ⟨cl, 0, none⟩ (.slice A n cap)) := (HK.out.mono fun k hk => .inl (.inr hk)).setCell _ _ (.inl (.inl rfl))
    refine bodyPost_end (results_none rfl _ _ _) rfl ⟨hkk, .inl ⟨r, rfl, HRD.out.1.high' hk (fun k hk => by have hk : k = cl := hk; omega) (fun A C h => off_slice h.bytes HROW.out), ?_⟩⟩
    by_cases hr : r = []
    · subst hr
      have ho2 : OwnI (w3.setCell ⟨cl, 0, none⟩ (.slice A n cap)) w.heap.size A n cap l := HOW.out.keptG (g := cl) hk (by omega)
      exact ⟨A, n, cap, l, riL_some HO.out, hrow2, ho2.more (by omega)⟩
    · have : decide (r = []) = false := by simpa using hr
      rw [this]
      exact riL_left HO.out hr
end Go.Proofs.YtpobfgokikfmbaaDoor

set_option linter.unusedSimpArgs false
set_option linter.unusedVariables false
set_option maxRecDepth 8000
namespace Go.Proofs.YtpobfgokikfmbaaDoor
open Go.RowKit Go.WideShapes Col
/-- How ReadInts ends. -/
def RdEnds (o : Option (List Int)) (w : World) (e : Ending) (w' : World) : Prop := match o with
  | some l => (∃ A n cap, e = .returned (.tuple #[.slice A n cap, .int .i64 0]) ∧ OwnI w' w.heap.size A n cap l) ∧ Below w.heap.size w w'
  | none => e = .returned (.tuple #[.slice none 0 0, .int .i64 3]) ∧ Below w.heap.size w w'
theorem rdl_no {q : List Nat} {cl B : Nat} {b : Bool} {w : World} (h : riL q = none) (hr : RdL q cl B b w) : b = false := by
  rcases b with _ | _
  · rfl
  · obtain ⟨A9, n9, c9, l9, e9, -⟩ := hr
    rw [h] at e9; cases e9
theorem rdl_yes {q : List Nat} {cl B : Nat} {b : Bool} {w : World} {l : List Int} (h : riL q = some l) (hr : RdL q cl B b w) : b = true := by
  rcases b with _ | _
  · have hr : riL q = none := hr
    rw [h] at hr; cases hr
  · rfl
set_option maxHeartbeats 2000000 in
theorem readListI_any (A : Option Addr) (C : Nat) (q : List Nat) (n : Nat) (hn : Hid (n = q.length)) (hn4 : n ≤ 1099511627776) (hC : n ≤ C) (hC' : C ≤ maxLen) (w : World) (HA : Hid (ByAt w A q)) :
    Calls Tryd.prog 49 #[.slice A n C, .func (.func 50) #[] #[]] w (RdEnds (riL q) w) := by
  obtain ⟨bf, w1, hbf, hw1, hrow1, hb1, hbf1⟩ := alloc_pt w (.func (.func 50) #[] #[]) 94
  obtain ⟨cl, w2, hcl, hw2, hrow2, hb2, hcl2⟩ := alloc_pt w1 (.slice none 0 0) 50
  have HW : Hid ((w.alloc (.cells #[.func (.func 50) #[] #[]] 94)).alloc (.cells #[.slice none 0 0] 50) = w2) := Lib.hid (by rw [hw2, hw1])
  have hsz : w1.heap.size = w.heap.size + 1 := by rw [hw1]; simp
  have HBF := Lib.hid hbf; have HCL : Hid (cl = w.heap.size + 1) := Lib.hid (by rw [hcl, hsz])
  have HB2 : Hid (Below w.heap.size w w2) := Lib.hid (below_to hb1 hb2)
  have hrf2 : w2.heap[bf]? = some (.cells #[.func (.func 50) #[] #[]] 94 (0, 0)) := (Kept.of_below (S := fun _ => False) hb2).heap hrow1 fun e => e
  have ht := try_any 67 #[] #[.pointer (some ⟨bf, 0, none⟩), .pointer (some ⟨cl, 0, none⟩)] A C q n hn hC hC' w2 (Lib.hid (HA.out.keep HB2.out)) (fun k => k = cl) (fun k hk => by have hk : k = cl := hk; omega)
    (fun g => RdL q cl (g + 1)) (RdL q cl w2.heap.size) (fun g b v2 v3 hg h hk => (h.keep hk (by omega) (Nat.lt_succ_self _)).less (by omega))
    (fun g v1 hg hr hb => listFn_any g bf cl q (by rw [← hn.out]; exact hn4) v1 (Lib.hid hr) (Lib.hid ((Kept.of_below (S := fun _ => False) hb).heap hrf2 fun e => e)) (Lib.hid ((Kept.of_below (S := fun _ => False) hb).heap hrow2 fun e => e)) (by omega) (by omega))
    (fun _ _ => by first | rfl | kernel_rfl)
  have HT := Lib.hid ht
  have HR2 := Lib.hid hrow2
  clear ht hbf hw1 hrow1 hb1 hcl hw2 hrow2 hb2 hrf2 hbf1
  go_enter Tryd.func49, Tryd.ntmps49
  go_upto_region 2 with fail
  have e1 : w.heap.size = bf := HBF.out.symm
  have e2 : w.heap.size + 1 = cl := HCL.out.symm
  have hx : ∀ (w3 : World) (b : Bool), RdL q cl w2.heap.size b w3 → Kept (fun k => k = cl) w2 w3 → Below w.heap.size w w3 := fun w3 b _ hk => HB2.out.trans (hk.below (B := w.heap.size) (by omega) fun k hk => by have hk : k = cl := hk; omega)
  have HX := Lib.hid hx
  clear hx
  rw [HW.out, e2, e1]
  clear e1 e2
  rcases ho : riL q with _ | l
  · have HO := Lib.hid ho
    clear ho
    go_wp2_with (go_at_call 10; (with_reducible refine (HT.out).mono ?_); rintro e w3 ⟨b, rfl, hr, hk⟩; obtain rfl := rdl_no HO.out hr; have HB3 := Lib.hid (HX.out w3 false hr hk); clear hr hk)
    go_ret2
    rw [HO.out]
    exact ⟨rfl, HB3.out⟩
  · have HO := Lib.hid ho
    clear ho
    go_wp2_with (go_at_call 10; (with_reducible refine (HT.out).mono ?_); rintro e w3 ⟨b, rfl, hr, hk⟩; obtain rfl := rdl_yes HO.out hr; have HB3 := Lib.hid (HX.out w3 true hr hk); obtain ⟨A9, n9, c9, l9, e9, hrow9, how9⟩ := hr; rw [HO.out] at e9; injection e9 with e9; subst e9; have HOW := Lib.hid (how9.more HB2.out.size); have c9c : w3.cell? ⟨cl, 0, none⟩ = some (.slice A9 n9 c9) := (by rw [cell_of_row _ _ _ _ _ _ hrow9]; rfl); clear hk hrow9 how9)
    go_ret2
    rw [HO.out]
    exact ⟨⟨A9, n9, c9, rfl, HOW.out⟩, HB3.out⟩
set_option maxHeartbeats 2000000 in
theorem readIntsC_any (A : Option Addr) (C : Nat) (q : List Nat) (n : Nat) (hn : Hid (n = q.length)) (hn4 : n ≤ 1099511627776) (hC : n ≤ C) (hC' : C ≤ maxLen) (w : World) (HA : Hid (ByAt w A q)) :
    Calls Tryd.prog 29 #[.slice A n C] w (RdEnds (riL q) w) := by
  have HT := Lib.hid (readListI_any A C q n hn hn4 hC hC' w HA)
  rcases ho : riL q with _ | l
  · have HO := Lib.hid ho
    rw [ho] at HT
    clear ho
    go_enter Tryd.func29, Tryd.ntmps29
    go_wp2_with (go_at_call 49; (with_reducible refine (HT.out).mono ?_); rintro e w3 ⟨rfl, hb⟩; have HB := Lib.hid hb; clear hb)
    go_ret2
    exact ⟨rfl, HB.out⟩
  · have HO := Lib.hid ho
    rw [ho] at HT
    clear ho
    go_enter Tryd.func29, Tryd.ntmps29
    go_wp2_with (go_at_call 49; (with_reducible refine (HT.out).mono ?_); rintro e w3 ⟨⟨A9, n9, c9, rfl, ho⟩, hb⟩; have HB := Lib.hid hb; have HOW := Lib.hid ho; clear hb ho)
    go_ret2
    exact ⟨⟨A9, n9, c9, rfl, HOW.out⟩, HB.out⟩
end Go.Proofs.YtpobfgokikfmbaaDoor

set_option linter.unusedSimpArgs false
set_option linter.unusedVariables false
set_option maxRecDepth 8000
namespace Go.Proofs.YtpobfgokikfmbaaDoor
open Go.RowKit Go.WideShapes Col
namespace Col
theorem grp_back (n : Nat) (hn : n < 18446744073709551616) (r : List Nat) : grp 0 (ub n ++ r) = some (n, r) := grp_ub r n 0 ⟨by omega, hn⟩ (.inr rfl)
theorem uP_back {most n : Nat} (hn : n ≤ most) (h : n < 18446744073709551616) (r : List Nat) : uP most (ub n ++ r) = some (n, r) := by
  unfold uP; rw [grp_back n h r]; simp [hn]
theorem zP_back {x : Int} (h : Wf64 x) (r : List Nat) : zP (ub (zz x) ++ r) = some (x, r) := by
  unfold zP; rw [grp_back _ (zz_lt h) r]; simp [uz_zz]
theorem drop_get {l : List Int} {k : Nat} (h : k < l.length) : ∃ x, l[k]? = some x ∧ l.drop k = x :: l.drop (k + 1) ∧ l.take (k + 1) = l.take k ++ [x] :=
  ⟨l[k], List.getElem?_eq_getElem h, List.drop_eq_getElem_cons h, by rw [List.take_add_one, List.getElem?_eq_getElem h]; rfl⟩
theorem plain_back (l : List Int) (hl : ∀ x ∈ l, Wf64 x) (r : List Nat) : ∀ k, k ≤ l.length → runS zP k (lpl l ++ r) = some (l.take k, lpl (l.drop k) ++ r)
  | 0, _ => by simp [runS]
  | k + 1, h => by
    obtain ⟨x, hx, h1, h2⟩ := drop_get (l := l) (k := k) (by omega)
    rw [runS, plain_back l hl r k (by omega), h1]
    have e : lpl (x :: l.drop (k + 1)) = ub (zz x) ++ lpl (l.drop (k + 1)) := by simp [lpl]
    simp only [Option.bind_some]
    rw [e, List.append_assoc, zP_back (hl x (List.mem_of_getElem? hx)), h2]; rfl
theorem delta_back (l : List Int) (hl : ∀ x ∈ l, Wf64 x) (r : List Nat) : ∀ k, k ≤ l.length → runS dstep k (0, lde 0 l ++ r) = some (l.take k, (lastOf 0 (l.take k), lde (lastOf 0 (l.take k)) (l.drop k) ++ r))
  | 0, _ => by simp [runS, lastOf]
  | k + 1, h => by
    obtain ⟨x, hx, h1, h2⟩ := drop_get (l := l) (k := k) (by omega)
    have hp := lastOf_wf (l.take k) fun y hy => hl y (List.mem_of_mem_take hy)
    have hwx := hl x (List.mem_of_getElem? hx)
    have hls := lastOf_snoc 0 l k x hx
    rw [runS, delta_back l hl r k (by omega), h1]
    generalize lastOf 0 (l.take k) = p at *
    have e : wrap64 (p + sub64 x p) = x := by
      rw [sub64_eq]; unfold wrap64; unfold Wf64 at *; omega
    simp only [Option.bind_some]
    rw [lde, List.append_assoc]
    unfold dstep
    simp only
    rw [zP_back (sub64_wf x p)]
    simp only [Option.map_some]
    rw [e, h2, ← h2, hls, h2]
theorem runN_take (x : Int) : ∀ t : List Int, t.take (runN x t) = List.replicate (runN x t) x
  | [] => rfl
  | y :: t => by
    unfold runN
    split
    · rename_i h; subst h; rw [List.take_succ_cons, runN_take y t]; rfl
    · rfl
theorem runs_back (n : Nat) : ∀ l : List Int, l.length ≤ n → l.length ≤ 1000000 → (∀ x ∈ l, Wf64 x) → ∀ r, rruns l.length (lru l ++ r) = some (l, r) := by
  induction n with
  | zero => intro l h _ _ r; rw [List.eq_nil_of_length_eq_zero (by omega : l.length = 0), lru_nil]; exact rruns_zero r
  | succ n ih =>
    intro l h h1 h2 r
    rcases l with _ | ⟨x, t⟩
    · rw [lru_nil]; exact rruns_zero r
    · have hr := runN_le x t
      have hk : runN x t < 18446744073709551616 := by simp at h1; omega
      have h3 := ih (t.drop (runN x t)) (by rw [List.length_drop]; simp at h; omega) (by rw [List.length_drop]; simp at h1; omega) (fun y hy => h2 y (List.mem_cons_of_mem _ (List.mem_of_mem_drop hy))) r
      rw [List.length_drop] at h3
      rw [lru, List.length_cons, List.append_assoc, rruns_yes (zP_back (h2 x (List.mem_cons_self ..)) _) (by rw [List.append_assoc]; exact uP_back hr hk _), h3]
      simp only [Option.map_some, List.replicate_succ, List.cons_append]
      rw [← runN_take, List.take_append_drop]
theorem pk_get (W : Nat) : ∀ (ds : List Nat) (i d : Nat), ds[i]? = some d → (∀ x ∈ ds, x < 2 ^ W) → bitsAt (pk W ds) (i * W) W = d
  | [], i, d, h, _ => by simp at h
  | e :: ds, 0, d, h, hd => by
    simp at h; subst h
    unfold bitsAt
    rw [pk, Nat.zero_mul, Nat.pow_zero, Nat.div_one, Nat.add_mul_mod_self_left, Nat.mod_eq_of_lt (hd _ (List.mem_cons_self ..))]
  | e :: ds, i + 1, d, h, hd => by
    have ih := pk_get W ds i d (by simpa using h) fun x hx => hd x (List.mem_cons_of_mem _ hx)
    unfold bitsAt at *
    rw [pk, Nat.add_mul, Nat.one_mul, Nat.add_comm (i * W), Nat.pow_add, ← Nat.div_div_eq_div_mul, Nat.add_mul_div_left _ _ (Nat.two_pow_pos _), Nat.div_eq_of_lt (hd e (List.mem_cons_self ..)), Nat.zero_add]
    exact ih
theorem packed_back (l : List Int) (hl : ∀ x ∈ l, Wf64 x) (r : List Nat) : rpk l.length (lpk l ++ r) = some (l, r) := by
  by_cases h0 : l.length = 0
  · rw [List.eq_nil_of_length_eq_zero h0, lpk_nil]; rfl
  · have hW := wid_le hl
    have hmn := mnL_wf hl
    have hpk := pk_lt (wid l) (digs l) dig_lt
    have hdl : (digs l).length = l.length := List.length_map ..
    rw [hdl, Nat.mul_comm] at hpk
    have hV : pk (wid l) (digs l) < 2 ^ (8 * ((l.length * wid l + 7) / 8)) := Nat.lt_of_lt_of_le hpk (Nat.pow_le_pow_right (by decide) (by omega))
    have hlen := leb_length ((l.length * wid l + 7) / 8) (pk (wid l) (digs l))
    have hget : ∀ (i : Nat) (x : Int), l[i]? = some x → pval (wid l) (pk (wid l) (digs l)) (mnL l) i = x := fun i x hx => by
      have hd : (digs l)[i]? = some (dig (mnL l) x) := by unfold digs; rw [List.getElem?_map, hx]; rfl
      unfold pval
      rw [pk_get _ _ i _ hd dig_lt]
      have h1 := mn_le (List.mem_of_getElem? hx)
      have h2 := hl x (List.mem_of_getElem? hx)
      unfold dig
      rw [IntKind.wrap_i64]; unfold wrap64; unfold Wf64 at *; omega
    rw [lpk_some (by omega)]
    generalize wid l = W at *
    generalize pk W (digs l) = V at *
    have ht : (leb ((l.length * W + 7) / 8) V ++ r).take ((l.length * W + 7) / 8) = leb ((l.length * W + 7) / 8) V := by
      rw [List.take_append_of_le_length (by omega), List.take_of_length_le (by omega)]
    have hdr : (leb ((l.length * W + 7) / 8) V ++ r).drop ((l.length * W + 7) / 8) = r := by
      rw [List.drop_append_of_le_length (by omega), List.drop_of_length_le (by omega), List.nil_append]
    rw [List.append_assoc, rpk_of h0 (zP_back hmn _), List.append_assoc]
    show rpk2 _ _ (W :: (leb _ V ++ r)) = _
    rw [rpk2_yes rfl ⟨hW, by rw [List.length_append, hlen]; omega, by rw [ht, vlb_leb, Nat.mod_eq_of_lt hV]; exact hpk⟩, ht, hdr, vlb_leb, Nat.mod_eq_of_lt hV]
    congr 2
    apply List.ext_getElem?
    intro i
    by_cases hi : i < l.length
    · rw [List.getElem?_map, List.getElem?_range hi, List.getElem?_eq_getElem hi]
      exact congrArg some (hget i _ (List.getElem?_eq_getElem hi))
    · rw [List.getElem?_eq_none (by simp; omega), List.getElem?_eq_none (by omega)]
/-- What As lays ReadInts reads. -/
theorem as_back (way : Nat) (hw : way < 4) (l : List Int) (hl : ∀ x ∈ l, Wf64 x) (hn : l.length ≤ 4096) : rI (asL way l) = some (l, []) := by
  unfold asL
  rw [List.append_assoc]
  show rI (way :: (ub l.length ++ _)) = _
  rw [rI_yes (uP_back hn (by omega) _)]
  have hcases : way = 0 ∨ way = 1 ∨ way = 2 ∨ way = 3 := by omega
  unfold rW
  rcases hcases with rfl | rfl | rfl | rfl
  · have h := plain_back l hl [] l.length (Nat.le_refl _)
    rw [List.append_nil, List.take_length, List.drop_length, lpl_nil] at h
    simpa using h
  · have h := delta_back l hl [] l.length (Nat.le_refl _)
    rw [List.append_nil, List.take_length, List.drop_length] at h
    simp [rdDelta, h, lde]
  · have h := runs_back l.length l (Nat.le_refl _) (by omega) hl []
    rw [List.append_nil] at h
    simpa using h
  · have h := packed_back l hl []
    rw [List.append_nil] at h
    simpa using h
theorem asr_back (way : Nat) (hw : way < 4) (l : List Int) (hl : ∀ x ∈ l, Wf64 x) (hn : l.length ≤ 4096) : riL (asL way l) = some l := riL_some (as_back way hw l hl hn)
theorem best_is (k : Nat) (l : List Int) : ∃ way, way ≤ k ∧ bestL k l = asL way l := by
  induction k with
  | zero => exact ⟨0, Nat.le_refl _, rfl⟩
  | succ k ih =>
    obtain ⟨way, h1, h2⟩ := ih
    show ∃ way, way ≤ k + 1 ∧ pickL (bestL k l) (asL (k + 1) l) = asL way l
    unfold pickL
    split
    · exact ⟨k + 1, Nat.le_refl _, rfl⟩
    · exact ⟨way, by omega, h2⟩
theorem ints_back (l : List Int) (hl : ∀ x ∈ l, Wf64 x) (hn : l.length ≤ 4096) : rI (intsL l) = some (l, []) := by
  obtain ⟨way, h1, h2⟩ := best_is 3 l
  unfold intsL; rw [h2]; exact as_back way (by omega) l hl hn
theorem pick_le (b p : List Nat) : (pickL b p).length ≤ b.length ∧ (pickL b p).length ≤ p.length := by unfold pickL; split <;> omega
theorem best_le (k : Nat) (l : List Int) : ∀ way, way ≤ k → (bestL k l).length ≤ (asL way l).length := by
  induction k with
  | zero => intro way h; rw [show way = 0 by omega]; exact Nat.le_refl _
  | succ k ih =>
    intro way h
    show (pickL (bestL k l) (asL (k + 1) l)).length ≤ _
    obtain ⟨h1, h2⟩ := pick_le (bestL k l) (asL (k + 1) l)
    by_cases e : way = k + 1
    · rw [e]; exact h2
    · exact Nat.le_trans h1 (ih way (by omega))
end Col
end Go.Proofs.YtpobfgokikfmbaaDoor

set_option linter.unusedSimpArgs false
set_option linter.unusedVariables false
set_option maxRecDepth 8000
namespace Go.Proofs.YtpobfgokikfmbaaDoor
open Go.RowKit Go.WideShapes Col
end Go.Proofs.YtpobfgokikfmbaaDoor

set_option linter.unusedSimpArgs false
set_option linter.unusedVariables false
set_option maxRecDepth 8000
namespace Go.Proofs.YtpobfgokikfmbaaDoor
open Go.RowKit Go.WideShapes Col
theorem Puts.at {B : Nat} {w w' : World} {l : List Nat} {e : Ending} (h : Puts B w l e w') : ∃ A n cap, e = .returned (.slice A n cap) ∧ Hid (OwnS w' B A n cap l) ∧ Hid (Below B w w') ∧ n = l.length := by
  obtain ⟨A, n, cap, he, ho, hb, -⟩ := h
  exact ⟨A, n, cap, he, ho, hb, ho.len⟩
theorem bitLen_two (n : Nat) (h : 0 < n) : bitLen n = bitLen (n / 2) + 1 := by
  by_cases h2 : n / 2 = 0
  · have : n = 1 := by omega
    subst this; decide
  · have := bitLen_shift n 1 (by simpa using h2)
    rw [this]; simp; omega
end Go.Proofs.YtpobfgokikfmbaaDoor

set_option linter.unusedSimpArgs false
set_option linter.unusedVariables false
set_option maxRecDepth 20000
namespace Go.Proofs.YtpobfgokikfmbaaDoor
open Go.RowKit Go.WideShapes Col
theorem yb_bin {ops : Array Oper} {S : World → Prop} {op : Oper} {a : Act} (hw : Region.wanted op (yielded ops a.tmps) = true) (o : BinOp) (t t2 : TypeId) (x y : Operand) (ho : op.op = .binOp o t x y t2) (v1 v2 u : Value) (hx : a.eval x = v1) (hy : a.eval y = v2)
    (he : ∀ w, (eqGuard o t x y v1 v2).run Tryd.prog w = .ok () w) (h : ∀ w, (binOp o t v1 v2).run Tryd.prog w = .ok u w) : YieldsIf Tryd.prog ops S op u a :=
  .inl ⟨hw, fun w _ => by
    unfold execOp
    simp only [ho, hx, hy, Sem.run_bind, Sem.run_pure, he w, h w, Result.andThen_ok]⟩
theorem yb_len {ops : Array Oper} {S : World → Prop} {op : Oper} {a : Act} (hw : Region.wanted op (yielded ops a.tmps) = true) (x : Operand) (ho : op.op = .call { callee := .builtin .len, args := #[x], argTypes := #[50] }) (A : Option Addr) (n c : Nat) (hx : a.eval x = .slice A n c) : YieldsIf Tryd.prog ops S op (.int .i64 (n : Int)) a :=
  .inl ⟨hw, fun w _ => by
    unfold execOp
    simp only [ho, resolve, invoke, builtin, Sem.run_bind, Sem.run_pure, Result.andThen_ok, List.map_toArray, List.map_cons, List.map_nil, hx]
    rfl⟩
theorem lv_i64 (w : World) (g j : Nat) (v : Value) (h : w.cell? ⟨g, j, none⟩ = some v) : (loadVar 2 ⟨g, j, none⟩).run Tryd.prog w = .ok v w := by
  go_simp
theorem yb_ld {ops : Array Oper} {S : World → Prop} {op : Oper} {a : Act} (hw : Region.wanted op (yielded ops a.tmps) = true) (x : Operand) (ho : op.op = .load 2 x) (g j : Nat) (hx : a.eval x = .pointer (some ⟨g, j, none⟩)) (v : Value)
    (hS : ∀ w, S w → w.cell? ⟨g, j, none⟩ = some v) : YieldsIf Tryd.prog ops S op v a :=
  .inl ⟨hw, fun w hw' => by
    unfold execOp
    simp only [ho, hx, Instr.loadAt, Instr.sureAddr, Sem.run_bind, Sem.run_pure, Result.andThen_ok, lv_i64 w g j v (hS w hw')]⟩
theorem ix_i64 (g off m c k : Nat) (h : k < m) (w : World) : (Instr.indexAt 50 (.slice (some ⟨g, off, none⟩) m c) (.int .i64 (k : Int))).run Tryd.prog w = .ok (.pointer (some ⟨g, off + k, none⟩)) w := by
  have h1 : (k : Int) < (m : Int) := by omega
  first | (go_simp; done) | (go_simp; intro h; exfalso; omega)
theorem yb_ix {ops : Array Oper} {S : World → Prop} {op : Oper} {a : Act} (hw : Region.wanted op (yielded ops a.tmps) = true) (x y : Operand) (ho : op.op = .indexAddr 50 x y) (g off m c k : Nat) (hx : a.eval x = .slice (some ⟨g, off, none⟩) m c) (hy : a.eval y = .int .i64 (k : Int)) (h : k < m) : YieldsIf Tryd.prog ops S op (.pointer (some ⟨g, off + k, none⟩)) a :=
  .inl ⟨hw, fun w _ => by
    unfold execOp
    simp only [ho, hx, hy, Sem.run_bind, Sem.run_pure, Result.andThen_ok, ix_i64 g off m c k h w]⟩
theorem yb_pick {ops : Array Oper} {S : World → Prop} {op : Oper} {a : Act} (hw : Region.wanted op (yielded ops a.tmps) = true) (x y z : Operand) (ho : op.op = .pick x y z) (b : Bool) (v : Value) (hx : a.eval x = .bool b) (hv : (if b then a.eval y else a.eval z) = v) : YieldsIf Tryd.prog ops S op v a :=
  .inl ⟨hw, fun w _ => by
    unfold execOp
    subst hv
    cases b <;> simp only [ho, hx] <;> rfl⟩
theorem b_eq (x y : Int) (b : Bool) (h : (x == y) = b) (w : World) : (binOp .eql 2 (.int .i64 x) (.int .i64 y)).run Tryd.prog w = .ok (.bool b) w := by
  subst h
  first | rfl | go_simp
theorem b_add (k : Nat) (hk : k ≤ 5000) (w : World) : (binOp .add 3 (.int .i64 (k : Int)) (.int .i64 1)).run Tryd.prog w = .ok (.int .i64 ((k + 1 : Nat) : Int)) w := by
  have e : IntKind.i64.wrap ((k : Int) + 1) = ((k + 1 : Nat) : Int) := by rw [IntKind.wrap_i64]; omega
  rw [← e]; rfl
theorem b_lss (x y : Int) (b : Bool) (h : decide (x < y) = b) (w : World) : (binOp .lss 3 (.int .i64 x) (.int .i64 y)).run Tryd.prog w = .ok (.bool b) w := by
  subst h; rfl
/-- Bytes that a call owns, n of them at most. -/
def PB2 (W : World) (u : Value) (bytes : List Nat) (top : Nat) (wr : World) : Prop := ∃ (A : Option Addr) (n cap : Nat), u = .slice A n cap ∧ n ≤ top ∧ OwnS wr W.heap.size A n cap bytes ∧ Below W.heap.size W wr
def RP0 (W : World) (pre : List Nat) (l : List Int) (m : Nat) (u v : Value) (wr : World) : Prop := ∃ k : Nat, k ≤ m ∧ v = .int .i64 (k : Int) ∧ PB2 W u (pre ++ lpl (l.take k)) (20 + 10 * k) wr
def RP1 (W : World) (pre : List Nat) (l : List Int) (m : Nat) (u v : Value) (wr : World) : Prop := ∃ k : Nat, k ≤ m ∧ v = .int .i64 (k : Int) ∧ PB2 W u (pre ++ lde 0 (l.take k)) (20 + 10 * k) wr
/-- So far as the runs are told: k numbers are gone through, j of them, all alike, are not told yet. -/
def RP2 (W : World) (pre : List Nat) (l : List Int) (m : Nat) (u c v : Value) (wr : World) : Prop := ∃ (k j : Nat) (p : List Nat) (x : Int), k ≤ m ∧ j ≤ k ∧ v = .int .i64 (k : Int) ∧ c = .int .u64 (j : Int) ∧ PB2 W u p (20 + 20 * k) wr ∧ p ++ lru (l.drop (k - j)) = pre ++ lru l ∧ (∀ i, k - j ≤ i → i < k → l[i]? = some x) ∧ (0 < j → l[k]? = some x)
end Go.Proofs.YtpobfgokikfmbaaDoor

set_option linter.unusedSimpArgs false
set_option linter.unusedVariables false
set_option maxRecDepth 20000
namespace Go.Proofs.YtpobfgokikfmbaaDoor
open Go.RowKit Go.WideShapes Col
namespace Col
theorem leb_snoc : ∀ (k V : Nat), leb (k + 1) V = leb k V ++ [V / 2 ^ (8 * k) % 256]
  | 0, V => by simp [leb]
  | k + 1, V => by
    rw [leb, leb_snoc k (V / 256), leb, List.cons_append, Nat.div_div_eq_div_mul, show 8 * (k + 1) = 8 + 8 * k by omega, Nat.pow_add]
theorem bit_at {V W i k d : Nat} (h : bitsAt V (i * W) W = d) (hk : k < W) : V / 2 ^ (i * W + k) % 2 = d / 2 ^ k % 2 := by
  subst h
  unfold bitsAt
  rw [Nat.pow_add, ← Nat.div_div_eq_div_mul]
  generalize V / 2 ^ (i * W) = X
  obtain ⟨j, rfl⟩ : ∃ j, W = k + (j + 1) := ⟨W - k - 1, by omega⟩
  rw [Nat.pow_add, Nat.mod_mul_right_div_self, Nat.pow_succ, Nat.mul_comm (2 ^ j) 2, Nat.mod_mul_right_mod]
theorem cur_step {V T j n cur bit : Nat} (hT : T = 8 * j + n) (hc : cur = V / 2 ^ (8 * j) % 2 ^ n) (hb : bit = V / 2 ^ T % 2) : cur + bit * 2 ^ n = V / 2 ^ (8 * j) % 2 ^ (n + 1) := by
  subst hc; subst hb; subst hT
  rw [Nat.pow_succ, Nat.mod_mul, Nat.pow_add, ← Nat.div_div_eq_div_mul, Nat.mul_comm (2 ^ n)]
theorem wid_of {l : List Int} {w : Nat} (h0 : 0 < l.length) (h1 : ∀ x ∈ l, dig (mnL l) x < 2 ^ w) (h2 : w = 0 ∨ ∃ x ∈ l, 2 ^ (w - 1) ≤ dig (mnL l) x) : w = wid l := by
  have hmem : ∀ (m : List Int) (a : Int), m.foldl max a = a ∨ m.foldl max a ∈ m := fun m => by
    induction m with
    | nil => intro a; exact .inl rfl
    | cons y m ih =>
      intro a
      rw [List.foldl_cons]
      rcases ih (max a y) with h | h
      · rw [h]
        by_cases hay : a ≤ y
        · right; rw [show max a y = y by omega]; exact List.mem_cons_self ..
        · left; omega
      · exact .inr (List.mem_cons_of_mem _ h)
  have hmx : mxL l ∈ l := by
    rcases l with _ | ⟨y, m⟩
    · cases h0
    · rcases hmem (y :: m) y with h | h
      · unfold mxL; simp only [List.headD_cons]; rw [h]; exact List.mem_cons_self ..
      · exact h
  have hD := h1 _ hmx
  have hs := bitLen_spec (mxL l - mnL l).toNat
  have e : (mxL l - mnL l).toNat = dig (mnL l) (mxL l) := rfl
  rw [e] at hs
  unfold wid; rw [e]
  generalize hDD : dig (mnL l) (mxL l) = D at *
  apply Nat.le_antisymm
  · rcases h2 with h2 | ⟨x, hx, h2⟩
    · omega
    · by_cases hw : w = 0
      · omega
      · have h3 : dig (mnL l) x ≤ D := by rw [← hDD]; have := mx_ge hx; unfold dig; omega
        have h4 : 2 ^ (w - 1) < 2 ^ bitLen D := by have := hs.1; omega
        have := (Nat.pow_lt_pow_iff_right (by decide)).1 h4
        omega
  · by_cases h0 : D = 0
    · rw [h0]; simp [bitLen]
    · have h4 : 2 ^ (bitLen D - 1) < 2 ^ w := by have := hs.2 h0; omega
      have := (Nat.pow_lt_pow_iff_right (by decide)).1 h4
      omega
end Col
def RQ1 (W : World) (l : List Int) (m : Nat) (u v : Value) (wr : World) : Prop := ∃ (k : Nat) (z : Int), k ≤ m ∧ v = .int .i64 (k : Int) ∧ u = .int .i64 z ∧ z = (l.take k).foldl min (l.headD 0) ∧ W = wr
def RQ2 (W : World) (l : List Int) (m : Nat) (u v : Value) (wr : World) : Prop := ∃ (k w : Nat), k ≤ m ∧ v = .int .i64 (k : Int) ∧ u = .int .i64 (w : Int) ∧ w ≤ 64 ∧ (∀ (i : Nat) (x : Int), i < k → l[i]? = some x → dig (mnL l) x < 2 ^ w) ∧ (w = 0 ∨ ∃ (i : Nat) (x : Int), i < k ∧ l[i]? = some x ∧ 2 ^ (w - 1) ≤ dig (mnL l) x) ∧ W = wr
/-- So many bits are told. -/
def RQ3 (W : World) (pre : List Nat) (V T top : Nat) (u c n : Value) (wr : World) : Prop := ∃ (j s cur : Nat), T = 8 * j + s ∧ s < 8 ∧ cur = V / 2 ^ (8 * j) % 2 ^ s ∧ c = .int .u8 (cur : Int) ∧ n = .int .i64 (s : Int) ∧ PB2 W u (pre ++ leb j V) (top + j) wr
end Go.Proofs.YtpobfgokikfmbaaDoor

set_option linter.unusedSimpArgs false
set_option linter.unusedVariables false
set_option maxRecDepth 8000
namespace Go.Proofs.YtpobfgokikfmbaaDoor
open Go.RowKit Go.WideShapes Col
end Go.Proofs.YtpobfgokikfmbaaDoor

set_option linter.unusedSimpArgs false
set_option linter.unusedVariables false
set_option maxRecDepth 8000
namespace Go.Proofs.YtpobfgokikfmbaaDoor
open Go.RowKit Go.WideShapes Col
theorem yb_conv {ops : Array Oper} {S : World → Prop} {op : Oper} {a : Act} (hw : Region.wanted op (yielded ops a.tmps) = true) (x : Operand) (ho : op.op = .convert 22 9 x) (v u : Value) (hx : a.eval x = v)
    (h : ∀ w, S w → (convert 22 9 v).run Tryd.prog w = .ok u w) : YieldsIf Tryd.prog ops S op u a :=
  .inl ⟨hw, fun w hw' => by
    unfold execOp
    simp only [ho, hx, Sem.run_bind, Sem.run_pure, h w hw', Result.andThen_ok]⟩
theorem yb_lenb {ops : Array Oper} {S : World → Prop} {op : Oper} {a : Act} (hw : Region.wanted op (yielded ops a.tmps) = true) (x : Operand) (ho : op.op = .call { callee := .builtin .len, args := #[x], argTypes := #[22] }) (A : Option Addr) (n c : Nat) (hx : a.eval x = .slice A n c) : YieldsIf Tryd.prog ops S op (.int .i64 (n : Int)) a :=
  .inl ⟨hw, fun w _ => by
    unfold execOp
    simp only [ho, resolve, invoke, builtin, Sem.run_bind, Sem.run_pure, Result.andThen_ok, List.map_toArray, List.map_cons, List.map_nil, hx]
    rfl⟩
theorem b_neqs (s : ByteArray) (w : World) : (binOp .neq 9 (.string s) (.string s)).run Tryd.prog w = .ok (.bool false) w := by
  simp [binOp, Op.stringOp]
end Go.Proofs.YtpobfgokikfmbaaDoor
