/-
  Layer column: the document's own reader: Uint, Int.
-/
import Derived.Test.YtplmafbdalkopaaRr
set_option linter.unusedSimpArgs false
set_option linter.unusedVariables false
set_option maxRecDepth 8000
namespace Go.Proofs.Ytplmafbdalkopaa
open Go.RowKit Go.WideShapes Col
def uintS (most : Nat) : Option (List Nat) → Nat × Option (List Nat)
  | none => (0, none)
  | some q => match uP most q with
    | some (n, r) => (n, some r)
    | none => (0, none)
theorem uintS_some {most n : Nat} {q r : List Nat} (h : uP most q = some (n, r)) : uintS most (some q) = (n, some r) := by simp [uintS, h]
theorem uintS_none {most : Nat} {q : List Nat} (h : uP most q = none) : uintS most (some q) = (0, none) := by simp [uintS, h]
theorem atR_pos {w : World} {m C : Nat} {A : Option Addr} {p q : List Nat} (h : RRA w m A C p (some q)) : ∃ z : Nat, atR p (some q) = (z : Int) ∧ z + q.length = p.length := by
  obtain ⟨k, hk, rfl⟩ := h.suf _ rfl
  exact ⟨k, by show (p.length : Int) - ((p.drop k).length : Int) = _; rw [List.length_drop]; omega, by rw [List.length_drop]; omega⟩
def RUI (w : World) (m C : Nat) (A : Option Addr) (p : List Nat) (s : Option (List Nat)) (u v : Value) (wr : World) : Prop :=
  ∃ (k acc : Nat) (s' : Option (List Nat)), k ≤ 9 ∧ v = .int .i64 (k : Int) ∧ u = .int .u64 (acc : Int) ∧ acc < 2 ^ (7 * k) ∧ RRA wr m A C p s' ∧ Kept (Only m) w wr ∧
    ((s = none ∧ s' = none) ∨ ∃ q q', s = some q ∧ s' = some q' ∧ plus k acc (grp k q') = grp 0 q)
theorem uP_of_none {most : Nat} {q : List Nat} (h : grp 0 q = none) : uP most q = none := by unfold uP; rw [h]; rfl
theorem uP_of_big {most n : Nat} {q r : List Nat} (h : grp 0 q = some (n, r)) (h2 : most < n) : uP most q = none := by unfold uP; rw [h]; simp; omega
theorem uP_of_ok {most n : Nat} {q r : List Nat} (h : grp 0 q = some (n, r)) (h2 : n ≤ most) : uP most q = some (n, r) := by unfold uP; rw [h]; simp [h2]
set_option maxHeartbeats 4000000 in
theorem ruint_any (m C : Nat) (A : Option Addr) (p : List Nat) (most : Nat) (s : Option (List Nat)) (w : World) (H : Hid (RRA w m A C p s)) :
    Calls Try.prog 31 #[.pointer (some ⟨m, 0, none⟩), .int .u64 (most : Int)] w (RByte w m A C p (.int .u64 ((uintS most s).1 : Int)) (uintS most s).2) := by
  have HST : Hid (RUI w m C A p s (.int .u64 0) (.int .i64 0) w) := Lib.hid ⟨0, 0, s, by decide, rfl, rfl, by decide, H.out, Kept.refl _ _, by
    rcases s with _ | q
    · exact .inl ⟨rfl, rfl⟩
    · exact .inr ⟨q, q, rfl, rfl, plus_zero _⟩⟩
  go_enter Try.func31, Try.ntmps31
  go_wp2
  go_loopw [5, 6] (fun u v wr => RUI w m C A p s u v wr) (fun _ v _ => 10 - (intOf v).toNat)
  case atStart => exact HST.out
  case round =>
    obtain ⟨k, acc, s', hk, rfl, rfl, ha, hr, hkp, hcase⟩ := hrel
    have HR := Lib.hid hr; have HK := Lib.hid hkp; have HA := Lib.hid ha
    clear hr hkp ha HST
    have HBY := Lib.hid (rbyte_any m C A p s' wr HR)
    have hfail : Hid ((∀ w3 : World, RRA w3 m A C p none → Kept (Only m) wr w3 → (uintS most s) = (0, none) → RByte w m A C p (.int .u64 ((uintS most s).1 : Int)) (uintS most s).2 (.returned (.int .u64 0)) w3)) := Lib.hid fun w3 h1 h2 h3 => by rw [h3]; exact ⟨rfl, h1, HK.out.trans h2⟩
    rcases hcase with ⟨hs, hs'⟩ | ⟨q, q', hs, hs', hpl⟩
    · have HE : Hid (uintS most s = (0, none)) := Lib.hid (by rw [hs]; rfl)
      subst hs'
      go_wp2_with (go_at_call 37; (with_reducible refine (HBY.out).mono ?_); rintro e w2 hy; obtain ⟨rfl, HR2, HK2⟩ := hy.at; have c1 : w2.cell? ⟨m, 1, none⟩ = some (.int .i64 (-1)) := HR2.out.c1; have f1 := HR2.out.fr 1; clear hy)
      go_ret
      exact hfail.out _ (HR2.out.put (s' := none) (fun q h => by cases h)) (HK2.out.setCell _ _ (.inl rfl)) HE.out
    · have HPL := Lib.hid hpl
      have HS := Lib.hid hs
      subst hs'
      clear hpl hs
      rcases q' with _ | ⟨b, q'⟩
      · have HE : Hid (uintS most s = (0, none)) := Lib.hid (by
          rw [HS.out]
          exact uintS_none (uP_of_none (by have := HPL.out; rw [← this]; simp [plus, grp])))
        go_wp2_with (go_at_call 37; (with_reducible refine (HBY.out).mono ?_); rintro e w2 hy; obtain ⟨rfl, HR2, HK2⟩ := hy.at; have c1 : w2.cell? ⟨m, 1, none⟩ = some (.int .i64 (-1)) := HR2.out.c1; have f1 := HR2.out.fr 1; clear hy)
        go_ret
        exact hfail.out _ (HR2.out.put (s' := none) (fun q h => by cases h)) (HK2.out.setCell _ _ (.inl rfl)) HE.out
      · have hb256 : b < 256 := by
          obtain ⟨j, hj, hq⟩ := HR.out.suf _ rfl
          exact HR.out.bytes.lt b (List.mem_of_mem_drop (hq ▸ List.mem_cons_self ..))
        have HBY2 : Hid (Calls Try.prog 37 #[.pointer (some ⟨m, 0, none⟩)] wr (RByte wr m A C p (.int .u8 (b : Int)) (some q'))) := HBY
        clear HBY
        by_cases h91 : k = 9 ∧ 1 < b
        · have HE : Hid (uintS most s = (0, none)) := Lib.hid (by
            rw [HS.out]
            exact uintS_none (uP_of_none (by have := HPL.out; rw [← this, grp, if_pos (.inr h91)]; rfl)))
          obtain ⟨h9, hb1⟩ := h91
          subst h9
          have hb1i : (1 : Int) < (b : Int) := by omega
          go_wp2_with (go_at_call 37; (with_reducible refine (HBY2.out).mono ?_); rintro e w2 hy; obtain ⟨rfl, HR2, HK2⟩ := hy.at; obtain ⟨z, hz, hzl⟩ := atR_pos HR2.out; have c1 := HR2.out.c1; rw [hz] at c1; have f1 := HR2.out.fr 1; clear hy hz hzl)
          go_ret
          exact hfail.out _ (HR2.out.put (s' := none) (fun q h => by cases h)) (HK2.out.setCell _ _ (.inl rfl)) HE.out
        · obtain ⟨c, hc⟩ : ∃ c, c = b % 128 := ⟨_, rfl⟩
          have hci : (b : Int) % 128 = (c : Int) := by omega
          have hci2 : (b : Int).tmod 128 = (c : Int) := by rw [Int.tmod_eq_emod_of_nonneg (by omega)]; exact hci
          have hc128 : c < 128 := by omega
          have hcw : IntKind.u64.wrap (c : Int) = (c : Int) := by rw [IntKind.wrap_u64]; omega
          have hfit : c * 2 ^ (7 * k) < 18446744073709551616 := by
            by_cases h8 : k ≤ 8
            · exact fits8 h8 hc128
            · exact fits9 hk (by omega)
          obtain ⟨acc', hacc⟩ : ∃ acc', acc' = acc + 2 ^ (7 * k) * c := ⟨_, rfl⟩
          have hadd : (acc : Int) + IntKind.u64.wrap ((c : Int) * 2 ^ (7 * k)) = (acc' : Int) := by
            rw [wrap_shl, Nat.mod_eq_of_lt hfit, hacc, Nat.mul_comm c]; omega
          have hacc64 : acc' < 18446744073709551616 := by rw [hacc]; exact acc_w hk HA.out hc128 hfit
          have HAN : Hid (acc' < 2 ^ (7 * (k + 1))) := Lib.hid (by rw [hacc]; exact acc_next HA.out hc128)
          have HACC := Lib.hid hacc
          have HCC := Lib.hid hc
          have h9f : ((k : Int) == 9 && decide ((1 : Int) < (b : Int))) = false := by
            rw [Bool.and_eq_false_iff]
            by_cases h9 : k = 9
            · right; simp; omega
            · left; rw [beq_eq_false_iff_ne]; omega
          have hbk : ¬ (9 < k ∨ (k = 9 ∧ 1 < b)) := by omega
          have hk7 : (7 : Int) * (k : Int) < 64 := by omega
          have HNB := Lib.hid h91
          clear hc hacc hfit
          by_cases hb7 : b < 128
          · have HG : Hid ((b = 0 ∧ 0 < k → grp 0 q = none) ∧ (¬ (b = 0 ∧ 0 < k) → grp 0 q = some (acc', q'))) := Lib.hid (by
              have := HPL.out
              refine ⟨fun h => ?_, fun h => ?_⟩
              · rw [← this, h.1, grp_zero h.2]; rfl
              · rw [← this, grp_end hbk hb7 h, HACC.out, HCC.out, Nat.mod_eq_of_lt hb7]; rfl)
            by_cases hb0 : b = 0 ∧ 0 < k
            · have HE : Hid (uintS most s = (0, none)) := Lib.hid (by rw [HS.out]; exact uintS_none (uP_of_none (HG.out.1 hb0)))
              obtain ⟨hb0, hk0⟩ := hb0
              subst hb0
              have hk0i : (0 : Int) < (k : Int) := by omega
              clear h91
              by_cases hk9 : k = 9
              · subst hk9
                go_wp2_with (go_at_call 37; (with_reducible refine (HBY2.out).mono ?_); rintro e w2 hy; obtain ⟨rfl, HR2, HK2⟩ := hy.at; obtain ⟨z, hz, hzl⟩ := atR_pos HR2.out; have c1 := HR2.out.c1; rw [hz] at c1; have f1 := HR2.out.fr 1; clear hy hz hzl)
                go_ret
                exact hfail.out _ (HR2.out.put (s' := none) (fun q h => by cases h)) (HK2.out.setCell _ _ (.inl rfl)) HE.out
              · have hk9i : ((k : Int) == 9) = false := by rw [beq_eq_false_iff_ne]; omega
                clear hk9
                go_wp2_with (go_at_call 37; (with_reducible refine (HBY2.out).mono ?_); rintro e w2 hy; obtain ⟨rfl, HR2, HK2⟩ := hy.at; obtain ⟨z, hz, hzl⟩ := atR_pos HR2.out; have c1 := HR2.out.c1; rw [hz] at c1; have f1 := HR2.out.fr 1; clear hy hz hzl)
                go_ret
                exact hfail.out _ (HR2.out.put (s' := none) (fun q h => by cases h)) (HK2.out.setCell _ _ (.inl rfl)) HE.out
            · have HGG := Lib.hid (HG.out.2 hb0)
              by_cases hk0 : k = 0
              · have hk0i : ¬ ((0 : Int) < (k : Int)) := by omega
                have hk9i : ((k : Int) == 9) = false := by rw [beq_eq_false_iff_ne]; omega
                clear h91 hb0 hk0 HG h9f
                by_cases hmost : acc' ≤ most
                · have HE : Hid (uintS most s = (acc', some q')) := Lib.hid (by rw [HS.out]; exact uintS_some (uP_of_ok HGG.out hmost))
                  have hmi : ¬ ((most : Int) < (acc' : Int)) := by omega
                  clear hmost
                  go_wp2_with (go_at_call 37; (with_reducible refine (HBY2.out).mono ?_); rintro e w2 hy; obtain ⟨rfl, HR2, HK2⟩ := hy.at; obtain ⟨z, hz, hzl⟩ := atR_pos HR2.out; have c1 := HR2.out.c1; rw [hz] at c1; have f1 := HR2.out.fr 1; clear hy hz hzl)
                  go_ret
                  exact ⟨by rw [HE.out]; rfl, by rw [HE.out]; exact HR2.out, HK.out.trans HK2.out⟩
                · have HE : Hid (uintS most s = (0, none)) := Lib.hid (by rw [HS.out]; exact uintS_none (uP_of_big HGG.out (by omega)))
                  have hmi : (most : Int) < (acc' : Int) := by omega
                  clear hmost
                  go_wp2_with (go_at_call 37; (with_reducible refine (HBY2.out).mono ?_); rintro e w2 hy; obtain ⟨rfl, HR2, HK2⟩ := hy.at; obtain ⟨z, hz, hzl⟩ := atR_pos HR2.out; have c1 := HR2.out.c1; rw [hz] at c1; have f1 := HR2.out.fr 1; clear hy hz hzl)
                  go_ret
                  exact hfail.out _ (HR2.out.put (s' := none) (fun q h => by cases h)) (HK2.out.setCell _ _ (.inl rfl)) HE.out
              · have hk0i : (0 : Int) < (k : Int) := by omega
                have hb0i : ((b : Int) == 0) = false := by rw [beq_eq_false_iff_ne]; omega
                by_cases hk9 : k = 9
                · have hk9i : ((k : Int) == 9) = true := by rw [beq_iff_eq]; omega
                  have hb1 : ¬ ((1 : Int) < (b : Int)) := by omega
                  clear h91 hb0 hk0 hk9 HG h9f
                  by_cases hmost : acc' ≤ most
                  · have HE : Hid (uintS most s = (acc', some q')) := Lib.hid (by rw [HS.out]; exact uintS_some (uP_of_ok HGG.out hmost))
                    have hmi : ¬ ((most : Int) < (acc' : Int)) := by omega
                    clear hmost
                    go_wp2_with (go_at_call 37; (with_reducible refine (HBY2.out).mono ?_); rintro e w2 hy; obtain ⟨rfl, HR2, HK2⟩ := hy.at; obtain ⟨z, hz, hzl⟩ := atR_pos HR2.out; have c1 := HR2.out.c1; rw [hz] at c1; have f1 := HR2.out.fr 1; clear hy hz hzl)
                    go_ret
                    exact ⟨by rw [HE.out]; rfl, by rw [HE.out]; exact HR2.out, HK.out.trans HK2.out⟩
                  · have HE : Hid (uintS most s = (0, none)) := Lib.hid (by rw [HS.out]; exact uintS_none (uP_of_big HGG.out (by omega)))
                    have hmi : (most : Int) < (acc' : Int) := by omega
                    clear hmost
                    go_wp2_with (go_at_call 37; (with_reducible refine (HBY2.out).mono ?_); rintro e w2 hy; obtain ⟨rfl, HR2, HK2⟩ := hy.at; obtain ⟨z, hz, hzl⟩ := atR_pos HR2.out; have c1 := HR2.out.c1; rw [hz] at c1; have f1 := HR2.out.fr 1; clear hy hz hzl)
                    go_ret
                    exact hfail.out _ (HR2.out.put (s' := none) (fun q h => by cases h)) (HK2.out.setCell _ _ (.inl rfl)) HE.out
                · have hk9i : ((k : Int) == 9) = false := by rw [beq_eq_false_iff_ne]; omega
                  clear h91 hb0 hk0 hk9 HG h9f
                  by_cases hmost : acc' ≤ most
                  · have HE : Hid (uintS most s = (acc', some q')) := Lib.hid (by rw [HS.out]; exact uintS_some (uP_of_ok HGG.out hmost))
                    have hmi : ¬ ((most : Int) < (acc' : Int)) := by omega
                    clear hmost
                    go_wp2_with (go_at_call 37; (with_reducible refine (HBY2.out).mono ?_); rintro e w2 hy; obtain ⟨rfl, HR2, HK2⟩ := hy.at; obtain ⟨z, hz, hzl⟩ := atR_pos HR2.out; have c1 := HR2.out.c1; rw [hz] at c1; have f1 := HR2.out.fr 1; clear hy hz hzl)
                    go_ret
                    exact ⟨by rw [HE.out]; rfl, by rw [HE.out]; exact HR2.out, HK.out.trans HK2.out⟩
                  · have HE : Hid (uintS most s = (0, none)) := Lib.hid (by rw [HS.out]; exact uintS_none (uP_of_big HGG.out (by omega)))
                    have hmi : (most : Int) < (acc' : Int) := by omega
                    clear hmost
                    go_wp2_with (go_at_call 37; (with_reducible refine (HBY2.out).mono ?_); rintro e w2 hy; obtain ⟨rfl, HR2, HK2⟩ := hy.at; obtain ⟨z, hz, hzl⟩ := atR_pos HR2.out; have c1 := HR2.out.c1; rw [hz] at c1; have f1 := HR2.out.fr 1; clear hy hz hzl)
                    go_ret
                    exact hfail.out _ (HR2.out.put (s' := none) (fun q h => by cases h)) (HK2.out.setCell _ _ (.inl rfl)) HE.out
          · have hk9i : ((k : Int) == 9) = false := by rw [beq_eq_false_iff_ne]; omega
            have hk8 : k ≤ 8 := by omega
            have HP2 : Hid (plus (k + 1) acc' (grp (k + 1) q') = grp 0 q) := Lib.hid (by
              have := HPL.out
              rw [plus_on hk8 (by omega), ← HCC.out, ← HACC.out] at this; exact this)
            clear h91 h9f
            go_wp2_with (go_at_call 37; (with_reducible refine (HBY2.out).mono ?_); rintro e w2 hy; obtain ⟨rfl, HR2, HK2⟩ := hy.at; obtain ⟨z, hz, hzl⟩ := atR_pos HR2.out; have c1 := HR2.out.c1; rw [hz] at c1; have f1 := HR2.out.fr 1; clear hy hz hzl)
            go_roundw
            case rel => exact ⟨k + 1, acc', some q', by omega, by go_num, rfl, HAN.out, HR2.out, HK.out.trans HK2.out, .inr ⟨q, q', HS.out, rfl, HP2.out⟩⟩
            case measure => simp [intOf]; omega
def intS : Option (List Nat) → Int × Option (List Nat)
  | none => (0, none)
  | some q => match zP q with
    | some (x, r) => (x, some r)
    | none => (0, none)
theorem intS_some {x : Int} {q r : List Nat} (h : zP q = some (x, r)) : intS (some q) = (x, some r) := by simp [intS, h]
theorem intS_none {q : List Nat} (h : zP q = none) : intS (some q) = (0, none) := by simp [intS, h]
theorem intS_of {w : World} {m C : Nat} {A : Option Addr} {p : List Nat} (s : Option (List Nat)) (h : RRA w m A C p s) : intS s = (uz (uintS 18446744073709551615 s).1, (uintS 18446744073709551615 s).2) ∧ (uintS 18446744073709551615 s).1 < 18446744073709551616 := by
  rcases s with _ | q
  · exact ⟨rfl, by decide⟩
  · obtain ⟨k, hk, hq⟩ := h.suf _ rfl
    have hb : ∀ x ∈ q, x < 256 := fun x hx => h.bytes.lt x (List.mem_of_mem_drop (hq ▸ hx))
    rcases hg : grp 0 q with _ | ⟨n, r⟩
    · rw [intS_none (by unfold zP; rw [hg]; rfl), uintS_none (uP_of_none hg)]; exact ⟨rfl, by decide⟩
    · have hn := grp_u64 hg hb
      rw [intS_some (x := uz n) (by unfold zP; rw [hg]; rfl), uintS_some (uP_of_ok hg (by omega))]; exact ⟨rfl, hn⟩
set_option maxHeartbeats 1000000 in
theorem rint_any (m C : Nat) (A : Option Addr) (p : List Nat) (s : Option (List Nat)) (w : World) (H : Hid (RRA w m A C p s)) :
    Calls Try.prog 33 #[.pointer (some ⟨m, 0, none⟩)] w (RByte w m A C p (.int .i64 (intS s).1) (intS s).2) := by
  obtain ⟨he, hlt⟩ := intS_of s H.out
  have HU := Lib.hid (ruint_any m C A p 18446744073709551615 s w H)
  have HE := Lib.hid he
  obtain ⟨n, hn⟩ : ∃ n, n = (uintS 18446744073709551615 s).1 := ⟨_, rfl⟩
  obtain ⟨s2, hs2⟩ : ∃ s2, s2 = (uintS 18446744073709551615 s).2 := ⟨_, rfl⟩
  rw [← hn, ← hs2] at HE HU
  rw [← hn] at hlt
  clear he hn hs2
  obtain ⟨q, hq⟩ : ∃ q, q = n / 2 := ⟨_, rfl⟩
  have hqi : (n : Int) / 2 = (q : Int) := by omega
  have hqi2 : (n : Int).tdiv 2 = (q : Int) := by rw [Int.tdiv_eq_ediv_of_nonneg (by omega)]; exact hqi
  have hqw : IntKind.i64.wrap (q : Int) = (q : Int) := by rw [IntKind.wrap_i64]; omega
  have HQ := Lib.hid hq
  have hq63 : q < 9223372036854775808 := by omega
  clear hq
  rcases Nat.mod_two_eq_zero_or_one n with h2 | h2
  · have hmi : (n : Int) % 2 = 0 := by omega
    have hmi2 : (n : Int).tmod 2 = 0 := by rw [Int.tmod_eq_emod_of_nonneg (by omega)]; exact hmi
    have HX : Hid (uz n = (q : Int)) := Lib.hid (by unfold uz; rw [if_neg (by omega), HQ.out])
    clear h2
    go_enter Try.func33, Try.ntmps33
    go_wp2_with (go_at_call 31; (refine (HU.out).mono ?_); rintro e w2 hy; obtain ⟨rfl, HR2, HK2⟩ := hy.at; clear hy)
    go_ret
    exact ⟨by rw [HE.out]; exact ret_i64 HX.out.symm, by rw [HE.out]; exact HR2.out, HK2.out⟩
  · have hmi : (n : Int) % 2 = 1 := by omega
    have hmi2 : (n : Int).tmod 2 = 1 := by rw [Int.tmod_eq_emod_of_nonneg (by omega)]; exact hmi
    have HX : Hid (uz n = -(q : Int) - 1) := Lib.hid (by unfold uz; rw [if_pos h2, HQ.out])
    clear h2
    go_enter Try.func33, Try.ntmps33
    go_wp2_with (go_at_call 31; (refine (HU.out).mono ?_); rintro e w2 hy; obtain ⟨rfl, HR2, HK2⟩ := hy.at; clear hy)
    go_ret
    exact ⟨by rw [HE.out]; exact ret_i64 HX.out.symm, by rw [HE.out]; exact HR2.out, HK2.out⟩
end Go.Proofs.Ytplmafbdalkopaa
