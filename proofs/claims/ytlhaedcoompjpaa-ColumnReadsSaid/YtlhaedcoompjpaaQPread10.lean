/-
  Layer column: the document's own reader: whole numbers laid as runs.
-/
import Derived.Test.YtlhaedcoompjpaaQPread9
set_option linter.unusedSimpArgs false
set_option linter.unusedVariables false
set_option maxRecDepth 8000
namespace Go.Proofs.Ytlhaedcoompjpaa
open Go.RowKit Go.WideShapes Col
/-- The loop over runs. -/
def R2 (w : World) (m C : Nat) (A : Option Addr) (p r : List Nat) (n : Nat) (u : Value) (wr : World) : Prop :=
  ∃ (L : Nat) (A' : Option Addr) (cap' : Nat) (l : List Int) (s' : Option (List Nat)), L ≤ n ∧ L = l.length ∧ u = .slice A' L cap' ∧ OwnI wr w.heap.size A' L cap' l ∧ RRA wr m A C p s' ∧ Kept (Only m) w wr ∧
    ((∃ r', s' = some r' ∧ rruns n r = (rruns (n - L) r').map fun t => (l ++ t.1, t.2)) ∨ (s' = none ∧ rruns n r = none))
/-- One run's numbers, put behind. -/
def R2i (w : World) (m C : Nat) (A : Option Addr) (p : List Nat) (s : Option (List Nat)) (l : List Int) (L R : Nat) (x : Int) (u v : Value) (wr : World) : Prop :=
  ∃ (j N : Nat) (A' : Option Addr) (cap' : Nat), j ≤ R ∧ v = .int .i64 (j : Int) ∧ u = .slice A' N cap' ∧ N = L + j ∧ OwnI wr w.heap.size A' N cap' (l ++ List.replicate j x) ∧ RRA wr m A C p s ∧ Kept (Only m) w wr
set_option maxHeartbeats 8000000 in
theorem rints2_any (m C : Nat) (A : Option Addr) (p q r : List Nat) (n : Nat) (hu : Hid (uP 4096 q = some (n, r))) (hn : n ≤ 4096) (w : World) (H : Hid (RRA w m A C p (some (2 :: q)))) :
    Calls Try.prog 49 #[.pointer (some ⟨m, 0, none⟩)] w (RIEnds w m C A p (allOf (rruns n r))) := by
  have HB : Hid (Calls Try.prog 37 #[.pointer (some ⟨m, 0, none⟩)] w (RByte w m A C p (.int .u8 2) (some q))) := Lib.hid (rbyte_any m C A p (some (2 :: q)) w H)
  have HU : Hid (∀ w2, Hid (RRA w2 m A C p (some q)) → Calls Try.prog 31 #[.pointer (some ⟨m, 0, none⟩), .int .u64 4096] w2 (RByte w2 m A C p (.int .u64 (n : Int)) (some r))) := Lib.hid fun w2 h => by
    have := ruint_any m C A p 4096 (some q) w2 h
    rw [uintS_some hu.out] at this; exact this
  have HBLK := Lib.hid H.out.blk
  have HLT := Lib.hid H.out.lt
  have hni : IntKind.i64.wrap (n : Int) = (n : Int) := by rw [IntKind.wrap_i64]; omega
  go_enter Try.func49, Try.ntmps49
  go_wp2_with (first
    | (go_at_call 37; (with_reducible refine (HB.out).mono ?_); rintro e w2 hy; obtain ⟨rfl, HR2, HK2⟩ := hy.at; clear hy)
    | (go_at_call 31; (refine (HU.out _ HR2).mono ?_); rintro e w3 hy; obtain ⟨rfl, HR3, HK3⟩ := hy.at; have HST : Hid (R2 w m C A p r n (.slice none 0 0) w3) := Lib.hid ⟨0, none, 0, [], some r, Nat.zero_le _, rfl, rfl, OwnI.nil _ _, HR3.out, HK2.out.trans HK3.out, .inl ⟨r, rfl, by rw [Nat.sub_zero]; rcases rruns n r with _ | t <;> simp⟩⟩; obtain ⟨z, hz, hzl⟩ := atR_pos HR3.out; have c1 := HR3.out.c1; rw [hz] at c1; have hz0 : ¬ ((z : Int) < 0) := (by omega); clear hy hz))
  clear c1 hz0 hzl
  go_loopw [5] (fun u wr => R2 w m C A p r n u wr) (fun u _ => n - lenOfS u)
  case atStart => exact HST.out
  case round =>
    obtain ⟨L, A', cap', l, s', hL, hLl, rfl, ho, hr, hkp, hcase⟩ := hrel
    have HO := Lib.hid ho; have HR := Lib.hid hr; have HK := Lib.hid hkp; have HLL := Lib.hid hLl
    clear ho hr hkp HST hLl
    have c1 := HR.out.c1
    by_cases hlt : L < n
    · rcases hcase with ⟨r', rfl, hrun⟩ | ⟨rfl, hno⟩
      · obtain ⟨z, hz, hzl⟩ := atR_pos HR.out
        rw [hz] at c1
        have hz0 : (0 : Int) ≤ (z : Int) := by omega
        obtain ⟨M, hM⟩ : ∃ M, n - L = M + 1 := ⟨n - L - 1, by omega⟩
        have hmw : IntKind.u64.wrap (M : Int) = (M : Int) := by rw [IntKind.wrap_u64]; omega
        have hd3 : (n : Int) - (L : Int) - 1 = (M : Int) := by omega
        have hd1 : (n : Int) - (L : Int) = ((M + 1 : Nat) : Int) := by omega
        have hd2 : ((M + 1 : Nat) : Int) - 1 = (M : Int) := by omega
        have HI := Lib.hid (rint_any m C A p (some r') wr HR)
        obtain ⟨x, hx⟩ : ∃ x, x = (intS (some r')).1 := ⟨_, rfl⟩
        obtain ⟨s1, hs1⟩ : ∃ s1, s1 = (intS (some r')).2 := ⟨_, rfl⟩
        rw [← hx, ← hs1] at HI
        have HU1 := Lib.hid fun w2 h => ruint_any m C A p M s1 w2 h
        obtain ⟨K, hK⟩ : ∃ K, K = (uintS M s1).1 := ⟨_, rfl⟩
        obtain ⟨s2, hs2⟩ : ∃ s2, s2 = (uintS M s1).2 := ⟨_, rfl⟩
        rw [← hK, ← hs2] at HU1
        have hfacts : Wf64 x ∧ K ≤ M ∧ ((∃ r2, s2 = some r2 ∧ rruns n r = (rruns (n - (L + (K + 1))) r2).map fun t => ((l ++ List.replicate (K + 1) x) ++ t.1, t.2)) ∨ (s2 = none ∧ rruns n r = none)) := by
          rw [hM] at hrun
          rcases hzp : zP r' with _ | ⟨y, ra⟩
          · rw [intS_none hzp] at hx hs1
            rw [hs1] at hK hs2
            refine ⟨by rw [hx]; show Wf64 0; unfold Wf64; omega, by rw [hK]; exact Nat.zero_le _, .inr ⟨hs2, by rw [hrun, rruns_no1 hzp]; rfl⟩⟩
          · rw [intS_some hzp] at hx hs1
            rw [hs1] at hK hs2
            refine ⟨by rw [hx]; exact zP_wf hzp HR.out.wf, ?_⟩
            rcases hup : uP M ra with _ | ⟨K2, r2⟩
            · have e : uintS M (some ra) = (0, none) := uintS_none hup
              rw [e] at hK hs2
              exact ⟨by rw [hK]; exact Nat.zero_le _, .inr ⟨hs2, by rw [hrun, rruns_no2 hzp hup]; rfl⟩⟩
            · have e : uintS M (some ra) = (K2, some r2) := uintS_some hup
              rw [e] at hK hs2
              have hk2 := (uP_some hup).2
              subst hK
              refine ⟨hk2, .inl ⟨r2, hs2, ?_⟩⟩
              rw [hrun, rruns_yes hzp hup, Option.map_map, show n - (L + (K + 1)) = M - K by omega, hx]
              congr 1; funext t; simp
        obtain ⟨hwx, hKM, hnx⟩ := hfacts
        have HWX := Lib.hid hwx; have HNX := Lib.hid hnx
        obtain ⟨R, hR⟩ : ∃ R, R = K + 1 := ⟨_, rfl⟩
        rw [← hR] at HNX
        have HRK := Lib.hid hR
        have hki : IntKind.i64.wrap (K : Int) = (K : Int) := by rw [IntKind.wrap_i64]; omega
        have hLR : L + R ≤ n := by omega
        have hbs0 := HK.out.size
        clear hrun hx hs1 hK hs2 hz hzl hwx hnx hM hR
        go_wp2_with (first
          | (go_at_call 33; (with_reducible refine (HI.out).mono ?_); rintro e w4 hy; obtain ⟨rfl, HR4, HK4⟩ := hy.at; clear hy)
          | (go_at_call 31; (refine (HU1.out _ HR4).mono ?_); rintro e w5 hy; obtain ⟨rfl, HR5, HK5⟩ := hy.at; have HV : Hid (R2i w m C A p s2 l L R x (.slice A' L cap') (.int .i64 0) w5) := Lib.hid ⟨0, L, A', cap', Nat.zero_le _, rfl, rfl, rfl, by simpa using (HO.out.keptG HK4.out HLT.out).keptG HK5.out HLT.out, HR5.out, (HK.out.trans HK4.out).trans HK5.out⟩; clear hy))
        clear HI HU1 HR4 HK4 HR5 HK5 HO HR HK c1 hz0 hd1 hd2 hd3 hmw
        go_loopw [5, 11] (fun u v wk => R2i w m C A p s2 l L R x u v wk) (fun _ v _ => R - (intOf v).toNat)
        case atStart => exact HV.out
        case round =>
          obtain ⟨j, N, A2, c2, hj, rfl, rfl, hN, ho, hr, hk⟩ := hrel
          have HO2 := Lib.hid ho; have HR2 := Lib.hid hr; have HK2 := Lib.hid hk
          have HNE := Lib.hid hN
          have hN4 : N ≤ 4096 := by omega
          clear ho hr hk HV hN
          by_cases hjR : j < R
          · have hjK : (j : Int) ≤ (K : Int) := by have := HRK.out; omega
            have HAX := Lib.hid (is_one wr x HWX.out)
            have HKB : Hid (Kept (fun _ => False) wr (wr.alloc (.cells #[.int .i64 x] 2))) := Lib.hid ((Kept.refl _ _).alloc _)
            have HOX := Lib.hid (HO2.out.keep ((Below.refl wr.heap.size wr).alloc (Nat.le_refl _) (.cells #[.int .i64 x] 2)))
            have hbs : w.heap.size ≤ (wr.alloc (.cells #[.int .i64 x] 2)).heap.size := Nat.le_trans HK2.out.size HKB.out.size
            go_wp2_with (refine wpList_append_is rfl (.tmp 218) (.tmp 220) rfl w.heap.size A2 N c2 _ rfl HOX.out ⟨wr.heap.size, 0, none⟩ 1 1 [x] rfl rfl HAX.out (by omega) hbs ?_; intro A3 c3 w6 ho hg; have HO6 := Lib.hid ho; have HK6 : Hid (Kept (fun k => A2.map (·.block) = some k) (wr.alloc (.cells #[.int .i64 x] 2)) w6) := Lib.hid (Kept.of_grown hg); clear ho hg)
            go_roundw
            case rel =>
              have hb := HO2.out.base
              have hm1 : ¬ A2.map (·.block) = some m := fun e => by have := hb m e; have := HLT.out; omega
              have ho1 : Off (fun k => A2.map (·.block) = some k) A p := fun a ha h0 e => by have := hb _ e; have := HBLK.out a ha h0; omega
              have hr5 : RRA w6 m A C p s2 := (HR2.out.keep HKB.out (fun e => e) (fun a _ _ e => e)).keep HK6.out hm1 ho1
              have hk5 : Kept (Only m) w w6 := (HK2.out.trans' HKB.out (fun i h => h.elim)).trans' HK6.out (fun i h => .inr (hb i h))
              exact ⟨j + 1, N + 1, A3, c3, by omega, by go_num, rfl, by have := HNE.out; omega, by rw [← rep_snoc]; exact HO6.out, hr5, hk5⟩
            case measure => simp [intOf]; omega
          · obtain rfl : j = R := by omega
            have hjK : ¬ (j : Int) ≤ (K : Int) := by have := HRK.out; omega
            go_wp2
            go_roundw
            case rel => exact ⟨N, A2, c2, l ++ List.replicate j x, s2, by have := HNE.out; omega, by rw [List.length_append, List.length_replicate, ← HLL.out]; exact HNE.out, rfl, HO2.out, HR2.out, HK2.out, by rw [HNE.out]; exact HNX.out⟩
            case measure => have := HNE.out; have := HRK.out; simp [lenOfS]; omega
      · have HE := Lib.hid (r0_ends (o := rruns n r) HR.out HK.out HO.out (.inr ⟨rfl, hno⟩))
        have c1 : wr.cell? ⟨m, 1, none⟩ = some (.int .i64 (-1)) := c1
        clear hno
        go_wp2
        go_ret
        exact HE.out
    · obtain rfl : L = n := by omega
      have HE := Lib.hid (r0_ends (o := rruns L r) HR.out HK.out HO.out (hcase.imp (fun ⟨r', h1, h2⟩ => ⟨r', h1, by rw [h2, Nat.sub_self, rruns_zero]; simp⟩) id))
      clear hcase c1
      go_wp2
      go_ret
      exact HE.out
end Go.Proofs.Ytlhaedcoompjpaa

set_option linter.unusedSimpArgs false
set_option linter.unusedVariables false
set_option maxRecDepth 8000
namespace Go.Proofs.Ytlhaedcoompjpaa
open Go.RowKit Go.WideShapes Col
set_option maxHeartbeats 2000000 in
theorem rintsNo_any (m C : Nat) (A : Option Addr) (p : List Nat) (s s1 s2 : Option (List Nat)) (b n : Nat) (hb : Hid (byteS s = (b, s1))) (hu : Hid (uintS 4096 s1 = (n, s2))) (hn : n ≤ 4096) (hno : s2 = none ∨ 3 < b) (w : World) (H : Hid (RRA w m A C p s)) :
    Calls Try.prog 49 #[.pointer (some ⟨m, 0, none⟩)] w (RIEnds w m C A p none) := by
  have HB : Hid (Calls Try.prog 37 #[.pointer (some ⟨m, 0, none⟩)] w (RByte w m A C p (.int .u8 (b : Int)) s1)) := Lib.hid (by have := rbyte_any m C A p s w H; rw [hb.out] at this; exact this)
  have HU : Hid (∀ w2, Hid (RRA w2 m A C p s1) → Calls Try.prog 31 #[.pointer (some ⟨m, 0, none⟩), .int .u64 4096] w2 (RByte w2 m A C p (.int .u64 (n : Int)) s2)) := Lib.hid fun w2 h => by
    have := ruint_any m C A p 4096 s1 w2 h
    rw [hu.out] at this; exact this
  have hni : IntKind.i64.wrap (n : Int) = (n : Int) := by rw [IntKind.wrap_i64]; omega
  have hend : Hid (∀ w3 : World, RRA w3 m A C p s2 → Kept (Only m) w w3 → RIEnds w m C A p none (.returned (.slice none 0 0)) (w3.setCell ⟨m, 1, none⟩ (.int .i64 (-1)))) := Lib.hid fun w3 h1 h2 => ⟨none, 0, 0, none, rfl, by simp, h1.put (s' := none) (fun q h => by cases h), h2.setCell _ _ (.inl rfl)⟩
  rcases s2 with _ | q2
  · go_enter Try.func49, Try.ntmps49
    go_wp2_with (first
      | (go_at_call 37; (with_reducible refine (HB.out).mono ?_); rintro e w2 hy; obtain ⟨rfl, HR2, HK2⟩ := hy.at; clear hy)
      | (go_at_call 31; (refine (HU.out _ HR2).mono ?_); rintro e w3 hy; obtain ⟨rfl, HR3, HK3⟩ := hy.at; have c1 : w3.cell? ⟨m, 1, none⟩ = some (.int .i64 (-1)) := HR3.out.c1; have f1 := HR3.out.fr 1; clear hy))
    go_ret
    exact hend.out _ HR3.out (HK2.out.trans HK3.out)
  · have h3 : (3 : Int) < (b : Int) := by rcases hno with h | h; cases h; omega
    clear hno
    go_enter Try.func49, Try.ntmps49
    go_wp2_with (first
      | (go_at_call 37; (with_reducible refine (HB.out).mono ?_); rintro e w2 hy; obtain ⟨rfl, HR2, HK2⟩ := hy.at; clear hy)
      | (go_at_call 31; (refine (HU.out _ HR2).mono ?_); rintro e w3 hy; obtain ⟨rfl, HR3, HK3⟩ := hy.at; obtain ⟨z, hz, hzl⟩ := atR_pos HR3.out; have c1 := HR3.out.c1; rw [hz] at c1; have hz0 : ¬ ((z : Int) < 0) := (by omega); have f1 := HR3.out.fr 1; clear hy hz))
    go_ret
    exact hend.out _ HR3.out (HK2.out.trans HK3.out)
end Go.Proofs.Ytlhaedcoompjpaa

set_option linter.unusedSimpArgs false
set_option linter.unusedVariables false
set_option maxRecDepth 8000
namespace Go.Proofs.Ytlhaedcoompjpaa
open Go.RowKit Go.WideShapes Col
theorem b_quo8 (T : Nat) (hT : T ≤ 1000000) (w : World) : (binOp .quo 3 (.int .i64 (T : Int)) (.int .i64 8)).run Try.prog w = .ok (.int .i64 ((T / 8 : Nat) : Int)) w := by
  have e : IntKind.i64.wrap ((T : Int).tdiv 8) = ((T / 8 : Nat) : Int) := by rw [IntKind.wrap_i64, Int.tdiv_eq_ediv_of_nonneg (by omega)]; omega
  rw [← e]; rfl
theorem b_rem8 (T : Nat) (hT : T ≤ 1000000) (w : World) : (binOp .rem 3 (.int .i64 (T : Int)) (.int .i64 8)).run Try.prog w = .ok (.int .i64 ((T % 8 : Nat) : Int)) w := by
  have e : (T : Int).tmod 8 = ((T % 8 : Nat) : Int) := by rw [Int.tmod_eq_emod_of_nonneg (by omega)]; omega
  rw [← e]; rfl
theorem b_addN (a b : Nat) (h : a + b ≤ 100000000) (w : World) : (binOp .add 3 (.int .i64 (a : Int)) (.int .i64 (b : Int))).run Try.prog w = .ok (.int .i64 ((a + b : Nat) : Int)) w := by
  have e : IntKind.i64.wrap ((a : Int) + (b : Int)) = ((a + b : Nat) : Int) := by rw [IntKind.wrap_i64]; omega
  rw [← e]; rfl
theorem b_subN (a b : Nat) (h : b ≤ a) (h2 : a ≤ 100000000) (w : World) : (binOp .sub 3 (.int .i64 (a : Int)) (.int .i64 (b : Int))).run Try.prog w = .ok (.int .i64 ((a - b : Nat) : Int)) w := by
  have e : IntKind.i64.wrap ((a : Int) - (b : Int)) = ((a - b : Nat) : Int) := by rw [IntKind.wrap_i64]; omega
  rw [← e]; rfl
theorem b_mulN (a b : Nat) (h : a * b ≤ 100000000) (w : World) : (binOp .mul 3 (.int .i64 (a : Int)) (.int .i64 (b : Int))).run Try.prog w = .ok (.int .i64 ((a * b : Nat) : Int)) w := by
  have e : IntKind.i64.wrap ((a : Int) * (b : Int)) = ((a * b : Nat) : Int) := by rw [IntKind.wrap_i64, ← Int.natCast_mul]; omega
  rw [← e]; rfl
theorem b_neqN (a b : Nat) (c : Bool) (h : (a != b) = c) (w : World) : (binOp .neq 3 (.int .i64 (a : Int)) (.int .i64 (b : Int))).run Try.prog w = .ok (.bool c) w := by
  subst h
  have e : (a != b) = ((a : Int) != (b : Int)) := by rw [Bool.eq_iff_iff, bne_iff_ne, bne_iff_ne]; omega
  rw [e]; first | rfl | go_simp
theorem b_shr8 (b s : Nat) (hb : b < 256) (hs : s < 8) (w : World) : (binOp .shr 5 (.int .u8 (b : Int)) (.int .i64 (s : Int))).run Try.prog w = .ok (.int .u8 ((b / 2 ^ s : Nat) : Int)) w := by
  have h1 : (s : Int) < 8 := by omega
  rw [← shr_u8 b s hb hs]
  go_simp
theorem b_rem2 (x : Nat) (hx : x < 256) (w : World) : (binOp .rem 5 (.int .u8 (x : Int)) (.int .u8 2)).run Try.prog w = .ok (.int .u8 ((x % 2 : Nat) : Int)) w := by
  have e : (x : Int).tmod 2 = ((x % 2 : Nat) : Int) := by rw [Int.tmod_eq_emod_of_nonneg (by omega)]; omega
  rw [← e]; rfl
theorem b_shl64 (b k : Nat) (hb : b < 2) (hk : k < 64) (w : World) : (binOp .shl 57 (.int .u64 (b : Int)) (.int .i64 (k : Int))).run Try.prog w = .ok (.int .u64 ((b * 2 ^ k : Nat) : Int)) w := by
  have h1 : (k : Int) < 64 := by omega
  have h2 : b * 2 ^ k < 18446744073709551616 := by
    have h3 : 2 ^ k ≤ 2 ^ 63 := Nat.pow_le_pow_right (by decide) (by omega)
    have h4 : b * 2 ^ k ≤ 1 * 2 ^ k := Nat.mul_le_mul_right _ (by omega)
    omega
  have e : IntKind.u64.wrap ((b : Int) * 2 ^ k) = ((b * 2 ^ k : Nat) : Int) := by
    have e1 : (b : Int) * 2 ^ k = ((b * 2 ^ k : Nat) : Int) := by rw [Int.natCast_mul, Int.natCast_pow]; rfl
    rw [e1, IntKind.wrap_u64]; omega
  go_simp
theorem b_add64 (a b : Nat) (h : a + b < 18446744073709551616) (w : World) : (binOp .add 57 (.int .u64 (a : Int)) (.int .u64 (b : Int))).run Try.prog w = .ok (.int .u64 ((a + b : Nat) : Int)) w := by
  have e : IntKind.u64.wrap ((a : Int) + (b : Int)) = ((a + b : Nat) : Int) := by rw [IntKind.wrap_u64]; omega
  rw [← e]; rfl
theorem b_eql1 (x : Nat) (c : Bool) (h : (x == 1) = c) (w : World) : (binOp .eql 5 (.int .u8 (x : Int)) (.int .u8 1)).run Try.prog w = .ok (.bool c) w := by
  subst h
  have e : (x == 1) = ((x : Int) == 1) := by rw [Bool.eq_iff_iff, beq_iff_eq, beq_iff_eq]; omega
  rw [e]; first | rfl | go_simp
theorem c_u8 (x : Nat) (hx : x < 256) (w : World) : (convert 5 57 (.int .u8 (x : Int))).run Try.prog w = .ok (.int .u64 (x : Int)) w := by
  have e : IntKind.u64.wrap (x : Int) = (x : Int) := by rw [IntKind.wrap_u64]; omega
  go_simp
theorem yb_cv {ops : Array Oper} {S : World → Prop} {op : Oper} {a : Act} (hw : Region.wanted op (yielded ops a.tmps) = true) (f t : TypeId) (x : Operand) (ho : op.op = .convert f t x) (v u : Value) (hx : a.eval x = v)
    (h : ∀ w, (convert f t v).run Try.prog w = .ok u w) : YieldsIf Try.prog ops S op u a :=
  .inl ⟨hw, fun w hw' => by
    unfold execOp
    simp only [ho, hx, Sem.run_bind, Sem.run_pure, h w, Result.andThen_ok]⟩
theorem yb_ixb {ops : Array Oper} {S : World → Prop} {op : Oper} {a : Act} (hw : Region.wanted op (yielded ops a.tmps) = true) (x y : Operand) (ho : op.op = .indexAddr 24 x y) (g off m c k : Nat) (hx : a.eval x = .slice (some ⟨g, off, none⟩) m c) (hy : a.eval y = .int .i64 (k : Int)) (h : k < m) : YieldsIf Try.prog ops S op (.pointer (some ⟨g, off + k, none⟩)) a :=
  .inl ⟨hw, fun w _ => by
    unfold execOp
    have e : (Instr.indexAt 24 (.slice (some ⟨g, off, none⟩) m c) (.int .i64 (k : Int))).run Try.prog w = .ok (.pointer (some ⟨g, off + k, none⟩)) w := by
      have h1 : (k : Int) < (m : Int) := by omega
      first | (go_simp; done) | (go_simp; intro h; exfalso; omega)
    simp only [ho, hx, hy, Sem.run_bind, Sem.run_pure, Result.andThen_ok, e]⟩
theorem lv_u8 (w : World) (g j : Nat) (v : Value) (h : w.cell? ⟨g, j, none⟩ = some v) : (loadVar 5 ⟨g, j, none⟩).run Try.prog w = .ok v w := by
  go_simp
theorem yb_ldb {ops : Array Oper} {S : World → Prop} {op : Oper} {a : Act} (hw : Region.wanted op (yielded ops a.tmps) = true) (x : Operand) (ho : op.op = .load 5 x) (g j : Nat) (hx : a.eval x = .pointer (some ⟨g, j, none⟩)) (v : Value)
    (hS : ∀ w, S w → w.cell? ⟨g, j, none⟩ = some v) : YieldsIf Try.prog ops S op v a :=
  .inl ⟨hw, fun w hw' => by
    unfold execOp
    simp only [ho, hx, Instr.loadAt, Instr.sureAddr, Sem.run_bind, Sem.run_pure, Result.andThen_ok, lv_u8 w g j v (hS w hw')]⟩
end Go.Proofs.Ytlhaedcoompjpaa
