/-
  The law FilesRoom: walked.
-/
import Derived.Test.YtcepffmhjhaelaaIl
set_option linter.unusedSimpArgs false
set_option linter.unusedVariables false
namespace Go.Proofs.Ytcepffmhjhaelaa
open Go.RowKit Go.WideShapes

set_option maxRecDepth 4000 in
set_option maxHeartbeats 8000000 in
theorem filesRoom_core (u : Nat) (hu : u < 256) (b : Option Addr) (l : List Nat) (lb cb : Nat) (hlb : Hid (lb = l.length)) (hlbm : lb ≤ maxLen) (W : World) (HA : Hid (ByAt W b l)) :
    Calls Try.prog 8 #[.int .u8 u, .slice b lb cb] W fun e w' => e = .returned (.bool true) ∧ Below W.heap.size W w' := by
  obtain ⟨iu, hiu, hz0, hz1, hz2⟩ := info_parts infoByte
  obtain ⟨N, hN⟩ : ∃ N : Int, N = 1 + (u : Int) := ⟨_, rfl⟩
  have hN1 : 1 ≤ N ∧ N ≤ 256 := by omega
  have hu2 : (u : Int) ≤ 255 := by omega
  unfold maxLen at hlbm
  go_enter Try.func8, Try.ntmps8
  go_wp2_with (first
    | (go_at_call 10; refine (awake_any _).mono ?_; rintro e w1 ⟨rfl, hb⟩; have HB1 := Lib.hid hb; clear hb)
    | (go_at_call 11; rw [← hN]; refine (new_any N (by omega) _).mono ?_; rintro e w2 ⟨g, rfl, hgn, h0⟩; have HS0 := Lib.hid h0; have HGN := Lib.hid hgn; clear h0 hgn))
  have HRR : Hid (RR W g w2.heap.size (w2.heap.size + 1) N ((w2.alloc (.cells #[.string { data := #[97] }, .string { data := #[98] }, .string { data := #[99] }] 9)).alloc (.cells #[.int .i64 0, .int .i64 0, .int .i64 0] 64)) 0 [] (fun _ => 0) ((w2.alloc (.cells #[.string { data := #[97] }, .string { data := #[98] }, .string { data := #[99] }] 9)).alloc (.cells #[.int .i64 0, .int .i64 0, .int .i64 0] 64))) := Lib.hid (room_start HS0.out HB1.out HGN.out)
  clear HS0
  generalize World.alloc (World.alloc w2 _) _ = wz at *
  generalize w2.heap.size = Bn at *
  generalize Bn + 1 = Bh at *
  go_loopw [8, 11] (fun u i wr => ∃ J : Nat, J ≤ lb ∧ J ≤ 60 ∧ i = .int .i64 J ∧ RJ W g Bn Bh N J u wr) (fun _ i _ => lb - (intOf i).toNat)
  case atStart => exact ⟨0, Nat.zero_le _, Nat.zero_le _, rfl, wz, 0, [], fun _ => 0, rfl, HRR.out, fun k _ => rfl, rises_nil, Nat.le_refl _, by show (0 : Int) ≤ N; omega, by decide, by decide⟩
  case round =>
    obtain ⟨J, hJ, hJ6, rfl, Wb, ops, xs, H, rfl, hrr, hH, hri, hle, hfit, ho1, ho2⟩ := hrel
    have HR := Lib.hid hrr; have HH := Lib.hid hH; have HRI := Lib.hid hri
    have hHb : ∀ k, k < 3 → 0 ≤ H k ∧ H k ≤ ((sumN xs : Nat) : Int) := fun k hk => by rw [hH k hk]; have := lenOf_le xs (nm k); omega
    have HHB := Lib.hid hHb
    generalize hS : sumN xs = S at *
    have HS := Lib.hid hS
    clear hS hrr hH hri hHb HRR
    by_cases hlt : J < lb
    · by_cases h60 : J < 60
      · have hkl : J < l.length := by have := hlb.out; omega
        obtain ⟨hx, bg, ofs, rfl, hg, hc0⟩ := (HA.out.keep HR.out.below) J l[J] (List.getElem?_eq_getElem hkl)
        generalize l[J] = x at *
        obtain ⟨k, hk, hk3⟩ : ∃ k : Nat, (x : Int) % 3 = (k : Int) ∧ k < 3 := ⟨x % 3, by omega, by omega⟩
        obtain ⟨q, hq, hq6⟩ : ∃ q : Nat, (x : Int) / 4 = (q : Int) ∧ q ≤ 63 := ⟨x / 4, by omega, by omega⟩
        have hzb : iu.bytes * q ≤ 281474976710656 := by rw [hz2]; omega
        have hqm : q ≤ maxLen := by unfold maxLen; omega
        obtain ⟨hh0, hh1⟩ := HHB.out k hk3
        have hki : (k : Int) < 3 := by omega
        by_cases hfi : (S : Int) + (q : Int) ≤ N
        · go_upto_region 19 with (first | (refine wpList_make_full _ rfl (.tmp 47) (.tmp 47) 32 rfl wr.heap.size 5 iu (.int .u8 0) 1 Try.underlying32 hiu hz0 hz1 .i64 .i64 _ _ q rfl rfl rfl rfl hzb hqm (Nat.le_refl _) ?_; intro v1 own hgr; have HP := Lib.hid (zeros_by own); have HBM : Hid (Below wr.heap.size wr v1) := Lib.hid ((Below.refl _ wr).grown hgr (Nat.le_refl _) (by intro k hk; cases hk)); have HR1 := Lib.hid (HR.out.next HBM.out); have cn1 := HR1.out.names k hk3; clear own hgr) | (go_at_call 13; refine (append_A (e := 0) (armed' := 0) (off' := false) (by rw [nm_size]; decide) (nm_form k) HRI.out (by omega) _ (Lib.hid HR1.out.sa) op_none (Lib.hid (by omega)) (Lib.hid (by decide)) _ q q (List.replicate q 0) (Lib.hid (by rw [List.length_replicate])) HP (Lib.hid (fun f n c hc j y _ e => by have := sa_row_lt HR.out.sa HBM.out hc; simp at e; omega)) (by omega) (by rw [HS.out]; omega) (by omega)).mono ?_; rintro z v2 ⟨rfl, ys, hrel, hsa⟩; have HF := Lib.hid (hrel.facts HRI.out); have HR2 := Lib.hid (HR1.out.step hsa); have ch2 := HR2.out.has k hk3; have kh2 := HR2.out.hf k; have HR3 := Lib.hid (HR2.out.put k hk3 (H k + (q : Int))); have cn3 := HR3.out.names k hk3; clear hrel hsa cn1))
          generalize World.setCell v2 _ _ = v3 at *
          clear ch2 kh2
          obtain ⟨hf1, hf2, hf3, hf4, lo, y, hy, hyn⟩ := HF.out
          rw [List.length_replicate, HS.out] at hf2
          have HT := Lib.hid (hf1.there hy hyn (by rw [nm_size]; decide) (nm_form k))
          have HST : Hid (∀ j, j < 3 → upd H k (H k + (q : Int)) j = (lenOf ys (nm j) : Nat)) := Lib.hid (has_step hk3 HH.out (by simpa using hf3))
          have HLK : Hid (((lenOf ys (nm k) : Nat) : Int) = H k + (q : Int)) := Lib.hid (by rw [← HST.out k hk3]; unfold upd; rw [if_pos rfl])
          have HF1 := Lib.hid hf1
          have hyl : ys.length ≤ J + 1 := by omega
          clear hf3 hy hyn hf1 HF hf4
          by_cases h5 : (J : Int) % 5 = 4
          · have hz5 : ((J : Int) % 5 == 4) = true := by simpa using h5
            clear h5
            obtain ⟨he1, he2, he3, he4, he5⟩ := erase_facts HF1.out HT.out
            have HE1 := Lib.hid he1; have HE3 := Lib.hid he3; have HE4 := Lib.hid he4
            have HE2 : Hid (sumN ys = sumN (ys.eraseIdx lo) + lenOf ys (nm k)) := Lib.hid he2
            have hZ : ((sumN (ys.eraseIdx lo) : Nat) : Int) = (S : Int) + (q : Int) - (H k + (q : Int)) := by have := HLK.out; omega
            generalize hzs : ys.eraseIdx lo = zs at *
            have HZS := Lib.hid hzs
            generalize hZe : sumN zs = Z at *
            have HZE := Lib.hid hZe
            have hzb1 : ((Z : Int) != (S : Int) + (q : Int) - (H k + (q : Int))) = false := by rw [hZ]; simp
            have hzl : zs.length ≤ J + 1 := by omega
            have HZ := Lib.hid hZ
            have hZ8 : Z ≤ 1000 := by omega
            clear hzs hZe hZ he1 he2 he3 he4 he5
            go_upto_region 22 with (go_at_call 19; refine (delete_A (by omega) lo y _ (Lib.hid HR3.out.sa) HT op_none (Lib.hid (by omega)) (Lib.hid (by decide))).mono ?_; rw [HZS.out]; rintro z v4 ⟨rfl, hsa⟩; have HR4 := Lib.hid (HR3.out.step hsa); have ch4 := HR4.out.has k hk3; rw [upd_same] at ch4; have kh4 := HR4.out.hf k; have HR5 := Lib.hid (HR4.out.put k hk3 0); clear hsa cn3)
            generalize World.setCell v4 _ _ = v5 at *
            clear ch4 kh4
            go_wp2_with (go_at_call 28; refine (used_A (by omega) (by rw [HZE.out]; omega) _ (Lib.hid HR5.out.sa)).mono ?_; rw [HZE.out]; rintro z v9 ⟨rfl, hb⟩; have HR9 := Lib.hid (HR5.out.next hb); clear hb)
            go_roundw
            case rel => exact ⟨J + 1, by omega, by omega, by go_num, _, _, zs, _, by rw [HZE.out, HZ.out], HR9.out, has_gone hk3 HST.out HE3.out HE4.out, HE1.out, hzl, by rw [HZE.out]; have := HZ.out; omega, by omega, by omega⟩
            case measure => simp [intOf]; omega
          · have hz5 : ((J : Int) % 5 == 4) = false := by simpa using h5
            clear h5
            generalize hZe : sumN ys = Z at *
            have HZE := Lib.hid hZe
            have hZ : (Z : Int) = (S : Int) + (q : Int) := by omega
            have hzb1 : ((Z : Int) != (S : Int) + (q : Int)) = false := by rw [hZ]; simp
            have HZ := Lib.hid hZ
            have hZ8 : Z ≤ 1000 := by omega
            clear hZe hZ hf2
            go_wp2_with (go_at_call 28; refine (used_A (by omega) (by rw [HZE.out]; omega) _ (Lib.hid HR3.out.sa)).mono ?_; rw [HZE.out]; rintro z v9 ⟨rfl, hb⟩; have HR9 := Lib.hid (HR3.out.next hb); clear hb)
            go_roundw
            case rel => exact ⟨J + 1, by omega, by omega, by go_num, _, _, ys, _, by rw [HZE.out, HZ.out], HR9.out, HST.out, HF1.out, hyl, by rw [HZE.out]; have := HZ.out; omega, by omega, by omega⟩
            case measure => simp [intOf]; omega
        · go_upto_region 19 with (first | (refine wpList_make_full _ rfl (.tmp 47) (.tmp 47) 32 rfl wr.heap.size 5 iu (.int .u8 0) 1 Try.underlying32 hiu hz0 hz1 .i64 .i64 _ _ q rfl rfl rfl rfl hzb hqm (Nat.le_refl _) ?_; intro v1 own hgr; have HP := Lib.hid (zeros_by own); have HBM : Hid (Below wr.heap.size wr v1) := Lib.hid ((Below.refl _ wr).grown hgr (Nat.le_refl _) (by intro k hk; cases hk)); have HR1 := Lib.hid (HR.out.next HBM.out); have cn1 := HR1.out.names k hk3; clear own hgr) | (go_at_call 13; refine (append_full (by rw [nm_size]; decide) (nm_form k) (by omega) (by rw [HS.out]; omega) (placeOf xs (nm k)) (Lib.hid (HRI.out.place _)) _ (Lib.hid HR1.out.sa) _ q q (by omega) (by rw [HS.out]; omega) (by omega)).mono ?_; rintro z v2 ⟨rfl, hb⟩; have HR3 := Lib.hid (HR1.out.next hb); have cn3 := HR3.out.names k hk3; clear hb cn1))
          by_cases h5 : (J : Int) % 5 = 4
          · have hz5 : ((J : Int) % 5 == 4) = true := by simpa using h5
            clear h5
            rcases hat : isAt xs (nm k) (placeOf xs (nm k)) with _ | _
            · have HAT := Lib.hid hat
              clear hat
              have HD := Lib.hid (delete_no (by rw [nm_size]; decide) (by omega) _ (Lib.hid (HRI.out.place (nm k))) HAT _ (Lib.hid HR3.out.sa))
              rw [nm_form, if_pos rfl] at HD
              have hzb1 : ((S : Int) != (S : Int)) = false := by simp
              go_wp2_with (first | (go_at_call 19; refine HD.out.mono ?_; rintro z v4 ⟨rfl, hb⟩; have HR5 := Lib.hid (HR3.out.next hb); clear hb cn3) | (go_at_call 28; refine (used_A (by omega) (by rw [HS.out]; omega) _ (Lib.hid HR5.out.sa)).mono ?_; rw [HS.out]; rintro z v9 ⟨rfl, hb⟩; have HR9 := Lib.hid (HR5.out.next hb); clear hb))
              go_roundw
              case rel => exact ⟨J + 1, by omega, by omega, by go_num, _, _, xs, _, by rw [HS.out], HR9.out, HH.out, HRI.out, by omega, by rw [HS.out]; exact hfit, by omega, by omega⟩
              case measure => simp [intOf]; omega
            · obtain ⟨y, hy, hyc⟩ := isAt_yes hat
              have HT := Lib.hid (HRI.out.there hy (ck_eq hyc) (by rw [nm_size]; decide) (nm_form k))
              clear hat hy hyc
              obtain ⟨he1, he2, he3, he4, he5⟩ := erase_facts HRI.out HT.out
              have HE1 := Lib.hid he1; have HE3 := Lib.hid he3; have HE4 := Lib.hid he4
              have hhk := HH.out k hk3
              rw [HS.out] at he2
              have hZ : ((sumN (xs.eraseIdx (placeOf xs (nm k))) : Nat) : Int) = (S : Int) - H k := by omega
              generalize hzs : xs.eraseIdx (placeOf xs (nm k)) = zs at *
              have HZS := Lib.hid hzs
              generalize hZe : sumN zs = Z at *
              have HZE := Lib.hid hZe
              have hzb1 : ((Z : Int) != (S : Int) - H k) = false := by rw [hZ]; simp
              have hzl : zs.length ≤ J + 1 := by omega
              have HZ := Lib.hid hZ
              have hZ8 : Z ≤ 1000 := by omega
              clear hzs hZe hZ he1 he2 he3 he4 he5 hhk
              go_upto_region 22 with (go_at_call 19; refine (delete_A (by omega) _ y _ (Lib.hid HR3.out.sa) HT op_none (Lib.hid (by omega)) (Lib.hid (by decide))).mono ?_; rw [HZS.out]; rintro z v4 ⟨rfl, hsa⟩; have HR4 := Lib.hid (HR3.out.step hsa); have ch4 := HR4.out.has k hk3; have kh4 := HR4.out.hf k; have HR5 := Lib.hid (HR4.out.put k hk3 0); clear hsa cn3)
              generalize World.setCell v4 _ _ = v5 at *
              clear ch4 kh4
              go_wp2_with (go_at_call 28; refine (used_A (by omega) (by rw [HZE.out]; omega) _ (Lib.hid HR5.out.sa)).mono ?_; rw [HZE.out]; rintro z v9 ⟨rfl, hb⟩; have HR9 := Lib.hid (HR5.out.next hb); clear hb)
              go_roundw
              case rel => exact ⟨J + 1, by omega, by omega, by go_num, _, _, zs, _, by rw [HZE.out, HZ.out], HR9.out, has_gone hk3 HH.out HE3.out HE4.out, HE1.out, hzl, by rw [HZE.out]; have := HZ.out; omega, by omega, by omega⟩
              case measure => simp [intOf]; omega
          · have hz5 : ((J : Int) % 5 == 4) = false := by simpa using h5
            clear h5
            have hzb1 : ((S : Int) != (S : Int)) = false := by simp
            go_wp2_with (go_at_call 28; refine (used_A (by omega) (by rw [HS.out]; omega) _ (Lib.hid HR3.out.sa)).mono ?_; rw [HS.out]; rintro z v9 ⟨rfl, hb⟩; have HR9 := Lib.hid (HR3.out.next hb); clear hb)
            go_roundw
            case rel => exact ⟨J + 1, by omega, by omega, by go_num, _, _, xs, _, by rw [HS.out], HR9.out, HH.out, HRI.out, by omega, by rw [HS.out]; exact hfit, by omega, by omega⟩
            case measure => simp [intOf]; omega
      · go_wp2
        go_ret
        exact ⟨rfl, HR.out.below⟩
    · go_wp2
      go_ret
      exact ⟨rfl, HR.out.below⟩
theorem filesRoom_any (u : Nat) (hu : u < 256) (b : Option Addr) (l : List Nat) (lb cb : Nat) (hlb : Hid (lb = l.length)) (hc : lb ≤ cb) (hm : cb ≤ maxLen) (W : World) (HA : Hid (ByAt W b l)) :
    Calls Try.prog 8 #[.int .u8 u, .slice b lb cb] W fun e w' => e = .returned (.bool true) ∧ Below W.heap.size W w' :=
  filesRoom_core u hu b l lb cb hlb (Nat.le_trans hc hm) W HA
end Go.Proofs.Ytcepffmhjhaelaa
