/-
  Layer whole: WholeApart.
-/
import Derived.Test.YtckfndnaaljmhaaZtR
import Derived.Test.YtckfndnaaljmhaaZxaR
set_option linter.unusedSimpArgs false
set_option linter.unusedVariables false
set_option maxRecDepth 8000
namespace Go.Proofs.Ytckfndnaaljmhaa
open Go.RowKit Go.Sort Sm

/-- The panes of the first keys' events. -/
def pAp (c : Cf) (l : List Ev) : Nat → List Pz
  | 0 => []
  | k + 1 => pAp c l k ++ panesL c (l.filter (kq (keyR k)))
theorem pAp_all (c : Cf) {l : List Ev} (ha : AntiE l) (hk : Keyd l) : pAp c l 4 = panesL c l := by
  show ((([] ++ _) ++ _) ++ _) ++ _ = _
  unfold panesL
  rw [grps_apart c ha hk, List.map_append, List.map_append, List.map_append, List.nil_append, List.append_assoc, List.append_assoc]
theorem fit_filter {l : List Ev} (h : EvFit l) (p : Ev → Bool) : EvFit (l.filter p) :=
  ⟨fun x hx => h.val x (List.mem_filter.1 hx).1, fun x hx => h.time x (List.mem_filter.1 hx).1, Nat.le_trans (List.length_filter_le _ _) h.few⟩
theorem pAp_mono (c : Cf) (l : List Ev) (k : Nat) : ∀ d, (pAp c l k).length ≤ (pAp c l (k + d)).length
  | 0 => Nat.le_refl _
  | d + 1 => by
    have ih := pAp_mono c l k d
    show _ ≤ (pAp c l (k + d) ++ panesL c (l.filter (kq (keyR (k + d))))).length
    rw [List.length_append]; omega
theorem pAp_le (c : Cf) (l : List Ev) (k : Nat) (h : k ≤ 4) : (pAp c l k).length ≤ (pAp c l 4).length := by
  have e := pAp_mono c l k (4 - k)
  rw [show k + (4 - k) = 4 by omega] at e
  exact e
set_option maxHeartbeats 8000000 in
theorem apart_any (x : Cn) (hx : x.Ok) (a : Option Addr) (n cp : Nat) (ps : List Pt) (hn : n = ps.length) (hp : ∀ p ∈ ps, p.Ok) (W : World) (HA : Hid (PtAt W a ps)) :
    Calls Try.prog 8 #[x.v, .slice a n cp] W fun e w' => e = .returned (.bool true) ∧ Below W.heap.size W w' := by
  have HN := Lib.hid hn
  have HP := Lib.hid hp
  clear hn hp
  have HAWK := Lib.hid awake13_any
  have HCF := Lib.hid (config_cn x hx)
  have HWX : Hid (Below W.heap.size W (W.alloc (.cells #[.int .u8 x.a, .int .u8 x.b, .int .u8 x.c, .int .u8 x.d, .int .u8 x.e, .int .u8 x.f, .int .u8 x.g] 60))) := Lib.hid ((Below.refl _ _).alloc (Nat.le_refl _) _)
  have HRX : Hid ((W.alloc (.cells #[.int .u8 x.a, .int .u8 x.b, .int .u8 x.c, .int .u8 x.d, .int .u8 x.e, .int .u8 x.f, .int .u8 x.g] 60)).heap[W.heap.size]? = some (.cells #[.int .u8 x.a, .int .u8 x.b, .int .u8 x.c, .int .u8 x.d, .int .u8 x.e, .int .u8 x.f, .int .u8 x.g] 60 (0, 0))) := Lib.hid (heap_new W _)
  clear hx
  go_enter Try.func8, Try.ntmps8
  go_upto_region 4 with (first
    | (go_at_call 37; (with_reducible refine (HAWK.out _).mono ?_); rintro e w1 ⟨rfl, hb1⟩; have HB1 := Lib.hid (HWX.out.trans (hb1.mono HWX.out.size)); have HR1 := Lib.hid (row_keep HRX.out hb1); clear hb1)
    | (refine wpList_load_row rfl 60 (.tmp 2) rfl W.heap.size rfl _ #[.int .u8 x.a, .int .u8 x.b, .int .u8 x.c, .int .u8 x.d, .int .u8 x.e, .int .u8 x.f, .int .u8 x.g] (0, 0) _ HR1.out uCn rfl (by kernel_rfl) ?_)
    | (go_at_call 38; (with_reducible refine (HCF.out _).mono ?_); rintro e w2 ⟨c, hc, hc30, hc3, rfl, hb2⟩; have HC := Lib.hid hc; have HC30 := Lib.hid (And.intro hc30 hc3); have HB2 := Lib.hid (bto HB1.out hb2); clear hc hc30 hc3 hb2))
  have HLG : Hid (∀ w, Below W.heap.size W w → Calls Try.prog 39 #[c.v, .slice a n cp, .int .i64 40] w (LgEnds w (lgL c ps (min n 40)))) := Lib.hid fun w hb => log_any c HC.out a n cp ps HP.out 40 HN.out (by omega) w (Lib.hid (HA.out.keep hb))
  have HFT : Hid (EvFit (lgL c ps (min n 40))) := Lib.hid (lgL_fit c ps HP.out _ (by have := HN.out; omega) (by omega))
  have HLL : Hid ((lgL c ps (min n 40)).length ≤ 40) := Lib.hid (by rw [lgL_len]; omega)
  have HPA : Hid (pAp c (lgL c ps (min n 40)) 4 = panesL c (lgL c ps (min n 40))) := Lib.hid (pAp_all c (anti_log _ _ _) (keyd_log _ _ _))
  generalize lgL c ps (min n 40) = l at *
  obtain ⟨w3, hw3⟩ : ∃ w3, w3 = w2.alloc (.cells #[.int .u8 (c.kind : Int), .int .i64 c.size, .int .i64 c.step, .int .i64 c.late, .int .i64 c.skew, .int .i64 c.parts, .int .u64 (c.cut : Int)] 64) := ⟨_, rfl⟩
  rw [← hw3]
  have HB3 : Hid (Below W.heap.size W w3) := Lib.hid (by rw [hw3]; exact HB2.out.alloc HB2.out.size _)
  obtain ⟨bc, hbc⟩ : ∃ bc, bc = w2.heap.size := ⟨_, rfl⟩
  have HRC : Hid (w3.heap[bc]? = some (.cells #[.int .u8 (c.kind : Int), .int .i64 c.size, .int .i64 c.step, .int .i64 c.late, .int .i64 c.skew, .int .i64 c.parts, .int .u64 (c.cut : Int)] 64 (0, 0))) := Lib.hid (by rw [hw3, hbc]; exact heap_new w2 _)
  rw [← hbc]
  clear hw3 hbc
  go_upto_region 5 with (first
    | (refine wpList_load_row rfl 64 (.tmp 5) rfl bc rfl _ #[.int .u8 (c.kind : Int), .int .i64 c.size, .int .i64 c.step, .int .i64 c.late, .int .i64 c.skew, .int .i64 c.parts, .int .u64 (c.cut : Int)] (0, 0) _ HRC.out uCf rfl (by kernel_rfl) ?_)
    | (go_at_call 39; (with_reducible refine (HLG.out _ HB3.out).mono ?_); rintro e w4 ⟨Al, nl, cl, rfl, hnl, hol, hb4⟩; have HNL := Lib.hid hnl; have HOL := Lib.hid hol; have HB4 := Lib.hid (bto HB3.out hb4); have HRC4 := Lib.hid (row_keep HRC.out hb4); clear hnl hol hb4))
  have nl40 : nl ≤ 40 := by have := HNL.out; have := HLL.out; omega
  go_upto_region 7 with fail
  obtain ⟨W5, hw5⟩ : ∃ W5, W5 = w4.alloc (.cells #[.string { data := #[] }, .string { data := #[97] }, .string { data := #[97, 32, 98] }, .string { data := #[98] }] 9) := ⟨_, rfl⟩
  rw [← hw5]
  have HB45 : Hid (Below w4.heap.size w4 W5) := Lib.hid (by rw [hw5]; exact (Below.refl _ _).alloc (Nat.le_refl _) _)
  have HKC0 : Hid (∀ k, k < 4 → W5.cell? ⟨w4.heap.size, k, none⟩ = some (.string (keyR k))) := Lib.hid fun k hk => by
    rw [hw5, cell_of_row _ _ _ _ _ _ (heap_new w4 _)]
    rcases k with _ | _ | _ | _ | k
    · rfl
    · rfl
    · rfl
    · rfl
    · omega
  have HBK5 : Hid (w4.heap.size < W5.heap.size) := Lib.hid (by rw [hw5]; simp)
  obtain ⟨bk, hbk⟩ : ∃ bk, bk = w4.heap.size := ⟨_, rfl⟩
  rw [← hbk] at HKC0 HBK5 ⊢
  clear hw5
  have HB5 : Hid (Below W.heap.size W W5) := Lib.hid (bto HB4.out HB45.out)
  have HRC5 := Lib.hid (row_keep HRC4.out HB45.out)
  have HOL5 := Lib.hid (ownE_below HOL.out HB45.out (Nat.le_refl _))
  clear hbk HRC4 HRC HB45
  go_wp2
  go_loopw [7, 9] (fun p i wr => ∃ (k na ca : Nat) (A : Option Addr), k ≤ 4 ∧ i = .int .i64 k ∧ p = .slice A na ca ∧ na = (pAp c l k).length ∧ OwnPz wr W5.heap.size A na ca (pAp c l k) ∧ Below W5.heap.size W5 wr) (fun _ i _ => 4 - (intOf i).toNat)
  case atStart => exact ⟨0, 0, 0, none, Nat.zero_le _, rfl, rfl, rfl, OwnPz.nil _ _, Below.refl _ _⟩
  case round =>
    obtain ⟨k, na, ca, A, hk, rfl, rfl, hna, hoa, hb⟩ := hrel
    have HNA := Lib.hid hna; have HOA := Lib.hid hoa; have HB := Lib.hid hb
    clear hna hoa hb
    by_cases hlt : k < 4
    · have HKC := Lib.hid (show wr.cell? ⟨bk, k, none⟩ = some (.string (keyR k)) from (HB.out.cell (p := ⟨bk, k, none⟩) HBK5.out).trans (HKC0.out k hlt))
      obtain ⟨w6, hw6⟩ : ∃ w6, w6 = wr := ⟨_, rfl⟩
      subst hw6
      have HOL6 := Lib.hid (ownE_below HOL5.out HB.out (Nat.le_refl _))
      have HRC6 := Lib.hid (row_keep HRC5.out HB.out)
      have HKC6 := HKC
      have HBK6 : Hid (bk < w6.heap.size) := Lib.hid (Nat.lt_of_lt_of_le HBK5.out HB.out.size)
      clear HKC
      have hki : (k : Int) < 4 := by omega
      go_wp2
      go_loopw [10, 11] (fun s i wr => ∃ (i' ns cs : Nat) (As : Option Addr), i' ≤ nl ∧ i = .int .i64 i' ∧ s = .slice As ns cs ∧ ns = ((l.take i').filter (kq (keyR k))).length ∧ OwnE wr w6.heap.size As ns cs ((l.take i').filter (kq (keyR k))) ∧ Below w6.heap.size w6 wr) (fun _ i _ => nl - (intOf i).toNat)
      case atStart => exact ⟨0, 0, 0, none, Nat.zero_le _, rfl, rfl, rfl, World.ownsRow_nil _ _ _ 5, Below.refl _ _⟩
      case round =>
        obtain ⟨i, ns, cs, As, hi, rfl, rfl, hns, hos, hb⟩ := hrel
        have HNS := Lib.hid hns; have HOS := Lib.hid hos; have HBI := Lib.hid hb
        clear hns hos hb
        by_cases hil : i < nl
        · obtain ⟨x9, hx9⟩ : ∃ x9, l[i]? = some x9 := ⟨l[i]'(by have := HNL.out; omega), List.getElem?_eq_getElem _⟩
          obtain ⟨gl, hAl, hgl, hre⟩ := evsl_range HOL6.out i x9 hx9
          subst hAl
          have HRE : Hid (wr.rangeAt gl (i * 5) x9.cells) := Lib.hid (zkeep hre hgl HBI.out)
          have HGL : Hid (gl < wr.heap.size) := Lib.hid (Nat.lt_of_lt_of_le hgl HBI.out.size)
          have HKC : Hid (wr.cell? ⟨bk, k, none⟩ = some (.string (keyR k))) := Lib.hid ((HBI.out.cell (p := ⟨bk, k, none⟩) HBK6.out).trans HKC6.out)
          have HBKL : Hid (bk < wr.heap.size) := Lib.hid (Nat.lt_of_lt_of_le HBK6.out HBI.out.size)
          have HTK : Hid (l.take (i + 1) = l.take i ++ [x9]) := Lib.hid (by
            have h2 := List.getElem?_eq_some_iff.1 hx9
            rw [List.take_succ_eq_append_getElem h2.1, h2.2])
          have hil1 : (i : Int) < (nl : Int) := by omega
          clear hx9 hgl hre
          have hek := fun w => b_keyZ x9.key (keyR k) w
          rcases hkz : keyZ x9.key (keyR k) with _ | _
          · rw [hkz] at hek
            have HF : Hid ((l.take (i + 1)).filter (kq (keyR k)) = (l.take i).filter (kq (keyR k))) := Lib.hid (by
              rw [HTK.out, List.filter_append, List.filter_cons_of_neg (by unfold kq; rw [hkz]; simp)]; simp)
            clear hkz
            go_wp2
            refine wp_region_held_drew (S := fun w' => Below wr.heap.size wr w') (by kernel_rfl) ((Below.refl _ wr).drew) (fun hHeld => ?_)
            refine wpAnyH_take (i := 0) (v := .slice (some ⟨gl, 0, none⟩) nl cl) rfl (by kernel_rfl) (by kernel_rfl) (by kernel_rfl) (fun _ _ _ h => h) (Or.inl ⟨by rfl, fun _ _ => rfl⟩) hHeld ?_
            try dsimp only
            try simp only [Act.put, List.getElem_toArray, List.getElem_cons_zero, List.getElem_cons_succ, List.setIfInBounds_toArray, List.set_cons_zero, List.set_cons_succ]
            refine wpAnyH_take (i := 1) (v := .int .i64 (i : Int)) rfl (by kernel_rfl) (by kernel_rfl) (by kernel_rfl) (fun _ _ _ h => h) (Or.inl ⟨by rfl, fun _ _ => rfl⟩) hHeld ?_
            try dsimp only
            try simp only [Act.put, List.getElem_toArray, List.getElem_cons_zero, List.getElem_cons_succ, List.setIfInBounds_toArray, List.set_cons_zero, List.set_cons_succ]
            refine wpAnyH_take (i := 2) (v := .pointer (some ⟨gl, i * 5, none⟩)) rfl (by kernel_rfl) (by kernel_rfl) (by kernel_rfl) (fun _ _ _ h => h) (Or.inl ⟨by rfl, fun w _ => by go_simp⟩) hHeld ?_
            try dsimp only
            try simp only [Act.put, List.getElem_toArray, List.getElem_cons_zero, List.getElem_cons_succ, List.setIfInBounds_toArray, List.set_cons_zero, List.set_cons_succ]
            refine wpAnyH_take (i := 3) (v := .pointer (some ⟨gl, i * 5 + 3, none⟩)) rfl (by kernel_rfl) (by kernel_rfl) (by kernel_rfl) (fun _ _ _ h => h) (Or.inl ⟨by rfl, fun w _ => by go_simp⟩) hHeld ?_
            try dsimp only
            try simp only [Act.put, List.getElem_toArray, List.getElem_cons_zero, List.getElem_cons_succ, List.setIfInBounds_toArray, List.set_cons_zero, List.set_cons_succ]
            refine wpAnyH_take (i := 4) (v := .string x9.key) rfl (by kernel_rfl) (by kernel_rfl) (by kernel_rfl) (fun _ _ _ h => h) (Or.inl ⟨by rfl, fun w hw => by have hr9 : w.rangeAt gl (i * 5) [.int .u64 (x9.off : Int), .int .i64 x9.part, .int .i64 x9.time, .string x9.key, .float .f64 x9.val] := (zkeep HRE.out HGL.out hw); have hc : w.cell? ⟨gl, i * 5 + 3, none⟩ = some (.string x9.key) := hr9 3 _ rfl; go_simp⟩) hHeld ?_
            try dsimp only
            try simp only [Act.put, List.getElem_toArray, List.getElem_cons_zero, List.getElem_cons_succ, List.setIfInBounds_toArray, List.set_cons_zero, List.set_cons_succ]
            refine wpAnyH_take (i := 5) (v := .slice (some ⟨bk, 0, none⟩) 4 4) rfl (by kernel_rfl) (by kernel_rfl) (by kernel_rfl) (fun _ _ _ h => h) (Or.inl ⟨by rfl, fun _ _ => rfl⟩) hHeld ?_
            try dsimp only
            try simp only [Act.put, List.getElem_toArray, List.getElem_cons_zero, List.getElem_cons_succ, List.setIfInBounds_toArray, List.set_cons_zero, List.set_cons_succ]
            refine wpAnyH_take (i := 6) (v := .int .i64 (k : Int)) rfl (by kernel_rfl) (by kernel_rfl) (by kernel_rfl) (fun _ _ _ h => h) (Or.inl ⟨by rfl, fun _ _ => rfl⟩) hHeld ?_
            try dsimp only
            try simp only [Act.put, List.getElem_toArray, List.getElem_cons_zero, List.getElem_cons_succ, List.setIfInBounds_toArray, List.set_cons_zero, List.set_cons_succ]
            refine wpAnyH_take (i := 7) (v := .pointer (some ⟨bk, k, none⟩)) rfl (by kernel_rfl) (by kernel_rfl) (by kernel_rfl) (fun _ _ _ h => h) (Or.inl ⟨by rfl, fun w _ => by go_simp⟩) hHeld ?_
            try dsimp only
            try simp only [Act.put, List.getElem_toArray, List.getElem_cons_zero, List.getElem_cons_succ, List.setIfInBounds_toArray, List.set_cons_zero, List.set_cons_succ]
            refine wpAnyH_take (i := 8) (v := .string (keyR k)) rfl (by kernel_rfl) (by kernel_rfl) (by kernel_rfl) (fun _ _ _ h => h) (Or.inl ⟨by rfl, fun w1 hw => by have hc : w1.cell? ⟨bk, k, none⟩ = some (.string (keyR k)) := (hw.cell (p := ⟨bk, k, none⟩) HBKL.out).trans HKC.out; go_simp⟩) hHeld ?_
            try dsimp only
            try simp only [Act.put, List.getElem_toArray, List.getElem_cons_zero, List.getElem_cons_succ, List.setIfInBounds_toArray, List.set_cons_zero, List.set_cons_succ]
            refine wpAnyH_take (i := 9) (v := .bool false) rfl (by kernel_rfl) (by kernel_rfl) (by kernel_rfl) (fun _ _ _ h => h) (yb_bin rfl .eql _ _ _ _ rfl _ _ _ rfl rfl (fun _ => rfl) hek) hHeld ?_
            try dsimp only
            try simp only [Act.put, List.getElem_toArray, List.getElem_cons_zero, List.getElem_cons_succ, List.setIfInBounds_toArray, List.set_cons_zero, List.set_cons_succ]
            refine wpAnyH_done (by kernel_rfl) ?_ _
            clear hek
            go_wp2
            go_roundw
            case rel => exact ⟨i + 1, ns, cs, As, hil, by go_num, rfl, by rw [HF.out]; exact HNS.out, by rw [HF.out]; exact ownE_below HOS.out hHeld (Nat.le_refl _), bto HBI.out hHeld⟩
            case measure => simp [intOf]; omega
          · rw [hkz] at hek
            have HF : Hid ((l.take (i + 1)).filter (kq (keyR k)) = (l.take i).filter (kq (keyR k)) ++ [x9]) := Lib.hid (by
              rw [HTK.out, List.filter_append, List.filter_cons_of_pos (by unfold kq; exact hkz)]; simp)
            have ns40 : ns ≤ 40 := by
              have h1 := HNS.out
              have h2 := List.length_filter_le (kq (keyR k)) (l.take i)
              rw [List.length_take] at h2; omega
            clear hkz
            go_wp2
            refine wp_region_held_drew (S := fun w' => Below wr.heap.size wr w') (by kernel_rfl) ((Below.refl _ wr).drew) (fun hHeld => ?_)
            refine wpAnyH_take (i := 0) (v := .slice (some ⟨gl, 0, none⟩) nl cl) rfl (by kernel_rfl) (by kernel_rfl) (by kernel_rfl) (fun _ _ _ h => h) (Or.inl ⟨by rfl, fun _ _ => rfl⟩) hHeld ?_
            try dsimp only
            try simp only [Act.put, List.getElem_toArray, List.getElem_cons_zero, List.getElem_cons_succ, List.setIfInBounds_toArray, List.set_cons_zero, List.set_cons_succ]
            refine wpAnyH_take (i := 1) (v := .int .i64 (i : Int)) rfl (by kernel_rfl) (by kernel_rfl) (by kernel_rfl) (fun _ _ _ h => h) (Or.inl ⟨by rfl, fun _ _ => rfl⟩) hHeld ?_
            try dsimp only
            try simp only [Act.put, List.getElem_toArray, List.getElem_cons_zero, List.getElem_cons_succ, List.setIfInBounds_toArray, List.set_cons_zero, List.set_cons_succ]
            refine wpAnyH_take (i := 2) (v := .pointer (some ⟨gl, i * 5, none⟩)) rfl (by kernel_rfl) (by kernel_rfl) (by kernel_rfl) (fun _ _ _ h => h) (Or.inl ⟨by rfl, fun w _ => by go_simp⟩) hHeld ?_
            try dsimp only
            try simp only [Act.put, List.getElem_toArray, List.getElem_cons_zero, List.getElem_cons_succ, List.setIfInBounds_toArray, List.set_cons_zero, List.set_cons_succ]
            refine wpAnyH_take (i := 3) (v := .pointer (some ⟨gl, i * 5 + 3, none⟩)) rfl (by kernel_rfl) (by kernel_rfl) (by kernel_rfl) (fun _ _ _ h => h) (Or.inl ⟨by rfl, fun w _ => by go_simp⟩) hHeld ?_
            try dsimp only
            try simp only [Act.put, List.getElem_toArray, List.getElem_cons_zero, List.getElem_cons_succ, List.setIfInBounds_toArray, List.set_cons_zero, List.set_cons_succ]
            refine wpAnyH_take (i := 4) (v := .string x9.key) rfl (by kernel_rfl) (by kernel_rfl) (by kernel_rfl) (fun _ _ _ h => h) (Or.inl ⟨by rfl, fun w hw => by have hr9 : w.rangeAt gl (i * 5) [.int .u64 (x9.off : Int), .int .i64 x9.part, .int .i64 x9.time, .string x9.key, .float .f64 x9.val] := (zkeep HRE.out HGL.out hw); have hc : w.cell? ⟨gl, i * 5 + 3, none⟩ = some (.string x9.key) := hr9 3 _ rfl; go_simp⟩) hHeld ?_
            try dsimp only
            try simp only [Act.put, List.getElem_toArray, List.getElem_cons_zero, List.getElem_cons_succ, List.setIfInBounds_toArray, List.set_cons_zero, List.set_cons_succ]
            refine wpAnyH_take (i := 5) (v := .slice (some ⟨bk, 0, none⟩) 4 4) rfl (by kernel_rfl) (by kernel_rfl) (by kernel_rfl) (fun _ _ _ h => h) (Or.inl ⟨by rfl, fun _ _ => rfl⟩) hHeld ?_
            try dsimp only
            try simp only [Act.put, List.getElem_toArray, List.getElem_cons_zero, List.getElem_cons_succ, List.setIfInBounds_toArray, List.set_cons_zero, List.set_cons_succ]
            refine wpAnyH_take (i := 6) (v := .int .i64 (k : Int)) rfl (by kernel_rfl) (by kernel_rfl) (by kernel_rfl) (fun _ _ _ h => h) (Or.inl ⟨by rfl, fun _ _ => rfl⟩) hHeld ?_
            try dsimp only
            try simp only [Act.put, List.getElem_toArray, List.getElem_cons_zero, List.getElem_cons_succ, List.setIfInBounds_toArray, List.set_cons_zero, List.set_cons_succ]
            refine wpAnyH_take (i := 7) (v := .pointer (some ⟨bk, k, none⟩)) rfl (by kernel_rfl) (by kernel_rfl) (by kernel_rfl) (fun _ _ _ h => h) (Or.inl ⟨by rfl, fun w _ => by go_simp⟩) hHeld ?_
            try dsimp only
            try simp only [Act.put, List.getElem_toArray, List.getElem_cons_zero, List.getElem_cons_succ, List.setIfInBounds_toArray, List.set_cons_zero, List.set_cons_succ]
            refine wpAnyH_take (i := 8) (v := .string (keyR k)) rfl (by kernel_rfl) (by kernel_rfl) (by kernel_rfl) (fun _ _ _ h => h) (Or.inl ⟨by rfl, fun w1 hw => by have hc : w1.cell? ⟨bk, k, none⟩ = some (.string (keyR k)) := (hw.cell (p := ⟨bk, k, none⟩) HBKL.out).trans HKC.out; go_simp⟩) hHeld ?_
            try dsimp only
            try simp only [Act.put, List.getElem_toArray, List.getElem_cons_zero, List.getElem_cons_succ, List.setIfInBounds_toArray, List.set_cons_zero, List.set_cons_succ]
            refine wpAnyH_take (i := 9) (v := .bool true) rfl (by kernel_rfl) (by kernel_rfl) (by kernel_rfl) (fun _ _ _ h => h) (yb_bin rfl .eql _ _ _ _ rfl _ _ _ rfl rfl (fun _ => rfl) hek) hHeld ?_
            try dsimp only
            try simp only [Act.put, List.getElem_toArray, List.getElem_cons_zero, List.getElem_cons_succ, List.setIfInBounds_toArray, List.set_cons_zero, List.set_cons_succ]
            refine wpAnyH_done (by kernel_rfl) ?_ _
            clear hek
            have HBH := Lib.hid hHeld
            have HOS2 := Lib.hid (ownE_below HOS.out HBH.out (Nat.le_refl _))
            have HRE2 := Lib.hid (zkeep HRE.out HGL.out HBH.out)
            have HB8 := Lib.hid (bto HBI.out HBH.out)
            clear hHeld
            obtain ⟨w8, hw8⟩ : ∃ w8, w8 = wr.drew := ⟨_, rfl⟩
            try rw [← hw8] at HBH HOS2 HRE2 HB8 ⊢
            clear hw8
            go_wp2_with (first
              | (refine wpList_load_mid rfl 76 (.tmp 43) rfl gl (i * 5) rfl [.int .u64 (x9.off : Int), .int .i64 x9.part, .int .i64 x9.time, .string x9.key, .float .f64 x9.val] _ HRE2.out uEv rfl (by kernel_rfl) ?_)
              | (at_builtin; refine wpList_append_ev rfl _ _ rfl w6.heap.size As ns cs ((l.take i).filter (kq (keyR k))) rfl (ownE_below HOS2.out ((Below.refl _ _).alloc (Nat.le_refl _) _) (Nat.le_refl _)) (some ⟨w8.heap.size, 0, none⟩) 1 1 [x9] rfl rfl (ev_new w8 _ [x9] _ rfl _ rfl) (fun h => by cases h) (ns + 1) rfl (by omega) (by have h9 := HB8.out.size; simp; omega) ?_; intro A3 c3 w9 ho3 hc3 hm3 hn3 hb3; have HO3 := Lib.hid ho3; have HB9 := Lib.hid ((HB8.out.alloc HB8.out.size _).trans hb3); clear ho3 hc3 hm3 hn3 hb3))
            go_roundw
            case rel => exact ⟨i + 1, ns + 1, c3, A3, hil, by go_num, rfl, by rw [HF.out, List.length_append, ← HNS.out]; rfl, by rw [HF.out]; exact HO3.out, HB9.out⟩
            case measure => simp [intOf]; omega
        · have HTL : Hid (l.take i = l) := Lib.hid (List.take_of_length_le (by have := HNL.out; omega))
          rw [HTL.out] at HNS HOS
          have HES : Hid (EvSl wr As ns cs (l.filter (kq (keyR k)))) := Lib.hid (evSl_own HOS.out)
          have HPN := Lib.hid (panes13_any c HC.out As ns cs _ (fit_filter HFT.out (kq (keyR k))) wr HES)
          have HRC9 := Lib.hid (row_keep HRC6.out HBI.out)
          have HPK : Hid (pAp c l (k + 1) = pAp c l k ++ panesL c (l.filter (kq (keyR k)))) := Lib.hid rfl
          have HLN : Hid ((pAp c l (k + 1)).length ≤ 1000) := Lib.hid (by have h8 := pAp_le c l (k + 1) (by omega); rw [HPA.out] at h8; exact Nat.le_trans h8 (pz_few HC.out HFT.out))
          have HOA9 : Hid (OwnPz wr W5.heap.size A na ca (pAp c l k)) := Lib.hid (HOA.out.below HBI.out (fun g' off e => (HOA.out.lt g' off e).1))
          have HB9 : Hid (Below W5.heap.size W5 wr) := Lib.hid (HB.out.trans (HBI.out.mono HB.out.size))
          rw [HPK.out, List.length_append] at HLN
          generalize panesL c (l.filter (kq (keyR k))) = PK at *
          generalize pAp c l k = PP at *
          go_wp2_with (first
            | (refine wpList_load_row rfl 64 (.tmp 5) rfl bc rfl _ #[.int .u8 (c.kind : Int), .int .i64 c.size, .int .i64 c.step, .int .i64 c.late, .int .i64 c.skew, .int .i64 c.parts, .int .u64 (c.cut : Int)] (0, 0) _ HRC9.out uCf rfl (by kernel_rfl) ?_)
            | (go_at_call 41; (with_reducible refine HPN.out.mono ?_); rintro e w10 ⟨A1, n1, c1, rfl, hn1, -, -, hnil1, ho1, hb1⟩; have HN1 := Lib.hid hn1; have HO1 := Lib.hid ho1; have HNIL := Lib.hid hnil1; have HB10 := Lib.hid hb1; clear hn1 ho1 hnil1 hb1)
            | (at_builtin; refine wpList_append_pz rfl _ _ rfl W5.heap.size A na ca PP rfl (HOA9.out.below HB10.out (fun g' off e => (HOA9.out.lt g' off e).1)) A1 n1 c1 PK rfl HN1.out HO1.out.at' HNIL.out (na + n1) rfl (by have := HLN.out; have := HNA.out; have := HN1.out; omega) (by have h9 := HB9.out.size; have h8 := HB10.out.size; omega) ?_; intro A3 c3 w11 ho3 hc3 hm3 hn3 hb3 hg3 ha3; have HO3 := Lib.hid ho3; have HB11 := Lib.hid ((HB9.out.trans (HB10.out.mono HB9.out.size)).trans hb3); clear ho3 hc3 hm3 hn3 hb3 hg3 ha3))
          go_roundw
          case rel => exact ⟨k + 1, na + n1, c3, A3, hlt, by go_num, rfl, by rw [HPK.out, List.length_append, ← HNA.out, ← HN1.out], by rw [HPK.out]; exact HO3.out, HB11.out⟩
          case measure => simp [intOf]; omega
    · obtain rfl : k = 4 := by omega
      rw [HPA.out] at HNA HOA
      have HPN := Lib.hid (panes13_any c HC.out Al nl cl l HFT.out wr (Lib.hid ((evSl_own HOL5.out).keep HB.out)))
      have HRC9 := Lib.hid (row_keep HRC5.out HB.out)
      have HSA : Hid (∀ (A1 A2 : Option Addr) (n1 c1 c2 B1 B2 : Nat) (w : World), n1 ≤ 1000 → OwnPz w B1 A1 n1 c1 (panesL c l) → OwnPz w B2 A2 n1 c2 (panesL c l) → Calls Try.prog 40 #[.slice A1 n1 c1, .slice A2 n1 c2] w fun e w' => e = .returned (.bool true) ∧ Below w.heap.size w w') := Lib.hid fun A1 A2 n1 c1 c2 B1 B2 w hl h1 h2 => rsameZ A1 A2 n1 c1 c2 B1 B2 (panesL c l) (panesL c l) hl (pz_ok HC.out HFT.out) (pz_ok HC.out HFT.out) (Alk.refl _) w (Lib.hid h1) (Lib.hid h2)
      have HFEW := Lib.hid (pz_few HC.out HFT.out)
      generalize panesL c l = PL at *
      go_wp2_with (first
        | (refine wpList_load_row rfl 64 (.tmp 5) rfl bc rfl _ #[.int .u8 (c.kind : Int), .int .i64 c.size, .int .i64 c.step, .int .i64 c.late, .int .i64 c.skew, .int .i64 c.parts, .int .u64 (c.cut : Int)] (0, 0) _ HRC9.out uCf rfl (by kernel_rfl) ?_)
        | (go_at_call 41; (with_reducible refine HPN.out.mono ?_); rintro e w10 ⟨A1, n1, c1, rfl, hn1, -, -, -, ho1, hb1⟩; have HB10 := Lib.hid hb1; have HO1 := Lib.hid ho1; have h12 : n1 = na := hn1.trans HNA.out.symm; subst h12; have HOA9 := Lib.hid (HOA.out.below HB10.out (fun g' off e => (HOA.out.lt g' off e).1)); clear hn1 ho1 hb1)
        | (go_at_call 40; refine (HSA.out _ _ _ _ _ _ _ _ (by rw [HNA.out]; exact HFEW.out) HO1.out HOA9.out).mono ?_; rintro e w11 ⟨rfl, hb2⟩; have HB11 := Lib.hid (bto (bto (HB5.out.trans (HB.out.mono HB5.out.size)) HB10.out) hb2); clear hb2))
      go_ret
      exact ⟨rfl, HB11.out⟩
end Go.Proofs.Ytckfndnaaljmhaa
