/-
  Layer whole: WholeMoves.
-/
import Derived.Test.YtckfndnaaljmhaaZtR
import Derived.Test.YtckfndnaaljmhaaZymR
import Derived.Deep.DeepCutAuto
import Derived.Deep.CutBlock
set_option linter.unusedSimpArgs false
set_option linter.unusedVariables false
set_option maxRecDepth 8000
namespace Go.Proofs.Ytckfndnaaljmhaa
open Go.RowKit Go.Sort Sm

set_option maxHeartbeats 8000000 in
theorem moves_any (x : Cn) (hx : x.Ok) (a : Option Addr) (n cp : Nat) (ps : List Pt) (hn : n = ps.length) (hp : ∀ p ∈ ps, p.Ok) (b : Int) (hb8 : -128 ≤ b ∧ b ≤ 127) (W : World) (HA : Hid (PtAt W a ps)) :
    Calls Try.prog 11 #[x.v, .slice a n cp, .int .i8 b] W fun e w' => e = .returned (.bool true) ∧ Below W.heap.size W w' := by
  have HN := Lib.hid hn
  have HP := Lib.hid hp
  have HB8 := Lib.hid hb8
  clear hn hp hb8
  have HAWK := Lib.hid awake13_any
  have HCF := Lib.hid (config_cn x hx)
  have HWX : Hid (Below W.heap.size W (W.alloc (.cells #[.int .u8 x.a, .int .u8 x.b, .int .u8 x.c, .int .u8 x.d, .int .u8 x.e, .int .u8 x.f, .int .u8 x.g] 60))) := Lib.hid ((Below.refl _ _).alloc (Nat.le_refl _) _)
  have HRX : Hid ((W.alloc (.cells #[.int .u8 x.a, .int .u8 x.b, .int .u8 x.c, .int .u8 x.d, .int .u8 x.e, .int .u8 x.f, .int .u8 x.g] 60)).heap[W.heap.size]? = some (.cells #[.int .u8 x.a, .int .u8 x.b, .int .u8 x.c, .int .u8 x.d, .int .u8 x.e, .int .u8 x.f, .int .u8 x.g] 60 (0, 0))) := Lib.hid (heap_new W _)
  clear hx
  go_enter Try.func11, Try.ntmps11
  go_upto_region 4 with (first
    | (go_at_call 37; (with_reducible refine (HAWK.out _).mono ?_); rintro e w1 ⟨rfl, hb1⟩; have HB1 := Lib.hid (HWX.out.trans (hb1.mono HWX.out.size)); have HR1 := Lib.hid (row_keep HRX.out hb1); clear hb1)
    | (refine wpList_load_row rfl 60 (.tmp 3) rfl W.heap.size rfl _ #[.int .u8 x.a, .int .u8 x.b, .int .u8 x.c, .int .u8 x.d, .int .u8 x.e, .int .u8 x.f, .int .u8 x.g] (0, 0) _ HR1.out uCn rfl (by kernel_rfl) ?_)
    | (go_at_call 38; (with_reducible refine (HCF.out _).mono ?_); rintro e w2 ⟨c, hc, hc30, hc3, rfl, hb2⟩; have HC := Lib.hid hc; have HC30 := Lib.hid (And.intro hc30 hc3); have HB2 := Lib.hid (bto HB1.out hb2); clear hc hc30 hc3 hb2))
  have HLG : Hid (∀ w, Below W.heap.size W w → Calls Try.prog 39 #[c.v, .slice a n cp, .int .i64 40] w (LgEnds w (lgL c ps (min n 40)))) := Lib.hid fun w hb => log_any c HC.out a n cp ps HP.out 40 HN.out (by omega) w (Lib.hid (HA.out.keep hb))
  have HFT : Hid (EvFit (lgL c ps (min n 40))) := Lib.hid (lgL_fit c ps HP.out _ (by have := HN.out; omega) (by omega))
  have HLL : Hid ((lgL c ps (min n 40)).length ≤ 40) := Lib.hid (by rw [lgL_len]; omega)
  have HAN : Hid (AntiE (lgL c ps (min n 40))) := Lib.hid (anti_log _ _ _)
  have HTM : Hid (∀ x ∈ lgL c ps (min n 40), -1000 ≤ x.time ∧ x.time ≤ 1000) := Lib.hid (log_times c ps HP.out _ (by have := HN.out; omega))
  generalize lgL c ps (min n 40) = l at *
  obtain ⟨w3, hw3⟩ : ∃ w3, w3 = w2.alloc (.cells #[.int .u8 (c.kind : Int), .int .i64 c.size, .int .i64 c.step, .int .i64 c.late, .int .i64 c.skew, .int .i64 c.parts, .int .u64 (c.cut : Int)] 64) := ⟨_, rfl⟩
  rw [← hw3]
  have HB3 : Hid (Below W.heap.size W w3) := Lib.hid (by rw [hw3]; exact HB2.out.alloc HB2.out.size _)
  obtain ⟨bc, hbc⟩ : ∃ bc, bc = w2.heap.size := ⟨_, rfl⟩
  have HRC : Hid (w3.heap[bc]? = some (.cells #[.int .u8 (c.kind : Int), .int .i64 c.size, .int .i64 c.step, .int .i64 c.late, .int .i64 c.skew, .int .i64 c.parts, .int .u64 (c.cut : Int)] 64 (0, 0))) := Lib.hid (by rw [hw3, hbc]; exact heap_new w2 _)
  rw [← hbc]
  clear hw3 hbc
  have hc0 : w3.cell? ⟨bc, 0, none⟩ = some (.int .u8 (c.kind : Int)) := by rw [cell_of_row _ _ _ _ _ _ HRC.out]; rfl
  have hc1 : w3.cell? ⟨bc, 1, none⟩ = some (.int .i64 c.size) := by rw [cell_of_row _ _ _ _ _ _ HRC.out]; rfl
  have hc2 : w3.cell? ⟨bc, 2, none⟩ = some (.int .i64 c.step) := by rw [cell_of_row _ _ _ _ _ _ HRC.out]; rfl
  go_upto_block 0 with fail
  go_cut [8] (fun s8 wx => s8 = .int .i64 c.by' ∧ wx = w3)
  case first =>
    by_cases hk1 : c.kind = 1
    · have hkI : (c.kind : Int) = 1 := by omega
      have HBY : Hid (c.by' = c.step) := Lib.hid (by unfold Cf.by'; rw [if_pos hk1])
      clear hk1
      go_wp2_with fail
      go_meet
      case rel => exact ⟨by rw [HBY.out], rfl⟩
    · by_cases hk2 : c.kind = 2
      · have hkI : (c.kind : Int) = 2 := by omega
        have HBY : Hid (c.by' = 1) := Lib.hid (by unfold Cf.by'; rw [if_neg hk1, if_pos hk2])
        clear hk1 hk2
        go_wp2_with fail
        go_meet
        case rel => exact ⟨by rw [HBY.out], rfl⟩
      · have hkI : ¬ (c.kind : Int) = 1 := by omega
        have hkJ : ¬ (c.kind : Int) = 2 := by omega
        have HBY : Hid (c.by' = c.size) := Lib.hid (by unfold Cf.by'; rw [if_neg hk1, if_neg hk2])
        clear hk1 hk2
        go_wp2_with fail
        go_meet
        case rel => exact ⟨by rw [HBY.out], rfl⟩
  case rest =>
  obtain ⟨rfl, hww⟩ := hcut
  replace hww := hww.symm
  subst hww
  clear hc0 hc1 hc2
  have HMV : Hid (Mov c (b * c.by')) := Lib.hid (mov_by b)
  have HRG : Hid (-10000 ≤ b * c.by' ∧ b * c.by' ≤ 10000) := Lib.hid (mul_range HB8.out (by_range HC.out HC30.out.1))
  obtain ⟨s, hs⟩ : ∃ s, s = c.by' := ⟨_, rfl⟩
  rw [← hs] at HMV HRG ⊢
  clear hs
  obtain ⟨d, hd⟩ : ∃ d, d = b * s := ⟨_, rfl⟩
  rw [← hd] at HMV HRG
  have HCV : Hid (IntKind.i64.wrap b = b) := Lib.hid (IntWalk.i64_in _ (by have := HB8.out; omega))
  have HML : Hid (IntKind.i64.wrap (b * s) = d) := Lib.hid (by rw [← hd]; exact IntWalk.i64_in _ (by have := HRG.out; omega))
  clear hd
  go_upto_region 11 with (first
    | (refine wpList_load_row rfl 64 (.tmp 7) rfl bc rfl _ #[.int .u8 (c.kind : Int), .int .i64 c.size, .int .i64 c.step, .int .i64 c.late, .int .i64 c.skew, .int .i64 c.parts, .int .u64 (c.cut : Int)] (0, 0) _ HRC.out uCf rfl (by kernel_rfl) ?_)
    | (go_at_call 39; (with_reducible refine (HLG.out _ HB3.out).mono ?_); rintro e w4 ⟨Al, nl, cl, rfl, hnl, hol, hb4⟩; have HNL := Lib.hid hnl; have HOL := Lib.hid hol; have HB4 := Lib.hid (bto HB3.out hb4); have HRC4 := Lib.hid (row_keep HRC.out hb4); clear hnl hol hb4))
  have nl40 : nl ≤ 40 := by have := HNL.out; have := HLL.out; omega
  clear HLG HRC HB3
  obtain ⟨W4, rfl⟩ : ∃ W4, W4 = w4 := ⟨_, rfl⟩
  go_wp2
  go_loopw [10, 11] (fun q i wr => ∃ (k cs : Nat) (As : Option Addr), k ≤ nl ∧ i = .int .i64 k ∧ q = .slice As k cs ∧ OwnE wr W4.heap.size As k cs ((l.take k).map (shE d)) ∧ Below W4.heap.size W4 wr) (fun _ i _ => nl - (intOf i).toNat)
  case atStart => exact ⟨0, 0, none, Nat.zero_le _, rfl, rfl, World.ownsRow_nil _ _ _ 5, Below.refl _ _⟩
  case round =>
    obtain ⟨k, cs, As, hk, rfl, rfl, hos, hb⟩ := hrel
    have HOS := Lib.hid hos; have HB := Lib.hid hb
    clear hos hb
    by_cases hlt : k < nl
    · obtain ⟨x9, hx9⟩ : ∃ x9, l[k]? = some x9 := ⟨l[k]'(by have := HNL.out; omega), List.getElem?_eq_getElem _⟩
      obtain ⟨gl, hAl, hgl, hre⟩ := evsl_range HOL.out k x9 hx9
      subst hAl
      have HRE : Hid (wr.rangeAt gl (k * 5) x9.cells) := Lib.hid (zkeep hre hgl HB.out)
      have HTK : Hid ((l.take (k + 1)).map (shE d) = (l.take k).map (shE d) ++ [shE d x9]) := Lib.hid (by
        have h2 := List.getElem?_eq_some_iff.1 hx9
        rw [List.take_succ_eq_append_getElem h2.1, h2.2, List.map_append]; rfl)
      have HAD : Hid (IntKind.i64.wrap (x9.time + d) = x9.time + d) := Lib.hid (IntWalk.i64_in _ (by have h1 := HTM.out x9 (List.mem_of_getElem? hx9); have h2 := HRG.out; omega))
      have hlt1 : (k : Int) < (nl : Int) := by omega
      clear hx9 hgl hre
      have h7 := HCV.out
      have h8 := HML.out
      have h9 := HAD.out
      go_upto_region 17 with (first
        | (refine wpList_load_mid rfl 76 (.tmp 42) rfl gl (k * 5) rfl [.int .u64 (x9.off : Int), .int .i64 x9.part, .int .i64 x9.time, .string x9.key, .float .f64 x9.val] _ HRE.out uEv rfl (by kernel_rfl) ?_)
        | (refine wpList_store_row rfl 76 (.tmp 12) (.tmp 43) rfl _ #[.int .u64 (x9.off : Int), .int .i64 x9.part, .int .i64 x9.time, .string x9.key, .float .f64 x9.val] rfl rfl _ _ (heap_alloc_new _ _) (by kernel_rfl) rfl (by simp [Value.oneCell']) ?_; rw [World.setRow_alloc_new]))
      clear h7 h8 h9
      obtain ⟨w8, hw8⟩ : ∃ w8, w8 = wr.alloc (.cells #[.int .u64 (x9.off : Int), .int .i64 x9.part, .int .i64 (x9.time + d), .string x9.key, .float .f64 x9.val] 76) := ⟨_, rfl⟩
      rw [← hw8]
      have HB8w : Hid (Below wr.heap.size wr w8) := Lib.hid (by rw [hw8]; exact (Below.refl _ _).alloc (Nat.le_refl _) _)
      have HRX : Hid (w8.heap[wr.heap.size]? = some (.cells #[.int .u64 (x9.off : Int), .int .i64 x9.part, .int .i64 (x9.time + d), .string x9.key, .float .f64 x9.val] 76 (0, 0))) := Lib.hid (by rw [hw8]; exact heap_new wr _)
      obtain ⟨be, hbe⟩ : ∃ be, be = wr.heap.size := ⟨_, rfl⟩
      have HOS8 : Hid (OwnE w8 W4.heap.size As k cs ((l.take k).map (shE d))) := Lib.hid (ownE_below HOS.out HB8w.out (Nat.le_refl _))
      have HB48 : Hid (Below W4.heap.size W4 w8) := Lib.hid (bto HB.out HB8w.out)
      rw [← hbe] at HRX ⊢
      clear hw8 hbe HB8w
      go_wp2_with (first
        | (refine wpList_load_row rfl 76 (.tmp 12) rfl be rfl _ #[.int .u64 (x9.off : Int), .int .i64 x9.part, .int .i64 (x9.time + d), .string x9.key, .float .f64 x9.val] (0, 0) _ HRX.out uEv rfl (by kernel_rfl) ?_)
        | (at_builtin; refine wpList_append_ev rfl _ _ rfl W4.heap.size As k cs ((l.take k).map (shE d)) rfl (ownE_below HOS8.out ((Below.refl _ _).alloc (Nat.le_refl _) _) (Nat.le_refl _)) (some ⟨w8.heap.size, 0, none⟩) 1 1 [shE d x9] rfl rfl (ev_new w8 _ [shE d x9] _ rfl _ rfl) (fun h => by cases h) (k + 1) rfl (by omega) (by have h9 := HB48.out.size; simp; omega) ?_; intro A3 c3 w9 ho3 hc3 hm3 hn3 hb3; have HO3 := Lib.hid ho3; have HB9 := Lib.hid ((HB48.out.alloc HB48.out.size _).trans hb3); clear ho3 hc3 hm3 hn3 hb3))
      go_roundw
      case rel => exact ⟨k + 1, c3, A3, hlt, by go_num, rfl, by rw [HTK.out]; exact HO3.out, HB9.out⟩
      case measure => simp [intOf]; omega
    · obtain rfl : k = nl := by omega
      have HTL : Hid (l.take k = l) := Lib.hid (List.take_of_length_le (by have := HNL.out; omega))
      rw [HTL.out] at HOS
      have HRC9 := Lib.hid (row_keep HRC4.out HB.out)
      have HBR : Hid (Below W.heap.size W wr) := Lib.hid (HB4.out.trans (HB.out.mono HB4.out.size))
      have HE1 : Hid (EvSl wr Al k cl l) := Lib.hid ((evSl_own HOL.out).keep HB.out)
      have HE2 : Hid (EvSl wr As k cs (l.map (shE d))) := Lib.hid (evSl_own HOS.out)
      have HP1 := Lib.hid (panes13_any c HC.out Al k cl l HFT.out wr HE1)
      have HP2 := Lib.hid fun w (hb : Below wr.heap.size wr w) => panes13_any c HC.out As k cs (l.map (shE d)) (fit_sh HFT.out HTM.out d HRG.out) w (Lib.hid (HE2.out.keep hb))
      have HSH := Lib.hid (panes_sh HMV.out HAN.out)
      have HPK := Lib.hid (pz_ok HC.out HFT.out)
      have HFEW := Lib.hid (pz_few HC.out HFT.out)
      have HPW := Lib.hid (pz_places HC.out HFT.out)
      rw [HSH.out] at HP2
      clear HSH
      generalize panesL c l = PL at *
      go_upto_region 20 with (first
        | (refine wpList_load_row rfl 64 (.tmp 7) rfl bc rfl _ #[.int .u8 (c.kind : Int), .int .i64 c.size, .int .i64 c.step, .int .i64 c.late, .int .i64 c.skew, .int .i64 c.parts, .int .u64 (c.cut : Int)] (0, 0) _ HRC9.out uCf rfl (by kernel_rfl) ?_)
        | (refine wpList_load_row rfl 64 (.tmp 7) rfl bc rfl _ #[.int .u8 (c.kind : Int), .int .i64 c.size, .int .i64 c.step, .int .i64 c.late, .int .i64 c.skew, .int .i64 c.parts, .int .u64 (c.cut : Int)] (0, 0) _ HRC10.out uCf rfl (by kernel_rfl) ?_)
        | (go_at_call 41; (with_reducible refine HP1.out.mono ?_); rintro e w10 ⟨A1, n1, c1, rfl, hn1, -, -, -, ho1, hb1⟩; have HB10 := Lib.hid hb1; have HO1 := Lib.hid ho1; have HN1 := Lib.hid hn1; have HRC10 := Lib.hid (row_keep HRC9.out hb1); clear hn1 ho1 hb1)
        | (go_at_call 41; (with_reducible refine (HP2.out _ HB10.out).mono ?_); rintro e w11 ⟨A2, n2, c2, rfl, hn2, -, -, -, ho2, hb2⟩; have h12 : n2 = n1 := hn2.trans ((List.length_map _).trans HN1.out.symm); subst h12; have HB11 := Lib.hid (bto (bto HBR.out HB10.out) hb2); have HO1b := Lib.hid (HO1.out.below hb2 (fun g' off e => (HO1.out.lt g' off e).1)); have HO2 := Lib.hid ho2; clear hn2 ho2 hb2))
      have n1000 : n2 ≤ 1000 := by have := HN1.out; have := HFEW.out; omega
      obtain ⟨n1, rfl⟩ : ∃ n1, n1 = n2 := ⟨_, rfl⟩
      clear HP1 HP2 HE1 HE2 HOS HRC9 HRC10
      obtain ⟨W5, rfl⟩ : ∃ W5, W5 = w11 := ⟨_, rfl⟩
      go_wp2
      go_loopw [15] (fun i wr => ∃ k : Nat, k ≤ n1 ∧ i = .int .i64 k ∧ Below W5.heap.size W5 wr) (fun i _ => n1 - (intOf i).toNat)
      case atStart => exact ⟨0, Nat.zero_le _, rfl, Below.refl _ _⟩
      case round =>
       obtain ⟨k, hkn, rfl, hb⟩ := hrel
       have HB := Lib.hid hb
       clear hb
       by_cases hin : k < n1
       · obtain ⟨y, hy⟩ : ∃ y, PL[k]? = some y := ⟨PL[k]'(by have := HN1.out; omega), List.getElem?_eq_getElem _⟩
         have hz : (PL.map (shZ d))[k]? = some (shZ d y) := by rw [List.getElem?_map, hy]; rfl
         obtain ⟨gp, ea, hg, hr0⟩ := pz_range HO1b.out k y hy
         obtain ⟨gq, eb, hg2, hr2⟩ := pz_range HO2.out k _ hz
         subst ea; subst eb
         have HX : Hid (wr.rangeAt gp (k * 8) y.cells) := Lib.hid (zkeep hr0 hg HB.out)
         have HY : Hid (wr.rangeAt gq (k * 8) [.string y.p.key, .int .i64 (y.p.s + d), .int .i64 (y.p.e + d), .int .u64 (y.t.c : Int), .float .f64 y.t.s, .bool y.t.o, .float .f64 y.t.lo, .float .f64 y.t.hi]) := Lib.hid (zkeep hr2 hg2 HB.out)
         have HG : Hid (gp < wr.heap.size) := Lib.hid (Nat.lt_of_lt_of_le hg HB.out.size)
         have HGQ : Hid (gq < wr.heap.size) := Lib.hid (Nat.lt_of_lt_of_le hg2 HB.out.size)
         have hyok := HPK.out y (List.mem_of_getElem? hy)
         have hyr := HPW.out y (List.mem_of_getElem? hy)
         unfold Near at hyr
         have HA1 : Hid (IntKind.i64.wrap (y.p.s + d) = y.p.s + d) := Lib.hid (IntWalk.i64_in _ (by have h2 := HRG.out; omega))
         have HA2 : Hid (IntKind.i64.wrap (y.p.e + d) = y.p.e + d) := Lib.hid (IntWalk.i64_in _ (by have h2 := HRG.out; omega))
         have HCS : Hid (∀ w, Calls Try.prog 51 #[.agg #[.int .u64 (y.t.c : Int), .float .f64 y.t.s, .bool y.t.o, .float .f64 y.t.lo, .float .f64 y.t.hi], .agg #[.int .u64 (y.t.c : Int), .float .f64 y.t.s, .bool y.t.o, .float .f64 y.t.lo, .float .f64 y.t.hi]] w fun e w' => e = .returned (.bool true) ∧ Below w.heap.size w w') := Lib.hid (fun w => by
           have h := refAggSame_any y.t y.t hyok hyok w
           rw [telB_self] at h; exact h)
         clear hr0 hr2 hg hg2 hy hz hyok hyr
         have hkI : (k : Int) < (n1 : Int) := by omega
         have hwq : ∀ w, (binOp .neq 84 (.agg #[.int .i64 (y.p.s + d), .int .i64 (y.p.e + d)]) (.agg #[.int .i64 (y.p.s + d), .int .i64 (y.p.e + d)])).run Try.prog w = .ok (.bool false) w := fun w => by
           rw [winNeqZ_run]; unfold winZ; simp
         go_upto_region 25 with fail
         refine wp_region_held_drew (S := fun w => Below wr.heap.size wr w) (by kernel_rfl) ((Below.refl _ wr).drew) (fun hHeld => ?_)
         refine wpAnyH_take (i := 0) (v := .slice (some ⟨gp, 0, none⟩) n1 c1) rfl (by kernel_rfl) (by kernel_rfl) (by kernel_rfl) (fun _ _ _ h => h) (Or.inl ⟨by rfl, fun _ _ => rfl⟩) hHeld ?_
         try dsimp only
         try simp only [Act.put, List.getElem_toArray, List.getElem_cons_zero, List.getElem_cons_succ, List.setIfInBounds_toArray, List.set_cons_zero, List.set_cons_succ]
         refine wpAnyH_take (i := 1) (v := .int .i64 (k : Int)) rfl (by kernel_rfl) (by kernel_rfl) (by kernel_rfl) (fun _ _ _ h => h) (Or.inl ⟨by rfl, fun _ _ => rfl⟩) hHeld ?_
         try dsimp only
         try simp only [Act.put, List.getElem_toArray, List.getElem_cons_zero, List.getElem_cons_succ, List.setIfInBounds_toArray, List.set_cons_zero, List.set_cons_succ]
         refine wpAnyH_take (i := 2) (v := .pointer (some ⟨gp, k * 8, none⟩)) rfl (by kernel_rfl) (by kernel_rfl) (by kernel_rfl) (fun _ _ _ h => h) (Or.inl ⟨by rfl, fun w _ => by go_simp⟩) hHeld ?_
         try dsimp only
         try simp only [Act.put, List.getElem_toArray, List.getElem_cons_zero, List.getElem_cons_succ, List.setIfInBounds_toArray, List.set_cons_zero, List.set_cons_succ]
         refine wpAnyH_take (i := 3) (v := .pointer (some ⟨gp, k * 8 + 1, none⟩)) rfl (by kernel_rfl) (by kernel_rfl) (by kernel_rfl) (fun _ _ _ h => h) (Or.inl ⟨by rfl, fun w _ => by go_simp⟩) hHeld ?_
         try dsimp only
         try simp only [Act.put, List.getElem_toArray, List.getElem_cons_zero, List.getElem_cons_succ, List.setIfInBounds_toArray, List.set_cons_zero, List.set_cons_succ]
         refine wpAnyH_take (i := 4) (v := .pointer (some ⟨gp, k * 8 + 1, none⟩)) rfl (by kernel_rfl) (by kernel_rfl) (by kernel_rfl) (fun _ _ _ h => h) (Or.inl ⟨by rfl, fun w _ => by go_simp⟩) hHeld ?_
         try dsimp only
         try simp only [Act.put, List.getElem_toArray, List.getElem_cons_zero, List.getElem_cons_succ, List.setIfInBounds_toArray, List.set_cons_zero, List.set_cons_succ]
         refine wpAnyH_take (i := 5) (v := .int .i64 y.p.s) rfl (by kernel_rfl) (by kernel_rfl) (by kernel_rfl) (fun _ _ _ h => h) (Or.inl ⟨by rfl, fun w hw => by have hr9 : w.rangeAt gp (k * 8) [.string y.p.key, .int .i64 y.p.s, .int .i64 y.p.e, .int .u64 (y.t.c : Int), .float .f64 y.t.s, .bool y.t.o, .float .f64 y.t.lo, .float .f64 y.t.hi] := (zkeep HX.out HG.out hw); have hc : w.cell? ⟨gp, k * 8 + 1, none⟩ = some (.int .i64 y.p.s) := hr9 1 _ rfl; go_simp⟩) hHeld ?_
         try dsimp only
         try simp only [Act.put, List.getElem_toArray, List.getElem_cons_zero, List.getElem_cons_succ, List.setIfInBounds_toArray, List.set_cons_zero, List.set_cons_succ]
         refine wpAnyH_take (i := 6) (v := .int .i8 b) rfl (by kernel_rfl) (by kernel_rfl) (by kernel_rfl) (fun _ _ _ h => h) (Or.inl ⟨by rfl, fun _ _ => rfl⟩) hHeld ?_
         try dsimp only
         try simp only [Act.put, List.getElem_toArray, List.getElem_cons_zero, List.getElem_cons_succ, List.setIfInBounds_toArray, List.set_cons_zero, List.set_cons_succ]
         refine wpAnyH_take (i := 7) (v := .int .i64 b) rfl (by kernel_rfl) (by kernel_rfl) (by kernel_rfl) (fun _ _ _ h => h) (Or.inl ⟨by rfl, fun w _ => by have h9 := HCV.out; go_simp⟩) hHeld ?_
         try dsimp only
         try simp only [Act.put, List.getElem_toArray, List.getElem_cons_zero, List.getElem_cons_succ, List.setIfInBounds_toArray, List.set_cons_zero, List.set_cons_succ]
         refine wpAnyH_take (i := 8) (v := .int .i64 s) rfl (by kernel_rfl) (by kernel_rfl) (by kernel_rfl) (fun _ _ _ h => h) (Or.inl ⟨by rfl, fun _ _ => rfl⟩) hHeld ?_
         try dsimp only
         try simp only [Act.put, List.getElem_toArray, List.getElem_cons_zero, List.getElem_cons_succ, List.setIfInBounds_toArray, List.set_cons_zero, List.set_cons_succ]
         refine wpAnyH_take (i := 9) (v := .int .i64 d) rfl (by kernel_rfl) (by kernel_rfl) (by kernel_rfl) (fun _ _ _ h => h) (Or.inl ⟨by rfl, fun w _ => by have h9 := HML.out; go_simp⟩) hHeld ?_
         try dsimp only
         try simp only [Act.put, List.getElem_toArray, List.getElem_cons_zero, List.getElem_cons_succ, List.setIfInBounds_toArray, List.set_cons_zero, List.set_cons_succ]
         refine wpAnyH_take (i := 10) (v := .int .i64 (y.p.s + d)) rfl (by kernel_rfl) (by kernel_rfl) (by kernel_rfl) (fun _ _ _ h => h) (Or.inl ⟨by rfl, fun w _ => by have h9 := HA1.out; go_simp⟩) hHeld ?_
         try dsimp only
         try simp only [Act.put, List.getElem_toArray, List.getElem_cons_zero, List.getElem_cons_succ, List.setIfInBounds_toArray, List.set_cons_zero, List.set_cons_succ]
         refine wpAnyH_take (i := 11) (v := .slice (some ⟨gp, 0, none⟩) n1 c1) rfl (by kernel_rfl) (by kernel_rfl) (by kernel_rfl) (fun _ _ _ h => h) (Or.inl ⟨by rfl, fun _ _ => rfl⟩) hHeld ?_
         try dsimp only
         try simp only [Act.put, List.getElem_toArray, List.getElem_cons_zero, List.getElem_cons_succ, List.setIfInBounds_toArray, List.set_cons_zero, List.set_cons_succ]
         refine wpAnyH_take (i := 12) (v := .int .i64 (k : Int)) rfl (by kernel_rfl) (by kernel_rfl) (by kernel_rfl) (fun _ _ _ h => h) (Or.inl ⟨by rfl, fun _ _ => rfl⟩) hHeld ?_
         try dsimp only
         try simp only [Act.put, List.getElem_toArray, List.getElem_cons_zero, List.getElem_cons_succ, List.setIfInBounds_toArray, List.set_cons_zero, List.set_cons_succ]
         refine wpAnyH_take (i := 13) (v := .pointer (some ⟨gp, k * 8, none⟩)) rfl (by kernel_rfl) (by kernel_rfl) (by kernel_rfl) (fun _ _ _ h => h) (Or.inl ⟨by rfl, fun w _ => by go_simp⟩) hHeld ?_
         try dsimp only
         try simp only [Act.put, List.getElem_toArray, List.getElem_cons_zero, List.getElem_cons_succ, List.setIfInBounds_toArray, List.set_cons_zero, List.set_cons_succ]
         refine wpAnyH_take (i := 14) (v := .pointer (some ⟨gp, k * 8 + 1, none⟩)) rfl (by kernel_rfl) (by kernel_rfl) (by kernel_rfl) (fun _ _ _ h => h) (Or.inl ⟨by rfl, fun w _ => by go_simp⟩) hHeld ?_
         try dsimp only
         try simp only [Act.put, List.getElem_toArray, List.getElem_cons_zero, List.getElem_cons_succ, List.setIfInBounds_toArray, List.set_cons_zero, List.set_cons_succ]
         refine wpAnyH_take (i := 15) (v := .pointer (some ⟨gp, k * 8 + 2, none⟩)) rfl (by kernel_rfl) (by kernel_rfl) (by kernel_rfl) (fun _ _ _ h => h) (Or.inl ⟨by rfl, fun w _ => by go_simp⟩) hHeld ?_
         try dsimp only
         try simp only [Act.put, List.getElem_toArray, List.getElem_cons_zero, List.getElem_cons_succ, List.setIfInBounds_toArray, List.set_cons_zero, List.set_cons_succ]
         refine wpAnyH_take (i := 16) (v := .int .i64 y.p.e) rfl (by kernel_rfl) (by kernel_rfl) (by kernel_rfl) (fun _ _ _ h => h) (Or.inl ⟨by rfl, fun w hw => by have hr9 : w.rangeAt gp (k * 8) [.string y.p.key, .int .i64 y.p.s, .int .i64 y.p.e, .int .u64 (y.t.c : Int), .float .f64 y.t.s, .bool y.t.o, .float .f64 y.t.lo, .float .f64 y.t.hi] := (zkeep HX.out HG.out hw); have hc : w.cell? ⟨gp, k * 8 + 2, none⟩ = some (.int .i64 y.p.e) := hr9 2 _ rfl; go_simp⟩) hHeld ?_
         try dsimp only
         try simp only [Act.put, List.getElem_toArray, List.getElem_cons_zero, List.getElem_cons_succ, List.setIfInBounds_toArray, List.set_cons_zero, List.set_cons_succ]
         refine wpAnyH_take (i := 17) (v := .int .i8 b) rfl (by kernel_rfl) (by kernel_rfl) (by kernel_rfl) (fun _ _ _ h => h) (Or.inl ⟨by rfl, fun _ _ => rfl⟩) hHeld ?_
         try dsimp only
         try simp only [Act.put, List.getElem_toArray, List.getElem_cons_zero, List.getElem_cons_succ, List.setIfInBounds_toArray, List.set_cons_zero, List.set_cons_succ]
         refine wpAnyH_take (i := 18) (v := .int .i64 b) rfl (by kernel_rfl) (by kernel_rfl) (by kernel_rfl) (fun _ _ _ h => h) (Or.inl ⟨by rfl, fun w _ => by have h9 := HCV.out; go_simp⟩) hHeld ?_
         try dsimp only
         try simp only [Act.put, List.getElem_toArray, List.getElem_cons_zero, List.getElem_cons_succ, List.setIfInBounds_toArray, List.set_cons_zero, List.set_cons_succ]
         refine wpAnyH_take (i := 19) (v := .int .i64 s) rfl (by kernel_rfl) (by kernel_rfl) (by kernel_rfl) (fun _ _ _ h => h) (Or.inl ⟨by rfl, fun _ _ => rfl⟩) hHeld ?_
         try dsimp only
         try simp only [Act.put, List.getElem_toArray, List.getElem_cons_zero, List.getElem_cons_succ, List.setIfInBounds_toArray, List.set_cons_zero, List.set_cons_succ]
         refine wpAnyH_take (i := 20) (v := .int .i64 d) rfl (by kernel_rfl) (by kernel_rfl) (by kernel_rfl) (fun _ _ _ h => h) (Or.inl ⟨by rfl, fun w _ => by have h9 := HML.out; go_simp⟩) hHeld ?_
         try dsimp only
         try simp only [Act.put, List.getElem_toArray, List.getElem_cons_zero, List.getElem_cons_succ, List.setIfInBounds_toArray, List.set_cons_zero, List.set_cons_succ]
         refine wpAnyH_take (i := 21) (v := .int .i64 (y.p.e + d)) rfl (by kernel_rfl) (by kernel_rfl) (by kernel_rfl) (fun _ _ _ h => h) (Or.inl ⟨by rfl, fun w _ => by have h9 := HA2.out; go_simp⟩) hHeld ?_
         try dsimp only
         try simp only [Act.put, List.getElem_toArray, List.getElem_cons_zero, List.getElem_cons_succ, List.setIfInBounds_toArray, List.set_cons_zero, List.set_cons_succ]
         refine wpAnyH_take (i := 22) (v := .agg #[.int .i64 (y.p.s + d), .int .i64 (y.p.e + d)]) rfl (by kernel_rfl) (by kernel_rfl) (by kernel_rfl) (fun _ _ _ h => h) (Or.inl ⟨by rfl, fun w _ => by go_simp⟩) hHeld ?_
         try dsimp only
         try simp only [Act.put, List.getElem_toArray, List.getElem_cons_zero, List.getElem_cons_succ, List.setIfInBounds_toArray, List.set_cons_zero, List.set_cons_succ]
         refine wpAnyH_ready (rs := [23]) (by kernel_rfl) (by simp) (AllReadyH.cons rfl (fun K hK => ?_) AllReadyH.nil)
         go_simp
         refine hK.out _ _ (hHeld.alloc (Nat.le_trans hHeld.size (Nat.le_refl _)) _) (fun hHeld => ?_)
         clear hK K
         try dsimp only
         try simp only [Act.put, List.getElem_toArray, List.getElem_cons_zero, List.getElem_cons_succ, List.setIfInBounds_toArray, List.set_cons_zero, List.set_cons_succ]
         refine wpAnyH_ready (rs := [24]) (by kernel_rfl) (by simp) (AllReadyH.cons rfl (fun K hK => ?_) AllReadyH.nil)
         go_simp
         refine hK.out _ _ ((Below.refl _ _).alloc (Nat.le_refl _) _).drew (fun hHeld => ?_)
         clear hK K
         refine wpAnyH_done (by kernel_rfl) ?_ _
         obtain ⟨wv, hwv⟩ : ∃ wv, wv = (wr.alloc (.cells #[.int .i64 (y.p.s + d), .int .i64 (y.p.e + d)] 84)).drew := ⟨_, rfl⟩
         rw [← hwv]
         have HBV : Hid (Below wr.heap.size wr wv) := Lib.hid (by rw [hwv]; exact ((Below.refl _ _).alloc (Nat.le_refl _) _).drew)
         have HW2 : Hid (wv.rangeAt wr.heap.size 0 [.int .i64 (y.p.s + d), .int .i64 (y.p.e + d)]) := Lib.hid (by rw [hwv]; exact zrow (cs := [.int .i64 (y.p.s + d), .int .i64 (y.p.e + d)]) (heap_new wr _))
         have HBW2 : Hid (wr.heap.size < wv.heap.size) := Lib.hid (by rw [hwv]; show _ < (wr.alloc _).heap.size; simp)
         have HX2 := Lib.hid (zkeep HX.out HG.out HBV.out)
         have HY2 := Lib.hid (zkeep HY.out HGQ.out HBV.out)
         have HG2 : Hid (gp < wv.heap.size) := Lib.hid (Nat.lt_of_lt_of_le HG.out HBV.out.size)
         have HGQ2 : Hid (gq < wv.heap.size) := Lib.hid (Nat.lt_of_lt_of_le HGQ.out HBV.out.size)
         have HBV2 := Lib.hid (bto HB.out HBV.out)
         clear hHeld HBV HX HY HG HGQ hwv
         obtain ⟨bw, hbw⟩ : ∃ bw, bw = wr.heap.size := ⟨_, rfl⟩
         rw [← hbw] at HW2 HBW2 ⊢
         clear hbw
         go_upto_region 26 with fail
         refine wp_region_held_drew (S := fun w => Below wv.heap.size wv w) (by kernel_rfl) ((Below.refl _ wv).drew) (fun hHeld => ?_)
         refine wpAnyH_take (i := 0) (v := .slice (some ⟨gp, 0, none⟩) n1 c1) rfl (by kernel_rfl) (by kernel_rfl) (by kernel_rfl) (fun _ _ _ h => h) (Or.inl ⟨by rfl, fun _ _ => rfl⟩) hHeld ?_
         try dsimp only
         try simp only [Act.put, List.getElem_toArray, List.getElem_cons_zero, List.getElem_cons_succ, List.setIfInBounds_toArray, List.set_cons_zero, List.set_cons_succ]
         refine wpAnyH_take (i := 1) (v := .int .i64 (k : Int)) rfl (by kernel_rfl) (by kernel_rfl) (by kernel_rfl) (fun _ _ _ h => h) (Or.inl ⟨by rfl, fun _ _ => rfl⟩) hHeld ?_
         try dsimp only
         try simp only [Act.put, List.getElem_toArray, List.getElem_cons_zero, List.getElem_cons_succ, List.setIfInBounds_toArray, List.set_cons_zero, List.set_cons_succ]
         refine wpAnyH_take (i := 2) (v := .pointer (some ⟨gp, k * 8, none⟩)) rfl (by kernel_rfl) (by kernel_rfl) (by kernel_rfl) (fun _ _ _ h => h) (Or.inl ⟨by rfl, fun w _ => by go_simp⟩) hHeld ?_
         try dsimp only
         try simp only [Act.put, List.getElem_toArray, List.getElem_cons_zero, List.getElem_cons_succ, List.setIfInBounds_toArray, List.set_cons_zero, List.set_cons_succ]
         refine wpAnyH_take (i := 3) (v := .pointer (some ⟨gp, k * 8, none⟩)) rfl (by kernel_rfl) (by kernel_rfl) (by kernel_rfl) (fun _ _ _ h => h) (Or.inl ⟨by rfl, fun w _ => by go_simp⟩) hHeld ?_
         try dsimp only
         try simp only [Act.put, List.getElem_toArray, List.getElem_cons_zero, List.getElem_cons_succ, List.setIfInBounds_toArray, List.set_cons_zero, List.set_cons_succ]
         refine wpAnyH_take (i := 4) (v := .string y.p.key) rfl (by kernel_rfl) (by kernel_rfl) (by kernel_rfl) (fun _ _ _ h => h) (Or.inl ⟨by rfl, fun w hw => by have hr9 : w.rangeAt gp (k * 8) [.string y.p.key, .int .i64 y.p.s, .int .i64 y.p.e, .int .u64 (y.t.c : Int), .float .f64 y.t.s, .bool y.t.o, .float .f64 y.t.lo, .float .f64 y.t.hi] := (zkeep HX2.out HG2.out hw); have hc : w.cell? ⟨gp, k * 8, none⟩ = some (.string y.p.key) := hr9 0 _ rfl; go_simp⟩) hHeld ?_
         try dsimp only
         try simp only [Act.put, List.getElem_toArray, List.getElem_cons_zero, List.getElem_cons_succ, List.setIfInBounds_toArray, List.set_cons_zero, List.set_cons_succ]
         refine wpAnyH_take (i := 5) (v := .slice (some ⟨gq, 0, none⟩) n1 c2) rfl (by kernel_rfl) (by kernel_rfl) (by kernel_rfl) (fun _ _ _ h => h) (Or.inl ⟨by rfl, fun _ _ => rfl⟩) hHeld ?_
         try dsimp only
         try simp only [Act.put, List.getElem_toArray, List.getElem_cons_zero, List.getElem_cons_succ, List.setIfInBounds_toArray, List.set_cons_zero, List.set_cons_succ]
         refine wpAnyH_take (i := 6) (v := .int .i64 (k : Int)) rfl (by kernel_rfl) (by kernel_rfl) (by kernel_rfl) (fun _ _ _ h => h) (Or.inl ⟨by rfl, fun _ _ => rfl⟩) hHeld ?_
         try dsimp only
         try simp only [Act.put, List.getElem_toArray, List.getElem_cons_zero, List.getElem_cons_succ, List.setIfInBounds_toArray, List.set_cons_zero, List.set_cons_succ]
         refine wpAnyH_take (i := 7) (v := .pointer (some ⟨gq, k * 8, none⟩)) rfl (by kernel_rfl) (by kernel_rfl) (by kernel_rfl) (fun _ _ _ h => h) (Or.inl ⟨by rfl, fun w _ => by go_simp⟩) hHeld ?_
         try dsimp only
         try simp only [Act.put, List.getElem_toArray, List.getElem_cons_zero, List.getElem_cons_succ, List.setIfInBounds_toArray, List.set_cons_zero, List.set_cons_succ]
         refine wpAnyH_take (i := 8) (v := .pointer (some ⟨gq, k * 8, none⟩)) rfl (by kernel_rfl) (by kernel_rfl) (by kernel_rfl) (fun _ _ _ h => h) (Or.inl ⟨by rfl, fun w _ => by go_simp⟩) hHeld ?_
         try dsimp only
         try simp only [Act.put, List.getElem_toArray, List.getElem_cons_zero, List.getElem_cons_succ, List.setIfInBounds_toArray, List.set_cons_zero, List.set_cons_succ]
         refine wpAnyH_take (i := 9) (v := .string y.p.key) rfl (by kernel_rfl) (by kernel_rfl) (by kernel_rfl) (fun _ _ _ h => h) (Or.inl ⟨by rfl, fun w hw => by have hr9 : w.rangeAt gq (k * 8) [.string y.p.key, .int .i64 (y.p.s + d), .int .i64 (y.p.e + d), .int .u64 (y.t.c : Int), .float .f64 y.t.s, .bool y.t.o, .float .f64 y.t.lo, .float .f64 y.t.hi] := (zkeep HY2.out HGQ2.out hw); have hc : w.cell? ⟨gq, k * 8, none⟩ = some (.string y.p.key) := hr9 0 _ rfl; go_simp⟩) hHeld ?_
         try dsimp only
         try simp only [Act.put, List.getElem_toArray, List.getElem_cons_zero, List.getElem_cons_succ, List.setIfInBounds_toArray, List.set_cons_zero, List.set_cons_succ]
         refine wpAnyH_take (i := 10) (v := .bool false) rfl (by kernel_rfl) (by kernel_rfl) (by kernel_rfl) (fun _ _ _ h => h) (yb_bin rfl .neq _ _ _ _ rfl _ _ _ rfl rfl (fun _ => rfl) (fun w => b_neZ y.p.key w)) hHeld ?_
         try dsimp only
         try simp only [Act.put, List.getElem_toArray, List.getElem_cons_zero, List.getElem_cons_succ, List.setIfInBounds_toArray, List.set_cons_zero, List.set_cons_succ]
         refine wpAnyH_take (i := 11) (v := .bool false) rfl (by kernel_rfl) (by kernel_rfl) (by kernel_rfl) (fun _ _ _ h => h) (Or.inl ⟨by rfl, fun _ _ => rfl⟩) hHeld ?_
         try dsimp only
         try simp only [Act.put, List.getElem_toArray, List.getElem_cons_zero, List.getElem_cons_succ, List.setIfInBounds_toArray, List.set_cons_zero, List.set_cons_succ]
         refine wpAnyH_take (i := 12) (v := .slice (some ⟨gq, 0, none⟩) n1 c2) rfl (by kernel_rfl) (by kernel_rfl) (by kernel_rfl) (fun _ _ _ h => h) (Or.inl ⟨by rfl, fun _ _ => rfl⟩) hHeld ?_
         try dsimp only
         try simp only [Act.put, List.getElem_toArray, List.getElem_cons_zero, List.getElem_cons_succ, List.setIfInBounds_toArray, List.set_cons_zero, List.set_cons_succ]
         refine wpAnyH_take (i := 13) (v := .int .i64 (k : Int)) rfl (by kernel_rfl) (by kernel_rfl) (by kernel_rfl) (fun _ _ _ h => h) (Or.inl ⟨by rfl, fun _ _ => rfl⟩) hHeld ?_
         try dsimp only
         try simp only [Act.put, List.getElem_toArray, List.getElem_cons_zero, List.getElem_cons_succ, List.setIfInBounds_toArray, List.set_cons_zero, List.set_cons_succ]
         refine wpAnyH_take (i := 14) (v := .pointer (some ⟨gq, k * 8, none⟩)) rfl (by kernel_rfl) (by kernel_rfl) (by kernel_rfl) (fun _ _ _ h => h) (Or.inl ⟨by rfl, fun w _ => by go_simp⟩) hHeld ?_
         try dsimp only
         try simp only [Act.put, List.getElem_toArray, List.getElem_cons_zero, List.getElem_cons_succ, List.setIfInBounds_toArray, List.set_cons_zero, List.set_cons_succ]
         refine wpAnyH_take (i := 15) (v := .pointer (some ⟨gq, k * 8 + 1, none⟩)) rfl (by kernel_rfl) (by kernel_rfl) (by kernel_rfl) (fun _ _ _ h => h) (Or.inl ⟨by rfl, fun w _ => by go_simp⟩) hHeld ?_
         try dsimp only
         try simp only [Act.put, List.getElem_toArray, List.getElem_cons_zero, List.getElem_cons_succ, List.setIfInBounds_toArray, List.set_cons_zero, List.set_cons_succ]
         refine wpAnyH_take (i := 16) (v := .agg [.int .i64 (y.p.s + d), .int .i64 (y.p.e + d)].toArray) rfl (by kernel_rfl) (by kernel_rfl) (by kernel_rfl) (fun _ _ _ h => h) (yieldsIf_load_mid rfl 84 (.tmp 111) rfl gq (k * 8 + 1) rfl [.int .i64 (y.p.s + d), .int .i64 (y.p.e + d)] _ (fun w hw => rsub (cs := [.string y.p.key, .int .i64 (y.p.s + d), .int .i64 (y.p.e + d), .int .u64 (y.t.c : Int), .float .f64 y.t.s, .bool y.t.o, .float .f64 y.t.lo, .float .f64 y.t.hi]) (zkeep HY2.out HGQ2.out hw) 1 2 _ rfl _ rfl) uWn rfl (by kernel_rfl)) hHeld ?_
         try dsimp only
         try simp only [Act.put, List.getElem_toArray, List.getElem_cons_zero, List.getElem_cons_succ, List.setIfInBounds_toArray, List.set_cons_zero, List.set_cons_succ]
         refine wpAnyH_take (i := 17) (v := .agg [.int .i64 (y.p.s + d), .int .i64 (y.p.e + d)].toArray) rfl (by kernel_rfl) (by kernel_rfl) (by kernel_rfl) (fun _ _ _ h => h) (yieldsIf_load_mid rfl 84 (.tmp 16) rfl bw (0) rfl [.int .i64 (y.p.s + d), .int .i64 (y.p.e + d)] _ (fun w hw => rsub (cs := [.int .i64 (y.p.s + d), .int .i64 (y.p.e + d)]) (zkeep HW2.out HBW2.out hw) 0 2 _ rfl _ (by simp)) uWn rfl (by kernel_rfl)) hHeld ?_
         try dsimp only
         try simp only [Act.put, List.getElem_toArray, List.getElem_cons_zero, List.getElem_cons_succ, List.setIfInBounds_toArray, List.set_cons_zero, List.set_cons_succ]
         refine wpAnyH_take (i := 18) (v := .bool false) rfl (by kernel_rfl) (by kernel_rfl) (by kernel_rfl) (fun _ _ _ h => h) (Or.inl ⟨by rfl, fun w _ => by go_simp⟩) hHeld ?_
         try dsimp only
         try simp only [Act.put, List.getElem_toArray, List.getElem_cons_zero, List.getElem_cons_succ, List.setIfInBounds_toArray, List.set_cons_zero, List.set_cons_succ]
         refine wpAnyH_take (i := 19) (v := .bool false) rfl (by kernel_rfl) (by kernel_rfl) (by kernel_rfl) (fun _ _ _ h => h) (Or.inl ⟨by rfl, fun w _ => by go_simp⟩) hHeld ?_
         try dsimp only
         try simp only [Act.put, List.getElem_toArray, List.getElem_cons_zero, List.getElem_cons_succ, List.setIfInBounds_toArray, List.set_cons_zero, List.set_cons_succ]
         refine wpAnyH_take (i := 20) (v := .bool false) rfl (by kernel_rfl) (by kernel_rfl) (by kernel_rfl) (fun _ _ _ h => h) (Or.inl ⟨by rfl, fun _ _ => rfl⟩) hHeld ?_
         try dsimp only
         try simp only [Act.put, List.getElem_toArray, List.getElem_cons_zero, List.getElem_cons_succ, List.setIfInBounds_toArray, List.set_cons_zero, List.set_cons_succ]
         refine wpAnyH_take (i := 21) (v := .slice (some ⟨gp, 0, none⟩) n1 c1) rfl (by kernel_rfl) (by kernel_rfl) (by kernel_rfl) (fun _ _ _ h => h) (Or.inl ⟨by rfl, fun _ _ => rfl⟩) hHeld ?_
         try dsimp only
         try simp only [Act.put, List.getElem_toArray, List.getElem_cons_zero, List.getElem_cons_succ, List.setIfInBounds_toArray, List.set_cons_zero, List.set_cons_succ]
         refine wpAnyH_take (i := 22) (v := .int .i64 (k : Int)) rfl (by kernel_rfl) (by kernel_rfl) (by kernel_rfl) (fun _ _ _ h => h) (Or.inl ⟨by rfl, fun _ _ => rfl⟩) hHeld ?_
         try dsimp only
         try simp only [Act.put, List.getElem_toArray, List.getElem_cons_zero, List.getElem_cons_succ, List.setIfInBounds_toArray, List.set_cons_zero, List.set_cons_succ]
         refine wpAnyH_take (i := 23) (v := .pointer (some ⟨gp, k * 8, none⟩)) rfl (by kernel_rfl) (by kernel_rfl) (by kernel_rfl) (fun _ _ _ h => h) (Or.inl ⟨by rfl, fun w _ => by go_simp⟩) hHeld ?_
         try dsimp only
         try simp only [Act.put, List.getElem_toArray, List.getElem_cons_zero, List.getElem_cons_succ, List.setIfInBounds_toArray, List.set_cons_zero, List.set_cons_succ]
         refine wpAnyH_take (i := 24) (v := .pointer (some ⟨gp, k * 8 + 3, none⟩)) rfl (by kernel_rfl) (by kernel_rfl) (by kernel_rfl) (fun _ _ _ h => h) (Or.inl ⟨by rfl, fun w _ => by go_simp⟩) hHeld ?_
         try dsimp only
         try simp only [Act.put, List.getElem_toArray, List.getElem_cons_zero, List.getElem_cons_succ, List.setIfInBounds_toArray, List.set_cons_zero, List.set_cons_succ]
         refine wpAnyH_take (i := 25) (v := .agg [.int .u64 (y.t.c : Int), .float .f64 y.t.s, .bool y.t.o, .float .f64 y.t.lo, .float .f64 y.t.hi].toArray) rfl (by kernel_rfl) (by kernel_rfl) (by kernel_rfl) (fun _ _ _ h => h) (yieldsIf_load_mid rfl 95 (.tmp 120) rfl gp (k * 8 + 3) rfl [.int .u64 (y.t.c : Int), .float .f64 y.t.s, .bool y.t.o, .float .f64 y.t.lo, .float .f64 y.t.hi] _ (fun w hw => rsub (cs := [.string y.p.key, .int .i64 y.p.s, .int .i64 y.p.e, .int .u64 (y.t.c : Int), .float .f64 y.t.s, .bool y.t.o, .float .f64 y.t.lo, .float .f64 y.t.hi]) (zkeep HX2.out HG2.out hw) 3 5 _ rfl _ rfl) uAgz rfl (by kernel_rfl)) hHeld ?_
         try dsimp only
         try simp only [Act.put, List.getElem_toArray, List.getElem_cons_zero, List.getElem_cons_succ, List.setIfInBounds_toArray, List.set_cons_zero, List.set_cons_succ]
         refine wpAnyH_take (i := 26) (v := .slice (some ⟨gq, 0, none⟩) n1 c2) rfl (by kernel_rfl) (by kernel_rfl) (by kernel_rfl) (fun _ _ _ h => h) (Or.inl ⟨by rfl, fun _ _ => rfl⟩) hHeld ?_
         try dsimp only
         try simp only [Act.put, List.getElem_toArray, List.getElem_cons_zero, List.getElem_cons_succ, List.setIfInBounds_toArray, List.set_cons_zero, List.set_cons_succ]
         refine wpAnyH_take (i := 27) (v := .int .i64 (k : Int)) rfl (by kernel_rfl) (by kernel_rfl) (by kernel_rfl) (fun _ _ _ h => h) (Or.inl ⟨by rfl, fun _ _ => rfl⟩) hHeld ?_
         try dsimp only
         try simp only [Act.put, List.getElem_toArray, List.getElem_cons_zero, List.getElem_cons_succ, List.setIfInBounds_toArray, List.set_cons_zero, List.set_cons_succ]
         refine wpAnyH_take (i := 28) (v := .pointer (some ⟨gq, k * 8, none⟩)) rfl (by kernel_rfl) (by kernel_rfl) (by kernel_rfl) (fun _ _ _ h => h) (Or.inl ⟨by rfl, fun w _ => by go_simp⟩) hHeld ?_
         try dsimp only
         try simp only [Act.put, List.getElem_toArray, List.getElem_cons_zero, List.getElem_cons_succ, List.setIfInBounds_toArray, List.set_cons_zero, List.set_cons_succ]
         refine wpAnyH_take (i := 29) (v := .pointer (some ⟨gq, k * 8 + 3, none⟩)) rfl (by kernel_rfl) (by kernel_rfl) (by kernel_rfl) (fun _ _ _ h => h) (Or.inl ⟨by rfl, fun w _ => by go_simp⟩) hHeld ?_
         try dsimp only
         try simp only [Act.put, List.getElem_toArray, List.getElem_cons_zero, List.getElem_cons_succ, List.setIfInBounds_toArray, List.set_cons_zero, List.set_cons_succ]
         refine wpAnyH_take (i := 30) (v := .agg [.int .u64 (y.t.c : Int), .float .f64 y.t.s, .bool y.t.o, .float .f64 y.t.lo, .float .f64 y.t.hi].toArray) rfl (by kernel_rfl) (by kernel_rfl) (by kernel_rfl) (fun _ _ _ h => h) (yieldsIf_load_mid rfl 95 (.tmp 125) rfl gq (k * 8 + 3) rfl [.int .u64 (y.t.c : Int), .float .f64 y.t.s, .bool y.t.o, .float .f64 y.t.lo, .float .f64 y.t.hi] _ (fun w hw => rsub (cs := [.string y.p.key, .int .i64 (y.p.s + d), .int .i64 (y.p.e + d), .int .u64 (y.t.c : Int), .float .f64 y.t.s, .bool y.t.o, .float .f64 y.t.lo, .float .f64 y.t.hi]) (zkeep HY2.out HGQ2.out hw) 3 5 _ rfl _ rfl) uAgz rfl (by kernel_rfl)) hHeld ?_
         try dsimp only
         try simp only [Act.put, List.getElem_toArray, List.getElem_cons_zero, List.getElem_cons_succ, List.setIfInBounds_toArray, List.set_cons_zero, List.set_cons_succ]
         refine wpAnyH_ready (rs := [31]) (by kernel_rfl) (by simp) (AllReadyH.cons rfl (fun K hK => ?_) AllReadyH.nil)
         go_simp
         refine (HCS.out _).mono ?_
         rintro e w9 ⟨rfl, hb9⟩
         replace hHeld := bto hHeld hb9
         clear hb9
         refine hK.out _ _ hHeld (fun hHeld => ?_)
         clear hK K
         try dsimp only
         try simp only [Act.put, List.getElem_toArray, List.getElem_cons_zero, List.getElem_cons_succ, List.setIfInBounds_toArray, List.set_cons_zero, List.set_cons_succ]
         refine wpAnyH_take (i := 32) (v := .bool false) rfl (by kernel_rfl) (by kernel_rfl) (by kernel_rfl) (fun _ _ _ h => h) (Or.inl ⟨by rfl, fun w _ => by go_simp⟩) hHeld ?_
         try dsimp only
         try simp only [Act.put, List.getElem_toArray, List.getElem_cons_zero, List.getElem_cons_succ, List.setIfInBounds_toArray, List.set_cons_zero, List.set_cons_succ]
         refine wpAnyH_take (i := 33) (v := .bool false) rfl (by kernel_rfl) (by kernel_rfl) (by kernel_rfl) (fun _ _ _ h => h) (Or.inl ⟨by rfl, fun w _ => by go_simp⟩) hHeld ?_
         try dsimp only
         try simp only [Act.put, List.getElem_toArray, List.getElem_cons_zero, List.getElem_cons_succ, List.setIfInBounds_toArray, List.set_cons_zero, List.set_cons_succ]
         refine wpAnyH_done (by kernel_rfl) ?_ _
         clear hwq
         have HBE := Lib.hid (bto HBV2.out hHeld)
         clear hHeld
         go_wp2
         go_roundw
         case rel => exact ⟨k + 1, by omega, by go_num, HBE.out⟩
         case measure => (simp [intOf]; omega)
       · have hz : ¬ ((k : Int) < (n1 : Int)) := by omega
         go_wp2
         go_ret
         exact ⟨rfl, HB11.out.trans (HB.out.mono HB11.out.size)⟩
end Go.Proofs.Ytckfndnaaljmhaa
