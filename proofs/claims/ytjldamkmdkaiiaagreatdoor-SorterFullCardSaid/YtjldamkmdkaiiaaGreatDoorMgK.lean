/-
  Layer merge: New: walked.
-/
import Derived.Test.YtjldamkmdkaiiaaGreatDoorMfK
import Derived.Test.YtjldamkmdkaiiaaGreatDoorTkK
set_option linter.unusedSimpArgs false
set_option linter.unusedVariables false
set_option maxRecDepth 8000
namespace Go.Proofs.YtjldamkmdkaiiaaGreatDoor
open Go.RowKit Go.Sort
theorem heap_alloc_newM (w : World) (o : Obj) : (w.alloc o).heap[w.heap.size]? = some o := by show (w.heap.push o)[w.heap.size]? = _; simp
theorem slL_get {Ss : List Sl} {j : Nat} {l : List Ev} (h : (slL Ss)[j]? = some l) : ∃ s, Ss[j]? = some s ∧ s.l = l := by
 unfold slL at h
 rw [List.getElem?_map] at h
 rcases hs : Ss[j]? with _ | s
 ·rw [hs] at h; cases h
 ·rw [hs] at h; injection h with h; exact ⟨s, rfl, h⟩
theorem tree_new {W w4 : World} {a : Option Addr} {Ss : List Sl} {rb lb n cr : Nat} (HR : RunsAt W a Ss) (hn : n = Ss.length) (h1 : 0 < n) (h16 : n ≤ 16) (hrb : W.heap.size ≤ rb) (hlb : W.heap.size ≤ lb) (hrl : rb ≠ lb) (hcr : n ≤ cr) (hcr2 : cr ≤ maxLen) (hnm : n ≤ maxLen)
  (hb : Below W.heap.size W w4) (hrow : RunsRow w4 rb n (slV Ss)) (hlos : LosRow w4 lb n) :
  TreeM (w4.alloc (.cells #[.slice (some ⟨rb, 0, none⟩) n cr, .int .i64 0, .slice (some ⟨lb, 0, none⟩) n n] 157)) W.heap.size w4.heap.size rb lb n cr n 0 (fun _ => 0) (slL Ss) := by
 have hb6 : Below w4.heap.size w4 (w4.alloc (.cells #[.slice (some ⟨rb, 0, none⟩) n cr, .int .i64 0, .slice (some ⟨lb, 0, none⟩) n n] 157)) := (Below.refl _ _).alloc (Nat.le_refl _) _
 have hrl4 := hrow.lt
 have hll4 := hlos.lt
 have hrow6 := hrow.keep hb6
 have hlos6 := hlos.keep hb6
 have HR6 := HR.keep (bto hb hb6)
 refine ⟨heap_alloc_newM w4 _, ?_, ?_, fun j l hj => ?_, fun j hj => ?_, by unfold slL; rw [List.length_map]; exact hn, h1, h16, fun l hl => ?_, ⟨hcr, hcr2, Nat.le_refl _, hnm⟩, hb.size, hrb, hlb, by omega, by omega, hrl⟩
 ·obtain ⟨cur, h2, h3, -⟩ := hrow6; exact ⟨cur, h2, h3⟩
 ·obtain ⟨cur, h2, h3, -⟩ := hlos6; exact ⟨cur, h2, h3⟩
 ·obtain ⟨s, hs, rfl⟩ := slL_get hj
  have hok := HR6.ok s (List.mem_of_getElem? hs)
  have hok0 := HR.ok s (List.mem_of_getElem? hs)
  refine ⟨s.A, s.c, ?_, hok.cap, hok.cap', hok.nil, hok.at', hok0.low⟩
  obtain ⟨cur, h2, -, h4⟩ := hrow6
  rw [cell_of_row _ _ _ _ _ _ h2]
  exact h4 j s.v (by unfold slV; rw [List.getElem?_map, hs]; rfl)
 ·obtain ⟨cur, h2, -, h4⟩ := hlos6
  rw [cell_of_row _ _ _ _ _ _ h2, h4 j hj]; rfl
 ·obtain ⟨s, hs, rfl⟩ := List.mem_map.1 hl
  exact (HR.ok s hs).small
def NewOk (W : World) (n : Nat) (Rs : List (List Ev)) (e : Ending) (w' : World) : Prop :=
 ∃ (t rb lb cr cl win : Nat) (L V : Nat → Nat), e = .returned (.tuple #[.pointer (some ⟨t, 0, none⟩), .int .i64 0]) ∧ TreeM w' W.heap.size t rb lb n cr cl win L Rs ∧ Tour ltM (rsF Rs) n L V ∧ V 1 = win ∧ Below W.heap.size W w'
def NewEnds (W : World) (n : Nat) (Rs : List (List Ev)) (e : Ending) (w' : World) : Prop :=
 if Rs.all (ordB ltM) = true then NewOk W n Rs e w' else e = .returned (.tuple #[.pointer none, .int .i64 7]) ∧ Below W.heap.size W w'
set_option maxHeartbeats 8000000 in
theorem new_any (g off n c : Nat) (Ss : List Sl) (hn : Hid (n = Ss.length)) (hn1 : 0 < n) (hn16 : n ≤ 16) (hnc : n ≤ c) (hcm : c ≤ maxLen) (W : World) (HRA : Hid (RunsAt W (some ⟨g, off, none⟩) Ss)) :
  Calls Tryz.prog 87 #[.slice (some ⟨g, off, none⟩) n c] W (NewEnds W n (slL Ss)) := by
 obtain ⟨ik, hik, hz0, hz1, hz2⟩ := info_parts infoInt
 have HZB : Hid (ik.bytes * n ≤ 281474976710656) := Lib.hid (by rw [hz2]; omega)
 have HNM : Hid (n ≤ maxLen) := Lib.hid (by unfold maxLen; omega)
 have HN16 : Hid (n ≤ 1000) := Lib.hid (by omega)
 have HN16f := Lib.hid hn16
 have HN := hn
 have HSL : Hid (n = (slV Ss).length ∧ ∀ u ∈ slV Ss, u.oneCell' = true) := Lib.hid ⟨by unfold slV; rw [List.length_map]; exact hn.out, slV_one Ss⟩
 have HCELLS : Hid (∀ w2, Below W.heap.size W w2 → ∀ (j : Nat) (u : Value), (slV Ss)[j]? = some u → w2.cell? ⟨g, off + j, none⟩ = some u) := Lib.hid fun w2 hb j u hu => by
  unfold slV at hu
  rw [List.getElem?_map] at hu
  rcases hs : Ss[j]? with _ | s
  ·rw [hs] at hu; cases hu
  ·rw [hs] at hu; injection hu with hu; subst hu
   obtain ⟨g', off', e, -, hc⟩ := (HRA.out.keep hb).cell j s hs
   injection e with e; injection e with e1 e2; subst e1; subst e2; exact hc
 unfold maxLen at hcm
 have h1i : ¬ (n : Int) < 1 := by omega
 have h16i : ¬ (16 : Int) < (n : Int) := by omega
 go_enter Tryz.func87, Tryz.ntmps87
 go_wp2
 go_loopw [17] (fun v wr => ∃ k : Nat, k ≤ n ∧ v = .int .i64 (k : Int) ∧ (∀ (j : Nat) (s : Sl), j < k → Ss[j]? = some s → ordB ltM s.l = true) ∧ Below W.heap.size W wr) (fun v _ => n - (intOf v).toNat)
 case atStart => exact ⟨0, Nat.zero_le _, rfl, fun j s h => by omega, Below.refl _ _⟩
 case round =>
  obtain ⟨k, hk, rfl, hall, hb⟩ := hrel
  have HALL := Lib.hid hall; have HB := Lib.hid hb
  clear hall hb
  by_cases hkn : k < n
  ·obtain ⟨s, hs⟩ : ∃ s, Ss[k]? = some s := ⟨_, List.getElem?_eq_getElem (by have := hn.out; omega)⟩
   have hcell := HCELLS.out wr HB.out k s.v (by unfold slV; rw [List.getElem?_map, hs]; rfl)
   unfold Sl.v at hcell
   have hok := (HRA.out.keep HB.out).ok s (List.mem_of_getElem? hs)
   obtain ⟨m, hm⟩ : ∃ m, m = s.l.length := ⟨_, rfl⟩
   rw [← hm] at hcell
   have hki : (k : Int) < (n : Int) := by omega
   have HIO := Lib.hid (inOrder_any s.A m s.c s.l (Lib.hid hm) (by rw [hm]; exact hok.small) (by rw [hm]; exact hok.cap) wr (Lib.hid hok.at'))
   have HS := Lib.hid hs
   clear hs hok hm
   rcases ho : ordB ltM s.l with _ | _
   ·rw [ho] at HIO
    have HNO : Hid ((slL Ss).all (ordB ltM) = false) := Lib.hid (by
     rw [List.all_eq_false]
     exact ⟨s.l, List.mem_map.2 ⟨s, List.mem_of_getElem? HS.out, rfl⟩, by rw [ho]; decide⟩)
    clear ho
    go_wp2_with (go_at_call 108; (with_reducible refine (HIO.out).mono ?_); rintro e w2 ⟨rfl, hb2⟩; have HB2 := Lib.hid (bto HB.out hb2); clear hb2)
    go_ret2
    show NewEnds W n (slL Ss) _ _
    unfold NewEnds
    rw [if_neg (by rw [HNO.out]; decide)]
    exact ⟨rfl, HB2.out⟩
   ·rw [ho] at HIO
    have HO := Lib.hid ho
    clear ho
    go_wp2_with (go_at_call 108; (with_reducible refine (HIO.out).mono ?_); rintro e w2 ⟨rfl, hb2⟩; have HB2 := Lib.hid (bto HB.out hb2); clear hb2)
    go_roundw
    case rel => exact ⟨k + 1, by omega, by go_num, fun j s2 hj hs2 => by
     by_cases e : j = k
     ·subst e; rw [HS.out] at hs2; injection hs2 with hs2; subst hs2; exact HO.out
     ·exact HALL.out j s2 (by omega) hs2, HB2.out⟩
    case measure => simp [intOf]; omega
  ·obtain rfl : k = n := by omega
   have HYES : Hid ((slL Ss).all (ordB ltM) = true) := Lib.hid (by
    rw [List.all_eq_true]
    intro l hl
    obtain ⟨s, hs, rfl⟩ := List.mem_map.1 hl
    obtain ⟨j, hj⟩ := List.getElem?_of_mem hs
    exact HALL.out j s (by have := (List.getElem?_eq_some_iff.1 hj).1; have := hn.out; omega) hj)
   have HGOAL : Hid (∀ e w', NewOk W k (slL Ss) e w' → NewEnds W k (slL Ss) e w') := Lib.hid fun e w' h => by
    unfold NewEnds; rw [if_pos HYES.out]; exact h
   obtain ⟨n, hnn⟩ : ∃ n, n = k := ⟨_, rfl⟩
   subst hnn
   go_upto_region 9 with fail
   have hh0 : Below W.heap.size W wr.drew := HB.out.drew
   refine wp_region_held_drew (S := fun w2 => Below W.heap.size W w2) (by kernel_rfl) hh0 (fun hHeld => ?_)
   generalize wr.drew = wd at *
   have HD := Lib.hid hHeld
   clear hh0
   refine tkm 0 (.slice (some ⟨g, off, none⟩) n c) rfl hHeld ?_
   try simp only [qz]
   refine tkm 2 (.slice (some ⟨g, off, none⟩) n c) rfl hHeld ?_
   try simp only [qz]
   refine tks 3 (.int .i64 (n : Int)) rfl hHeld ?_
   try simp only [qz]
   refine wpAnyH_ready (rs := [1, 4]) (by kernel_rfl) (by simp) (AllReadyH.cons rfl (fun K hK => ?_) (AllReadyH.cons rfl (fun K hK => ?_) AllReadyH.nil))
   ·go_simp
    refine (clone_runs g off n c (slV Ss) HSL HN16.out _ (Lib.hid fun j u hu => HCELLS.out _ hHeld j u hu) hn1).mono ?_
    rintro e w3 ⟨rb, cr, rfl, hrb, hcr, hcr2, hrow, hbc⟩
    have HRB := Lib.hid hrb; have HROW := Lib.hid hrow; have HCR := Lib.hid (And.intro hcr hcr2); have HBC := Lib.hid hbc; have HHB := Lib.hid (bto hHeld hbc)
    clear hrb hrow hcr hcr2 hbc
    refine hK.out _ _ HHB.out (fun hHeld => ?_)
    clear hK K
    try simp only [qz]
    refine rd1 4 rfl (fun K hK => ?_)
    obtain ⟨w4, hrun, own, hgr⟩ := run_make_full (P := Tryz.prog) w3 w3.heap.size 43 3 ik (.int .i64 0) 1 Tryz.underlying43 hik hz0 hz1 .i64 .i64 n HZB.out HNM.out (Nat.le_refl _)
    go_simp
    have HLB := Lib.hid (rowz_zeros own); have HBM : Hid (Below w3.heap.size w3 w4) := Lib.hid ((Below.refl _ _).grown hgr (Nat.le_refl _) (by intro k hk; cases hk)); have HHM := Lib.hid (bto hHeld HBM.out)
    clear own hgr hrun
    refine hK.out _ _ HHM.out (fun hHeld => ?_)
    clear hK K
    try simp only [qz]
    have HRC : Hid (RunsRow w4 rb n (slV Ss)) := Lib.hid (HROW.out.keep HBM.out)
    have HLC : Hid (LosRow w4 w3.heap.size n) := HLB
    have hrl : rb ≠ w3.heap.size := by have := HROW.out.lt; omega
    have hlbW : W.heap.size ≤ w3.heap.size := HHB.out.size
    have hrbW : W.heap.size ≤ rb := Nat.le_trans HD.out.size HRB.out
    refine rd1 5 rfl (fun K hK => ?_)
    go_simp
    refine hK.out _ _ hHeld (fun hHeld => ?_)
    clear hK K
    try simp only [qz]
    have HTR := Lib.hid (tree_new HRA.out HN.out hn1 HN16f.out hrbW hlbW hrl HCR.out.1 HCR.out.2 (by unfold maxLen; omega) hHeld HRC.out HLC.out)
    have HTB := Lib.hid (hHeld.alloc hHeld.size (.cells #[.slice (some ⟨rb, 0, none⟩) n cr, .int .i64 0, .slice (some ⟨w3.heap.size, 0, none⟩) n n] 157))
    obtain ⟨t, ht⟩ : ∃ t, t = w4.heap.size := ⟨_, rfl⟩
    obtain ⟨w6, hw6⟩ : ∃ w6, w6 = w4.alloc (.cells #[.slice (some ⟨rb, 0, none⟩) n cr, .int .i64 0, .slice (some ⟨w3.heap.size, 0, none⟩) n n] 157) := ⟨_, rfl⟩
    rw [← ht, ← hw6] at HTR; rw [← hw6] at HTB
    have HW6 : Hid (w4.alloc (.cells #[.slice (some ⟨rb, 0, none⟩) n cr, .int .i64 0, .slice (some ⟨w3.heap.size, 0, none⟩) n n] 157) = w6) := Lib.hid hw6.symm
    have HT6 : Hid (w4.heap.size = t) := Lib.hid ht.symm
    clear ht hw6
    refine rd1 6 rfl (fun K hK => ?_)
    go_simp
    rw [HW6.out, HT6.out]
    refine hK.out _ _ HTB.out (fun hHeld => ?_)
    clear hK K
    try simp only [qz]
    refine rd1 7 rfl (fun K hK => ?_)
    go_simp
    refine hK.out _ _ HTB.out (fun hHeld => ?_)
    clear hK K
    refine wpAnyH_done (by kernel_rfl) ?_ _
    obtain ⟨win, hwin⟩ : ∃ win, win = vw ltM (rsF (slL Ss)) n 1 := ⟨_, rfl⟩
    have HWIN := Lib.hid hwin
    clear hwin
    have HP : Hid (Calls Tryz.prog 110 #[.pointer (some ⟨t, 0, none⟩), .int .i64 1] w6 (Played W.heap.size t rb w3.heap.size n cr n 0 (fun _ => 0) (slL Ss) 1 w6)) := Lib.hid (play_any W.heap.size t rb w3.heap.size n cr n 0 (slL Ss) (2 * n - 1) 1 (fun _ => 0) w6 (Nat.le_refl _) (by decide) (by omega) HTR)
    go_wp2_with (go_at_call 110; (with_reducible refine (HP.out).mono ?_); rintro e w7 ⟨rfl, L7, h1, h2, h3, -⟩; rw [← HWIN.out]; have HT7 := Lib.hid h1; have HK7 := Lib.hid h2; have HL7 := Lib.hid h3; have f7 := h1.fr 1; have c7 := h1.c1; clear h1 h2 h3)
    go_ret2
    refine HGOAL.out _ _ ?_
    refine ⟨t, rb, w3.heap.size, cr, n, win, L7, vw ltM (rsF (slL Ss)) n, rfl, HT7.out.setW win, vw_tour wkE fun m g1 g2 => HL7.out m g1 g2 (to_one m m (Nat.le_refl _) g1), HWIN.out.symm, ?_⟩
    exact (HTB.out.trans (HK7.out.below (B := W.heap.size) HTB.out.size fun k hk => by have hk : k = w3.heap.size := hk; omega)).setCell HT7.out.bt _
   ·obtain ⟨w3, hrun, own, hgr⟩ := run_make_full (P := Tryz.prog) wd wd.heap.size 43 3 ik (.int .i64 0) 1 Tryz.underlying43 hik hz0 hz1 .i64 .i64 n HZB.out HNM.out (Nat.le_refl _)
    go_simp
    have HLB := Lib.hid (rowz_zeros own); have HBM : Hid (Below wd.heap.size wd w3) := Lib.hid ((Below.refl _ _).grown hgr (Nat.le_refl _) (by intro k hk; cases hk)); have HHM := Lib.hid (bto hHeld HBM.out)
    clear own hgr hrun
    refine hK.out _ _ HHM.out (fun hHeld => ?_)
    clear hK K
    try simp only [qz]
    refine rd1 1 rfl (fun K hK => ?_)
    go_simp
    refine (clone_runs g off n c (slV Ss) HSL HN16.out _ (Lib.hid fun j u hu => HCELLS.out _ hHeld j u hu) hn1).mono ?_
    rintro e w4 ⟨rb, cr, rfl, hrb, hcr, hcr2, hrow, hbc⟩
    have HRB := Lib.hid hrb; have HROW := Lib.hid hrow; have HCR := Lib.hid (And.intro hcr hcr2); have HBC := Lib.hid hbc; have HHB := Lib.hid (bto hHeld hbc)
    clear hrb hrow hcr hcr2 hbc
    refine hK.out _ _ HHB.out (fun hHeld => ?_)
    clear hK K
    try simp only [qz]
    have HRC := HROW
    have HLC : Hid (LosRow w4 wd.heap.size n) := Lib.hid (HLB.out.keep HBC.out)
    have hrl : rb ≠ wd.heap.size := by have := HLB.out.lt; have := HRB.out; omega
    have hlbW : W.heap.size ≤ wd.heap.size := HD.out.size
    have hrbW : W.heap.size ≤ rb := Nat.le_trans HHM.out.size HRB.out
    refine rd1 5 rfl (fun K hK => ?_)
    go_simp
    refine hK.out _ _ hHeld (fun hHeld => ?_)
    clear hK K
    try simp only [qz]
    have HTR := Lib.hid (tree_new HRA.out HN.out hn1 HN16f.out hrbW hlbW hrl HCR.out.1 HCR.out.2 (by unfold maxLen; omega) hHeld HRC.out HLC.out)
    have HTB := Lib.hid (hHeld.alloc hHeld.size (.cells #[.slice (some ⟨rb, 0, none⟩) n cr, .int .i64 0, .slice (some ⟨wd.heap.size, 0, none⟩) n n] 157))
    obtain ⟨t, ht⟩ : ∃ t, t = w4.heap.size := ⟨_, rfl⟩
    obtain ⟨w6, hw6⟩ : ∃ w6, w6 = w4.alloc (.cells #[.slice (some ⟨rb, 0, none⟩) n cr, .int .i64 0, .slice (some ⟨wd.heap.size, 0, none⟩) n n] 157) := ⟨_, rfl⟩
    rw [← ht, ← hw6] at HTR; rw [← hw6] at HTB
    have HW6 : Hid (w4.alloc (.cells #[.slice (some ⟨rb, 0, none⟩) n cr, .int .i64 0, .slice (some ⟨wd.heap.size, 0, none⟩) n n] 157) = w6) := Lib.hid hw6.symm
    have HT6 : Hid (w4.heap.size = t) := Lib.hid ht.symm
    clear ht hw6
    refine rd1 6 rfl (fun K hK => ?_)
    go_simp
    rw [HW6.out, HT6.out]
    refine hK.out _ _ HTB.out (fun hHeld => ?_)
    clear hK K
    try simp only [qz]
    refine rd1 7 rfl (fun K hK => ?_)
    go_simp
    refine hK.out _ _ HTB.out (fun hHeld => ?_)
    clear hK K
    refine wpAnyH_done (by kernel_rfl) ?_ _
    obtain ⟨win, hwin⟩ : ∃ win, win = vw ltM (rsF (slL Ss)) n 1 := ⟨_, rfl⟩
    have HWIN := Lib.hid hwin
    clear hwin
    have HP : Hid (Calls Tryz.prog 110 #[.pointer (some ⟨t, 0, none⟩), .int .i64 1] w6 (Played W.heap.size t rb wd.heap.size n cr n 0 (fun _ => 0) (slL Ss) 1 w6)) := Lib.hid (play_any W.heap.size t rb wd.heap.size n cr n 0 (slL Ss) (2 * n - 1) 1 (fun _ => 0) w6 (Nat.le_refl _) (by decide) (by omega) HTR)
    go_wp2_with (go_at_call 110; (with_reducible refine (HP.out).mono ?_); rintro e w7 ⟨rfl, L7, h1, h2, h3, -⟩; rw [← HWIN.out]; have HT7 := Lib.hid h1; have HK7 := Lib.hid h2; have HL7 := Lib.hid h3; have f7 := h1.fr 1; have c7 := h1.c1; clear h1 h2 h3)
    go_ret2
    refine HGOAL.out _ _ ?_
    refine ⟨t, rb, wd.heap.size, cr, n, win, L7, vw ltM (rsF (slL Ss)) n, rfl, HT7.out.setW win, vw_tour wkE fun m g1 g2 => HL7.out m g1 g2 (to_one m m (Nat.le_refl _) g1), HWIN.out.symm, ?_⟩
    exact (HTB.out.trans (HK7.out.below (B := W.heap.size) HTB.out.size fun k hk => by have hk : k = wd.heap.size := hk; omega)).setCell HT7.out.bt _
end Go.Proofs.YtjldamkmdkaiiaaGreatDoor
