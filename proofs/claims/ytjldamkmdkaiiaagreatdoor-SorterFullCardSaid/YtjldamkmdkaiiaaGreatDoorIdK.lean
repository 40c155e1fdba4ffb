/-
  Layer files: Append of a file that is not there, at any place of the row.
-/
import Derived.Test.YtjldamkmdkaiiaaGreatDoorIcK
import Derived.Test.YtjldamkmdkaiiaaGreatDoorTkK
set_option linter.unusedSimpArgs false
set_option linter.unusedVariables false
set_option maxRecDepth 8000
namespace Go.Proofs.YtjldamkmdkaiiaaGreatDoor
open Go.RowKit Go.WideShapes
set_option maxHeartbeats 8000000 in
theorem append_ins {W : Bs} {g f fcap : Nat} {room armed ops : Int} {r : List Value} {xs : List Fil} {t : ByteArray} {lo : Nat} {e armed' : Int} {off' : Bool} (hts : t.size ≤ 281474976710656) (hform : formK t = true) (hpl : Hid (Place xs t lo)) (hno : Hid (isAt xs t lo = false)) (hlo : lo ≤ xs.length) (hn : xs.length < 500) (hs0 : sumN xs ≤ 16777216) (w : World) (hs : Hid (SN W g room false armed ops f fcap r xs w)) (ho : Hid (Op1 armed e armed' off')) (h : Hid (0 ≤ ops ∧ ops < 1000000000)) (ha : Hid (armed < 1000000000))
  (p : Option Addr) (n c : Nat) (m : List Nat) (hm : Hid (n = m.length)) (hp : Hid (ByAt w p m)) (hpf : Hid (∀ (k x : Nat), m[k]? = some x → p.map (·.block) ≠ some f)) (hroom : room ≤ 16777216) (hfit : (n : Int) ≤ room - (sumN xs : Nat)) (hr0 : 0 ≤ room) :
  Calls Tryz.prog 12 #[.pointer (some ⟨g, 0, none⟩), .string t, .slice p n c] w fun z w' => z = .returned (.int .i64 e) ∧ ∃ f' fcap' r' A' cap', SN W g room off' armed' (ops + 1) f' fcap' r' (ins xs lo ⟨t, A', cap', m, 0⟩) w' := by
 have hb := (Below.refl w.heap.size w).alloc (Nat.le_refl _) (.cells #[.string t] 9)
 have h' := hs.out.next hb
 have HP := Lib.hid (hp.out.keep hb)
 have hR := refuses_any1 g w.heap.size t false (w.alloc (.cells #[.string t] 9)) (by simp [World.cell?_alloc_new]) h'.g2
 rw [hform] at hR
 change Calls _ _ _ _ (fun e w' => e = .returned (.int .i64 0) ∧ _) at hR
 have H := Lib.hid hR
 have hF := find_any g f fcap xs t xs.length (Lib.hid rfl) (by omega) lo hpl _ h'.g1 (Lib.hid h'.files)
 rw [hno.out] at hF
 have HF := Lib.hid hF
 have HS := Lib.hid h'
 clear h' hb hs hp hR hF
 go_enter Tryz.func12, Tryz.ntmps12
 go_upto_region 5 with (first
  | (go_at_call 24; refine H.out.mono ?_; rintro e w' ⟨rfl, rfl⟩)
  | (go_at_call 25; refine HF.out.mono ?_; rintro e w1 ⟨rfl, hb⟩; have HS1 := Lib.hid (HS.out.next hb); have HP1 := Lib.hid (HP.out.keep hb); clear hb))
 have HU : Hid (∀ w, Hid (SN W g room false armed ops f fcap r xs w) → Calls Tryz.prog 18 #[.pointer (some ⟨g, 0, none⟩)] w fun e w' => e = .returned (.int .i64 (sumN xs : Nat)) ∧ Below w.heap.size w w') := Lib.hid fun w hs => used_any g f fcap xs xs.length (Lib.hid rfl) (by omega) (by omega) w hs.out.g1 (Lib.hid hs.out.files)
 generalize sumN xs = S at *
 have hwr : IntKind.i64.wrap (room - (S : Int)) = room - (S : Int) := IntWalk.i64_in _ (by omega)
 have hdec : decide (room - (S : Int) < (n : Int)) = false := by simp; omega
 have hdec5 : decide ((500 : Int) ≤ (xs.length : Int)) = false := by simp; omega
 have HS2 := Lib.hid HS1.out.drew
 have HP2 := Lib.hid (HP1.out.keep (Below.refl _ _).drew)
 clear HS HS1 HP HP1 H HF
 refine wp_region_held_drew (S := SN W g room false armed ops f fcap r xs) (by kernel_rfl) HS2.out (fun hHeld => ?_)
 refine tkm 0 (.slice p n c) rfl hHeld ?_
 try simp only [qz]
 refine tks 1 (.int .i64 (n : Nat)) rfl hHeld ?_
 try simp only [qz]
 refine tkm 2 (.pointer (some ⟨g, 0, none⟩)) rfl hHeld ?_
 try simp only [qz]
 refine tks 3 (.pointer (some ⟨g, 0, none⟩)) rfl hHeld ?_
 try simp only [qz]
 refine tks 4 (.pointer (some ⟨g, 0, none⟩)) rfl hHeld ?_
 try simp only [qz]
 refine tk 5 (.int .i64 room) rfl (yl rfl 3 (.tmp 27) rfl g 0 rfl _ lv_int (fun w hw => hw.g0)) hHeld ?_
 try simp only [qz]
 refine tkm 6 (.pointer (some ⟨g, 0, none⟩)) rfl hHeld ?_
 try simp only [qz]
 refine rd1 7 rfl (fun K hK => ?_)
 go_simp
 refine (HU.out _ (Lib.hid hHeld)).mono ?_
 rintro e w2 ⟨rfl, hb⟩
 replace hHeld := hHeld.next hb
 have HS3 := Lib.hid hHeld
 have HP3 := Lib.hid (HP2.out.keep hb)
 clear hb
 refine hK.out _ _ hHeld (fun hHeld => ?_)
 clear hK K
 try simp only [qz]
 refine rd1 8 rfl (fun K hK => ?_)
 go_simp
 refine hK.out _ _ hHeld (fun hHeld => ?_)
 clear hK K
 try simp only [qz]
 refine rd1 9 rfl (fun K hK => ?_)
 go_simp
 refine hK.out _ _ hHeld (fun hHeld => ?_)
 clear hK K
 try simp only [qz]
 refine rd1 10 rfl (fun K hK => ?_)
 go_simp
 refine hK.out _ _ hHeld (fun hHeld => ?_)
 clear hK K
 try simp only [qz]
 refine tkm 11 (.bool false) rfl hHeld ?_
 try simp only [qz]
 refine tkm 12 (.bool true) rfl hHeld ?_
 try simp only [qz]
 refine tkm 13 (.bool true) rfl hHeld ?_
 try simp only [qz]
 refine tkm 14 (.pointer (some ⟨g, 0, none⟩)) rfl hHeld ?_
 try simp only [qz]
 refine tks 15 (.pointer (some ⟨g, 0, none⟩)) rfl hHeld ?_
 try simp only [qz]
 refine tks 16 (.pointer (some ⟨g, 1, none⟩)) rfl hHeld ?_
 try simp only [qz]
 refine tk 17 (.slice (some ⟨f, 0, none⟩) xs.length fcap) rfl (yl rfl 56 (.tmp 39) rfl g 1 rfl _ lv_files (fun w hw => hw.g1)) hHeld ?_
 try simp only [qz]
 refine tks 18 (.int .i64 (xs.length : Nat)) rfl hHeld ?_
 try simp only [qz]
 refine tks 19 (.bool false) rfl hHeld ?_
 try simp only [qz]
 refine tkm 20 (.bool false) rfl hHeld ?_
 try simp only [qz]
 refine tkm 21 (.bool false) rfl hHeld ?_
 try simp only [qz]
 refine wpAnyH_done (by kernel_rfl) ?_ _
 clear hwr hdec hdec5 HS2 HP2
 have HZ := Lib.hid HS3.out.drew
 have HP := Lib.hid (HP3.out.keep (Below.refl _ _).drew)
 clear HS3 HP3 hHeld
 go_upto_region 8 with fail
 refine wp_region_held_drew (S := fun _ => True) (by kernel_rfl) trivial (fun hHeld => ?_)
 refine tkm 0 (.pointer (some ⟨g, 0, none⟩)) rfl hHeld ?_
 try simp only [qz]
 refine tkm 1 (.pointer (some ⟨g, 0, none⟩)) rfl hHeld ?_
 try simp only [qz]
 refine tks 2 (.pointer (some ⟨g, 0, none⟩)) rfl hHeld ?_
 try simp only [qz]
 refine tks 3 (.pointer (some ⟨g, 1, none⟩)) rfl hHeld ?_
 try simp only [qz]
 refine tkm 5 (.int .i64 (lo : Nat)) rfl hHeld ?_
 try simp only [qz]
 refine tkm 6 (.string t) rfl hHeld ?_
 try simp only [qz]
 refine wpAnyH_ready (rs := [4, 7]) (by kernel_rfl) (by simp) (AllReadyH.cons rfl (fun K hK => ?_) (AllReadyH.cons rfl (fun K hK => ?_) AllReadyH.nil))
 ·skip
  have c1 := HZ.out.g1
  go_simp
  clear c1
  refine hK.out _ _ trivial (fun hHeld => ?_)
  clear hK K
  try simp only [qz]
  refine rd1 7 rfl (fun K hK => ?_)
  go_simp
  refine (ownName_any t hts _).mono ?_
  rintro e v7 ⟨rfl, hb⟩
  replace HZ := Lib.hid (HZ.out.next hb)
  replace HP := Lib.hid (HP.out.keep hb)
  clear hb
  refine hK.out _ _ trivial (fun hHeld => ?_)
  clear hK K
  try simp only [qz]
  refine tks 8 (.agg #[.string t, .slice none 0 0, .int .i64 0]) rfl hHeld ?_
  try simp only [qz]
  refine rd1 9 rfl (fun K hK => ?_)
  go_simp
  obtain ⟨HZ, HP, HC, HNE⟩ := alloc_stepI t HZ HP
  refine hK.out _ _ trivial (fun hHeld => ?_)
  clear hK K
  try simp only [qz]
  refine rd1 10 rfl (fun K hK => ?_)
  go_simp
  refine (insert_any W.heap.size f xs.length fcap lo _ (flat xs) _ _ _ hlo (by omega) _ (Lib.hid HZ.out.below.size) (Lib.hid HZ.out.ownX) (Lib.hid (flat_one xs)) (Lib.hid (one3N t)) HC HNE).mono ?_
  rintro e v10 ⟨F', fcap', rfl, hox, hgr, hblk⟩
  obtain ⟨f', r', rfl, hst⟩ := ins_file hlo HZ.out (apart_empty W _ g f xs t) hox hgr hblk
  have kg := hst.kg
  have cg := hst.cg
  replace HP := Lib.hid (ByAt.grownI HP.out hgr hpf.out)
  have HST := Lib.hid hst
  clear hst hox hgr hblk HZ HC
  refine hK.out _ _ trivial (fun hHeld => ?_)
  clear hK K
  try simp only [qz]
  refine rd1 11 rfl (fun K hK => ?_)
  go_simp
  refine hK.out _ _ trivial (fun hHeld => ?_)
  clear hK K
  try simp only [qz]
  refine rd1 12 rfl (fun K hK => ?_)
  go_simp
  refine hK.out _ _ trivial (fun hHeld => ?_)
  clear hK K
  try simp only [qz]
  refine rd1 13 rfl (fun K hK => ?_)
  go_simp
  have HS3 := Lib.hid HST.out.done
  have HP3 := Lib.hid (ByAt.putI (v := .slice (some ⟨f', 0, none⟩) (xs.length + 1) fcap') HP.out HST.out.st)
  rw [ins_len] at HS3
  refine hK.out _ _ trivial (fun hHeld => ?_)
  clear hK K HST HP cg kg
  refine wpAnyH_done (by kernel_rfl) ?_ _
  have HS4 := Lib.hid (HS3.out.drew)
  have HP4 := Lib.hid (HP3.out.keep (Below.refl _ _).drew)
  clear HS3 HP3 hHeld
  have HGET0 : (ins xs lo (emptyF t))[lo]? = some (emptyF t) := ins_at hlo _
  obtain ⟨x, hx⟩ : ∃ x, x = emptyF t := ⟨_, rfl⟩
  have hxl : Hid (x.l.length = 0) := Lib.hid (by rw [hx]; rfl)
  have HX := Lib.hid hx
  have HGET : Hid ((ins xs lo (emptyF t))[lo]? = some x) := Lib.hid (by rw [hx]; exact HGET0)
  clear hx HGET0
  have hix : (lo : Int) < (xs.length : Int) + 1 := by omega
  have hix2 : lo < xs.length + 1 := by omega
  have hg4 := HS4.out.g1
  rw [ins_len] at hg4
  go_upto_region 9 with fail
  refine wp_region_held_drew (S := fun w => w.cell? ⟨g, 1, none⟩ = some (.slice (some ⟨f', 0, none⟩) (xs.length + 1) fcap')) (by kernel_rfl) hg4 (fun hHeld => ?_)
  clear hg4
  refine tkm 0 (.pointer (some ⟨g, 0, none⟩)) rfl hHeld ?_
  try simp only [qz]
  refine tks 1 (.pointer (some ⟨g, 0, none⟩)) rfl hHeld ?_
  try simp only [qz]
  refine tks 2 (.pointer (some ⟨g, 1, none⟩)) rfl hHeld ?_
  try simp only [qz]
  refine tk 3 (.slice (some ⟨f', 0, none⟩) (xs.length + 1) fcap') rfl (yl rfl 56 (.tmp 62) rfl g 1 rfl _ lv_files (fun w hw => hw)) hHeld ?_
  try simp only [qz]
  refine tkm 4 (.int .i64 (lo : Nat)) rfl hHeld ?_
  try simp only [qz]
  refine tkm 5 (.pointer (some ⟨g, 0, none⟩)) rfl hHeld ?_
  try simp only [qz]
  refine tks 6 (.pointer (some ⟨g, 0, none⟩)) rfl hHeld ?_
  try simp only [qz]
  refine tks 7 (.pointer (some ⟨g, 1, none⟩)) rfl hHeld ?_
  try simp only [qz]
  refine tk 8 (.slice (some ⟨f', 0, none⟩) (xs.length + 1) fcap') rfl (yl rfl 56 (.tmp 67) rfl g 1 rfl _ lv_files (fun w hw => hw)) hHeld ?_
  try simp only [qz]
  refine tkm 9 (.int .i64 (lo : Nat)) rfl hHeld ?_
  try simp only [qz]
  refine tks 10 (.pointer (some ⟨f', lo * 3, none⟩)) rfl hHeld ?_
  try simp only [qz]
  refine tks 11 (.pointer (some ⟨f', lo * 3 + 1, none⟩)) rfl hHeld ?_
  try simp only [qz]
  refine tkm 13 (.slice p n c) rfl hHeld ?_
  try simp only [qz]
  have cf : _ = some (Value.slice x.A x.l.length x.cap) := (HS4.out.files lo x HGET.out).2.2.1
  refine rd1 12 rfl (fun K hK => ?_)
  go_simp
  refine hK.out _ _ hHeld (fun hHeld => ?_)
  clear hK K
  try simp only [qz]
  refine rd1 14 rfl (fun K hK => ?_)
  rw [if_pos (by rfl)]
  refine wp_append_by (.tmp 72) (.tmp 73) rfl W.heap.size x.A x.l.length x.cap x.l rfl (HS4.out.own lo x HGET.out) p n c m rfl hm.out HP4.out (by have := hm.out; have := hxl.out; omega) HS4.out.below.size ?_
  intro A' cap' w5 own hgr hblk
  have hg5 : w5.cell? ⟨g, 1, none⟩ = some (.slice (some ⟨f', 0, none⟩) (xs.length + 1) fcap') := hgr.cell hHeld (fun e => HS4.out.sg lo x HGET.out e.symm)
  have kf5 : w5.frozen? ⟨f', lo * 3 + 1, none⟩ = false := row_frozen ((hgr.block f' (Array.getElem?_eq_some_iff.1 HS4.out.fl).1 (fun e => HS4.out.sf lo x HGET.out e.symm)).trans HS4.out.fl) _
  have cf5 : w5.cell? ⟨f', lo * 3 + 1, none⟩ = some (.slice x.A x.l.length x.cap) := hgr.cell cf (fun e => HS4.out.sf lo x HGET.out e.symm)
  have HO := Lib.hid own
  have HG := Lib.hid hgr
  have HK := Lib.hid hblk
  clear own hgr hblk
  refine hK.out _ _ hg5 (fun hHeld => ?_)
  clear hK K
  try simp only [qz]
  refine rd1 15 rfl (fun K hK => ?_)
  go_simp
  refine hK.out _ _ hHeld (fun hHeld => ?_)
  clear hK K
  try simp only [qz]
  refine rd1 16 rfl (fun K hK => ?_)
  go_simp
  refine hK.out _ _ hHeld (fun hHeld => ?_)
  clear hK K
  try simp only [qz]
  refine rd1 17 rfl (fun K hK => ?_)
  go_simp
  have hlen : x.l.length + n = (x.l ++ m).length := by rw [List.length_append, hm.out]
  have HS6 := Lib.hid (HS4.out.grown lo x HGET.out HG.out HK.out (l' := x.l ++ m) (by rw [← hlen]; exact HO.out))
  rw [← hlen] at HS6
  have hg6 := HS6.out.g1
  rw [List.length_set, ins_len] at hg6
  refine hK.out _ _ hg6 (fun hHeld => ?_)
  clear hK K hlen hg6
  refine wpAnyH_done (by kernel_rfl) ?_ _
  go_wp2_with (go_at_call 28; refine (operate_N _ HS6.out ho.out h.out ha.out).mono ?_; rintro z w7 ⟨rfl, h7⟩; have HS7 := Lib.hid h7; clear h7)
  go_ret
  have h7 := HS7.out
  rw [ins_set hlo, HX.out] at h7
  exact ⟨rfl, _, _, _, _, _, h7⟩
 ·skip
  go_simp
  refine (ownName_any t hts _).mono ?_
  rintro e v7 ⟨rfl, hb⟩
  replace HZ := Lib.hid (HZ.out.next hb)
  replace HP := Lib.hid (HP.out.keep hb)
  clear hb
  refine hK.out _ _ trivial (fun hHeld => ?_)
  clear hK K
  try simp only [qz]
  refine tks 8 (.agg #[.string t, .slice none 0 0, .int .i64 0]) rfl hHeld ?_
  try simp only [qz]
  refine wpAnyH_ready (rs := [4, 9]) (by kernel_rfl) (by simp) (AllReadyH.cons rfl (fun K hK => ?_) (AllReadyH.cons rfl (fun K hK => ?_) AllReadyH.nil))
  ·skip
   have c1 := HZ.out.g1
   go_simp
   clear c1
   refine hK.out _ _ trivial (fun hHeld => ?_)
   clear hK K
   try simp only [qz]
   refine rd1 9 rfl (fun K hK => ?_)
   go_simp
   obtain ⟨HZ, HP, HC, HNE⟩ := alloc_stepI t HZ HP
   refine hK.out _ _ trivial (fun hHeld => ?_)
   clear hK K
   try simp only [qz]
   refine rd1 10 rfl (fun K hK => ?_)
   go_simp
   refine (insert_any W.heap.size f xs.length fcap lo _ (flat xs) _ _ _ hlo (by omega) _ (Lib.hid HZ.out.below.size) (Lib.hid HZ.out.ownX) (Lib.hid (flat_one xs)) (Lib.hid (one3N t)) HC HNE).mono ?_
   rintro e v10 ⟨F', fcap', rfl, hox, hgr, hblk⟩
   obtain ⟨f', r', rfl, hst⟩ := ins_file hlo HZ.out (apart_empty W _ g f xs t) hox hgr hblk
   have kg := hst.kg
   have cg := hst.cg
   replace HP := Lib.hid (ByAt.grownI HP.out hgr hpf.out)
   have HST := Lib.hid hst
   clear hst hox hgr hblk HZ HC
   refine hK.out _ _ trivial (fun hHeld => ?_)
   clear hK K
   try simp only [qz]
   refine rd1 11 rfl (fun K hK => ?_)
   go_simp
   refine hK.out _ _ trivial (fun hHeld => ?_)
   clear hK K
   try simp only [qz]
   refine rd1 12 rfl (fun K hK => ?_)
   go_simp
   refine hK.out _ _ trivial (fun hHeld => ?_)
   clear hK K
   try simp only [qz]
   refine rd1 13 rfl (fun K hK => ?_)
   go_simp
   have HS3 := Lib.hid HST.out.done
   have HP3 := Lib.hid (ByAt.putI (v := .slice (some ⟨f', 0, none⟩) (xs.length + 1) fcap') HP.out HST.out.st)
   rw [ins_len] at HS3
   refine hK.out _ _ trivial (fun hHeld => ?_)
   clear hK K HST HP cg kg
   refine wpAnyH_done (by kernel_rfl) ?_ _
   have HS4 := Lib.hid (HS3.out.drew)
   have HP4 := Lib.hid (HP3.out.keep (Below.refl _ _).drew)
   clear HS3 HP3 hHeld
   have HGET0 : (ins xs lo (emptyF t))[lo]? = some (emptyF t) := ins_at hlo _
   obtain ⟨x, hx⟩ : ∃ x, x = emptyF t := ⟨_, rfl⟩
   have hxl : Hid (x.l.length = 0) := Lib.hid (by rw [hx]; rfl)
   have HX := Lib.hid hx
   have HGET : Hid ((ins xs lo (emptyF t))[lo]? = some x) := Lib.hid (by rw [hx]; exact HGET0)
   clear hx HGET0
   have hix : (lo : Int) < (xs.length : Int) + 1 := by omega
   have hix2 : lo < xs.length + 1 := by omega
   have hg4 := HS4.out.g1
   rw [ins_len] at hg4
   go_upto_region 9 with fail
   refine wp_region_held_drew (S := fun w => w.cell? ⟨g, 1, none⟩ = some (.slice (some ⟨f', 0, none⟩) (xs.length + 1) fcap')) (by kernel_rfl) hg4 (fun hHeld => ?_)
   clear hg4
   refine tkm 0 (.pointer (some ⟨g, 0, none⟩)) rfl hHeld ?_
   try simp only [qz]
   refine tks 1 (.pointer (some ⟨g, 0, none⟩)) rfl hHeld ?_
   try simp only [qz]
   refine tks 2 (.pointer (some ⟨g, 1, none⟩)) rfl hHeld ?_
   try simp only [qz]
   refine tk 3 (.slice (some ⟨f', 0, none⟩) (xs.length + 1) fcap') rfl (yl rfl 56 (.tmp 62) rfl g 1 rfl _ lv_files (fun w hw => hw)) hHeld ?_
   try simp only [qz]
   refine tkm 4 (.int .i64 (lo : Nat)) rfl hHeld ?_
   try simp only [qz]
   refine tkm 5 (.pointer (some ⟨g, 0, none⟩)) rfl hHeld ?_
   try simp only [qz]
   refine tks 6 (.pointer (some ⟨g, 0, none⟩)) rfl hHeld ?_
   try simp only [qz]
   refine tks 7 (.pointer (some ⟨g, 1, none⟩)) rfl hHeld ?_
   try simp only [qz]
   refine tk 8 (.slice (some ⟨f', 0, none⟩) (xs.length + 1) fcap') rfl (yl rfl 56 (.tmp 67) rfl g 1 rfl _ lv_files (fun w hw => hw)) hHeld ?_
   try simp only [qz]
   refine tkm 9 (.int .i64 (lo : Nat)) rfl hHeld ?_
   try simp only [qz]
   refine tks 10 (.pointer (some ⟨f', lo * 3, none⟩)) rfl hHeld ?_
   try simp only [qz]
   refine tks 11 (.pointer (some ⟨f', lo * 3 + 1, none⟩)) rfl hHeld ?_
   try simp only [qz]
   refine tkm 13 (.slice p n c) rfl hHeld ?_
   try simp only [qz]
   have cf : _ = some (Value.slice x.A x.l.length x.cap) := (HS4.out.files lo x HGET.out).2.2.1
   refine rd1 12 rfl (fun K hK => ?_)
   go_simp
   refine hK.out _ _ hHeld (fun hHeld => ?_)
   clear hK K
   try simp only [qz]
   refine rd1 14 rfl (fun K hK => ?_)
   rw [if_pos (by rfl)]
   refine wp_append_by (.tmp 72) (.tmp 73) rfl W.heap.size x.A x.l.length x.cap x.l rfl (HS4.out.own lo x HGET.out) p n c m rfl hm.out HP4.out (by have := hm.out; have := hxl.out; omega) HS4.out.below.size ?_
   intro A' cap' w5 own hgr hblk
   have hg5 : w5.cell? ⟨g, 1, none⟩ = some (.slice (some ⟨f', 0, none⟩) (xs.length + 1) fcap') := hgr.cell hHeld (fun e => HS4.out.sg lo x HGET.out e.symm)
   have kf5 : w5.frozen? ⟨f', lo * 3 + 1, none⟩ = false := row_frozen ((hgr.block f' (Array.getElem?_eq_some_iff.1 HS4.out.fl).1 (fun e => HS4.out.sf lo x HGET.out e.symm)).trans HS4.out.fl) _
   have cf5 : w5.cell? ⟨f', lo * 3 + 1, none⟩ = some (.slice x.A x.l.length x.cap) := hgr.cell cf (fun e => HS4.out.sf lo x HGET.out e.symm)
   have HO := Lib.hid own
   have HG := Lib.hid hgr
   have HK := Lib.hid hblk
   clear own hgr hblk
   refine hK.out _ _ hg5 (fun hHeld => ?_)
   clear hK K
   try simp only [qz]
   refine rd1 15 rfl (fun K hK => ?_)
   go_simp
   refine hK.out _ _ hHeld (fun hHeld => ?_)
   clear hK K
   try simp only [qz]
   refine rd1 16 rfl (fun K hK => ?_)
   go_simp
   refine hK.out _ _ hHeld (fun hHeld => ?_)
   clear hK K
   try simp only [qz]
   refine rd1 17 rfl (fun K hK => ?_)
   go_simp
   have hlen : x.l.length + n = (x.l ++ m).length := by rw [List.length_append, hm.out]
   have HS6 := Lib.hid (HS4.out.grown lo x HGET.out HG.out HK.out (l' := x.l ++ m) (by rw [← hlen]; exact HO.out))
   rw [← hlen] at HS6
   have hg6 := HS6.out.g1
   rw [List.length_set, ins_len] at hg6
   refine hK.out _ _ hg6 (fun hHeld => ?_)
   clear hK K hlen hg6
   refine wpAnyH_done (by kernel_rfl) ?_ _
   go_wp2_with (go_at_call 28; refine (operate_N _ HS6.out ho.out h.out ha.out).mono ?_; rintro z w7 ⟨rfl, h7⟩; have HS7 := Lib.hid h7; clear h7)
   go_ret
   have h7 := HS7.out
   rw [ins_set hlo, HX.out] at h7
   exact ⟨rfl, _, _, _, _, _, h7⟩
  ·skip
   go_simp
   obtain ⟨HZ, HP, HC, HNE⟩ := alloc_stepI t HZ HP
   refine hK.out _ _ trivial (fun hHeld => ?_)
   clear hK K
   try simp only [qz]
   refine rd1 4 rfl (fun K hK => ?_)
   have c1 := HZ.out.g1
   go_simp
   clear c1
   refine hK.out _ _ trivial (fun hHeld => ?_)
   clear hK K
   try simp only [qz]
   refine rd1 10 rfl (fun K hK => ?_)
   go_simp
   refine (insert_any W.heap.size f xs.length fcap lo _ (flat xs) _ _ _ hlo (by omega) _ (Lib.hid HZ.out.below.size) (Lib.hid HZ.out.ownX) (Lib.hid (flat_one xs)) (Lib.hid (one3N t)) HC HNE).mono ?_
   rintro e v10 ⟨F', fcap', rfl, hox, hgr, hblk⟩
   obtain ⟨f', r', rfl, hst⟩ := ins_file hlo HZ.out (apart_empty W _ g f xs t) hox hgr hblk
   have kg := hst.kg
   have cg := hst.cg
   replace HP := Lib.hid (ByAt.grownI HP.out hgr hpf.out)
   have HST := Lib.hid hst
   clear hst hox hgr hblk HZ HC
   refine hK.out _ _ trivial (fun hHeld => ?_)
   clear hK K
   try simp only [qz]
   refine rd1 11 rfl (fun K hK => ?_)
   go_simp
   refine hK.out _ _ trivial (fun hHeld => ?_)
   clear hK K
   try simp only [qz]
   refine rd1 12 rfl (fun K hK => ?_)
   go_simp
   refine hK.out _ _ trivial (fun hHeld => ?_)
   clear hK K
   try simp only [qz]
   refine rd1 13 rfl (fun K hK => ?_)
   go_simp
   have HS3 := Lib.hid HST.out.done
   have HP3 := Lib.hid (ByAt.putI (v := .slice (some ⟨f', 0, none⟩) (xs.length + 1) fcap') HP.out HST.out.st)
   rw [ins_len] at HS3
   refine hK.out _ _ trivial (fun hHeld => ?_)
   clear hK K HST HP cg kg
   refine wpAnyH_done (by kernel_rfl) ?_ _
   have HS4 := Lib.hid (HS3.out.drew)
   have HP4 := Lib.hid (HP3.out.keep (Below.refl _ _).drew)
   clear HS3 HP3 hHeld
   have HGET0 : (ins xs lo (emptyF t))[lo]? = some (emptyF t) := ins_at hlo _
   obtain ⟨x, hx⟩ : ∃ x, x = emptyF t := ⟨_, rfl⟩
   have hxl : Hid (x.l.length = 0) := Lib.hid (by rw [hx]; rfl)
   have HX := Lib.hid hx
   have HGET : Hid ((ins xs lo (emptyF t))[lo]? = some x) := Lib.hid (by rw [hx]; exact HGET0)
   clear hx HGET0
   have hix : (lo : Int) < (xs.length : Int) + 1 := by omega
   have hix2 : lo < xs.length + 1 := by omega
   have hg4 := HS4.out.g1
   rw [ins_len] at hg4
   go_upto_region 9 with fail
   refine wp_region_held_drew (S := fun w => w.cell? ⟨g, 1, none⟩ = some (.slice (some ⟨f', 0, none⟩) (xs.length + 1) fcap')) (by kernel_rfl) hg4 (fun hHeld => ?_)
   clear hg4
   refine tkm 0 (.pointer (some ⟨g, 0, none⟩)) rfl hHeld ?_
   try simp only [qz]
   refine tks 1 (.pointer (some ⟨g, 0, none⟩)) rfl hHeld ?_
   try simp only [qz]
   refine tks 2 (.pointer (some ⟨g, 1, none⟩)) rfl hHeld ?_
   try simp only [qz]
   refine tk 3 (.slice (some ⟨f', 0, none⟩) (xs.length + 1) fcap') rfl (yl rfl 56 (.tmp 62) rfl g 1 rfl _ lv_files (fun w hw => hw)) hHeld ?_
   try simp only [qz]
   refine tkm 4 (.int .i64 (lo : Nat)) rfl hHeld ?_
   try simp only [qz]
   refine tkm 5 (.pointer (some ⟨g, 0, none⟩)) rfl hHeld ?_
   try simp only [qz]
   refine tks 6 (.pointer (some ⟨g, 0, none⟩)) rfl hHeld ?_
   try simp only [qz]
   refine tks 7 (.pointer (some ⟨g, 1, none⟩)) rfl hHeld ?_
   try simp only [qz]
   refine tk 8 (.slice (some ⟨f', 0, none⟩) (xs.length + 1) fcap') rfl (yl rfl 56 (.tmp 67) rfl g 1 rfl _ lv_files (fun w hw => hw)) hHeld ?_
   try simp only [qz]
   refine tkm 9 (.int .i64 (lo : Nat)) rfl hHeld ?_
   try simp only [qz]
   refine tks 10 (.pointer (some ⟨f', lo * 3, none⟩)) rfl hHeld ?_
   try simp only [qz]
   refine tks 11 (.pointer (some ⟨f', lo * 3 + 1, none⟩)) rfl hHeld ?_
   try simp only [qz]
   refine tkm 13 (.slice p n c) rfl hHeld ?_
   try simp only [qz]
   have cf : _ = some (Value.slice x.A x.l.length x.cap) := (HS4.out.files lo x HGET.out).2.2.1
   refine rd1 12 rfl (fun K hK => ?_)
   go_simp
   refine hK.out _ _ hHeld (fun hHeld => ?_)
   clear hK K
   try simp only [qz]
   refine rd1 14 rfl (fun K hK => ?_)
   rw [if_pos (by rfl)]
   refine wp_append_by (.tmp 72) (.tmp 73) rfl W.heap.size x.A x.l.length x.cap x.l rfl (HS4.out.own lo x HGET.out) p n c m rfl hm.out HP4.out (by have := hm.out; have := hxl.out; omega) HS4.out.below.size ?_
   intro A' cap' w5 own hgr hblk
   have hg5 : w5.cell? ⟨g, 1, none⟩ = some (.slice (some ⟨f', 0, none⟩) (xs.length + 1) fcap') := hgr.cell hHeld (fun e => HS4.out.sg lo x HGET.out e.symm)
   have kf5 : w5.frozen? ⟨f', lo * 3 + 1, none⟩ = false := row_frozen ((hgr.block f' (Array.getElem?_eq_some_iff.1 HS4.out.fl).1 (fun e => HS4.out.sf lo x HGET.out e.symm)).trans HS4.out.fl) _
   have cf5 : w5.cell? ⟨f', lo * 3 + 1, none⟩ = some (.slice x.A x.l.length x.cap) := hgr.cell cf (fun e => HS4.out.sf lo x HGET.out e.symm)
   have HO := Lib.hid own
   have HG := Lib.hid hgr
   have HK := Lib.hid hblk
   clear own hgr hblk
   refine hK.out _ _ hg5 (fun hHeld => ?_)
   clear hK K
   try simp only [qz]
   refine rd1 15 rfl (fun K hK => ?_)
   go_simp
   refine hK.out _ _ hHeld (fun hHeld => ?_)
   clear hK K
   try simp only [qz]
   refine rd1 16 rfl (fun K hK => ?_)
   go_simp
   refine hK.out _ _ hHeld (fun hHeld => ?_)
   clear hK K
   try simp only [qz]
   refine rd1 17 rfl (fun K hK => ?_)
   go_simp
   have hlen : x.l.length + n = (x.l ++ m).length := by rw [List.length_append, hm.out]
   have HS6 := Lib.hid (HS4.out.grown lo x HGET.out HG.out HK.out (l' := x.l ++ m) (by rw [← hlen]; exact HO.out))
   rw [← hlen] at HS6
   have hg6 := HS6.out.g1
   rw [List.length_set, ins_len] at hg6
   refine hK.out _ _ hg6 (fun hHeld => ?_)
   clear hK K hlen hg6
   refine wpAnyH_done (by kernel_rfl) ?_ _
   go_wp2_with (go_at_call 28; refine (operate_N _ HS6.out ho.out h.out ha.out).mono ?_; rintro z w7 ⟨rfl, h7⟩; have HS7 := Lib.hid h7; clear h7)
   go_ret
   have h7 := HS7.out
   rw [ins_set hlo, HX.out] at h7
   exact ⟨rfl, _, _, _, _, _, h7⟩
end Go.Proofs.YtjldamkmdkaiiaaGreatDoor
