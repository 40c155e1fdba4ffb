/-
  Layer files: Append to a file that is there, in a store of many files.
-/
import Derived.Test.YtjldamkmdkaiiaaGreatDoorHbK
import Derived.Test.YtjldamkmdkaiiaaGreatDoorTkK
set_option linter.unusedSimpArgs false
set_option linter.unusedVariables false
set_option maxRecDepth 8000
namespace Go.Proofs.YtjldamkmdkaiiaaGreatDoor
open Go.RowKit Go.WideShapes
theorem OwnS.lt {w : World} {B n cap : Nat} {A : Option Addr} {l : List Nat} (h : OwnS w B A n cap l) (k : Nat) (hk : A.map (·.block) = some k) : k < w.heap.size := by
 rcases h.1.2 with ⟨h1, _⟩ | ⟨a, cap', cur, h1, hb, hrow, -⟩
 ·injection h1 with e1 e2 e3; rw [e1] at hk; cases hk
 ·injection h1 with e1 e2 e3; rw [e1] at hk; simp at hk; subst hk; exact (Array.getElem?_eq_some_iff.1 hrow).1
section
variable {W : Bs} {g f fcap : Nat} {room armed ops : Int} {off : Bool} {r : List Value} {xs : List Fil} {w w' : World}
theorem SN.grown (h : SN W g room off armed ops f fcap r xs w) (k : Nat) (x : Fil) (hx : xs[k]? = some x) {A' : Option Addr} {cap' : Nat} {l' : List Nat} (hg : w.grownBy w' (x.A.map (·.block))) (hA : A'.map (·.block) = x.A.map (·.block) ∨ A'.map (·.block) = some w.heap.size) (own : OwnS w' W.heap.size A' l'.length cap' l') :
  SN W g room off armed ops f fcap r (xs.set k { x with A := A', cap := cap', l := l' }) (w'.setCell ⟨f, k * 3 + 1, none⟩ (.slice A' l'.length cap')) := by
 have hgl := (Array.getElem?_eq_some_iff.1 h.st).1
 have hfl := (Array.getElem?_eq_some_iff.1 h.fl).1
 have e1 : w'.heap[g]? = _ := (hg.block g hgl (fun e => h.sg k x hx e.symm)).trans h.st
 have e2 : w'.heap[f]? = _ := (hg.block f hfl (fun e => h.sf k x hx e.symm)).trans h.fl
 have n1 : A'.map (·.block) ≠ some g := by
  rcases hA with hA | hA
  ·rw [hA]; exact h.sg k x hx
  ·rw [hA]; intro e; injection e; omega
 have n2 : A'.map (·.block) ≠ some f := by
  rcases hA with hA | hA
  ·rw [hA]; exact h.sf k x hx
  ·rw [hA]; intro e; injection e; omega
 have n3 : ∀ (j : Nat) (u : Fil), j ≠ k → xs[j]? = some u → ∀ b, A'.map (·.block) = some b → u.A.map (·.block) ≠ some b := fun j u hj hu b hb => by
  rcases hA with hA | hA
  ·exact h.ap k j x u (Ne.symm hj) hx hu b (hA ▸ hb)
  ·intro e
   have h1 := (h.own j u hu).lt b e
   rw [hA] at hb; injection hb with hb; omega
 refine ⟨gb_set (gb_grown h.below hg (fun b hb => (h.own k x hx).base b hb) (fun b hb => isT_own (h.own k x hx) b hb)) (.inr h.fbase) (isT_fl e2) _ _, h.fbase, h.ne, by rw [List.length_set]; exact row_far (Ne.symm h.ne) e1, ?_, by rw [List.length_set]; exact h.fc, fun j z hz => ?_, fun j z hz => ?_, fun j z hz => ?_, fun i j y z hij hy hz => ?_⟩
 ·rw [← flat_set xs r k x { x with A := A', cap := cap', l := l' } hx 1 (by decide) (.slice A' l'.length cap') rfl]; exact row_set e2 _ _
 ·rcases set_cases hz with ⟨rfl, rfl⟩ | ⟨hj, hu⟩
  ·exact own_far own n2
  ·exact own_far (own_grown (h.own j z hu) hg (fun b hb e => h.ap k j x z (Ne.symm hj) hx hu b e hb)) (h.sf j z hu)
 ·rcases set_cases hz with ⟨rfl, rfl⟩ | ⟨hj, hu⟩
  ·exact n1
  ·exact h.sg j z hu
 ·rcases set_cases hz with ⟨rfl, rfl⟩ | ⟨hj, hu⟩
  ·exact n2
  ·exact h.sf j z hu
 ·rcases set_cases hy with ⟨rfl, rfl⟩ | ⟨hi, hu⟩ <;> rcases set_cases hz with ⟨rfl, rfl⟩ | ⟨hj, hu'⟩
  ·exact absurd rfl hij
  ·exact n3 j z hj hu'
  ·exact fun b hb e => n3 i y hi hu b e hb
  ·exact h.ap i j y z hij hu hu'
set_option maxHeartbeats 4000000 in
theorem append_yes {t : ByteArray} {lo : Nat} {x : Fil} {e armed' : Int} {off' : Bool} (hn : xs.length ≤ 1000) (hs0 : sumN xs ≤ 16777216) (w : World) (hs : Hid (SN W g room false armed ops f fcap r xs w)) (ht : Hid (There xs t lo x)) (ho : Hid (Op1 armed e armed' off')) (h : Hid (0 ≤ ops ∧ ops < 1000000000)) (ha : Hid (armed < 1000000000))
  (p : Option Addr) (n c : Nat) (m : List Nat) (hm : Hid (n = m.length)) (hp : Hid (ByAt w p m)) (hroom : room ≤ 16777216) (hfit : (n : Int) ≤ room - (sumN xs : Nat)) (hr0 : 0 ≤ room) (hxl : x.l.length ≤ 16777216) :
  Calls Tryz.prog 12 #[.pointer (some ⟨g, 0, none⟩), .string t, .slice p n c] w fun z w' => z = .returned (.int .i64 e) ∧ ∃ A' cap', SN W g room off' armed' (ops + 1) f fcap r (xs.set lo { x with A := A', cap := cap', l := x.l ++ m }) w' := by
 have hb := (Below.refl w.heap.size w).alloc (Nat.le_refl _) (.cells #[.string t] 9)
 have h' := hs.out.next hb
 have HP := Lib.hid (hp.out.keep hb)
 have hR := refuses_any1 g w.heap.size t false (w.alloc (.cells #[.string t] 9)) (by simp [World.cell?_alloc_new]) h'.g2
 rw [ht.out.form] at hR
 change Calls _ _ _ _ (fun e w' => e = .returned (.int .i64 0) ∧ _) at hR
 have H := Lib.hid hR
 have hF := find_any g f fcap xs t xs.length (Lib.hid rfl) hn lo (Lib.hid ht.out.place) _ h'.g1 (Lib.hid h'.files)
 rw [ht.out.isAt] at hF
 have HF := Lib.hid hF
 have HS := Lib.hid h'
 have hlo := ht.out.lt
 clear h' hb hs hp hR hF
 go_enter Tryz.func12, Tryz.ntmps12
 go_upto_region 5 with (first
  | (go_at_call 24; refine H.out.mono ?_; rintro e w' ⟨rfl, rfl⟩)
  | (go_at_call 25; refine HF.out.mono ?_; rintro e w1 ⟨rfl, hb⟩; have HS1 := Lib.hid (HS.out.next hb); have HP1 := Lib.hid (HP.out.keep hb); clear hb))
 have HU : Hid (∀ w, Hid (SN W g room false armed ops f fcap r xs w) → Calls Tryz.prog 18 #[.pointer (some ⟨g, 0, none⟩)] w fun e w' => e = .returned (.int .i64 (sumN xs : Nat)) ∧ Below w.heap.size w w') := Lib.hid fun w hs => used_any g f fcap xs xs.length (Lib.hid rfl) hn (by omega) w hs.out.g1 (Lib.hid hs.out.files)
 generalize sumN xs = S at *
 have hwr : IntKind.i64.wrap (room - (S : Int)) = room - (S : Int) := IntWalk.i64_in _ (by omega)
 have hdec : decide (room - (S : Int) < (n : Int)) = false := by simp; omega
 have HS2 := Lib.hid HS1.out.drew
 have HP2 := Lib.hid (HP1.out.keep (Below.refl _ _).drew)
 clear HS HS1 HP HP1 H HF
 refine wp_region_held_drew (S := fun w => w.cell? ⟨g, 0, none⟩ = some (.int .i64 room)) (by kernel_rfl) HS2.out.g0 (fun hHeld => ?_)
 refine tkm 0 (.slice p n c) rfl hHeld ?_
 try simp only [qz]
 refine tks 1 (.int .i64 (n : Nat)) rfl hHeld ?_
 try simp only [qz]
 refine tkm 2 (.pointer (some ⟨g, 0, none⟩)) rfl hHeld ?_
 try simp only [qz]
 refine tks 3 (.pointer (some ⟨g, 0, none⟩)) rfl hHeld ?_
 try simp only [qz]
 refine tks 4 (.pointer (some ⟨g, 0, none⟩)) rfl hHeld ?_
 try simp only [qz]
 refine tk 5 (.int .i64 room) rfl (yl rfl 3 (.tmp 27) rfl g 0 rfl _ lv_int (fun w hw => hw)) hHeld ?_
 try simp only [qz]
 refine tkm 6 (.pointer (some ⟨g, 0, none⟩)) rfl hHeld ?_
 try simp only [qz]
 refine rd1 7 rfl (fun K hK => ?_)
 go_simp
 refine (HU.out _ HS2).mono ?_
 rintro e w2 ⟨rfl, hb⟩
 replace hHeld := (hb.cell (p := ⟨g, 0, none⟩) (lt_of_cell hHeld)).trans hHeld
 have HS3 := Lib.hid (HS2.out.next hb)
 have HP3 := Lib.hid (HP2.out.keep hb)
 clear hb
 refine hK.out _ _ hHeld (fun hHeld => ?_)
 clear hK K
 try simp only [qz]
 refine rd1 8 rfl (fun K hK => ?_)
 go_simp
 refine hK.out _ _ hHeld (fun hHeld => ?_)
 clear hK K
 try simp only [qz]
 refine rd1 9 rfl (fun K hK => ?_)
 go_simp
 refine hK.out _ _ hHeld (fun hHeld => ?_)
 clear hK K
 try simp only [qz]
 refine rd1 10 rfl (fun K hK => ?_)
 go_simp
 refine hK.out _ _ hHeld (fun hHeld => ?_)
 clear hK K
 try simp only [qz]
 refine tkm 11 (.bool true) rfl hHeld ?_
 try simp only [qz]
 refine tkm 12 (.bool false) rfl hHeld ?_
 try simp only [qz]
 refine tkm 13 (.bool false) rfl hHeld ?_
 try simp only [qz]
 refine tk 14 undef rfl (Or.inr ⟨by rfl, rfl⟩) hHeld ?_
 try simp only [qz]
 refine tk 15 undef rfl (Or.inr ⟨by rfl, rfl⟩) hHeld ?_
 try simp only [qz]
 refine tk 16 undef rfl (Or.inr ⟨by rfl, rfl⟩) hHeld ?_
 try simp only [qz]
 refine tk 17 undef rfl (Or.inr ⟨by rfl, rfl⟩) hHeld ?_
 try simp only [qz]
 refine tk 18 undef rfl (Or.inr ⟨by rfl, rfl⟩) hHeld ?_
 try simp only [qz]
 refine tk 19 undef rfl (Or.inr ⟨by rfl, rfl⟩) hHeld ?_
 try simp only [qz]
 refine tkm 20 (.bool false) rfl hHeld ?_
 try simp only [qz]
 refine tkm 21 (.bool false) rfl hHeld ?_
 try simp only [qz]
 refine wpAnyH_done (by kernel_rfl) ?_ _
 clear hwr hdec HS2 HP2
 have HS4 := Lib.hid HS3.out.drew
 have HP4 := Lib.hid (HP3.out.keep (Below.refl _ _).drew)
 clear HS3 HP3 hHeld
 go_upto_region 9 with fail
 refine wp_region_held_drew (S := fun w => w.cell? ⟨g, 1, none⟩ = some (.slice (some ⟨f, 0, none⟩) xs.length fcap)) (by kernel_rfl) HS4.out.g1 (fun hHeld => ?_)
 refine tkm 0 (.pointer (some ⟨g, 0, none⟩)) rfl hHeld ?_
 try simp only [qz]
 refine tks 1 (.pointer (some ⟨g, 0, none⟩)) rfl hHeld ?_
 try simp only [qz]
 refine tks 2 (.pointer (some ⟨g, 1, none⟩)) rfl hHeld ?_
 try simp only [qz]
 refine tk 3 (.slice (some ⟨f, 0, none⟩) xs.length fcap) rfl (yl rfl 56 (.tmp 62) rfl g 1 rfl _ lv_files (fun w hw => hw)) hHeld ?_
 try simp only [qz]
 refine tkm 4 (.int .i64 (lo : Nat)) rfl hHeld ?_
 try simp only [qz]
 refine tkm 5 (.pointer (some ⟨g, 0, none⟩)) rfl hHeld ?_
 try simp only [qz]
 refine tks 6 (.pointer (some ⟨g, 0, none⟩)) rfl hHeld ?_
 try simp only [qz]
 refine tks 7 (.pointer (some ⟨g, 1, none⟩)) rfl hHeld ?_
 try simp only [qz]
 refine tk 8 (.slice (some ⟨f, 0, none⟩) xs.length fcap) rfl (yl rfl 56 (.tmp 67) rfl g 1 rfl _ lv_files (fun w hw => hw)) hHeld ?_
 try simp only [qz]
 refine tkm 9 (.int .i64 (lo : Nat)) rfl hHeld ?_
 try simp only [qz]
 refine tks 10 (.pointer (some ⟨f, lo * 3, none⟩)) rfl hHeld ?_
 try simp only [qz]
 refine tks 11 (.pointer (some ⟨f, lo * 3 + 1, none⟩)) rfl hHeld ?_
 try simp only [qz]
 refine tkm 13 (.slice p n c) rfl hHeld ?_
 try simp only [qz]
 have cf := (HS4.out.files lo x ht.out.get).2.2.1
 refine rd1 12 rfl (fun K hK => ?_)
 go_simp
 refine hK.out _ _ hHeld (fun hHeld => ?_)
 clear hK K
 try simp only [qz]
 refine rd1 14 rfl (fun K hK => ?_)
 rw [if_pos (by rfl)]
 refine wp_append_by (.tmp 72) (.tmp 73) rfl W.heap.size x.A x.l.length x.cap x.l rfl (HS4.out.own lo x ht.out.get) p n c m rfl hm.out HP4.out (by have := hm.out; omega) HS4.out.below.size ?_
 intro A' cap' w5 own hgr hblk
 have hg5 : w5.cell? ⟨g, 1, none⟩ = some (.slice (some ⟨f, 0, none⟩) xs.length fcap) := hgr.cell hHeld (fun e => HS4.out.sg lo x ht.out.get e.symm)
 have kf5 : w5.frozen? ⟨f, lo * 3 + 1, none⟩ = false := row_frozen ((hgr.block f (Array.getElem?_eq_some_iff.1 HS4.out.fl).1 (fun e => HS4.out.sf lo x ht.out.get e.symm)).trans HS4.out.fl) _
 have cf5 : w5.cell? ⟨f, lo * 3 + 1, none⟩ = some (.slice x.A x.l.length x.cap) := hgr.cell (HS4.out.files lo x ht.out.get).2.2.1 (fun e => HS4.out.sf lo x ht.out.get e.symm)
 have HO := Lib.hid own
 have HG := Lib.hid hgr
 have HK := Lib.hid hblk
 clear own hgr hblk
 refine hK.out _ _ hg5 (fun hHeld => ?_)
 clear hK K
 try simp only [qz]
 refine rd1 15 rfl (fun K hK => ?_)
 go_simp
 refine hK.out _ _ hHeld (fun hHeld => ?_)
 clear hK K
 try simp only [qz]
 refine rd1 16 rfl (fun K hK => ?_)
 go_simp
 refine hK.out _ _ hHeld (fun hHeld => ?_)
 clear hK K
 try simp only [qz]
 refine rd1 17 rfl (fun K hK => ?_)
 go_simp
 have hlen : x.l.length + n = (x.l ++ m).length := by rw [List.length_append, hm.out]
 have HS6 := Lib.hid (HS4.out.grown lo x ht.out.get HG.out HK.out (l' := x.l ++ m) (by rw [← hlen]; exact HO.out))
 rw [← hlen] at HS6
 have hg6 := HS6.out.g1
 rw [List.length_set] at hg6
 refine hK.out _ _ hg6 (fun hHeld => ?_)
 clear hK K hlen hg6
 refine wpAnyH_done (by kernel_rfl) ?_ _
 go_wp2_with (go_at_call 28; refine (operate_N _ HS6.out ho.out h.out ha.out).mono ?_; rintro z w7 ⟨rfl, h7⟩; have HS7 := Lib.hid h7; clear h7)
 go_ret
 exact ⟨rfl, _, _, HS7.out⟩
end
end Go.Proofs.YtjldamkmdkaiiaaGreatDoor
