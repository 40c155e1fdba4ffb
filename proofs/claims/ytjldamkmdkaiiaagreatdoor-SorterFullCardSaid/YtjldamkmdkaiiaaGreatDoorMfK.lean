/-
  Layer merge: New.
-/
import Derived.BigRegion
import Derived.Test.YtjldamkmdkaiiaaGreatDoorCrK
import Derived.Shelf.SlicesE.Clone
import Derived.Laws.OwnMore
import Derived.Test.YtjldamkmdkaiiaaGreatDoorTkK
set_option linter.unusedSimpArgs false
set_option linter.unusedVariables false
set_option maxRecDepth 8000
namespace Go.Proofs.YtjldamkmdkaiiaaGreatDoor
open Go.RowKit Go.Sort
abbrev At2 (a b : Nat) : Nat → Prop := fun k => k = a ∨ k = b
section
variable {w w' : World} {B t rb lb n cr cl win : Nat} {L : Nat → Nat} {Rs : List (List Ev)}
theorem TreeM.setW (h : TreeM w B t rb lb n cr cl win L Rs) (v : Nat) : TreeM (w.setCell ⟨t, 1, none⟩ (.int .i64 (v : Int))) B t rb lb n cr cl v L Rs := by
 have hk : Kept (At1 t) w (w.setCell ⟨t, 1, none⟩ (.int .i64 (v : Int))) := (Kept.refl _ _).setCell _ _ (.inl rfl)
 refine ⟨?_, h.rrow.set, h.lrow.set, fun j l hj => ?_, fun j hj => ?_, h.len, h.pos, h.few, h.small, h.caps, h.bt, h.br, h.bl, h.tr, h.tl, h.rl⟩
 ·rw [World.setCell]; simp [Array.getElem?_modify, h.row]
 ·obtain ⟨A, c, h1, h2, h3, h4, h5, h6⟩ := h.runs j l hj
  exact ⟨A, c, (hk.cell (p := ⟨rb, j, none⟩) h.rrow.lt (fun e => h.tr e.symm)).trans h1, h2, h3, h4, h5.keptE hk (fun a ha h0 e => by have h7 := h6 a ha h0; have h8 := h.bt; have e : a.block = t := e; omega), h6⟩
 ·exact (hk.cell (p := ⟨lb, j, none⟩) h.lrow.lt (fun e => h.tl e.symm)).trans (h.los j hj)
end
def RRp (B t rb lb n cr cl : Nat) (Rs : List (List Ev)) (w : World) (v : Value) (wr : World) : Prop :=
 ∃ (c win : Nat) (L V : Nat → Nat), 0 < c ∧ c < 2 * n ∧ v = .int .i64 ((c / 2 : Nat) : Int) ∧ Mid ltM (rsF Rs) n L V c ∧ V c = win ∧ TreeM wr B t rb lb n cr cl win L Rs ∧ Kept (At2 t lb) w wr
def Replayed (B t rb lb n cr cl : Nat) (Rs : List (List Ev)) (w : World) (e : Ending) (w' : World) : Prop :=
 e = .returned (.tuple #[]) ∧ ∃ (win : Nat) (L V : Nat → Nat), TreeM w' B t rb lb n cr cl win L Rs ∧ Tour ltM (rsF Rs) n L V ∧ V 1 = win ∧ Kept (At2 t lb) w w'
set_option maxHeartbeats 8000000 in
theorem replay_any (B t rb lb n cr cl i : Nat) (L V : Nat → Nat) (Rs : List (List Ev)) (hi : i < n) (HM : Hid (Mid ltM (rsF Rs) n L V (n + i))) (w : World) (HT : Hid (TreeM w B t rb lb n cr cl i L Rs)) :
  Calls Tryz.prog 111 #[.pointer (some ⟨t, 0, none⟩)] w (Replayed B t rb lb n cr cl Rs w) := by
 have hn16 := HT.out.few
 have hcr := HT.out.caps.1
 obtain ⟨c0, hc0⟩ : ∃ c0, c0 = n + i := ⟨_, rfl⟩
 obtain ⟨d0, hd0⟩ : ∃ d0, d0 = c0 / 2 := ⟨_, rfl⟩
 have hc0i : (n : Int) + (i : Int) = (c0 : Int) := by omega
 have hd0i : (c0 : Int) / 2 = (d0 : Int) := by omega
 have hd0t : (c0 : Int).tdiv 2 = (d0 : Int) := by rw [Int.tdiv_eq_ediv_of_nonneg (by omega)]; exact hd0i
 have hcw : IntKind.i64.wrap (c0 : Int) = (c0 : Int) := by rw [IntKind.wrap_i64]; omega
 have hdw : IntKind.i64.wrap (d0 : Int) = (d0 : Int) := by rw [IntKind.wrap_i64]; omega
 have HST : Hid (∀ w2, Below w.heap.size w w2 → RRp B t rb lb n cr cl Rs w (.int .i64 (d0 : Int)) w2) := Lib.hid fun w2 hb => ⟨c0, i, L, V, by omega, by omega, by rw [hd0], by rw [hc0]; exact HM.out, by rw [hc0, HM.out.leaf _ (by omega) (by omega)]; omega, HT.out.below hb, Kept.of_below hb⟩
 clear hc0 hd0
 go_enter Tryz.func111, Tryz.ntmps111
 go_upto_region 0 with fail
 have hh0 : Below w.heap.size w w.drew := (Below.refl _ _).drew
 refine wp_region_held_drew (S := fun w2 => Below w.heap.size w w2) (by kernel_rfl) hh0 (fun hHeld => ?_)
 refine tkm 0 (.pointer (some ⟨t, 0, none⟩)) rfl hHeld ?_
 try simp only [qz]
 refine tks 1 (.pointer (some ⟨t, 0, none⟩)) rfl hHeld ?_
 try simp only [qz]
 refine tks 2 (.pointer (some ⟨t, 0, none⟩)) rfl hHeld ?_
 try simp only [qz]
 refine tk 3 (.slice (some ⟨rb, 0, none⟩) n cr) rfl (Or.inl ⟨by rfl, fun w hw => by have hc : w.cell? ⟨t, 0, none⟩ = some (.slice (some ⟨rb, 0, none⟩) n cr) := (hw.cell (p := ⟨t, 0, none⟩) HT.out.lt).trans HT.out.c0; go_simp⟩) hHeld ?_
 try simp only [qz]
 refine tks 4 (.int .i64 (n : Int)) rfl hHeld ?_
 try simp only [qz]
 refine tkm 5 (.pointer (some ⟨t, 0, none⟩)) rfl hHeld ?_
 try simp only [qz]
 refine tks 6 (.pointer (some ⟨t, 0, none⟩)) rfl hHeld ?_
 try simp only [qz]
 refine tks 7 (.pointer (some ⟨t, 1, none⟩)) rfl hHeld ?_
 try simp only [qz]
 refine tk 8 (.int .i64 (i : Int)) rfl (Or.inl ⟨by rfl, fun w hw => by have hc : w.cell? ⟨t, 1, none⟩ = some (.int .i64 (i : Int)) := (hw.cell (p := ⟨t, 1, none⟩) HT.out.lt).trans HT.out.c1; go_simp⟩) hHeld ?_
 try simp only [qz]
 refine tks 9 (.int .i64 (c0 : Int)) rfl hHeld ?_
 try simp only [qz]
 refine tk 10 (.int .i64 (d0 : Int)) rfl (Or.inl ⟨by rfl, fun w _ => by go_simp; try omega⟩) hHeld ?_
 try simp only [qz]
 refine rd1 11 rfl (fun K hK => ?_)
 go_simp
 refine hK.out _ _ hHeld (fun hHeld => ?_)
 clear hK K
 refine wpAnyH_done (by kernel_rfl) ?_ _
 have HB1 := Lib.hid hHeld
 clear hHeld hh0 hc0i hd0i hd0t hcw hdw
 go_wp2
 go_loopw [2] (fun v wr => RRp B t rb lb n cr cl Rs w v wr) (fun v _ => (intOf v).toNat)
 case atStart => exact HST.out _ HB1.out
 case round =>
  obtain ⟨c, win, L2, V2, hc0, hcn, rfl, hmid, hVc, ht, hk⟩ := hrel
  have HT2 := Lib.hid ht; have HMID := Lib.hid hmid; have HK2 := Lib.hid hk; have HVC := Lib.hid hVc
  clear ht hmid hk hVc HST HB1 HT HM
  obtain ⟨nd, hnd⟩ : ∃ nd, nd = c / 2 := ⟨_, rfl⟩
  rw [← hnd]
  by_cases h1 : c = 1
  ·have hn0 : nd = 0 := by omega
   subst h1
   subst hn0
   go_wp2
   exact bodyPost_ret (results_none rfl _ _ _) rfl ⟨rfl, win, L2, V2, HT2.out, HMID.out.done, HVC.out, HK2.out⟩
  ·have hndp : (0 : Int) < (nd : Int) := by omega
   have hndn : (nd : Int) < (n : Int) := by omega
   have hnd1 : nd < n := by omega
   have hnd0 : 0 < nd := by omega
   obtain ⟨x, hx⟩ : ∃ x, x = L2 nd := ⟨_, rfl⟩
   have HCX : Hid (wr.cell? ⟨lb, nd, none⟩ = some (.int .i64 (x : Int))) := Lib.hid (by rw [hx]; exact HT2.out.los nd hnd1)
   have hxn : x < n := by rw [hx, hnd]; exact HMID.out.lst (by omega) hcn
   have hwn : win < n := by rw [← HVC.out]; exact HMID.out.at hc0 hcn
   have HAH := Lib.hid (ahead_any B t rb lb n cr cl win L2 Rs x win hxn hwn wr.drew (Lib.hid (HT2.out.below ((Below.refl _ _).drew))))
   obtain ⟨xw, hxw⟩ : ∃ xw, ah ltM (rsF Rs) x win = xw := ⟨_, rfl⟩
   have HXW := Lib.hid hxw
   have HSTEP : Hid (if xw = true then Mid ltM (rsF Rs) n (upd L2 nd win) (upd V2 nd x) nd else Mid ltM (rsF Rs) n L2 (upd V2 nd win) nd) := Lib.hid (by
    have := HMID.out.step wkE (by omega) hcn
    rw [← hnd, ← hx, HVC.out, hxw] at this; exact this)
   have HND := Lib.hid hnd
   clear hnd hx hxw
   go_upto_region 3 with fail
   have hh0 : Below wr.heap.size wr wr.drew := (Below.refl _ _).drew
   refine wp_region_held_drew (S := fun w2 => Below wr.heap.size wr w2) (by kernel_rfl) hh0 (fun hHeld => ?_)
   refine tkm 0 (.pointer (some ⟨t, 0, none⟩)) rfl hHeld ?_
   try simp only [qz]
   refine tkm 1 (.pointer (some ⟨t, 0, none⟩)) rfl hHeld ?_
   try simp only [qz]
   refine tks 2 (.pointer (some ⟨t, 0, none⟩)) rfl hHeld ?_
   try simp only [qz]
   refine tks 3 (.pointer (some ⟨t, 2, none⟩)) rfl hHeld ?_
   try simp only [qz]
   refine tk 4 (.slice (some ⟨lb, 0, none⟩) n cl) rfl (Or.inl ⟨by rfl, fun w hw => by have hc : w.cell? ⟨t, 2, none⟩ = some (.slice (some ⟨lb, 0, none⟩) n cl) := (hw.cell (p := ⟨t, 2, none⟩) HT2.out.lt).trans HT2.out.c2; go_simp⟩) hHeld ?_
   try simp only [qz]
   refine tkm 5 (.int .i64 (nd : Int)) rfl hHeld ?_
   try simp only [qz]
   refine tks 6 (.pointer (some ⟨lb, nd, none⟩)) rfl hHeld ?_
   try simp only [qz]
   refine tk 7 (.int .i64 (x : Int)) rfl (Or.inl ⟨by rfl, fun w hw => by have hc : w.cell? ⟨lb, nd, none⟩ = some (.int .i64 (x : Int)) := (hw.cell (p := ⟨lb, nd, none⟩) HT2.out.lrow.lt).trans HCX.out; go_simp⟩) hHeld ?_
   try simp only [qz]
   refine tkm 8 (.pointer (some ⟨t, 0, none⟩)) rfl hHeld ?_
   try simp only [qz]
   refine tks 9 (.pointer (some ⟨t, 0, none⟩)) rfl hHeld ?_
   try simp only [qz]
   refine tks 10 (.pointer (some ⟨t, 1, none⟩)) rfl hHeld ?_
   try simp only [qz]
   refine tk 11 (.int .i64 (win : Int)) rfl (Or.inl ⟨by rfl, fun w hw => by have hc : w.cell? ⟨t, 1, none⟩ = some (.int .i64 (win : Int)) := (hw.cell (p := ⟨t, 1, none⟩) HT2.out.lt).trans HT2.out.c1; go_simp⟩) hHeld ?_
   try simp only [qz]
   refine rd1 12 rfl (fun K hK => ?_)
   go_simp
   refine (HAH.out).mono ?_
   rintro e w5 ⟨rfl, hb5⟩
   rw [HXW.out]
   refine hK.out _ _ (bto ((Below.refl wr.heap.size wr).drew) hb5) (fun hHeld => ?_)
   clear hK K
   refine wpAnyH_done (by kernel_rfl) ?_ _
   have HT5 := Lib.hid (HT2.out.below hHeld)
   have HK5 := Lib.hid (HK2.out.trans (Kept.of_below hHeld))
   clear hHeld hh0
   cases xw
   ·go_wp2
    go_roundw
    case rel => exact ⟨nd, win, L2, upd V2 nd win, hnd0, by omega, by go_num, by simpa using HSTEP.out, upd_at .., HT5.out, HK5.out⟩
    case measure => simp [intOf]; omega
   ·have c1 := HT5.out.c1
    have c2 := HT5.out.c2
    have f1 := HT5.out.fr 1
    have fl := HT5.out.lrow.fr nd
    have htl : ¬ t = lb := HT5.out.tl
    have htl' : ¬ lb = t := fun e => HT5.out.tl e.symm
    have hcx : w5.cell? ⟨lb, nd, none⟩ = some (.int .i64 (x : Int)) := by
     rw [HT5.out.los nd hnd1, ← HT2.out.los nd hnd1]; exact HCX.out
    go_upto_region 4 with fail
    go_region
    go_wp2
    go_roundw
    case rel => exact ⟨nd, x, upd L2 nd win, upd V2 nd x, hnd0, by omega, by go_num, by simpa using HSTEP.out, upd_at .., ((HT5.out.setL nd win hnd1).setW x).below ((Below.refl _ _).drew), ((HK5.out.setCell _ _ (.inl (.inr rfl))).setCell _ _ (.inl (.inl rfl))).drew⟩
    case measure => simp [intOf]; omega
section
variable {α : Type} (lt : α → α → Bool)
def ordB : List α → Bool
 | [] => true
 | [_] => true
 | x :: y :: r => !lt y x && ordB (y :: r)
variable {lt}
theorem ordB_get {l : List α} (h : ordB lt l = true) : ∀ (i : Nat) (x y : α), l[i]? = some x → l[i + 1]? = some y → lt y x = false := by
 induction l with
 | nil => intro i x y h1; simp at h1
 | cons a r ih =>
  intro i x y h1 h2
  rcases r with _ | ⟨b, r⟩
  ·simp at h2
  ·rw [ordB, Bool.and_eq_true] at h
   rcases i with _ | i
   ·simp at h1 h2; subst h1; subst h2; simpa using h.1
   ·exact ih h.2 i x y (by simpa using h1) (by simpa using h2)
theorem ordB_of {l : List α} (h : ∀ (i : Nat) (x y : α), l[i]? = some x → l[i + 1]? = some y → lt y x = false) : ordB lt l = true := by
 induction l with
 | nil => rfl
 | cons a r ih =>
  rcases r with _ | ⟨b, r⟩
  ·rfl
  ·rw [ordB, Bool.and_eq_true]
   exact ⟨by simpa using h 0 a b rfl rfl, ih fun i x y h1 h2 => h (i + 1) x y (by simpa using h1) (by simpa using h2)⟩
theorem ordB_iff (W : Wk lt) (l : List α) : ordB lt l = true ↔ Ordered lt l := by
 constructor
 ·intro h
  induction l with
  | nil => exact List.Pairwise.nil
  | cons a r ih =>
   rcases r with _ | ⟨b, r⟩
   ·exact List.pairwise_singleton _ _
   ·rw [ordB, Bool.and_eq_true] at h
    have h2 := ih h.2
    rw [Ordered, List.pairwise_cons]
    refine ⟨fun y hy => ?_, h2⟩
    have h1 : lt b a = false := by simpa using h.1
    rcases List.mem_cons.1 hy with rfl | hy
    ·exact h1
    ·rw [Ordered, List.pairwise_cons] at h2
     exact W.nt _ _ _ (h2.1 y hy) h1
 ·intro h
  refine ordB_of fun i x y h1 h2 => ?_
  obtain ⟨hi, rfl⟩ := List.getElem?_eq_some_iff.1 h1
  obtain ⟨hj, rfl⟩ := List.getElem?_eq_some_iff.1 h2
  exact List.pairwise_iff_getElem.1 h i (i + 1) hi hj (by omega)
end
set_option maxHeartbeats 4000000 in
theorem inOrder_any (a : Option Addr) (n c : Nat) (l : List Ev) (hn : Hid (n = l.length)) (h1 : n ≤ 1000) (hnc : n ≤ c) (W : World) (HA : Hid (EvAt W a l)) :
  Calls Tryz.prog 108 #[.slice a n c] W fun e w' => e = .returned (.bool (ordB ltM l)) ∧ Below W.heap.size W w' := by
 go_enter Tryz.func108, Tryz.ntmps108
 go_wp2
 go_loopw [3] (fun v wr => ∃ i : Nat, 1 ≤ i ∧ (i ≤ n ∨ i = 1) ∧ v = .int .i64 (i : Int) ∧ (∀ (j : Nat) (x y : Ev), j + 1 < i → l[j]? = some x → l[j + 1]? = some y → ltM y x = false) ∧ Below W.heap.size W wr) (fun v _ => n - (intOf v).toNat)
 case atStart => exact ⟨1, Nat.le_refl _, .inr rfl, rfl, fun j x y h => by omega, Below.refl _ _⟩
 case round =>
  obtain ⟨i, hi1, hi2, rfl, hall, hb⟩ := hrel
  have HALL := Lib.hid hall; have HB := Lib.hid hb
  clear hall hb
  by_cases hin : i < n
  ·obtain ⟨j, hj⟩ : ∃ j, i = j + 1 := ⟨i - 1, by omega⟩
   have hll := hn.out
   obtain ⟨x, hx⟩ : ∃ x, l[j]? = some x := ⟨_, List.getElem?_eq_getElem (by omega)⟩
   obtain ⟨y, hy⟩ : ∃ y, l[i]? = some y := ⟨_, List.getElem?_eq_getElem (by omega)⟩
   obtain ⟨g, off, rfl, hg, hrx⟩ := evr HA.out j x hx
   obtain ⟨g', off', e, hg', hry⟩ := evr HA.out i y hy
   injection e with e; injection e with e1 e2; subst e1; subst e2
   have HRX : Hid (∀ w2, Below wr.heap.size wr w2 → w2.rangeAt g (off + j * 5) x.cells) := Lib.hid fun w2 h => rkeep hrx hg (HB.out.trans (h.mono HB.out.size))
   have HRY : Hid (∀ w2, Below wr.heap.size wr w2 → w2.rangeAt g (off + i * 5) y.cells) := Lib.hid fun w2 h => rkeep hry hg (HB.out.trans (h.mono HB.out.size))
   obtain ⟨yx, hyx⟩ : ∃ yx, lessB y x = yx := ⟨_, rfl⟩
   have HL := Lib.hid hyx; have HX := Lib.hid hx; have HY := Lib.hid hy; have HJ := Lib.hid hj
   have hini : (i : Int) < (n : Int) := by omega
   have hji : (i : Int) - 1 = (j : Int) := by omega
   have hjn : (j : Int) < (n : Int) := by omega
   have hjw : IntKind.i64.wrap (j : Int) = (j : Int) := by rw [IntKind.wrap_i64]; omega
   clear hx hy hrx hry hg hg' hyx hj hll
   go_upto_region 4 with fail
   have hh0 : Below wr.heap.size wr wr.drew := (Below.refl _ _).drew
   refine wp_region_held_drew (S := fun w2 => Below wr.heap.size wr w2) (by kernel_rfl) hh0 (fun hHeld => ?_)
   refine tkm 0 (.slice (some ⟨g, off, none⟩) n c) rfl hHeld ?_
   try simp only [qz]
   refine tkm 1 (.int .i64 (i : Int)) rfl hHeld ?_
   try simp only [qz]
   refine tks 2 (.pointer (some ⟨g, off + i * 5, none⟩)) rfl hHeld ?_
   try simp only [qz]
   refine tk 3 (.agg y.cells.toArray) rfl (yieldsIf_load_mid rfl 51 (.tmp 12) rfl g (off + i * 5) rfl y.cells _ (fun w hw => HRY.out w hw) uEvent rfl (iEvent y)) hHeld ?_
   try simp only [qz]
   refine tkm 4 (.slice (some ⟨g, off, none⟩) n c) rfl hHeld ?_
   try simp only [qz]
   refine tkm 5 (.int .i64 (i : Int)) rfl hHeld ?_
   try simp only [qz]
   refine tk 6 (.int .i64 (j : Int)) rfl (Or.inl ⟨by rfl, fun w _ => by go_simp; try omega⟩) hHeld ?_
   try simp only [qz]
   refine tk 7 (.pointer (some ⟨g, off + j * 5, none⟩)) rfl (Or.inl ⟨by rfl, fun w _ => by go_simp; try omega⟩) hHeld ?_
   try simp only [qz]
   refine tk 8 (.agg x.cells.toArray) rfl (yieldsIf_load_mid rfl 51 (.tmp 17) rfl g (off + j * 5) rfl x.cells _ (fun w hw => HRX.out w hw) uEvent rfl (iEvent x)) hHeld ?_
   try simp only [qz]
   refine rd1 9 rfl (fun K hK => ?_)
   go_simp
   refine (evLess_any y x _).mono ?_
   rintro e w9 ⟨rfl, hb9⟩
   rw [HL.out]
   refine hK.out _ _ (bto hHeld hb9) (fun hHeld => ?_)
   clear hK K
   refine wpAnyH_done (by kernel_rfl) ?_ _
   have HB9 := Lib.hid (bto HB.out hHeld)
   clear hHeld hh0
   cases yx
   ·go_wp2
    go_roundw
    case rel => exact ⟨i + 1, by omega, .inl (by omega), by go_num, fun j2 x2 y2 g1 g2 g3 => by
     by_cases e : j2 + 1 = i
     ·have e2 : j2 = j := by have := HJ.out; omega
      subst e2
      rw [HX.out] at g2; injection g2 with g2; subst g2
      rw [e, HY.out] at g3; injection g3 with g3; subst g3
      exact HL.out
     ·exact HALL.out j2 x2 y2 (by omega) g2 g3, HB9.out⟩
    case measure => simp [intOf]; omega
   ·have HNO : Hid (ordB ltM l = false) := Lib.hid (by
     rcases h : ordB ltM l with _ | _
     ·rfl
     ·have h2 := ordB_get h j x y HX.out (HJ.out ▸ HY.out)
      rw [ltM_less, HL.out] at h2; cases h2)
    go_wp2
    go_ret
    exact ⟨ret_eq (by rw [HNO.out]; rfl), HB9.out⟩
  ·have HYES : Hid (ordB ltM l = true) := Lib.hid (ordB_of fun j x y g1 g2 => HALL.out j x y (by
    have := (List.getElem?_eq_some_iff.1 g2).1
    have := hn.out; omega) g1 g2)
   go_wp2
   go_ret
   exact ⟨ret_eq (by rw [HYES.out]; rfl), HB.out⟩
structure Sl where
 A : Option Addr
 c : Nat
 l : List Ev
def Sl.v (s : Sl) : Value := .slice s.A s.l.length s.c
def slV (Ss : List Sl) : List Value := Ss.map Sl.v
def slL (Ss : List Sl) : List (List Ev) := Ss.map Sl.l
theorem slV_one (Ss : List Sl) : ∀ u ∈ slV Ss, u.oneCell' = true := fun u hu => by
 obtain ⟨s, -, rfl⟩ := List.mem_map.1 hu; rfl
structure SlOk (w : World) (s : Sl) : Prop where
 cap : s.l.length ≤ s.c
 cap' : s.c ≤ maxLen
 nil : s.A = none → s.c = 0
 at' : EvAt w s.A s.l
 small : s.l.length ≤ 1000
theorem SlOk.keep {w w' : World} {s : Sl} (h : SlOk w s) (hb : Below w.heap.size w w') : SlOk w' s := ⟨h.cap, h.cap', h.nil, h.at'.keep hb, h.small⟩
theorem SlOk.low {w : World} {s : Sl} (h : SlOk w s) : ∀ a, s.A = some a → 0 < s.l.length → a.block < w.heap.size := fun a ha h0 => by
 obtain ⟨x, hx⟩ : ∃ x, s.l[0]? = some x := ⟨_, List.getElem?_eq_getElem h0⟩
 obtain ⟨g, off, e, hg, -⟩ := evr h.at' 0 x hx
 rw [ha] at e; injection e with e; rw [e]; exact hg
structure RunsAt (w : World) (a : Option Addr) (Ss : List Sl) : Prop where
 cell : ∀ (j : Nat) (s : Sl), Ss[j]? = some s → ∃ g off, a = some ⟨g, off, none⟩ ∧ g < w.heap.size ∧ w.cell? ⟨g, off + j, none⟩ = some s.v
 ok : ∀ s ∈ Ss, SlOk w s
theorem RunsAt.keep {w w' : World} {a : Option Addr} {Ss : List Sl} (h : RunsAt w a Ss) (hb : Below w.heap.size w w') : RunsAt w' a Ss := by
 refine ⟨fun j s hs => ?_, fun s hs => (h.ok s hs).keep hb⟩
 obtain ⟨g, off, h2, h3, h4⟩ := h.cell j s hs
 exact ⟨g, off, h2, Nat.lt_of_lt_of_le h3 hb.size, (hb.cell (p := ⟨g, off + j, none⟩) h3).trans h4⟩
theorem infoSl : (Tryz.prog.info? 22).map (fun i => (i.zero, i.size, i.bytes)) = some (some (.slice none 0 0), 1, 24) := by kernel_rfl
theorem infoInt : (Tryz.prog.info? 3).map (fun i => (i.zero, i.size, i.bytes)) = some (some (.int .i64 0), 1, 8) := by kernel_rfl
def RunsRow (w : World) (rb n : Nat) (vs : List Value) : Prop := ∃ cur : Array Value, w.heap[rb]? = some (.cells cur 22 (0, 0)) ∧ n ≤ cur.size ∧ ∀ (j : Nat) (u : Value), vs[j]? = some u → cur[j]? = some u
theorem RunsRow.lt {w : World} {rb n : Nat} {vs : List Value} (h : RunsRow w rb n vs) : rb < w.heap.size := by obtain ⟨cur, h1, -⟩ := h; exact (Array.getElem?_eq_some_iff.1 h1).1
theorem RunsRow.keep {w w' : World} {rb n : Nat} {vs : List Value} (h : RunsRow w rb n vs) (hb : Below w.heap.size w w') : RunsRow w' rb n vs := by
 have hl := h.lt
 obtain ⟨cur, h1, h2⟩ := h; exact ⟨cur, (hb.block _ hl).trans h1, h2⟩
def LosRow (w : World) (lb n : Nat) : Prop := ∃ cur : Array Value, w.heap[lb]? = some (.cells cur 3 (0, 0)) ∧ n ≤ cur.size ∧ ∀ j, j < n → cur[j]? = some (.int .i64 0)
theorem LosRow.lt {w : World} {lb n : Nat} (h : LosRow w lb n) : lb < w.heap.size := by obtain ⟨cur, h1, -⟩ := h; exact (Array.getElem?_eq_some_iff.1 h1).1
theorem LosRow.keep {w w' : World} {lb n : Nat} (h : LosRow w lb n) (hb : Below w.heap.size w w') : LosRow w' lb n := by
 have hl := h.lt
 obtain ⟨cur, h1, h2⟩ := h; exact ⟨cur, (hb.block _ hl).trans h1, h2⟩
theorem rowz_zeros {w : World} {B g n : Nat} (h : w.ownsRow B 3 1 (.slice (some ⟨g, 0, none⟩) n n) n (madeCells (Value.int .i64 0).cells (n * 1)).toList) : LosRow w g n := by
 rw [Nat.mul_one, show (Value.int .i64 0).cells = #[.int .i64 0] from rfl, toList_madeCells_one] at h
 rcases h.2 with ⟨h1, h2⟩ | ⟨g', cap', cur, h1, hb, hrow, -, -, hs, ht⟩
 ·cases h1
 ·cases h1
  refine ⟨cur, hrow, by omega, fun j hj => ?_⟩
  have e : (cur.toList.take (n * 1))[j]? = (List.replicate n (Value.int .i64 0))[j]? := by rw [ht]
  rw [List.getElem?_take, if_pos (by omega)] at e
  rw [← Array.getElem?_toList, e, List.getElem?_replicate, if_pos hj]
def cloR_ren : Go.Shelf.Ren := ⟨fun | 41 => 109 | n => n, fun | 22 => 114 | 23 => 22 | 4 => 4 | n => n, fun n => n⟩
theorem cloR : Go.Proofs.SlLaysE0.n41 Tryz.prog cloR_ren := {
 mixed := by kernel_rfl
 f41 := ⟨Tryz.f109.name, by decide, Tryz.func109.trans (congrArg some (by kernel_rfl))⟩
 t4 := Tryz.underlying4
 a4 := Tryz.isAgg4
 z4 := Tryz.sizeOf4
 v4 := Tryz.zeroValue4
 t22 := Tryz.underlying114
 a22 := Tryz.isAgg114
 z22 := Tryz.sizeOf114
 v22 := Tryz.zeroValue114 }
theorem clone_runs (g off n c : Nat) (vs : List Value) (hn : Hid (n = vs.length ∧ ∀ u ∈ vs, u.oneCell' = true)) (hb : n ≤ 1000) (w : World) (H : Hid (∀ (j : Nat) (u : Value), vs[j]? = some u → w.cell? ⟨g, off + j, none⟩ = some u)) (h0 : 0 < n) :
  Calls Tryz.prog 109 #[.slice (some ⟨g, off, none⟩) n c] w fun e w' => ∃ rb cr, e = .returned (.slice (some ⟨rb, 0, none⟩) n cr) ∧ w.heap.size ≤ rb ∧ n ≤ cr ∧ cr ≤ maxLen ∧ RunsRow w' rb n vs ∧ Below w.heap.size w w' := by
 obtain ⟨i0, hi, hz0, hz1, hz2⟩ := info_parts infoSl
 have h := AnyE.slices_Clone cloR i0 _ 1 24 hi hz0 hz1 hz2 rfl (by decide) Tryz.sizeOf22 g off n c vs w (by rw [← hn.out.1]; omega) (by unfold maxLen; omega) (by omega) (fun j u hu => H.out j u hu) hn.out.2
 change Calls Tryz.prog 109 _ _ _ at h
 refine h.mono fun e w' ⟨v', he, hown, hv, hbl⟩ => ?_
 rcases hown.2 with ⟨e0, _⟩ | ⟨rb, cap, cur, e0, hb0, hg, hn1, hm, hs, ht⟩
 ·exact absurd e0 hv
 ·subst e0
  refine ⟨rb, cap, he, hb0, hn1, hm, ⟨cur, hg, by omega, fun j u hu => ?_⟩, hbl⟩
  have e : (cur.toList.take (n * 1))[j]? = vs[j]? := by rw [ht]
  have hj : j < n := by rw [hn.out.1]; exact (List.getElem?_eq_some_iff.1 hu).1
  rw [List.getElem?_take, if_pos (by omega)] at e
  rw [← Array.getElem?_toList, e, hu]
end Go.Proofs.YtjldamkmdkaiiaaGreatDoor
