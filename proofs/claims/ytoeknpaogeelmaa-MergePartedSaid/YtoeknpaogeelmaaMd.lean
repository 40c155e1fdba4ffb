/-
  Layer merge: replay: the games of the one that has won, anew.
-/
import Derived.Test.YtoeknpaogeelmaaMc
import Derived.BigRegion
set_option linter.unusedSimpArgs false
set_option linter.unusedVariables false
set_option maxRecDepth 8000
namespace Go.Proofs.Ytoeknpaogeelmaa
open Go.RowKit Go.Sort

abbrev At2 (a b : Nat) : Nat → Prop := fun k => k = a ∨ k = b
section
variable {w w' : World} {B t rb lb n cr cl win : Nat} {L : Nat → Nat} {Rs : List (List Ev)}
/-- Who has won written. -/
theorem TreeM.setW (h : TreeM w B t rb lb n cr cl win L Rs) (v : Nat) : TreeM (w.setCell ⟨t, 1, none⟩ (.int .i64 (v : Int))) B t rb lb n cr cl v L Rs := by
  have hk : Kept (At1 t) w (w.setCell ⟨t, 1, none⟩ (.int .i64 (v : Int))) := (Kept.refl _ _).setCell _ _ (.inl rfl)
  refine ⟨?_, h.rrow.set, h.lrow.set, fun j l hj => ?_, fun j hj => ?_, h.len, h.pos, h.few, h.small, h.caps, h.bt, h.br, h.bl, h.tr, h.tl, h.rl⟩
  · rw [World.setCell]; simp [Array.getElem?_modify, h.row]
  · obtain ⟨A, c, h1, h2, h3, h4, h5, h6⟩ := h.runs j l hj
    exact ⟨A, c, (hk.cell (p := ⟨rb, j, none⟩) h.rrow.lt (fun e => h.tr e.symm)).trans h1, h2, h3, h4, h5.keptE hk (fun a ha h0 e => by have h7 := h6 a ha h0; have h8 := h.bt; have e : a.block = t := e; omega), h6⟩
  · exact (hk.cell (p := ⟨lb, j, none⟩) h.lrow.lt (fun e => h.tl e.symm)).trans (h.los j hj)
end
/-- In the midst of the games. -/
def RRp (B t rb lb n cr cl : Nat) (Rs : List (List Ev)) (w : World) (v : Value) (wr : World) : Prop :=
  ∃ (c win : Nat) (L V : Nat → Nat), 0 < c ∧ c < 2 * n ∧ v = .int .i64 ((c / 2 : Nat) : Int) ∧ Mid ltM (rsF Rs) n L V c ∧ V c = win ∧ TreeM wr B t rb lb n cr cl win L Rs ∧ Kept (At2 t lb) w wr
def Replayed (B t rb lb n cr cl : Nat) (Rs : List (List Ev)) (w : World) (e : Ending) (w' : World) : Prop :=
  e = .returned (.tuple #[]) ∧ ∃ (win : Nat) (L V : Nat → Nat), TreeM w' B t rb lb n cr cl win L Rs ∧ Tour ltM (rsF Rs) n L V ∧ V 1 = win ∧ Kept (At2 t lb) w w'
set_option maxHeartbeats 8000000 in
theorem replay_any (B t rb lb n cr cl i : Nat) (L V : Nat → Nat) (Rs : List (List Ev)) (hi : i < n) (HM : Hid (Mid ltM (rsF Rs) n L V (n + i))) (w : World) (HT : Hid (TreeM w B t rb lb n cr cl i L Rs)) :
    Calls Try.prog 19 #[.pointer (some ⟨t, 0, none⟩)] w (Replayed B t rb lb n cr cl Rs w) := by
  have hn16 := HT.out.few
  have hcr := HT.out.caps.1
  obtain ⟨c0, hc0⟩ : ∃ c0, c0 = n + i := ⟨_, rfl⟩
  obtain ⟨d0, hd0⟩ : ∃ d0, d0 = c0 / 2 := ⟨_, rfl⟩
  have hc0i : (n : Int) + (i : Int) = (c0 : Int) := by omega
  have hd0i : (c0 : Int) / 2 = (d0 : Int) := by omega
  have hd0t : (c0 : Int).tdiv 2 = (d0 : Int) := by rw [Int.tdiv_eq_ediv_of_nonneg (by omega)]; exact hd0i
  have hcw : IntKind.i64.wrap (c0 : Int) = (c0 : Int) := by rw [IntKind.wrap_i64]; omega
  have hdw : IntKind.i64.wrap (d0 : Int) = (d0 : Int) := by rw [IntKind.wrap_i64]; omega
  have HST : Hid (∀ w2, Below w.heap.size w w2 → RRp B t rb lb n cr cl Rs w (.int .i64 (d0 : Int)) w2) := Lib.hid fun w2 hb => ⟨c0, i, L, V, by omega, by omega, by rw [hd0], by rw [hc0]; exact HM.out, by rw [hc0, HM.out.leaf _ (by omega) (by omega)]; omega, HT.out.below hb, Kept.of_below hb⟩
  clear hc0 hd0
  go_enter Try.func19, Try.ntmps19
  go_upto_region 0 with fail
  have hh0 : Below w.heap.size w w.drew := (Below.refl _ _).drew
  refine wp_region_held_drew (S := fun w2 => Below w.heap.size w w2) (by kernel_rfl) hh0 (fun hHeld => ?_)
  refine wpAnyH_take (i := 0) (v := .pointer (some ⟨t, 0, none⟩)) rfl (by kernel_rfl) (by kernel_rfl) (by kernel_rfl) (fun _ _ _ h => h) (Or.inl ⟨by rfl, fun _ _ => rfl⟩) hHeld ?_
  try dsimp only
  try simp only [Act.put, List.getElem_toArray, List.getElem_cons_zero, List.getElem_cons_succ, List.setIfInBounds_toArray, List.set_cons_zero, List.set_cons_succ]
  refine wpAnyH_take (i := 1) (v := .pointer (some ⟨t, 0, none⟩)) rfl (by kernel_rfl) (by kernel_rfl) (by kernel_rfl) (fun _ _ _ h => h) (Or.inl ⟨by rfl, fun w _ => by go_simp⟩) hHeld ?_
  try dsimp only
  try simp only [Act.put, List.getElem_toArray, List.getElem_cons_zero, List.getElem_cons_succ, List.setIfInBounds_toArray, List.set_cons_zero, List.set_cons_succ]
  refine wpAnyH_take (i := 2) (v := .pointer (some ⟨t, 0, none⟩)) rfl (by kernel_rfl) (by kernel_rfl) (by kernel_rfl) (fun _ _ _ h => h) (Or.inl ⟨by rfl, fun w _ => by go_simp⟩) hHeld ?_
  try dsimp only
  try simp only [Act.put, List.getElem_toArray, List.getElem_cons_zero, List.getElem_cons_succ, List.setIfInBounds_toArray, List.set_cons_zero, List.set_cons_succ]
  refine wpAnyH_take (i := 3) (v := .slice (some ⟨rb, 0, none⟩) n cr) rfl (by kernel_rfl) (by kernel_rfl) (by kernel_rfl) (fun _ _ _ h => h) (Or.inl ⟨by rfl, fun w hw => by have hc : w.cell? ⟨t, 0, none⟩ = some (.slice (some ⟨rb, 0, none⟩) n cr) := (hw.cell (p := ⟨t, 0, none⟩) HT.out.lt).trans HT.out.c0; go_simp⟩) hHeld ?_
  try dsimp only
  try simp only [Act.put, List.getElem_toArray, List.getElem_cons_zero, List.getElem_cons_succ, List.setIfInBounds_toArray, List.set_cons_zero, List.set_cons_succ]
  refine wpAnyH_take (i := 4) (v := .int .i64 (n : Int)) rfl (by kernel_rfl) (by kernel_rfl) (by kernel_rfl) (fun _ _ _ h => h) (Or.inl ⟨by rfl, fun w _ => by go_simp⟩) hHeld ?_
  try dsimp only
  try simp only [Act.put, List.getElem_toArray, List.getElem_cons_zero, List.getElem_cons_succ, List.setIfInBounds_toArray, List.set_cons_zero, List.set_cons_succ]
  refine wpAnyH_take (i := 5) (v := .pointer (some ⟨t, 0, none⟩)) rfl (by kernel_rfl) (by kernel_rfl) (by kernel_rfl) (fun _ _ _ h => h) (Or.inl ⟨by rfl, fun _ _ => rfl⟩) hHeld ?_
  try dsimp only
  try simp only [Act.put, List.getElem_toArray, List.getElem_cons_zero, List.getElem_cons_succ, List.setIfInBounds_toArray, List.set_cons_zero, List.set_cons_succ]
  refine wpAnyH_take (i := 6) (v := .pointer (some ⟨t, 0, none⟩)) rfl (by kernel_rfl) (by kernel_rfl) (by kernel_rfl) (fun _ _ _ h => h) (Or.inl ⟨by rfl, fun w _ => by go_simp⟩) hHeld ?_
  try dsimp only
  try simp only [Act.put, List.getElem_toArray, List.getElem_cons_zero, List.getElem_cons_succ, List.setIfInBounds_toArray, List.set_cons_zero, List.set_cons_succ]
  refine wpAnyH_take (i := 7) (v := .pointer (some ⟨t, 1, none⟩)) rfl (by kernel_rfl) (by kernel_rfl) (by kernel_rfl) (fun _ _ _ h => h) (Or.inl ⟨by rfl, fun w _ => by go_simp⟩) hHeld ?_
  try dsimp only
  try simp only [Act.put, List.getElem_toArray, List.getElem_cons_zero, List.getElem_cons_succ, List.setIfInBounds_toArray, List.set_cons_zero, List.set_cons_succ]
  refine wpAnyH_take (i := 8) (v := .int .i64 (i : Int)) rfl (by kernel_rfl) (by kernel_rfl) (by kernel_rfl) (fun _ _ _ h => h) (Or.inl ⟨by rfl, fun w hw => by have hc : w.cell? ⟨t, 1, none⟩ = some (.int .i64 (i : Int)) := (hw.cell (p := ⟨t, 1, none⟩) HT.out.lt).trans HT.out.c1; go_simp⟩) hHeld ?_
  try dsimp only
  try simp only [Act.put, List.getElem_toArray, List.getElem_cons_zero, List.getElem_cons_succ, List.setIfInBounds_toArray, List.set_cons_zero, List.set_cons_succ]
  refine wpAnyH_take (i := 9) (v := .int .i64 (c0 : Int)) rfl (by kernel_rfl) (by kernel_rfl) (by kernel_rfl) (fun _ _ _ h => h) (Or.inl ⟨by rfl, fun w _ => by go_simp⟩) hHeld ?_
  try dsimp only
  try simp only [Act.put, List.getElem_toArray, List.getElem_cons_zero, List.getElem_cons_succ, List.setIfInBounds_toArray, List.set_cons_zero, List.set_cons_succ]
  refine wpAnyH_take (i := 10) (v := .int .i64 (d0 : Int)) rfl (by kernel_rfl) (by kernel_rfl) (by kernel_rfl) (fun _ _ _ h => h) (Or.inl ⟨by rfl, fun w _ => by go_simp; try omega⟩) hHeld ?_
  try dsimp only
  try simp only [Act.put, List.getElem_toArray, List.getElem_cons_zero, List.getElem_cons_succ, List.setIfInBounds_toArray, List.set_cons_zero, List.set_cons_succ]
  refine wpAnyH_ready (rs := [11]) (by kernel_rfl) (by simp) (AllReadyH.cons rfl (fun K hK => ?_) AllReadyH.nil)
  go_simp
  refine hK.out _ _ hHeld (fun hHeld => ?_)
  clear hK K
  refine wpAnyH_done (by kernel_rfl) ?_ _
  have HB1 := Lib.hid hHeld
  clear hHeld hh0 hc0i hd0i hd0t hcw hdw
  go_wp2
  go_loopw [2] (fun v wr => RRp B t rb lb n cr cl Rs w v wr) (fun v _ => (intOf v).toNat)
  case atStart => exact HST.out _ HB1.out
  case round =>
    obtain ⟨c, win, L2, V2, hc0, hcn, rfl, hmid, hVc, ht, hk⟩ := hrel
    have HT2 := Lib.hid ht; have HMID := Lib.hid hmid; have HK2 := Lib.hid hk; have HVC := Lib.hid hVc
    clear ht hmid hk hVc HST HB1 HT HM
    obtain ⟨nd, hnd⟩ : ∃ nd, nd = c / 2 := ⟨_, rfl⟩
    rw [← hnd]
    by_cases h1 : c = 1
    · have hn0 : nd = 0 := by omega
      subst h1
      subst hn0
      go_wp2
      exact bodyPost_ret (results_none rfl _ _ _) rfl ⟨rfl, win, L2, V2, HT2.out, HMID.out.done, HVC.out, HK2.out⟩
    · have hndp : (0 : Int) < (nd : Int) := by omega
      have hndn : (nd : Int) < (n : Int) := by omega
      have hnd1 : nd < n := by omega
      have hnd0 : 0 < nd := by omega
      obtain ⟨x, hx⟩ : ∃ x, x = L2 nd := ⟨_, rfl⟩
      have HCX : Hid (wr.cell? ⟨lb, nd, none⟩ = some (.int .i64 (x : Int))) := Lib.hid (by rw [hx]; exact HT2.out.los nd hnd1)
      have hxn : x < n := by rw [hx, hnd]; exact HMID.out.lst (by omega) hcn
      have hwn : win < n := by rw [← HVC.out]; exact HMID.out.at hc0 hcn
      have HAH := Lib.hid (ahead_any B t rb lb n cr cl win L2 Rs x win hxn hwn wr.drew (Lib.hid (HT2.out.below ((Below.refl _ _).drew))))
      obtain ⟨xw, hxw⟩ : ∃ xw, ah ltM (rsF Rs) x win = xw := ⟨_, rfl⟩
      have HXW := Lib.hid hxw
      have HSTEP : Hid (if xw = true then Mid ltM (rsF Rs) n (upd L2 nd win) (upd V2 nd x) nd else Mid ltM (rsF Rs) n L2 (upd V2 nd win) nd) := Lib.hid (by
        have := HMID.out.step wkE (by omega) hcn
        rw [← hnd, ← hx, HVC.out, hxw] at this; exact this)
      have HND := Lib.hid hnd
      clear hnd hx hxw
      go_upto_region 3 with fail
      have hh0 : Below wr.heap.size wr wr.drew := (Below.refl _ _).drew
      refine wp_region_held_drew (S := fun w2 => Below wr.heap.size wr w2) (by kernel_rfl) hh0 (fun hHeld => ?_)
      refine wpAnyH_take (i := 0) (v := .pointer (some ⟨t, 0, none⟩)) rfl (by kernel_rfl) (by kernel_rfl) (by kernel_rfl) (fun _ _ _ h => h) (Or.inl ⟨by rfl, fun _ _ => rfl⟩) hHeld ?_
      try dsimp only
      try simp only [Act.put, List.getElem_toArray, List.getElem_cons_zero, List.getElem_cons_succ, List.setIfInBounds_toArray, List.set_cons_zero, List.set_cons_succ]
      refine wpAnyH_take (i := 1) (v := .pointer (some ⟨t, 0, none⟩)) rfl (by kernel_rfl) (by kernel_rfl) (by kernel_rfl) (fun _ _ _ h => h) (Or.inl ⟨by rfl, fun _ _ => rfl⟩) hHeld ?_
      try dsimp only
      try simp only [Act.put, List.getElem_toArray, List.getElem_cons_zero, List.getElem_cons_succ, List.setIfInBounds_toArray, List.set_cons_zero, List.set_cons_succ]
      refine wpAnyH_take (i := 2) (v := .pointer (some ⟨t, 0, none⟩)) rfl (by kernel_rfl) (by kernel_rfl) (by kernel_rfl) (fun _ _ _ h => h) (Or.inl ⟨by rfl, fun w _ => by go_simp⟩) hHeld ?_
      try dsimp only
      try simp only [Act.put, List.getElem_toArray, List.getElem_cons_zero, List.getElem_cons_succ, List.setIfInBounds_toArray, List.set_cons_zero, List.set_cons_succ]
      refine wpAnyH_take (i := 3) (v := .pointer (some ⟨t, 2, none⟩)) rfl (by kernel_rfl) (by kernel_rfl) (by kernel_rfl) (fun _ _ _ h => h) (Or.inl ⟨by rfl, fun w _ => by go_simp⟩) hHeld ?_
      try dsimp only
      try simp only [Act.put, List.getElem_toArray, List.getElem_cons_zero, List.getElem_cons_succ, List.setIfInBounds_toArray, List.set_cons_zero, List.set_cons_succ]
      refine wpAnyH_take (i := 4) (v := .slice (some ⟨lb, 0, none⟩) n cl) rfl (by kernel_rfl) (by kernel_rfl) (by kernel_rfl) (fun _ _ _ h => h) (Or.inl ⟨by rfl, fun w hw => by have hc : w.cell? ⟨t, 2, none⟩ = some (.slice (some ⟨lb, 0, none⟩) n cl) := (hw.cell (p := ⟨t, 2, none⟩) HT2.out.lt).trans HT2.out.c2; go_simp⟩) hHeld ?_
      try dsimp only
      try simp only [Act.put, List.getElem_toArray, List.getElem_cons_zero, List.getElem_cons_succ, List.setIfInBounds_toArray, List.set_cons_zero, List.set_cons_succ]
      refine wpAnyH_take (i := 5) (v := .int .i64 (nd : Int)) rfl (by kernel_rfl) (by kernel_rfl) (by kernel_rfl) (fun _ _ _ h => h) (Or.inl ⟨by rfl, fun _ _ => rfl⟩) hHeld ?_
      try dsimp only
      try simp only [Act.put, List.getElem_toArray, List.getElem_cons_zero, List.getElem_cons_succ, List.setIfInBounds_toArray, List.set_cons_zero, List.set_cons_succ]
      refine wpAnyH_take (i := 6) (v := .pointer (some ⟨lb, nd, none⟩)) rfl (by kernel_rfl) (by kernel_rfl) (by kernel_rfl) (fun _ _ _ h => h) (Or.inl ⟨by rfl, fun w _ => by go_simp⟩) hHeld ?_
      try dsimp only
      try simp only [Act.put, List.getElem_toArray, List.getElem_cons_zero, List.getElem_cons_succ, List.setIfInBounds_toArray, List.set_cons_zero, List.set_cons_succ]
      refine wpAnyH_take (i := 7) (v := .int .i64 (x : Int)) rfl (by kernel_rfl) (by kernel_rfl) (by kernel_rfl) (fun _ _ _ h => h) (Or.inl ⟨by rfl, fun w hw => by have hc : w.cell? ⟨lb, nd, none⟩ = some (.int .i64 (x : Int)) := (hw.cell (p := ⟨lb, nd, none⟩) HT2.out.lrow.lt).trans HCX.out; go_simp⟩) hHeld ?_
      try dsimp only
      try simp only [Act.put, List.getElem_toArray, List.getElem_cons_zero, List.getElem_cons_succ, List.setIfInBounds_toArray, List.set_cons_zero, List.set_cons_succ]
      refine wpAnyH_take (i := 8) (v := .pointer (some ⟨t, 0, none⟩)) rfl (by kernel_rfl) (by kernel_rfl) (by kernel_rfl) (fun _ _ _ h => h) (Or.inl ⟨by rfl, fun _ _ => rfl⟩) hHeld ?_
      try dsimp only
      try simp only [Act.put, List.getElem_toArray, List.getElem_cons_zero, List.getElem_cons_succ, List.setIfInBounds_toArray, List.set_cons_zero, List.set_cons_succ]
      refine wpAnyH_take (i := 9) (v := .pointer (some ⟨t, 0, none⟩)) rfl (by kernel_rfl) (by kernel_rfl) (by kernel_rfl) (fun _ _ _ h => h) (Or.inl ⟨by rfl, fun w _ => by go_simp⟩) hHeld ?_
      try dsimp only
      try simp only [Act.put, List.getElem_toArray, List.getElem_cons_zero, List.getElem_cons_succ, List.setIfInBounds_toArray, List.set_cons_zero, List.set_cons_succ]
      refine wpAnyH_take (i := 10) (v := .pointer (some ⟨t, 1, none⟩)) rfl (by kernel_rfl) (by kernel_rfl) (by kernel_rfl) (fun _ _ _ h => h) (Or.inl ⟨by rfl, fun w _ => by go_simp⟩) hHeld ?_
      try dsimp only
      try simp only [Act.put, List.getElem_toArray, List.getElem_cons_zero, List.getElem_cons_succ, List.setIfInBounds_toArray, List.set_cons_zero, List.set_cons_succ]
      refine wpAnyH_take (i := 11) (v := .int .i64 (win : Int)) rfl (by kernel_rfl) (by kernel_rfl) (by kernel_rfl) (fun _ _ _ h => h) (Or.inl ⟨by rfl, fun w hw => by have hc : w.cell? ⟨t, 1, none⟩ = some (.int .i64 (win : Int)) := (hw.cell (p := ⟨t, 1, none⟩) HT2.out.lt).trans HT2.out.c1; go_simp⟩) hHeld ?_
      try dsimp only
      try simp only [Act.put, List.getElem_toArray, List.getElem_cons_zero, List.getElem_cons_succ, List.setIfInBounds_toArray, List.set_cons_zero, List.set_cons_succ]
      refine wpAnyH_ready (rs := [12]) (by kernel_rfl) (by simp) (AllReadyH.cons rfl (fun K hK => ?_) AllReadyH.nil)
      go_simp
      refine (HAH.out).mono ?_
      rintro e w5 ⟨rfl, hb5⟩
      rw [HXW.out]
      refine hK.out _ _ (bto ((Below.refl wr.heap.size wr).drew) hb5) (fun hHeld => ?_)
      clear hK K
      refine wpAnyH_done (by kernel_rfl) ?_ _
      have HT5 := Lib.hid (HT2.out.below hHeld)
      have HK5 := Lib.hid (HK2.out.trans (Kept.of_below hHeld))
      clear hHeld hh0
      cases xw
      · go_wp2
        go_roundw
        case rel => exact ⟨nd, win, L2, upd V2 nd win, hnd0, by omega, by go_num, by simpa using HSTEP.out, upd_at .., HT5.out, HK5.out⟩
        case measure => simp [intOf]; omega
      · have c1 := HT5.out.c1
        have c2 := HT5.out.c2
        have f1 := HT5.out.fr 1
        have fl := HT5.out.lrow.fr nd
        have htl : ¬ t = lb := HT5.out.tl
        have htl' : ¬ lb = t := fun e => HT5.out.tl e.symm
        have hcx : w5.cell? ⟨lb, nd, none⟩ = some (.int .i64 (x : Int)) := by
          rw [HT5.out.los nd hnd1, ← HT2.out.los nd hnd1]; exact HCX.out
        go_upto_region 4 with fail
        go_region
        go_wp2
        go_roundw
        case rel => exact ⟨nd, x, upd L2 nd win, upd V2 nd x, hnd0, by omega, by go_num, by simpa using HSTEP.out, upd_at .., ((HT5.out.setL nd win hnd1).setW x).below ((Below.refl _ _).drew), ((HK5.out.setCell _ _ (.inl (.inr rfl))).setCell _ _ (.inl (.inl rfl))).drew⟩
        case measure => simp [intOf]; omega
end Go.Proofs.Ytoeknpaogeelmaa
