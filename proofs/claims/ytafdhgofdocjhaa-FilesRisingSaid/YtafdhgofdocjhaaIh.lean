/-
  Layer files: what a fall leaves, and Restart, whatever is kept; Sync, Read, Rename, List of a store whatever its files are.
-/
import Derived.Test.YtafdhgofdocjhaaIg
set_option linter.unusedSimpArgs false
set_option linter.unusedVariables false
namespace Go.Proofs.Ytafdhgofdocjhaa
open Go.RowKit Go.WideShapes

/-- A row of ints. -/
def IntsOf (w : World) (p : Option Addr) (l : List Int) : Prop := ∀ (k : Nat) (v : Int), l[k]? = some v → ∃ b off, p = some ⟨b, off, none⟩ ∧ b < w.heap.size ∧ w.cell? ⟨b, off + k, none⟩ = some (.int .i64 v)
theorem IntsOf.keep {w w' : World} {p : Option Addr} {l : List Int} (h : IntsOf w p l) (hb : ∀ b, p.map (·.block) = some b → b < w.heap.size → w'.heap[b]? = w.heap[b]?) (hz : w.heap.size ≤ w'.heap.size) : IntsOf w' p l := fun k v hv => by
  obtain ⟨b, off, rfl, hl, hc⟩ := h k v hv
  refine ⟨b, off, rfl, Nat.lt_of_lt_of_le hl hz, ?_⟩
  rw [← hc]; unfold World.cell?; simp only; rw [hb b rfl hl]
theorem gb_cell {w w1 : World} {f i : Nat} {u : Value} (h : w.grownBy w1 (some f)) : w.grownBy (w1.setCell ⟨f, i, none⟩ u) (some f) :=
  ⟨h.os, h.tape, h.output, by rw [setCell_size]; exact h.size, fun k hk hn => (heap_setCell_other w1 ⟨f, i, none⟩ k u (fun e => hn (by simp [e]))).trans (h.block k hk hn)⟩
theorem cut_frame {w w1 : World} {f i j : Nat} {u v : Value} (h : w.grownBy w1 (some f)) : w.grownBy ((w1.setCell ⟨f, i, none⟩ u).drew.setCell ⟨f, j, none⟩ v) (some f) :=
  gb_cell (gb_drew (gb_cell h))
section
variable {W : World} {g f fcap : Nat} {room armed ops : Int} {off : Bool} {r : List Value} {xs : List Fil} {w w' : World}
set_option maxHeartbeats 4000000 in
theorem fall_M (q : Nat) (x : Fil) (hx : Hid (xs[q]? = some x)) (kept : Int) (k : Nat) (hst : Hid (k = stay x.l.length x.du kept)) (hdu : x.du ≤ x.l.length) (hl : x.l.length ≤ 100000000) (w : World) (hs : Hid (SN W g room off armed ops f fcap r xs w)) :
    Calls Try.prog 47 #[.pointer (some ⟨f, q * 3, none⟩), .int .i64 kept] w fun e w' => e = .returned (.tuple #[]) ∧ SN W g room off armed ops f fcap r (xs.set q { x with l := x.l.take k, du := k }) w' ∧ w.grownBy w' (some f) := by
  have hkl : k ≤ x.l.length := by rw [hst.out]; exact stay_le _ _ _ hdu
  have HSL := Lib.hid (own_slice (hs.out.own q x hx.out) k hkl)
  have HS1 := Lib.hid hs.out.drew
  have c1 := (HS1.out.files q x hx.out).2.2.1
  have c2 := (HS1.out.files q x hx.out).2.2.2
  have hw1 : IntKind.i64.wrap ((x.l.length : Int) - (x.du : Int)) = (x.l.length : Int) - (x.du : Int) := IntWalk.i64_in _ (by omega)
  have hcase : (kept < 0 ∧ k = x.l.length) ∨ ((0 ≤ kept ∧ (x.l.length : Int) - x.du < kept) ∧ k = x.l.length) ∨ ((0 ≤ kept ∧ kept ≤ (x.l.length : Int) - x.du) ∧ (k : Int) = x.du + kept) := by
    have h := hst.out
    unfold stay at h
    by_cases h1 : kept < 0
    · rw [if_pos (.inl h1)] at h; exact .inl ⟨h1, h⟩
    · by_cases h2 : (x.l.length : Int) - x.du < kept
      · rw [if_pos (.inr h2)] at h; exact .inr (.inl ⟨⟨by omega, h2⟩, h⟩)
      · rw [if_neg (by omega)] at h; exact .inr (.inr ⟨⟨by omega, by omega⟩, by omega⟩)
  go_enter Try.func47, Try.ntmps47
  go_upto_region 0 with fail
  go_still_tail 10, (by kernel_rfl)
  change wpList _ _ _ _ _ (World.drew _)
  have HGD : Hid (w.grownBy w.drew (some f)) := Lib.hid (gb_drew (gb_refl _ _))
  generalize World.drew w = w1 at *
  have HC1 := Lib.hid c1
  have kf1 := HS1.out.ff (q * 3 + 2)
  clear hs hst hw1
  rcases hcase with ⟨h1, h3⟩ | ⟨⟨h1, h2⟩, h3⟩ | ⟨⟨h1, h2⟩, h3⟩
  · have hsum : (x.du : Int) + ((x.l.length : Int) - (x.du : Int)) = (k : Int) := by omega
    clear h3
    go_upto_region 4 with fail
    have hq := HS1.out.putDu q x hx.out k
    have hxq : (xs.set q { x with du := k })[q]? = some { x with du := k } := by rw [List.getElem?_set_self (List.getElem?_eq_some_iff.1 hx.out).1]
    have HCUT := Lib.hid (HS1.out.cut q x hx.out k hkl)
    have HGA := Lib.hid (cut_frame (i := q * 3 + 2) (u := .int .i64 (k : Nat)) (j := q * 3 + 1) (v := .slice x.A k x.cap) HGD.out)
    generalize World.setCell w1 _ _ = wa at *
    have d1 := (hq.drew.files q _ hxq).2.2.1
    have d2 := (hq.drew.files q _ hxq).2.2.2
    have dk := hq.drew.ff (q * 3 + 1)
    have sl := HSL.out
    clear hq hxq c1 c2 kf1 hsum
    go_still_tail 12, (by kernel_rfl)
    change wpList _ _ _ _ _ (World.drew _)
    generalize World.drew _ = wz at *
    go_wp2
    go_end0
    exact ⟨rfl, HCUT.out, HGA.out⟩
  · have hsum : (x.du : Int) + ((x.l.length : Int) - (x.du : Int)) = (k : Int) := by omega
    clear h3
    go_upto_region 4 with fail
    have hq := HS1.out.putDu q x hx.out k
    have hxq : (xs.set q { x with du := k })[q]? = some { x with du := k } := by rw [List.getElem?_set_self (List.getElem?_eq_some_iff.1 hx.out).1]
    have HCUT := Lib.hid (HS1.out.cut q x hx.out k hkl)
    have HGA := Lib.hid (cut_frame (i := q * 3 + 2) (u := .int .i64 (k : Nat)) (j := q * 3 + 1) (v := .slice x.A k x.cap) HGD.out)
    generalize World.setCell w1 _ _ = wa at *
    have d1 := (hq.drew.files q _ hxq).2.2.1
    have d2 := (hq.drew.files q _ hxq).2.2.2
    have dk := hq.drew.ff (q * 3 + 1)
    have sl := HSL.out
    clear hq hxq c1 c2 kf1 hsum
    go_still_tail 12, (by kernel_rfl)
    change wpList _ _ _ _ _ (World.drew _)
    generalize World.drew _ = wz at *
    go_wp2
    go_end0
    exact ⟨rfl, HCUT.out, HGA.out⟩
  · have hsum : (x.du : Int) + kept = (k : Int) := by omega
    clear h3
    go_upto_region 4 with fail
    have hq := HS1.out.putDu q x hx.out k
    have hxq : (xs.set q { x with du := k })[q]? = some { x with du := k } := by rw [List.getElem?_set_self (List.getElem?_eq_some_iff.1 hx.out).1]
    have HCUT := Lib.hid (HS1.out.cut q x hx.out k hkl)
    have HGA := Lib.hid (cut_frame (i := q * 3 + 2) (u := .int .i64 (k : Nat)) (j := q * 3 + 1) (v := .slice x.A k x.cap) HGD.out)
    generalize World.setCell w1 _ _ = wa at *
    have d1 := (hq.drew.files q _ hxq).2.2.1
    have d2 := (hq.drew.files q _ hxq).2.2.2
    have dk := hq.drew.ff (q * 3 + 1)
    have sl := HSL.out
    clear hq hxq c1 c2 kf1 hsum
    go_still_tail 12, (by kernel_rfl)
    change wpList _ _ _ _ _ (World.drew _)
    generalize World.drew _ = wz at *
    go_wp2
    go_end0
    exact ⟨rfl, HCUT.out, HGA.out⟩
set_option maxHeartbeats 4000000 in
theorem restart_M (p : Option Addr) (keep : List Int) (kl kc : Nat) (hkl : Hid (kl = keep.length)) (n : Nat) (hnx : Hid (n = xs.length)) (hn : n ≤ 1000) (hd : Hid (∀ (k : Nat) (x : Fil), xs[k]? = some x → x.du ≤ x.l.length ∧ x.l.length ≤ 100000000)) (w : World) (hs : Hid (SN W g room off armed ops f fcap r xs w))
    (hq : Hid (IntsOf w p keep)) (hpg : Hid (p.map (·.block) ≠ some g)) (hpf : Hid (p.map (·.block) ≠ some f)) :
    Calls Try.prog 23 #[.pointer (some ⟨g, 0, none⟩), .slice p kl kc] w fun e w' => e = .returned (.int .i64 0) ∧ SN W g room false 0 ops f fcap r (fallen keep n xs) w' ∧ w.heap.size ≤ w'.heap.size ∧ (∀ b, b < w.heap.size → b ≠ g → b ≠ f → w'.heap[b]? = w.heap[b]?) := by
  have g2 := hs.out.g2
  have g3 := hs.out.g3
  have k2 := hs.out.gf 2
  have k3 := hs.out.gf 3
  have HQ := Lib.hid ((hs.out.putOff false).putArmed 0)
  have HW : Hid (w.grownBy ((w.setCell ⟨g, 2, none⟩ (.bool false)).setCell ⟨g, 3, none⟩ (.int .i64 0)) (some g)) := Lib.hid (gb_cell (gb_cell (gb_refl _ _)))
  go_enter Try.func23, Try.ntmps23
  go_upto_region 4 with fail
  generalize World.setCell _ _ _ = wa at *
  clear g2 g3 k2 k3 hs
  have c1 := HQ.out.g1
  rw [← hnx.out] at c1
  go_wp2
  go_loopw [20] (fun i wr => ∃ k : Nat, k ≤ n ∧ i = .int .i64 k ∧ SN W g room false 0 ops f fcap r (fallen keep k xs) wr ∧ wa.grownBy wr (some f)) (fun i _ => n - (intOf i).toNat)
  case atStart => exact ⟨0, Nat.zero_le _, rfl, by rw [fallen_zero]; exact HQ.out, gb_refl _ _⟩
  case round =>
    obtain ⟨k, hk, rfl, hst, hgr⟩ := hrel
    have HS := Lib.hid hst
    have HGR := Lib.hid hgr
    clear hst c1 HQ hgr
    by_cases hkn : k < n
    · have hkx : k < xs.length := by have := hnx.out; omega
      obtain ⟨x, hxe⟩ : ∃ x, xs[k]? = some x := ⟨xs[k], List.getElem?_eq_getElem hkx⟩
      have HX := Lib.hid hxe
      obtain ⟨hd1, hd2⟩ := hd.out k x hxe
      have HG := Lib.hid (fallen_get keep k xs x hxe)
      have HF := Lib.hid (fallen_set keep k xs x hxe)
      have c1 := HS.out.g1
      rw [fallen_len, ← hnx.out] at c1
      clear hxe
      by_cases hkk : k < kl
      · have hkl' : k < keep.length := by have := hkl.out; omega
        obtain ⟨v, hv⟩ : ∃ v, keep[k]? = some v := ⟨keep[k], List.getElem?_eq_getElem hkl'⟩
        obtain ⟨b, o, rfl, hb, hc⟩ := (hq.out.keep (w' := wr) (fun b hb hl => (HGR.out.block b (Nat.lt_of_lt_of_le hl HW.out.size) (fun e => hpf.out (by rw [hb]; exact e))).trans (HW.out.block b hl (fun e => hpg.out (by rw [hb]; exact e)))) (Nat.le_trans HW.out.size HGR.out.size)) k v hv
        have HV : Hid (stayF keep k x = stay x.l.length x.du v) := Lib.hid (by unfold stayF; rw [List.getD_eq_getElem?_getD, hv]; rfl)
        clear hv
        go_wp2_with (go_at_call 47; refine (fall_M k x HG v (stayF keep k x) HV hd1 hd2 _ HS).mono ?_; rintro z w1 ⟨rfl, h1, h2⟩; have HS1 := Lib.hid h1; have HG1 := Lib.hid (World.grownBy.trans HGR.out h2); clear h1 h2)
        go_roundw
        case rel => exact ⟨k + 1, by omega, by go_num, by rw [← HF.out]; exact HS1.out, HG1.out⟩
        case measure => simp [intOf]; omega
      · have HV : Hid (stayF keep k x = stay x.l.length x.du 0) := Lib.hid (by unfold stayF; rw [List.getD_eq_getElem?_getD, List.getElem?_eq_none (by have := hkl.out; omega)]; rfl)
        go_wp2_with (go_at_call 47; refine (fall_M k x HG 0 (stayF keep k x) HV hd1 hd2 _ HS).mono ?_; rintro z w1 ⟨rfl, h1, h2⟩; have HS1 := Lib.hid h1; have HG1 := Lib.hid (World.grownBy.trans HGR.out h2); clear h1 h2)
        go_roundw
        case rel => exact ⟨k + 1, by omega, by go_num, by rw [← HF.out]; exact HS1.out, HG1.out⟩
        case measure => simp [intOf]; omega
    · have hkn' : k = n := by omega
      subst hkn'
      go_wp2
      go_ret
      exact ⟨rfl, HS.out, Nat.le_trans HW.out.size HGR.out.size, fun b hb h1 h2 => (HGR.out.block b (Nat.lt_of_lt_of_le hb HW.out.size) (fun e => h2 (by injection e with e; try exact e.symm))).trans (HW.out.block b hb (fun e => h1 (by injection e with e; try exact e.symm)))⟩
end
end Go.Proofs.Ytafdhgofdocjhaa
