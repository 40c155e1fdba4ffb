/-
  The law EventFew: walked.
-/
import Derived.Test.YtpobfgokikfmbaaGreatDoorQPbak11
import Derived.Maps.AppendAt
import Derived.Test.YtpobfgokikfmbaaGreatDoorQPbak10
import Derived.Test.YtpobfgokikfmbaaGreatDoorQPbak6
import Derived.Test.YtpobfgokikfmbaaGreatDoorQPbak8
import Derived.Test.YtpobfgokikfmbaaGreatDoorQPbak5
import Derived.Test.YtpobfgokikfmbaaGreatDoorTie
import Derived.Test.YtpobfgokikfmbaaGreatDoorCards
import Derived.ProofKit
import Derived.Laws.Cover2
import Derived.WideKeyArgs
import Derived.Carry
import Derived.Deep.Slices
import Derived.LaidMore
import Derived.OpenShut
import Derived.Stop.Joined
import Derived.SevenTiedAt
import Derived.SizedLaws
import Derived.Test.YtpobfgokikfmbaaGreatDoorQPbak0
import Derived.Test.YtpobfgokikfmbaaGreatDoorQPbak9
set_option linter.unusedSimpArgs false
set_option linter.unusedVariables false
set_option maxRecDepth 8000
namespace Go.Proofs.YtpobfgokikfmbaaGreatDoor
open Go.RowKit Go.Sort Go.WideShapes Col
theorem lay_mem {kind x : Nat} {body : List Nat} (hx : x ∈ body) : x ∈ [] ++ Pg.lay kind body := by
  unfold Pg.lay Pg.front
  simp [hx]
theorem fine_of {x : Ev} (h : formB x 8 = true) (hv : x.val < 18446744073709551616) : FineE x := by
  unfold formB at h
  simp only [Bool.and_eq_true, decide_eq_true_eq] at h
  obtain ⟨⟨⟨⟨⟨h1, h2⟩, h3⟩, h4⟩, h5⟩, h6⟩ := h
  exact ⟨h6, ⟨h1, h2⟩, ⟨h3, h4⟩, h5, hv⟩
def allB (l : List Ev) (p : Int) : Bool := l.all fun x => formB x p
theorem allB_yes {l : List Ev} {p : Int} (h : allB l p = true) : ∀ x ∈ l, formB x p = true := fun x hx => List.all_eq_true.1 h x hx
theorem allB_no {l : List Ev} {p : Int} (h : allB l p = false) : ∃ x ∈ l, formB x p = false := by
  unfold allB at h
  rw [List.all_eq_false] at h
  obtain ⟨x, hx, hf⟩ := h
  exact ⟨x, hx, by simpa using hf⟩
set_option maxHeartbeats 2000000 in
theorem fine_any (b : Option Addr) (n c : Nat) (l : List Ev) (hn : Hid (n = l.length)) (hn6 : n ≤ 60) (p : Int) (w : World) (HE : Hid (EvAt w b l)) :
    Calls Tryz.prog 6 #[.slice b n c, .int .i64 p] w fun e w' => e = .returned (.bool (allB l p)) ∧ Below w.heap.size w w' := by
  go_enter Tryz.func6, Tryz.ntmps6
  go_wp2
  go_loopw [5] (fun v wr => ∃ i : Nat, i ≤ n ∧ v = .int .i64 (i : Int) ∧ Below w.heap.size w wr ∧ ∀ x ∈ l.take i, formB x p = true) (fun v _ => n - (intOf v).toNat)
  case atStart => exact ⟨0, Nat.zero_le _, rfl, Below.refl _ _, fun x hx => by rw [List.take_zero] at hx; cases hx⟩
  case round =>
    obtain ⟨i, hi, rfl, hb, hf⟩ := hrel
    have HB := Lib.hid hb; have HF := Lib.hid hf
    clear hb hf
    by_cases hlt : i < n
    · have hii : (i : Int) < (n : Int) := by omega
      obtain ⟨x, hx⟩ : ∃ x, l[i]? = some x := ⟨_, List.getElem?_eq_getElem (by have := hn.out; omega)⟩
      have HX := Lib.hid hx
      obtain ⟨g, off, rfl, hg, hr⟩ := evrB (HE.out.keep HB.out) i x hx
      have HR := Lib.hid hr
      have HFO : Hid (∀ w, Calls Tryz.prog 12 #[.agg x.cells.toArray, .int .i64 p] w fun e w' => e = .returned (.bool (formB x p)) ∧ Below w.heap.size w w') := Lib.hid fun w => refForm_any x p w
      clear hx hr
      rcases hfx : formB x p with _ | _
      · rw [hfx] at HFO
        have HFX := Lib.hid hfx
        clear hfx
        have HAB : Hid (allB l p = false) := Lib.hid (by
          unfold allB
          rw [List.all_eq_false]
          exact ⟨x, List.mem_of_getElem? HX.out, by rw [HFX.out]; decide⟩)
        go_wp2_with (first
          | (refine wpList_load_mid rfl 38 (.tmp 14) rfl g (off + i * 5) rfl x.cells _ HR.out uEvB rfl (iEvB x) ?_)
          | (go_at_call 12; (with_reducible refine (HFO.out _).mono ?_); rintro e w2 ⟨rfl, hb⟩; have HB2 := Lib.hid (below_to HB.out hb); clear hb))
        go_ret
        exact ⟨by rw [HAB.out]; rfl, HB2.out⟩
      · rw [hfx] at HFO
        have HFX := Lib.hid hfx
        clear hfx
        go_wp2_with (first
          | (refine wpList_load_mid rfl 38 (.tmp 14) rfl g (off + i * 5) rfl x.cells _ HR.out uEvB rfl (iEvB x) ?_)
          | (go_at_call 12; (with_reducible refine (HFO.out _).mono ?_); rintro e w2 ⟨rfl, hb⟩; have HB2 := Lib.hid (below_to HB.out hb); clear hb))
        go_roundw
        case rel =>
          refine ⟨i + 1, by omega, by go_num, HB2.out, fun y hy => ?_⟩
          rw [List.take_add_one, HX.out, List.mem_append] at hy
          rcases hy with h | h
          · exact HF.out y h
          · simp at h; subst h; exact HFX.out
        case measure => simp [intOf]; omega
    · obtain rfl : i = n := by omega
      have hii : ¬ (i : Int) < (i : Int) := by omega
      have HAB : Hid (allB l p = true) := Lib.hid (by
        unfold allB
        rw [List.all_eq_true]
        exact fun x hx => HF.out x (by rw [List.take_of_length_le (by have := hn.out; omega)]; exact hx))
      go_wp2
      go_ret
      exact ⟨by rw [HAB.out]; rfl, HB.out⟩

set_option maxHeartbeats 1000000 in
theorem eventFew_long (b : Option Addr) (n c : Nat) (k : Nat) (hk : k < 256) (hL : 60 < n) (hn4 : n ≤ maxLen) (W : World) :
    Calls Tryz.prog 4 #[.slice b n c, .int .u8 (k : Int)] W fun e w' => e = .returned (.bool true) ∧ Below W.heap.size W w' := by
  have hLi : (60 : Int) < (n : Int) := by omega
  have HB := Below.refl W.heap.size W
  go_enter Tryz.func4, Tryz.ntmps4
  go_wp2_with (go_at_call 5; refine (awake_any _).mono ?_; rintro e w' ⟨rfl, hb⟩; replace HB := HB.trans (hb.mono HB.size); clear hb)
  go_ret
  exact ⟨rfl, HB⟩
set_option maxHeartbeats 4000000 in
theorem eventFew_none (b : Option Addr) (l : List Ev) (n c : Nat) (hn : Hid (n = l.length)) (k : Nat) (hk : k < 256) (hL : n ≤ 60) (hnf : allB l 8 = false) (W : World) (HE : Hid (EvAt W b l)) :
    Calls Tryz.prog 4 #[.slice b n c, .int .u8 (k : Int)] W fun e w' => e = .returned (.bool true) ∧ Below W.heap.size W w' := by
  have hLi : ¬ (60 : Int) < (n : Int) := by omega
  have HF8 : Hid (∀ w, Below W.heap.size W w → Calls Tryz.prog 6 #[.slice b n c, .int .i64 8] w fun e w' => e = .returned (.bool false) ∧ Below w.heap.size w w') := Lib.hid fun w hw => by
    have h := fine_any b n c l hn hL 8 w (Lib.hid (HE.out.keep hw))
    rwa [hnf] at h
  have HB := Below.refl W.heap.size W
  clear hnf
  go_enter Tryz.func4, Tryz.ntmps4
  go_wp2_with (first
    | (go_at_call 5; refine (awake_any _).mono ?_; rintro e w' ⟨rfl, hb⟩; replace HB := HB.trans (hb.mono HB.size); clear hb)
    | (go_at_call 6; (with_reducible refine (HF8.out _ HB).mono ?_); rintro e w' ⟨rfl, hb⟩; replace HB := HB.trans (hb.mono HB.size); clear hb))
  go_ret
  exact ⟨rfl, HB⟩
set_option maxHeartbeats 8000000 in
theorem eventFew_yes (b : Option Addr) (l : List Ev) (n c : Nat) (hn : Hid (n = l.length)) (k : Nat) (hk : k < 256) (hL : n ≤ 60) (h8 : allB l 8 = true) (hv : Hid (∀ x ∈ l, x.val < 18446744073709551616)) (hall : allB l ((1 + k % 8 : Nat) : Int) = true) (W : World) (HE : Hid (EvAt W b l)) (HG : Hid (HalvesAt W)) :
    Calls Tryz.prog 4 #[.slice b n c, .int .u8 (k : Int)] W fun e w' => e = .returned (.bool true) ∧ Below W.heap.size W w' := by
  have hLi : ¬ (60 : Int) < (n : Int) := by omega
  have HFE : Hid (∀ x ∈ l, FineE x) := Lib.hid fun x hx => fine_of (allB_yes h8 x hx) (hv.out x hx)
  have HF8 : Hid (∀ w, Below W.heap.size W w → Calls Tryz.prog 6 #[.slice b n c, .int .i64 8] w fun e w' => e = .returned (.bool true) ∧ Below w.heap.size w w') := Lib.hid fun w hw => by
    have h := fine_any b n c l hn hL 8 w (Lib.hid (HE.out.keep hw))
    rwa [h8] at h
  have hk1 : IntKind.i64.wrap (k : Int) = (k : Int) := by rw [IntKind.wrap_i64]; omega
  obtain ⟨K, hK⟩ : ∃ K : Int, K = ((1 + k % 8 : Nat) : Int) := ⟨_, rfl⟩
  have hKm : (1 : Int) + (k : Int) % 8 = K := by rw [hK]; omega
  have hKt : (1 : Int) + Int.tmod (k : Int) 8 = K := by rw [hK, Int.tmod_eq_emod_of_nonneg (by omega)]; omega
  have HFK : Hid (∀ w, Below W.heap.size W w → Calls Tryz.prog 6 #[.slice b n c, .int .i64 K] w fun e w' => e = .returned (.bool true) ∧ Below w.heap.size w w') := Lib.hid fun w hw => by
    have h := fine_any b n c l hn hL K w (Lib.hid (HE.out.keep hw))
    rw [hK] at h ⊢
    rwa [hall] at h
  obtain ⟨E, hE⟩ : ∃ E : Int, E = ((0 : Nat) : Int) + 5 + ((evY l).length : Int) + 4 := ⟨_, rfl⟩
  have HEE := Lib.hid hE.symm
  obtain ⟨N, hN0⟩ : ∃ N, N = ([] ++ Pg.lay 101 (evY l)).length := ⟨_, rfl⟩
  have HLY : Hid (∀ w, Below W.heap.size W w → Calls Tryz.prog 7 #[.slice none 0 0, .slice b n c] w fun e w' => ∃ A cap, e = .returned (.slice A N cap) ∧ ByAt w' A ([] ++ Pg.lay 101 (evY l)) ∧ N ≤ cap ∧ cap ≤ maxLen ∧ Below w.heap.size w w') := Lib.hid fun w hw => by
    have hhb : 0 < w.heap.size := World.block_lt_of_cell? w _ ((HG.out.keep hw) 0 (by decide))
    refine (evLay_any w.heap.size none 0 0 [] b n c l hn hL (by omega) HFE w (Lib.hid (OwnS.nil _ _)) (Lib.hid (HE.out.keep hw)) (Lib.hid (HG.out.keep hw)) (Nat.le_refl _) hhb).mono fun e w' h => ?_
    obtain ⟨A, cap, he, ho, hb⟩ := h
    have hl := ho.len
    rw [hl] at he ho
    rw [← hN0] at he ho
    exact ⟨A, cap, he, ho.byAt, ho.caps.1, ho.caps.2, hb⟩
  have HRD : Hid (∀ A cap w, N ≤ cap → cap ≤ maxLen → ByAt w A ([] ++ Pg.lay 101 (evY l)) → HalvesAt w → Calls Tryz.prog 8 #[.slice A N cap, .int .i64 0, .int .i64 K] w fun e w' => ∃ L, e = .returned (.tuple #[.slice (some ⟨L, 0, none⟩) n n, .int .i64 E, .int .i64 0]) ∧ Below w.heap.size w w') := Lib.hid fun A cap w hc hcm HA HGw => by
    have hN := hN0
    rw [hK]
    refine (evRead_yes A N cap 0 [] l _ (by rw [← hn.out]; exact hL) HFE (allB_yes hall) (Lib.hid rfl) (fun x hx => HA.lt x (lay_mem hx)) (Lib.hid hN) hc hcm w (Lib.hid HA) (Lib.hid HGw)).mono fun e w' h => ?_
    obtain ⟨L, he, -, hb⟩ := h
    exact ⟨L, by rw [he, hn.out, HEE.out], hb⟩
  have HB := Below.refl W.heap.size W
  clear h8 hv hE hN0 hK HFE HEE
  go_enter Tryz.func4, Tryz.ntmps4
  go_wp2_with (first
    | (go_at_call 5; refine (awake_any _).mono ?_; rintro e w' ⟨rfl, hb⟩; replace HB := HB.trans (hb.mono HB.size); clear hb)
    | (go_at_call 6; (with_reducible refine (HF8.out _ HB).mono ?_); rintro e w' ⟨rfl, hb⟩; replace HB := HB.trans (hb.mono HB.size); clear hb)
    | (go_at_call 7; (with_reducible refine (HLY.out _ HB).mono ?_); rintro e w4 ⟨A, cap, rfl, h1, h2, h3, hb⟩; replace HB := HB.trans (hb.mono HB.size); have hc := h2; have hcm := h3; have HY := Lib.hid h1; have HGw := Lib.hid (HG.out.keep HB); clear h1 h2 h3 hb)
    | (go_at_call 8; (with_reducible refine (HRD.out A cap _ hc hcm HY.out HGw.out).mono ?_); rintro e w5 ⟨L, rfl, hb⟩; replace HB := HB.trans (hb.mono HB.size); clear hb)
    | (go_at_call 6; (with_reducible refine (HFK.out _ HB).mono ?_); rintro e w' ⟨rfl, hb⟩; replace HB := HB.trans (hb.mono HB.size); clear hb))
  go_ret
  exact ⟨rfl, HB⟩
set_option maxHeartbeats 8000000 in
theorem eventFew_no (b : Option Addr) (l : List Ev) (n c : Nat) (hn : Hid (n = l.length)) (k : Nat) (hk : k < 256) (hL : n ≤ 60) (h8 : allB l 8 = true) (hv : Hid (∀ x ∈ l, x.val < 18446744073709551616)) (hbad : allB l ((1 + k % 8 : Nat) : Int) = false) (W : World) (HE : Hid (EvAt W b l)) (HG : Hid (HalvesAt W)) :
    Calls Tryz.prog 4 #[.slice b n c, .int .u8 (k : Int)] W fun e w' => e = .returned (.bool true) ∧ Below W.heap.size W w' := by
  have hLi : ¬ (60 : Int) < (n : Int) := by omega
  have HFE : Hid (∀ x ∈ l, FineE x) := Lib.hid fun x hx => fine_of (allB_yes h8 x hx) (hv.out x hx)
  have HF8 : Hid (∀ w, Below W.heap.size W w → Calls Tryz.prog 6 #[.slice b n c, .int .i64 8] w fun e w' => e = .returned (.bool true) ∧ Below w.heap.size w w') := Lib.hid fun w hw => by
    have h := fine_any b n c l hn hL 8 w (Lib.hid (HE.out.keep hw))
    rwa [h8] at h
  have hk1 : IntKind.i64.wrap (k : Int) = (k : Int) := by rw [IntKind.wrap_i64]; omega
  obtain ⟨K, hK⟩ : ∃ K : Int, K = ((1 + k % 8 : Nat) : Int) := ⟨_, rfl⟩
  have hKm : (1 : Int) + (k : Int) % 8 = K := by rw [hK]; omega
  have hKt : (1 : Int) + Int.tmod (k : Int) 8 = K := by rw [hK, Int.tmod_eq_emod_of_nonneg (by omega)]; omega
  have HFK : Hid (∀ w, Below W.heap.size W w → Calls Tryz.prog 6 #[.slice b n c, .int .i64 K] w fun e w' => e = .returned (.bool false) ∧ Below w.heap.size w w') := Lib.hid fun w hw => by
    have h := fine_any b n c l hn hL K w (Lib.hid (HE.out.keep hw))
    rw [hK] at h ⊢
    rwa [hbad] at h
  obtain ⟨E, hE⟩ : ∃ E : Int, E = ((0 : Nat) : Int) + 5 + ((evY l).length : Int) + 4 := ⟨_, rfl⟩
  have HEE := Lib.hid hE.symm
  obtain ⟨N, hN0⟩ : ∃ N, N = ([] ++ Pg.lay 101 (evY l)).length := ⟨_, rfl⟩
  have HLY : Hid (∀ w, Below W.heap.size W w → Calls Tryz.prog 7 #[.slice none 0 0, .slice b n c] w fun e w' => ∃ A cap, e = .returned (.slice A N cap) ∧ ByAt w' A ([] ++ Pg.lay 101 (evY l)) ∧ N ≤ cap ∧ cap ≤ maxLen ∧ Below w.heap.size w w') := Lib.hid fun w hw => by
    have hhb : 0 < w.heap.size := World.block_lt_of_cell? w _ ((HG.out.keep hw) 0 (by decide))
    refine (evLay_any w.heap.size none 0 0 [] b n c l hn hL (by omega) HFE w (Lib.hid (OwnS.nil _ _)) (Lib.hid (HE.out.keep hw)) (Lib.hid (HG.out.keep hw)) (Nat.le_refl _) hhb).mono fun e w' h => ?_
    obtain ⟨A, cap, he, ho, hb⟩ := h
    have hl := ho.len
    rw [hl] at he ho
    rw [← hN0] at he ho
    exact ⟨A, cap, he, ho.byAt, ho.caps.1, ho.caps.2, hb⟩
  have HRD : Hid (∀ A cap w, N ≤ cap → cap ≤ maxLen → ByAt w A ([] ++ Pg.lay 101 (evY l)) → HalvesAt w → Calls Tryz.prog 8 #[.slice A N cap, .int .i64 0, .int .i64 K] w fun e w' => e = .returned (.tuple #[.slice none 0 0, .int .i64 0, .int .i64 3]) ∧ Below w.heap.size w w') := Lib.hid fun A cap w hc hcm HA HGw => by
    have hN := hN0
    rw [hK]
    exact evRead_no A N cap 0 [] l _ (by rw [← hn.out]; exact hL) HFE (allB_no hbad) (Lib.hid rfl) (fun x hx => HA.lt x (lay_mem hx)) (Lib.hid hN) hc hcm w (Lib.hid HA) (Lib.hid HGw)
  have HB := Below.refl W.heap.size W
  clear h8 hv hE hN0 hK HFE HEE
  go_enter Tryz.func4, Tryz.ntmps4
  go_wp2_with (first
    | (go_at_call 5; refine (awake_any _).mono ?_; rintro e w' ⟨rfl, hb⟩; replace HB := HB.trans (hb.mono HB.size); clear hb)
    | (go_at_call 6; (with_reducible refine (HF8.out _ HB).mono ?_); rintro e w' ⟨rfl, hb⟩; replace HB := HB.trans (hb.mono HB.size); clear hb)
    | (go_at_call 7; (with_reducible refine (HLY.out _ HB).mono ?_); rintro e w4 ⟨A, cap, rfl, h1, h2, h3, hb⟩; replace HB := HB.trans (hb.mono HB.size); have hc := h2; have hcm := h3; have HY := Lib.hid h1; have HGw := Lib.hid (HG.out.keep HB); clear h1 h2 h3 hb)
    | (go_at_call 8; (with_reducible refine (HRD.out A cap _ hc hcm HY.out HGw.out).mono ?_); rintro e w5 ⟨rfl, hb⟩; replace HB := HB.trans (hb.mono HB.size); clear hb)
    | (go_at_call 6; (with_reducible refine (HFK.out _ HB).mono ?_); rintro e w' ⟨rfl, hb⟩; replace HB := HB.trans (hb.mono HB.size); clear hb))
  go_ret
  exact ⟨rfl, HB⟩
theorem eventFew_any (b : Option Addr) (l : List Ev) (n c : Nat) (hn : Hid (n = l.length)) (_ : n ≤ c) (hc : c ≤ maxLen) (hv : ∀ x ∈ l, x.val < 18446744073709551616) (k : Nat) (hk : k < 256) (W : World) (HE : Hid (EvAt W b l)) (HG : Hid (HalvesAt W)) :
    Calls Tryz.prog 4 #[.slice b n c, .int .u8 (k : Int)] W fun e w' => e = .returned (.bool true) ∧ Below W.heap.size W w' := by
  by_cases hL : 60 < n
  · exact eventFew_long b n c k hk hL (by omega) W
  · rcases h8 : allB l 8 with _ | _
    · exact eventFew_none b l n c hn k hk (by omega) h8 W HE
    · rcases hall : allB l ((1 + k % 8 : Nat) : Int) with _ | _
      · exact eventFew_no b l n c hn k hk (by omega) h8 (Lib.hid hv) hall W HE HG
      · exact eventFew_yes b l n c hn k hk (by omega) h8 (Lib.hid hv) hall W HE HG
end Go.Proofs.YtpobfgokikfmbaaGreatDoor

set_option linter.unusedSimpArgs false
set_option linter.unusedVariables false
set_option maxRecDepth 8000
namespace Go.Proofs.YtpobfgokikfmbaaGreatDoor
open Go.RowKit Go.Sort Go.WideShapes Col
def upd {α : Type} (f : Nat → α) (i : Nat) (x : α) : Nat → α := fun j => if j = i then x else f j
/-- The types of the five columns' elements. -/
def TY : Nat → TypeId
  | 3 => 9
  | 4 => 36
  | _ => 2
/-- Five slices that a call owns, in blocks of their own. -/
structure OL (W : World) (vs : Nat → Value) (ks : Nat → Nat) (cs : Nat → List Value) (w : World) : Prop where
  own : ∀ i, i < 5 → w.ownsRow W.heap.size (TY i) 1 (vs i) (ks i) (cs i)
  sep : ∀ i j, i < 5 → j < 5 → i ≠ j → (vs i).ownBlock = none ∨ (vs i).ownBlock ≠ (vs j).ownBlock
  below : Below W.heap.size W w
theorem owns_allocY {w : World} {B : Nat} {T : TypeId} {v : Value} {n : Nat} {xs : List Value} (h : w.ownsRow B T 1 v n xs) (o : Obj) : (w.alloc o).ownsRow B T 1 v n xs :=
  h.kept (row := none) ⟨rfl, rfl, rfl, by simp, fun k hk _ => Below.heap_alloc _ _ _ hk⟩ (by rcases v.ownBlock with _ | b <;> simp)
theorem OL.app {W w w' : World} {vs : Nat → Value} {ks : Nat → Nat} {cs : Nat → List Value} (H : OL W vs ks cs w) (i : Nat) (hi : i < 5) (o : Obj) {v' : Value} {n' : Nat} {xs' : List Value}
    (ho : w'.ownsRow W.heap.size (TY i) 1 v' n' xs') (hg : (w.alloc o).grownBy w' (vs i).ownBlock) (hd : v'.ownBlock = (vs i).ownBlock ∨ v'.ownBlock = some (w.alloc o).heap.size) :
    OL W (upd vs i v') (upd ks i n') (upd cs i xs') w' := by
  have hlt : ∀ j, j < 5 → ∀ k, (vs j).ownBlock = some k → W.heap.size ≤ k ∧ k < w.heap.size := fun j hj k hk => (H.own j hj).lt k hk
  have hsz : (w.alloc o).heap.size = w.heap.size + 1 := by simp
  refine ⟨fun j hj => ?_, fun a b ha hb hab => ?_, ?_⟩
  · by_cases e : j = i
    · subst e; unfold upd; simp only [if_pos]; exact ho
    · unfold upd; simp only [if_neg e]
      exact (owns_allocY (H.own j hj) o).kept hg (H.sep j i hj hi e)
  · by_cases e : a = i
    · subst e
      have hba : b ≠ a := fun h => hab h.symm
      unfold upd; simp only [if_pos, if_neg hba]
      rcases hd with h | h
      · rw [h]; exact H.sep a b ha hb hab
      · right; rw [h]; intro h2
        have := (hlt b hb _ h2.symm).2
        omega
    · by_cases e2 : b = i
      · subst e2
        unfold upd; simp only [if_pos, if_neg e]
        rcases hd with h | h
        · rw [h]; exact H.sep a b ha hb hab
        · right; rw [h]; intro h2
          have := (hlt a ha _ h2).2
          omega
      · unfold upd; simp only [if_neg e, if_neg e2]; exact H.sep a b ha hb hab
  · exact ((H.below.alloc H.below.size o)).grown hg (Nat.le_trans H.below.size (by omega)) (fun k hk => (hlt i hi k hk).1)
theorem wpList_append_oneY {w : World} {ops : Array Oper} {rest : List Oper} {o : Oper} {a : Act} {Q : Exit → Act → World → Prop} (hgd : o.guard = none) (s x : Operand) (ST : TypeId)
    (ho : o.op = .call { callee := .builtin .append, args := #[s, x], argTypes := #[ST, ST] }) (T : TypeId) (i0 : TypeInfo) (z : Value) (bytes : Nat) (hu : Tryz.prog.underlying ST = some (.slice T)) (hi : Tryz.prog.info? T = some i0) (hz0 : i0.zero = some z) (hz1 : i0.size = 1) (hz2 : i0.bytes = bytes) (hzs : z.cells.size = 1) (hby : bytes ≤ 16)
    (B : Nat) (v : Value) (n : Nat) (xs : List Value) (hs : a.eval s = v) (hown : w.ownsRow B T 1 v n xs) (g : Nat) (hx : a.eval x = .slice (some ⟨g, 0, none⟩) 1 1) (u : Value) (hc : w.cell? ⟨g, 0, none⟩ = some u) (h1 : u.oneCell' = true) (hn : n ≤ 1000) (hbase : B ≤ w.heap.size)
    (h : ∀ v' w', w'.ownsRow B T 1 v' (n + 1) (xs ++ [u]) → w.grownBy w' v.ownBlock → (v'.ownBlock = v.ownBlock ∨ v'.ownBlock = some w.heap.size) → wpList Tryz.prog ops Q rest (a.put o.dst v') w') : wpList Tryz.prog ops Q (o :: rest) a w := by
  refine wpList_plain hgd fun K hK => ?_
  obtain ⟨v', w', hr, h3, h4, h5, h6⟩ := run_append_own_at (P := Tryz.prog) (w := w) B ST o.type T i0 z 1 bytes hu hi hz0 hz1 hz2 hzs (by decide) v n xs hown ⟨g, 0, none⟩ 1 1 [u] rfl (fun j y hj => by
    rcases j with _ | j
    · simp at hj; subst hj; rw [Addr.add_lit]; exact hc
    · simp at hj) (fun y hy => by rw [List.mem_singleton] at hy; subst hy; exact h1) (by unfold maxLen; omega) (by have : (n + 1) * bytes ≤ (n + 1) * 16 := Nat.mul_le_mul_left _ hby; omega) hbase
  unfold Oper.wp execOp
  simp only [ho, resolve, invoke, builtin, Sem.run_bind, Sem.run_pure, Result.andThen_ok, List.map_toArray, List.map_cons, List.map_nil, hs, hx, hr]
  exact hK _ _ (h v' w' h3 h4 h6)
/-- The columns' cells. -/
def CL (l : List Ev) : Nat → List Value
  | 0 => ivs (l.map oI)
  | 1 => ivs (l.map Ev.part)
  | 2 => ivs (l.map Ev.time)
  | 3 => tvs (l.map kL)
  | _ => fvs (l.map Ev.val)
theorem take_mapY {α : Type} (f : Ev → α) (c : α → Value) (l : List Ev) (k : Nat) (x : Ev) (h : l[k]? = some x) : ((l.map f).map c).take k ++ [c (f x)] = ((l.map f).map c).take (k + 1) := by
  rw [List.take_add_one, List.getElem?_map, List.getElem?_map, h]; rfl
theorem sliceY {w : World} {B : Nat} {T : TypeId} {v : Value} {n : Nat} {xs : List Value} (h : w.ownsRow B T 1 v n xs) : ∃ A c, v = .slice A n c ∧ n ≤ c ∧ c ≤ maxLen := by
  rcases h.2 with ⟨e, h0⟩ | ⟨g, cap, cur, e, -, -, h1, h2, -⟩
  · exact ⟨none, 0, by rw [e, h0], by omega, Nat.zero_le _⟩
  · exact ⟨_, cap, e, h1, h2⟩

set_option maxHeartbeats 16000000 in
theorem refEvLay_any (b : Option Addr) (n c : Nat) (l : List Ev) (hn : Hid (n = l.length)) (hn6 : n ≤ 60) (hfin : Hid (∀ x ∈ l, FineE x)) (W : World) (HE : Hid (EvAt W b l)) :
    Calls Tryz.prog 9 #[.slice b n c] W fun e w' => ∃ A N cap, e = .returned (.slice A N cap) ∧ ByAt w' A (Pg.lay 101 (evY l)) ∧ N = (Pg.lay 101 (evY l)).length ∧ Below W.heap.size W w' := by
  obtain ⟨iu, hiu, iuz0, iuz1, iuz2⟩ := info_parts infoI64'
  obtain ⟨js, hjs, jsz0, jsz1, jsz2⟩ := info_parts infoStr
  obtain ⟨jf, hjf, jfz0, jfz1, jfz2⟩ := info_parts infoF64
  have HO00 : Hid (OL W (fun _ => .slice none 0 0) (fun _ => 0) (fun q => (CL l q).take 0) W) := Lib.hid ⟨fun q hq => W.ownsRow_nil _ _ 1, fun q r _ _ _ => .inl rfl, Below.refl _ _⟩
  go_enter Tryz.func9, Tryz.ntmps9
  go_wp2
  go_loopw [3, 4, 5, 6, 7, 8] (fun u3 u4 u5 u6 u7 v wr => ∃ (i : Nat) (vs : Nat → Value), i ≤ n ∧ v = .int .i64 (i : Int) ∧ u3 = vs 0 ∧ u4 = vs 1 ∧ u5 = vs 2 ∧ u6 = vs 3 ∧ u7 = vs 4 ∧ OL W vs (fun _ => i) (fun q => (CL l q).take i) wr) (fun _ _ _ _ _ v _ => n - (intOf v).toNat)
  case atStart => exact ⟨0, fun _ => .slice none 0 0, Nat.zero_le _, rfl, rfl, rfl, rfl, rfl, rfl, HO00.out⟩
  case round =>
    obtain ⟨i, vs, hi, rfl, rfl, rfl, rfl, rfl, rfl, hol⟩ := hrel
    obtain ⟨x0, hx0⟩ : ∃ x0, x0 = wr := ⟨_, rfl⟩
    subst hx0
    have HO0 := Lib.hid hol
    clear hol HO00
    by_cases hlt : i < n
    · have hii : (i : Int) < (n : Int) := by omega
      obtain ⟨x, hx⟩ : ∃ x, l[i]? = some x := ⟨_, List.getElem?_eq_getElem (by have := hn.out; omega)⟩
      have HX := Lib.hid hx
      have HF := Lib.hid (hfin.out x (List.mem_of_getElem? hx))
      obtain ⟨g, off, rfl, hg, hr⟩ := evrB HE.out i x hx
      have HC : Hid (∀ w', Below W.heap.size W w' → ∀ (j : Nat) (v : Value), x.cells[j]? = some v → w'.cell? ⟨g, off + i * 5 + j, none⟩ = some v) := Lib.hid fun w' hb j v hv => (hb.cell (p := ⟨g, off + i * 5 + j, none⟩) hg).trans (hr j v hv)
      have how : IntKind.i64.wrap (x.off : Int) = oI x := by rw [IntKind.wrap_i64]; have := HF.out.off; unfold oI; omega
      clear hx hr hg
      have ce : x0.cell? ⟨g, off + i * 5, none⟩ = some (.int .u64 (x.off : Int)) := HC.out x0 HO0.out.below 0 _ rfl
      have hbs : W.heap.size ≤ (x0.alloc (.cells #[.int .i64 (oI x)] 2)).heap.size := (HO0.out.below.alloc HO0.out.below.size _).size
      have hal : (x0.alloc (.cells #[.int .i64 (oI x)] 2)).cell? ⟨x0.heap.size, 0, none⟩ = some (.int .i64 (oI x)) := by rw [cell_of_row _ _ _ _ _ _ (heap_alloc_new' x0 _)]; rfl
      go_upto_region 8 with (refine wpList_append_oneY rfl (.tmp 16) (.tmp 23) 40 rfl 2 iu (.int .i64 0) 8 Tryz.underlying40 hiu iuz0 iuz1 iuz2 rfl (by decide) W.heap.size (vs 0) i _ rfl (owns_allocY (HO0.out.own 0 (by decide)) _) x0.heap.size rfl (.int .i64 (oI x)) hal rfl (by omega) hbs ?_; intro y0 x1 ho hg hd; have HO1 := Lib.hid (HO0.out.app 0 (by decide) _ ho hg hd); clear ho hg hd)
      clear ce hbs hal
      have ce : x1.cell? ⟨g, off + i * 5 + 1, none⟩ = some (.int .i64 x.part) := HC.out x1 HO1.out.below 1 _ rfl
      have hbs : W.heap.size ≤ (x1.alloc (.cells #[.int .i64 x.part] 2)).heap.size := (HO1.out.below.alloc HO1.out.below.size _).size
      have hal : (x1.alloc (.cells #[.int .i64 x.part] 2)).cell? ⟨x1.heap.size, 0, none⟩ = some (.int .i64 x.part) := by rw [cell_of_row _ _ _ _ _ _ (heap_alloc_new' x1 _)]; rfl
      go_upto_region 9 with (refine wpList_append_oneY rfl (.tmp 25) (.tmp 31) 40 rfl 2 iu (.int .i64 0) 8 Tryz.underlying40 hiu iuz0 iuz1 iuz2 rfl (by decide) W.heap.size (vs 1) i _ rfl (owns_allocY (HO1.out.own 1 (by decide)) _) x1.heap.size rfl (.int .i64 x.part) hal rfl (by omega) hbs ?_; intro y1 x2 ho hg hd; have HO2 := Lib.hid (HO1.out.app 1 (by decide) _ ho hg hd); clear ho hg hd)
      clear ce hbs hal
      have ce : x2.cell? ⟨g, off + i * 5 + 2, none⟩ = some (.int .i64 x.time) := HC.out x2 HO2.out.below 2 _ rfl
      have hbs : W.heap.size ≤ (x2.alloc (.cells #[.int .i64 x.time] 2)).heap.size := (HO2.out.below.alloc HO2.out.below.size _).size
      have hal : (x2.alloc (.cells #[.int .i64 x.time] 2)).cell? ⟨x2.heap.size, 0, none⟩ = some (.int .i64 x.time) := by rw [cell_of_row _ _ _ _ _ _ (heap_alloc_new' x2 _)]; rfl
      go_upto_region 10 with (refine wpList_append_oneY rfl (.tmp 33) (.tmp 39) 40 rfl 2 iu (.int .i64 0) 8 Tryz.underlying40 hiu iuz0 iuz1 iuz2 rfl (by decide) W.heap.size (vs 2) i _ rfl (owns_allocY (HO2.out.own 2 (by decide)) _) x2.heap.size rfl (.int .i64 x.time) hal rfl (by omega) hbs ?_; intro y2 x3 ho hg hd; have HO3 := Lib.hid (HO2.out.app 2 (by decide) _ ho hg hd); clear ho hg hd)
      clear ce hbs hal
      have ce : x3.cell? ⟨g, off + i * 5 + 3, none⟩ = some (.string x.key) := HC.out x3 HO3.out.below 3 _ rfl
      have hbs : W.heap.size ≤ (x3.alloc (.cells #[.string x.key] 9)).heap.size := (HO3.out.below.alloc HO3.out.below.size _).size
      have hal : (x3.alloc (.cells #[.string x.key] 9)).cell? ⟨x3.heap.size, 0, none⟩ = some (.string x.key) := by rw [cell_of_row _ _ _ _ _ _ (heap_alloc_new' x3 _)]; rfl
      go_upto_region 11 with (refine wpList_append_oneY rfl (.tmp 41) (.tmp 47) 41 rfl 9 js (.string { data := #[] }) 16 Tryz.underlying41 hjs jsz0 jsz1 jsz2 rfl (by decide) W.heap.size (vs 3) i _ rfl (owns_allocY (HO3.out.own 3 (by decide)) _) x3.heap.size rfl (.string x.key) hal rfl (by omega) hbs ?_; intro y3 x4 ho hg hd; have HO4 := Lib.hid (HO3.out.app 3 (by decide) _ ho hg hd); clear ho hg hd)
      clear ce hbs hal
      have ce : x4.cell? ⟨g, off + i * 5 + 4, none⟩ = some (.float .f64 x.val) := HC.out x4 HO4.out.below 4 _ rfl
      have hbs : W.heap.size ≤ (x4.alloc (.cells #[.float .f64 x.val] 36)).heap.size := (HO4.out.below.alloc HO4.out.below.size _).size
      have hal : (x4.alloc (.cells #[.float .f64 x.val] 36)).cell? ⟨x4.heap.size, 0, none⟩ = some (.float .f64 x.val) := by rw [cell_of_row _ _ _ _ _ _ (heap_alloc_new' x4 _)]; rfl
      go_wp2_with (refine wpList_append_oneY rfl (.tmp 49) (.tmp 55) 42 rfl 36 jf (.float .f64 0) 8 Tryz.underlying42 hjf jfz0 jfz1 jfz2 rfl (by decide) W.heap.size (vs 4) i _ rfl (owns_allocY (HO4.out.own 4 (by decide)) _) x4.heap.size rfl (.float .f64 x.val) hal rfl (by omega) hbs ?_; intro y4 x5 ho hg hd; have HO5 := Lib.hid (HO4.out.app 4 (by decide) _ ho hg hd); clear ho hg hd)
      clear ce hbs hal
      go_roundw
      case rel =>
        refine ⟨i + 1, upd (upd (upd (upd (upd vs 0 y0) 1 y1) 2 y2) 3 y3) 4 y4, by omega, by go_num, rfl, rfl, rfl, rfl, rfl, ?_⟩
        refine ⟨fun q hq => ?_, HO5.out.sep, HO5.out.below⟩
        have h := HO5.out.own q hq
        rcases (by omega : q = 0 ∨ q = 1 ∨ q = 2 ∨ q = 3 ∨ q = 4) with rfl | rfl | rfl | rfl | rfl
        · exact (take_mapY oI iv l i x HX.out) ▸ h
        · exact (take_mapY Ev.part iv l i x HX.out) ▸ h
        · exact (take_mapY Ev.time iv l i x HX.out) ▸ h
        · have e : tv (kL x) = .string x.key := by unfold tv; rw [kL_strB]
          exact (take_mapY kL tv l i x HX.out) ▸ (e ▸ h)
        · exact (take_mapY Ev.val (fun x => .float .f64 x) l i x HX.out) ▸ h
      case measure => simp [intOf]; omega
    · obtain rfl : i = n := by omega
      have hii : ¬ (i : Int) < (i : Int) := by omega
      have hlen : ∀ q, (CL l q).length = i := fun q => by
        have := hn.out
        unfold CL
        split <;> simp [ivs, tvs, fvs] <;> omega
      have own : ∀ q, q < 5 → x0.ownsRow W.heap.size (TY q) 1 (vs q) i (CL l q) := fun q hq => by
        have h := HO0.out.own q hq
        rwa [List.take_of_length_le (by rw [hlen q]; exact Nat.le_refl _)] at h
      obtain ⟨B0, d0, e0, p0, m0⟩ := sliceY (own 0 (by decide))
      obtain ⟨B1, d1, e1, p1, m1⟩ := sliceY (own 1 (by decide))
      obtain ⟨B2, d2, e2, p2, m2⟩ := sliceY (own 2 (by decide))
      obtain ⟨B3, d3, e3, p3, m3⟩ := sliceY (own 3 (by decide))
      obtain ⟨B4, d4, e4, p4, m4⟩ := sliceY (own 4 (by decide))
      have w0 := own 0 (by decide); have w1 := own 1 (by decide); have w2 := own 2 (by decide); have w3 := own 3 (by decide); have w4 := own 4 (by decide)
      rw [e0] at w0; rw [e1] at w1; rw [e2] at w2; rw [e3] at w3; rw [e4] at w4
      rw [e0, e1, e2, e3, e4]
      have HKW : Hid (∀ y ∈ l.map kL, WfT y ∧ y.length ≤ 32) := Lib.hid (kL_all hfin.out)
      have o0 : OwnI x0 W.heap.size B0 i d0 (l.map oI) := ⟨w0, oI_wf hfin.out⟩
      have o1 : OwnI x0 W.heap.size B1 i d1 (l.map Ev.part) := ⟨w1, part_wf hfin.out⟩
      have o2 : OwnI x0 W.heap.size B2 i d2 (l.map Ev.time) := ⟨w2, time_wf hfin.out⟩
      have o3 : OwnX x0 W.heap.size B3 i d3 (l.map kL) := ⟨w3, fun y hy => (HKW.out y hy).1⟩
      have o4 : OwnF x0 W.heap.size B4 i d4 (l.map Ev.val) := ⟨w4, val_lt hfin.out⟩
      have hml : ∀ {α : Type} (f : Ev → α), i = (l.map f).length := fun f => by rw [List.length_map]; exact hn.out
      have HI1 : Hid (∀ w', Below x0.heap.size x0 w' → Calls Tryz.prog 23 #[.slice B0 i d0] w' (Puts w'.heap.size w' (intsL (l.map oI)))) := Lib.hid fun w' hb => refInts_any B0 i d0 (l.map oI) (Lib.hid (hml oI)) p0 m0 (by omega) w' (Lib.hid (o0.isAt.keep hb))
      have HI2 : Hid (∀ w', Below x0.heap.size x0 w' → Calls Tryz.prog 23 #[.slice B1 i d1] w' (Puts w'.heap.size w' (intsL (l.map Ev.part)))) := Lib.hid fun w' hb => refInts_any B1 i d1 (l.map Ev.part) (Lib.hid (hml Ev.part)) p1 m1 (by omega) w' (Lib.hid (o1.isAt.keep hb))
      have HI3 : Hid (∀ w', Below x0.heap.size x0 w' → Calls Tryz.prog 23 #[.slice B2 i d2] w' (Puts w'.heap.size w' (intsL (l.map Ev.time)))) := Lib.hid fun w' hb => refInts_any B2 i d2 (l.map Ev.time) (Lib.hid (hml Ev.time)) p2 m2 (by omega) w' (Lib.hid (o2.isAt.keep hb))
      have HI4 : Hid (∀ w', Below x0.heap.size x0 w' → Calls Tryz.prog 24 #[.slice B3 i d3] w' (Puts w'.heap.size w' (textsL (l.map kL)))) := Lib.hid fun w' hb => refTexts_any B3 i d3 (l.map kL) (Lib.hid (hml kL)) p3 m3 (by omega) (Lib.hid fun y hy => Nat.le_trans (HKW.out y hy).2 (by decide)) w' (Lib.hid (o3.isAt.keep hb))
      have HI5 : Hid (∀ w', Below x0.heap.size x0 w' → Calls Tryz.prog 25 #[.slice B4 i d4] w' (Puts w'.heap.size w' (intsL ((l.map Ev.val).map rwI)))) := Lib.hid fun w' hb => refReals_any B4 i d4 (l.map Ev.val) (Lib.hid (hml Ev.val)) (by omega) w' (Lib.hid (o4.isAt.keep hb))
      have z1 := ints_60 (l.map oI) (oI_wf hfin.out) (by rw [← hml oI]; exact hn6)
      have z2 := ints_60 (l.map Ev.part) (part_wf hfin.out) (by rw [← hml Ev.part]; exact hn6)
      have z3 := ints_60 (l.map Ev.time) (time_wf hfin.out) (by rw [← hml Ev.time]; exact hn6)
      have z4 := texts_60 (l.map kL) (fun y hy => (HKW.out y hy).1) (fun y hy => (HKW.out y hy).2) (by rw [← hml kL]; exact hn6)
      have z5 := ints_60 ((l.map Ev.val).map rwI) (fun y hy => by obtain ⟨u, -, rfl⟩ := List.mem_map.1 hy; exact rwI_wf u) (by rw [List.length_map, ← hml Ev.val]; exact hn6)
      have HEV : Hid (evY l = (((txL (intsL (l.map oI)) ++ txL (intsL (l.map Ev.part))) ++ txL (intsL (l.map Ev.time))) ++ txL (textsL (l.map kL))) ++ txL (intsL ((l.map Ev.val).map rwI))) := Lib.hid rfl
      have HWW := Lib.hid HO0.out.below
      clear own hlen w0 w1 w2 w3 w4 o0 o1 o2 o3 o4 hml e0 e1 e2 e3 e4 HO0 HKW p0 p1 p2 p3 p4 m0 m1 m2 m3 m4
      generalize intsL (l.map oI) = D1 at *
      generalize intsL (l.map Ev.part) = D2 at *
      generalize intsL (l.map Ev.time) = D3 at *
      generalize textsL (l.map kL) = D4 at *
      generalize intsL ((l.map Ev.val).map rwI) = D5 at *
      have Z1 := Lib.hid (txL_le D1 1223 (by omega) z1); have Z2 := Lib.hid (txL_le D2 1223 (by omega) z2); have Z3 := Lib.hid (txL_le D3 1223 (by omega) z3); have Z4 := Lib.hid (txL_le D4 3760 (by omega) z4); have Z5 := Lib.hid (txL_le D5 1223 (by omega) z5)
      have Y1 := Lib.hid z1; have Y2 := Lib.hid z2; have Y3 := Lib.hid z3; have Y4 := Lib.hid z4; have Y5 := Lib.hid z5
      clear z1 z2 z3 z4 z5
      go_wp2_with (first
        | (go_at_call 23; (with_reducible refine (HI1.out x0 (Below.refl _ _)).mono ?_); rintro e a1 ⟨A1, n1, c1, rfl, h1, h2, h3⟩; have Ba1 : Hid (Below x0.heap.size x0 a1) := Lib.hid (below_to (Below.refl _ _) h2); have hcv := conv_by n1 c1 h1.byAt h1.len; have W1 : Hid (WfT D1) := Lib.hid h1.byAt.lt; clear h1 h2 h3)
        | (go_at_call 22; (with_reducible refine (refText_any D1 W1.out (by have := Y1.out; omega) a1).mono ?_); rintro e b1 ⟨E1, k1, r1, rfl, h1, h2, h3⟩; have P1 := Lib.hid h1; have hk1 : k1 ≤ 1233 := (by have := h1.len; have := Z1.out; omega); have Bb1 : Hid (Below x0.heap.size x0 b1) := Lib.hid (below_to Ba1.out h2); have hz1 : a1.heap.size ≤ b1.heap.size := h3; clear h1 h2 h3 hcv)
        | (go_at_call 23; (with_reducible refine (HI2.out b1 Bb1.out).mono ?_); rintro e a2 ⟨A2, n2, c2, rfl, h1, h2, h3⟩; have Ba2 : Hid (Below x0.heap.size x0 a2) := Lib.hid (below_to Bb1.out h2); have hcv := conv_by n2 c2 h1.byAt h1.len; have W2 : Hid (WfT D2) := Lib.hid h1.byAt.lt; have Pa2 := Lib.hid (P1.out.keep h2); have Ba2d : Hid (b1.heap.size ≤ a2.heap.size) := Lib.hid h3; clear h1 h2 h3)
        | (go_at_call 22; (with_reducible refine (refText_any D2 W2.out (by have := Y2.out; omega) a2).mono ?_); rintro e b2 ⟨E2, k2, r2, rfl, h1, h2, h3⟩; have Pb2 := Lib.hid (Pa2.out.keep h2); have Q2 := Lib.hid h1; have hk2 : k2 ≤ 1233 := (by have := h1.len; have := Z2.out; omega); have Bb2 : Hid (Below x0.heap.size x0 b2) := Lib.hid (below_to Ba2.out h2); have hy2 : a1.heap.size ≤ b2.heap.size := Nat.le_trans hz1 (Nat.le_trans (Nat.le_trans (Nat.le_refl _) Ba2d.out) h3); clear h1 h2 h3 hcv)
        | (refine wpList_append_by rfl (.tmp 61) (.tmp 65) rfl a1.heap.size E1 k1 r1 (txL D1) rfl Pb2.out E2 k2 r2 (txL D2) rfl Q2.out.len Q2.out.byAt (by omega) hy2 ?_; intro G2 s2 d2 ho hg hr9; obtain ⟨q2, hq2⟩ : ∃ q, q = k1 + k2 := ⟨_, rfl⟩; rw [← hq2] at ho ⊢; have P2 := Lib.hid ho; have Bd2 : Hid (Below x0.heap.size x0 d2) := Lib.hid (Bb2.out.grown hg (Nat.le_trans Ba1.out.size hy2) (fun k hk => Nat.le_trans Ba1.out.size (Pb2.out.base k hk))); have hz2 : a1.heap.size ≤ d2.heap.size := Nat.le_trans hy2 hg.size; have hlq2 : q2 ≤ 2466 := (by omega); clear ho hg hr9 hq2)
        | (go_at_call 23; (with_reducible refine (HI3.out d2 Bd2.out).mono ?_); rintro e a3 ⟨A3, n3, c3, rfl, h1, h2, h3⟩; have Ba3 : Hid (Below x0.heap.size x0 a3) := Lib.hid (below_to Bd2.out h2); have hcv := conv_by n3 c3 h1.byAt h1.len; have W3 : Hid (WfT D3) := Lib.hid h1.byAt.lt; have Pa3 := Lib.hid (P2.out.keep h2); have Ba3d : Hid (d2.heap.size ≤ a3.heap.size) := Lib.hid h3; clear h1 h2 h3)
        | (go_at_call 22; (with_reducible refine (refText_any D3 W3.out (by have := Y3.out; omega) a3).mono ?_); rintro e b3 ⟨E3, k3, r3, rfl, h1, h2, h3⟩; have Pb3 := Lib.hid (Pa3.out.keep h2); have Q3 := Lib.hid h1; have hk3 : k3 ≤ 1233 := (by have := h1.len; have := Z3.out; omega); have Bb3 : Hid (Below x0.heap.size x0 b3) := Lib.hid (below_to Ba3.out h2); have hy3 : a1.heap.size ≤ b3.heap.size := Nat.le_trans hz2 (Nat.le_trans (Nat.le_trans (Nat.le_refl _) Ba3d.out) h3); clear h1 h2 h3 hcv)
        | (refine wpList_append_by rfl (.tmp 67) (.tmp 71) rfl a1.heap.size G2 q2 s2 (txL D1 ++ txL D2) rfl Pb3.out E3 k3 r3 (txL D3) rfl Q3.out.len Q3.out.byAt (by omega) hy3 ?_; intro G3 s3 d3 ho hg hr9; obtain ⟨q3, hq3⟩ : ∃ q, q = q2 + k3 := ⟨_, rfl⟩; rw [← hq3] at ho ⊢; have P3 := Lib.hid ho; have Bd3 : Hid (Below x0.heap.size x0 d3) := Lib.hid (Bb3.out.grown hg (Nat.le_trans Ba1.out.size hy3) (fun k hk => Nat.le_trans Ba1.out.size (Pb3.out.base k hk))); have hz3 : a1.heap.size ≤ d3.heap.size := Nat.le_trans hy3 hg.size; have hlq3 : q3 ≤ 3699 := (by omega); clear ho hg hr9 hq3)
        | (go_at_call 24; (with_reducible refine (HI4.out d3 Bd3.out).mono ?_); rintro e a4 ⟨A4, n4, c4, rfl, h1, h2, h3⟩; have Ba4 : Hid (Below x0.heap.size x0 a4) := Lib.hid (below_to Bd3.out h2); have hcv := conv_by n4 c4 h1.byAt h1.len; have W4 : Hid (WfT D4) := Lib.hid h1.byAt.lt; have Pa4 := Lib.hid (P3.out.keep h2); have Ba4d : Hid (d3.heap.size ≤ a4.heap.size) := Lib.hid h3; clear h1 h2 h3)
        | (go_at_call 22; (with_reducible refine (refText_any D4 W4.out (by have := Y4.out; omega) a4).mono ?_); rintro e b4 ⟨E4, k4, r4, rfl, h1, h2, h3⟩; have Pb4 := Lib.hid (Pa4.out.keep h2); have Q4 := Lib.hid h1; have hk4 : k4 ≤ 3770 := (by have := h1.len; have := Z4.out; omega); have Bb4 : Hid (Below x0.heap.size x0 b4) := Lib.hid (below_to Ba4.out h2); have hy4 : a1.heap.size ≤ b4.heap.size := Nat.le_trans hz3 (Nat.le_trans (Nat.le_trans (Nat.le_refl _) Ba4d.out) h3); clear h1 h2 h3 hcv)
        | (refine wpList_append_by rfl (.tmp 73) (.tmp 77) rfl a1.heap.size G3 q3 s3 ((txL D1 ++ txL D2) ++ txL D3) rfl Pb4.out E4 k4 r4 (txL D4) rfl Q4.out.len Q4.out.byAt (by omega) hy4 ?_; intro G4 s4 d4 ho hg hr9; obtain ⟨q4, hq4⟩ : ∃ q, q = q3 + k4 := ⟨_, rfl⟩; rw [← hq4] at ho ⊢; have P4 := Lib.hid ho; have Bd4 : Hid (Below x0.heap.size x0 d4) := Lib.hid (Bb4.out.grown hg (Nat.le_trans Ba1.out.size hy4) (fun k hk => Nat.le_trans Ba1.out.size (Pb4.out.base k hk))); have hz4 : a1.heap.size ≤ d4.heap.size := Nat.le_trans hy4 hg.size; have hlq4 : q4 ≤ 7469 := (by omega); clear ho hg hr9 hq4)
        | (go_at_call 25; (with_reducible refine (HI5.out d4 Bd4.out).mono ?_); rintro e a5 ⟨A5, n5, c5, rfl, h1, h2, h3⟩; have Ba5 : Hid (Below x0.heap.size x0 a5) := Lib.hid (below_to Bd4.out h2); have hcv := conv_by n5 c5 h1.byAt h1.len; have W5 : Hid (WfT D5) := Lib.hid h1.byAt.lt; have Pa5 := Lib.hid (P4.out.keep h2); have Ba5d : Hid (d4.heap.size ≤ a5.heap.size) := Lib.hid h3; clear h1 h2 h3)
        | (go_at_call 22; (with_reducible refine (refText_any D5 W5.out (by have := Y5.out; omega) a5).mono ?_); rintro e b5 ⟨E5, k5, r5, rfl, h1, h2, h3⟩; have Pb5 := Lib.hid (Pa5.out.keep h2); have Q5 := Lib.hid h1; have hk5 : k5 ≤ 1233 := (by have := h1.len; have := Z5.out; omega); have Bb5 : Hid (Below x0.heap.size x0 b5) := Lib.hid (below_to Ba5.out h2); have hy5 : a1.heap.size ≤ b5.heap.size := Nat.le_trans hz4 (Nat.le_trans (Nat.le_trans (Nat.le_refl _) Ba5d.out) h3); clear h1 h2 h3 hcv)
        | (refine wpList_append_by rfl (.tmp 79) (.tmp 83) rfl a1.heap.size G4 q4 s4 (((txL D1 ++ txL D2) ++ txL D3) ++ txL D4) rfl Pb5.out E5 k5 r5 (txL D5) rfl Q5.out.len Q5.out.byAt (by omega) hy5 ?_; intro G5 s5 d5 ho hg hr9; obtain ⟨q5, hq5⟩ : ∃ q, q = q4 + k5 := ⟨_, rfl⟩; rw [← hq5] at ho ⊢; have P5 := Lib.hid ho; have Bd5 : Hid (Below x0.heap.size x0 d5) := Lib.hid (Bb5.out.grown hg (Nat.le_trans Ba1.out.size hy5) (fun k hk => Nat.le_trans Ba1.out.size (Pb5.out.base k hk))); have hz5 : a1.heap.size ≤ d5.heap.size := Nat.le_trans hy5 hg.size; have hlq5 : q5 ≤ 8702 := (by omega); clear ho hg hr9 hq5)
        | (go_at_call 26; have hly := refLay_any 101 G5 q5 s5 _ d5 (Lib.hid P5.out.len) (by omega) (by decide) (Lib.hid P5.out.byAt); rw [show ((101 : Nat) : Int) = 101 from rfl] at hly; (with_reducible refine hly.mono ?_); rintro e vz ⟨Az, cz, rfl, ho, hb⟩; have HOz := Lib.hid ho; have HBz := Lib.hid (below_to (below_to HWW.out Bd5.out) hb); clear ho hb hly))
      go_ret
      have hz := HOz.out
      rw [← HEV.out] at hz
      exact ⟨Az, _, cz, rfl, hz.byAt, hz.len, HBz.out⟩
end Go.Proofs.YtpobfgokikfmbaaGreatDoor

set_option linter.unusedSimpArgs false
set_option linter.unusedVariables false
set_option maxRecDepth 8000
namespace Go.Proofs.YtpobfgokikfmbaaGreatDoor
open Go.RowKit Go.Sort Go.WideShapes Col
theorem range_keepY {w w' : World} {g o : Nat} {x : Ev} (h : w.rangeAt g o x.cells) (hg : g < w.heap.size) (hb : Below w.heap.size w w') : w'.rangeAt g o x.cells := fun j v hv => (hb.cell (p := ⟨g, o + j, none⟩) hg).trans (h j v hv)
theorem wpAnyH_more {P : Program} {ops : Array Oper} {Q : Exit → Act → World → Prop} {md : Region.Mode} {S S' : World → Prop} (h : ∀ w, S' w → S w) : ∀ {n : Nat} {listed : Array Bool} {a : Act} {w : World}, wpAnyH P md ops Q S' n listed a w → wpAnyH P md ops Q S n listed a w
  | 0, _, _, _, H => H
  | n + 1, _, _, _, H => ⟨H.1, fun i hi => wpOp_mono (fun _ _ h' => ⟨h _ h'.1, wpAnyH_more h h'.2⟩) (H.2 i hi)⟩
set_option maxHeartbeats 4000000 in
theorem sameTwo_core (g1 o1 g2 o2 n c1 c2 : Nat) (l1 l : List Ev) (hn1 : Hid (n = l1.length)) (hn : Hid (n = l.length)) (h60 : n ≤ 1000) (hs : Hid (∀ (k : Nat) (y x : Ev), l1[k]? = some y → l[k]? = some x → ∀ w, Calls Tryz.prog 27 #[.agg y.cells.toArray, .agg x.cells.toArray] w fun e w' => e = .returned (.bool true) ∧ Below w.heap.size w w')) (W : World) (H1 : Hid (EvAt W (some ⟨g1, o1, none⟩) l1)) (H2 : Hid (EvAt W (some ⟨g2, o2, none⟩) l)) :
    Calls Tryz.prog 10 #[.slice (some ⟨g1, o1, none⟩) n c1, .slice (some ⟨g2, o2, none⟩) n c2] W fun e w' => e = .returned (.bool true) ∧ Below W.heap.size W w' := by
  have hq : ((n : Int) != (n : Int)) = false := by simp
  go_enter Tryz.func10, Tryz.ntmps10
  go_wp2
  clear hq
  go_loopw [5] (fun v wr => ∃ k : Nat, k ≤ n ∧ v = .int .i64 k ∧ Below W.heap.size W wr) (fun v _ => n - (intOf v).toNat)
  case atStart => exact ⟨0, Nat.zero_le _, rfl, Below.refl _ _⟩
  case round =>
    obtain ⟨k, hk, rfl, hb⟩ := hrel
    have HB := Lib.hid hb
    clear hb
    by_cases hkn : k < n
    · have hkl : k < l.length := by have := hn.out; omega
      obtain ⟨x, hx⟩ : ∃ x, l[k]? = some x := ⟨l[k], List.getElem?_eq_getElem hkl⟩
      obtain ⟨y, hy⟩ : ∃ y, l1[k]? = some y := ⟨l1[k]'(by have := hn1.out; omega), List.getElem?_eq_getElem _⟩
      have HSM := Lib.hid (hs.out k y x hy hx)
      obtain ⟨g, off, e, hg, hr⟩ := evrB (H1.out.keep HB.out) k y hy
      injection e with e; injection e with b1 b2; subst b1; subst b2
      obtain ⟨g', off', e, hg', hr'⟩ := evrB (H2.out.keep HB.out) k x hx
      injection e with e; injection e with b1 b2; subst b1; subst b2
      have HG1 := Lib.hid hg; have HG2 := Lib.hid hg'; have HX1 := Lib.hid hr; have HX2 := Lib.hid hr'
      clear hx hy hg hg' hr hr'
      have hz : (k : Int) < (n : Int) := by omega
      go_upto_region 6 with fail
      have hh0 : Below wr.heap.size wr wr.drew := (Below.refl _ _).drew
      refine wp_region_held_drew (S := fun w => Below wr.heap.size wr w) (by kernel_rfl) hh0 (fun hHeld => ?_)
      refine wpAnyH_take (i := 0) (v := .slice (some ⟨g1, o1, none⟩) n c1) rfl (by kernel_rfl) (by kernel_rfl) (by kernel_rfl) (fun _ _ _ h => h) (Or.inl ⟨by rfl, fun _ _ => rfl⟩) hHeld ?_
      try dsimp only
      try simp only [Act.put, List.getElem_toArray, List.getElem_cons_zero, List.getElem_cons_succ, List.setIfInBounds_toArray, List.set_cons_zero, List.set_cons_succ]
      refine wpAnyH_take (i := 1) (v := .int .i64 (k : Nat)) rfl (by kernel_rfl) (by kernel_rfl) (by kernel_rfl) (fun _ _ _ h => h) (Or.inl ⟨by rfl, fun _ _ => rfl⟩) hHeld ?_
      try dsimp only
      try simp only [Act.put, List.getElem_toArray, List.getElem_cons_zero, List.getElem_cons_succ, List.setIfInBounds_toArray, List.set_cons_zero, List.set_cons_succ]
      refine wpAnyH_take (i := 2) (v := .pointer (some ⟨g1, o1 + k * 5, none⟩)) rfl (by kernel_rfl) (by kernel_rfl) (by kernel_rfl) (fun _ _ _ h => h) (Or.inl ⟨by rfl, fun w _ => by go_simp⟩) hHeld ?_
      try dsimp only
      try simp only [Act.put, List.getElem_toArray, List.getElem_cons_zero, List.getElem_cons_succ, List.setIfInBounds_toArray, List.set_cons_zero, List.set_cons_succ]
      refine wpAnyH_take (i := 3) (v := .agg y.cells.toArray) rfl (by kernel_rfl) (by kernel_rfl) (by kernel_rfl) (fun _ _ _ h => h) (yieldsIf_load_mid rfl 38 (.tmp 19) rfl g1 (o1 + k * 5) rfl y.cells _ (fun w hw => range_keepY HX1.out HG1.out hw) uEvB rfl (iEvB y)) hHeld ?_
      try dsimp only
      try simp only [Act.put, List.getElem_toArray, List.getElem_cons_zero, List.getElem_cons_succ, List.setIfInBounds_toArray, List.set_cons_zero, List.set_cons_succ]
      refine wpAnyH_take (i := 4) (v := .slice (some ⟨g2, o2, none⟩) n c2) rfl (by kernel_rfl) (by kernel_rfl) (by kernel_rfl) (fun _ _ _ h => h) (Or.inl ⟨by rfl, fun _ _ => rfl⟩) hHeld ?_
      try dsimp only
      try simp only [Act.put, List.getElem_toArray, List.getElem_cons_zero, List.getElem_cons_succ, List.setIfInBounds_toArray, List.set_cons_zero, List.set_cons_succ]
      refine wpAnyH_take (i := 5) (v := .int .i64 (k : Nat)) rfl (by kernel_rfl) (by kernel_rfl) (by kernel_rfl) (fun _ _ _ h => h) (Or.inl ⟨by rfl, fun _ _ => rfl⟩) hHeld ?_
      try dsimp only
      try simp only [Act.put, List.getElem_toArray, List.getElem_cons_zero, List.getElem_cons_succ, List.setIfInBounds_toArray, List.set_cons_zero, List.set_cons_succ]
      refine wpAnyH_take (i := 6) (v := .pointer (some ⟨g2, o2 + k * 5, none⟩)) rfl (by kernel_rfl) (by kernel_rfl) (by kernel_rfl) (fun _ _ _ h => h) (Or.inl ⟨by rfl, fun w _ => by go_simp⟩) hHeld ?_
      try dsimp only
      try simp only [Act.put, List.getElem_toArray, List.getElem_cons_zero, List.getElem_cons_succ, List.setIfInBounds_toArray, List.set_cons_zero, List.set_cons_succ]
      refine wpAnyH_take (i := 7) (v := .agg x.cells.toArray) rfl (by kernel_rfl) (by kernel_rfl) (by kernel_rfl) (fun _ _ _ h => h) (yieldsIf_load_mid rfl 38 (.tmp 23) rfl g2 (o2 + k * 5) rfl x.cells _ (fun w hw => range_keepY HX2.out HG2.out hw) uEvB rfl (iEvB x)) hHeld ?_
      try dsimp only
      try simp only [Act.put, List.getElem_toArray, List.getElem_cons_zero, List.getElem_cons_succ, List.setIfInBounds_toArray, List.set_cons_zero, List.set_cons_succ]
      refine wpAnyH_ready (rs := [8]) (by kernel_rfl) (by simp) (AllReadyH.cons rfl (fun K hK => ?_) AllReadyH.nil)
      go_simp
      refine (HSM.out _).mono ?_
      rintro e w2 ⟨rfl, hb⟩
      replace hHeld := below_to hHeld hb
      clear hb
      refine hK.out _ _ hHeld (fun hHeld => ?_)
      clear hK K
      try dsimp only
      try simp only [Act.put, List.getElem_toArray, List.getElem_cons_zero, List.getElem_cons_succ, List.setIfInBounds_toArray, List.set_cons_zero, List.set_cons_succ]
      refine wpAnyH_ready (rs := [9]) (by kernel_rfl) (by simp) (AllReadyH.cons rfl (fun K hK => ?_) AllReadyH.nil)
      go_simp
      refine hK.out _ _ hHeld (fun hHeld => ?_)
      clear hK K
      try dsimp only
      try simp only [Act.put, List.getElem_toArray, List.getElem_cons_zero, List.getElem_cons_succ, List.setIfInBounds_toArray, List.set_cons_zero, List.set_cons_succ]
      refine wpAnyH_done (by kernel_rfl) ?_ _
      have HB2 := Lib.hid (below_to HB.out hHeld)
      go_wp2
      go_roundw
      case rel => exact ⟨k + 1, by omega, by go_num, HB2.out⟩
      case measure => simp [intOf]; omega
    · have hz : ¬ ((k : Int) < (n : Int)) := by omega
      go_wp2
      go_ret
      exact ⟨rfl, HB.out⟩
set_option maxHeartbeats 1000000 in
theorem sameTwo_none (a b : Option Addr) (c1 c2 : Nat) (W : World) :
    Calls Tryz.prog 10 #[.slice a 0 c1, .slice b 0 c2] W fun e w' => e = .returned (.bool true) ∧ Below W.heap.size W w' := by
  go_enter Tryz.func10, Tryz.ntmps10
  go_wp2
  refine wp_loop_rounds 1 ?_
  rw [rounds_succ]
  go_wp2
  go_ret
  exact ⟨rfl, Below.refl _ _⟩
/-- SameAll of two lists that are the same, one by one. -/
theorem sameTwo_any (a b : Option Addr) (n c1 c2 : Nat) (l1 l : List Ev) (hn1 : Hid (n = l1.length)) (hn : Hid (n = l.length)) (h60 : n ≤ 1000) (hs : Hid (∀ (k : Nat) (y x : Ev), l1[k]? = some y → l[k]? = some x → ∀ w, Calls Tryz.prog 27 #[.agg y.cells.toArray, .agg x.cells.toArray] w fun e w' => e = .returned (.bool true) ∧ Below w.heap.size w w')) (W : World) (H1 : Hid (EvAt W a l1)) (H2 : Hid (EvAt W b l)) :
    Calls Tryz.prog 10 #[.slice a n c1, .slice b n c2] W fun e w' => e = .returned (.bool true) ∧ Below W.heap.size W w' := by
  by_cases h0 : n = 0
  · subst h0
    exact sameTwo_none a b c1 c2 W
  · obtain ⟨y, hy⟩ : ∃ y, l1[0]? = some y := ⟨_, List.getElem?_eq_getElem (by have := hn1.out; omega)⟩
    obtain ⟨x, hx⟩ : ∃ x, l[0]? = some x := ⟨_, List.getElem?_eq_getElem (by have := hn.out; omega)⟩
    obtain ⟨g1, o1, rfl, -, -⟩ := evrB H1.out 0 y hy
    obtain ⟨g2, o2, rfl, -, -⟩ := evrB H2.out 0 x hx
    exact sameTwo_core g1 o1 g2 o2 n c1 c2 l1 l hn1 hn h60 hs W H1 H2
theorem sameCan_any (a b : Option Addr) (n c1 c2 : Nat) (l : List Ev) (hn : Hid (n = l.length)) (h60 : n ≤ 1000) (hv : Hid (∀ x ∈ l, x.val < 18446744073709551616)) (W : World) (H1 : Hid (EvAt W a (l.map canE))) (H2 : Hid (EvAt W b l)) :
    Calls Tryz.prog 10 #[.slice a n c1, .slice b n c2] W fun e w' => e = .returned (.bool true) ∧ Below W.heap.size W w' :=
  sameTwo_any a b n c1 c2 (l.map canE) l (Lib.hid (by rw [List.length_map]; exact hn.out)) hn h60 (Lib.hid fun k y x hy hx w => by
    rw [List.getElem?_map, hx] at hy
    simp at hy
    subst hy
    have hvx := hv.out x (List.mem_of_getElem? hx)
    have h := refEvSame_any (canE x) x (Fl.canon_lt _ hvx) hvx w
    have e : sameB (canE x) x = true := by unfold sameB keqB canE; simp [Fl.canon_canon]
    rw [e] at h
    exact h) W H1 H2
theorem form_up {x : Ev} {K : Int} (h : formB x K = true) (hK : K ≤ 8) : formB x 8 = true := by
  unfold formB at h ⊢
  simp only [Bool.and_eq_true, decide_eq_true_eq] at h ⊢
  obtain ⟨⟨⟨⟨⟨h1, h2⟩, h3⟩, h4⟩, h5⟩, h6⟩ := h
  exact ⟨⟨⟨⟨⟨h1, by omega⟩, h3⟩, h4⟩, h5⟩, h6⟩
theorem b_saddY {l m : List Nat} (h : l.length + m.length ≤ 1000000) (w : World) : (binOp .add 9 (.string (strB l)) (.string (strB m))).run Tryz.prog w = .ok (.string (strB (l ++ m))) w := by
  have h1 := strB_size l
  have h2 := strB_size m
  rw [← strB_append]
  go_simp
  omega
theorem b_seqY (s : ByteArray) (w : World) : (binOp .eql 9 (.string s) (.string s)).run Tryz.prog w = .ok (.bool true) w := by
  simp [binOp, Op.stringOp]
theorem b_eqNY (n : Nat) (w : World) : (binOp .eql 3 (.int .i64 (n : Int)) (.int .i64 (n : Int))).run Tryz.prog w = .ok (.bool true) w := by
  go_simp
set_option maxHeartbeats 2000000 in
theorem eventBack_long (a : Option Addr) (la ca : Nat) (b : Option Addr) (n c : Nat) (k : Nat) (hk : k < 256) (hL : 60 < n ∨ 300 < la) (hn4 : n ≤ maxLen) (hl4 : la ≤ maxLen) (W : World) :
    Calls Tryz.prog 3 #[.slice a la ca, .slice b n c, .int .u8 (k : Int)] W fun e w' => e = .returned (.bool true) ∧ Below W.heap.size W w' := by
  have hkm : IntKind.i64.wrap (k : Int) = (k : Int) := by rw [IntKind.wrap_i64]; omega
  by_cases h60 : 60 < n
  · have hLi : (60 : Int) < (n : Int) := by omega
    have HB := Below.refl W.heap.size W
    go_enter Tryz.func3, Tryz.ntmps3
    go_wp2_with (go_at_call 5; refine (awake_any _).mono ?_; rintro e w' ⟨rfl, hb⟩; replace HB := HB.trans (hb.mono HB.size); clear hb)
    go_ret
    exact ⟨rfl, HB⟩
  · have hLi : ¬ (60 : Int) < (n : Int) := by omega
    have hLj : (300 : Int) < (la : Int) := by omega
    have HB := Below.refl W.heap.size W
    go_enter Tryz.func3, Tryz.ntmps3
    go_wp2_with (go_at_call 5; refine (awake_any _).mono ?_; rintro e w' ⟨rfl, hb⟩; replace HB := HB.trans (hb.mono HB.size); clear hb)
    go_ret
    exact ⟨rfl, HB⟩
set_option maxHeartbeats 4000000 in
theorem eventBack_none (a : Option Addr) (lp : List Nat) (la ca : Nat) (hla : Hid (la = lp.length)) (b : Option Addr) (l : List Ev) (n c : Nat) (hn : Hid (n = l.length)) (k : Nat) (hk : k < 256) (hL : n ≤ 60) (hP : la ≤ 300) (K : Int) (hK : K = ((1 + k % 8 : Nat) : Int)) (hnf : allB l K = false) (W : World) (HE : Hid (EvAt W b l)) :
    Calls Tryz.prog 3 #[.slice a la ca, .slice b n c, .int .u8 (k : Int)] W fun e w' => e = .returned (.bool true) ∧ Below W.heap.size W w' := by
  have hLi : ¬ (60 : Int) < (n : Int) := by omega
  have hLj : ¬ (300 : Int) < (la : Int) := by omega
  have hk1 : IntKind.i64.wrap (k : Int) = (k : Int) := by rw [IntKind.wrap_i64]; omega
  have hKm : (1 : Int) + (k : Int) % 8 = K := by rw [hK]; omega
  have hKt : (1 : Int) + Int.tmod (k : Int) 8 = K := by rw [hK, Int.tmod_eq_emod_of_nonneg (by omega)]; omega
  have HFK : Hid (∀ w, Below W.heap.size W w → Calls Tryz.prog 6 #[.slice b n c, .int .i64 K] w fun e w' => e = .returned (.bool false) ∧ Below w.heap.size w w') := Lib.hid fun w hw => by
    have h := fine_any b n c l hn hL K w (Lib.hid (HE.out.keep hw))
    rwa [hnf] at h
  have HB := Below.refl W.heap.size W
  clear hnf hK
  go_enter Tryz.func3, Tryz.ntmps3
  go_wp2_with (first
    | (go_at_call 5; refine (awake_any _).mono ?_; rintro e w' ⟨rfl, hb⟩; replace HB := HB.trans (hb.mono HB.size); clear hb)
    | (go_at_call 6; (with_reducible refine (HFK.out _ HB).mono ?_); rintro e w' ⟨rfl, hb⟩; replace HB := HB.trans (hb.mono HB.size); clear hb))
  go_ret
  exact ⟨rfl, HB⟩
theorem yb_convY {ops : Array Oper} {S : World → Prop} {op : Oper} {a : Act} (hw : Region.wanted op (yielded ops a.tmps) = true) (x : Operand) (ho : op.op = .convert 22 9 x) (v u : Value) (hx : a.eval x = v)
    (h : ∀ w, S w → (convert 22 9 v).run Tryz.prog w = .ok u w) : YieldsIf Tryz.prog ops S op u a :=
  .inl ⟨hw, fun w hw' => by
    unfold execOp
    simp only [ho, hx, Sem.run_bind, Sem.run_pure, h w hw', Result.andThen_ok]⟩
set_option maxHeartbeats 16000000 in
theorem eventBack_core (a : Option Addr) (lp : List Nat) (la ca : Nat) (hla : Hid (la = lp.length)) (b : Option Addr) (l : List Ev) (n c : Nat) (hn : Hid (n = l.length)) (k : Nat) (hk : k < 256) (hac : la ≤ ca) (hcm : ca ≤ maxLen) (hL : n ≤ 60) (hP : la ≤ 300) (K : Int) (hK : K = ((1 + k % 8 : Nat) : Int)) (hall : allB l K = true) (hv : Hid (∀ x ∈ l, x.val < 18446744073709551616)) (W : World) (HA : Hid (ByAt W a lp)) (HE : Hid (EvAt W b l)) (HG : Hid (HalvesAt W)) :
    Calls Tryz.prog 3 #[.slice a la ca, .slice b n c, .int .u8 (k : Int)] W fun e w' => e = .returned (.bool true) ∧ Below W.heap.size W w' := by
  have hLi : ¬ (60 : Int) < (n : Int) := by omega
  have hLj : ¬ (300 : Int) < (la : Int) := by omega
  have hK8 : K ≤ 8 := by omega
  have HFE : Hid (∀ x ∈ l, FineE x) := Lib.hid fun x hx => fine_of (form_up (allB_yes hall x hx) hK8) (hv.out x hx)
  have hk1 : IntKind.i64.wrap (k : Int) = (k : Int) := by rw [IntKind.wrap_i64]; omega
  have hKm : (1 : Int) + (k : Int) % 8 = K := by rw [hK]; omega
  have hKt : (1 : Int) + Int.tmod (k : Int) 8 = K := by rw [hK, Int.tmod_eq_emod_of_nonneg (by omega)]; omega
  have HFK : Hid (∀ w, Below W.heap.size W w → Calls Tryz.prog 6 #[.slice b n c, .int .i64 K] w fun e w' => e = .returned (.bool true) ∧ Below w.heap.size w w') := Lib.hid fun w hw => by
    have h := fine_any b n c l hn hL K w (Lib.hid (HE.out.keep hw))
    rwa [hall] at h
  have hle := evY_le l HFE.out (by rw [← hn.out]; exact hL)
  obtain ⟨LY, hLY⟩ : ∃ LY, LY = Pg.lay 101 (evY l) := ⟨_, rfl⟩
  have hLYl : LY.length = 9 + (evY l).length := by rw [hLY, Pg.lay_len]
  obtain ⟨N, hN0⟩ : ∃ N, N = (lp ++ LY).length := ⟨_, rfl⟩
  have hNl : N = la + 5 + (evY l).length + 4 := by rw [hN0, List.length_append, hLYl, hla.out]; omega
  have HLL : Hid (lp.length + LY.length ≤ 1000000) := Lib.hid (by rw [hLYl, ← hla.out]; omega)
  have HLY : Hid (∀ A1 c1 w, Below W.heap.size W w → OwnS w W.heap.size A1 la c1 lp → Calls Tryz.prog 7 #[.slice A1 la c1, .slice b n c] w fun e w' => ∃ A cap, e = .returned (.slice A N cap) ∧ ByAt w' A (lp ++ LY) ∧ N ≤ cap ∧ cap ≤ maxLen ∧ Below W.heap.size w w') := Lib.hid fun A1 c1 w hw ho => by
    have hhb : 0 < W.heap.size := World.block_lt_of_cell? W _ (HG.out 0 (by decide))
    refine (evLay_any W.heap.size A1 la c1 lp b n c l hn hL hP HFE w (Lib.hid ho) (Lib.hid (HE.out.keep hw)) (Lib.hid (HG.out.keep hw)) hw.size hhb).mono fun e w' h => ?_
    obtain ⟨A, cap, he, ho, hb⟩ := h
    have hl := ho.len
    rw [hl] at he ho
    rw [← hLY, ← hN0] at he ho
    exact ⟨A, cap, he, ho.byAt, ho.caps.1, ho.caps.2, hb⟩
  have HRD : Hid (∀ A cap w, N ≤ cap → cap ≤ maxLen → ByAt w A (lp ++ LY) → HalvesAt w → Calls Tryz.prog 8 #[.slice A N cap, .int .i64 (la : Int), .int .i64 K] w fun e w' => ∃ L, e = .returned (.tuple #[.slice (some ⟨L, 0, none⟩) n n, .int .i64 (N : Int), .int .i64 0]) ∧ EvAt w' (some ⟨L, 0, none⟩) (l.map canE) ∧ Below w.heap.size w w') := Lib.hid fun A cap w hc hcm HA HGw => by
    rw [hLY] at HA
    refine (evRead_yes A N cap la lp l K (by rw [← hn.out]; exact hL) HFE (allB_yes hall) hla (fun x hx => HA.lt x (by have h := lay_mem (kind := 101) hx; rw [List.nil_append] at h; exact List.mem_append.2 (.inr h))) (Lib.hid (by rw [hN0, hLY])) hc hcm w (Lib.hid HA) (Lib.hid HGw)).mono fun e w' h => ?_
    obtain ⟨L, he, hev, hb⟩ := h
    refine ⟨L, ?_, hev, hb⟩
    rw [he, ← hn.out, show (la : Int) + 5 + ((evY l).length : Int) + 4 = (N : Int) by omega]
  have HRL : Hid (∀ w, Below W.heap.size W w → Calls Tryz.prog 9 #[.slice b n c] w fun e w' => ∃ A N cap, e = .returned (.slice A N cap) ∧ ByAt w' A LY ∧ N = LY.length ∧ Below w.heap.size w w') := Lib.hid fun w hw => by
    rw [hLY]
    exact refEvLay_any b n c l hn hL HFE w (Lib.hid (HE.out.keep hw))
  have HN : Hid (N = (lp ++ LY).length) := Lib.hid hN0
  have HB := Below.refl W.heap.size W
  clear hall hK hLY hN0 hNl hLYl hle HFE hK8
  go_enter Tryz.func3, Tryz.ntmps3
  go_upto_region 6 with (first
    | (go_at_call 5; refine (awake_any _).mono ?_; rintro e w' ⟨rfl, hb⟩; replace HB := HB.trans (hb.mono HB.size); clear hb)
    | (go_at_call 6; (with_reducible refine (HFK.out _ HB).mono ?_); rintro e w' ⟨rfl, hb⟩; replace HB := HB.trans (hb.mono HB.size); clear hb)
    | (at_builtin; refine wpList_append_by rfl (.const (.slice none 0 0)) (.tmp 35) rfl W.heap.size none 0 0 [] rfl (OwnS.nil _ _) a la ca lp rfl hla.out (HA.out.keep HB) (by omega) HB.size ?_; intro A1 c1 w3 ho hg hr; rw [Nat.zero_add] at ho ⊢; rw [List.nil_append] at ho; have HO1 := Lib.hid ho; replace HB := HB.grown hg HB.size (fun k h => by cases h); clear ho hg hr)
    | (go_at_call 7; (with_reducible refine (HLY.out A1 c1 _ HB HO1.out).mono ?_); rintro e w4 ⟨Aq, cq, rfl, h1, h2, h3, hb⟩; replace HB := HB.trans hb; have hc := h2; have hcm2 := h3; have HY := Lib.hid h1; have HGw := Lib.hid (HG.out.keep HB); clear h1 h2 h3 hb)
    | (go_at_call 8; (with_reducible refine (HRD.out Aq cq _ hc hcm2 HY.out HGw.out).mono ?_); rintro e w5 ⟨L, rfl, h1, hb⟩; replace HB := HB.trans (hb.mono HB.size); have HM5 := Lib.hid h1; have HY5 := Lib.hid (HY.out.keep hb); clear h1 hb))
  obtain ⟨w5d, hw5d⟩ : ∃ w5d, w5d = w5.drew := ⟨_, rfl⟩
  replace HB : Below W.heap.size W w5d := by rw [hw5d]; exact HB.drew
  have hBQ : ByAt w5d Aq (lp ++ LY) := by rw [hw5d]; exact HY5.out.keep (Below.refl _ _).drew
  have hBP : ByAt w5d a lp := HA.out.keep HB
  have hME : EvAt w5d (some ⟨L, 0, none⟩) (l.map canE) := by rw [hw5d]; exact HM5.out.keep (Below.refl _ _).drew
  have hLE : EvAt w5d b l := HE.out.keep HB
  clear HM5 HY5 HY HGw HO1
  refine wp_region_held_drew (S := Below w5d.heap.size w5d) (by kernel_rfl) (by rw [← hw5d]; exact Below.refl _ _) (fun hHeld => ?_)
  rw [← hw5d] at hHeld ⊢
  clear hw5d
  refine wpAnyH_take (i := 0) (v := .slice Aq N cq) rfl (by kernel_rfl) (by kernel_rfl) (by kernel_rfl) (fun _ _ _ h => h) (Or.inl ⟨by rfl, fun _ _ => rfl⟩) hHeld ?_
  try dsimp only
  try simp only [Act.put, List.getElem_toArray, List.getElem_cons_zero, List.getElem_cons_succ, List.setIfInBounds_toArray, List.set_cons_zero, List.set_cons_succ]
  refine wpAnyH_take (i := 1) (v := .string (strB (lp ++ LY))) rfl (by kernel_rfl) (by kernel_rfl) (by kernel_rfl) (fun _ _ _ h => h) (yb_convY rfl (.tmp 48) rfl _ _ rfl (fun w hw => conv_by N cq (hBQ.keep hw) HN.out)) hHeld ?_
  try dsimp only
  try simp only [Act.put, List.getElem_toArray, List.getElem_cons_zero, List.getElem_cons_succ, List.setIfInBounds_toArray, List.set_cons_zero, List.set_cons_succ]
  refine wpAnyH_take (i := 2) (v := .slice a la ca) rfl (by kernel_rfl) (by kernel_rfl) (by kernel_rfl) (fun _ _ _ h => h) (Or.inl ⟨by rfl, fun _ _ => rfl⟩) hHeld ?_
  try dsimp only
  try simp only [Act.put, List.getElem_toArray, List.getElem_cons_zero, List.getElem_cons_succ, List.setIfInBounds_toArray, List.set_cons_zero, List.set_cons_succ]
  refine wpAnyH_take (i := 3) (v := .string (strB lp)) rfl (by kernel_rfl) (by kernel_rfl) (by kernel_rfl) (fun _ _ _ h => h) (yb_convY rfl (.tmp 50) rfl _ _ rfl (fun w hw => conv_by la ca (hBP.keep hw) hla.out)) hHeld ?_
  try dsimp only
  try simp only [Act.put, List.getElem_toArray, List.getElem_cons_zero, List.getElem_cons_succ, List.setIfInBounds_toArray, List.set_cons_zero, List.set_cons_succ]
  refine wpAnyH_take (i := 4) (v := .slice b n c) rfl (by kernel_rfl) (by kernel_rfl) (by kernel_rfl) (fun _ _ _ h => h) (Or.inl ⟨by rfl, fun _ _ => rfl⟩) hHeld ?_
  try dsimp only
  try simp only [Act.put, List.getElem_toArray, List.getElem_cons_zero, List.getElem_cons_succ, List.setIfInBounds_toArray, List.set_cons_zero, List.set_cons_succ]
  refine wpAnyH_ready (rs := [5]) (by kernel_rfl) (by simp) (AllReadyH.cons rfl (fun K hK => ?_) AllReadyH.nil)
  go_simp
  refine (HRL.out _ HB).mono ?_
  rintro e v1 ⟨A5, n5, c5, rfl, hy, hk5, hv1⟩
  have HK5 := Lib.hid hk5
  clear hk5
  refine hK.out _ _ hv1 (fun _ => ?_)
  clear hK K
  try dsimp only
  try simp only [Act.put, List.getElem_toArray, List.getElem_cons_zero, List.getElem_cons_succ, List.setIfInBounds_toArray, List.set_cons_zero, List.set_cons_succ]
  refine wpAnyH_more (S' := Below v1.heap.size v1) (fun w h => below_to hv1 h) ?_
  replace hBQ := hBQ.keep hv1
  replace hBP := hBP.keep hv1
  replace hME := hME.keep hv1
  replace hLE := hLE.keep hv1
  replace HB := below_to HB hv1
  clear hHeld
  have hHeld := Below.refl v1.heap.size v1
  refine wpAnyH_take (i := 6) (v := .string (strB LY)) rfl (by kernel_rfl) (by kernel_rfl) (by kernel_rfl) (fun _ _ _ h => h) (yb_convY rfl (.tmp 53) rfl _ _ rfl (fun w hw => conv_by n5 c5 (hy.keep hw) HK5.out)) hHeld ?_
  try dsimp only
  try simp only [Act.put, List.getElem_toArray, List.getElem_cons_zero, List.getElem_cons_succ, List.setIfInBounds_toArray, List.set_cons_zero, List.set_cons_succ]
  clear hy HK5
  refine wpAnyH_take (i := 7) (v := .string (strB (lp ++ LY))) rfl (by kernel_rfl) (by kernel_rfl) (by kernel_rfl) (fun _ _ _ h => h) (yb_bin rfl .add _ _ _ _ rfl _ _ _ rfl rfl (fun _ => rfl) (fun w => b_saddY HLL.out w)) hHeld ?_
  try dsimp only
  try simp only [Act.put, List.getElem_toArray, List.getElem_cons_zero, List.getElem_cons_succ, List.setIfInBounds_toArray, List.set_cons_zero, List.set_cons_succ]
  refine wpAnyH_take (i := 8) (v := .bool true) rfl (by kernel_rfl) (by kernel_rfl) (by kernel_rfl) (fun _ _ _ h => h) (yb_bin rfl .eql _ _ _ _ rfl _ _ _ rfl rfl (fun _ => rfl) (fun w => b_seqY _ w)) hHeld ?_
  try dsimp only
  try simp only [Act.put, List.getElem_toArray, List.getElem_cons_zero, List.getElem_cons_succ, List.setIfInBounds_toArray, List.set_cons_zero, List.set_cons_succ]
  refine wpAnyH_take (i := 9) (v := .bool true) rfl (by kernel_rfl) (by kernel_rfl) (by kernel_rfl) (fun _ _ _ h => h) (Or.inl ⟨by rfl, fun _ _ => rfl⟩) hHeld ?_
  try dsimp only
  try simp only [Act.put, List.getElem_toArray, List.getElem_cons_zero, List.getElem_cons_succ, List.setIfInBounds_toArray, List.set_cons_zero, List.set_cons_succ]
  refine wpAnyH_take (i := 10) (v := .int .i64 0) rfl (by kernel_rfl) (by kernel_rfl) (by kernel_rfl) (fun _ _ _ h => h) (Or.inl ⟨by rfl, fun _ _ => rfl⟩) hHeld ?_
  try dsimp only
  try simp only [Act.put, List.getElem_toArray, List.getElem_cons_zero, List.getElem_cons_succ, List.setIfInBounds_toArray, List.set_cons_zero, List.set_cons_succ]
  refine wpAnyH_take (i := 11) (v := .bool true) rfl (by kernel_rfl) (by kernel_rfl) (by kernel_rfl) (fun _ _ _ h => h) (Or.inl ⟨by rfl, fun w _ => by go_simp⟩) hHeld ?_
  try dsimp only
  try simp only [Act.put, List.getElem_toArray, List.getElem_cons_zero, List.getElem_cons_succ, List.setIfInBounds_toArray, List.set_cons_zero, List.set_cons_succ]
  refine wpAnyH_take (i := 12) (v := .bool true) rfl (by kernel_rfl) (by kernel_rfl) (by kernel_rfl) (fun _ _ _ h => h) (yb_pick rfl (.tmp 57) (.tmp 59) (.const (.bool false)) rfl true _ rfl rfl) hHeld ?_
  try dsimp only
  try simp only [Act.put, List.getElem_toArray, List.getElem_cons_zero, List.getElem_cons_succ, List.setIfInBounds_toArray, List.set_cons_zero, List.set_cons_succ]
  refine wpAnyH_take (i := 13) (v := .bool true) rfl (by kernel_rfl) (by kernel_rfl) (by kernel_rfl) (fun _ _ _ h => h) (Or.inl ⟨by rfl, fun _ _ => rfl⟩) hHeld ?_
  try dsimp only
  try simp only [Act.put, List.getElem_toArray, List.getElem_cons_zero, List.getElem_cons_succ, List.setIfInBounds_toArray, List.set_cons_zero, List.set_cons_succ]
  refine wpAnyH_take (i := 14) (v := .int .i64 (N : Int)) rfl (by kernel_rfl) (by kernel_rfl) (by kernel_rfl) (fun _ _ _ h => h) (Or.inl ⟨by rfl, fun _ _ => rfl⟩) hHeld ?_
  try dsimp only
  try simp only [Act.put, List.getElem_toArray, List.getElem_cons_zero, List.getElem_cons_succ, List.setIfInBounds_toArray, List.set_cons_zero, List.set_cons_succ]
  refine wpAnyH_take (i := 15) (v := .slice Aq N cq) rfl (by kernel_rfl) (by kernel_rfl) (by kernel_rfl) (fun _ _ _ h => h) (Or.inl ⟨by rfl, fun _ _ => rfl⟩) hHeld ?_
  try dsimp only
  try simp only [Act.put, List.getElem_toArray, List.getElem_cons_zero, List.getElem_cons_succ, List.setIfInBounds_toArray, List.set_cons_zero, List.set_cons_succ]
  refine wpAnyH_take (i := 16) (v := .int .i64 (N : Int)) rfl (by kernel_rfl) (by kernel_rfl) (by kernel_rfl) (fun _ _ _ h => h) (yb_lenb rfl (.tmp 63) rfl _ _ _ rfl) hHeld ?_
  try dsimp only
  try simp only [Act.put, List.getElem_toArray, List.getElem_cons_zero, List.getElem_cons_succ, List.setIfInBounds_toArray, List.set_cons_zero, List.set_cons_succ]
  refine wpAnyH_take (i := 17) (v := .bool true) rfl (by kernel_rfl) (by kernel_rfl) (by kernel_rfl) (fun _ _ _ h => h) (yb_bin rfl .eql _ _ _ _ rfl _ _ _ rfl rfl (fun _ => rfl) (fun w => b_eqNY _ w)) hHeld ?_
  try dsimp only
  try simp only [Act.put, List.getElem_toArray, List.getElem_cons_zero, List.getElem_cons_succ, List.setIfInBounds_toArray, List.set_cons_zero, List.set_cons_succ]
  refine wpAnyH_take (i := 18) (v := .bool true) rfl (by kernel_rfl) (by kernel_rfl) (by kernel_rfl) (fun _ _ _ h => h) (yb_pick rfl (.tmp 61) (.tmp 65) (.const (.bool false)) rfl true _ rfl rfl) hHeld ?_
  try dsimp only
  try simp only [Act.put, List.getElem_toArray, List.getElem_cons_zero, List.getElem_cons_succ, List.setIfInBounds_toArray, List.set_cons_zero, List.set_cons_succ]
  refine wpAnyH_take (i := 19) (v := .bool true) rfl (by kernel_rfl) (by kernel_rfl) (by kernel_rfl) (fun _ _ _ h => h) (Or.inl ⟨by rfl, fun _ _ => rfl⟩) hHeld ?_
  try dsimp only
  try simp only [Act.put, List.getElem_toArray, List.getElem_cons_zero, List.getElem_cons_succ, List.setIfInBounds_toArray, List.set_cons_zero, List.set_cons_succ]
  refine wpAnyH_take (i := 20) (v := .slice (some ⟨L, 0, none⟩) n n) rfl (by kernel_rfl) (by kernel_rfl) (by kernel_rfl) (fun _ _ _ h => h) (Or.inl ⟨by rfl, fun _ _ => rfl⟩) hHeld ?_
  try dsimp only
  try simp only [Act.put, List.getElem_toArray, List.getElem_cons_zero, List.getElem_cons_succ, List.setIfInBounds_toArray, List.set_cons_zero, List.set_cons_succ]
  refine wpAnyH_take (i := 21) (v := .slice b n c) rfl (by kernel_rfl) (by kernel_rfl) (by kernel_rfl) (fun _ _ _ h => h) (Or.inl ⟨by rfl, fun _ _ => rfl⟩) hHeld ?_
  try dsimp only
  try simp only [Act.put, List.getElem_toArray, List.getElem_cons_zero, List.getElem_cons_succ, List.setIfInBounds_toArray, List.set_cons_zero, List.set_cons_succ]
  refine wpAnyH_ready (rs := [22]) (by kernel_rfl) (by simp) (AllReadyH.cons rfl (fun K hK => ?_) AllReadyH.nil)
  go_simp
  refine (sameCan_any (some ⟨L, 0, none⟩) b n n c l hn (by omega) hv _ (Lib.hid hME) (Lib.hid hLE)).mono ?_
  rintro e v2 ⟨rfl, hv2⟩
  refine hK.out _ _ hv2 (fun _ => ?_)
  clear hK K
  try dsimp only
  try simp only [Act.put, List.getElem_toArray, List.getElem_cons_zero, List.getElem_cons_succ, List.setIfInBounds_toArray, List.set_cons_zero, List.set_cons_succ]
  refine wpAnyH_more (S' := Below v2.heap.size v2) (fun w h => below_to hv2 h) ?_
  replace hBQ := hBQ.keep hv2
  replace hBP := hBP.keep hv2
  replace hME := hME.keep hv2
  replace hLE := hLE.keep hv2
  replace HB := below_to HB hv2
  clear hHeld
  have hHeld := Below.refl v2.heap.size v2
  refine wpAnyH_take (i := 23) (v := .bool true) rfl (by kernel_rfl) (by kernel_rfl) (by kernel_rfl) (fun _ _ _ h => h) (yb_pick rfl (.tmp 67) (.tmp 70) (.const (.bool false)) rfl true _ rfl rfl) hHeld ?_
  try dsimp only
  try simp only [Act.put, List.getElem_toArray, List.getElem_cons_zero, List.getElem_cons_succ, List.setIfInBounds_toArray, List.set_cons_zero, List.set_cons_succ]
  refine wpAnyH_take (i := 24) (v := .bool true) rfl (by kernel_rfl) (by kernel_rfl) (by kernel_rfl) (fun _ _ _ h => h) (Or.inl ⟨by rfl, fun _ _ => rfl⟩) hHeld ?_
  try dsimp only
  try simp only [Act.put, List.getElem_toArray, List.getElem_cons_zero, List.getElem_cons_succ, List.setIfInBounds_toArray, List.set_cons_zero, List.set_cons_succ]
  refine wpAnyH_done (by kernel_rfl) ?_ _
  clear hHeld
  go_wp2
  go_ret
  exact ⟨rfl, HB⟩
theorem eventBack_any (a : Option Addr) (lp : List Nat) (la ca : Nat) (hla : Hid (la = lp.length)) (hac : la ≤ ca) (hcm : ca ≤ maxLen) (b : Option Addr) (l : List Ev) (n c : Nat) (hn : Hid (n = l.length)) (_ : n ≤ c) (hc : c ≤ maxLen) (hv : ∀ x ∈ l, x.val < 18446744073709551616) (k : Nat) (hk : k < 256) (W : World) (HA : Hid (ByAt W a lp)) (HE : Hid (EvAt W b l)) (HG : Hid (HalvesAt W)) :
    Calls Tryz.prog 3 #[.slice a la ca, .slice b n c, .int .u8 (k : Int)] W fun e w' => e = .returned (.bool true) ∧ Below W.heap.size W w' := by
  by_cases hL : 60 < n ∨ 300 < la
  · exact eventBack_long a la ca b n c k hk hL (by omega) (by omega) W
  · rcases hall : allB l ((1 + k % 8 : Nat) : Int) with _ | _
    · exact eventBack_none a lp la ca hla b l n c hn k hk (by omega) (by omega) _ rfl hall W HE
    · exact eventBack_core a lp la ca hla b l n c hn k hk hac hcm (by omega) (by omega) _ rfl hall (Lib.hid hv) W HA HE HG
end Go.Proofs.YtpobfgokikfmbaaGreatDoor

set_option linter.unusedSimpArgs false
set_option linter.unusedVariables false
set_option maxRecDepth 8000
namespace Go.Proofs.YtpobfgokikfmbaaGreatDoor
open Go.ChangeShapes Go.WideShapes Go.ChangeAt Go.WideElems Go.RowKit

theorem Tryz.own : ownKnob Tryz.prog.godebug = none := by kernel_rfl
theorem Tryz.laidOut : laidOutB Tryz.prog = true := by kernel_rfl

section
variable {H : Type} {enc : TypeId × Value → H} {P : Program}

theorem trodAll_keep {W W' : World} {sp : Nat → Bool} (hl : laidOutB P = true) (hs : ∀ x : MemPlace, x.block < W.heap.size → W.sameAt W' x) : ∀ (ts : List TypeId) (vs : List Value) (ds : List (DataW H)) (ps : List MemPlace),
    (∀ t, t ∈ ts → P.readableRec t = true ∧ t < P.types.size) → DataW.TrodAll enc P W 0 (fun _ => true) true ts vs ds ps → (∀ x, x ∈ ps → x.block < W.heap.size) → (∀ x, x ∈ ps → sp x.block = true) →
    DataW.TrodAll enc P W' 0 sp true ts vs ds ps
  | [], [], [], _, _, h, _, _ => h
  | t :: ts, v :: vs, d :: ds, ps, hr, ⟨p, q, hd, hrest, he⟩, hlt, hsp => by
    subst he
    refine ⟨p, q, ?_, trodAll_keep hl hs ts vs ds q (fun t ht => hr t (by simp [ht])) hrest (fun x hx => hlt x (by simp [hx])) (fun x hx => hsp x (by simp [hx])), rfl⟩
    exact WideElems.Trod_stays hl (hr t (by simp)).1 (hr t (by simp)).2 hd (fun x hx => hs x (hlt x (by simp [hx]))) (fun x hx => hsp x (by simp [hx]))
  | [], [], _ :: _, _, _, h, _, _ => h.elim
  | [], _ :: _, _, _, _, h, _, _ => h.elim
  | _ :: _, [], _, _, _, h, _, _ => h.elim
  | _ :: _, _ :: _, [], _, _, h, _, _ => h.elim

theorem post_law {f : Func} {s : ChangeSpec} {W W' : World} {args : Array Value} {ds : List (DataW H)} {before : List MemPlace} {tb : TypeId} (hl : laidOutB P = true)
    (hv : s.vars = []) (hW : DataW.Whole enc P f.params.toList s.vars false W args.toList ds [] before)
    (hrec : ∀ t, t ∈ f.params.toList → P.readableRec t = true ∧ t < P.types.size)
    (hres : (s.fn H ds).results = [.lit (.bool true)]) (hargs : (s.fn H ds).args = ds) (hvs : (s.fn H ds).vars = [])
    (hrt : f.resultTypes = #[tb]) (htb : P.underlying tb = some .bool) (hb : Below W.heap.size W W') : s.post enc P f false true false false W args (.bool true) W' := by
  have hlt : ∀ x, x ∈ before → x.block < W.heap.size := fun x hx => hW.lt x hx
  have hW2 := hW
  obtain ⟨p, q, hA, hV, rfl, -, -⟩ := hW2
  have hq : q = [] := by rw [hv] at hV; exact hV
  subst hq
  refine ⟨ds, [], p ++ [], [], p, [], hW, ?_, ?_, ?_, hb.frame _, fun h => by cases h⟩
  · rw [List.append_nil, hres, hrt]
    exact trodAll_mk1 (shut_bool htb true)
  · rw [List.append_nil, hargs]
    exact trodAll_keep hl (fun x hx => hb.same hx) _ _ _ _ hrec hA (fun x hx => hlt x (by simp [hx])) (fun x hx => by simpa using hlt x (by simp [hx]))
  · rw [List.append_nil, hv, hvs]; rfl

/-- A slice of bytes that came in. -/
theorem open_bys {W : World} {t e : TypeId} {v : Value} {d : DataW H} {ps : List MemPlace} (ht : P.underlying t = some (.slice e)) (he : P.underlying e = some (.int .u8)) (hc : P.cellsOf e = 1)
    {b0 : Nat} {r : Reach} (hok : Value.okWide P W r b0 t v) (hd : DataW.Trod enc P W 0 (fun _ => true) true t v d ps) (hlt : ∀ x, x ∈ ps → x.block < W.heap.size) :
    ∃ (a : Option Addr) (l : List Nat) (cap : Nat), v = .slice a l.length cap ∧ l.length ≤ cap ∧ cap ≤ maxLen ∧ ByAt W a l := by
  obtain ⟨fuel, hf⟩ := hd
  obtain ⟨a, len, cap, rfl⟩ : ∃ a len cap, v = .slice a len cap := by
    simp only [Value.okWide, ht, Cell.okWide] at hok
    cases v <;> simp_all [Cell.ok]
  rcases Deep.open_slice1 ht hc hf with ⟨hcs, -⟩ | ⟨a', len', cap', m, n, V, D, Pl, hcs, -, hl, hm, hmm, hx, hcell⟩
  · simp [Value.cells] at hcs
    obtain ⟨rfl, rfl, rfl⟩ := hcs
    exact ⟨none, [], 0, rfl, Nat.le_refl _, by unfold maxLen; omega, fun k x hx => by simp at hx⟩
  · simp [Value.cells] at hcs
    obtain ⟨rfl, rfl, rfl⟩ := hcs
    simp only [if_true] at hmm
    subst hmm
    have hV : ∀ i, i < m → ∃ b : Nat, V i = .int .u8 (b : Int) ∧ b < 256 := fun i hi => by
      obtain ⟨b, h1, _, h2⟩ := DataW.trod_int he (hcell i hi).2
      have h3 : 0 ≤ b ∧ b ≤ 255 := by simpa [Lit.wf, IntKind.min, IntKind.max, IntKind.signed, IntKind.bits] using h2
      exact ⟨b.toNat, by rw [show ((b.toNat : Nat) : Int) = b by omega]; simpa using h1, by omega⟩
    let B : Nat → Nat := fun i => match V i with | .int _ b => b.toNat | _ => 0
    have hB : ∀ i, i < m → V i = .int .u8 (B i : Int) ∧ B i < 256 := fun i hi => by
      obtain ⟨b, h1, h2⟩ := hV i hi
      have : B i = b := by show (match V i with | .int _ b => b.toNat | _ => 0) = b; rw [h1]; simp
      rw [this]; exact ⟨h1, h2⟩
    refine ⟨some a', (List.range len).map B, m, by simp, by simpa using hl, hm, fun k x hx2 => ?_⟩
    have hk : k < len := by
      rcases Nat.lt_or_ge k len with h | h
      · exact h
      · rw [List.getElem?_eq_none (by simpa using h)] at hx2; cases hx2
    have hx3 : x = B k := by simp [hk] at hx2; exact hx2.symm
    subst hx3
    obtain ⟨b, off, spot⟩ := a'
    have hspot : spot = none := by simpa [Addr.add] using World.cell?_spot (hcell 0 (by omega)).1
    subst hspot
    refine ⟨(hB k (by omega)).2, b, off, rfl, ?_, ?_⟩
    · have hcl := (hcell 0 (by omega)).1
      have := block_lt_of_cell hcl
      simpa [Addr.add] using this
    · have h := (hcell k (by omega)).1
      rw [(hB k (by omega)).1] at h
      rw [Addr.add_lit] at h
      exact h
/-- A slice of bytes that came in, and its reading. -/
theorem open_bysd {W : World} {t e : TypeId} {v : Value} {d : DataW H} {ps : List MemPlace} (ht : P.underlying t = some (.slice e)) (he : P.underlying e = some (.int .u8)) (hc : P.cellsOf e = 1)
    {b0 : Nat} {r : Reach} (hok : Value.okWide P W r b0 t v) (hd : DataW.Trod enc P W 0 (fun _ => true) true t v d ps) (hlt : ∀ x, x ∈ ps → x.block < W.heap.size) :
    ∃ (a : Option Addr) (l : List Nat) (cap : Nat), v = .slice a l.length cap ∧ l.length ≤ cap ∧ cap ≤ maxLen ∧ ByAt W a l ∧ (d = .nil ∧ l = [] ∨ ∃ elems spare, d = .slice elems spare ∧ elems.length = l.length) := by
  obtain ⟨fuel, hf⟩ := hd
  obtain ⟨a, len, cap, rfl⟩ : ∃ a len cap, v = .slice a len cap := by
    simp only [Value.okWide, ht, Cell.okWide] at hok
    cases v <;> simp_all [Cell.ok]
  rcases Deep.open_slice1 ht hc hf with ⟨hcs, hx0⟩ | ⟨a', len', cap', m, n, V, D, Pl, hcs, -, hl, hm, hmm, hx, hcell⟩
  · simp [Value.cells] at hcs
    obtain ⟨rfl, rfl, rfl⟩ := hcs
    exact ⟨none, [], 0, rfl, Nat.le_refl _, by unfold maxLen; omega, fun k x hx => by simp at hx, .inl ⟨by simpa using congrArg Prod.fst hx0, rfl⟩⟩
  · simp [Value.cells] at hcs
    obtain ⟨rfl, rfl, rfl⟩ := hcs
    simp only [if_true] at hmm
    subst hmm
    have hV : ∀ i, i < m → ∃ b : Nat, V i = .int .u8 (b : Int) ∧ b < 256 := fun i hi => by
      obtain ⟨b, h1, _, h2⟩ := DataW.trod_int he (hcell i hi).2
      have h3 : 0 ≤ b ∧ b ≤ 255 := by simpa [Lit.wf, IntKind.min, IntKind.max, IntKind.signed, IntKind.bits] using h2
      exact ⟨b.toNat, by rw [show ((b.toNat : Nat) : Int) = b by omega]; simpa using h1, by omega⟩
    let B : Nat → Nat := fun i => match V i with | .int _ b => b.toNat | _ => 0
    have hB : ∀ i, i < m → V i = .int .u8 (B i : Int) ∧ B i < 256 := fun i hi => by
      obtain ⟨b, h1, h2⟩ := hV i hi
      have : B i = b := by show (match V i with | .int _ b => b.toNat | _ => 0) = b; rw [h1]; simp
      rw [this]; exact ⟨h1, h2⟩
    refine ⟨some a', (List.range len).map B, m, by simp, by simpa using hl, hm, fun k x hx2 => ?_, .inr ⟨_, _, by simpa using congrArg Prod.fst hx, by simp⟩⟩
    have hk : k < len := by
      rcases Nat.lt_or_ge k len with h | h
      · exact h
      · rw [List.getElem?_eq_none (by simpa using h)] at hx2; cases hx2
    have hx3 : x = B k := by simp [hk] at hx2; exact hx2.symm
    subst hx3
    obtain ⟨b, off, spot⟩ := a'
    have hspot : spot = none := by simpa [Addr.add] using World.cell?_spot (hcell 0 (by omega)).1
    subst hspot
    refine ⟨(hB k (by omega)).2, b, off, rfl, ?_, ?_⟩
    · have hcl := (hcell 0 (by omega)).1
      have := block_lt_of_cell hcl
      simpa [Addr.add] using this
    · have h := (hcell k (by omega)).1
      rw [(hB k (by omega)).1] at h
      rw [Addr.add_lit] at h
      exact h
theorem bys_reach {ts : List TypeId} {ds : List (DataW H)} (h : (DataW.weightsEach P ts ds).all (· ≤ reachBytes) = true) {j : Nat} {t e : TypeId} {d : DataW H} {l : List Nat} (ht : ts[j]? = some t) (hd : ds[j]? = some d) (hu : P.underlying t = some (.slice e)) (hb : P.bytesOf e = 1)
    (hdl : d = .nil ∧ l = [] ∨ ∃ elems spare, d = .slice elems spare ∧ elems.length = l.length) : l.length ≤ 140737488351232 := by
  rcases hdl with ⟨-, rfl⟩ | ⟨elems, spare, rfl, hl⟩
  · simp
  · have := sized_slice h ht hd hu
    rw [hb] at this
    simp only [reachBytes] at this
    omega
end

theorem gHalves : Tryz.prog.globalNamed "headrace/page.halves" = some 0 := by kernel_rfl
theorem tHalves : (Tryz.prog.globals[0]?).map (·.type) = some 95 := by kernel_rfl
def laidHalves {H : Type} : List (String × DataW H) := [("headrace/page.halves", Rows.laid_headrace_page_halves)]
theorem door_met (os : Os) (args : Array Value) : laidMetH Tryz.prog laidHalves ((World.doorLaid Tryz.prog 400 os).forCall (fun _ _ => 0) ⟨#[], args, []⟩).memory :=
  laidMetH_of_parts3 (fuel := 8) (laidMet_of_run' 8 (by kernel_rfl) (by kernel_rfl)) (by kernel_rfl) (by kernel_rfl)
theorem laid_parts (i : Nat) (hi : i < 16) : ∃ parts : List (DataW Unit), (Rows.laid_headrace_page_halves : DataW Unit) = .agg parts ∧ parts[i]? = some (.lit (.int .u32 (Pg.half i : Nat))) := by
  refine ⟨_, rfl, ?_⟩
  exact match i, hi with
  | 0, _ => rfl
  | 1, _ => rfl
  | 2, _ => rfl
  | 3, _ => rfl
  | 4, _ => rfl
  | 5, _ => rfl
  | 6, _ => rfl
  | 7, _ => rfl
  | 8, _ => rfl
  | 9, _ => rfl
  | 10, _ => rfl
  | 11, _ => rfl
  | 12, _ => rfl
  | 13, _ => rfl
  | 14, _ => rfl
  | 15, _ => rfl
  | n + 16, h => absurd h (by omega)
/-- What the condition gives the walks: the table's cells. -/
theorem of_laid {W : World} (h : laidMetH Tryz.prog laidHalves W) : HalvesAt W := by
  rw [MakeChecks.laidMetH_plain _ _ _ (by kernel_rfl)] at h
  obtain ⟨ps, ⟨g0, t0, cs0, f0, p0, q0, hg0, ht0, hv0, hd0, _, _⟩, _, _⟩ := h
  obtain rfl := Option.some.inj (gHalves.symm.trans hg0)
  obtain rfl := Option.some.inj (tHalves.symm.trans ht0)
  obtain ⟨xs, m1, rfl, hx1, hlen, hn3, hel⟩ := DataW.trod_array Tryz.underlying95 hd0
  have c3 : Tryz.prog.cellsOf 68 = 1 := by kernel_rfl
  intro i hi
  obtain ⟨parts, hp, hpi⟩ := laid_parts i hi
  rw [hp] at hx1
  simp only [Prod.mk.injEq, DataW.agg.injEq] at hx1
  have hxi : xs[i]? = some (xs[i]'(by omega)) := List.getElem?_eq_getElem (by omega)
  have hi1 := hel i hi
  rw [c3, Nat.mul_one, hxi] at hi1
  obtain ⟨k, e1, e2, _⟩ := DataW.trod_int Tryz.underlying68 hi1
  have hk : k = (Pg.half i : Nat) := by
    rw [hx1.1, List.getElem?_map, hxi] at hpi
    simp only [Option.map_some, Option.some.injEq] at hpi
    rw [e2] at hpi
    simpa using hpi
  subst hk
  have hc := World.var?_cell hg0 hv0 i
  rw [hc, ← Array.getElem?_toList]
  have h2 : (cs0.toList.drop i)[0]? = some (.int .u32 (Pg.half i : Nat)) := by
    have h3 : ((cs0.toList.drop i).take 1)[0]? = some (.int .u32 (Pg.half i : Nat)) := by rw [e1]; rfl
    rw [List.getElem?_take] at h3
    simpa using h3
  rw [List.getElem?_drop] at h2
  simpa using h2
end Go.Proofs.YtpobfgokikfmbaaGreatDoor

set_option linter.unusedSimpArgs false
set_option linter.unusedVariables false
set_option maxRecDepth 8000
namespace Go.Proofs.YtpobfgokikfmbaaGreatDoor
open Go.ChangeShapes Go.WideShapes Go.ChangeAt Go.RowKit
section
variable {H : Type} {enc : TypeId × Value → H} {P : Program}
theorem trod_float' {w : World} {base : Nat} {spare : Nat → Bool} {held : Bool} {fuel : Nat} {cs : List Value} {x : DataW H × List MemPlace} {t : TypeId} (ht : P.underlying t = some (.float .f64)) (h : DataW.trod enc P w base spare held fuel t cs = some x) :
    ∃ b, cs = [.float .f64 b] ∧ (Lit.float .f64 b).wf = true := by
  cases fuel with
  | zero => simp [DataW.trod] at h
  | succ n =>
    unfold DataW.trod at h
    rw [ht] at h
    split at h <;> simp_all
end
section
variable {H : Type} {enc : TypeId × Value → H} {W : World} {base : Nat} {spare : Nat → Bool} {held : Bool}
/-- The cells of an event that came in. -/
theorem ev_cells {fuel : Nat} {cs : List Value} {y : DataW H × List MemPlace} (h : DataW.trod enc Tryz.prog W base spare held fuel 38 cs = some y) : ∃ x : Ev, cs = x.cells ∧ x.val < 18446744073709551616 := by
  obtain ⟨xs, n, -, -, hl, hxl, hg⟩ := DataW.trod_struct Tryz.underlying38 h
  have hC : Tryz.prog.cellsOf 38 = 5 := by kernel_rfl
  have hx5 : xs.length = 5 := hxl
  rw [hC] at hl
  have one : ∀ (i : Nat) (c : Value) (f : Field), cs[i]? = some c → i < 5 → f.offset = i → Tryz.prog.cellsOf f.type = 1 → DataW.trod enc Tryz.prog W base spare held n f.type ((cs.drop f.offset).take (Tryz.prog.cellsOf f.type)) = xs[i]? → ∃ y, DataW.trod enc Tryz.prog W base spare held n f.type [c] = some y := by
    intro i c f hc hi ho hk hf
    rw [ho, hk] at hf
    have e : (cs.drop i).take 1 = [c] := by
      obtain ⟨h1, h2⟩ := List.getElem?_eq_some_iff.1 hc
      rw [List.drop_eq_getElem_cons h1, h2]; rfl
    rw [e, List.getElem?_eq_getElem (by omega)] at hf
    exact ⟨_, hf⟩
  match cs, hl with
  | [c0, c1, c2, c3, c4], _ =>
    obtain ⟨y0, t0⟩ := one 0 c0 _ rfl (by decide) rfl (by kernel_rfl) (hg 0 _ rfl)
    obtain ⟨y1, t1⟩ := one 1 c1 _ rfl (by decide) rfl (by kernel_rfl) (hg 1 _ rfl)
    obtain ⟨y2, t2⟩ := one 2 c2 _ rfl (by decide) rfl (by kernel_rfl) (hg 2 _ rfl)
    obtain ⟨y3, t3⟩ := one 3 c3 _ rfl (by decide) rfl (by kernel_rfl) (hg 3 _ rfl)
    obtain ⟨y4, t4⟩ := one 4 c4 _ rfl (by decide) rfl (by kernel_rfl) (hg 4 _ rfl)
    obtain ⟨n0, e0, -, w0⟩ := DataW.trod_int (k := .u64) Tryz.underlying35 t0
    obtain ⟨n1, e1, -, -⟩ := DataW.trod_int (k := .i64) Tryz.underlying3 t1
    obtain ⟨n2, e2, -, -⟩ := DataW.trod_int (k := .i64) Tryz.underlying2 t2
    obtain ⟨s3, e3, -, -⟩ := DataW.trod_string Tryz.underlying9 t3
    obtain ⟨b4, e4, w4⟩ := trod_float' Tryz.underlying36 t4
    cases e0; cases e1; cases e2; cases e3; cases e4
    have h0 : 0 ≤ n0 := by
      have h : 0 ≤ n0 ∧ n0 ≤ 18446744073709551615 := by simpa [Lit.wf, IntKind.min, IntKind.max, IntKind.signed, IntKind.bits] using w0
      exact h.1
    refine ⟨⟨n0.toNat, n1, n2, s3, b4⟩, ?_, by simpa [Lit.wf] using w4⟩
    unfold Ev.cells
    rw [Int.toNat_of_nonneg h0]
end
section
variable {H : Type} {enc : TypeId × Value → H} {W : World}
theorem open_evs {b0 : Nat} {r : Reach} {v : Value} {d : DataW H} {ps : List MemPlace} (hok : Value.okWide Tryz.prog W r b0 23 v) (hd : DataW.Trod enc Tryz.prog W 0 (fun _ => true) true 23 v d ps) :
    ∃ (a : Option Addr) (l : List Ev) (cap : Nat), v = .slice a l.length cap ∧ l.length ≤ cap ∧ cap ≤ maxLen ∧ (a = none → l.length = 0 ∧ cap = 0) ∧ (∀ x, a = some x → x.spot = none) ∧ (∀ x ∈ l, x.val < 18446744073709551616) ∧ EvAt W a l := by
  have hu := Tryz.underlying23
  have hC : Tryz.prog.cellsOf 38 = 5 := by kernel_rfl
  obtain ⟨fuel, hf⟩ := hd
  obtain ⟨a, len, cap, rfl⟩ := okWide_slice hu hok
  rcases Deep.open_slice hu hf with ⟨hcs, -⟩ | ⟨a', len', cap', m, n, D, Pl, hcs, -, hl, hm, hmm, hx, hcell⟩
  · simp [Value.cells] at hcs
    obtain ⟨rfl, rfl, rfl⟩ := hcs
    exact ⟨none, [], 0, rfl, Nat.le_refl _, by unfold maxLen; omega, fun _ => ⟨rfl, rfl⟩, fun x hx => (by cases hx), fun x hx => (by cases hx), fun k x hx => by simp [evs] at hx⟩
  · simp [Value.cells] at hcs
    obtain ⟨rfl, rfl, rfl⟩ := hcs
    simp only [if_true] at hmm
    subst hmm
    have hspot : a'.spot = none := by
      simp only [Value.okWide, hu, Cell.okWide, Cell.ok] at hok
      exact hok.2.2.2.1
    obtain ⟨g, off, s⟩ := a'
    obtain rfl : s = none := hspot
    have hE : ∀ i, i < m → ∃ x : Ev, W.cells? 0 ((⟨g, off, none⟩ : Addr).add (i * 5)) 5 = some x.cells ∧ x.val < 18446744073709551616 := fun i hi => by
      obtain ⟨cs', h1, h2⟩ := hcell i hi
      rw [hC] at h1
      obtain ⟨x, rfl, hx⟩ := ev_cells h2
      exact ⟨x, h1, hx⟩
    obtain ⟨E, hE⟩ := Deep.choose_lt (α := Ev) (p := fun i x => W.cells? 0 ((⟨g, off, none⟩ : Addr).add (i * 5)) 5 = some x.cells ∧ x.val < 18446744073709551616) hE
    refine ⟨some ⟨g, off, none⟩, (List.range len).map E, m, by simp, by simpa using hl, hm, fun h => (by cases h), fun x hx => (by cases hx; rfl), fun x hx => ?_, fun k v hv => ?_⟩
    · obtain ⟨i, hi, rfl⟩ := List.mem_map.1 hx
      exact (hE i (by have := List.mem_range.1 hi; omega)).2
    · have hk : k < len * 5 := by
        have := (List.getElem?_eq_some_iff.1 hv).1
        rw [evs_length] at this; simpa using this
      have e := evs_get ((List.range len).map E) (k / 5) (k % 5) (by omega)
      rw [show k / 5 * 5 + k % 5 = k by omega, hv, List.getElem?_map, List.getElem?_range (by omega)] at e
      obtain ⟨h0, h1, h2⟩ := World.cells?_some (hE (k / 5) (by omega)).1
      have hg := World.cells?_block (hE (k / 5) (by omega)).1 (by decide)
      rw [Addr.add_lit] at hg
      refine ⟨g, off, rfl, hg, ?_⟩
      have h3 := h2 (k % 5) (by omega)
      rw [Addr.add_lit, Addr.add_lit, Nat.add_assoc, show k / 5 * 5 + k % 5 = k by omega] at h3
      rw [h3]; exact e.symm
end
end Go.Proofs.YtpobfgokikfmbaaGreatDoor
