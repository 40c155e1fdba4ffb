/-
  The law EventFew: walked.
-/
import Derived.Test.YtpobfgokikfmbaaGreatDoorQPfew11
import Derived.Test.YtpobfgokikfmbaaGreatDoorTie
import Derived.Test.YtpobfgokikfmbaaGreatDoorCards
import Derived.ProofKit
import Derived.Laws.Cover2
import Derived.WideKeyArgs
import Derived.Carry
import Derived.Deep.Slices
import Derived.LaidMore
import Derived.OpenShut
import Derived.Stop.Joined
import Derived.SevenTiedAt
import Derived.SizedLaws
import Derived.Test.YtpobfgokikfmbaaGreatDoorQPfew0
import Derived.Test.YtpobfgokikfmbaaGreatDoorQPfew9
set_option linter.unusedSimpArgs false
set_option linter.unusedVariables false
set_option maxRecDepth 8000
namespace Go.Proofs.YtpobfgokikfmbaaGreatDoor
open Go.RowKit Go.Sort Go.WideShapes Col
theorem lay_mem {kind x : Nat} {body : List Nat} (hx : x ∈ body) : x ∈ [] ++ Pg.lay kind body := by
  unfold Pg.lay Pg.front
  simp [hx]
theorem fine_of {x : Ev} (h : formB x 8 = true) (hv : x.val < 18446744073709551616) : FineE x := by
  unfold formB at h
  simp only [Bool.and_eq_true, decide_eq_true_eq] at h
  obtain ⟨⟨⟨⟨⟨h1, h2⟩, h3⟩, h4⟩, h5⟩, h6⟩ := h
  exact ⟨h6, ⟨h1, h2⟩, ⟨h3, h4⟩, h5, hv⟩
def allB (l : List Ev) (p : Int) : Bool := l.all fun x => formB x p
theorem allB_yes {l : List Ev} {p : Int} (h : allB l p = true) : ∀ x ∈ l, formB x p = true := fun x hx => List.all_eq_true.1 h x hx
theorem allB_no {l : List Ev} {p : Int} (h : allB l p = false) : ∃ x ∈ l, formB x p = false := by
  unfold allB at h
  rw [List.all_eq_false] at h
  obtain ⟨x, hx, hf⟩ := h
  exact ⟨x, hx, by simpa using hf⟩
set_option maxHeartbeats 2000000 in
theorem fine_any (b : Option Addr) (n c : Nat) (l : List Ev) (hn : Hid (n = l.length)) (hn6 : n ≤ 60) (p : Int) (w : World) (HE : Hid (EvAt w b l)) :
    Calls Tryz.prog 6 #[.slice b n c, .int .i64 p] w fun e w' => e = .returned (.bool (allB l p)) ∧ Below w.heap.size w w' := by
  go_enter Tryz.func6, Tryz.ntmps6
  go_wp2
  go_loopw [5] (fun v wr => ∃ i : Nat, i ≤ n ∧ v = .int .i64 (i : Int) ∧ Below w.heap.size w wr ∧ ∀ x ∈ l.take i, formB x p = true) (fun v _ => n - (intOf v).toNat)
  case atStart => exact ⟨0, Nat.zero_le _, rfl, Below.refl _ _, fun x hx => by rw [List.take_zero] at hx; cases hx⟩
  case round =>
    obtain ⟨i, hi, rfl, hb, hf⟩ := hrel
    have HB := Lib.hid hb; have HF := Lib.hid hf
    clear hb hf
    by_cases hlt : i < n
    · have hii : (i : Int) < (n : Int) := by omega
      obtain ⟨x, hx⟩ : ∃ x, l[i]? = some x := ⟨_, List.getElem?_eq_getElem (by have := hn.out; omega)⟩
      have HX := Lib.hid hx
      obtain ⟨g, off, rfl, hg, hr⟩ := evrB (HE.out.keep HB.out) i x hx
      have HR := Lib.hid hr
      have HFO : Hid (∀ w, Calls Tryz.prog 12 #[.agg x.cells.toArray, .int .i64 p] w fun e w' => e = .returned (.bool (formB x p)) ∧ Below w.heap.size w w') := Lib.hid fun w => refForm_any x p w
      clear hx hr
      rcases hfx : formB x p with _ | _
      · rw [hfx] at HFO
        have HFX := Lib.hid hfx
        clear hfx
        have HAB : Hid (allB l p = false) := Lib.hid (by
          unfold allB
          rw [List.all_eq_false]
          exact ⟨x, List.mem_of_getElem? HX.out, by rw [HFX.out]; decide⟩)
        go_wp2_with (first
          | (refine wpList_load_mid rfl 38 (.tmp 14) rfl g (off + i * 5) rfl x.cells _ HR.out uEvB rfl (iEvB x) ?_)
          | (go_at_call 12; (with_reducible refine (HFO.out _).mono ?_); rintro e w2 ⟨rfl, hb⟩; have HB2 := Lib.hid (below_to HB.out hb); clear hb))
        go_ret
        exact ⟨by rw [HAB.out]; rfl, HB2.out⟩
      · rw [hfx] at HFO
        have HFX := Lib.hid hfx
        clear hfx
        go_wp2_with (first
          | (refine wpList_load_mid rfl 38 (.tmp 14) rfl g (off + i * 5) rfl x.cells _ HR.out uEvB rfl (iEvB x) ?_)
          | (go_at_call 12; (with_reducible refine (HFO.out _).mono ?_); rintro e w2 ⟨rfl, hb⟩; have HB2 := Lib.hid (below_to HB.out hb); clear hb))
        go_roundw
        case rel =>
          refine ⟨i + 1, by omega, by go_num, HB2.out, fun y hy => ?_⟩
          rw [List.take_add_one, HX.out, List.mem_append] at hy
          rcases hy with h | h
          · exact HF.out y h
          · simp at h; subst h; exact HFX.out
        case measure => simp [intOf]; omega
    · obtain rfl : i = n := by omega
      have hii : ¬ (i : Int) < (i : Int) := by omega
      have HAB : Hid (allB l p = true) := Lib.hid (by
        unfold allB
        rw [List.all_eq_true]
        exact fun x hx => HF.out x (by rw [List.take_of_length_le (by have := hn.out; omega)]; exact hx))
      go_wp2
      go_ret
      exact ⟨by rw [HAB.out]; rfl, HB.out⟩

set_option maxHeartbeats 1000000 in
theorem eventFew_long (b : Option Addr) (n c : Nat) (k : Nat) (hk : k < 256) (hL : 60 < n) (hn4 : n ≤ maxLen) (W : World) :
    Calls Tryz.prog 4 #[.slice b n c, .int .u8 (k : Int)] W fun e w' => e = .returned (.bool true) ∧ Below W.heap.size W w' := by
  have hLi : (60 : Int) < (n : Int) := by omega
  have HB := Below.refl W.heap.size W
  go_enter Tryz.func4, Tryz.ntmps4
  go_wp2_with (go_at_call 5; refine (awake_any _).mono ?_; rintro e w' ⟨rfl, hb⟩; replace HB := HB.trans (hb.mono HB.size); clear hb)
  go_ret
  exact ⟨rfl, HB⟩
set_option maxHeartbeats 4000000 in
theorem eventFew_none (b : Option Addr) (l : List Ev) (n c : Nat) (hn : Hid (n = l.length)) (k : Nat) (hk : k < 256) (hL : n ≤ 60) (hnf : allB l 8 = false) (W : World) (HE : Hid (EvAt W b l)) :
    Calls Tryz.prog 4 #[.slice b n c, .int .u8 (k : Int)] W fun e w' => e = .returned (.bool true) ∧ Below W.heap.size W w' := by
  have hLi : ¬ (60 : Int) < (n : Int) := by omega
  have HF8 : Hid (∀ w, Below W.heap.size W w → Calls Tryz.prog 6 #[.slice b n c, .int .i64 8] w fun e w' => e = .returned (.bool false) ∧ Below w.heap.size w w') := Lib.hid fun w hw => by
    have h := fine_any b n c l hn hL 8 w (Lib.hid (HE.out.keep hw))
    rwa [hnf] at h
  have HB := Below.refl W.heap.size W
  clear hnf
  go_enter Tryz.func4, Tryz.ntmps4
  go_wp2_with (first
    | (go_at_call 5; refine (awake_any _).mono ?_; rintro e w' ⟨rfl, hb⟩; replace HB := HB.trans (hb.mono HB.size); clear hb)
    | (go_at_call 6; (with_reducible refine (HF8.out _ HB).mono ?_); rintro e w' ⟨rfl, hb⟩; replace HB := HB.trans (hb.mono HB.size); clear hb))
  go_ret
  exact ⟨rfl, HB⟩
set_option maxHeartbeats 8000000 in
theorem eventFew_yes (b : Option Addr) (l : List Ev) (n c : Nat) (hn : Hid (n = l.length)) (k : Nat) (hk : k < 256) (hL : n ≤ 60) (h8 : allB l 8 = true) (hv : Hid (∀ x ∈ l, x.val < 18446744073709551616)) (hall : allB l ((1 + k % 8 : Nat) : Int) = true) (W : World) (HE : Hid (EvAt W b l)) (HG : Hid (HalvesAt W)) :
    Calls Tryz.prog 4 #[.slice b n c, .int .u8 (k : Int)] W fun e w' => e = .returned (.bool true) ∧ Below W.heap.size W w' := by
  have hLi : ¬ (60 : Int) < (n : Int) := by omega
  have HFE : Hid (∀ x ∈ l, FineE x) := Lib.hid fun x hx => fine_of (allB_yes h8 x hx) (hv.out x hx)
  have HF8 : Hid (∀ w, Below W.heap.size W w → Calls Tryz.prog 6 #[.slice b n c, .int .i64 8] w fun e w' => e = .returned (.bool true) ∧ Below w.heap.size w w') := Lib.hid fun w hw => by
    have h := fine_any b n c l hn hL 8 w (Lib.hid (HE.out.keep hw))
    rwa [h8] at h
  have hk1 : IntKind.i64.wrap (k : Int) = (k : Int) := by rw [IntKind.wrap_i64]; omega
  obtain ⟨K, hK⟩ : ∃ K : Int, K = ((1 + k % 8 : Nat) : Int) := ⟨_, rfl⟩
  have hKm : (1 : Int) + (k : Int) % 8 = K := by rw [hK]; omega
  have hKt : (1 : Int) + Int.tmod (k : Int) 8 = K := by rw [hK, Int.tmod_eq_emod_of_nonneg (by omega)]; omega
  have HFK : Hid (∀ w, Below W.heap.size W w → Calls Tryz.prog 6 #[.slice b n c, .int .i64 K] w fun e w' => e = .returned (.bool true) ∧ Below w.heap.size w w') := Lib.hid fun w hw => by
    have h := fine_any b n c l hn hL K w (Lib.hid (HE.out.keep hw))
    rw [hK] at h ⊢
    rwa [hall] at h
  obtain ⟨E, hE⟩ : ∃ E : Int, E = ((0 : Nat) : Int) + 5 + ((evY l).length : Int) + 4 := ⟨_, rfl⟩
  have HEE := Lib.hid hE.symm
  obtain ⟨N, hN0⟩ : ∃ N, N = ([] ++ Pg.lay 101 (evY l)).length := ⟨_, rfl⟩
  have HLY : Hid (∀ w, Below W.heap.size W w → Calls Tryz.prog 7 #[.slice none 0 0, .slice b n c] w fun e w' => ∃ A cap, e = .returned (.slice A N cap) ∧ ByAt w' A ([] ++ Pg.lay 101 (evY l)) ∧ N ≤ cap ∧ cap ≤ maxLen ∧ Below w.heap.size w w') := Lib.hid fun w hw => by
    have hhb : 0 < w.heap.size := World.block_lt_of_cell? w _ ((HG.out.keep hw) 0 (by decide))
    refine (evLay_any w.heap.size none 0 0 [] b n c l hn hL (by omega) HFE w (Lib.hid (OwnS.nil _ _)) (Lib.hid (HE.out.keep hw)) (Lib.hid (HG.out.keep hw)) (Nat.le_refl _) hhb).mono fun e w' h => ?_
    obtain ⟨A, cap, he, ho, hb⟩ := h
    have hl := ho.len
    rw [hl] at he ho
    rw [← hN0] at he ho
    exact ⟨A, cap, he, ho.byAt, ho.caps.1, ho.caps.2, hb⟩
  have HRD : Hid (∀ A cap w, N ≤ cap → cap ≤ maxLen → ByAt w A ([] ++ Pg.lay 101 (evY l)) → HalvesAt w → Calls Tryz.prog 8 #[.slice A N cap, .int .i64 0, .int .i64 K] w fun e w' => ∃ L, e = .returned (.tuple #[.slice (some ⟨L, 0, none⟩) n n, .int .i64 E, .int .i64 0]) ∧ Below w.heap.size w w') := Lib.hid fun A cap w hc hcm HA HGw => by
    have hN := hN0
    rw [hK]
    refine (evRead_yes A N cap 0 [] l _ (by rw [← hn.out]; exact hL) HFE (allB_yes hall) (Lib.hid rfl) (fun x hx => HA.lt x (lay_mem hx)) (Lib.hid hN) hc hcm w (Lib.hid HA) (Lib.hid HGw)).mono fun e w' h => ?_
    obtain ⟨L, he, -, hb⟩ := h
    exact ⟨L, by rw [he, hn.out, HEE.out], hb⟩
  have HB := Below.refl W.heap.size W
  clear h8 hv hE hN0 hK HFE HEE
  go_enter Tryz.func4, Tryz.ntmps4
  go_wp2_with (first
    | (go_at_call 5; refine (awake_any _).mono ?_; rintro e w' ⟨rfl, hb⟩; replace HB := HB.trans (hb.mono HB.size); clear hb)
    | (go_at_call 6; (with_reducible refine (HF8.out _ HB).mono ?_); rintro e w' ⟨rfl, hb⟩; replace HB := HB.trans (hb.mono HB.size); clear hb)
    | (go_at_call 7; (with_reducible refine (HLY.out _ HB).mono ?_); rintro e w4 ⟨A, cap, rfl, h1, h2, h3, hb⟩; replace HB := HB.trans (hb.mono HB.size); have hc := h2; have hcm := h3; have HY := Lib.hid h1; have HGw := Lib.hid (HG.out.keep HB); clear h1 h2 h3 hb)
    | (go_at_call 8; (with_reducible refine (HRD.out A cap _ hc hcm HY.out HGw.out).mono ?_); rintro e w5 ⟨L, rfl, hb⟩; replace HB := HB.trans (hb.mono HB.size); clear hb)
    | (go_at_call 6; (with_reducible refine (HFK.out _ HB).mono ?_); rintro e w' ⟨rfl, hb⟩; replace HB := HB.trans (hb.mono HB.size); clear hb))
  go_ret
  exact ⟨rfl, HB⟩
set_option maxHeartbeats 8000000 in
theorem eventFew_no (b : Option Addr) (l : List Ev) (n c : Nat) (hn : Hid (n = l.length)) (k : Nat) (hk : k < 256) (hL : n ≤ 60) (h8 : allB l 8 = true) (hv : Hid (∀ x ∈ l, x.val < 18446744073709551616)) (hbad : allB l ((1 + k % 8 : Nat) : Int) = false) (W : World) (HE : Hid (EvAt W b l)) (HG : Hid (HalvesAt W)) :
    Calls Tryz.prog 4 #[.slice b n c, .int .u8 (k : Int)] W fun e w' => e = .returned (.bool true) ∧ Below W.heap.size W w' := by
  have hLi : ¬ (60 : Int) < (n : Int) := by omega
  have HFE : Hid (∀ x ∈ l, FineE x) := Lib.hid fun x hx => fine_of (allB_yes h8 x hx) (hv.out x hx)
  have HF8 : Hid (∀ w, Below W.heap.size W w → Calls Tryz.prog 6 #[.slice b n c, .int .i64 8] w fun e w' => e = .returned (.bool true) ∧ Below w.heap.size w w') := Lib.hid fun w hw => by
    have h := fine_any b n c l hn hL 8 w (Lib.hid (HE.out.keep hw))
    rwa [h8] at h
  have hk1 : IntKind.i64.wrap (k : Int) = (k : Int) := by rw [IntKind.wrap_i64]; omega
  obtain ⟨K, hK⟩ : ∃ K : Int, K = ((1 + k % 8 : Nat) : Int) := ⟨_, rfl⟩
  have hKm : (1 : Int) + (k : Int) % 8 = K := by rw [hK]; omega
  have hKt : (1 : Int) + Int.tmod (k : Int) 8 = K := by rw [hK, Int.tmod_eq_emod_of_nonneg (by omega)]; omega
  have HFK : Hid (∀ w, Below W.heap.size W w → Calls Tryz.prog 6 #[.slice b n c, .int .i64 K] w fun e w' => e = .returned (.bool false) ∧ Below w.heap.size w w') := Lib.hid fun w hw => by
    have h := fine_any b n c l hn hL K w (Lib.hid (HE.out.keep hw))
    rw [hK] at h ⊢
    rwa [hbad] at h
  obtain ⟨E, hE⟩ : ∃ E : Int, E = ((0 : Nat) : Int) + 5 + ((evY l).length : Int) + 4 := ⟨_, rfl⟩
  have HEE := Lib.hid hE.symm
  obtain ⟨N, hN0⟩ : ∃ N, N = ([] ++ Pg.lay 101 (evY l)).length := ⟨_, rfl⟩
  have HLY : Hid (∀ w, Below W.heap.size W w → Calls Tryz.prog 7 #[.slice none 0 0, .slice b n c] w fun e w' => ∃ A cap, e = .returned (.slice A N cap) ∧ ByAt w' A ([] ++ Pg.lay 101 (evY l)) ∧ N ≤ cap ∧ cap ≤ maxLen ∧ Below w.heap.size w w') := Lib.hid fun w hw => by
    have hhb : 0 < w.heap.size := World.block_lt_of_cell? w _ ((HG.out.keep hw) 0 (by decide))
    refine (evLay_any w.heap.size none 0 0 [] b n c l hn hL (by omega) HFE w (Lib.hid (OwnS.nil _ _)) (Lib.hid (HE.out.keep hw)) (Lib.hid (HG.out.keep hw)) (Nat.le_refl _) hhb).mono fun e w' h => ?_
    obtain ⟨A, cap, he, ho, hb⟩ := h
    have hl := ho.len
    rw [hl] at he ho
    rw [← hN0] at he ho
    exact ⟨A, cap, he, ho.byAt, ho.caps.1, ho.caps.2, hb⟩
  have HRD : Hid (∀ A cap w, N ≤ cap → cap ≤ maxLen → ByAt w A ([] ++ Pg.lay 101 (evY l)) → HalvesAt w → Calls Tryz.prog 8 #[.slice A N cap, .int .i64 0, .int .i64 K] w fun e w' => e = .returned (.tuple #[.slice none 0 0, .int .i64 0, .int .i64 3]) ∧ Below w.heap.size w w') := Lib.hid fun A cap w hc hcm HA HGw => by
    have hN := hN0
    rw [hK]
    exact evRead_no A N cap 0 [] l _ (by rw [← hn.out]; exact hL) HFE (allB_no hbad) (Lib.hid rfl) (fun x hx => HA.lt x (lay_mem hx)) (Lib.hid hN) hc hcm w (Lib.hid HA) (Lib.hid HGw)
  have HB := Below.refl W.heap.size W
  clear h8 hv hE hN0 hK HFE HEE
  go_enter Tryz.func4, Tryz.ntmps4
  go_wp2_with (first
    | (go_at_call 5; refine (awake_any _).mono ?_; rintro e w' ⟨rfl, hb⟩; replace HB := HB.trans (hb.mono HB.size); clear hb)
    | (go_at_call 6; (with_reducible refine (HF8.out _ HB).mono ?_); rintro e w' ⟨rfl, hb⟩; replace HB := HB.trans (hb.mono HB.size); clear hb)
    | (go_at_call 7; (with_reducible refine (HLY.out _ HB).mono ?_); rintro e w4 ⟨A, cap, rfl, h1, h2, h3, hb⟩; replace HB := HB.trans (hb.mono HB.size); have hc := h2; have hcm := h3; have HY := Lib.hid h1; have HGw := Lib.hid (HG.out.keep HB); clear h1 h2 h3 hb)
    | (go_at_call 8; (with_reducible refine (HRD.out A cap _ hc hcm HY.out HGw.out).mono ?_); rintro e w5 ⟨rfl, hb⟩; replace HB := HB.trans (hb.mono HB.size); clear hb)
    | (go_at_call 6; (with_reducible refine (HFK.out _ HB).mono ?_); rintro e w' ⟨rfl, hb⟩; replace HB := HB.trans (hb.mono HB.size); clear hb))
  go_ret
  exact ⟨rfl, HB⟩
theorem eventFew_any (b : Option Addr) (l : List Ev) (n c : Nat) (hn : Hid (n = l.length)) (_ : n ≤ c) (hc : c ≤ maxLen) (hv : ∀ x ∈ l, x.val < 18446744073709551616) (k : Nat) (hk : k < 256) (W : World) (HE : Hid (EvAt W b l)) (HG : Hid (HalvesAt W)) :
    Calls Tryz.prog 4 #[.slice b n c, .int .u8 (k : Int)] W fun e w' => e = .returned (.bool true) ∧ Below W.heap.size W w' := by
  by_cases hL : 60 < n
  · exact eventFew_long b n c k hk hL (by omega) W
  · rcases h8 : allB l 8 with _ | _
    · exact eventFew_none b l n c hn k hk (by omega) h8 W HE
    · rcases hall : allB l ((1 + k % 8 : Nat) : Int) with _ | _
      · exact eventFew_no b l n c hn k hk (by omega) h8 (Lib.hid hv) hall W HE HG
      · exact eventFew_yes b l n c hn k hk (by omega) h8 (Lib.hid hv) hall W HE HG
end Go.Proofs.YtpobfgokikfmbaaGreatDoor

set_option linter.unusedSimpArgs false
set_option linter.unusedVariables false
set_option maxRecDepth 8000
namespace Go.Proofs.YtpobfgokikfmbaaGreatDoor
open Go.ChangeShapes Go.WideShapes Go.ChangeAt Go.WideElems Go.RowKit

theorem Tryz.own : ownKnob Tryz.prog.godebug = none := by kernel_rfl
theorem Tryz.laidOut : laidOutB Tryz.prog = true := by kernel_rfl

section
variable {H : Type} {enc : TypeId × Value → H} {P : Program}

theorem trodAll_keep {W W' : World} {sp : Nat → Bool} (hl : laidOutB P = true) (hs : ∀ x : MemPlace, x.block < W.heap.size → W.sameAt W' x) : ∀ (ts : List TypeId) (vs : List Value) (ds : List (DataW H)) (ps : List MemPlace),
    (∀ t, t ∈ ts → P.readableRec t = true ∧ t < P.types.size) → DataW.TrodAll enc P W 0 (fun _ => true) true ts vs ds ps → (∀ x, x ∈ ps → x.block < W.heap.size) → (∀ x, x ∈ ps → sp x.block = true) →
    DataW.TrodAll enc P W' 0 sp true ts vs ds ps
  | [], [], [], _, _, h, _, _ => h
  | t :: ts, v :: vs, d :: ds, ps, hr, ⟨p, q, hd, hrest, he⟩, hlt, hsp => by
    subst he
    refine ⟨p, q, ?_, trodAll_keep hl hs ts vs ds q (fun t ht => hr t (by simp [ht])) hrest (fun x hx => hlt x (by simp [hx])) (fun x hx => hsp x (by simp [hx])), rfl⟩
    exact WideElems.Trod_stays hl (hr t (by simp)).1 (hr t (by simp)).2 hd (fun x hx => hs x (hlt x (by simp [hx]))) (fun x hx => hsp x (by simp [hx]))
  | [], [], _ :: _, _, _, h, _, _ => h.elim
  | [], _ :: _, _, _, _, h, _, _ => h.elim
  | _ :: _, [], _, _, _, h, _, _ => h.elim
  | _ :: _, _ :: _, [], _, _, h, _, _ => h.elim

theorem post_law {f : Func} {s : ChangeSpec} {W W' : World} {args : Array Value} {ds : List (DataW H)} {before : List MemPlace} {tb : TypeId} (hl : laidOutB P = true)
    (hv : s.vars = []) (hW : DataW.Whole enc P f.params.toList s.vars false W args.toList ds [] before)
    (hrec : ∀ t, t ∈ f.params.toList → P.readableRec t = true ∧ t < P.types.size)
    (hres : (s.fn H ds).results = [.lit (.bool true)]) (hargs : (s.fn H ds).args = ds) (hvs : (s.fn H ds).vars = [])
    (hrt : f.resultTypes = #[tb]) (htb : P.underlying tb = some .bool) (hb : Below W.heap.size W W') : s.post enc P f false true false false W args (.bool true) W' := by
  have hlt : ∀ x, x ∈ before → x.block < W.heap.size := fun x hx => hW.lt x hx
  have hW2 := hW
  obtain ⟨p, q, hA, hV, rfl, -, -⟩ := hW2
  have hq : q = [] := by rw [hv] at hV; exact hV
  subst hq
  refine ⟨ds, [], p ++ [], [], p, [], hW, ?_, ?_, ?_, hb.frame _, fun h => by cases h⟩
  · rw [List.append_nil, hres, hrt]
    exact trodAll_mk1 (shut_bool htb true)
  · rw [List.append_nil, hargs]
    exact trodAll_keep hl (fun x hx => hb.same hx) _ _ _ _ hrec hA (fun x hx => hlt x (by simp [hx])) (fun x hx => by simpa using hlt x (by simp [hx]))
  · rw [List.append_nil, hv, hvs]; rfl

/-- A slice of bytes that came in. -/
theorem open_bys {W : World} {t e : TypeId} {v : Value} {d : DataW H} {ps : List MemPlace} (ht : P.underlying t = some (.slice e)) (he : P.underlying e = some (.int .u8)) (hc : P.cellsOf e = 1)
    {b0 : Nat} {r : Reach} (hok : Value.okWide P W r b0 t v) (hd : DataW.Trod enc P W 0 (fun _ => true) true t v d ps) (hlt : ∀ x, x ∈ ps → x.block < W.heap.size) :
    ∃ (a : Option Addr) (l : List Nat) (cap : Nat), v = .slice a l.length cap ∧ l.length ≤ cap ∧ cap ≤ maxLen ∧ ByAt W a l := by
  obtain ⟨fuel, hf⟩ := hd
  obtain ⟨a, len, cap, rfl⟩ : ∃ a len cap, v = .slice a len cap := by
    simp only [Value.okWide, ht, Cell.okWide] at hok
    cases v <;> simp_all [Cell.ok]
  rcases Deep.open_slice1 ht hc hf with ⟨hcs, -⟩ | ⟨a', len', cap', m, n, V, D, Pl, hcs, -, hl, hm, hmm, hx, hcell⟩
  · simp [Value.cells] at hcs
    obtain ⟨rfl, rfl, rfl⟩ := hcs
    exact ⟨none, [], 0, rfl, Nat.le_refl _, by unfold maxLen; omega, fun k x hx => by simp at hx⟩
  · simp [Value.cells] at hcs
    obtain ⟨rfl, rfl, rfl⟩ := hcs
    simp only [if_true] at hmm
    subst hmm
    have hV : ∀ i, i < m → ∃ b : Nat, V i = .int .u8 (b : Int) ∧ b < 256 := fun i hi => by
      obtain ⟨b, h1, _, h2⟩ := DataW.trod_int he (hcell i hi).2
      have h3 : 0 ≤ b ∧ b ≤ 255 := by simpa [Lit.wf, IntKind.min, IntKind.max, IntKind.signed, IntKind.bits] using h2
      exact ⟨b.toNat, by rw [show ((b.toNat : Nat) : Int) = b by omega]; simpa using h1, by omega⟩
    let B : Nat → Nat := fun i => match V i with | .int _ b => b.toNat | _ => 0
    have hB : ∀ i, i < m → V i = .int .u8 (B i : Int) ∧ B i < 256 := fun i hi => by
      obtain ⟨b, h1, h2⟩ := hV i hi
      have : B i = b := by show (match V i with | .int _ b => b.toNat | _ => 0) = b; rw [h1]; simp
      rw [this]; exact ⟨h1, h2⟩
    refine ⟨some a', (List.range len).map B, m, by simp, by simpa using hl, hm, fun k x hx2 => ?_⟩
    have hk : k < len := by
      rcases Nat.lt_or_ge k len with h | h
      · exact h
      · rw [List.getElem?_eq_none (by simpa using h)] at hx2; cases hx2
    have hx3 : x = B k := by simp [hk] at hx2; exact hx2.symm
    subst hx3
    obtain ⟨b, off, spot⟩ := a'
    have hspot : spot = none := by simpa [Addr.add] using World.cell?_spot (hcell 0 (by omega)).1
    subst hspot
    refine ⟨(hB k (by omega)).2, b, off, rfl, ?_, ?_⟩
    · have hcl := (hcell 0 (by omega)).1
      have := block_lt_of_cell hcl
      simpa [Addr.add] using this
    · have h := (hcell k (by omega)).1
      rw [(hB k (by omega)).1] at h
      rw [Addr.add_lit] at h
      exact h
/-- A slice of bytes that came in, and its reading. -/
theorem open_bysd {W : World} {t e : TypeId} {v : Value} {d : DataW H} {ps : List MemPlace} (ht : P.underlying t = some (.slice e)) (he : P.underlying e = some (.int .u8)) (hc : P.cellsOf e = 1)
    {b0 : Nat} {r : Reach} (hok : Value.okWide P W r b0 t v) (hd : DataW.Trod enc P W 0 (fun _ => true) true t v d ps) (hlt : ∀ x, x ∈ ps → x.block < W.heap.size) :
    ∃ (a : Option Addr) (l : List Nat) (cap : Nat), v = .slice a l.length cap ∧ l.length ≤ cap ∧ cap ≤ maxLen ∧ ByAt W a l ∧ (d = .nil ∧ l = [] ∨ ∃ elems spare, d = .slice elems spare ∧ elems.length = l.length) := by
  obtain ⟨fuel, hf⟩ := hd
  obtain ⟨a, len, cap, rfl⟩ : ∃ a len cap, v = .slice a len cap := by
    simp only [Value.okWide, ht, Cell.okWide] at hok
    cases v <;> simp_all [Cell.ok]
  rcases Deep.open_slice1 ht hc hf with ⟨hcs, hx0⟩ | ⟨a', len', cap', m, n, V, D, Pl, hcs, -, hl, hm, hmm, hx, hcell⟩
  · simp [Value.cells] at hcs
    obtain ⟨rfl, rfl, rfl⟩ := hcs
    exact ⟨none, [], 0, rfl, Nat.le_refl _, by unfold maxLen; omega, fun k x hx => by simp at hx, .inl ⟨by simpa using congrArg Prod.fst hx0, rfl⟩⟩
  · simp [Value.cells] at hcs
    obtain ⟨rfl, rfl, rfl⟩ := hcs
    simp only [if_true] at hmm
    subst hmm
    have hV : ∀ i, i < m → ∃ b : Nat, V i = .int .u8 (b : Int) ∧ b < 256 := fun i hi => by
      obtain ⟨b, h1, _, h2⟩ := DataW.trod_int he (hcell i hi).2
      have h3 : 0 ≤ b ∧ b ≤ 255 := by simpa [Lit.wf, IntKind.min, IntKind.max, IntKind.signed, IntKind.bits] using h2
      exact ⟨b.toNat, by rw [show ((b.toNat : Nat) : Int) = b by omega]; simpa using h1, by omega⟩
    let B : Nat → Nat := fun i => match V i with | .int _ b => b.toNat | _ => 0
    have hB : ∀ i, i < m → V i = .int .u8 (B i : Int) ∧ B i < 256 := fun i hi => by
      obtain ⟨b, h1, h2⟩ := hV i hi
      have : B i = b := by show (match V i with | .int _ b => b.toNat | _ => 0) = b; rw [h1]; simp
      rw [this]; exact ⟨h1, h2⟩
    refine ⟨some a', (List.range len).map B, m, by simp, by simpa using hl, hm, fun k x hx2 => ?_, .inr ⟨_, _, by simpa using congrArg Prod.fst hx, by simp⟩⟩
    have hk : k < len := by
      rcases Nat.lt_or_ge k len with h | h
      · exact h
      · rw [List.getElem?_eq_none (by simpa using h)] at hx2; cases hx2
    have hx3 : x = B k := by simp [hk] at hx2; exact hx2.symm
    subst hx3
    obtain ⟨b, off, spot⟩ := a'
    have hspot : spot = none := by simpa [Addr.add] using World.cell?_spot (hcell 0 (by omega)).1
    subst hspot
    refine ⟨(hB k (by omega)).2, b, off, rfl, ?_, ?_⟩
    · have hcl := (hcell 0 (by omega)).1
      have := block_lt_of_cell hcl
      simpa [Addr.add] using this
    · have h := (hcell k (by omega)).1
      rw [(hB k (by omega)).1] at h
      rw [Addr.add_lit] at h
      exact h
theorem bys_reach {ts : List TypeId} {ds : List (DataW H)} (h : (DataW.weightsEach P ts ds).all (· ≤ reachBytes) = true) {j : Nat} {t e : TypeId} {d : DataW H} {l : List Nat} (ht : ts[j]? = some t) (hd : ds[j]? = some d) (hu : P.underlying t = some (.slice e)) (hb : P.bytesOf e = 1)
    (hdl : d = .nil ∧ l = [] ∨ ∃ elems spare, d = .slice elems spare ∧ elems.length = l.length) : l.length ≤ 140737488351232 := by
  rcases hdl with ⟨-, rfl⟩ | ⟨elems, spare, rfl, hl⟩
  · simp
  · have := sized_slice h ht hd hu
    rw [hb] at this
    simp only [reachBytes] at this
    omega
end

theorem gHalves : Tryz.prog.globalNamed "headrace/page.halves" = some 0 := by kernel_rfl
theorem tHalves : (Tryz.prog.globals[0]?).map (·.type) = some 95 := by kernel_rfl
def laidHalves {H : Type} : List (String × DataW H) := [("headrace/page.halves", Rows.laid_headrace_page_halves)]
theorem door_met (os : Os) (args : Array Value) : laidMetH Tryz.prog laidHalves ((World.doorLaid Tryz.prog 400 os).forCall (fun _ _ => 0) ⟨#[], args, []⟩).memory :=
  laidMetH_of_parts3 (fuel := 8) (laidMet_of_run' 8 (by kernel_rfl) (by kernel_rfl)) (by kernel_rfl) (by kernel_rfl)
theorem laid_parts (i : Nat) (hi : i < 16) : ∃ parts : List (DataW Unit), (Rows.laid_headrace_page_halves : DataW Unit) = .agg parts ∧ parts[i]? = some (.lit (.int .u32 (Pg.half i : Nat))) := by
  refine ⟨_, rfl, ?_⟩
  exact match i, hi with
  | 0, _ => rfl
  | 1, _ => rfl
  | 2, _ => rfl
  | 3, _ => rfl
  | 4, _ => rfl
  | 5, _ => rfl
  | 6, _ => rfl
  | 7, _ => rfl
  | 8, _ => rfl
  | 9, _ => rfl
  | 10, _ => rfl
  | 11, _ => rfl
  | 12, _ => rfl
  | 13, _ => rfl
  | 14, _ => rfl
  | 15, _ => rfl
  | n + 16, h => absurd h (by omega)
/-- What the condition gives the walks: the table's cells. -/
theorem of_laid {W : World} (h : laidMetH Tryz.prog laidHalves W) : HalvesAt W := by
  rw [MakeChecks.laidMetH_plain _ _ _ (by kernel_rfl)] at h
  obtain ⟨ps, ⟨g0, t0, cs0, f0, p0, q0, hg0, ht0, hv0, hd0, _, _⟩, _, _⟩ := h
  obtain rfl := Option.some.inj (gHalves.symm.trans hg0)
  obtain rfl := Option.some.inj (tHalves.symm.trans ht0)
  obtain ⟨xs, m1, rfl, hx1, hlen, hn3, hel⟩ := DataW.trod_array Tryz.underlying95 hd0
  have c3 : Tryz.prog.cellsOf 68 = 1 := by kernel_rfl
  intro i hi
  obtain ⟨parts, hp, hpi⟩ := laid_parts i hi
  rw [hp] at hx1
  simp only [Prod.mk.injEq, DataW.agg.injEq] at hx1
  have hxi : xs[i]? = some (xs[i]'(by omega)) := List.getElem?_eq_getElem (by omega)
  have hi1 := hel i hi
  rw [c3, Nat.mul_one, hxi] at hi1
  obtain ⟨k, e1, e2, _⟩ := DataW.trod_int Tryz.underlying68 hi1
  have hk : k = (Pg.half i : Nat) := by
    rw [hx1.1, List.getElem?_map, hxi] at hpi
    simp only [Option.map_some, Option.some.injEq] at hpi
    rw [e2] at hpi
    simpa using hpi
  subst hk
  have hc := World.var?_cell hg0 hv0 i
  rw [hc, ← Array.getElem?_toList]
  have h2 : (cs0.toList.drop i)[0]? = some (.int .u32 (Pg.half i : Nat)) := by
    have h3 : ((cs0.toList.drop i).take 1)[0]? = some (.int .u32 (Pg.half i : Nat)) := by rw [e1]; rfl
    rw [List.getElem?_take] at h3
    simpa using h3
  rw [List.getElem?_drop] at h2
  simpa using h2
end Go.Proofs.YtpobfgokikfmbaaGreatDoor

set_option linter.unusedSimpArgs false
set_option linter.unusedVariables false
set_option maxRecDepth 8000
namespace Go.Proofs.YtpobfgokikfmbaaGreatDoor
open Go.ChangeShapes Go.WideShapes Go.ChangeAt Go.RowKit
section
variable {H : Type} {enc : TypeId × Value → H} {P : Program}
theorem trod_float' {w : World} {base : Nat} {spare : Nat → Bool} {held : Bool} {fuel : Nat} {cs : List Value} {x : DataW H × List MemPlace} {t : TypeId} (ht : P.underlying t = some (.float .f64)) (h : DataW.trod enc P w base spare held fuel t cs = some x) :
    ∃ b, cs = [.float .f64 b] ∧ (Lit.float .f64 b).wf = true := by
  cases fuel with
  | zero => simp [DataW.trod] at h
  | succ n =>
    unfold DataW.trod at h
    rw [ht] at h
    split at h <;> simp_all
end
section
variable {H : Type} {enc : TypeId × Value → H} {W : World} {base : Nat} {spare : Nat → Bool} {held : Bool}
/-- The cells of an event that came in. -/
theorem ev_cells {fuel : Nat} {cs : List Value} {y : DataW H × List MemPlace} (h : DataW.trod enc Tryz.prog W base spare held fuel 38 cs = some y) : ∃ x : Ev, cs = x.cells ∧ x.val < 18446744073709551616 := by
  obtain ⟨xs, n, -, -, hl, hxl, hg⟩ := DataW.trod_struct Tryz.underlying38 h
  have hC : Tryz.prog.cellsOf 38 = 5 := by kernel_rfl
  have hx5 : xs.length = 5 := hxl
  rw [hC] at hl
  have one : ∀ (i : Nat) (c : Value) (f : Field), cs[i]? = some c → i < 5 → f.offset = i → Tryz.prog.cellsOf f.type = 1 → DataW.trod enc Tryz.prog W base spare held n f.type ((cs.drop f.offset).take (Tryz.prog.cellsOf f.type)) = xs[i]? → ∃ y, DataW.trod enc Tryz.prog W base spare held n f.type [c] = some y := by
    intro i c f hc hi ho hk hf
    rw [ho, hk] at hf
    have e : (cs.drop i).take 1 = [c] := by
      obtain ⟨h1, h2⟩ := List.getElem?_eq_some_iff.1 hc
      rw [List.drop_eq_getElem_cons h1, h2]; rfl
    rw [e, List.getElem?_eq_getElem (by omega)] at hf
    exact ⟨_, hf⟩
  match cs, hl with
  | [c0, c1, c2, c3, c4], _ =>
    obtain ⟨y0, t0⟩ := one 0 c0 _ rfl (by decide) rfl (by kernel_rfl) (hg 0 _ rfl)
    obtain ⟨y1, t1⟩ := one 1 c1 _ rfl (by decide) rfl (by kernel_rfl) (hg 1 _ rfl)
    obtain ⟨y2, t2⟩ := one 2 c2 _ rfl (by decide) rfl (by kernel_rfl) (hg 2 _ rfl)
    obtain ⟨y3, t3⟩ := one 3 c3 _ rfl (by decide) rfl (by kernel_rfl) (hg 3 _ rfl)
    obtain ⟨y4, t4⟩ := one 4 c4 _ rfl (by decide) rfl (by kernel_rfl) (hg 4 _ rfl)
    obtain ⟨n0, e0, -, w0⟩ := DataW.trod_int (k := .u64) Tryz.underlying35 t0
    obtain ⟨n1, e1, -, -⟩ := DataW.trod_int (k := .i64) Tryz.underlying3 t1
    obtain ⟨n2, e2, -, -⟩ := DataW.trod_int (k := .i64) Tryz.underlying2 t2
    obtain ⟨s3, e3, -, -⟩ := DataW.trod_string Tryz.underlying9 t3
    obtain ⟨b4, e4, w4⟩ := trod_float' Tryz.underlying36 t4
    cases e0; cases e1; cases e2; cases e3; cases e4
    have h0 : 0 ≤ n0 := by
      have h : 0 ≤ n0 ∧ n0 ≤ 18446744073709551615 := by simpa [Lit.wf, IntKind.min, IntKind.max, IntKind.signed, IntKind.bits] using w0
      exact h.1
    refine ⟨⟨n0.toNat, n1, n2, s3, b4⟩, ?_, by simpa [Lit.wf] using w4⟩
    unfold Ev.cells
    rw [Int.toNat_of_nonneg h0]
end
section
variable {H : Type} {enc : TypeId × Value → H} {W : World}
theorem open_evs {b0 : Nat} {r : Reach} {v : Value} {d : DataW H} {ps : List MemPlace} (hok : Value.okWide Tryz.prog W r b0 23 v) (hd : DataW.Trod enc Tryz.prog W 0 (fun _ => true) true 23 v d ps) :
    ∃ (a : Option Addr) (l : List Ev) (cap : Nat), v = .slice a l.length cap ∧ l.length ≤ cap ∧ cap ≤ maxLen ∧ (a = none → l.length = 0 ∧ cap = 0) ∧ (∀ x, a = some x → x.spot = none) ∧ (∀ x ∈ l, x.val < 18446744073709551616) ∧ EvAt W a l := by
  have hu := Tryz.underlying23
  have hC : Tryz.prog.cellsOf 38 = 5 := by kernel_rfl
  obtain ⟨fuel, hf⟩ := hd
  obtain ⟨a, len, cap, rfl⟩ := okWide_slice hu hok
  rcases Deep.open_slice hu hf with ⟨hcs, -⟩ | ⟨a', len', cap', m, n, D, Pl, hcs, -, hl, hm, hmm, hx, hcell⟩
  · simp [Value.cells] at hcs
    obtain ⟨rfl, rfl, rfl⟩ := hcs
    exact ⟨none, [], 0, rfl, Nat.le_refl _, by unfold maxLen; omega, fun _ => ⟨rfl, rfl⟩, fun x hx => (by cases hx), fun x hx => (by cases hx), fun k x hx => by simp [evs] at hx⟩
  · simp [Value.cells] at hcs
    obtain ⟨rfl, rfl, rfl⟩ := hcs
    simp only [if_true] at hmm
    subst hmm
    have hspot : a'.spot = none := by
      simp only [Value.okWide, hu, Cell.okWide, Cell.ok] at hok
      exact hok.2.2.2.1
    obtain ⟨g, off, s⟩ := a'
    obtain rfl : s = none := hspot
    have hE : ∀ i, i < m → ∃ x : Ev, W.cells? 0 ((⟨g, off, none⟩ : Addr).add (i * 5)) 5 = some x.cells ∧ x.val < 18446744073709551616 := fun i hi => by
      obtain ⟨cs', h1, h2⟩ := hcell i hi
      rw [hC] at h1
      obtain ⟨x, rfl, hx⟩ := ev_cells h2
      exact ⟨x, h1, hx⟩
    obtain ⟨E, hE⟩ := Deep.choose_lt (α := Ev) (p := fun i x => W.cells? 0 ((⟨g, off, none⟩ : Addr).add (i * 5)) 5 = some x.cells ∧ x.val < 18446744073709551616) hE
    refine ⟨some ⟨g, off, none⟩, (List.range len).map E, m, by simp, by simpa using hl, hm, fun h => (by cases h), fun x hx => (by cases hx; rfl), fun x hx => ?_, fun k v hv => ?_⟩
    · obtain ⟨i, hi, rfl⟩ := List.mem_map.1 hx
      exact (hE i (by have := List.mem_range.1 hi; omega)).2
    · have hk : k < len * 5 := by
        have := (List.getElem?_eq_some_iff.1 hv).1
        rw [evs_length] at this; simpa using this
      have e := evs_get ((List.range len).map E) (k / 5) (k % 5) (by omega)
      rw [show k / 5 * 5 + k % 5 = k by omega, hv, List.getElem?_map, List.getElem?_range (by omega)] at e
      obtain ⟨h0, h1, h2⟩ := World.cells?_some (hE (k / 5) (by omega)).1
      have hg := World.cells?_block (hE (k / 5) (by omega)).1 (by decide)
      rw [Addr.add_lit] at hg
      refine ⟨g, off, rfl, hg, ?_⟩
      have h3 := h2 (k % 5) (by omega)
      rw [Addr.add_lit, Addr.add_lit, Nat.add_assoc, show k / 5 * 5 + k % 5 = k by omega] at h3
      rw [h3]; exact e.symm
end
end Go.Proofs.YtpobfgokikfmbaaGreatDoor
