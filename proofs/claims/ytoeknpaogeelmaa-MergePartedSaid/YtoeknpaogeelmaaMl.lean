/-
  The law MergeKeeps: walked.
-/
import Derived.Test.YtoeknpaogeelmaaMs
set_option linter.unusedSimpArgs false
set_option linter.unusedVariables false
set_option maxRecDepth 8000
namespace Go.Proofs.Ytoeknpaogeelmaa
open Go.RowKit Go.Sort

/-- Two rows of runs beside each other, and their runs. -/
structure MKS (B : Nat) (w : World) (Aw : Option Addr) (iw cw : Nat) (WAs : List Sl) (Ai : Option Addr) (ii ci : Nat) (INs : List Sl) : Prop where
  rw : OwnR w B Aw iw cw WAs
  ri : OwnR w B Ai ii ci INs
  ow : ∀ s ∈ WAs, SlOwn w B s
  oi : ∀ s ∈ INs, SlOwn w B s
  ap : ∀ k, Aw.map (·.block) = some k → some k ≠ Ai.map (·.block)
section
variable {B iw cw ii ci : Nat} {w w' : World} {Aw Ai : Option Addr} {WAs INs : List Sl}
theorem MKS.below (h : MKS B w Aw iw cw WAs Ai ii ci INs) (hb : Below w.heap.size w w') : MKS B w' Aw iw cw WAs Ai ii ci INs :=
  ⟨h.rw.below hb, h.ri.below hb, fun s hs => (h.ow s hs).below hb, fun s hs => (h.oi s hs).below hb, h.ap⟩
theorem MKS.addI (h : MKS B w Aw iw cw WAs Ai ii ci INs) (sl : Sl) (hs : SlOwn w B sl) (A' : Option Addr) (cap' : Nat) (hr : OwnR w' B A' (ii + 1) cap' (INs ++ [sl])) (hg : w.grownBy w' ((Value.slice Ai ii ci).ownBlock)) (hp : ∀ k, A'.map (·.block) = some k → Ai.map (·.block) = some k ∨ w.heap.size ≤ k) :
    MKS B w' Aw iw cw WAs A' (ii + 1) cap' (INs ++ [sl]) := by
  refine ⟨h.rw.beside h.ap hg, hr, fun s h2 => (h.ow s h2).beside h.ri hg, fun s h2 => ?_, fun k hk e => ?_⟩
  · rcases List.mem_append.1 h2 with h3 | h3
    · exact (h.oi s h3).beside h.ri hg
    · rw [List.mem_singleton.1 h3]; exact hs.beside h.ri hg
  · rcases hp k e.symm with h4 | h4
    · exact h.ap k hk h4.symm
    · have := (h.rw.base k hk).2; omega
theorem MKS.addW (h : MKS B w Aw iw cw WAs Ai ii ci INs) (sl : Sl) (hs : SlOwn w B sl) (A' : Option Addr) (cap' : Nat) (hr : OwnR w' B A' (iw + 1) cap' (WAs ++ [sl])) (hg : w.grownBy w' ((Value.slice Aw iw cw).ownBlock)) (hp : ∀ k, A'.map (·.block) = some k → Aw.map (·.block) = some k ∨ w.heap.size ≤ k) :
    MKS B w' A' (iw + 1) cap' (WAs ++ [sl]) Ai ii ci INs := by
  refine ⟨hr, h.ri.beside (fun k hk e => h.ap k e.symm hk.symm) hg, fun s h2 => ?_, fun s h2 => (h.oi s h2).beside h.rw hg, fun k hk e => ?_⟩
  · rcases List.mem_append.1 h2 with h3 | h3
    · exact (h.ow s h3).beside h.rw hg
    · rw [List.mem_singleton.1 h3]; exact hs.beside h.rw hg
  · rcases hp k hk with h4 | h4
    · exact h.ap k h4 e
    · have := (h.ri.base k e.symm).2; omega
end
/-- The runs, each sorted. -/
def srtd (Ss : List Sl) (i : Nat) : List (List Ev) := (Ss.take i).map fun s => isort ltM s.l
theorem srtd_snoc {Ss : List Sl} {i : Nat} {s : Sl} (h : Ss[i]? = some s) : srtd Ss (i + 1) = srtd Ss i ++ [isort ltM s.l] := by
  unfold srtd; rw [List.take_add_one, h, List.map_append]; rfl
theorem slL_snoc (Ss : List Sl) (s : Sl) : slL (Ss ++ [s]) = slL Ss ++ [s.l] := by unfold slL; rw [List.map_append]; rfl
theorem srtd_len (Ss : List Sl) (n : Nat) (hn : n = Ss.length) : (srtd Ss n).flatten.length = (slL Ss).flatten.length := by
  subst hn
  unfold srtd slL
  rw [List.take_length, List.length_flatten, List.length_flatten, List.map_map, List.map_map]
  congr 1
  exact List.map_congr_left fun s _ => isort_len _
theorem srtd_ord (Ss : List Sl) (n : Nat) : (srtd Ss n).all (ordB ltM) = true := by
  rw [List.all_eq_true]
  intro l hl
  obtain ⟨s, -, rfl⟩ := List.mem_map.1 hl
  exact (ordB_iff wkE _).2 (isort_ordered wkE _)
theorem isortM_mem (l : List Ev) (x : Ev) (h : x ∈ isort ltM l) : x ∈ l := by
  unfold isort at h
  rw [sm_mem] at h
  rcases h with h | h
  · cases h
  · exact h
def MK1 (W : World) (Ss : List Sl) (n : Nat) (uw ui v : Value) (wr : World) : Prop :=
  ∃ (i : Nat) (Aw : Option Addr) (cw : Nat) (WAs : List Sl) (Ai : Option Addr) (ci : Nat) (INs : List Sl), i ≤ n ∧ v = .int .i64 (i : Int) ∧ uw = .slice Aw i cw ∧ ui = .slice Ai i ci ∧ MKS W.heap.size wr Aw i cw WAs Ai i ci INs ∧ slL WAs = srtd Ss i ∧ slL INs = srtd Ss i ∧ Below W.heap.size W wr
def KLm (W : World) (n : Nat) (A : Option Addr) (v : Value) (wr : World) : Prop := ∃ k : Nat, k ≤ n ∧ v = .int .i64 k ∧ Below W.heap.size W wr ∧ (0 < n → ∃ g, A = some ⟨g, 0, none⟩ ∧ W.heap.size ≤ g ∧ RowAtM wr g n)
def K3m (W : World) (n : Nat) (v : Value) (wr : World) : Prop := ∃ k : Nat, k ≤ n ∧ v = .int .i64 k ∧ Below W.heap.size W wr
theorem own_sl {w : World} {B B' m cs : Nat} {S : Option Addr} {l : List Ev} (h : OwnE w B S m cs l) (hB : B' ≤ B) (hl : m = l.length) (hm : m ≤ 1000) : SlOwn w B' ⟨S, cs, l⟩ := by
  obtain ⟨A', c', e, h1, h2, h3⟩ := ro_slice h
  injection e with e1 e2 e3; subst e1; subst e3
  refine ⟨by show OwnE w B' S l.length cs l; rw [← hl]; exact h.less hB, by show l.length ≤ cs; omega, h2, h3, by show l.length ≤ 1000; omega⟩
set_option maxHeartbeats 32000000 in
theorem mergeKeeps_all (a : Option Addr) (n c : Nat) (Ss : List Sl) (hn : Hid (n = Ss.length)) (hnc : n ≤ c) (hcm : c ≤ maxLen) (hv : Hid (∀ s ∈ Ss, ∀ x ∈ s.l, x.val < 18446744073709551616)) (W : World) (HR : Hid (RunsIn W a Ss)) :
    Calls Try.prog 6 #[.slice a n c] W fun e w' => e = .returned (.bool true) ∧ Below W.heap.size W w' := by
  have HFEW := Lib.hid fun (w : World) (hb : Below W.heap.size W w) => few_any a n c Ss hn hnc hcm w (Lib.hid (HR.out.keep hb))
  by_cases hrange : 1 ≤ n ∧ n ≤ 16
  · obtain ⟨hn1, hn16⟩ := hrange
    have h1i : ¬ (n : Int) < 1 := by omega
    have h16i : ¬ (16 : Int) < (n : Int) := by omega
    obtain ⟨g, off, ha, hg, hcells⟩ := runs_one HR.out (by have := hn.out; omega)
    subst ha
    have HG0 := Lib.hid hg; have HCELLS := Lib.hid hcells
    clear hg hcells
    go_enter Try.func6, Try.ntmps6
    go_wp2_with (go_at_call 7; refine (mawake_any _).mono ?_; rintro e w1 ⟨rfl, hb⟩; have HB1 := Lib.hid hb; clear hb)
    refine (HFEW.out _ HB1.out).mono ?_
    rintro e w2 ⟨b, rfl, hf, rfl⟩
    cases b
    · clear hf
      go_wp2_with (go_at_call 7; refine (mawake_any _).mono ?_; rintro e w3 ⟨rfl, hb⟩; have HB3 := Lib.hid (bto HB1.out hb); clear hb)
      go_ret
      exact ⟨rfl, HB3.out⟩
    · have hfew := hf rfl
      have HFE := Lib.hid hfew
      clear hf hfew
      have HST : Hid (MK1 W Ss n (.slice none 0 0) (.slice none 0 0) (.int .i64 0) w1) := Lib.hid ⟨0, none, 0, [], none, 0, [], Nat.zero_le _, rfl, rfl, rfl, ⟨OwnR.nil _ _, OwnR.nil _ _, fun s h => (by cases h), fun s h => (by cases h), fun k h => (by cases h)⟩, rfl, rfl, HB1.out⟩
      go_wp2
      go_loopw [3, 4, 5] (fun uw ui v wr => MK1 W Ss n uw ui v wr) (fun _ _ v _ => n - (intOf v).toNat)
      case atStart => exact HST.out
      case round =>
        obtain ⟨i, Aw, cw, WAs, Ai, ci, INs, hi, rfl, rfl, rfl, hmk, hwa, hin2, hb⟩ := hrel
        have HMK := Lib.hid hmk; have HWA := Lib.hid hwa; have HIN := Lib.hid hin2; have HB := Lib.hid hb
        clear hmk hwa hin2 hb HST
        by_cases hin : i < n
        · obtain ⟨s, hs⟩ : ∃ s, Ss[i]? = some s := ⟨_, List.getElem?_eq_getElem (by have := hn.out; omega)⟩
          obtain ⟨m, hm⟩ : ∃ m, m = s.l.length := ⟨_, rfl⟩
          have hcw := (HB.out.cell (p := ⟨g, off + i, none⟩) HG0.out).trans (HCELLS.out i s hs)
          rw [← hm] at hcw
          have hm100 : m ≤ 100 := by rw [hm]; exact HFE.out.each s (List.mem_of_getElem? hs)
          have HEV : Hid (EvAt wr s.A s.l) := Lib.hid ((HR.out.ok s (List.mem_of_getElem? hs)).at'.keep HB.out)
          have HSORT := Lib.hid (rsort_any s.A m s.c s.l (Lib.hid hm) (by omega) wr HEV)
          have HS := Lib.hid hs
          have HM : Hid (m = (isort ltM s.l).length) := Lib.hid (by rw [isort_len]; exact hm)
          have hii : (i : Int) < (n : Int) := by omega
          have hBW : W.heap.size ≤ wr.heap.size := HB.out.size
          clear hs hm
          go_wp2_with (first
            | (go_at_call 9; (with_reducible refine (HSORT.out).mono ?_); rintro e w2 ⟨S, cs, rfl, ho, hb2⟩; have HO := Lib.hid ho; have HB2 := Lib.hid hb2; obtain ⟨S', cs', eS, g1, g2, g3⟩ := ro_slice ho; injection eS with eS1 eS2 eS3; subst eS1; subst eS3; have HNIL := Lib.hid g3; clear ho hb2 eS2 g1 g2 g3)
            | (at_builtin; refine wpList_append_ev rfl (.tmp 45) (.tmp 46) rfl w2.heap.size none 0 0 [] rfl (World.ownsRow_nil _ _ _ 5) S m cs (isort ltM s.l) rfl HM.out HO.out.at' HNIL.out m (by omega) (by omega) (Nat.le_refl _) ?_; intro A3 c3 w3 ho3 hc3 hm3 hn3 hb3; have HO3 := Lib.hid ho3; have HB3 := Lib.hid hb3; have HSL1 : Hid (SlOwn w3 W.heap.size ⟨S, cs, isort ltM s.l⟩) := Lib.hid ((own_sl HO.out hBW HM.out (by omega)).below hb3); have HSL2 : Hid (SlOwn w3 W.heap.size ⟨A3, c3, isort ltM s.l⟩) := Lib.hid (own_sl (l := isort ltM s.l) ho3 (Nat.le_trans hBW HB2.out.size) HM.out (by omega)); have HMK3 := Lib.hid ((HMK.out.below HB2.out).below hb3); have HBA : Hid (Below w3.heap.size w3 (w3.alloc (.cells #[.slice S m cs] 25))) := Lib.hid ((Below.refl _ _).alloc (Nat.le_refl _) _); have hbs3 : W.heap.size ≤ (w3.alloc (.cells #[.slice S m cs] 25)).heap.size := (by have := HB2.out.size; have := hb3.size; simp; omega); clear ho3 hb3)
            | (at_builtin; refine wpList_append_run rfl (.tmp 48) (.tmp 50) rfl W.heap.size Ai i ci INs rfl (HMK3.out.below HBA.out).ri w3.heap.size ⟨S, cs, isort ltM s.l⟩ rfl (by show _ = some (Value.slice S (isort ltM s.l).length cs); rw [← HM.out, cell_of_row _ _ _ _ _ _ (heap_alloc_newM w3 _)]; rfl) (by omega) hbs3 ?_; intro A4 c4 w4 ho4 hg4 hb4 hp4; have HMK4 := Lib.hid ((HMK3.out.below HBA.out).addI ⟨S, cs, isort ltM s.l⟩ (HSL1.out.below HBA.out) A4 c4 ho4 hg4 hp4); have HSL4 := Lib.hid ((HSL2.out.below HBA.out).beside (HMK3.out.below HBA.out).ri hg4); have HB4 := Lib.hid hb4; have HBA4 : Hid (Below w4.heap.size w4 (w4.alloc (.cells #[.slice A3 m c3] 25))) := Lib.hid ((Below.refl _ _).alloc (Nat.le_refl _) _); have hbs4 : W.heap.size ≤ (w4.alloc (.cells #[.slice A3 m c3] 25)).heap.size := (by have := hb4.size; simp at this ⊢; simp at hbs3; omega); clear ho4 hg4 hb4 hp4)
            | (at_builtin; refine wpList_append_run rfl (.tmp 52) (.tmp 54) rfl W.heap.size Aw i cw WAs rfl (HMK4.out.below HBA4.out).rw w4.heap.size ⟨A3, c3, isort ltM s.l⟩ rfl (by show _ = some (Value.slice A3 (isort ltM s.l).length c3); rw [← HM.out, cell_of_row _ _ _ _ _ _ (heap_alloc_newM w4 _)]; rfl) (by omega) hbs4 ?_; intro A5 c5 w5 ho5 hg5 hb5 hp5; have HMK5 := Lib.hid ((HMK4.out.below HBA4.out).addW ⟨A3, c3, isort ltM s.l⟩ (HSL4.out.below HBA4.out) A5 c5 ho5 hg5 hp5); have HB5 := Lib.hid hb5; clear ho5 hg5 hb5 hp5))
          go_roundw
          case rel =>
            have b1 : Below W.heap.size W w3 := bto (bto HB.out HB2.out) HB3.out
            have b2 : Below W.heap.size W w4 := (bto b1 HBA.out).trans HB4.out
            have b3 : Below W.heap.size W w5 := (bto b2 HBA4.out).trans HB5.out
            exact ⟨i + 1, A5, c5, _, A4, c4, _, by omega, by go_num, rfl, rfl, HMK5.out, by rw [slL_snoc, HWA.out, srtd_snoc HS.out], by rw [slL_snoc, HIN.out, srtd_snoc HS.out], b3⟩
          case measure => simp [intOf]; omega
        · obtain rfl : i = n := by omega
          obtain ⟨wa, rfl⟩ : ∃ wa, wa = wr := ⟨_, rfl⟩
          have hlen0 : INs.length = i := HMK.out.ri.len.symm
          obtain ⟨sI0, hsI0⟩ : ∃ s, INs[0]? = some s := ⟨_, List.getElem?_eq_getElem (by omega)⟩
          obtain ⟨gi, oi, hAi, hgi, -⟩ := HMK.out.ri.cell 0 _ hsI0
          have hlw : ∃ j s, WAs[j]? = some s ∧ j = 0 := ⟨0, _, List.getElem?_eq_getElem (by have := HMK.out.rw.len; omega), rfl⟩
          obtain ⟨j0, sW0, hsW0, -⟩ := hlw
          obtain ⟨gw, ow, hAw, hgw, -⟩ := HMK.out.rw.cell j0 _ hsW0
          subst hAi; subst hAw
          have hfl : (slL INs).flatten.length ≤ 900 := by rw [HIN.out, srtd_len Ss i hn.out]; have := HFE.out.all; omega
          have HALL : Hid (Calls Try.prog 11 #[.slice (some ⟨gi, oi, none⟩) i ci] wa (AllOk wa (slL INs))) := Lib.hid ((all_any gi oi i ci INs (Lib.hid hlen0.symm) (by omega) hn16 HMK.out.ri.caps.1 HMK.out.ri.caps.2 (Lib.hid hfl) wa (Lib.hid (HMK.out.ri.runs HMK.out.oi))).mono fun e w' h => by
            unfold AllEnds at h
            rw [HIN.out, if_pos (srtd_ord Ss i), ← HIN.out] at h
            exact h)
          have hgi2 : gi < wa.heap.size := hgi
          have HGI := Lib.hid hgi; have HGW := Lib.hid hgw
          have hwiw : slL WAs = slL INs := HWA.out.trans HIN.out.symm
          have HWI := Lib.hid hwiw
          have HLI := Lib.hid hlen0
          have HLW : Hid (WAs.length = i) := Lib.hid HMK.out.rw.len.symm
          clear hsI0 hsW0 hgi hgw hgi2 hfl hwiw hlen0 sI0 sW0 j0
          go_wp2_with (go_at_call 11; (with_reducible refine (HALL.out).mono ?_); rintro e w2 ⟨A, N, cap, rfl, hN, ho, hnilA, hNc, hcapm, hb⟩; have HM2 := Lib.hid hb; have HO := Lib.hid ho; have hN9 : N ≤ 900 := (by rw [hN]; have := HFE.out.all; have h2 := srtd_len Ss i hn.out; rw [← HIN.out] at h2; omega); clear hN ho hnilA hb)
          have HKL : Hid (KLm wa N A (.int .i64 0) w2) := Lib.hid ⟨0, Nat.zero_le _, rfl, HM2.out, fun h => own_rowM HO.out h⟩
          clear HALL HO
          go_wp2
          go_loopw [10] (fun v wr => KLm wa N A v wr) (fun v _ => N - (intOf v).toNat)
          case atStart => exact HKL.out
          case round =>
            obtain ⟨k, hk, rfl, hb, hrow⟩ := hrel
            have HB4 := Lib.hid hb
            have HROW := Lib.hid hrow
            clear hb hrow HKL
            by_cases hkn : k < N
            · obtain ⟨g2, hS, hg2, hr⟩ := HROW.out (by omega)
              subst hS
              obtain ⟨⟨v, hcv⟩, hfv⟩ := hr.cell (k * 5 + 3) (by omega)
              have hz : (k : Int) < (N : Int) := by omega
              have HR2 := Lib.hid (hr.set (i := k * 5 + 3) (v := .string { data := #[120] }))
              clear hr
              go_wp2
              go_roundw
              case rel => exact ⟨k + 1, by omega, by go_num, HB4.out.setCell hg2 _, fun _ => ⟨g2, rfl, hg2, HR2.out⟩⟩
              case measure => simp [intOf]; omega
            · have hz : ¬ ((k : Int) < (N : Int)) := by omega
              have HK3 : Hid (K3m wa i (.int .i64 0) wr) := Lib.hid ⟨0, Nat.zero_le _, rfl, HB4.out⟩
              go_wp2
              go_loopw [11] (fun v wr => K3m wa i v wr) (fun v _ => i - (intOf v).toNat)
              case atStart => exact HK3.out
              case round =>
                obtain ⟨j, hj, rfl, hb⟩ := hrel
                have HB5 := Lib.hid hb
                clear hb HK3
                by_cases hji : j < i
                · obtain ⟨sI, hsI⟩ : ∃ s, INs[j]? = some s := ⟨_, List.getElem?_eq_getElem (by have := HLI.out; omega)⟩
                  obtain ⟨sW, hsW⟩ : ∃ s, WAs[j]? = some s := ⟨_, List.getElem?_eq_getElem (by have := HLW.out; omega)⟩
                  have hsl : sW.l = sI.l := by
                    have h1 : (slL WAs)[j]? = some sW.l := by unfold slL; rw [List.getElem?_map, hsW]; rfl
                    have h2 : (slL INs)[j]? = some sI.l := by unfold slL; rw [List.getElem?_map, hsI]; rfl
                    rw [HWI.out, h2] at h1
                    injection h1 with h1; exact h1.symm
                  have hsrt : ∃ s, Ss[j]? = some s ∧ sI.l = isort ltM s.l := by
                    refine ⟨_, List.getElem?_eq_getElem (by have := hn.out; omega), ?_⟩
                    have h2 : (slL INs)[j]? = some sI.l := by unfold slL; rw [List.getElem?_map, hsI]; rfl
                    rw [HIN.out] at h2
                    unfold srtd at h2
                    rw [List.getElem?_map, List.getElem?_take, if_pos hji, List.getElem?_eq_getElem (by have := hn.out; omega)] at h2
                    injection h2 with h2; exact h2.symm
                  obtain ⟨s0, hs0, hs1⟩ := hsrt
                  have HVAL : Hid (∀ x ∈ sI.l, x.val < 18446744073709551616) := Lib.hid fun x hx => hv.out s0 (List.mem_of_getElem? hs0) x (isortM_mem _ _ (by rw [← hs1]; exact hx))
                  obtain ⟨S1, s1c, sl⟩ := sI
                  obtain ⟨S2, s2c, sl2⟩ := sW
                  obtain rfl : sl2 = sl := hsl
                  obtain ⟨m, hm⟩ : ∃ m, m = sl2.length := ⟨_, rfl⟩
                  have HML := Lib.hid hm
                  have hmk5 := HMK.out.below HB5.out
                  have HM1 : Hid (m ≤ 1000) := Lib.hid (by rw [hm]; exact (hmk5.oi _ (List.mem_of_getElem? hsI)).small)
                  have HE1 : Hid (EvAt wr S1 sl2) := Lib.hid (hmk5.oi _ (List.mem_of_getElem? hsI)).own.at'
                  have HE2 : Hid (EvAt wr S2 sl2) := Lib.hid (hmk5.ow _ (List.mem_of_getElem? hsW)).own.at'
                  have HCI : Hid (wr.cell? ⟨gi, oi + j, none⟩ = some (.slice S1 m s1c)) := Lib.hid (by
                    obtain ⟨g9, o9, e9, -, hc9⟩ := hmk5.ri.cell j _ hsI
                    injection e9 with e9; injection e9 with x1 x2; subst x1; subst x2
                    rw [hc9, hm]; rfl)
                  have HCW : Hid (wr.cell? ⟨gw, ow + j, none⟩ = some (.slice S2 m s2c)) := Lib.hid (by
                    obtain ⟨g9, o9, e9, -, hc9⟩ := hmk5.rw.cell j _ hsW
                    injection e9 with e9; injection e9 with x1 x2; subst x1; subst x2
                    rw [hc9, hm]; rfl)
                  have HGI5 : Hid (gi < wr.heap.size) := Lib.hid (Nat.lt_of_lt_of_le HGI.out HB5.out.size)
                  have HGW5 : Hid (gw < wr.heap.size) := Lib.hid (Nat.lt_of_lt_of_le HGW.out HB5.out.size)
                  have hji2 : (j : Int) < (i : Int) := by omega
                  clear hm hmk5 hs0 hs1 hsI hsW
                  go_upto_region 21 with fail
                  have hh0 : Below wr.heap.size wr wr.drew := (Below.refl _ _).drew
                  refine wp_region_held_drew (S := fun w2 => Below wr.heap.size wr w2) (by kernel_rfl) hh0 (fun hHeld => ?_)
                  refine wpAnyH_take (i := 0) (v := .slice (some ⟨gi, oi, none⟩) i ci) rfl (by kernel_rfl) (by kernel_rfl) (by kernel_rfl) (fun _ _ _ h => h) (Or.inl ⟨by rfl, fun _ _ => rfl⟩) hHeld ?_
                  try dsimp only
                  try simp only [Act.put, List.getElem_toArray, List.getElem_cons_zero, List.getElem_cons_succ, List.setIfInBounds_toArray, List.set_cons_zero, List.set_cons_succ]
                  refine wpAnyH_take (i := 1) (v := .int .i64 (j : Int)) rfl (by kernel_rfl) (by kernel_rfl) (by kernel_rfl) (fun _ _ _ h => h) (Or.inl ⟨by rfl, fun _ _ => rfl⟩) hHeld ?_
                  try dsimp only
                  try simp only [Act.put, List.getElem_toArray, List.getElem_cons_zero, List.getElem_cons_succ, List.setIfInBounds_toArray, List.set_cons_zero, List.set_cons_succ]
                  refine wpAnyH_take (i := 2) (v := .pointer (some ⟨gi, oi + j, none⟩)) rfl (by kernel_rfl) (by kernel_rfl) (by kernel_rfl) (fun _ _ _ h => h) (Or.inl ⟨by rfl, fun w _ => by go_simp⟩) hHeld ?_
                  try dsimp only
                  try simp only [Act.put, List.getElem_toArray, List.getElem_cons_zero, List.getElem_cons_succ, List.setIfInBounds_toArray, List.set_cons_zero, List.set_cons_succ]
                  refine wpAnyH_take (i := 3) (v := .slice S1 m s1c) rfl (by kernel_rfl) (by kernel_rfl) (by kernel_rfl) (fun _ _ _ h => h) (Or.inl ⟨by rfl, fun w hw => by have hc : w.cell? ⟨gi, oi + j, none⟩ = some (.slice S1 m s1c) := (hw.cell (p := ⟨gi, oi + j, none⟩) HGI5.out).trans HCI.out; go_simp⟩) hHeld ?_
                  try dsimp only
                  try simp only [Act.put, List.getElem_toArray, List.getElem_cons_zero, List.getElem_cons_succ, List.setIfInBounds_toArray, List.set_cons_zero, List.set_cons_succ]
                  refine wpAnyH_take (i := 4) (v := .slice (some ⟨gw, ow, none⟩) i cw) rfl (by kernel_rfl) (by kernel_rfl) (by kernel_rfl) (fun _ _ _ h => h) (Or.inl ⟨by rfl, fun _ _ => rfl⟩) hHeld ?_
                  try dsimp only
                  try simp only [Act.put, List.getElem_toArray, List.getElem_cons_zero, List.getElem_cons_succ, List.setIfInBounds_toArray, List.set_cons_zero, List.set_cons_succ]
                  refine wpAnyH_take (i := 5) (v := .int .i64 (j : Int)) rfl (by kernel_rfl) (by kernel_rfl) (by kernel_rfl) (fun _ _ _ h => h) (Or.inl ⟨by rfl, fun _ _ => rfl⟩) hHeld ?_
                  try dsimp only
                  try simp only [Act.put, List.getElem_toArray, List.getElem_cons_zero, List.getElem_cons_succ, List.setIfInBounds_toArray, List.set_cons_zero, List.set_cons_succ]
                  refine wpAnyH_take (i := 6) (v := .pointer (some ⟨gw, ow + j, none⟩)) rfl (by kernel_rfl) (by kernel_rfl) (by kernel_rfl) (fun _ _ _ h => h) (Or.inl ⟨by rfl, fun w _ => by go_simp⟩) hHeld ?_
                  try dsimp only
                  try simp only [Act.put, List.getElem_toArray, List.getElem_cons_zero, List.getElem_cons_succ, List.setIfInBounds_toArray, List.set_cons_zero, List.set_cons_succ]
                  refine wpAnyH_take (i := 7) (v := .slice S2 m s2c) rfl (by kernel_rfl) (by kernel_rfl) (by kernel_rfl) (fun _ _ _ h => h) (Or.inl ⟨by rfl, fun w hw => by have hc : w.cell? ⟨gw, ow + j, none⟩ = some (.slice S2 m s2c) := (hw.cell (p := ⟨gw, ow + j, none⟩) HGW5.out).trans HCW.out; go_simp⟩) hHeld ?_
                  try dsimp only
                  try simp only [Act.put, List.getElem_toArray, List.getElem_cons_zero, List.getElem_cons_succ, List.setIfInBounds_toArray, List.set_cons_zero, List.set_cons_succ]
                  refine wpAnyH_ready (rs := [8]) (by kernel_rfl) (by simp) (AllReadyH.cons rfl (fun K hK => ?_) AllReadyH.nil)
                  go_simp
                  refine (sameAllM_any S1 S2 m s1c s2c sl2 HML.out HM1.out HVAL.out _ (Lib.hid (HE1.out.keep hHeld)) (Lib.hid (HE2.out.keep hHeld))).mono ?_
                  rintro e w9 ⟨rfl, hb9⟩
                  refine hK.out _ _ (bto hHeld hb9) (fun hHeld => ?_)
                  clear hK K
                  try dsimp only
                  try simp only [Act.put, List.getElem_toArray, List.getElem_cons_zero, List.getElem_cons_succ, List.setIfInBounds_toArray, List.set_cons_zero, List.set_cons_succ]
                  refine wpAnyH_ready (rs := [9]) (by kernel_rfl) (by simp) (AllReadyH.cons rfl (fun K hK => ?_) AllReadyH.nil)
                  go_simp
                  refine hK.out _ _ hHeld (fun hHeld => ?_)
                  clear hK K
                  refine wpAnyH_done (by kernel_rfl) ?_ _
                  have HB9 := Lib.hid (bto HB5.out hHeld)
                  clear hHeld hh0
                  go_wp2
                  go_roundw
                  case rel => exact ⟨j + 1, by omega, by go_num, HB9.out⟩
                  case measure => simp [intOf]; omega
                · have hji2 : ¬ (j : Int) < (i : Int) := by omega
                  have HBW := Lib.hid (HB.out.trans (HB5.out.mono HB.out.size))
                  have HNX := Lib.hid (next_nil wr)
                  go_wp2_with (first
                    | (go_at_call 13; (with_reducible refine (HNX.out).mono ?_); rintro e w3 ⟨rfl, hb3⟩; unfold zEv; have HB3 := Lib.hid (bto HBW.out hb3); clear hb3)
                    | (refine wpList_store_row rfl 38 (.tmp 13) (.tmp 90) rfl w3.heap.size #[.int .u64 0, .int .i64 0, .int .i64 0, .string { data := #[] }, .float .f64 0] rfl rfl _ _ (heap_alloc_newM _ _) iZero rfl oneZ ?_; rw [World.setRow_alloc_new]))
                  go_ret
                  exact ⟨rfl, HB3.out.alloc HB3.out.size _⟩
  · have hrg : n < 1 ∨ 16 < n := by omega
    clear hrange
    go_enter Try.func6, Try.ntmps6
    go_wp2_with (go_at_call 7; refine (mawake_any _).mono ?_; rintro e w1 ⟨rfl, hb⟩; have HB1 := Lib.hid hb; clear hb)
    refine (HFEW.out _ HB1.out).mono ?_
    rintro e w2 ⟨b, rfl, hf, rfl⟩
    clear hf
    cases b
    · go_wp2_with (go_at_call 7; refine (mawake_any _).mono ?_; rintro e w3 ⟨rfl, hb⟩; have HB3 := Lib.hid (bto HB1.out hb); clear hb)
      go_ret
      exact ⟨rfl, HB3.out⟩
    · rcases hrg with h | h
      · have h1i : (n : Int) < 1 := by omega
        go_wp2_with (go_at_call 7; refine (mawake_any _).mono ?_; rintro e w3 ⟨rfl, hb⟩; have HB3 := Lib.hid (bto HB1.out hb); clear hb)
        go_ret
        exact ⟨rfl, HB3.out⟩
      · have h1i : ¬ (n : Int) < 1 := by omega
        have h16i : (16 : Int) < (n : Int) := by omega
        go_wp2_with (go_at_call 7; refine (mawake_any _).mono ?_; rintro e w3 ⟨rfl, hb⟩; have HB3 := Lib.hid (bto HB1.out hb); clear hb)
        go_ret
        exact ⟨rfl, HB3.out⟩
end Go.Proofs.Ytoeknpaogeelmaa
