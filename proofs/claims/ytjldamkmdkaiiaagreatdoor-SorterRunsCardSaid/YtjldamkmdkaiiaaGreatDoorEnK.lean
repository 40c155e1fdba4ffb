/-
  Layer event: symMerge of many events and many.
-/
import Derived.Test.YtjldamkmdkaiiaaGreatDoorEmK
import Derived.Test.YtjldamkmdkaiiaaGreatDoorTkK
set_option linter.unusedSimpArgs false
set_option linter.unusedVariables false
namespace Go.Proofs.YtjldamkmdkaiiaaGreatDoor
open Go.RowKit Go.Sort
theorem part_facts {l : List Ev} {a m b md s en p : Nat} (h1 : a ≤ s) (h2 : s ≤ m) (hb : b ≤ l.length) (hen : en = md + m - s) (hp : p + 1 = md + m) (h3 : m ≤ en) (h4 : en ≤ b) (hmd : s ≤ md)
    (hA : Ordered (ltOf evCmp) (seg l a m)) (hC : Ordered (ltOf evCmp) (seg l m b)) (hlo : a < s → en < b → ltOf evCmp l[p - (s - 1)]! l[s - 1]! = false) (hhi : s < m → m < en → ltOf evCmp l[p - s]! l[s]! = true) :
    (∀ i k, a ≤ i → i < s → en ≤ k → k < b → ltOf evCmp l[k]! l[i]! = false) ∧ (∀ i k, s ≤ i → i < m → m ≤ k → k < en → ltOf evCmp l[k]! l[i]! = true) := by
  constructor
  · intro i k i1 i2 k1 k2
    have e := hlo (by omega) (by omega)
    rw [show p - (s - 1) = en by omega] at e
    have e1 : ltOf evCmp l[en]! l[i]! = false := by
      rcases Nat.lt_or_ge i (s - 1) with h | h
      · exact wkE.nt _ _ _ e (ordered_seg hA (by omega) i (s - 1) i1 h (by omega))
      · obtain rfl : i = s - 1 := by omega
        exact e
    rcases Nat.lt_or_ge en k with h | h
    · exact wkE.nt _ _ _ (ordered_seg hC hb en k h3 h k2) e1
    · obtain rfl : k = en := by omega
      exact e1
  · intro i k i1 i2 k1 k2
    have e := hhi (by omega) (by omega)
    rw [show p - s = en - 1 by omega] at e
    have e1 : ltOf evCmp l[en - 1]! l[i]! = true := by
      rcases Nat.lt_or_ge s i with h | h
      · exact wkE.mix e (ordered_seg hA (by omega) s i h1 h i2)
      · obtain rfl : i = s := by omega
        exact e
    rcases Nat.lt_or_ge k (en - 1) with h | h
    · exact wkE.mix2 (ordered_seg hC hb k (en - 1) k1 h (by omega)) e1
    · obtain rfl : k = en - 1 := by omega
      exact e1
def RG (w0 : World) (blk : Nat) (l : List Ev) (p lo hi : Nat) (u v : Value) (wr : World) : Prop := RB w0 blk l (fun c => ltOf evCmp l[p - c]! l[c]! = false) (fun c => ltOf evCmp l[p - c]! l[c]! = true) lo hi u v wr
set_option maxRecDepth 100000 in
set_option maxHeartbeats 16000000 in
theorem sym_step (blk cap a m b N : Nat) (l : List Ev) (w0 w : World) (HR : Hid (RowE w0 blk N)) (hLN0 : l.length = N) (HS0 : Hid (SWE w0 blk l w)) (ham : a + 1 < m) (hmb : m + 1 < b) (hb : b ≤ N) (hsz : N ≤ 1000000)
    (hoA : Hid (Ordered (ltOf evCmp) (seg l a m))) (hoC : Hid (Ordered (ltOf evCmp) (seg l m b)))
    (IH : Hid (∀ (a' m' b' : Nat) (l' : List Ev) (w' : World), b' - a' < b - a → a' < m' → m' < b' → b' ≤ N → l'.length = N → Ordered (ltOf evCmp) (seg l' a' m') → Ordered (ltOf evCmp) (seg l' m' b') → Hid (SWE w0 blk l' w') → SymGives w0 blk cap N a' m' b' l' w')) :
    SymGives w0 blk cap N a m b l w := by
  unfold SymGives
  have HLN := Lib.hid hLN0
  clear hLN0
  have hq0 : ((m : Int) - (a : Int) == 1) = false := by simp; omega
  have hq1 : ((b : Int) - (m : Int) == 1) = false := by simp; omega
  obtain ⟨md, hmd, hmd1, hmd2⟩ : ∃ md : Nat, ((a : Int) + (b : Int)) / 2 = (md : Int) ∧ a + b ≤ 2 * md + 1 ∧ 2 * md ≤ a + b := ⟨(a + b) / 2, by omega, by omega, by omega⟩
  obtain ⟨p, hp, hp1⟩ : ∃ p : Nat, (md : Int) + (m : Int) - 1 = (p : Int) ∧ p + 1 = md + m := ⟨md + m - 1, by omega, by omega⟩
  have hcase : (md < m ∧ ∃ lo hi : Nat, (md : Int) + (m : Int) - (b : Int) = (lo : Int) ∧ hi = md ∧ lo + b = md + m) ∨ (m ≤ md) := by
    rcases Nat.lt_or_ge md m with h | h
    · exact .inl ⟨h, md + m - b, md, by omega, rfl, by omega⟩
    · exact .inr h
  have HBD : ∃ lo hi : Nat, Hid ((md < m → lo + b = md + m ∧ hi = md) ∧ (m ≤ md → lo = a ∧ hi = m)) := by
    rcases Nat.lt_or_ge md m with h | h
    · exact ⟨md + m - b, md, Lib.hid ⟨fun _ => ⟨by omega, rfl⟩, fun h2 => by omega⟩⟩
    · exact ⟨a, m, Lib.hid ⟨fun h2 => by omega, fun _ => ⟨rfl, rfl⟩⟩⟩
  obtain ⟨lo, hi, HBD⟩ := HBD
  clear hcase
  have MAIN : ∀ (s : Nat), lo ≤ s → s ≤ hi → (∀ c, lo ≤ c → c < s → ltOf evCmp l[p - c]! l[c]! = false) → (∀ c, s ≤ c → c < hi → ltOf evCmp l[p - c]! l[c]! = true) →
      ∃ en : Nat, (md : Int) + (m : Int) - (s : Int) = (en : Int) ∧ a ≤ s ∧ s ≤ m ∧ m ≤ en ∧ en ≤ b ∧ s ≤ md ∧ s + (en - m) = md ∧
        Hid (seg (rotd l s m en) a s = seg l a s ∧ seg (rotd l s m en) s md = seg l m en ∧ seg (mrg (ltOf evCmp) (rotd l s m en) a s md) md en = seg l s m ∧ seg (mrg (ltOf evCmp) (rotd l s m en) a s md) en b = seg l en b ∧
          (mrg (ltOf evCmp) (rotd l s m en) a s md).length = l.length ∧ mrg (ltOf evCmp) (mrg (ltOf evCmp) (rotd l s m en) a s md) md en b = mrg (ltOf evCmp) l a m b) := fun s s1 s2 P1 P2 => by
    have hb' : b ≤ l.length := by rw [HLN.out]; exact hb
    have hb1 := HBD.out
    have hs : a ≤ s ∧ s ≤ m ∧ s ≤ md ∧ md + m ≤ s + b ∧ s ≤ md := by
      rcases Nat.lt_or_ge md m with h | h
      · obtain ⟨e1, e2⟩ := hb1.1 h; omega
      · obtain ⟨e1, e2⟩ := hb1.2 h; omega
    obtain ⟨g1, g2, g3, g4, -⟩ := hs
    refine ⟨md + m - s, by omega, g1, g2, by omega, by omega, g3, by omega, Lib.hid ?_⟩
    obtain ⟨c1, c2⟩ := part_facts (l := l) (a := a) (m := m) (b := b) (md := md) (s := s) (en := md + m - s) (p := p) g1 g2 hb' rfl hp1 (by omega) (by omega) g3 hoA.out hoC.out
      (fun q1 q2 => P1 (s - 1) (by rcases Nat.lt_or_ge md m with h | h
                                   · obtain ⟨e1, e2⟩ := hb1.1 h; omega
                                   · obtain ⟨e1, e2⟩ := hb1.2 h; omega) (by omega))
      (fun q1 q2 => P2 s (Nat.le_refl _) (by rcases Nat.lt_or_ge md m with h | h
                                             · obtain ⟨e1, e2⟩ := hb1.1 h; omega
                                             · obtain ⟨e1, e2⟩ := hb1.2 h; omega))
    exact sym_gen l a s m (md + m - s) b md g1 g2 (by omega) (by omega) hb' (by omega) hoC.out c1 c2
  have HMAIN := Lib.hid MAIN
  clear MAIN
  have MONO : ∀ c c', lo ≤ c → c < c' → c' < hi → m ≤ p - c' ∧ p - c < b ∧ c' ≤ p ∧ a ≤ c ∧ c' < m := fun c c' q1 q2 q3 => by
    have hb1 := HBD.out
    rcases Nat.lt_or_ge md m with h | h
    · obtain ⟨e1, e2⟩ := hb1.1 h; omega
    · obtain ⟨e1, e2⟩ := hb1.2 h; omega
  have HMONO := Lib.hid MONO
  clear MONO
  have ONE : ∀ c, lo ≤ c → c < hi → c ≤ p ∧ p - c < N ∧ c < N ∧ lo ≤ hi := fun c q1 q2 => by
    have hb1 := HBD.out
    rcases Nat.lt_or_ge md m with h | h
    · obtain ⟨e1, e2⟩ := hb1.1 h; omega
    · obtain ⟨e1, e2⟩ := hb1.2 h; omega
  have HONE := Lib.hid ONE
  clear ONE
  have HLH : Hid (lo ≤ hi) := Lib.hid (by
    have hb1 := HBD.out
    rcases Nat.lt_or_ge md m with h | h
    · obtain ⟨e1, e2⟩ := hb1.1 h; omega
    · obtain ⟨e1, e2⟩ := hb1.2 h; omega)
  rcases Nat.lt_or_ge md m with hmm | hmm
  · obtain ⟨e1, e2⟩ := HBD.out.1 hmm
    have hst : (md : Int) + (m : Int) - (b : Int) = (lo : Int) := by omega
    have hgt : (md : Int) < (m : Int) := by omega
    have e2' := e2.symm
    subst e2'
    clear HBD e1
    go_enter Tryz.func105, Tryz.ntmps105
    go_wp2
    go_loopw [20, 21] (fun u v wr => RG w0 blk l p lo md u v wr) (fun u v _ => (intOf v - intOf u).toNat)
    case atStart => exact ⟨lo, md, rfl, rfl, Nat.le_refl _, HLH.out, Nat.le_refl _, fun k h1 h2 => by omega, fun k h1 h2 => by omega, HS0.out⟩
    case round =>
      obtain ⟨i, j, rfl, rfl, hi1, hij, hjb, HI, HJ, hst2⟩ := hrel
      have HS := Lib.hid hst2
      clear hst2 HS0 hq0 hq1 hmd hp hgt hst
      by_cases hlt : i < j
      · have hLN := HLN.out
        obtain ⟨h, hh, hh1, hh2⟩ : ∃ h : Nat, ((i : Int) + (j : Int)) / 2 = (h : Int) ∧ i ≤ h ∧ h < j := ⟨(i + j) / 2, by omega, by omega, by omega⟩
        obtain ⟨o1, o2, o3, o4⟩ := HONE.out h (by omega) (by omega)
        obtain ⟨q, hq, hq2⟩ : ∃ q : Nat, (p : Int) - (h : Int) = (q : Int) ∧ q = p - h := ⟨p - h, by omega, rfl⟩
        have HQ2 := Lib.hid hq2
        have hqN : q < N := by omega
        clear hq2
        obtain ⟨xh, hxh⟩ : ∃ x, l[h]! = x := ⟨_, rfl⟩
        obtain ⟨xq, hxq⟩ : ∃ x, l[q]! = x := ⟨_, rfl⟩
        obtain ⟨r, hr⟩ : ∃ r, evCmp xq xh = r := ⟨_, rfl⟩
        have HXH := Lib.hid hxh; have HXQ := Lib.hid hxq; have HRR := Lib.hid hr
        clear hxh hxq hr
        have hhz : (h : Int) < (N : Int) := by omega
        have hqz : (q : Int) < (N : Int) := by omega
        have hwq : IntKind.i64.wrap ((p : Int) - (h : Int)) = (q : Int) := by rw [hq]; exact IntWalk.i64_in _ (by omega)
        have hwq2 : IntKind.i64.wrap (q : Int) = (q : Int) := IntWalk.i64_in _ (by omega)
        by_cases hneg : r < 0
        · have hdec : decide (r < 0) = true := decide_eq_true hneg
          go_upto_region 35 with fail
          refine wp_region_held_drew (S := SWE w0 blk l) (by kernel_rfl) HS.out.drew (fun hHeld => ?_)
          refine tkm 0 (.func (.func 71) #[] #[]) rfl hHeld ?_
          try simp only [qz]
          refine tkm 1 (.slice (some ⟨blk, 0, none⟩) N cap) rfl hHeld ?_
          try simp only [qz]
          refine tkm 2 (.int .i64 (p : Nat)) rfl hHeld ?_
          try simp only [qz]
          refine tkm 3 (.int .i64 (h : Nat)) rfl hHeld ?_
          try simp only [qz]
          refine tks 4 (.int .i64 (q : Nat)) rfl hHeld ?_
          try simp only [qz]
          refine tks 5 (.pointer (some ⟨blk, (q) * 5, none⟩)) rfl hHeld ?_
          try simp only [qz]
          refine tk 6 (.agg xq.cells.toArray) rfl (yieldsIf_load_mid rfl 51 (.tmp 163) rfl blk (q * 5) rfl xq.cells _ (fun w hw => by have h := swk_range hw HR hLN q (by omega); rw [HXQ.out] at h; exact h) uEvent rfl (iEvent xq)) hHeld ?_
          try simp only [qz]
          refine tkm 7 (.slice (some ⟨blk, 0, none⟩) N cap) rfl hHeld ?_
          try simp only [qz]
          refine tkm 8 (.int .i64 (h : Nat)) rfl hHeld ?_
          try simp only [qz]
          refine tks 9 (.pointer (some ⟨blk, (h) * 5, none⟩)) rfl hHeld ?_
          try simp only [qz]
          refine tk 10 (.agg xh.cells.toArray) rfl (yieldsIf_load_mid rfl 51 (.tmp 167) rfl blk (h * 5) rfl xh.cells _ (fun w hw => by have h := swk_range hw HR hLN h (by omega); rw [HXH.out] at h; exact h) uEvent rfl (iEvent xh)) hHeld ?_
          try simp only [qz]
          refine rd1 11 rfl (fun K hK => ?_)
          go_simp
          refine (cmpE xq xh _).mono ?_
          rintro e w2 ⟨rfl, q2, os2, rfl⟩
          rw [HRR.out]
          replace hHeld : SWE w0 blk l _ := hHeld.grown q2 os2
          generalize grow _ os2 = w2 at *
          have HS2 := Lib.hid hHeld
          refine hK.out _ _ hHeld (fun hHeld => ?_)
          clear hK K
          try simp only [qz]
          refine rd1 12 rfl (fun K hK => ?_)
          go_simp
          refine hK.out _ _ hHeld (fun hHeld => ?_)
          clear hK K
          try simp only [qz]
          refine rd1 13 rfl (fun K hK => ?_)
          go_simp
          refine hK.out _ _ hHeld (fun hHeld => ?_)
          clear hK K
          try simp only [qz]
          refine wpAnyH_done (by kernel_rfl) ?_ _
          go_wp2
          go_roundw
          case rel =>
            refine ⟨i, h, rfl, by go_num, hi1, by omega, by omega, HI, fun k h1 h2 => ?_, HS2.out⟩
            have e : ltOf evCmp l[p - h]! l[h]! = true := by rw [← HQ2.out, HXH.out, HXQ.out]; exact ltE_true HRR.out hneg
            rcases Nat.lt_or_ge h k with h3 | h3
            · obtain ⟨m1, m2, m3, m4, m5⟩ := HMONO.out h k (by omega) h3 h2
              exact wkE.mix (wkE.mix2 (ordered_seg hoC.out (by omega) (p - k) (p - h) m1 (by omega) m2) e) (ordered_seg hoA.out (by omega) h k m4 h3 m5)
            · obtain rfl : k = h := by omega
              exact e
          case measure => simp [intOf]; omega
        · have hdec : decide (r < 0) = false := decide_eq_false hneg
          go_upto_region 35 with fail
          refine wp_region_held_drew (S := SWE w0 blk l) (by kernel_rfl) HS.out.drew (fun hHeld => ?_)
          refine tkm 0 (.func (.func 71) #[] #[]) rfl hHeld ?_
          try simp only [qz]
          refine tkm 1 (.slice (some ⟨blk, 0, none⟩) N cap) rfl hHeld ?_
          try simp only [qz]
          refine tkm 2 (.int .i64 (p : Nat)) rfl hHeld ?_
          try simp only [qz]
          refine tkm 3 (.int .i64 (h : Nat)) rfl hHeld ?_
          try simp only [qz]
          refine tks 4 (.int .i64 (q : Nat)) rfl hHeld ?_
          try simp only [qz]
          refine tks 5 (.pointer (some ⟨blk, (q) * 5, none⟩)) rfl hHeld ?_
          try simp only [qz]
          refine tk 6 (.agg xq.cells.toArray) rfl (yieldsIf_load_mid rfl 51 (.tmp 163) rfl blk (q * 5) rfl xq.cells _ (fun w hw => by have h := swk_range hw HR hLN q (by omega); rw [HXQ.out] at h; exact h) uEvent rfl (iEvent xq)) hHeld ?_
          try simp only [qz]
          refine tkm 7 (.slice (some ⟨blk, 0, none⟩) N cap) rfl hHeld ?_
          try simp only [qz]
          refine tkm 8 (.int .i64 (h : Nat)) rfl hHeld ?_
          try simp only [qz]
          refine tks 9 (.pointer (some ⟨blk, (h) * 5, none⟩)) rfl hHeld ?_
          try simp only [qz]
          refine tk 10 (.agg xh.cells.toArray) rfl (yieldsIf_load_mid rfl 51 (.tmp 167) rfl blk (h * 5) rfl xh.cells _ (fun w hw => by have h := swk_range hw HR hLN h (by omega); rw [HXH.out] at h; exact h) uEvent rfl (iEvent xh)) hHeld ?_
          try simp only [qz]
          refine rd1 11 rfl (fun K hK => ?_)
          go_simp
          refine (cmpE xq xh _).mono ?_
          rintro e w2 ⟨rfl, q2, os2, rfl⟩
          rw [HRR.out]
          replace hHeld : SWE w0 blk l _ := hHeld.grown q2 os2
          generalize grow _ os2 = w2 at *
          have HS2 := Lib.hid hHeld
          refine hK.out _ _ hHeld (fun hHeld => ?_)
          clear hK K
          try simp only [qz]
          refine rd1 12 rfl (fun K hK => ?_)
          go_simp
          refine hK.out _ _ hHeld (fun hHeld => ?_)
          clear hK K
          try simp only [qz]
          refine rd1 13 rfl (fun K hK => ?_)
          go_simp
          refine hK.out _ _ hHeld (fun hHeld => ?_)
          clear hK K
          try simp only [qz]
          refine wpAnyH_done (by kernel_rfl) ?_ _
          go_wp2
          go_roundw
          case rel =>
            refine ⟨h + 1, j, by go_num, rfl, by omega, by omega, hjb, fun k h1 h2 => ?_, HJ, HS2.out⟩
            have e : ltOf evCmp l[p - h]! l[h]! = false := by rw [← HQ2.out, HXH.out, HXQ.out]; exact ltE_false HRR.out hneg
            rcases Nat.lt_or_ge k h with h3 | h3
            · obtain ⟨m1, m2, m3, m4, m5⟩ := HMONO.out k h h1 h3 (by omega)
              exact wkE.nt _ _ _ (ordered_seg hoC.out (by omega) (p - h) (p - k) m1 (by omega) m2) (wkE.nt _ _ _ e (ordered_seg hoA.out (by omega) k h m4 h3 m5))
            · obtain rfl : k = h := by omega
              exact e
          case measure => simp [intOf]; omega
      · obtain rfl : i = j := by omega
        obtain ⟨en, hen, g1, g2, g3, g4, g5, g6, HG⟩ := HMAIN.out i hi1 hjb HI.out HJ.out
        have hni : ¬ ((i : Int) < (i : Int)) := by omega
        have HROT := Lib.hid (rot_list l i m en g2 g3 (by rw [HLN.out]; omega))
        have HRL : Hid ((rotd l i m en).length = N) := Lib.hid (by rw [rotd_len l i m en g2 g3 (by rw [HLN.out]; omega)]; exact HLN.out)
        have HML : Hid ((mrg (ltOf evCmp) (rotd l i m en) a i md).length = N) := Lib.hid (by rw [HG.out.2.2.2.2.1]; exact HLN.out)
        have O1 : Hid (Ordered (ltOf evCmp) (seg (rotd l i m en) a i)) := Lib.hid (by rw [HG.out.1]; have h := hoA.out; rw [← seg_join l a i m g1 g2] at h; exact (List.pairwise_append.1 h).1)
        have O2 : Hid (Ordered (ltOf evCmp) (seg (rotd l i m en) i md)) := Lib.hid (by rw [HG.out.2.1]; have h := hoC.out; rw [← seg_join l m en b g3 g4] at h; exact (List.pairwise_append.1 h).1)
        have O3 : Hid (Ordered (ltOf evCmp) (seg (mrg (ltOf evCmp) (rotd l i m en) a i md) md en)) := Lib.hid (by rw [HG.out.2.2.1]; have h := hoA.out; rw [← seg_join l a i m g1 g2] at h; exact (List.pairwise_append.1 h).2.1)
        have O4 : Hid (Ordered (ltOf evCmp) (seg (mrg (ltOf evCmp) (rotd l i m en) a i md) en b)) := Lib.hid (by rw [HG.out.2.2.2.1]; have h := hoC.out; rw [← seg_join l m en b g3 g4] at h; exact (List.pairwise_append.1 h).2.1)
        have HFIN : Hid (mrg (ltOf evCmp) (mrg (ltOf evCmp) (rotd l i m en) a i md) md en b = mrg (ltOf evCmp) l a m b) := Lib.hid HG.out.2.2.2.2.2
        clear HI HJ HMAIN HMONO HONE HLH HG
        by_cases hbc : i < m ∧ m < en
        · obtain ⟨z5, z6⟩ := hbc
          go_upto_region 41 with (go_at_call 135; refine (rotate_any blk cap i m en N l (rotd l i m en) w0 _ HR HLN.out HS (by omega) (by omega) (by omega) hsz HROT).mono ?_; rintro e w5 ⟨rfl, hs5⟩; have HS5 := Lib.hid hs5; clear hs5)
          clear hni hen
          by_cases hab : a < i ∧ i < md
          · obtain ⟨z1, z2⟩ := hab
            go_upto_region 43 with (go_at_call 105; refine ((IH.out a i md (rotd l i m en) _ (by omega) (by omega) (by omega) (by omega) HRL.out O1.out O2.out HS5).at).mono ?_; rintro e w6 ⟨rfl, hs6⟩; have HS6 := Lib.hid hs6; clear hs6)
            by_cases hcd : md < en ∧ en < b
            · obtain ⟨z3, z4⟩ := hcd
              go_wp2_with (go_at_call 105; refine ((IH.out md en b (mrg (ltOf evCmp) (rotd l i m en) a i md) _ (by omega) (by omega) (by omega) (by omega) HML.out O3.out O4.out HS6).at).mono ?_; rintro e w7 ⟨rfl, hs7⟩; have HS7 := Lib.hid hs7; clear hs7)
              go_end0
              refine ⟨rfl, ?_⟩
              rw [← HFIN.out]; exact HS7.out
            · have HS7 : Hid (SWE w0 blk (mrg (ltOf evCmp) (mrg (ltOf evCmp) (rotd l i m en) a i md) md en b) w6) := Lib.hid (by rw [mrg_id _ md en b (by omega) g4 (by rw [HML.out]; exact hb) (by omega) O4.out]; exact HS6.out)
              rcases Nat.lt_or_ge md en with z3 | z3
              · have z4 : ¬ ((en : Int) < (b : Int)) := by omega
                go_wp2
                go_end0
                refine ⟨rfl, ?_⟩
                rw [← HFIN.out]; exact HS7.out
              · have z4 : ¬ ((md : Int) < (en : Int)) := by omega
                go_wp2
                go_end0
                refine ⟨rfl, ?_⟩
                rw [← HFIN.out]; exact HS7.out
          · have HS6 : Hid (SWE w0 blk (mrg (ltOf evCmp) (rotd l i m en) a i md) w5) := Lib.hid (by rw [mrg_id _ a i md g1 g5 (by rw [HRL.out]; omega) (by omega) O2.out]; exact HS5.out)
            obtain ⟨w6, hw6⟩ : ∃ w6, w6 = w5 := ⟨_, rfl⟩
            rw [← hw6] at HS6 ⊢
            clear hw6
            rcases Nat.lt_or_ge a i with z1 | z1
            · have z2 : ¬ ((i : Int) < (md : Int)) := by omega
              go_upto_region 43 with fail
              by_cases hcd : md < en ∧ en < b
              · obtain ⟨z3, z4⟩ := hcd
                go_wp2_with (go_at_call 105; refine ((IH.out md en b (mrg (ltOf evCmp) (rotd l i m en) a i md) _ (by omega) (by omega) (by omega) (by omega) HML.out O3.out O4.out HS6).at).mono ?_; rintro e w7 ⟨rfl, hs7⟩; have HS7 := Lib.hid hs7; clear hs7)
                go_end0
                refine ⟨rfl, ?_⟩
                rw [← HFIN.out]; exact HS7.out
              · have HS7 : Hid (SWE w0 blk (mrg (ltOf evCmp) (mrg (ltOf evCmp) (rotd l i m en) a i md) md en b) w6) := Lib.hid (by rw [mrg_id _ md en b (by omega) g4 (by rw [HML.out]; exact hb) (by omega) O4.out]; exact HS6.out)
                rcases Nat.lt_or_ge md en with z3 | z3
                · have z4 : ¬ ((en : Int) < (b : Int)) := by omega
                  go_wp2
                  go_end0
                  refine ⟨rfl, ?_⟩
                  rw [← HFIN.out]; exact HS7.out
                · have z4 : ¬ ((md : Int) < (en : Int)) := by omega
                  go_wp2
                  go_end0
                  refine ⟨rfl, ?_⟩
                  rw [← HFIN.out]; exact HS7.out
            · have z2 : ¬ ((a : Int) < (i : Int)) := by omega
              go_upto_region 43 with fail
              by_cases hcd : md < en ∧ en < b
              · obtain ⟨z3, z4⟩ := hcd
                go_wp2_with (go_at_call 105; refine ((IH.out md en b (mrg (ltOf evCmp) (rotd l i m en) a i md) _ (by omega) (by omega) (by omega) (by omega) HML.out O3.out O4.out HS6).at).mono ?_; rintro e w7 ⟨rfl, hs7⟩; have HS7 := Lib.hid hs7; clear hs7)
                go_end0
                refine ⟨rfl, ?_⟩
                rw [← HFIN.out]; exact HS7.out
              · have HS7 : Hid (SWE w0 blk (mrg (ltOf evCmp) (mrg (ltOf evCmp) (rotd l i m en) a i md) md en b) w6) := Lib.hid (by rw [mrg_id _ md en b (by omega) g4 (by rw [HML.out]; exact hb) (by omega) O4.out]; exact HS6.out)
                rcases Nat.lt_or_ge md en with z3 | z3
                · have z4 : ¬ ((en : Int) < (b : Int)) := by omega
                  go_wp2
                  go_end0
                  refine ⟨rfl, ?_⟩
                  rw [← HFIN.out]; exact HS7.out
                · have z4 : ¬ ((md : Int) < (en : Int)) := by omega
                  go_wp2
                  go_end0
                  refine ⟨rfl, ?_⟩
                  rw [← HFIN.out]; exact HS7.out
        · have HS5 : Hid (SWE w0 blk (rotd l i m en) wr) := Lib.hid (by rw [rotd_id l i m en g2 g3 (by omega)]; exact HS.out)
          obtain ⟨w5, hw5⟩ : ∃ w5, w5 = wr := ⟨_, rfl⟩
          rw [← hw5] at HS5 ⊢
          clear hw5
          rcases Nat.lt_or_ge i m with z5 | z5
          · have z6 : ¬ ((m : Int) < (en : Int)) := by omega
            go_upto_region 41 with fail
            clear hni hen
            by_cases hab : a < i ∧ i < md
            · obtain ⟨z1, z2⟩ := hab
              go_upto_region 43 with (go_at_call 105; refine ((IH.out a i md (rotd l i m en) _ (by omega) (by omega) (by omega) (by omega) HRL.out O1.out O2.out HS5).at).mono ?_; rintro e w6 ⟨rfl, hs6⟩; have HS6 := Lib.hid hs6; clear hs6)
              by_cases hcd : md < en ∧ en < b
              · obtain ⟨z3, z4⟩ := hcd
                go_wp2_with (go_at_call 105; refine ((IH.out md en b (mrg (ltOf evCmp) (rotd l i m en) a i md) _ (by omega) (by omega) (by omega) (by omega) HML.out O3.out O4.out HS6).at).mono ?_; rintro e w7 ⟨rfl, hs7⟩; have HS7 := Lib.hid hs7; clear hs7)
                go_end0
                refine ⟨rfl, ?_⟩
                rw [← HFIN.out]; exact HS7.out
              · have HS7 : Hid (SWE w0 blk (mrg (ltOf evCmp) (mrg (ltOf evCmp) (rotd l i m en) a i md) md en b) w6) := Lib.hid (by rw [mrg_id _ md en b (by omega) g4 (by rw [HML.out]; exact hb) (by omega) O4.out]; exact HS6.out)
                rcases Nat.lt_or_ge md en with z3 | z3
                · have z4 : ¬ ((en : Int) < (b : Int)) := by omega
                  go_wp2
                  go_end0
                  refine ⟨rfl, ?_⟩
                  rw [← HFIN.out]; exact HS7.out
                · have z4 : ¬ ((md : Int) < (en : Int)) := by omega
                  go_wp2
                  go_end0
                  refine ⟨rfl, ?_⟩
                  rw [← HFIN.out]; exact HS7.out
            · have HS6 : Hid (SWE w0 blk (mrg (ltOf evCmp) (rotd l i m en) a i md) w5) := Lib.hid (by rw [mrg_id _ a i md g1 g5 (by rw [HRL.out]; omega) (by omega) O2.out]; exact HS5.out)
              obtain ⟨w6, hw6⟩ : ∃ w6, w6 = w5 := ⟨_, rfl⟩
              rw [← hw6] at HS6 ⊢
              clear hw6
              rcases Nat.lt_or_ge a i with z1 | z1
              · have z2 : ¬ ((i : Int) < (md : Int)) := by omega
                go_upto_region 43 with fail
                by_cases hcd : md < en ∧ en < b
                · obtain ⟨z3, z4⟩ := hcd
                  go_wp2_with (go_at_call 105; refine ((IH.out md en b (mrg (ltOf evCmp) (rotd l i m en) a i md) _ (by omega) (by omega) (by omega) (by omega) HML.out O3.out O4.out HS6).at).mono ?_; rintro e w7 ⟨rfl, hs7⟩; have HS7 := Lib.hid hs7; clear hs7)
                  go_end0
                  refine ⟨rfl, ?_⟩
                  rw [← HFIN.out]; exact HS7.out
                · have HS7 : Hid (SWE w0 blk (mrg (ltOf evCmp) (mrg (ltOf evCmp) (rotd l i m en) a i md) md en b) w6) := Lib.hid (by rw [mrg_id _ md en b (by omega) g4 (by rw [HML.out]; exact hb) (by omega) O4.out]; exact HS6.out)
                  rcases Nat.lt_or_ge md en with z3 | z3
                  · have z4 : ¬ ((en : Int) < (b : Int)) := by omega
                    go_wp2
                    go_end0
                    refine ⟨rfl, ?_⟩
                    rw [← HFIN.out]; exact HS7.out
                  · have z4 : ¬ ((md : Int) < (en : Int)) := by omega
                    go_wp2
                    go_end0
                    refine ⟨rfl, ?_⟩
                    rw [← HFIN.out]; exact HS7.out
              · have z2 : ¬ ((a : Int) < (i : Int)) := by omega
                go_upto_region 43 with fail
                by_cases hcd : md < en ∧ en < b
                · obtain ⟨z3, z4⟩ := hcd
                  go_wp2_with (go_at_call 105; refine ((IH.out md en b (mrg (ltOf evCmp) (rotd l i m en) a i md) _ (by omega) (by omega) (by omega) (by omega) HML.out O3.out O4.out HS6).at).mono ?_; rintro e w7 ⟨rfl, hs7⟩; have HS7 := Lib.hid hs7; clear hs7)
                  go_end0
                  refine ⟨rfl, ?_⟩
                  rw [← HFIN.out]; exact HS7.out
                · have HS7 : Hid (SWE w0 blk (mrg (ltOf evCmp) (mrg (ltOf evCmp) (rotd l i m en) a i md) md en b) w6) := Lib.hid (by rw [mrg_id _ md en b (by omega) g4 (by rw [HML.out]; exact hb) (by omega) O4.out]; exact HS6.out)
                  rcases Nat.lt_or_ge md en with z3 | z3
                  · have z4 : ¬ ((en : Int) < (b : Int)) := by omega
                    go_wp2
                    go_end0
                    refine ⟨rfl, ?_⟩
                    rw [← HFIN.out]; exact HS7.out
                  · have z4 : ¬ ((md : Int) < (en : Int)) := by omega
                    go_wp2
                    go_end0
                    refine ⟨rfl, ?_⟩
                    rw [← HFIN.out]; exact HS7.out
          · have z6 : ¬ ((i : Int) < (m : Int)) := by omega
            go_upto_region 41 with fail
            clear hni hen
            by_cases hab : a < i ∧ i < md
            · obtain ⟨z1, z2⟩ := hab
              go_upto_region 43 with (go_at_call 105; refine ((IH.out a i md (rotd l i m en) _ (by omega) (by omega) (by omega) (by omega) HRL.out O1.out O2.out HS5).at).mono ?_; rintro e w6 ⟨rfl, hs6⟩; have HS6 := Lib.hid hs6; clear hs6)
              by_cases hcd : md < en ∧ en < b
              · obtain ⟨z3, z4⟩ := hcd
                go_wp2_with (go_at_call 105; refine ((IH.out md en b (mrg (ltOf evCmp) (rotd l i m en) a i md) _ (by omega) (by omega) (by omega) (by omega) HML.out O3.out O4.out HS6).at).mono ?_; rintro e w7 ⟨rfl, hs7⟩; have HS7 := Lib.hid hs7; clear hs7)
                go_end0
                refine ⟨rfl, ?_⟩
                rw [← HFIN.out]; exact HS7.out
              · have HS7 : Hid (SWE w0 blk (mrg (ltOf evCmp) (mrg (ltOf evCmp) (rotd l i m en) a i md) md en b) w6) := Lib.hid (by rw [mrg_id _ md en b (by omega) g4 (by rw [HML.out]; exact hb) (by omega) O4.out]; exact HS6.out)
                rcases Nat.lt_or_ge md en with z3 | z3
                · have z4 : ¬ ((en : Int) < (b : Int)) := by omega
                  go_wp2
                  go_end0
                  refine ⟨rfl, ?_⟩
                  rw [← HFIN.out]; exact HS7.out
                · have z4 : ¬ ((md : Int) < (en : Int)) := by omega
                  go_wp2
                  go_end0
                  refine ⟨rfl, ?_⟩
                  rw [← HFIN.out]; exact HS7.out
            · have HS6 : Hid (SWE w0 blk (mrg (ltOf evCmp) (rotd l i m en) a i md) w5) := Lib.hid (by rw [mrg_id _ a i md g1 g5 (by rw [HRL.out]; omega) (by omega) O2.out]; exact HS5.out)
              obtain ⟨w6, hw6⟩ : ∃ w6, w6 = w5 := ⟨_, rfl⟩
              rw [← hw6] at HS6 ⊢
              clear hw6
              rcases Nat.lt_or_ge a i with z1 | z1
              · have z2 : ¬ ((i : Int) < (md : Int)) := by omega
                go_upto_region 43 with fail
                by_cases hcd : md < en ∧ en < b
                · obtain ⟨z3, z4⟩ := hcd
                  go_wp2_with (go_at_call 105; refine ((IH.out md en b (mrg (ltOf evCmp) (rotd l i m en) a i md) _ (by omega) (by omega) (by omega) (by omega) HML.out O3.out O4.out HS6).at).mono ?_; rintro e w7 ⟨rfl, hs7⟩; have HS7 := Lib.hid hs7; clear hs7)
                  go_end0
                  refine ⟨rfl, ?_⟩
                  rw [← HFIN.out]; exact HS7.out
                · have HS7 : Hid (SWE w0 blk (mrg (ltOf evCmp) (mrg (ltOf evCmp) (rotd l i m en) a i md) md en b) w6) := Lib.hid (by rw [mrg_id _ md en b (by omega) g4 (by rw [HML.out]; exact hb) (by omega) O4.out]; exact HS6.out)
                  rcases Nat.lt_or_ge md en with z3 | z3
                  · have z4 : ¬ ((en : Int) < (b : Int)) := by omega
                    go_wp2
                    go_end0
                    refine ⟨rfl, ?_⟩
                    rw [← HFIN.out]; exact HS7.out
                  · have z4 : ¬ ((md : Int) < (en : Int)) := by omega
                    go_wp2
                    go_end0
                    refine ⟨rfl, ?_⟩
                    rw [← HFIN.out]; exact HS7.out
              · have z2 : ¬ ((a : Int) < (i : Int)) := by omega
                go_upto_region 43 with fail
                by_cases hcd : md < en ∧ en < b
                · obtain ⟨z3, z4⟩ := hcd
                  go_wp2_with (go_at_call 105; refine ((IH.out md en b (mrg (ltOf evCmp) (rotd l i m en) a i md) _ (by omega) (by omega) (by omega) (by omega) HML.out O3.out O4.out HS6).at).mono ?_; rintro e w7 ⟨rfl, hs7⟩; have HS7 := Lib.hid hs7; clear hs7)
                  go_end0
                  refine ⟨rfl, ?_⟩
                  rw [← HFIN.out]; exact HS7.out
                · have HS7 : Hid (SWE w0 blk (mrg (ltOf evCmp) (mrg (ltOf evCmp) (rotd l i m en) a i md) md en b) w6) := Lib.hid (by rw [mrg_id _ md en b (by omega) g4 (by rw [HML.out]; exact hb) (by omega) O4.out]; exact HS6.out)
                  rcases Nat.lt_or_ge md en with z3 | z3
                  · have z4 : ¬ ((en : Int) < (b : Int)) := by omega
                    go_wp2
                    go_end0
                    refine ⟨rfl, ?_⟩
                    rw [← HFIN.out]; exact HS7.out
                  · have z4 : ¬ ((md : Int) < (en : Int)) := by omega
                    go_wp2
                    go_end0
                    refine ⟨rfl, ?_⟩
                    rw [← HFIN.out]; exact HS7.out
  · obtain ⟨e1, e2⟩ := HBD.out.2 hmm
    have hgt : ¬ ((md : Int) < (m : Int)) := by omega
    have e1' := e1.symm
    have e2' := e2.symm
    subst e1'; subst e2'
    clear HBD
    go_enter Tryz.func105, Tryz.ntmps105
    go_wp2
    go_loopw [20, 21] (fun u v wr => RG w0 blk l p a m u v wr) (fun u v _ => (intOf v - intOf u).toNat)
    case atStart => exact ⟨a, m, rfl, rfl, Nat.le_refl _, HLH.out, Nat.le_refl _, fun k h1 h2 => by omega, fun k h1 h2 => by omega, HS0.out⟩
    case round =>
      obtain ⟨i, j, rfl, rfl, hi1, hij, hjb, HI, HJ, hst2⟩ := hrel
      have HS := Lib.hid hst2
      clear hst2 HS0 hq0 hq1 hmd hp hgt
      by_cases hlt : i < j
      · have hLN := HLN.out
        obtain ⟨h, hh, hh1, hh2⟩ : ∃ h : Nat, ((i : Int) + (j : Int)) / 2 = (h : Int) ∧ i ≤ h ∧ h < j := ⟨(i + j) / 2, by omega, by omega, by omega⟩
        obtain ⟨o1, o2, o3, o4⟩ := HONE.out h (by omega) (by omega)
        obtain ⟨q, hq, hq2⟩ : ∃ q : Nat, (p : Int) - (h : Int) = (q : Int) ∧ q = p - h := ⟨p - h, by omega, rfl⟩
        have HQ2 := Lib.hid hq2
        have hqN : q < N := by omega
        clear hq2
        obtain ⟨xh, hxh⟩ : ∃ x, l[h]! = x := ⟨_, rfl⟩
        obtain ⟨xq, hxq⟩ : ∃ x, l[q]! = x := ⟨_, rfl⟩
        obtain ⟨r, hr⟩ : ∃ r, evCmp xq xh = r := ⟨_, rfl⟩
        have HXH := Lib.hid hxh; have HXQ := Lib.hid hxq; have HRR := Lib.hid hr
        clear hxh hxq hr
        have hhz : (h : Int) < (N : Int) := by omega
        have hqz : (q : Int) < (N : Int) := by omega
        have hwq : IntKind.i64.wrap ((p : Int) - (h : Int)) = (q : Int) := by rw [hq]; exact IntWalk.i64_in _ (by omega)
        have hwq2 : IntKind.i64.wrap (q : Int) = (q : Int) := IntWalk.i64_in _ (by omega)
        by_cases hneg : r < 0
        · have hdec : decide (r < 0) = true := decide_eq_true hneg
          go_upto_region 35 with fail
          refine wp_region_held_drew (S := SWE w0 blk l) (by kernel_rfl) HS.out.drew (fun hHeld => ?_)
          refine tkm 0 (.func (.func 71) #[] #[]) rfl hHeld ?_
          try simp only [qz]
          refine tkm 1 (.slice (some ⟨blk, 0, none⟩) N cap) rfl hHeld ?_
          try simp only [qz]
          refine tkm 2 (.int .i64 (p : Nat)) rfl hHeld ?_
          try simp only [qz]
          refine tkm 3 (.int .i64 (h : Nat)) rfl hHeld ?_
          try simp only [qz]
          refine tks 4 (.int .i64 (q : Nat)) rfl hHeld ?_
          try simp only [qz]
          refine tks 5 (.pointer (some ⟨blk, (q) * 5, none⟩)) rfl hHeld ?_
          try simp only [qz]
          refine tk 6 (.agg xq.cells.toArray) rfl (yieldsIf_load_mid rfl 51 (.tmp 163) rfl blk (q * 5) rfl xq.cells _ (fun w hw => by have h := swk_range hw HR hLN q (by omega); rw [HXQ.out] at h; exact h) uEvent rfl (iEvent xq)) hHeld ?_
          try simp only [qz]
          refine tkm 7 (.slice (some ⟨blk, 0, none⟩) N cap) rfl hHeld ?_
          try simp only [qz]
          refine tkm 8 (.int .i64 (h : Nat)) rfl hHeld ?_
          try simp only [qz]
          refine tks 9 (.pointer (some ⟨blk, (h) * 5, none⟩)) rfl hHeld ?_
          try simp only [qz]
          refine tk 10 (.agg xh.cells.toArray) rfl (yieldsIf_load_mid rfl 51 (.tmp 167) rfl blk (h * 5) rfl xh.cells _ (fun w hw => by have h := swk_range hw HR hLN h (by omega); rw [HXH.out] at h; exact h) uEvent rfl (iEvent xh)) hHeld ?_
          try simp only [qz]
          refine rd1 11 rfl (fun K hK => ?_)
          go_simp
          refine (cmpE xq xh _).mono ?_
          rintro e w2 ⟨rfl, q2, os2, rfl⟩
          rw [HRR.out]
          replace hHeld : SWE w0 blk l _ := hHeld.grown q2 os2
          generalize grow _ os2 = w2 at *
          have HS2 := Lib.hid hHeld
          refine hK.out _ _ hHeld (fun hHeld => ?_)
          clear hK K
          try simp only [qz]
          refine rd1 12 rfl (fun K hK => ?_)
          go_simp
          refine hK.out _ _ hHeld (fun hHeld => ?_)
          clear hK K
          try simp only [qz]
          refine rd1 13 rfl (fun K hK => ?_)
          go_simp
          refine hK.out _ _ hHeld (fun hHeld => ?_)
          clear hK K
          try simp only [qz]
          refine wpAnyH_done (by kernel_rfl) ?_ _
          go_wp2
          go_roundw
          case rel =>
            refine ⟨i, h, rfl, by go_num, hi1, by omega, by omega, HI, fun k h1 h2 => ?_, HS2.out⟩
            have e : ltOf evCmp l[p - h]! l[h]! = true := by rw [← HQ2.out, HXH.out, HXQ.out]; exact ltE_true HRR.out hneg
            rcases Nat.lt_or_ge h k with h3 | h3
            · obtain ⟨m1, m2, m3, m4, m5⟩ := HMONO.out h k (by omega) h3 h2
              exact wkE.mix (wkE.mix2 (ordered_seg hoC.out (by omega) (p - k) (p - h) m1 (by omega) m2) e) (ordered_seg hoA.out (by omega) h k m4 h3 m5)
            · obtain rfl : k = h := by omega
              exact e
          case measure => simp [intOf]; omega
        · have hdec : decide (r < 0) = false := decide_eq_false hneg
          go_upto_region 35 with fail
          refine wp_region_held_drew (S := SWE w0 blk l) (by kernel_rfl) HS.out.drew (fun hHeld => ?_)
          refine tkm 0 (.func (.func 71) #[] #[]) rfl hHeld ?_
          try simp only [qz]
          refine tkm 1 (.slice (some ⟨blk, 0, none⟩) N cap) rfl hHeld ?_
          try simp only [qz]
          refine tkm 2 (.int .i64 (p : Nat)) rfl hHeld ?_
          try simp only [qz]
          refine tkm 3 (.int .i64 (h : Nat)) rfl hHeld ?_
          try simp only [qz]
          refine tks 4 (.int .i64 (q : Nat)) rfl hHeld ?_
          try simp only [qz]
          refine tks 5 (.pointer (some ⟨blk, (q) * 5, none⟩)) rfl hHeld ?_
          try simp only [qz]
          refine tk 6 (.agg xq.cells.toArray) rfl (yieldsIf_load_mid rfl 51 (.tmp 163) rfl blk (q * 5) rfl xq.cells _ (fun w hw => by have h := swk_range hw HR hLN q (by omega); rw [HXQ.out] at h; exact h) uEvent rfl (iEvent xq)) hHeld ?_
          try simp only [qz]
          refine tkm 7 (.slice (some ⟨blk, 0, none⟩) N cap) rfl hHeld ?_
          try simp only [qz]
          refine tkm 8 (.int .i64 (h : Nat)) rfl hHeld ?_
          try simp only [qz]
          refine tks 9 (.pointer (some ⟨blk, (h) * 5, none⟩)) rfl hHeld ?_
          try simp only [qz]
          refine tk 10 (.agg xh.cells.toArray) rfl (yieldsIf_load_mid rfl 51 (.tmp 167) rfl blk (h * 5) rfl xh.cells _ (fun w hw => by have h := swk_range hw HR hLN h (by omega); rw [HXH.out] at h; exact h) uEvent rfl (iEvent xh)) hHeld ?_
          try simp only [qz]
          refine rd1 11 rfl (fun K hK => ?_)
          go_simp
          refine (cmpE xq xh _).mono ?_
          rintro e w2 ⟨rfl, q2, os2, rfl⟩
          rw [HRR.out]
          replace hHeld : SWE w0 blk l _ := hHeld.grown q2 os2
          generalize grow _ os2 = w2 at *
          have HS2 := Lib.hid hHeld
          refine hK.out _ _ hHeld (fun hHeld => ?_)
          clear hK K
          try simp only [qz]
          refine rd1 12 rfl (fun K hK => ?_)
          go_simp
          refine hK.out _ _ hHeld (fun hHeld => ?_)
          clear hK K
          try simp only [qz]
          refine rd1 13 rfl (fun K hK => ?_)
          go_simp
          refine hK.out _ _ hHeld (fun hHeld => ?_)
          clear hK K
          try simp only [qz]
          refine wpAnyH_done (by kernel_rfl) ?_ _
          go_wp2
          go_roundw
          case rel =>
            refine ⟨h + 1, j, by go_num, rfl, by omega, by omega, hjb, fun k h1 h2 => ?_, HJ, HS2.out⟩
            have e : ltOf evCmp l[p - h]! l[h]! = false := by rw [← HQ2.out, HXH.out, HXQ.out]; exact ltE_false HRR.out hneg
            rcases Nat.lt_or_ge k h with h3 | h3
            · obtain ⟨m1, m2, m3, m4, m5⟩ := HMONO.out k h h1 h3 (by omega)
              exact wkE.nt _ _ _ (ordered_seg hoC.out (by omega) (p - h) (p - k) m1 (by omega) m2) (wkE.nt _ _ _ e (ordered_seg hoA.out (by omega) k h m4 h3 m5))
            · obtain rfl : k = h := by omega
              exact e
          case measure => simp [intOf]; omega
      · obtain rfl : i = j := by omega
        obtain ⟨en, hen, g1, g2, g3, g4, g5, g6, HG⟩ := HMAIN.out i hi1 hjb HI.out HJ.out
        have hni : ¬ ((i : Int) < (i : Int)) := by omega
        have HROT := Lib.hid (rot_list l i m en g2 g3 (by rw [HLN.out]; omega))
        have HRL : Hid ((rotd l i m en).length = N) := Lib.hid (by rw [rotd_len l i m en g2 g3 (by rw [HLN.out]; omega)]; exact HLN.out)
        have HML : Hid ((mrg (ltOf evCmp) (rotd l i m en) a i md).length = N) := Lib.hid (by rw [HG.out.2.2.2.2.1]; exact HLN.out)
        have O1 : Hid (Ordered (ltOf evCmp) (seg (rotd l i m en) a i)) := Lib.hid (by rw [HG.out.1]; have h := hoA.out; rw [← seg_join l a i m g1 g2] at h; exact (List.pairwise_append.1 h).1)
        have O2 : Hid (Ordered (ltOf evCmp) (seg (rotd l i m en) i md)) := Lib.hid (by rw [HG.out.2.1]; have h := hoC.out; rw [← seg_join l m en b g3 g4] at h; exact (List.pairwise_append.1 h).1)
        have O3 : Hid (Ordered (ltOf evCmp) (seg (mrg (ltOf evCmp) (rotd l i m en) a i md) md en)) := Lib.hid (by rw [HG.out.2.2.1]; have h := hoA.out; rw [← seg_join l a i m g1 g2] at h; exact (List.pairwise_append.1 h).2.1)
        have O4 : Hid (Ordered (ltOf evCmp) (seg (mrg (ltOf evCmp) (rotd l i m en) a i md) en b)) := Lib.hid (by rw [HG.out.2.2.2.1]; have h := hoC.out; rw [← seg_join l m en b g3 g4] at h; exact (List.pairwise_append.1 h).2.1)
        have HFIN : Hid (mrg (ltOf evCmp) (mrg (ltOf evCmp) (rotd l i m en) a i md) md en b = mrg (ltOf evCmp) l a m b) := Lib.hid HG.out.2.2.2.2.2
        clear HI HJ HMAIN HMONO HONE HLH HG
        by_cases hbc : i < m ∧ m < en
        · obtain ⟨z5, z6⟩ := hbc
          go_upto_region 41 with (go_at_call 135; refine (rotate_any blk cap i m en N l (rotd l i m en) w0 _ HR HLN.out HS (by omega) (by omega) (by omega) hsz HROT).mono ?_; rintro e w5 ⟨rfl, hs5⟩; have HS5 := Lib.hid hs5; clear hs5)
          clear hni hen
          by_cases hab : a < i ∧ i < md
          · obtain ⟨z1, z2⟩ := hab
            go_upto_region 43 with (go_at_call 105; refine ((IH.out a i md (rotd l i m en) _ (by omega) (by omega) (by omega) (by omega) HRL.out O1.out O2.out HS5).at).mono ?_; rintro e w6 ⟨rfl, hs6⟩; have HS6 := Lib.hid hs6; clear hs6)
            by_cases hcd : md < en ∧ en < b
            · obtain ⟨z3, z4⟩ := hcd
              go_wp2_with (go_at_call 105; refine ((IH.out md en b (mrg (ltOf evCmp) (rotd l i m en) a i md) _ (by omega) (by omega) (by omega) (by omega) HML.out O3.out O4.out HS6).at).mono ?_; rintro e w7 ⟨rfl, hs7⟩; have HS7 := Lib.hid hs7; clear hs7)
              go_end0
              refine ⟨rfl, ?_⟩
              rw [← HFIN.out]; exact HS7.out
            · have HS7 : Hid (SWE w0 blk (mrg (ltOf evCmp) (mrg (ltOf evCmp) (rotd l i m en) a i md) md en b) w6) := Lib.hid (by rw [mrg_id _ md en b (by omega) g4 (by rw [HML.out]; exact hb) (by omega) O4.out]; exact HS6.out)
              rcases Nat.lt_or_ge md en with z3 | z3
              · have z4 : ¬ ((en : Int) < (b : Int)) := by omega
                go_wp2
                go_end0
                refine ⟨rfl, ?_⟩
                rw [← HFIN.out]; exact HS7.out
              · have z4 : ¬ ((md : Int) < (en : Int)) := by omega
                go_wp2
                go_end0
                refine ⟨rfl, ?_⟩
                rw [← HFIN.out]; exact HS7.out
          · have HS6 : Hid (SWE w0 blk (mrg (ltOf evCmp) (rotd l i m en) a i md) w5) := Lib.hid (by rw [mrg_id _ a i md g1 g5 (by rw [HRL.out]; omega) (by omega) O2.out]; exact HS5.out)
            obtain ⟨w6, hw6⟩ : ∃ w6, w6 = w5 := ⟨_, rfl⟩
            rw [← hw6] at HS6 ⊢
            clear hw6
            rcases Nat.lt_or_ge a i with z1 | z1
            · have z2 : ¬ ((i : Int) < (md : Int)) := by omega
              go_upto_region 43 with fail
              by_cases hcd : md < en ∧ en < b
              · obtain ⟨z3, z4⟩ := hcd
                go_wp2_with (go_at_call 105; refine ((IH.out md en b (mrg (ltOf evCmp) (rotd l i m en) a i md) _ (by omega) (by omega) (by omega) (by omega) HML.out O3.out O4.out HS6).at).mono ?_; rintro e w7 ⟨rfl, hs7⟩; have HS7 := Lib.hid hs7; clear hs7)
                go_end0
                refine ⟨rfl, ?_⟩
                rw [← HFIN.out]; exact HS7.out
              · have HS7 : Hid (SWE w0 blk (mrg (ltOf evCmp) (mrg (ltOf evCmp) (rotd l i m en) a i md) md en b) w6) := Lib.hid (by rw [mrg_id _ md en b (by omega) g4 (by rw [HML.out]; exact hb) (by omega) O4.out]; exact HS6.out)
                rcases Nat.lt_or_ge md en with z3 | z3
                · have z4 : ¬ ((en : Int) < (b : Int)) := by omega
                  go_wp2
                  go_end0
                  refine ⟨rfl, ?_⟩
                  rw [← HFIN.out]; exact HS7.out
                · have z4 : ¬ ((md : Int) < (en : Int)) := by omega
                  go_wp2
                  go_end0
                  refine ⟨rfl, ?_⟩
                  rw [← HFIN.out]; exact HS7.out
            · have z2 : ¬ ((a : Int) < (i : Int)) := by omega
              go_upto_region 43 with fail
              by_cases hcd : md < en ∧ en < b
              · obtain ⟨z3, z4⟩ := hcd
                go_wp2_with (go_at_call 105; refine ((IH.out md en b (mrg (ltOf evCmp) (rotd l i m en) a i md) _ (by omega) (by omega) (by omega) (by omega) HML.out O3.out O4.out HS6).at).mono ?_; rintro e w7 ⟨rfl, hs7⟩; have HS7 := Lib.hid hs7; clear hs7)
                go_end0
                refine ⟨rfl, ?_⟩
                rw [← HFIN.out]; exact HS7.out
              · have HS7 : Hid (SWE w0 blk (mrg (ltOf evCmp) (mrg (ltOf evCmp) (rotd l i m en) a i md) md en b) w6) := Lib.hid (by rw [mrg_id _ md en b (by omega) g4 (by rw [HML.out]; exact hb) (by omega) O4.out]; exact HS6.out)
                rcases Nat.lt_or_ge md en with z3 | z3
                · have z4 : ¬ ((en : Int) < (b : Int)) := by omega
                  go_wp2
                  go_end0
                  refine ⟨rfl, ?_⟩
                  rw [← HFIN.out]; exact HS7.out
                · have z4 : ¬ ((md : Int) < (en : Int)) := by omega
                  go_wp2
                  go_end0
                  refine ⟨rfl, ?_⟩
                  rw [← HFIN.out]; exact HS7.out
        · have HS5 : Hid (SWE w0 blk (rotd l i m en) wr) := Lib.hid (by rw [rotd_id l i m en g2 g3 (by omega)]; exact HS.out)
          obtain ⟨w5, hw5⟩ : ∃ w5, w5 = wr := ⟨_, rfl⟩
          rw [← hw5] at HS5 ⊢
          clear hw5
          rcases Nat.lt_or_ge i m with z5 | z5
          · have z6 : ¬ ((m : Int) < (en : Int)) := by omega
            go_upto_region 41 with fail
            clear hni hen
            by_cases hab : a < i ∧ i < md
            · obtain ⟨z1, z2⟩ := hab
              go_upto_region 43 with (go_at_call 105; refine ((IH.out a i md (rotd l i m en) _ (by omega) (by omega) (by omega) (by omega) HRL.out O1.out O2.out HS5).at).mono ?_; rintro e w6 ⟨rfl, hs6⟩; have HS6 := Lib.hid hs6; clear hs6)
              by_cases hcd : md < en ∧ en < b
              · obtain ⟨z3, z4⟩ := hcd
                go_wp2_with (go_at_call 105; refine ((IH.out md en b (mrg (ltOf evCmp) (rotd l i m en) a i md) _ (by omega) (by omega) (by omega) (by omega) HML.out O3.out O4.out HS6).at).mono ?_; rintro e w7 ⟨rfl, hs7⟩; have HS7 := Lib.hid hs7; clear hs7)
                go_end0
                refine ⟨rfl, ?_⟩
                rw [← HFIN.out]; exact HS7.out
              · have HS7 : Hid (SWE w0 blk (mrg (ltOf evCmp) (mrg (ltOf evCmp) (rotd l i m en) a i md) md en b) w6) := Lib.hid (by rw [mrg_id _ md en b (by omega) g4 (by rw [HML.out]; exact hb) (by omega) O4.out]; exact HS6.out)
                rcases Nat.lt_or_ge md en with z3 | z3
                · have z4 : ¬ ((en : Int) < (b : Int)) := by omega
                  go_wp2
                  go_end0
                  refine ⟨rfl, ?_⟩
                  rw [← HFIN.out]; exact HS7.out
                · have z4 : ¬ ((md : Int) < (en : Int)) := by omega
                  go_wp2
                  go_end0
                  refine ⟨rfl, ?_⟩
                  rw [← HFIN.out]; exact HS7.out
            · have HS6 : Hid (SWE w0 blk (mrg (ltOf evCmp) (rotd l i m en) a i md) w5) := Lib.hid (by rw [mrg_id _ a i md g1 g5 (by rw [HRL.out]; omega) (by omega) O2.out]; exact HS5.out)
              obtain ⟨w6, hw6⟩ : ∃ w6, w6 = w5 := ⟨_, rfl⟩
              rw [← hw6] at HS6 ⊢
              clear hw6
              rcases Nat.lt_or_ge a i with z1 | z1
              · have z2 : ¬ ((i : Int) < (md : Int)) := by omega
                go_upto_region 43 with fail
                by_cases hcd : md < en ∧ en < b
                · obtain ⟨z3, z4⟩ := hcd
                  go_wp2_with (go_at_call 105; refine ((IH.out md en b (mrg (ltOf evCmp) (rotd l i m en) a i md) _ (by omega) (by omega) (by omega) (by omega) HML.out O3.out O4.out HS6).at).mono ?_; rintro e w7 ⟨rfl, hs7⟩; have HS7 := Lib.hid hs7; clear hs7)
                  go_end0
                  refine ⟨rfl, ?_⟩
                  rw [← HFIN.out]; exact HS7.out
                · have HS7 : Hid (SWE w0 blk (mrg (ltOf evCmp) (mrg (ltOf evCmp) (rotd l i m en) a i md) md en b) w6) := Lib.hid (by rw [mrg_id _ md en b (by omega) g4 (by rw [HML.out]; exact hb) (by omega) O4.out]; exact HS6.out)
                  rcases Nat.lt_or_ge md en with z3 | z3
                  · have z4 : ¬ ((en : Int) < (b : Int)) := by omega
                    go_wp2
                    go_end0
                    refine ⟨rfl, ?_⟩
                    rw [← HFIN.out]; exact HS7.out
                  · have z4 : ¬ ((md : Int) < (en : Int)) := by omega
                    go_wp2
                    go_end0
                    refine ⟨rfl, ?_⟩
                    rw [← HFIN.out]; exact HS7.out
              · have z2 : ¬ ((a : Int) < (i : Int)) := by omega
                go_upto_region 43 with fail
                by_cases hcd : md < en ∧ en < b
                · obtain ⟨z3, z4⟩ := hcd
                  go_wp2_with (go_at_call 105; refine ((IH.out md en b (mrg (ltOf evCmp) (rotd l i m en) a i md) _ (by omega) (by omega) (by omega) (by omega) HML.out O3.out O4.out HS6).at).mono ?_; rintro e w7 ⟨rfl, hs7⟩; have HS7 := Lib.hid hs7; clear hs7)
                  go_end0
                  refine ⟨rfl, ?_⟩
                  rw [← HFIN.out]; exact HS7.out
                · have HS7 : Hid (SWE w0 blk (mrg (ltOf evCmp) (mrg (ltOf evCmp) (rotd l i m en) a i md) md en b) w6) := Lib.hid (by rw [mrg_id _ md en b (by omega) g4 (by rw [HML.out]; exact hb) (by omega) O4.out]; exact HS6.out)
                  rcases Nat.lt_or_ge md en with z3 | z3
                  · have z4 : ¬ ((en : Int) < (b : Int)) := by omega
                    go_wp2
                    go_end0
                    refine ⟨rfl, ?_⟩
                    rw [← HFIN.out]; exact HS7.out
                  · have z4 : ¬ ((md : Int) < (en : Int)) := by omega
                    go_wp2
                    go_end0
                    refine ⟨rfl, ?_⟩
                    rw [← HFIN.out]; exact HS7.out
          · have z6 : ¬ ((i : Int) < (m : Int)) := by omega
            go_upto_region 41 with fail
            clear hni hen
            by_cases hab : a < i ∧ i < md
            · obtain ⟨z1, z2⟩ := hab
              go_upto_region 43 with (go_at_call 105; refine ((IH.out a i md (rotd l i m en) _ (by omega) (by omega) (by omega) (by omega) HRL.out O1.out O2.out HS5).at).mono ?_; rintro e w6 ⟨rfl, hs6⟩; have HS6 := Lib.hid hs6; clear hs6)
              by_cases hcd : md < en ∧ en < b
              · obtain ⟨z3, z4⟩ := hcd
                go_wp2_with (go_at_call 105; refine ((IH.out md en b (mrg (ltOf evCmp) (rotd l i m en) a i md) _ (by omega) (by omega) (by omega) (by omega) HML.out O3.out O4.out HS6).at).mono ?_; rintro e w7 ⟨rfl, hs7⟩; have HS7 := Lib.hid hs7; clear hs7)
                go_end0
                refine ⟨rfl, ?_⟩
                rw [← HFIN.out]; exact HS7.out
              · have HS7 : Hid (SWE w0 blk (mrg (ltOf evCmp) (mrg (ltOf evCmp) (rotd l i m en) a i md) md en b) w6) := Lib.hid (by rw [mrg_id _ md en b (by omega) g4 (by rw [HML.out]; exact hb) (by omega) O4.out]; exact HS6.out)
                rcases Nat.lt_or_ge md en with z3 | z3
                · have z4 : ¬ ((en : Int) < (b : Int)) := by omega
                  go_wp2
                  go_end0
                  refine ⟨rfl, ?_⟩
                  rw [← HFIN.out]; exact HS7.out
                · have z4 : ¬ ((md : Int) < (en : Int)) := by omega
                  go_wp2
                  go_end0
                  refine ⟨rfl, ?_⟩
                  rw [← HFIN.out]; exact HS7.out
            · have HS6 : Hid (SWE w0 blk (mrg (ltOf evCmp) (rotd l i m en) a i md) w5) := Lib.hid (by rw [mrg_id _ a i md g1 g5 (by rw [HRL.out]; omega) (by omega) O2.out]; exact HS5.out)
              obtain ⟨w6, hw6⟩ : ∃ w6, w6 = w5 := ⟨_, rfl⟩
              rw [← hw6] at HS6 ⊢
              clear hw6
              rcases Nat.lt_or_ge a i with z1 | z1
              · have z2 : ¬ ((i : Int) < (md : Int)) := by omega
                go_upto_region 43 with fail
                by_cases hcd : md < en ∧ en < b
                · obtain ⟨z3, z4⟩ := hcd
                  go_wp2_with (go_at_call 105; refine ((IH.out md en b (mrg (ltOf evCmp) (rotd l i m en) a i md) _ (by omega) (by omega) (by omega) (by omega) HML.out O3.out O4.out HS6).at).mono ?_; rintro e w7 ⟨rfl, hs7⟩; have HS7 := Lib.hid hs7; clear hs7)
                  go_end0
                  refine ⟨rfl, ?_⟩
                  rw [← HFIN.out]; exact HS7.out
                · have HS7 : Hid (SWE w0 blk (mrg (ltOf evCmp) (mrg (ltOf evCmp) (rotd l i m en) a i md) md en b) w6) := Lib.hid (by rw [mrg_id _ md en b (by omega) g4 (by rw [HML.out]; exact hb) (by omega) O4.out]; exact HS6.out)
                  rcases Nat.lt_or_ge md en with z3 | z3
                  · have z4 : ¬ ((en : Int) < (b : Int)) := by omega
                    go_wp2
                    go_end0
                    refine ⟨rfl, ?_⟩
                    rw [← HFIN.out]; exact HS7.out
                  · have z4 : ¬ ((md : Int) < (en : Int)) := by omega
                    go_wp2
                    go_end0
                    refine ⟨rfl, ?_⟩
                    rw [← HFIN.out]; exact HS7.out
              · have z2 : ¬ ((a : Int) < (i : Int)) := by omega
                go_upto_region 43 with fail
                by_cases hcd : md < en ∧ en < b
                · obtain ⟨z3, z4⟩ := hcd
                  go_wp2_with (go_at_call 105; refine ((IH.out md en b (mrg (ltOf evCmp) (rotd l i m en) a i md) _ (by omega) (by omega) (by omega) (by omega) HML.out O3.out O4.out HS6).at).mono ?_; rintro e w7 ⟨rfl, hs7⟩; have HS7 := Lib.hid hs7; clear hs7)
                  go_end0
                  refine ⟨rfl, ?_⟩
                  rw [← HFIN.out]; exact HS7.out
                · have HS7 : Hid (SWE w0 blk (mrg (ltOf evCmp) (mrg (ltOf evCmp) (rotd l i m en) a i md) md en b) w6) := Lib.hid (by rw [mrg_id _ md en b (by omega) g4 (by rw [HML.out]; exact hb) (by omega) O4.out]; exact HS6.out)
                  rcases Nat.lt_or_ge md en with z3 | z3
                  · have z4 : ¬ ((en : Int) < (b : Int)) := by omega
                    go_wp2
                    go_end0
                    refine ⟨rfl, ?_⟩
                    rw [← HFIN.out]; exact HS7.out
                  · have z4 : ¬ ((md : Int) < (en : Int)) := by omega
                    go_wp2
                    go_end0
                    refine ⟨rfl, ?_⟩
                    rw [← HFIN.out]; exact HS7.out
theorem sym_any (blk cap N : Nat) (w0 : World) (HR : Hid (RowE w0 blk N)) (hsz : N ≤ 1000000) : ∀ (d a m b : Nat) (l : List Ev) (w : World), b - a ≤ d → a < m → m < b → b ≤ N → l.length = N → Ordered (ltOf evCmp) (seg l a m) → Ordered (ltOf evCmp) (seg l m b) → Hid (SWE w0 blk l w) → SymGives w0 blk cap N a m b l w := by
  intro d
  induction d with
  | zero => intro a m b l w h1 h2 h3; omega
  | succ d ih =>
    intro a m b l w h1 h2 h3 h4 h5 hA hC HS
    rcases Nat.lt_or_ge (a + 1) m with g1 | g1
    · rcases Nat.lt_or_ge (m + 1) b with g2 | g2
      · exact sym_step blk cap a m b N l w0 w HR h5 HS g1 g2 h4 hsz (Lib.hid hA) (Lib.hid hC) (Lib.hid fun a' m' b' l' w' q1 q2 q3 q4 q5 q6 q7 q8 => ih a' m' b' l' w' (by omega) q2 q3 q4 q5 q6 q7 q8)
      · exact sym_last blk cap a m b N (by omega) (by omega) l w0 w HR h5 HS g1 h4 hsz (Lib.hid hA)
    · exact sym_one blk cap a m b N (by omega) (by omega) l w0 w HR h5 HS h3 h4 hsz (Lib.hid hC)
end Go.Proofs.YtjldamkmdkaiiaaGreatDoor
