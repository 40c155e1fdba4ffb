/-
  Layer event: the document's own Sort: walked.
-/
import Derived.Test.YtjldamkmdkaiiaaGreatDoorOcK
import Derived.Test.YtjldamkmdkaiiaaGreatDoorTkK
set_option linter.unusedSimpArgs false
set_option linter.unusedVariables false
namespace Go.Proofs.YtjldamkmdkaiiaaGreatDoor
open Go.RowKit Go.Sort
def RSO (W : World) (l : List Ev) (u v : Value) (wr : World) : Prop := ∃ (i : Nat) (A : Option Addr) (cap : Nat), i ≤ l.length ∧ v = .int .i64 i ∧ u = .slice A i cap ∧ i ≤ cap ∧ cap ≤ maxLen ∧ (A = none → cap = 0) ∧ OwnE wr W.heap.size A i cap (isort (ltOf evCmp) (l.take i)) ∧ Below W.heap.size W wr
def RSI (w0 : World) (x : Ev) (s : List Ev) (v : Value) (wr : World) : Prop := ∃ k : Nat, k ≤ s.length ∧ v = .int .i64 k ∧ InsAt x s k ∧ Below w0.heap.size w0 wr
set_option maxHeartbeats 4000000 in
theorem rsort_any (a : Option Addr) (n c : Nat) (l : List Ev) (hn : Hid (n = l.length)) (h60 : n ≤ 900) (W : World) (HA : Hid (EvAt W a l)) :
  Calls Tryz.prog 15 #[.slice a n c] W fun e w' => ∃ A cap, e = .returned (.slice A n cap) ∧ OwnE w' W.heap.size A n cap (isort (ltOf evCmp) l) ∧ Below W.heap.size W w' := by
 go_enter Tryz.func15, Tryz.ntmps15
 go_wp2
 go_loopw [3, 4] (fun u v wr => RSO W l u v wr) (fun _ v _ => n - (intOf v).toNat)
 case atStart => exact ⟨0, none, 0, Nat.zero_le _, rfl, rfl, Nat.le_refl _, Nat.zero_le _, fun _ => rfl, World.ownsRow_nil _ _ _ 5, Below.refl _ _⟩
 case round =>
  obtain ⟨i, A, cap, hil, rfl, rfl, hic, hcm, hnilA, ho, hb⟩ := hrel
  have HOW := Lib.hid ho; have HB := Lib.hid hb
  have hin0 : i ≤ n := by have := hn.out; omega
  clear ho hb
  by_cases hin : i < n
  ·obtain ⟨x, hx⟩ : ∃ x, l[i]? = some x := ⟨l[i]'(by have := hn.out; omega), List.getElem?_eq_getElem _⟩
   obtain ⟨s, hs⟩ : ∃ s, s = isort (ltOf evCmp) (l.take i) := ⟨_, rfl⟩
   rw [← hs] at HOW
   have HSL : Hid (i = s.length) := Lib.hid (by rw [hs, isort_length, List.length_take]; omega)
   have HNX : Hid (isort (ltOf evCmp) (l.take (i + 1)) = insB (ltOf evCmp) x s) := Lib.hid (by rw [hs]; exact isort_snoc l i x hx)
   obtain ⟨g, off, rfl, hg, hr⟩ := evr (HA.out.keep HB.out) i x hx
   have HG := Lib.hid hg; have HX := Lib.hid hr
   have HO := Lib.hid HOW.out.at'
   clear hs hx hg hr
   have hz : (i : Int) < (n : Int) := by omega
   obtain ⟨w0, hw0⟩ : ∃ w0, w0 = wr := ⟨wr, rfl⟩
   subst hw0
   go_wp2
   clear hz
   go_loopw [5] (fun v wk => RSI w0 x s v wk) (fun v _ => (intOf v).toNat)
   case atStart => exact ⟨i, by have := HSL.out; omega, rfl, InsAt.start x s i HSL.out, Below.refl _ _⟩
   case round =>
    obtain ⟨k, hks, rfl, hia, hbk⟩ := hrel
    obtain ⟨wk, hw0⟩ : ∃ wk, wk = wr := ⟨wr, rfl⟩
    subst hw0
    have hki : k ≤ i := by have := HSL.out; omega
    have HBK0 : Hid (w0.heap.size ≤ wk.heap.size) := Lib.hid hbk.size
    have HBK := Lib.hid hbk
    have HIA := Lib.hid hia
    clear hbk hia
    by_cases hk0 : k = 0
    ·have hz : ¬ ((0 : Int) < (k : Int)) := by omega
     have HINS : Hid (insB (ltOf evCmp) x s = (s.take k ++ [x]) ++ s.drop k) := Lib.hid (by have h := HIA.out; subst hk0; exact h.zero)
     clear hk0
     go_upto_region 6 with fail
     have hh0 : Below wk.heap.size wk wk.drew := (Below.refl _ _).drew
     refine wp_region_held_drew (S := fun w => Below wk.heap.size wk w) (by kernel_rfl) hh0 (fun hHeld => ?_)
     refine tkm 0 (.int .i64 (k : Nat)) rfl hHeld ?_
     try simp only [qz]
     refine tk 1 (.bool false) rfl (Or.inl ⟨by rfl, fun w _ => by go_simp; omega⟩) hHeld ?_
     try simp only [qz]
     refine tkm 2 (.bool false) rfl hHeld ?_
     try simp only [qz]
     refine tk 3 undef rfl (Or.inr ⟨by rfl, rfl⟩) hHeld ?_
     try simp only [qz]
     refine tk 4 undef rfl (Or.inr ⟨by rfl, rfl⟩) hHeld ?_
     try simp only [qz]
     refine tk 5 undef rfl (Or.inr ⟨by rfl, rfl⟩) hHeld ?_
     try simp only [qz]
     refine tk 6 undef rfl (Or.inr ⟨by rfl, rfl⟩) hHeld ?_
     try simp only [qz]
     refine tk 7 undef rfl (Or.inr ⟨by rfl, rfl⟩) hHeld ?_
     try simp only [qz]
     refine tk 8 undef rfl (Or.inr ⟨by rfl, rfl⟩) hHeld ?_
     try simp only [qz]
     refine tk 9 undef rfl (Or.inr ⟨by rfl, rfl⟩) hHeld ?_
     try simp only [qz]
     refine tk 10 undef rfl (Or.inr ⟨by rfl, rfl⟩) hHeld ?_
     try simp only [qz]
     refine tk 11 undef rfl (Or.inr ⟨by rfl, rfl⟩) hHeld ?_
     try simp only [qz]
     refine tk 12 undef rfl (Or.inr ⟨by rfl, rfl⟩) hHeld ?_
     try simp only [qz]
     refine rd1 13 rfl (fun K hK => ?_)
     go_simp
     refine hK.out _ _ hHeld (fun hHeld => ?_)
     clear hK K
     try simp only [qz]
     refine wpAnyH_done (by kernel_rfl) ?_ _
     have HBA := Lib.hid (bto HBK.out hHeld)
     clear hHeld hh0 hz
     obtain ⟨A1, hc1, hn1, he1⟩ := ecut_to A i cap k hki hic hnilA
     obtain ⟨A2, C2, hc2, hn2, he2⟩ := ecut_from A i cap k hki hic hnilA
     have HE1 := Lib.hid he1; have HE2 := Lib.hid he2; have HN1 := Lib.hid hn1; have HN2 := Lib.hid hn2
     clear he1 he2 hn1 hn2
     have HZ0 := Lib.hid HBA.out.size
     have HL1 : Hid (k = (s.take k).length) := Lib.hid (by rw [List.length_take]; have := HSL.out; omega)
     have HL2 : Hid (i - k = (s.drop k).length) := Lib.hid (by rw [List.length_drop]; have := HSL.out; omega)
     have HS1 := Lib.hid (HE1.out _ s HSL.out (HO.out.keep HBA.out))
     have k9 : k ≤ 900 := by omega
     have i9 : i - k ≤ 900 - k := by omega
     have HKI := Lib.hid hki; have HI9 : Hid (i ≤ 900) := Lib.hid (by omega); have HIN := Lib.hid hin; have HIL := Lib.hid hil
     clear hin hin0 h60 hki hic hil hks
     go_wp2_with (first
      | (at_builtin; refine wpList_append_ev rfl (.tmp 31) (.tmp 34) rfl w0.heap.size none 0 0 [] rfl (World.ownsRow_nil _ _ _ 5) A1 k cap (s.take k) rfl HL1.out HS1.out HN1.out k (by omega) (by omega) HZ0.out ?_; intro A3 c3 w3 ho3 hc3 hm3 hn3 hb3; have HO3 := Lib.hid ho3; have HBX := Lib.hid (HBA.out.trans hb3); have HR := Lib.hid (rkeep HX.out HG.out HBX.out); clear ho3 hb3)
      | (refine wpList_load_mid rfl 51 (.tmp 39) rfl g (off + i * 5) rfl [.int .u64 (x.off : Int), .int .i64 x.part, .int .i64 x.time, .string x.key, .float .f64 x.val] _ HR.out uEvent rfl (iEvent x) ?_)
      | (at_builtin; refine wpList_append_ev rfl (.tmp 36) (.tmp 41) rfl w0.heap.size A3 k c3 ([] ++ s.take k) rfl (HO3.out.alloc _) (some ⟨w3.heap.size, 0, none⟩) 1 1 [x] rfl rfl (evAt_new w3 [x] _ rfl _) (fun h => by cases h) (k + 1) rfl (by omega) (HBX.out.alloc HBX.out.size _).size ?_; intro A4 c4 w4 ho4 hc4 hm4 hn4 hb4; have HO4 := Lib.hid ho4; have HBY := Lib.hid ((HBX.out.alloc HBX.out.size _).trans hb4); have HS2 := Lib.hid (HE2.out _ s HSL.out (HO.out.keep HBY.out)); clear ho4 hb4)
      | (at_builtin; refine wpList_append_ev rfl (.tmp 43) (.tmp 46) rfl w0.heap.size A4 (k + 1) c4 (([] ++ s.take k) ++ [x]) rfl HO4.out A2 (i - k) C2 (s.drop k) rfl HL2.out HS2.out HN2.out (i + 1) (by have := HKI.out; omega) (by have := HKI.out; have := HI9.out; omega) HBY.out.size ?_; intro A5 c5 w5 ho5 hc5 hm5 hn5 hb5; have HO5 := Lib.hid ho5; have HBZ := Lib.hid (HBY.out.trans hb5); clear ho5 hb5))
     go_roundw
     case rel =>
      refine ⟨i + 1, A5, c5, by have := HIN.out; have := hn.out; omega, by go_num, rfl, hc5, hm5, hn5, ?_, bto HB.out HBZ.out⟩
      rw [HNX.out, HINS.out]; exact HO5.out.less HB.out.size
     case measure => (have := HIN.out; simp [intOf]; omega)
    ·obtain ⟨j, hkj⟩ : ∃ j, k = j + 1 := ⟨k - 1, by omega⟩
     clear hk0
     obtain ⟨y, hy⟩ : ∃ y, s[j]? = some y := ⟨s[j]'(by omega), List.getElem?_eq_getElem _⟩
     obtain ⟨g2, off2, hA2, hg2, hr2⟩ := evr (HO.out.keep HBK.out) j y hy
     have HG1 : Hid (g < wk.heap.size) := Lib.hid (by have := HG.out; have := HBK0.out; omega)
     have HX1 : Hid (wk.rangeAt g (off + i * 5) x.cells) := Lib.hid (rkeep HX.out HG.out HBK.out)
     have HG2 := Lib.hid hg2; have HX2 := Lib.hid hr2
     have HKJ := Lib.hid hkj
     have hz : (0 : Int) < (k : Int) := by omega
     have hsub : (k : Int) - 1 = (j : Int) := by omega
     have hji : (j : Int) < (i : Int) := by omega
     have hii : (i : Int) < (n : Int) := by omega
     clear hg2 hr2
     cases hl : lessB x y
     ·have HL := Lib.hid hl
      have HINS : Hid (insB (ltOf evCmp) x s = (s.take k ++ [x]) ++ s.drop k) := Lib.hid (by have h := HIA.out; subst hkj; exact h.stop hy hl)
      clear hl hy hkj
      subst hA2
      go_upto_region 6 with fail
      have hh0 : Below wk.heap.size wk wk.drew := (Below.refl _ _).drew
      refine wp_region_held_drew (S := fun w => Below wk.heap.size wk w) (by kernel_rfl) hh0 (fun hHeld => ?_)
      refine tkm 0 (.int .i64 (k : Nat)) rfl hHeld ?_
      try simp only [qz]
      refine tk 1 (.bool true) rfl (Or.inl ⟨by rfl, fun w _ => by go_simp; omega⟩) hHeld ?_
      try simp only [qz]
      refine tkm 2 (.bool true) rfl hHeld ?_
      try simp only [qz]
      refine tkm 3 (.slice (some ⟨g, off, none⟩) n c) rfl hHeld ?_
      try simp only [qz]
      refine tkm 4 (.int .i64 (i : Nat)) rfl hHeld ?_
      try simp only [qz]
      refine tks 5 (.pointer (some ⟨g, off + i * 5, none⟩)) rfl hHeld ?_
      try simp only [qz]
      refine tk 6 (.agg x.cells.toArray) rfl (yieldsIf_load_mid rfl 51 (.tmp 20) rfl g (off + i * 5) rfl x.cells _ (fun w hw => rkeep HX1.out HG1.out hw) uEvent rfl (iEvent x)) hHeld ?_
      try simp only [qz]
      refine tkm 7 (.slice (some ⟨g2, off2, none⟩) i cap) rfl hHeld ?_
      try simp only [qz]
      refine tkm 8 (.int .i64 (k : Nat)) rfl hHeld ?_
      try simp only [qz]
      refine tk 9 (.int .i64 (j : Nat)) rfl (Or.inl ⟨by rfl, fun w _ => by go_simp; rw [IntKind.wrap_i64]; omega⟩) hHeld ?_
      try simp only [qz]
      refine tks 10 (.pointer (some ⟨g2, off2 + j * 5, none⟩)) rfl hHeld ?_
      try simp only [qz]
      refine tk 11 (.agg y.cells.toArray) rfl (yieldsIf_load_mid rfl 51 (.tmp 25) rfl g2 (off2 + j * 5) rfl y.cells _ (fun w hw => rkeep HX2.out HG2.out hw) uEvent rfl (iEvent y)) hHeld ?_
      try simp only [qz]
      refine rd1 12 rfl (fun K hK => ?_)
      go_simp
      refine (evBefore_any x y _).mono ?_
      rintro e w2 ⟨rfl, hb⟩
      rw [HL.out]
      replace hHeld := bto hHeld hb.below
      clear hb
      refine hK.out _ _ hHeld (fun hHeld => ?_)
      clear hK K
      try simp only [qz]
      refine rd1 13 rfl (fun K hK => ?_)
      go_simp
      refine hK.out _ _ hHeld (fun hHeld => ?_)
      clear hK K
      try simp only [qz]
      refine wpAnyH_done (by kernel_rfl) ?_ _
      clear hsub hji hii HG1 HX1 HG2 HX2
      have HBA := Lib.hid (bto HBK.out hHeld)
      clear hHeld hh0 hz
      obtain ⟨A1, hc1, hn1, he1⟩ := ecut_to (some ⟨g2, off2, none⟩) i cap k hki hic hnilA
      obtain ⟨A2, C2, hc2, hn2, he2⟩ := ecut_from (some ⟨g2, off2, none⟩) i cap k hki hic hnilA
      have HE1 := Lib.hid he1; have HE2 := Lib.hid he2; have HN1 := Lib.hid hn1; have HN2 := Lib.hid hn2
      clear he1 he2 hn1 hn2
      have HZ0 := Lib.hid HBA.out.size
      have HL1 : Hid (k = (s.take k).length) := Lib.hid (by rw [List.length_take]; have := HSL.out; omega)
      have HL2 : Hid (i - k = (s.drop k).length) := Lib.hid (by rw [List.length_drop]; have := HSL.out; omega)
      have HS1 := Lib.hid (HE1.out _ s HSL.out (HO.out.keep HBA.out))
      have k9 : k ≤ 900 := by omega
      have i9 : i - k ≤ 900 - k := by omega
      have HKI := Lib.hid hki; have HI9 : Hid (i ≤ 900) := Lib.hid (by omega); have HIN := Lib.hid hin; have HIL := Lib.hid hil
      clear hin hin0 h60 hki hic hil hks
      go_wp2_with (first
       | (at_builtin; refine wpList_append_ev rfl (.tmp 31) (.tmp 34) rfl w0.heap.size none 0 0 [] rfl (World.ownsRow_nil _ _ _ 5) A1 k cap (s.take k) rfl HL1.out HS1.out HN1.out k (by omega) (by omega) HZ0.out ?_; intro A3 c3 w3 ho3 hc3 hm3 hn3 hb3; have HO3 := Lib.hid ho3; have HBX := Lib.hid (HBA.out.trans hb3); have HR := Lib.hid (rkeep HX.out HG.out HBX.out); clear ho3 hb3)
       | (refine wpList_load_mid rfl 51 (.tmp 39) rfl g (off + i * 5) rfl [.int .u64 (x.off : Int), .int .i64 x.part, .int .i64 x.time, .string x.key, .float .f64 x.val] _ HR.out uEvent rfl (iEvent x) ?_)
       | (at_builtin; refine wpList_append_ev rfl (.tmp 36) (.tmp 41) rfl w0.heap.size A3 k c3 ([] ++ s.take k) rfl (HO3.out.alloc _) (some ⟨w3.heap.size, 0, none⟩) 1 1 [x] rfl rfl (evAt_new w3 [x] _ rfl _) (fun h => by cases h) (k + 1) rfl (by omega) (HBX.out.alloc HBX.out.size _).size ?_; intro A4 c4 w4 ho4 hc4 hm4 hn4 hb4; have HO4 := Lib.hid ho4; have HBY := Lib.hid ((HBX.out.alloc HBX.out.size _).trans hb4); have HS2 := Lib.hid (HE2.out _ s HSL.out (HO.out.keep HBY.out)); clear ho4 hb4)
       | (at_builtin; refine wpList_append_ev rfl (.tmp 43) (.tmp 46) rfl w0.heap.size A4 (k + 1) c4 (([] ++ s.take k) ++ [x]) rfl HO4.out A2 (i - k) C2 (s.drop k) rfl HL2.out HS2.out HN2.out (i + 1) (by have := HKI.out; omega) (by have := HKI.out; have := HI9.out; omega) HBY.out.size ?_; intro A5 c5 w5 ho5 hc5 hm5 hn5 hb5; have HO5 := Lib.hid ho5; have HBZ := Lib.hid (HBY.out.trans hb5); clear ho5 hb5))
      go_roundw
      case rel =>
       refine ⟨i + 1, A5, c5, by have := HIN.out; have := hn.out; omega, by go_num, rfl, hc5, hm5, hn5, ?_, bto HB.out HBZ.out⟩
       rw [HNX.out, HINS.out]; exact HO5.out.less HB.out.size
      case measure => (have := HIN.out; simp [intOf]; omega)
     ·have HL := Lib.hid hl
      have HST : Hid (InsAt x s j) := Lib.hid (by have h := HIA.out; subst hkj; exact h.step hy hl)
      clear hl hy hkj
      subst hA2
      go_upto_region 6 with fail
      have hh0 : Below wk.heap.size wk wk.drew := (Below.refl _ _).drew
      refine wp_region_held_drew (S := fun w => Below wk.heap.size wk w) (by kernel_rfl) hh0 (fun hHeld => ?_)
      refine tkm 0 (.int .i64 (k : Nat)) rfl hHeld ?_
      try simp only [qz]
      refine tk 1 (.bool true) rfl (Or.inl ⟨by rfl, fun w _ => by go_simp; omega⟩) hHeld ?_
      try simp only [qz]
      refine tkm 2 (.bool true) rfl hHeld ?_
      try simp only [qz]
      refine tkm 3 (.slice (some ⟨g, off, none⟩) n c) rfl hHeld ?_
      try simp only [qz]
      refine tkm 4 (.int .i64 (i : Nat)) rfl hHeld ?_
      try simp only [qz]
      refine tks 5 (.pointer (some ⟨g, off + i * 5, none⟩)) rfl hHeld ?_
      try simp only [qz]
      refine tk 6 (.agg x.cells.toArray) rfl (yieldsIf_load_mid rfl 51 (.tmp 20) rfl g (off + i * 5) rfl x.cells _ (fun w hw => rkeep HX1.out HG1.out hw) uEvent rfl (iEvent x)) hHeld ?_
      try simp only [qz]
      refine tkm 7 (.slice (some ⟨g2, off2, none⟩) i cap) rfl hHeld ?_
      try simp only [qz]
      refine tkm 8 (.int .i64 (k : Nat)) rfl hHeld ?_
      try simp only [qz]
      refine tk 9 (.int .i64 (j : Nat)) rfl (Or.inl ⟨by rfl, fun w _ => by go_simp; rw [IntKind.wrap_i64]; omega⟩) hHeld ?_
      try simp only [qz]
      refine tks 10 (.pointer (some ⟨g2, off2 + j * 5, none⟩)) rfl hHeld ?_
      try simp only [qz]
      refine tk 11 (.agg y.cells.toArray) rfl (yieldsIf_load_mid rfl 51 (.tmp 25) rfl g2 (off2 + j * 5) rfl y.cells _ (fun w hw => rkeep HX2.out HG2.out hw) uEvent rfl (iEvent y)) hHeld ?_
      try simp only [qz]
      refine rd1 12 rfl (fun K hK => ?_)
      go_simp
      refine (evBefore_any x y _).mono ?_
      rintro e w2 ⟨rfl, hb⟩
      rw [HL.out]
      replace hHeld := bto hHeld hb.below
      clear hb
      refine hK.out _ _ hHeld (fun hHeld => ?_)
      clear hK K
      try simp only [qz]
      refine rd1 13 rfl (fun K hK => ?_)
      go_simp
      refine hK.out _ _ hHeld (fun hHeld => ?_)
      clear hK K
      try simp only [qz]
      refine wpAnyH_done (by kernel_rfl) ?_ _
      have HBA := Lib.hid (bto HBK.out hHeld)
      clear hHeld hh0
      go_wp2
      go_roundw
      case rel => exact ⟨j, by have := HKJ.out; omega, by go_num, HST.out, HBA.out⟩
      case measure => simp [intOf]; omega
  ·have hz : ¬ ((i : Int) < (n : Int)) := by omega
   have hin' : i = n := by omega
   subst hin'
   go_wp2
   go_ret
   refine ⟨A, cap, rfl, ?_, HB.out⟩
   have h := HOW.out
   rwa [List.take_of_length_le (by have := hn.out; omega)] at h
end Go.Proofs.YtjldamkmdkaiiaaGreatDoor
