/-
  The law FilesKeeps: walked.
-/
import Derived.Test.YtafdhgofdocjhaaFk
set_option linter.unusedSimpArgs false
set_option linter.unusedVariables false
namespace Go.Proofs.Ytafdhgofdocjhaa
open Go.RowKit Go.WideShapes

theorem below_gb {W w w' : World} {g : Nat} (h : Below W.heap.size W w) (hg : w.grownBy w' (some g)) (hW : W.heap.size ≤ g) : Below W.heap.size W w' :=
  h.grown hg h.size (fun k hk => by injection hk; omega)
theorem by_keepW {W w : World} {p : Option Addr} {l : List Nat} (h : Hid (ByAt W p l)) (hb : Hid (Below W.heap.size W w)) : ByAt w p l := h.out.keep hb.out
/-- A row of bytes apart from a store of one file. -/
structure Ap (w : World) (b : Nat) (x : Nat) : Prop where
  row : ∃ cs : List Value, w.heap[b]? = some (.cells cs.toArray 5 (0, 0)) ∧ cs[0]? = some (.int .u8 (x : Int))
theorem Ap.cell {w : World} {b x : Nat} (h : Ap w b x) : w.cell? ⟨b, 0, none⟩ = some (.int .u8 (x : Int)) := by
  obtain ⟨cs, h1, h2⟩ := h.row
  exact row_cells h1 0 _ h2
theorem Ap.free {w : World} {b x : Nat} (h : Ap w b x) : w.frozen? ⟨b, 0, none⟩ = false := by
  obtain ⟨cs, h1, h2⟩ := h.row
  exact row_frozen h1 0
theorem ap_of {w : World} {B n cap : Nat} {A : Option Addr} {x : Nat} {r l : List Nat} (hl : l = x :: r) (h : OwnS w B A n cap l) : ∃ b, A = some ⟨b, 0, none⟩ ∧ B ≤ b ∧ b < w.heap.size ∧ Ap w b x := by
  subst hl
  have hn := h.len
  rw [List.length_cons] at hn
  obtain ⟨b, cs, rfl, R⟩ := h.row (by omega)
  refine ⟨b, rfl, R.base, R.lt_heap, ⟨cs, R.row, ?_⟩⟩
  have h1 := congrArg (fun l => l[0]?) R.first
  rw [List.getElem?_take, if_pos (by omega)] at h1
  rw [h1]; rfl
theorem Ap.kept {w w' : World} {b x g : Nat} (h : Ap w b x) (hg : w.grownBy w' (some g)) (hne : b ≠ g) : Ap w' b x := by
  obtain ⟨cs, h1, h2⟩ := h.row
  exact ⟨cs, (hg.block b (Array.getElem?_eq_some_iff.1 h1).1 (fun e => hne (by injection e))).trans h1, h2⟩

set_option maxHeartbeats 1000000 in
theorem filesKeeps_out (p : Option Addr) (n c : Nat) (hn : n = 0 ∨ 1000 < n) (w : World) :
    Calls Try.prog 6 #[.slice p n c] w fun e w' => e = .returned (.bool true) ∧ Below w.heap.size w w' := by
  have HB := Lib.hid (Below.refl w.heap.size w)
  rcases hn with rfl | hn
  all_goals
    go_enter Try.func6, Try.ntmps6
    go_wp2_with (go_at_call 10; refine (awake_any _).mono ?_; rintro x w1 ⟨rfl, hb⟩; replace HB := Lib.hid (below_to HB.out hb); clear hb)
    go_ret
    exact ⟨rfl, HB.out⟩

theorem S1.weaken {W W0 : World} {g f fcap cap : Nat} {room armed ops du : Int} {off : Bool} {r : List Value} {A : Option Addr} {l : List Nat} {w : World} (h : S1 W g room off armed ops f fcap r A cap l du w) (hg : W0.grownBy W (some g)) : S1 W0 g room off armed ops f fcap r A cap l du w :=
  ⟨⟨h.below.os.trans hg.os, h.below.tape.trans hg.tape, h.below.output.trans hg.output, Nat.le_trans hg.size h.below.size, fun k hk hn => (h.below.block k (Nat.lt_of_lt_of_le hk hg.size) hn).trans (hg.block k hk hn)⟩, Nat.le_trans hg.size h.fbase, h.ne, h.st, h.fl, h.fc, h.own.more hg.size, h.sg, h.sf⟩
theorem S1.past {W : World} {g f fcap cap : Nat} {room armed ops du : Int} {off : Bool} {r : List Value} {A : Option Addr} {l : List Nat} {w w' : World} (h : S1 W g room off armed ops f fcap r A cap l du w) (hb : Below w.heap.size w w') (b : Nat) (h1 : w.heap.size ≤ b) (v : Value) : S1 W g room off armed ops f fcap r A cap l du (w'.setCell ⟨b, 0, none⟩ v) := by
  obtain ⟨l1, l2, l3⟩ := h.lt
  exact (h.next hb).aside b 0 v (by omega) (by omega) (fun e => by have := l3 b e; omega) (.inr (Nat.le_trans h.below.size h1))

set_option maxHeartbeats 4000000 in
theorem filesKeeps_core (p : Option Addr) (x : Nat) (r l : List Nat) (hl : Hid (l = x :: r)) (n c : Nat) (hn : Hid (n = l.length)) (h0 : 0 < n) (h1000 : n ≤ 1000) (hL : l.length ≤ 1000) (hL0 : 0 < l.length) (W : World) (HA : Hid (ByAt W p l)) :
    Calls Try.prog 6 #[.slice p n c] W fun e w' => e = .returned (.bool true) ∧ Below W.heap.size W w' := by
  have hn0 : ((n : Int) == 0) = false := by simp; omega
  go_enter Try.func6, Try.ntmps6
  go_wp2_with (first
    | (go_at_call 10; refine (awake_any _).mono ?_; rintro e w1 ⟨rfl, hb⟩; have HB1 := Lib.hid hb; clear hb)
    | (go_at_call 11; refine (new_any 5000 (by decide) _).mono ?_; rintro e w2 ⟨g, rfl, hgn, h0⟩; have HS0 := Lib.hid h0; have HGW : Hid (W.heap.size ≤ g) := Lib.hid (Nat.le_trans HB1.out.size hgn); have HB2 : Hid (Below W.heap.size W w2) := Lib.hid (below_to HB1.out (gb_new h0.below hgn)); have HG2 : Hid (g < w2.heap.size) := Lib.hid (Array.getElem?_eq_some_iff.1 h0.st).1; clear h0 hgn HB1)
    | (refine wpList_append_by rfl (.const (.slice none 0 0)) (.tmp 28) rfl w2.heap.size none 0 0 [] rfl (OwnS.nil _ _) p n c l rfl hn.out (by_keepW HA HB2) (by omega) (Nat.le_refl _) ?_
       intro Q qc w3 own hgr hblk
       rw [List.nil_append] at own
       obtain ⟨qb, rfl, hq1, hq2, hap⟩ := ap_of hl.out own
       have HS3 := Lib.hid ((HS0.out.grown hgr).rebase)
       have HG3 : Hid (w2.grownBy w3 (some g)) := Lib.hid (gb_grown (World.grownBy.refl w2 _) hgr (fun k hk => by cases hk))
       have HOQ := Lib.hid own
       have HQ3 := Lib.hid hap
       have HQ1 := Lib.hid hq1
       have HQ2 := Lib.hid hq2
       have HGQ : Hid (g ≠ qb) := Lib.hid (by have := HG2.out; omega)
       clear own hgr hblk hap hq1 hq2 HS0)
    | (go_at_call 13
       refine (append_0 (e := 0) (armed' := 0) (off' := false) _ HS3 op_none (Lib.hid (by decide)) (Lib.hid (by decide)) _ _ qc l (Lib.hid (by have := hn.out; omega)) (Lib.hid HOQ.out.byAt) (by decide) (by omega)).mono ?_
       rintro e w4 ⟨rfl, f, fcap, r4, A1, cap1, h4⟩
       have HQ4 := Lib.hid (HQ3.out.kept h4.below HGQ.out.symm)
       have hfq : f ≠ qb := by have := h4.fbase; have := HQ2.out; omega
       have haq : A1.map (·.block) ≠ some qb := fun e => by have := h4.own.base qb e; have := HQ2.out; omega
       have HAS := Lib.hid fun v => (h4.weaken HG3.out).aside qb 0 v HGQ.out hfq haq (.inr HQ1.out)
       have cq := HQ4.out.cell
       have kq := HQ4.out.free
       clear h4 hfq haq HS3 HOQ HQ3)
    | (go_at_call 25
       refine (read_1 _ (by omega) (Lib.hid (HAS.out _))).mono ?_
       rintro e w6 ⟨B1, c1, rfl, own1, hb1⟩
       obtain ⟨b1, rfl, hb11, hb12, hap1⟩ := ap_of hl.out own1
       have HB6 := Lib.hid (below_gb HB2.out ((HAS.out _).next hb1).below HGW.out)
       have hcv1 := conv_by l.length c1 own1.byAt rfl
       have hcv2 := conv_by n c (by_keepW HA HB6) hn.out
       have cq1 := hap1.cell
       have kq1 := hap1.free
       have HAS2 := Lib.hid fun v => (HAS.out _).past hb1 b1 hb11 v
       clear own1 hb1 hb11 hb12 hap1 HAS cq kq)
    | (go_at_call 13
       refine (append_1 (e := 0) (armed' := 0) (off' := false) _ (Lib.hid (HAS2.out _)) op_none (Lib.hid (by decide)) (Lib.hid (by decide)) none 0 0 [] (Lib.hid rfl) (Lib.hid (ByAt.nil _ _)) (by decide) (by omega) (by omega) (by decide)).mono ?_
       rintro e w8 ⟨rfl, A2, cap2, h8⟩
       rw [List.append_nil] at h8
       have HS8 := Lib.hid h8
       clear h8 HAS2 hcv1 hcv2 cq1 kq1)
    | (go_at_call 27
       refine (list_1 _ HS8).mono ?_
       rintro e w9 ⟨rfl, ch, kh, hb9⟩
       have HAS3 := Lib.hid fun v => HS8.out.past hb9 w8.heap.size (Nat.le_refl _) v
       clear HS8 hb9)
    | (go_at_call 25
       refine (read_1 _ (by omega) (Lib.hid (HAS3.out _))).mono ?_
       rintro e w11 ⟨B2, c2, rfl, own2, hb2⟩
       have HB11 := Lib.hid (below_gb HB2.out ((HAS3.out _).next hb2).below HGW.out)
       have hcv3 := conv_by l.length c2 own2.byAt rfl
       have hcv4 := conv_by n c (by_keepW HA HB11) hn.out
       clear own2 hb2 HAS3 ch kh))
  go_ret
  exact ⟨rfl, HB11.out⟩
theorem filesKeeps_any (a : Option Addr) (l : List Nat) (la ca : Nat) (hla : Hid (la = l.length)) (_ : la ≤ ca) (_ : ca ≤ maxLen) (w : World) (HA : Hid (ByAt w a l)) :
    Calls Try.prog 6 #[.slice a la ca] w fun e w' => e = .returned (.bool true) ∧ Below w.heap.size w w' := by
  by_cases h : la = 0 ∨ 1000 < la
  · exact filesKeeps_out a la ca h w
  · rcases hl : l with _ | ⟨x, r⟩
    · have := hla.out; rw [hl] at this; simp at this; omega
    · exact filesKeeps_core a x r l (Lib.hid hl) la ca hla (by omega) (by omega) (by have := hla.out; omega) (by rw [hl]; simp) w HA
end Go.Proofs.Ytafdhgofdocjhaa
