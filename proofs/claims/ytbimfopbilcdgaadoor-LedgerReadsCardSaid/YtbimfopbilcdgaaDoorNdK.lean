/-
  Layer ledger: changes cloned, with keys of their own.
-/
import Derived.Shelf.SlicesE.Clone
import Derived.Shelf.Strconv.Clone
import Derived.Deep.DeepCutAuto
import Derived.Test.YtbimfopbilcdgaaDoorNcK
set_option linter.unusedSimpArgs false
set_option linter.unusedVariables false
set_option maxRecDepth 8000
namespace Go.Proofs.YtbimfopbilcdgaaDoor
open Go.RowKit Go.Sort

def litLays_ren : Go.Shelf.Ren := ⟨fun | 316 => 53 | n => n, fun | 9 => 9 | 3 => 3 | 4 => 4 | 37 => 22 | 0 => 0 | 127 => 121 | 5 => 5 | n => n, fun n => n⟩
theorem litLays : Go.Proofs.LaysM.n316 Tryd.prog litLays_ren := {
  mixed := by kernel_rfl
  f316 := Tryd.func53.trans (congrArg some (by kernel_rfl))
  t0 := Tryd.underlying0
  a0 := Tryd.isAgg0
  z0 := Tryd.sizeOf0
  v0 := Tryd.zeroValue0
  t3 := Tryd.underlying3
  a3 := Tryd.isAgg3
  z3 := Tryd.sizeOf3
  v3 := Tryd.zeroValue3
  t4 := Tryd.underlying4
  a4 := Tryd.isAgg4
  z4 := Tryd.sizeOf4
  v4 := Tryd.zeroValue4
  t9 := Tryd.underlying9
  a9 := Tryd.isAgg9
  z9 := Tryd.sizeOf9
  v9 := Tryd.zeroValue9
  t37 := Tryd.underlying22
  a37 := Tryd.isAgg22
  z37 := Tryd.sizeOf22
  v37 := Tryd.zeroValue22
  t127 := Tryd.underlying121
  a127 := Tryd.isAgg121
  z127 := Tryd.sizeOf121
  v127 := Tryd.zeroValue121
  t5 := Tryd.underlying5
  a5 := Tryd.isAgg5
  z5 := Tryd.sizeOf5
  v5 := Tryd.zeroValue5
  i0 := by kernel_rfl
  i3 := by kernel_rfl
  i4 := by kernel_rfl
  i5 := by kernel_rfl
  i9 := by kernel_rfl
  i37 := by kernel_rfl
  i127 := by kernel_rfl }
theorem liteClone_any (s : ByteArray) (hs : s.size ≤ 281474976710656) (w : World) : Calls Tryd.prog 53 #[.string s] w fun e w' => e = .returned (.string s) ∧ Below w.heap.size w w' := by
  have h := Any.stringslite_Clone litLays s w hs
  change Calls Tryd.prog 53 _ _ _ at h
  exact h
set_option maxHeartbeats 400000 in
theorem strClone_any (s : ByteArray) (hs : s.size ≤ 281474976710656) (w : World) : Calls Tryd.prog 35 #[.string s] w fun e w' => e = .returned (.string s) ∧ Below w.heap.size w w' := by
  have H := Lib.hid fun w => liteClone_any s hs w
  clear hs
  go_enter Tryd.func35, Tryd.ntmps35
  go_wp2_with (go_at_call 53; refine (H.out _).mono ?_; rintro e w' ⟨rfl, hb⟩; have HB := Lib.hid hb; clear hb)
  go_ret
  exact ⟨rfl, HB.out⟩

def chCloLays_ren : Go.Shelf.Ren := ⟨fun | 41 => 34 | n => n, fun | 22 => 24 | 23 => 43 | 4 => 4 | n => n, fun n => n⟩
theorem chCloLays : Go.Proofs.SlLaysE0.n41 Tryd.prog chCloLays_ren := {
  mixed := by kernel_rfl
  f41 := ⟨Tryd.f34.name, by decide, Tryd.func34.trans (congrArg some (by kernel_rfl))⟩
  t4 := Tryd.underlying4
  a4 := Tryd.isAgg4
  z4 := Tryd.sizeOf4
  v4 := Tryd.zeroValue4
  t22 := Tryd.underlying24
  a22 := Tryd.isAgg24
  z22 := Tryd.sizeOf24
  v22 := Tryd.zeroValue24 }
theorem chClone_some (g off n c : Nat) (l : List Chg) (hn : n = l.length) (hb : n ≤ 1000) (w : World) (H : Hid (ChAt w (some ⟨g, off, none⟩) l)) :
    Calls Tryd.prog 34 #[.slice (some ⟨g, off, none⟩) n c] w fun e w' => ∃ v', e = .returned v' ∧ w'.ownsRow w.heap.size 43 10 v' n (chs l) ∧ v' ≠ .slice none 0 0 ∧ Below w.heap.size w w' := by
  obtain ⟨i0, hi, hz0, hz1, hz2⟩ := info_parts infoCh
  have h := AnyE.slices_Clone chCloLays i0 _ 10 88 hi hz0 hz1 hz2 rfl (by decide) Tryd.sizeOf43 g off n c (chs l) w (by rw [chs_length, hn]) (by unfold maxLen; omega) (by omega) (fun j u hu => by
    obtain ⟨g', off', e, -, hc⟩ := H.out j u hu
    cases e
    exact hc) (chs_one l)
  change Calls Tryd.prog 34 _ _ _ at h
  exact h
/-- A slice's value: nil has no room; where a value has an address it has no spot. -/
structure SlC (a : Option Addr) (n c : Nat) : Prop where
  nil : a = none → c = 0
  len : n ≤ c
  ad : ∀ x, a = some x → ∃ g off, x = ⟨g, off, none⟩
  cap : c ≤ maxLen
/-- What clones end with. -/
def CloEnd (W : World) (n : Nat) (l : List Chg) (e : Ending) (w' : World) : Prop := ∃ A cap, e = .returned (.slice A n cap) ∧ OwnCh w' W.heap.size A n cap l ∧ n ≤ cap ∧ cap ≤ maxLen ∧ (A = none → cap = 0) ∧ Below W.heap.size W w'
set_option maxHeartbeats 400000 in
theorem chClone_any (a : Option Addr) (n c : Nat) (l : List Chg) (hn : n = l.length) (hb : n ≤ 1000) (hs : SlC a n c) (w : World) (H : Hid (ChAt w a l)) :
    Calls Tryd.prog 34 #[.slice a n c] w (CloEnd w n l) := by
  rcases a with _ | ad
  · obtain rfl := hs.nil rfl
    have h0 : n = 0 := by have := hs.len; omega
    subst h0
    have hl : l = [] := List.eq_nil_of_length_eq_zero hn.symm
    subst hl
    clear H hs hn hb
    have heq : ∀ w, (binOp .eql 24 (.slice none 0 0) (.slice none 0 0)).run Tryd.prog w = .ok (.bool true) w := fun w => by kernel_rfl
    go_enter Tryd.func34, Tryd.ntmps34
    go_wp2
    go_ret
    exact ⟨none, 0, rfl, OwnCh.nil _ _, Nat.le_refl _, Nat.zero_le _, fun _ => rfl, Below.refl _ _⟩
  · obtain ⟨g, off, rfl⟩ := hs.ad _ rfl
    refine (chClone_some g off n c l hn hb w H).mono ?_
    rintro e w' ⟨v', rfl, ho, -, hbl⟩
    obtain ⟨A, cap, rfl, h1, h2, h3⟩ := ch_roslice ho
    exact ⟨A, cap, rfl, ho, h1, h2, h3, hbl⟩
theorem set_self (cs : Array Value) (i : Nat) (v : Value) (h : cs[i]? = some v) : cs.setIfInBounds i v = cs := by
  apply Array.ext_getElem?
  intro j
  rw [Array.getElem?_setIfInBounds]
  split
  · rename_i e; subst e
    rw [if_pos (Array.getElem?_eq_some_iff.1 h).1, h]
  · rfl
theorem OwnCh.rewrite {w : World} {B n cap g : Nat} {l : List Chg} (h : OwnCh w B (some ⟨g, 0, none⟩) n cap l) (j : Nat) (v : Value) (hv : (chs l)[j]? = some v) : OwnCh (w.setCell ⟨g, j, none⟩ v) B (some ⟨g, 0, none⟩) n cap l := by
  refine ⟨h.1, ?_⟩
  rcases h.2 with ⟨e0, e1⟩ | ⟨g', cap', cur, e0, hb, hg, hn, hm, hs, ht⟩
  · cases e0
  · cases e0
    refine .inr ⟨g, cap, cur, rfl, hb, ?_, hn, hm, hs, ht⟩
    rw [heap_setCell_same w g j cur _ v hg, set_self]
    rw [← ht, List.getElem?_take] at hv
    split at hv
    · simpa using hv
    · cases hv
theorem OwnCh.frozen {w : World} {B n cap g : Nat} {l : List Chg} (h : OwnCh w B (some ⟨g, 0, none⟩) n cap l) (j : Nat) : w.frozen? ⟨g, j, none⟩ = false := by
  rcases h.2 with ⟨e0, e1⟩ | ⟨g', cap', cur, e0, hb, hg, -⟩
  · cases e0
  · cases e0; simp [World.frozen?, hg]
/-- What the rounds of ownKeys hold. -/
def ROK (W : World) (l : List Chg) (A : Option Addr) (n cap : Nat) (v : Value) (wr : World) : Prop := ∃ i : Nat, i ≤ n ∧ v = .int .i64 i ∧ OwnCh wr W.heap.size A n cap l ∧ Below W.heap.size W wr
set_option maxHeartbeats 1000000 in
theorem ownKeys_any (a : Option Addr) (n c : Nat) (l : List Chg) (hn : n = l.length) (hb : n ≤ 1000) (hs : SlC a n c) (hok : ∀ x ∈ l, x.p.key.size ≤ 1000) (W : World) (H : Hid (ChAt W a l)) :
    Calls Tryd.prog 17 #[.slice a n c] W (CloEnd W n l) := by
  have HC := Lib.hid (chClone_any a n c l hn hb hs W H)
  have HK := Lib.hid hok
  have HN := Lib.hid hn
  clear hs H hok hn
  go_enter Tryd.func17, Tryd.ntmps17
  go_wp2_with (go_at_call 34; refine HC.out.mono ?_; rintro e w1 ⟨A, cap, rfl, ho, hc1, hc2, hc3, hb1⟩; have HO := Lib.hid ho; have HB := Lib.hid hb1; have HC3 := Lib.hid hc3; clear ho hb1 hc3)
  go_loopw [9] (fun v wr => ROK W l A n cap v wr) (fun v _ => n - (intOf v).toNat)
  case atStart => exact ⟨0, Nat.zero_le _, rfl, HO.out, HB.out⟩
  case round =>
    obtain ⟨i, hin0, rfl, ho, hb2⟩ := hrel
    have HO2 := Lib.hid ho; have HB2 := Lib.hid hb2
    clear ho hb2
    by_cases hin : i < n
    · obtain ⟨x, hx⟩ : ∃ x, l[i]? = some x := ⟨l[i]'(by have := HN.out; omega), List.getElem?_eq_getElem _⟩
      obtain ⟨g, off, rfl, hg, hr⟩ := chr HO2.out.at' i x hx
      obtain ⟨-, hg2, rfl⟩ := HO2.out.lt g off rfl
      have HV : Hid ((chs l)[i * 10 + 2]? = some (.string x.p.key)) := Lib.hid (by rw [chs_get l i 2 (by decide), hx]; rfl)
      have hkey := HK.out x (List.mem_of_getElem? hx)
      have HS := Lib.hid fun w => strClone_any x.p.key (by omega) w
      have hce : wr.cell? ⟨g, i * 10 + 2, none⟩ = some (.string x.p.key) := by have h := hr 2 _ rfl; rw [Nat.zero_add] at h; exact h
      have HG := Lib.hid hg; have HG2 := Lib.hid hg2
      clear hx hr hkey hg hg2
      have hz : (i : Int) < (n : Int) := by omega
      go_wp2_with (go_at_call 35; refine (HS.out _).mono ?_; rintro e w2 ⟨rfl, hb3⟩; have hce2 : w2.cell? ⟨g, i * 10 + 2, none⟩ = some (.string x.p.key) := (hb3.cell (p := ⟨g, i * 10 + 2, none⟩) HG.out).trans hce; have HO3 : Hid (OwnCh w2 W.heap.size (some ⟨g, 0, none⟩) n cap l) := Lib.hid (HO2.out.below hb3 (fun g' off' e => by cases e; exact HG.out)); have hfr := HO3.out.frozen (i * 10 + 2); have HB3 := Lib.hid (bto HB2.out hb3); clear hb3)
      go_roundw
      case rel => exact ⟨i + 1, by omega, by go_num, HO3.out.rewrite _ _ HV.out, HB3.out.setCell (p := ⟨g, i * 10 + 2, none⟩) HG2.out _⟩
      case measure => (simp [intOf]; omega)
    · have hz : ¬ ((i : Int) < (n : Int)) := by omega
      go_wp2
      go_ret
      exact ⟨A, cap, rfl, HO2.out, hc1, hc2, HC3.out, HB2.out⟩
end Go.Proofs.YtbimfopbilcdgaaDoor
