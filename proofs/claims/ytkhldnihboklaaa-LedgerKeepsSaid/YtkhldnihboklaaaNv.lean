/-
  Layer ledger: LedgerKeeps' walk.
-/
import Derived.Test.YtkhldnihboklaaaNt
set_option linter.unusedSimpArgs false
set_option linter.unusedVariables false
set_option maxRecDepth 8000
namespace Go.Proofs.Ytkhldnihboklaaa
open Go.RowKit Go.Sort

/-- A row that is written over; all else is as it was. -/
def Writ (w0 : World) (A : Option Addr) (T : TypeId) (m : Nat) (wr : World) : Prop := Kept (fun k => ∃ off, A = some ⟨k, off, none⟩) w0 wr ∧ ∀ g off, A = some ⟨g, off, none⟩ → off = 0 ∧ ∃ cs, wr.heap[g]? = some (.cells cs T (0, 0)) ∧ m ≤ cs.size
theorem Writ.ofCh {w : World} {B n cap : Nat} {A : Option Addr} {l : List Chg} (h : OwnCh w B A n cap l) : Writ w A 38 (n * 10) w := by
  refine ⟨Kept.refl _ _, fun g off e => ?_⟩
  subst e
  rcases h.2 with ⟨e0, e1⟩ | ⟨g', cap', cur, e0, hb, hg, hn, hm, hs, ht⟩
  · cases e0
  · cases e0
    refine ⟨rfl, cur, hg, ?_⟩
    have := Nat.mul_le_mul_right 10 hn
    omega
theorem Writ.ofPw {w : World} {B n cap : Nat} {A : Option Addr} {l : List Pw} (h : OwnPw w B A n cap l) : Writ w A 36 (n * 8) w := by
  refine ⟨Kept.refl _ _, fun g off e => ?_⟩
  subst e
  rcases h.2 with ⟨e0, e1⟩ | ⟨g', cap', cur, e0, hb, hg, hn, hm, hs, ht⟩
  · cases e0
  · cases e0
    refine ⟨rfl, cur, hg, ?_⟩
    have := Nat.mul_le_mul_right 8 hn
    omega
theorem Writ.cell {w0 wr : World} {T : TypeId} {m g : Nat} (h : Writ w0 (some ⟨g, 0, none⟩) T m wr) (j : Nat) (hj : j < m) : (∃ u, wr.cell? ⟨g, j, none⟩ = some u) ∧ wr.frozen? ⟨g, j, none⟩ = false := by
  obtain ⟨-, cs, hg, hs⟩ := h.2 g 0 rfl
  refine ⟨⟨cs[j]'(by omega), ?_⟩, by simp [World.frozen?, hg]⟩
  rw [cell_of_row wr g j _ _ _ hg, Array.getElem?_eq_getElem (by omega)]
theorem Writ.step {w0 wr : World} {T : TypeId} {m g : Nat} (h : Writ w0 (some ⟨g, 0, none⟩) T m wr) (j : Nat) (v : Value) : Writ w0 (some ⟨g, 0, none⟩) T m (wr.setCell ⟨g, j, none⟩ v) := by
  obtain ⟨-, cs, hg, hs⟩ := h.2 g 0 rfl
  refine ⟨h.1.setCell ⟨g, j, none⟩ v (.inl ⟨0, rfl⟩), fun g' off e => ?_⟩
  cases e
  exact ⟨rfl, _, heap_setCell_same wr g j cs T v hg, by simpa using hs⟩
theorem Writ.addr {w0 wr : World} {T : TypeId} {m : Nat} {A : Option Addr} (h : Writ w0 A T m wr) (hA : A = none ∨ ∃ g, A = some ⟨g, 0, none⟩) : A = none ∨ ∃ g, A = some ⟨g, 0, none⟩ ∧ ∀ k, ¬ k = g → k < w0.heap.size → wr.heap[k]? = w0.heap[k]? := by
  rcases hA with h1 | ⟨g, rfl⟩
  · exact .inl h1
  · exact .inr ⟨g, rfl, fun k hk hl => h.1.block k hl (fun ⟨off, e⟩ => hk (by cases e; rfl))⟩
theorem Writ.block {w0 wr : World} {T : TypeId} {m : Nat} {A : Option Addr} (h : Writ w0 A T m wr) (k : Nat) (hk : k < w0.heap.size) (hA : ∀ g off, A = some ⟨g, off, none⟩ → g ≠ k) : wr.heap[k]? = w0.heap[k]? :=
  h.1.block k hk (fun ⟨off, e⟩ => hA k off e rfl)
/-- What stands through the law: the ledger, the changes' own row. -/
structure Stands (V W : World) (S : Nat → Prop) (A : Option Addr) (n cap : Nat) (l : List Chg) (w : World) : Prop where
  led : LedE S w V.heap.size l
  own : OwnCh w W.heap.size A n cap l
  b : Below V.heap.size V w
theorem Stands.below {V W : World} {S : Nat → Prop} {A : Option Addr} {n cap : Nat} {l : List Chg} {w w' : World} (h : Stands V W S A n cap l w) (hb : Below w.heap.size w w') : Stands V W S A n cap l w' :=
  ⟨h.led.below hb, h.own.below hb (fun g off e => (h.own.lt g off e).1), bto h.b hb⟩
theorem Stands.writ {V W : World} {S : Nat → Prop} {A : Option Addr} {n cap : Nat} {l : List Chg} {w w' : World} {A' : Option Addr} {T : TypeId} {m : Nat} (h : Stands V W S A n cap l w) (hw : Writ w A' T m w') (hV : ∀ g off, A' = some ⟨g, off, none⟩ → V.heap.size ≤ g) (hS : ∀ g off, A' = some ⟨g, off, none⟩ → ¬ S g) (hA : ∀ g off, A' = some ⟨g, off, none⟩ → ∀ g2 off2, A = some ⟨g2, off2, none⟩ → g ≠ g2) : Stands V W S A n cap l w' :=
  ⟨h.led.same (fun k hk => hw.block k (h.led.lt k hk) (fun g off e e2 => hS g off e (by rw [e2]; exact hk))) hw.1.size, h.own.same (fun g off e => hw.block g (h.own.lt g off e).1 (fun g2 off2 e2 => hA g2 off2 e2 g off e)), h.b.trans (hw.1.below h.b.size (fun k ⟨off, e⟩ => hV k off e))⟩
set_option maxHeartbeats 8000000 in
theorem keeps_any (aA : Option Addr) (N cA : Nat) (acts : List Acx) (hN : N = acts.length) (hao : ∀ a ∈ acts, a.Ok) (W0 : World) (HA0 : Hid (AcAt W0 aA acts)) :
    Calls Try.prog 6 #[.slice aA N cA] W0 fun e w' => e = .returned (.bool true) ∧ Below W0.heap.size W0 w' := by
  have HNA := Lib.hid hN; have HAO := Lib.hid hao
  have HAW := Lib.hid (lawake_any W0)
  clear hN hao
  go_enter Try.func6, Try.ntmps6
  go_upto_region 4 with (go_at_call 7; refine HAW.out.mono ?_; rintro e V ⟨rfl, hbW⟩; have HBW0 := Lib.hid hbW; clear hbW)
  obtain ⟨W, hW⟩ : ∃ W, W = V.alloc (.cells #[.slice none 0 0, .map none] 27) := ⟨_, rfl⟩
  rw [← hW]
  have HVW : Hid (Below V.heap.size V W) := Lib.hid (by rw [hW]; exact (Below.refl _ _).alloc (Nat.le_refl _) _)
  have HWS : Hid (W.heap.size = V.heap.size + 1) := Lib.hid (by rw [hW]; simp)
  have HLG0 : Hid (LedE (fun k => k = V.heap.size) W V.heap.size []) := Lib.hid (by rw [hW]; exact led_new V _ rfl)
  clear hW
  have HA : Hid (AcAt W aA acts) := Lib.hid ((HA0.out.keep HBW0.out).keep HVW.out)
  have HB0 : Hid (Below W.heap.size W W) := Lib.hid (Below.refl _ _)
  go_wp2
  go_loopw [4, 5] (fun u v wr => RPA W u v wr) (fun _ v _ => 20 - (intOf v).toNat)
  case atStart => exact ⟨0, none, 0, 0, [], rfl, Nat.le_refl _, by decide, rfl, OwnCh.nil _ _, rfl, (fun c hc => by cases hc), (fun c hc => by cases hc), HB0.out⟩
  case round =>
    obtain ⟨i, A, n, cap, l, rfl, hni, hi60, rfl, hmd⟩ := hrel
    have HMD := Lib.hid hmd; have HNL : Hid (n = l.length) := Lib.hid hmd.own.len
    have hcaps := hmd.own.slC
    have HSL := Lib.hid hcaps
    clear hmd hcaps
    by_cases hin : i < N ∧ i < 20
    · obtain ⟨hin1, hin2⟩ := hin
      obtain ⟨a, ha⟩ : ∃ a, acts[i]? = some a := ⟨acts[i]'(by have := HNA.out; omega), List.getElem?_eq_getElem _⟩
      have haok := HAO.out a (List.mem_of_getElem? ha)
      obtain ⟨ga, off, rfl, hg, hr⟩ := acr (HA.out.keep HMD.out.b) i a ha
      have HX := Lib.hid hr
      have HCH := Lib.hid (change_any a haok A n cap l HNL.out (by omega) HMD.out.ok wr (Lib.hid HMD.out.own.at'))
      have HSIX := Lib.hid (actP_six a)
      clear hr hg ha haok
      have hz : (i : Int) < (N : Int) := by omega
      have hz2 : (i : Int) < 20 := by omega
      go_upto_region 9 with (first
        | (refine wpList_load_mid rfl 40 (.tmp 28) rfl ga (off + i * 9) rfl [.bool a.put, .int .u8 (a.key : Int), .int .u8 (a.w : Int), .int .u8 (a.near : Int), .int .u64 (a.t.c : Int), .float .f64 a.t.s, .bool a.t.o, .float .f64 a.t.lo, .float .f64 a.t.hi] _ HX.out uAct rfl iAct ?_)
        | (go_at_call 8; with_reducible refine HCH.out.mono ?_; rintro e w2 ⟨⟨c, rfl, hcok, hcp⟩, hb2⟩; have HCO := Lib.hid hcok; have HCP := Lib.hid hcp; have HB2 := Lib.hid hb2; have HOC := Lib.hid (oneCh c); clear hcok hcp hb2)
        | (refine wpList_store_fresh rfl 38 (.tmp 6) (.tmp 31) rfl _ _ _ _ rfl (by simp) rfl iCh rfl HOC.out ?_))
      have HOW : Hid (OwnCh (w2.alloc (.cells #[.bool c.put, .int .u64 (c.rev : Int), .string c.p.key, .int .i64 c.p.s, .int .i64 c.p.e, .int .u64 (c.t.c : Int), .float .f64 c.t.s, .bool c.t.o, .float .f64 c.t.lo, .float .f64 c.t.hi] 38)) W.heap.size A n cap l) := Lib.hid ((HMD.out.own.below HB2.out (fun g' off' e => (HMD.out.own.lt g' off' e).1)).below ((Below.refl _ _).alloc (Nat.le_refl _) _) (fun g' off' e => Nat.lt_of_lt_of_le (HMD.out.own.lt g' off' e).1 HB2.out.size))
      have HBW : Hid (Below W.heap.size W (w2.alloc (.cells #[.bool c.put, .int .u64 (c.rev : Int), .string c.p.key, .int .i64 c.p.s, .int .i64 c.p.e, .int .u64 (c.t.c : Int), .float .f64 c.t.s, .bool c.t.o, .float .f64 c.t.lo, .float .f64 c.t.hi] 38))) := Lib.hid ((bto HMD.out.b HB2.out).alloc (bto HMD.out.b HB2.out).size _)
      have hnx := next_any A n cap l c HNL.out (by omega) HMD.out.val HMD.out.ok HCO.out _ (Lib.hid HOW.out.at')
      rcases hokn : okN l c with _ | _
      · rw [hokn] at hnx
        have HNX := Lib.hid hnx
        clear hnx hokn
        go_wp2_with (go_at_call 18; with_reducible refine HNX.out.mono ?_; rintro e w3 ⟨rfl, hb3⟩; have HB3 := Lib.hid hb3; clear hb3)
        go_roundw
        case rel => exact ⟨i + 1, A, n, cap, l, by go_num, by omega, by omega, rfl, HOW.out.below HB3.out (fun g' off' e => (HOW.out.lt g' off' e).1), HMD.out.val, HMD.out.ok, HMD.out.six, bto HBW.out HB3.out⟩
        case measure => (simp [intOf]; omega)
      · rw [hokn] at hnx
        have HNX := Lib.hid hnx
        have HVN : Hid (Val (l ++ [c])) := Lib.hid (HMD.out.val.more (by unfold accB; rw [hokn]; rfl))
        clear hnx hokn
        go_wp2_with (first
          | (go_at_call 18; with_reducible refine HNX.out.mono ?_; rintro e w3 ⟨rfl, hb3⟩; have HR3 : Hid (w3.heap[w2.heap.size]? = some (.cells #[.bool c.put, .int .u64 (c.rev : Int), .string c.p.key, .int .i64 c.p.s, .int .i64 c.p.e, .int .u64 (c.t.c : Int), .float .f64 c.t.s, .bool c.t.o, .float .f64 c.t.lo, .float .f64 c.t.hi] 38 (0, 0))) := Lib.hid ((hb3.block _ (by simp)).trans (heap_new w2 _)); have HO3 : Hid (OwnCh w3 W.heap.size A n cap l) := Lib.hid (HOW.out.below hb3 (fun g' off' e => (HOW.out.lt g' off' e).1)); have HB3 := Lib.hid (bto HBW.out hb3); clear hb3)
          | (refine wpList_load_row rfl 38 (.tmp 6) rfl _ rfl _ _ _ _ HR3.out uCh rfl iCh ?_)
          | (at_builtin; refine wpList_append_ch rfl (.tmp 35) (.tmp 37) rfl W.heap.size A n cap l rfl (HO3.out.below ((Below.refl _ _).alloc (Nat.le_refl _) _) (fun g' off' e => (HO3.out.lt g' off' e).1)) (some ⟨w3.heap.size, 0, none⟩) 1 1 [c] rfl rfl (chAt_new' w3 _ [c] _ rfl _ rfl) (fun h => by cases h) (n + 1) rfl (by omega) (HB3.out.alloc HB3.out.size _).size ?_; intro A4 c4 w4 ho4 hc4 hm4 hn4 hb4 hg4 ha4; have HO4 := Lib.hid ho4; have HB4 := Lib.hid ((HB3.out.alloc HB3.out.size _).trans hb4); clear ho4 hc4 hm4 hn4 hb4 hg4 ha4))
        go_roundw
        case rel => exact ⟨i + 1, A4, n + 1, c4, l ++ [c], by go_num, by omega, by omega, rfl, HO4.out, HVN.out, (fun d hd => by
          rcases List.mem_append.1 hd with h | h
          · exact HMD.out.ok d h
          · rw [List.mem_singleton] at h; subst h; exact HCO.out), HMD.out.six.append (fun d hd => by rw [List.mem_singleton] at hd; subst hd; rw [HCP.out]; exact HSIX.out), HB4.out⟩
        case measure => (simp [intOf]; omega)
    · have HN900 : Hid (n ≤ 60) := Lib.hid (by omega)
      clear hni hi60
      have hq : ((i : Int) < (N : Int) ∧ ¬ ((i : Int) < 20)) ∨ ¬ ((i : Int) < (N : Int)) := by omega
      clear hin
      rcases hq with ⟨hz, hz2⟩ | hz
      all_goals
        obtain ⟨wr, hwr9⟩ : ∃ w9, w9 = wr := ⟨wr, rfl⟩
        subst hwr9
        have HADD : Hid (∀ (w1 : World) (Am : Option Addr) (cm : Nat), SlC Am n cm → ChAt w1 Am l → LedE (fun k => k = V.heap.size) w1 V.heap.size [] → Calls Try.prog 10 #[.pointer (some ⟨V.heap.size, 0, none⟩), .slice Am n cm] w1 fun e w' => e = .returned (.int .i64 0) ∧ Kept (fun k => k = V.heap.size) w1 w' ∧ LedE (Sx (fun k => k = V.heap.size) w1 w') w' V.heap.size ([] ++ l)) := Lib.hid (fun w1 Am cm h1 h2 h3 => add_ok V.heap.size [] Am n cm l HNL.out (by rw [List.length_nil]; have := HN900.out; omega) h1 HMD.out.ok w1 (Lib.hid h2) h3 HMD.out.val)
        go_upto_region 13 with (at_builtin; refine wpList_append_ch rfl (.tmp 39) (.tmp 40) rfl W.heap.size none 0 0 [] rfl (OwnCh.nil _ _) A n cap l rfl HNL.out HMD.out.own.at' HSL.out.nil n (by omega) (by have := HN900.out; omega) HMD.out.b.size ?_; intro Am cm w1 ho1 hc1 hm1 hn1 hb1 hg1 ha1; have HO1 := Lib.hid ho1; have HG1 : Hid (Below wr.heap.size wr w1) := Lib.hid (by obtain ⟨e1, e2, e3, e4, e5⟩ := grown_or hg1; exact ⟨e1, e2, e3, e4, fun k hk => e5 k hk (by intro e; cases e)⟩); have HAM := Lib.hid ha1; clear ho1 hc1 hm1 hn1 hb1 hg1 ha1)
        have HWR0 : Hid (wr.heap.size ≤ w1.heap.size) := Lib.hid HG1.out.size
        obtain ⟨wr0, hwr0⟩ : ∃ w9, w9 = wr := ⟨wr, rfl⟩
        subst hwr0
        have HBM : Hid (Below W.heap.size W w1) := Lib.hid (bto HMD.out.b HG1.out)
        have HAD1 := Lib.hid (HADD.out w1 Am cm HO1.out.slC HO1.out.at' (HLG0.out.below HBM.out))
        have HAMB : Hid (∀ g off, Am = some ⟨g, off, none⟩ → wr0.heap.size ≤ g ∧ g < w1.heap.size) := Lib.hid (fun g off e => by
          rcases HAM.out with h | ⟨g2, h, h2⟩
          · rw [h] at e; cases e
          · refine ⟨?_, (HO1.out.lt g off e).1⟩
            rw [h] at e; cases e; exact h2)
        have HALT : Hid (∀ g off, A = some ⟨g, off, none⟩ → g < wr0.heap.size ∧ W.heap.size ≤ g) := Lib.hid (fun g off e => ⟨(HMD.out.own.lt g off e).1, (HMD.out.own.lt g off e).2.1⟩)
        go_upto_region 15 with (go_at_call 10; with_reducible refine HAD1.out.mono ?_; rintro e w2 ⟨rfl, hk2, hl2⟩; rw [List.nil_append] at hl2; have HK2 := Lib.hid hk2; have HL2 := Lib.hid hl2; clear hk2 hl2)
        have HST2 : Hid (Stands V W (Sx (fun k => k = V.heap.size) w1 w2) A n cap l w2) := Lib.hid ⟨HL2.out, (HMD.out.own.below HG1.out (fun g off e => (HMD.out.own.lt g off e).1)).same (fun g off e => HK2.out.block g (by have := (HALT.out g off e).1; have := HG1.out.size; omega) (by have := (HALT.out g off e).2; have := HWS.out; omega)), (HVW.out.trans (HBM.out.mono HVW.out.size)).trans (HK2.out.below (by have := HBM.out.size; have := HVW.out.size; omega) (fun k hk => by omega))⟩
        have HWA : Hid (Writ w2 Am 38 (n * 10) w2) := Lib.hid (Writ.ofCh (HO1.out.same (fun g off e => HK2.out.block g (HAMB.out g off e).2 (by have := (HAMB.out g off e).1; have := HMD.out.b.size; have := HWS.out; omega))))
        have HAD := Lib.hid (ch_roaddr HO1.out)
        have HNZ : Hid (Am = none → n = 0) := Lib.hid (fun h => by have h1 := HO1.out.slC.nil h; have h2 := HO1.out.slC.len; omega)
        have HNS : Hid (n ≤ 60) := HN900
        go_wp2
        go_loopw [8] (fun v wr => ∃ k : Nat, k ≤ n ∧ v = .int .i64 k ∧ Writ w2 Am 38 (n * 10) wr) (fun v _ => n - (intOf v).toNat)
        case atStart => exact ⟨0, Nat.zero_le _, rfl, HWA.out⟩
        case round =>
          obtain ⟨k, hkn, rfl, hw⟩ := hrel
          have HW := Lib.hid hw
          clear hw
          by_cases hin : k < n
          · rcases HAD.out with h1 | ⟨gm, rfl⟩
            · exact absurd (HNZ.out h1) (by omega)
            · obtain ⟨⟨u9, hu9⟩, hf9⟩ := HW.out.cell (k * 10 + 1) (by omega)
              have hz : (k : Int) < (n : Int) := by omega
              have hkb : k < 1000 := by have := HNS.out; omega
              go_wp2
              go_roundw
              case rel => exact ⟨k + 1, by omega, by go_num, HW.out.step _ _⟩
              case measure => (simp [intOf]; omega)
          · have hz : ¬ ((k : Int) < (n : Int)) := by omega
            clear hin hkn
            clear HWA HAD HNZ
            have HST3 : Hid (Stands V W (Sx (fun k => k = V.heap.size) w1 w2) A n cap l wr) := Lib.hid (HST2.out.writ HW.out (fun g off e => by have := (HAMB.out g off e).1; have := HMD.out.b.size; have := HWS.out; omega) (fun g off e h => by rcases h.or with h1 | ⟨h1, -⟩; (have h1 : g = V.heap.size := h1; have := (HAMB.out g off e).1; have := HMD.out.b.size; have := HWS.out; omega); (have := (HAMB.out g off e).2; omega)) (fun g off e g2 off2 e2 => by have := (HAMB.out g off e).1; have := (HALT.out g2 off2 e2).1; omega))
            obtain ⟨w3, hw3⟩ : ∃ w3, w3 = wr := ⟨wr, rfl⟩
            subst hw3
            have HLL : Hid (l.length ≤ 60) := Lib.hid (by have := HNL.out; have := HN900.out; omega)
            have HAL1 := Lib.hid (all_any V.heap.size l w3 HST3.out.led (by have := HLL.out; omega))
            go_upto_region 20 with (go_at_call 12; with_reducible refine HAL1.out.mono ?_; intro e w4 h4; unfold CloEnd at h4; obtain ⟨Aa, ca, rfl, ho4, -, -, -, hb4⟩ := h4; have HO4 := Lib.hid ho4; have HB4 := Lib.hid hb4; clear ho4 hb4)
            have HSZ3 : Hid (w2.heap.size ≤ w3.heap.size) := Lib.hid HW.out.1.size
            have HWB : Hid (w1.heap.size ≤ w2.heap.size ∧ wr0.heap.size ≤ w1.heap.size) := Lib.hid ⟨HK2.out.size, HG1.out.size⟩
            clear HW
            have HST4 := Lib.hid (HST3.out.below HB4.out)
            have HWA : Hid (Writ w4 Aa 38 (l.length * 10) w4) := Lib.hid (Writ.ofCh HO4.out)
            have HAD := Lib.hid (ch_roaddr HO4.out)
            have HNZ : Hid (Aa = none → l.length = 0) := Lib.hid (fun h => by have h1 := HO4.out.slC.nil h; have h2 := HO4.out.slC.len; omega)
            have HNS : Hid (l.length ≤ 60) := HLL
            go_wp2
            go_loopw [10] (fun v wr => ∃ k : Nat, k ≤ l.length ∧ v = .int .i64 k ∧ Writ w4 Aa 38 (l.length * 10) wr) (fun v _ => l.length - (intOf v).toNat)
            case atStart => exact ⟨0, Nat.zero_le _, rfl, HWA.out⟩
            case round =>
              obtain ⟨k, hkn, rfl, hw⟩ := hrel
              have HW := Lib.hid hw
              clear hw
              by_cases hin : k < l.length
              · rcases HAD.out with h1 | ⟨gm, rfl⟩
                · exact absurd (HNZ.out h1) (by omega)
                · obtain ⟨⟨u9, hu9⟩, hf9⟩ := HW.out.cell (k * 10 + 2) (by omega)
                  have hz : (k : Int) < (l.length : Int) := by omega
                  have hkb : k < 1000 := by have := HNS.out; omega
                  go_wp2
                  go_roundw
                  case rel => exact ⟨k + 1, by omega, by go_num, HW.out.step _ _⟩
                  case measure => (simp [intOf]; omega)
              · have hz : ¬ ((k : Int) < (l.length : Int)) := by omega
                clear hin hkn
                clear HWA HAD HNZ HNS
                have HST5 : Hid (Stands V W (Sx (fun k => k = V.heap.size) w1 w2) A n cap l wr) := Lib.hid (HST4.out.writ HW.out (fun g off e => by have := (HO4.out.lt g off e).2.1; have := HST3.out.b.size; omega) (fun g off e h => by have h9 := (HO4.out.lt g off e).2.1; have h8 := HST3.out.b.size; have h7 := HSZ3.out; rcases h.or with h1 | ⟨-, h1⟩; (have h1 : g = V.heap.size := h1; have := HST3.out.led.lt V.heap.size (by left; rfl); omega); omega) (fun g off e g2 off2 e2 => by have := (HO4.out.lt g off e).2.1; have := (HALT.out g2 off2 e2).1; have := HWB.out; have := HSZ3.out; omega))
                obtain ⟨w5, hw5⟩ : ∃ w5, w5 = wr := ⟨wr, rfl⟩
                subst hw5
                have HSZ5 : Hid (w4.heap.size ≤ w5.heap.size ∧ w3.heap.size ≤ w4.heap.size) := Lib.hid ⟨HW.out.1.size, HB4.out.size⟩
                clear HW
                have HVW5 := Lib.hid (view_doc V.heap.size l w5 HST5.out.led (by have := HLL.out; omega) HMD.out.six)
                have HRL : Hid ((rvL l).length ≤ 60) := Lib.hid (Nat.le_trans (rvL_len l) HLL.out)
                go_upto_region 25 with (go_at_call 15; with_reducible refine HVW5.out.mono ?_; intro e w6 h6; unfold RvEnd at h6; obtain ⟨Av, cv, rfl, ho6, hb6⟩ := h6; have HO6 := Lib.hid ho6; have HB6 := Lib.hid hb6; clear ho6 hb6)
                have HST6 := Lib.hid (HST5.out.below HB6.out)
                have HWA : Hid (Writ w6 Av 36 ((rvL l).length * 8) w6) := Lib.hid (Writ.ofPw HO6.out)
                have HAD := Lib.hid (pw_roaddr HO6.out)
                have HNZ : Hid (Av = none → (rvL l).length = 0) := Lib.hid (fun h => by have h1 := HO6.out.caps.2.2 h; have h2 := HO6.out.caps.1; omega)
                have HNS : Hid ((rvL l).length ≤ 60) := HRL
                go_wp2
                go_loopw [12] (fun v wr => ∃ k : Nat, k ≤ (rvL l).length ∧ v = .int .i64 k ∧ Writ w6 Av 36 ((rvL l).length * 8) wr) (fun v _ => (rvL l).length - (intOf v).toNat)
                case atStart => exact ⟨0, Nat.zero_le _, rfl, HWA.out⟩
                case round =>
                  obtain ⟨k, hkn, rfl, hw⟩ := hrel
                  have HW := Lib.hid hw
                  clear hw
                  by_cases hin : k < (rvL l).length
                  · rcases HAD.out with h1 | ⟨gm, rfl⟩
                    · exact absurd (HNZ.out h1) (by omega)
                    · obtain ⟨⟨u9, hu9⟩, hf9⟩ := HW.out.cell (k * 8) (by omega)
                      have hz : (k : Int) < ((rvL l).length : Int) := by omega
                      have hkb : k < 1000 := by have := HNS.out; omega
                      go_wp2
                      go_roundw
                      case rel => exact ⟨k + 1, by omega, by go_num, HW.out.step _ _⟩
                      case measure => (simp [intOf]; omega)
                  · have hz : ¬ ((k : Int) < ((rvL l).length : Int)) := by omega
                    clear hin hkn
                    clear HWA HAD HNZ HNS
                    have HST7 : Hid (Stands V W (Sx (fun k => k = V.heap.size) w1 w2) A n cap l wr) := Lib.hid (HST6.out.writ HW.out (fun g off e => by have := (HO6.out.lt g off e).2.1; have := HST5.out.b.size; omega) (fun g off e h => by have h9 := (HO6.out.lt g off e).2.1; have h8 := HST5.out.b.size; have h7 := HSZ3.out; have h6 := HSZ5.out; rcases h.or with h1 | ⟨-, h1⟩; (have h1 : g = V.heap.size := h1; have := HST5.out.led.lt V.heap.size (by left; rfl); omega); omega) (fun g off e g2 off2 e2 => by have := (HO6.out.lt g off e).2.1; have := (HALT.out g2 off2 e2).1; have := HWB.out; have := HSZ3.out; have := HSZ5.out; omega))
                    clear HW
                    obtain ⟨w7, hw7⟩ : ∃ w7, w7 = wr := ⟨wr, rfl⟩
                    subst hw7
                    have HAL7 : Hid (Calls Try.prog 12 #[.pointer (some ⟨V.heap.size, 0, none⟩)] w7 (CloEnd w7 n l)) := Lib.hid (by rw [HNL.out]; exact all_any V.heap.size l w7 HST7.out.led (by have := HLL.out; omega))
                    have hn0 := add_nil A n cap
                    go_wp2_with (first
                      | (go_at_call 12; with_reducible refine HAL7.out.mono ?_; intro e w8 h8; unfold CloEnd at h8; obtain ⟨A8, c8, rfl, ho8, -, -, -, hb8⟩ := h8; have HST8 := Lib.hid (HST7.out.below hb8); have HSC := Lib.hid (rsame16 A8 A n c8 cap l HNL.out (by have := HN900.out; omega) HMD.out.ok w8 (Lib.hid ho8.at') (Lib.hid HST8.out.own.at')); clear ho8 hb8)
                      | (go_at_call 11; with_reducible refine HSC.out.mono ?_; rintro e w9 ⟨rfl, hb9⟩; have HST9 := Lib.hid (HST8.out.below hb9); have HV9 := Lib.hid (view_doc V.heap.size l w9 HST9.out.led (by have := HLL.out; omega) HMD.out.six); clear hb9)
                      | (go_at_call 15; with_reducible refine HV9.out.mono ?_; intro e w10 h10; unfold RvEnd at h10; obtain ⟨A10, c10, rfl, ho10, hb10⟩ := h10; have HO10 := Lib.hid ho10; have HST10 := Lib.hid (HST9.out.below hb10); have HR10 := Lib.hid (rview_any A n cap l HNL.out (by have := HN900.out; omega) w10 (Lib.hid HST10.out.own.at')); clear ho10 hb10)
                      | (go_at_call 16; with_reducible refine HR10.out.mono ?_; intro e w11 h11; unfold RvEnd at h11; obtain ⟨A11, c11, rfl, ho11, hb11⟩ := h11; have HST11 := Lib.hid (HST10.out.below hb11); have HSV := Lib.hid (rsame13 A10 A11 (rvL l).length c10 c11 (rvL l) rfl (by have := HRL.out; omega) (rvL_ok l HMD.out.val (by have := HLL.out; omega) HMD.out.ok) w11 (Lib.hid (HO10.out.at'.keep hb11)) (Lib.hid ho11.at')); clear ho11 hb11)
                      | (go_at_call 14; with_reducible refine HSV.out.mono ?_; rintro e w12 ⟨rfl, hb12⟩; have HST12 := Lib.hid (HST11.out.below hb12); clear hb12)
                      | (go_at_call 10; with_reducible refine (hn0 _).mono ?_; rintro e w13 ⟨rfl, rfl⟩)
                      | (go_at_call 13; with_reducible refine (len_nil _).mono ?_; rintro e w14 ⟨rfl, rfl⟩)
                      | (go_at_call 12; with_reducible refine (all_nil _).mono ?_; rintro e w15 ⟨rfl, rfl⟩)
                      | (go_at_call 15; with_reducible refine (view_nil _).mono ?_; rintro e w16 ⟨rfl, rfl⟩))
                    go_ret
                    exact ⟨rfl, bto HBW0.out HST12.out.b⟩
end Go.Proofs.Ytkhldnihboklaaa
