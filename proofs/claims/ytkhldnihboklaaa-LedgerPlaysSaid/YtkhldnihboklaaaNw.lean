/-
  Layer ledger: LedgerPlays' walk.
-/
import Derived.Test.YtkhldnihboklaaaNt
set_option linter.unusedSimpArgs false
set_option linter.unusedVariables false
set_option maxRecDepth 8000
namespace Go.Proofs.Ytkhldnihboklaaa
open Go.RowKit Go.Sort

/-- A list of acts that lies somewhere. -/
structure SlA where
  a : Option Addr
  cap : Nat
  l : List Acx
def SlA.v (s : SlA) : Value := .slice s.a s.l.length s.cap
def LlAt (w : World) (a : Option Addr) (Ss : List SlA) : Prop := ∀ (j : Nat) (s : SlA), Ss[j]? = some s → ∃ g off, a = some ⟨g, off, none⟩ ∧ g < w.heap.size ∧ w.cell? ⟨g, off + j, none⟩ = some s.v ∧ AcAt w s.a s.l
theorem LlAt.keep {w w' : World} {a : Option Addr} {Ss : List SlA} (h : LlAt w a Ss) (hb : Below w.heap.size w w') : LlAt w' a Ss := fun j s hs => by
  obtain ⟨g, off, h1, h2, h3, h4⟩ := h j s hs
  exact ⟨g, off, h1, Nat.lt_of_lt_of_le h2 hb.size, (hb.cell (p := ⟨g, off + j, none⟩) h2).trans h3, h4.keep hb⟩
/-- The ledger and the document's list. -/
structure Play (V : World) (S : Nat → Prop) (A : Option Addr) (n cap : Nat) (l : List Chg) (w : World) : Prop where
  led : LedE S w V.heap.size l
  own : OwnCh w V.heap.size A n cap l
  apart : ∀ g off, A = some ⟨g, off, none⟩ → ¬ S g
  six : InSix l
  b : Below V.heap.size V w
  sg : ∀ k, S k → V.heap.size ≤ k
theorem Play.below {V : World} {S : Nat → Prop} {A : Option Addr} {n cap : Nat} {l : List Chg} {w w' : World} (h : Play V S A n cap l w) (hb : Below w.heap.size w w') : Play V S A n cap l w' :=
  ⟨h.led.below hb, h.own.below hb (fun g off e => (h.own.lt g off e).1), h.apart, h.six, bto h.b hb, h.sg⟩
theorem Play.ok {V : World} {S : Nat → Prop} {A : Option Addr} {n cap : Nat} {l : List Chg} {w : World} (h : Play V S A n cap l w) : (∀ c ∈ l, c.Ok) ∧ Val l := by obtain ⟨A', n', cap', mv, M, h2⟩ := h.led; exact ⟨h2.ok, h2.val⟩
def RPL (V : World) (u v : Value) (wr : World) : Prop := ∃ (i : Nat) (A : Option Addr) (n cap : Nat) (l : List Chg) (S : Nat → Prop), v = .int .i64 i ∧ n ≤ 8 * i ∧ i ≤ 15 ∧ u = .slice A n cap ∧ Play V S A n cap l wr
def RPI (w0 : World) (u v : Value) (wr : World) : Prop := ∃ (k : Nat) (A : Option Addr) (m cap : Nat) (more : List Chg), v = .int .i64 k ∧ m ≤ k ∧ k ≤ 8 ∧ u = .slice A m cap ∧ OwnCh wr w0.heap.size A m cap more ∧ (∀ c ∈ more, c.Ok) ∧ InSix more ∧ Below w0.heap.size w0 wr
set_option maxHeartbeats 8000000 in
theorem plays_any (aL : Option Addr) (N cL : Nat) (Ss : List SlA) (hN : N = Ss.length) (hso : ∀ s ∈ Ss, ∀ a ∈ s.l, a.Ok) (W0 : World) (HL0 : Hid (LlAt W0 aL Ss)) :
    Calls Try.prog 3 #[.slice aL N cL] W0 fun e w' => e = .returned (.bool true) ∧ Below W0.heap.size W0 w' := by
  have HNS := Lib.hid hN; have HSO := Lib.hid hso
  have HAW := Lib.hid (lawake_any W0)
  clear hN hso
  go_enter Try.func3, Try.ntmps3
  go_upto_region 4 with (go_at_call 7; refine HAW.out.mono ?_; rintro e V ⟨rfl, hbW⟩; have HBW0 := Lib.hid hbW; clear hbW)
  obtain ⟨W, hW⟩ : ∃ W, W = V.alloc (.cells #[.slice none 0 0, .map none] 27) := ⟨_, rfl⟩
  rw [← hW]
  have HVW : Hid (Below V.heap.size V W) := Lib.hid (by rw [hW]; exact (Below.refl _ _).alloc (Nat.le_refl _) _)
  have HLG0 : Hid (LedE (fun k => k = V.heap.size) W V.heap.size []) := Lib.hid (by rw [hW]; exact led_new V _ rfl)
  clear hW
  have HLV : Hid (LlAt V aL Ss) := Lib.hid (HL0.out.keep HBW0.out)
  go_wp2
  go_loopw [4, 5] (fun u v wr => RPL V u v wr) (fun _ v _ => 15 - (intOf v).toNat)
  case atStart => exact ⟨0, none, 0, 0, [], _, rfl, Nat.le_refl _, by decide, rfl, HLG0.out, OwnCh.nil _ _, (fun g off e => by cases e), (fun c hc => by cases hc), HVW.out, (fun k hk => by have hk : k = V.heap.size := hk; omega)⟩
  case round =>
    obtain ⟨i, A, n, cap, l, S, rfl, hni, hi15, rfl, hpl⟩ := hrel
    have HPL := Lib.hid hpl; have HNL : Hid (n = l.length) := Lib.hid hpl.own.len; have HNI := Lib.hid hni
    clear hpl hni
    by_cases hin : i < N ∧ i < 15
    · obtain ⟨hin1, hin2⟩ := hin
      obtain ⟨s, hs⟩ : ∃ s, Ss[i]? = some s := ⟨Ss[i]'(by have := HNS.out; omega), List.getElem?_eq_getElem _⟩
      obtain ⟨gl, ofl, rfl, hgl, hcl, hal⟩ := HLV.out i s hs
      have HSOK := Lib.hid (HSO.out s (List.mem_of_getElem? hs))
      have HCL := Lib.hid hcl; have HAL := Lib.hid hal; have HGL := Lib.hid hgl
      obtain ⟨w0, hw0⟩ : ∃ w0, w0 = wr := ⟨wr, rfl⟩
      subst hw0
      obtain ⟨sa, sc, sl⟩ := s
      obtain ⟨ns, hns⟩ : ∃ ns, ns = sl.length := ⟨_, rfl⟩
      have HSN := Lib.hid hns
      have HCELL : Hid (∀ w, Below V.heap.size V w → w.cell? ⟨gl, ofl + i, none⟩ = some (.slice sa ns sc)) := Lib.hid (fun w hb => by rw [hns]; exact (hb.cell (p := ⟨gl, ofl + i, none⟩) HGL.out).trans HCL.out)
      clear hs hcl hal hgl hns
      have hz : (i : Int) < (N : Int) := by omega
      have hz2 : (i : Int) < 15 := by omega
      go_wp2
      go_loopw [6, 7] (fun u v wk => RPI w0 u v wk) (fun _ v _ => 8 - (intOf v).toNat)
      case atStart => exact ⟨0, none, 0, 0, [], rfl, Nat.le_refl _, by decide, rfl, OwnCh.nil _ _, (fun c hc => by cases hc), (fun c hc => by cases hc), Below.refl _ _⟩
      case round =>
        obtain ⟨k, Am, m, cm, more, rfl, hmk, hk8, rfl, hom, hokm, hsm, hbm⟩ := hrel
        obtain ⟨wk, hwk⟩ : ∃ wk, wk = wr := ⟨wr, rfl⟩
        subst hwk
        have HOM := Lib.hid hom; have HOKM := Lib.hid hokm; have HSM := Lib.hid hsm; have HBM := Lib.hid hbm
        clear hom hokm hsm hbm
        have HVK : Hid (Below V.heap.size V wk) := Lib.hid (HPL.out.b.trans (HBM.out.mono HPL.out.b.size))
        have HPK := Lib.hid (HPL.out.below HBM.out)
        have hcell : wk.cell? ⟨gl, ofl + i, none⟩ = some (.slice sa ns sc) := HCELL.out wk HVK.out
        by_cases hkn : k < ns ∧ k < 8
        · obtain ⟨hkn1, hkn2⟩ := hkn
          obtain ⟨a, ha⟩ : ∃ a, sl[k]? = some a := ⟨sl[k]'(by have := HSN.out; omega), List.getElem?_eq_getElem _⟩
          have haok := HSOK.out a (List.mem_of_getElem? ha)
          obtain ⟨ga, ofa, hsa, hga, hra⟩ := acr HAL.out k a ha
          have hsa : sa = some ⟨ga, ofa, none⟩ := hsa
          subst hsa
          have HXV := Lib.hid hra; have HGA := Lib.hid hga; have HSIX := Lib.hid (actP_six a)
          have HLM : Hid (n + m = (([] ++ l) ++ more).length) := Lib.hid (by rw [List.nil_append, List.length_append, ← HNL.out, ← HOM.out.len])
          have HOKL : Hid (∀ c ∈ ([] ++ l) ++ more, c.Ok) := Lib.hid (fun c hc => by
            rw [List.nil_append] at hc
            rcases List.mem_append.1 hc with h | h
            · exact HPL.out.ok.1 c h
            · exact HOKM.out c h)
          have HN120 : Hid (n ≤ 120 ∧ m ≤ 8) := Lib.hid (by have := HNI.out; omega)
          have HMK := Lib.hid hmk
          clear hra hga ha hmk
          have hk1 : (k : Int) < (ns : Int) := by omega
          have hk2 : (k : Int) < 8 := by omega
          go_wp2_with (first
            | (at_builtin; refine wpList_append_ch rfl (.tmp 37) (.tmp 38) rfl wk.heap.size none 0 0 [] rfl (OwnCh.nil _ _) A n cap l rfl HNL.out HPK.out.own.at' HPK.out.own.slC.nil n (by omega) (by have := HN120.out; omega) (Nat.le_refl _) ?_; intro A1 c1 w1 ho1 hc1 hm1 hn1 hb1 hg1 ha1; have HO1 := Lib.hid ho1; have HB1 := Lib.hid hb1; have HOM1 : Hid (OwnCh w1 w0.heap.size Am m cm more) := Lib.hid (HOM.out.below hb1 (fun g' off' e => (HOM.out.lt g' off' e).1)); clear ho1 hc1 hm1 hn1 hb1 hg1 ha1)
            | (at_builtin; refine wpList_append_ch rfl (.tmp 40) (.tmp 41) rfl wk.heap.size A1 n c1 ([] ++ l) rfl HO1.out Am m cm more rfl HOM.out.len HOM1.out.at' HOM.out.slC.nil (n + m) rfl (by have := HN120.out; omega) HB1.out.size ?_; intro A2 c2 w2 ho2 hc2 hm2 hn2 hb2 hg2 ha2; have HO2 := Lib.hid ho2; have HB2 := Lib.hid (HB1.out.trans hb2); have HV2 : Hid (Below V.heap.size V w2) := Lib.hid (bto HVK.out (HB1.out.trans hb2)); have hcell2 : w2.cell? ⟨gl, ofl + i, none⟩ = some (.slice (some ⟨ga, ofa, none⟩) ns sc) := HCELL.out w2 HV2.out; have HX2 : Hid (w2.rangeAt ga (ofa + k * 9) a.cells) := Lib.hid (rangeKeep HXV.out HGA.out HV2.out); have HCG := Lib.hid (change_any a haok A2 (n + m) c2 (([] ++ l) ++ more) HLM.out (by have := HN120.out; omega) HOKL.out w2 (Lib.hid ho2.at')); clear ho2 hc2 hm2 hn2 hb2 hg2 ha2)
            | (refine wpList_load_mid rfl 40 (.tmp 49) rfl ga (ofa + k * 9) rfl [.bool a.put, .int .u8 (a.key : Int), .int .u8 (a.w : Int), .int .u8 (a.near : Int), .int .u64 (a.t.c : Int), .float .f64 a.t.s, .bool a.t.o, .float .f64 a.t.lo, .float .f64 a.t.hi] _ HX2.out uAct rfl iAct ?_)
            | (go_at_call 8; with_reducible refine HCG.out.mono ?_; rintro e w3 ⟨⟨c, rfl, hcok, hcp⟩, hb3⟩; have HCO := Lib.hid hcok; have HCP := Lib.hid hcp; have HB3 := Lib.hid (bto HB2.out hb3); have HOM3 : Hid (OwnCh w3 w0.heap.size Am m cm more) := Lib.hid (HOM.out.below (bto HB2.out hb3) (fun g' off' e => (HOM.out.lt g' off' e).1)); clear hcok hcp hb3)
            | (at_builtin; refine wpList_append_ch rfl (.tmp 43) (.tmp 53) rfl w0.heap.size Am m cm more rfl (HOM3.out.below ((Below.refl _ _).alloc (Nat.le_refl _) _) (fun g' off' e => (HOM3.out.lt g' off' e).1)) (some ⟨w3.heap.size, 0, none⟩) 1 1 [c] rfl rfl (chAt_new' w3 _ [c] _ rfl _ rfl) (fun h => by cases h) (m + 1) rfl (by have := HN120.out; omega) ((bto HBM.out HB3.out).alloc (bto HBM.out HB3.out).size _).size ?_; intro A4 c4 w4 ho4 hc4 hm4 hn4 hb4 hg4 ha4; have HO4 := Lib.hid ho4; have HB4 := Lib.hid (((bto HBM.out HB3.out).alloc (bto HBM.out HB3.out).size _).trans hb4); clear ho4 hc4 hm4 hn4 hb4 hg4 ha4))
          go_roundw
          case rel => exact ⟨k + 1, A4, m + 1, c4, more ++ [c], by go_num, by have := HMK.out; omega, by omega, rfl, HO4.out, (fun d hd => by
            rcases List.mem_append.1 hd with h | h
            · exact HOKM.out d h
            · rw [List.mem_singleton] at h; subst h; exact HCO.out), HSM.out.append (fun d hd => by rw [List.mem_singleton] at hd; subst hd; rw [HCP.out]; exact HSIX.out), HB4.out⟩
          case measure => (simp [intOf]; omega)
        · have HM8 : Hid (m ≤ 8) := Lib.hid (by omega)
          have hq : ((k : Int) < (ns : Int) ∧ ¬ ((k : Int) < 8)) ∨ ¬ ((k : Int) < (ns : Int)) := by omega
          clear hkn hmk hk8
          have HRA := Lib.hid (radd_any A n cap l Am m cm more HNL.out HOM.out.len (by have := HNI.out; have := HM8.out; omega) HPK.out.own.slC.nil HPK.out.ok.2 HPK.out.ok.1 HOKM.out wk (Lib.hid HPK.out.own.at') (Lib.hid HOM.out.at'))
          have HLEN : Hid (l.length + m ≤ 900) := Lib.hid (by have := HNI.out; have := HNL.out; have := HM8.out; omega)
          have HOK2 := HPK.out.ok
          rcases hacc : accB l more with _ | _
          · have HRA2 : Hid (Calls Try.prog 9 #[.slice A n cap, .slice Am m cm] wk fun e w' => e = .returned (.tuple #[.slice A n cap, .bool false]) ∧ Below wk.heap.size wk w') := Lib.hid (HRA.out.mono (by
              rintro e w' ⟨hb, ⟨rfl, -⟩ | ⟨A', N', cap', -, h, -⟩⟩
              · exact ⟨rfl, hb⟩
              · rw [hacc] at h; cases h))
            have HADN : Hid (∀ w1, Below wk.heap.size wk w1 → Calls Try.prog 10 #[.pointer (some ⟨V.heap.size, 0, none⟩), .slice Am m cm] w1 fun e w' => e = .returned (.int .i64 7) ∧ Kept S w1 w' ∧ LedE S w' V.heap.size l) := Lib.hid (fun w1 hb => add_no V.heap.size l Am m cm more HOM.out.len HLEN.out HOM.out.slC HOKM.out w1 (Lib.hid (HOM.out.at'.keep hb)) (HPK.out.led.below hb) hacc)
            clear hacc HRA HOK2
            rcases hq with ⟨hk1, hk2⟩ | hk1
            all_goals
              go_upto_region 18 with (first
                | (go_at_call 9; with_reducible refine HRA2.out.mono ?_; rintro e w1 ⟨rfl, hb1⟩; have HB1 := Lib.hid hb1; have HP1 := Lib.hid (HPK.out.below hb1); have HAD9 := Lib.hid (HADN.out w1 hb1); clear hb1)
                | (go_at_call 10; with_reducible refine HAD9.out.mono ?_; rintro e w2 ⟨rfl, hk9, hl9⟩; have HP2 : Hid (Play V S A n cap l w2) := Lib.hid ⟨hl9, HP1.out.own.same (fun g off e => hk9.block g (HP1.out.own.lt g off e).1 (HP1.out.apart g off e)), HP1.out.apart, HP1.out.six, HP1.out.b.trans (hk9.below HP1.out.b.size HP1.out.sg), HP1.out.sg⟩; clear hk9 hl9))
              have HNL2 : Hid (n = (l).length) := Lib.hid HP2.out.own.len
              have HLL : Hid ((l).length ≤ 200) := Lib.hid (by have := HNI.out; have := HNL.out; have := HM8.out; have := HOM.out.len; (try simp only [List.length_append]); omega)
              have HNB : Hid (n ≤ 8 * (i + 1)) := Lib.hid (by have h1 := HNL2.out; have := HNI.out; have := HNL.out; have := HM8.out; have := HOM.out.len; (try simp only [List.length_append] at h1); omega)
              have HAL7 : Hid (Calls Try.prog 12 #[.pointer (some ⟨V.heap.size, 0, none⟩)] w2 (CloEnd w2 n (l))) := Lib.hid (by rw [HNL2.out]; exact all_any V.heap.size (l) w2 HP2.out.led (by have := HLL.out; omega))
              have HNX : Hid (n ≤ 200) := Lib.hid (by have := HNL2.out; have := HLL.out; omega)
              have hnx := HNX.out
              go_wp2_with (first
                | (go_at_call 12; with_reducible refine HAL7.out.mono ?_; intro e w8 h8; unfold CloEnd at h8; obtain ⟨A8, c8, rfl, ho8, -, -, -, hb8⟩ := h8; have HP8 := Lib.hid (HP2.out.below hb8); have HSC := Lib.hid (rsame16 A8 A n c8 cap (l) HNL2.out (by have := HNX.out; omega) HP2.out.ok.1 w8 (Lib.hid ho8.at') (Lib.hid HP8.out.own.at')); clear ho8 hb8)
                | (go_at_call 11; with_reducible refine HSC.out.mono ?_; rintro e w9 ⟨rfl, hb9⟩; have HP9 := Lib.hid (HP8.out.below hb9); have HLE9 : Hid (Calls Try.prog 13 #[.pointer (some ⟨V.heap.size, 0, none⟩)] w9 fun e w' => e = .returned (.int .i64 (n : Int)) ∧ w' = w9) := Lib.hid (by rw [HNL2.out]; exact len_any V.heap.size (l) w9 HP9.out.led (by have := HLL.out; omega)); have HV9 := Lib.hid (view_doc V.heap.size (l) w9 HP9.out.led (by have := HLL.out; omega) HP9.out.six); clear hb9)
                | (go_at_call 13; with_reducible refine HLE9.out.mono ?_; rintro e wL ⟨rfl, rfl⟩)
                | (go_at_call 15; with_reducible refine HV9.out.mono ?_; intro e w10 h10; unfold RvEnd at h10; obtain ⟨A10, c10, rfl, ho10, hb10⟩ := h10; have HO10 := Lib.hid ho10; have HP10 := Lib.hid (HP9.out.below hb10); have HR10 := Lib.hid (rview_any A n cap (l) HNL2.out (by have := HNX.out; omega) w10 (Lib.hid HP10.out.own.at')); clear ho10 hb10)
                | (go_at_call 16; with_reducible refine HR10.out.mono ?_; intro e w11 h11; unfold RvEnd at h11; obtain ⟨A11, c11, rfl, ho11, hb11⟩ := h11; have HP11 := Lib.hid (HP10.out.below hb11); have HSV := Lib.hid (rsame13 A10 A11 (rvL (l)).length c10 c11 (rvL (l)) rfl (by have := rvL_len (l); have := HLL.out; omega) (rvL_ok (l) HP2.out.ok.2 (by have := HLL.out; omega) HP2.out.ok.1) w11 (Lib.hid (HO10.out.at'.keep hb11)) (Lib.hid ho11.at')); clear ho11 hb11)
                | (go_at_call 14; with_reducible refine HSV.out.mono ?_; rintro e w12 ⟨rfl, hb12⟩; have HP12 := Lib.hid (HP11.out.below hb12); clear hb12))
              go_roundw
              case rel => exact ⟨i + 1, A, n, cap, l, S, by go_num, HNB.out, by omega, rfl, HP12.out⟩
              case measure => (simp [intOf]; omega)
          · have HRA2 : Hid (Calls Try.prog 9 #[.slice A n cap, .slice Am m cm] wk fun e w' => ∃ (A' : Option Addr) (N' cap' : Nat), e = .returned (.tuple #[.slice A' N' cap', .bool true]) ∧ OwnCh w' wk.heap.size A' N' cap' (l ++ more) ∧ Below wk.heap.size wk w') := Lib.hid (HRA.out.mono (by
              rintro e w' ⟨hb, ⟨rfl, h⟩ | ⟨A', N', cap', rfl, h, ho, -⟩⟩
              · rw [hacc] at h; cases h
              · exact ⟨A', N', cap', rfl, ho, hb⟩))
            have HADY : Hid (∀ w1, Below wk.heap.size wk w1 → Calls Try.prog 10 #[.pointer (some ⟨V.heap.size, 0, none⟩), .slice Am m cm] w1 fun e w' => e = .returned (.int .i64 0) ∧ Kept S w1 w' ∧ LedE (Sx S w1 w') w' V.heap.size (l ++ more)) := Lib.hid (fun w1 hb => add_ok V.heap.size l Am m cm more HOM.out.len HLEN.out HOM.out.slC HOKM.out w1 (Lib.hid (HOM.out.at'.keep hb)) (HPK.out.led.below hb) hacc)
            clear hacc HRA HOK2
            rcases hq with ⟨hk1, hk2⟩ | hk1
            all_goals
              go_upto_region 18 with (first
                | (go_at_call 9; with_reducible refine HRA2.out.mono ?_; rintro e w1 ⟨A', N', cap', rfl, ho1, hb1⟩; have HO1 := Lib.hid ho1; have HB1 := Lib.hid hb1; have HP1 := Lib.hid (HPK.out.below hb1); have HAD9 := Lib.hid (HADY.out w1 hb1); clear ho1 hb1)
                | (go_at_call 10; with_reducible refine HAD9.out.mono ?_; rintro e w2 ⟨rfl, hk9, hl9⟩; have HAP : Hid (∀ g off, A' = some ⟨g, off, none⟩ → ¬ S g ∧ g < w1.heap.size) := Lib.hid (fun g off e => ⟨fun h => by have h1 := HPK.out.led.lt g h; have h2 := (HO1.out.lt g off e).2.1; omega, (HO1.out.lt g off e).1⟩); have HP2 : Hid (Play V (Sx S w1 w2) A' N' cap' (l ++ more) w2) := Lib.hid ⟨hl9, (HO1.out.same (fun g off e => hk9.block g (HAP.out g off e).2 (HAP.out g off e).1)).less HVK.out.size, (fun g off e h => by rcases h.or with h1 | ⟨h1, -⟩; exact absurd h1 (HAP.out g off e).1; have := (HAP.out g off e).2; omega), HP1.out.six.append HSM.out, HP1.out.b.trans (hk9.below HP1.out.b.size HP1.out.sg), (fun k hk => by rcases hk.or with h1 | ⟨h1, -⟩; exact HP1.out.sg k h1; have := HP1.out.b.size; omega)⟩; clear hk9 hl9))
              have HNL2 : Hid (N' = (l ++ more).length) := Lib.hid HP2.out.own.len
              have HLL : Hid ((l ++ more).length ≤ 200) := Lib.hid (by have := HNI.out; have := HNL.out; have := HM8.out; have := HOM.out.len; (try simp only [List.length_append]); omega)
              have HNB : Hid (N' ≤ 8 * (i + 1)) := Lib.hid (by have h1 := HNL2.out; have := HNI.out; have := HNL.out; have := HM8.out; have := HOM.out.len; (try simp only [List.length_append] at h1); omega)
              have HAL7 : Hid (Calls Try.prog 12 #[.pointer (some ⟨V.heap.size, 0, none⟩)] w2 (CloEnd w2 N' (l ++ more))) := Lib.hid (by rw [HNL2.out]; exact all_any V.heap.size (l ++ more) w2 HP2.out.led (by have := HLL.out; omega))
              have HNX : Hid (N' ≤ 200) := Lib.hid (by have := HNL2.out; have := HLL.out; omega)
              have hnx := HNX.out
              go_wp2_with (first
                | (go_at_call 12; with_reducible refine HAL7.out.mono ?_; intro e w8 h8; unfold CloEnd at h8; obtain ⟨A8, c8, rfl, ho8, -, -, -, hb8⟩ := h8; have HP8 := Lib.hid (HP2.out.below hb8); have HSC := Lib.hid (rsame16 A8 A' N' c8 cap' (l ++ more) HNL2.out (by have := HNX.out; omega) HP2.out.ok.1 w8 (Lib.hid ho8.at') (Lib.hid HP8.out.own.at')); clear ho8 hb8)
                | (go_at_call 11; with_reducible refine HSC.out.mono ?_; rintro e w9 ⟨rfl, hb9⟩; have HP9 := Lib.hid (HP8.out.below hb9); have HLE9 : Hid (Calls Try.prog 13 #[.pointer (some ⟨V.heap.size, 0, none⟩)] w9 fun e w' => e = .returned (.int .i64 (N' : Int)) ∧ w' = w9) := Lib.hid (by rw [HNL2.out]; exact len_any V.heap.size (l ++ more) w9 HP9.out.led (by have := HLL.out; omega)); have HV9 := Lib.hid (view_doc V.heap.size (l ++ more) w9 HP9.out.led (by have := HLL.out; omega) HP9.out.six); clear hb9)
                | (go_at_call 13; with_reducible refine HLE9.out.mono ?_; rintro e wL ⟨rfl, rfl⟩)
                | (go_at_call 15; with_reducible refine HV9.out.mono ?_; intro e w10 h10; unfold RvEnd at h10; obtain ⟨A10, c10, rfl, ho10, hb10⟩ := h10; have HO10 := Lib.hid ho10; have HP10 := Lib.hid (HP9.out.below hb10); have HR10 := Lib.hid (rview_any A' N' cap' (l ++ more) HNL2.out (by have := HNX.out; omega) w10 (Lib.hid HP10.out.own.at')); clear ho10 hb10)
                | (go_at_call 16; with_reducible refine HR10.out.mono ?_; intro e w11 h11; unfold RvEnd at h11; obtain ⟨A11, c11, rfl, ho11, hb11⟩ := h11; have HP11 := Lib.hid (HP10.out.below hb11); have HSV := Lib.hid (rsame13 A10 A11 (rvL (l ++ more)).length c10 c11 (rvL (l ++ more)) rfl (by have := rvL_len (l ++ more); have := HLL.out; omega) (rvL_ok (l ++ more) HP2.out.ok.2 (by have := HLL.out; omega) HP2.out.ok.1) w11 (Lib.hid (HO10.out.at'.keep hb11)) (Lib.hid ho11.at')); clear ho11 hb11)
                | (go_at_call 14; with_reducible refine HSV.out.mono ?_; rintro e w12 ⟨rfl, hb12⟩; have HP12 := Lib.hid (HP11.out.below hb12); clear hb12))
              go_roundw
              case rel => exact ⟨i + 1, A', N', cap', l ++ more, (Sx S w1 w2), by go_num, HNB.out, by omega, rfl, HP12.out⟩
              case measure => (simp [intOf]; omega)
    · have hq : ((i : Int) < (N : Int) ∧ ¬ ((i : Int) < 15)) ∨ ¬ ((i : Int) < (N : Int)) := by omega
      clear hin
      rcases hq with ⟨hz, hz2⟩ | hz
      all_goals
        go_wp2
        go_ret
        exact ⟨rfl, bto HBW0.out HPL.out.b⟩
end Go.Proofs.Ytkhldnihboklaaa
