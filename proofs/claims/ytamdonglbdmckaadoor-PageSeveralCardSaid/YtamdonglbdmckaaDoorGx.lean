/-
  The law PageReads.
-/
import Derived.Test.YtamdonglbdmckaaDoorGo
set_option linter.unusedSimpArgs false
set_option linter.unusedVariables false
namespace Go.Proofs.YtamdonglbdmckaaDoor
open Go.RowKit

theorem conv_at {w w' : World} {A : Option Addr} {l : List Nat} (n C : Nat) (h : Hid (ByAt w A l)) (hb : Below w.heap.size w w') (hn : n = l.length) : (convert 22 9 (.slice A n C)).run Tryd.prog w' = .ok (.string (strB l)) w' := conv_by n C (h.out.keep hb) hn
theorem below_to {W w w' : World} (h : Below W.heap.size W w) (h' : Below w.heap.size w w') : Below W.heap.size W w' := h.trans (h'.mono h.size)

/-- A law's first lines: where its input is too long. -/
theorem pageReads_long (a : Option Addr) (l : List Nat) (len cap : Nat) (i : Int) (kind : Nat) (hL : 3000 < len) (W : World) (HG : Hid (HalvesAt W)) :
    Calls Tryd.prog 5 #[.slice a len cap, .int .i64 i, .int .u8 (kind : Int)] W fun e w' => e = .returned (.bool true) ∧ Below W.heap.size W w' := by
  go_enter Tryd.func5, Tryd.ntmps5
  go_wp2_with (go_at_call 9; refine (awake_any _ HG).mono ?_; rintro e w1 ⟨rfl, hb⟩; have HB := Lib.hid hb; clear hb)
  have HG1 := HalvesAt.at HG HB.out
  go_wp2_with (go_at_call 9; refine (awake_any _ HG1).mono ?_; rintro e w2 ⟨rfl, hb⟩; have HB2 := Lib.hid hb; clear hb)
  go_ret
  exact ⟨ret_eq rfl, below_to HB.out HB2.out⟩

set_option maxHeartbeats 4000000 in
theorem pageReads_short (a : Option Addr) (l : List Nat) (len cap : Nat) (hlen : Hid (len = l.length)) (hcap : len ≤ cap) (hl : cap ≤ maxLen) (i : Int) (kind : Nat) (hL : ¬ 3000 < len) (W : World) (HA : Hid (ByAt W a l)) (HG : Hid (HalvesAt W)) :
    Calls Tryd.prog 5 #[.slice a len cap, .int .i64 i, .int .u8 (kind : Int)] W fun e w' => e = .returned (.bool true) ∧ Below W.heap.size W w' := by
  by_cases hE : Pg.errAt l i = 0
  all_goals
    first
    | (have t1 : (((Pg.errAt l i : Nat) : Int) == 0) = true := by rw [hE]; rfl
       have t2 : (((Pg.errAt l i : Nat) : Int) != 0) = false := by rw [hE]; rfl)
    | (have t1 : (((Pg.errAt l i : Nat) : Int) == 0) = false := by rw [beq_eq_false_iff_ne]; omega
       have t2 : (((Pg.errAt l i : Nat) : Int) != 0) = true := by rw [bne_iff_ne]; omega
       have t3 := Pg.kind_err hE
       have t4 := Pg.body_err hE
       have t5 := Pg.end_err hE)
    clear hE
    go_enter Tryd.func5, Tryd.ntmps5
    go_wp2_with (go_at_call 9; refine (awake_any _ HG).mono ?_; rintro e w1 ⟨rfl, hb⟩; have HB1 := Lib.hid hb; clear hb)
    have HG1 := HalvesAt.at HG HB1.out
    have HA1 := ByAt.at HA HB1.out
    go_wp2_with (go_at_call 14; refine (read_any a l len cap i hlen hcap hl _ HA1 HG1).mono ?_; rintro e w2 ⟨A2, C2, rfl, hA, hc1, hc2, hb⟩; have X2 := Lib.hid hA; have HB2 := Lib.hid hb; clear hA hb hc1 hc2)
    have HG2 := HalvesAt.at HG1 HB2.out
    have HA2 := ByAt.at HA1 HB2.out
    go_wp2_with (go_at_call 16; refine (refRead_any a l len cap i hlen hcap hl _ HA2).mono ?_; rintro e w3 ⟨A3, C3, rfl, hA, hc1, hc2, hb⟩; have X3 := Lib.hid hA; have HB3 := Lib.hid hb; clear hA hb hc1 hc2; have v2 := conv_at _ C2 X2 HB3.out rfl; have v3 := conv_at _ C3 X3 (Below.refl _ _) rfl)
    have HG3 := HalvesAt.at HG2 HB3.out
    have HA3 := ByAt.at HA2 HB3.out
    go_wp2_with (go_at_call 15; refine (one_any a l len cap kind hlen hcap hl _ HA3 HG3).mono ?_; rintro e w4 ⟨A4, C4, rfl, hA, hc1, hc2, hb⟩; have X4 := Lib.hid hA; have HB4 := Lib.hid hb; clear hA hb hc1 hc2)
    have HA4 := ByAt.at HA3 HB4.out
    clear v2 v3
    go_wp2_with (go_at_call 17; refine (refOne_any a l len cap kind hlen hcap hl _ HA4).mono ?_; rintro e w5 ⟨A5, C5, rfl, hA, hc1, hc2, hb⟩; have X5 := Lib.hid hA; have HB5 := Lib.hid hb; clear hA hb hc1 hc2; have v4 := conv_at _ C4 X4 HB5.out rfl; have v5 := conv_at _ C5 X5 (Below.refl _ _) rfl)
    go_ret
    exact ⟨ret_eq rfl, below_to (below_to (below_to (below_to HB1.out HB2.out) HB3.out) HB4.out) HB5.out⟩

theorem pageReads_any (a : Option Addr) (l : List Nat) (len cap : Nat) (hlen : Hid (len = l.length)) (hcap : len ≤ cap) (hl : cap ≤ maxLen) (i : Int) (bi : -9223372036854775808 ≤ i ∧ i ≤ 9223372036854775807) (kind : Nat) (bk : kind < 256) (W : World) (HA : Hid (ByAt W a l)) (HG : Hid (HalvesAt W)) :
    Calls Tryd.prog 5 #[.slice a len cap, .int .i64 i, .int .u8 (kind : Int)] W fun e w' => e = .returned (.bool true) ∧ Below W.heap.size W w' := by
  by_cases hL : 3000 < len
  · exact pageReads_long a l len cap i kind hL W HG
  · exact pageReads_short a l len cap hlen hcap hl i kind hL W HA HG
end Go.Proofs.YtamdonglbdmckaaDoor
