/-
  Contracts of One, and of the document's.
-/
import Derived.Test.YtbimfopbilcdgaaDoorByK
import Derived.Test.YtbimfopbilcdgaaDoorGeK
set_option linter.unusedSimpArgs false
set_option linter.unusedVariables false
set_option maxRecDepth 8000
namespace Go.Proofs.YtbimfopbilcdgaaDoor
open Go.RowKit

namespace Pg
def oneErr (l : List Nat) (kind : Nat) : Nat := if errAt l 0 ≠ 0 then errAt l 0 else if kindAt l 0 = kind ∧ endAt l 0 = (l.length : Int) then 0 else 3
def oneBody (l : List Nat) (kind : Nat) : List Nat := if oneErr l kind = 0 then bodyAt l 0 else []
end Pg

/-- What One returns: a body, or an error. -/
def RetO (w : World) (l : List Nat) (kind : Nat) (e : Ending) (w' : World) : Prop := ∃ A cap, e = .returned (.tuple #[.slice A (Pg.oneBody l kind).length cap, .int .i64 (Pg.oneErr l kind : Nat)]) ∧
  ByAt w' A (Pg.oneBody l kind) ∧ (Pg.oneBody l kind).length ≤ cap ∧ cap ≤ maxLen ∧ Below w.heap.size w w'
theorem tup2_eq {A : Option Addr} {n n' c : Nat} {e e' : Int} (h2 : n = n') (h4 : e = e') : Ending.returned (.tuple #[.slice A n c, .int .i64 e]) = Ending.returned (.tuple #[.slice A n' c, .int .i64 e']) := by rw [h2, h4]
theorem RetO.err {w w' : World} {l : List Nat} {kind : Nat} {c : Int} (h : Pg.oneErr l kind ≠ 0) (hc : c = ((Pg.oneErr l kind : Nat) : Int)) (hb : Below w.heap.size w w') : RetO w l kind (.returned (.tuple #[.slice none 0 0, .int .i64 c])) w' := by
  have hb0 : Pg.oneBody l kind = [] := if_neg h
  exact ⟨none, 0, by rw [hb0, hc]; rfl, by rw [hb0]; exact ByAt.nil _ _, by rw [hb0]; exact Nat.le_refl _, Nat.zero_le _, hb⟩

set_option maxHeartbeats 2000000 in
theorem one_any (a : Option Addr) (l : List Nat) (len cap : Nat) (kind : Nat) (hlen : Hid (len = l.length)) (hc : len ≤ cap) (hl : cap ≤ maxLen) (w : World) (HA : Hid (ByAt w a l)) (HG : Hid (HalvesAt w)) :
    Calls Tryd.prog 10 #[.slice a len cap, .int .u8 (kind : Int)] w (RetO w l kind) := by
  have HQ : Hid (Calls Tryd.prog 23 #[.slice a len cap, .int .i64 0] w (RetQ w l 0)) := Lib.hid (read_any a l len cap 0 hlen hc hl w HA HG)
  have hO : Hid (Pg.oneErr l kind = if Pg.errAt l 0 ≠ 0 then Pg.errAt l 0 else if Pg.kindAt l 0 = kind ∧ Pg.endAt l 0 = (l.length : Int) then 0 else 3) := rfl
  have hB : Hid (Pg.oneBody l kind = if Pg.oneErr l kind = 0 then Pg.bodyAt l 0 else []) := rfl
  have HE : Hid (Pg.endAt l 0 = (l.length : Int) ↔ Pg.endAt l 0 = (len : Int)) := Lib.hid (by rw [hlen.out])
  by_cases h0 : Pg.errAt l 0 = 0
  · have t0 : (((Pg.errAt l 0 : Nat) : Int) != 0) = false := by rw [h0]; rfl
    have H0 := Lib.hid h0
    by_cases h1 : Pg.kindAt l 0 = kind
    · have t1 : (((Pg.kindAt l 0 : Nat) : Int) != (kind : Int)) = false := by rw [h1]; simp
      by_cases h2 : Pg.endAt l 0 = (len : Int)
      · have t2 : (Pg.endAt l 0 != (len : Int)) = false := by rw [h2]; simp
        have F : Hid (Pg.oneErr l kind = 0) := Lib.hid (by rw [hO.out, if_neg (by rw [h0]; exact fun h => h rfl), if_pos ⟨h1, HE.out.2 h2⟩])
        clear h0 h1 h2
        go_enter Tryd.func10, Tryd.ntmps10
        go_wp2_with (go_at_call 23; refine HQ.out.mono ?_; rintro e w2 ⟨A', cap', rfl, hA, hc1, hc2, hb⟩; have HA2 := Lib.hid hA; have HB2 := Lib.hid hb; clear hA hb)
        go_ret2
        have hbo : Pg.oneBody l kind = Pg.bodyAt l 0 := by rw [hB.out, if_pos F.out]
        exact ⟨A', cap', tup2_eq (by rw [hbo]) (by rw [F.out]; rfl), by rw [hbo]; exact HA2.out, by rw [hbo]; exact hc1, hc2, HB2.out⟩
      · have t2 : (Pg.endAt l 0 != (len : Int)) = true := by simpa using h2
        have F : Hid (Pg.oneErr l kind = 3) := Lib.hid (by rw [hO.out, if_neg (by rw [h0]; exact fun h => h rfl), if_neg (fun h => h2 (HE.out.1 h.2))])
        clear h0 h1 h2
        go_enter Tryd.func10, Tryd.ntmps10
        go_wp2_with (go_at_call 23; refine HQ.out.mono ?_; rintro e w2 ⟨A', cap', rfl, hA, hc1, hc2, hb⟩; have HA2 := Lib.hid hA; have HB2 := Lib.hid hb; clear hA hb)
        go_ret2
        exact RetO.err (by rw [F.out]; decide) (by rw [F.out]; rfl) HB2.out
    · have t1 : (((Pg.kindAt l 0 : Nat) : Int) != (kind : Int)) = true := by rw [bne_iff_ne]; omega
      have F : Hid (Pg.oneErr l kind = 3) := Lib.hid (by rw [hO.out, if_neg (by rw [h0]; exact fun h => h rfl), if_neg (fun h => h1 h.1)])
      clear h0 h1
      go_enter Tryd.func10, Tryd.ntmps10
      go_wp2_with (go_at_call 23; refine HQ.out.mono ?_; rintro e w2 ⟨A', cap', rfl, hA, hc1, hc2, hb⟩; have HA2 := Lib.hid hA; have HB2 := Lib.hid hb; clear hA hb)
      go_ret2
      exact RetO.err (by rw [F.out]; decide) (by rw [F.out]; rfl) HB2.out
  · have t0 : (((Pg.errAt l 0 : Nat) : Int) != 0) = true := by rw [bne_iff_ne]; omega
    have F : Hid (Pg.oneErr l kind = Pg.errAt l 0) := Lib.hid (by rw [hO.out, if_pos h0])
    have H0 := Lib.hid h0
    clear h0
    go_enter Tryd.func10, Tryd.ntmps10
    go_wp2_with (go_at_call 23; refine HQ.out.mono ?_; rintro e w2 ⟨A', cap', rfl, hA, hc1, hc2, hb⟩; have HA2 := Lib.hid hA; have HB2 := Lib.hid hb; clear hA hb)
    go_ret2
    exact RetO.err (by rw [F.out]; exact H0.out) (by rw [F.out]) HB2.out
end Go.Proofs.YtbimfopbilcdgaaDoor
