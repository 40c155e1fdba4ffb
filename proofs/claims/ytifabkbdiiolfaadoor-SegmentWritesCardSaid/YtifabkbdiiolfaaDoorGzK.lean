/-
  The document's Lay; the law PageLays.
-/
import Derived.Laws.BytesArg
import Derived.Test.YtifabkbdiiolfaaDoorByK
import Derived.Test.YtifabkbdiiolfaaDoorGqK
import Derived.Test.YtifabkbdiiolfaaDoorGyK
set_option linter.unusedSimpArgs false
set_option linter.unusedVariables false
set_option maxRecDepth 8000
namespace Go.Proofs.YtifabkbdiiolfaaDoor
open Go.RowKit
def part (b0 b1 b2 b3 : Nat) : Nat → Nat
 | 0 => 0
 | 1 => b3
 | 2 => b3 * 256 + b2
 | 3 => (b3 * 256 + b2) * 256 + b1
 | _ => ((b3 * 256 + b2) * 256 + b1) * 256 + b0
end Go.Proofs.YtifabkbdiiolfaaDoor

namespace Go.Proofs.YtifabkbdiiolfaaDoor
open Go.RowKit
namespace Pg
def oneErr (l : List Nat) (kind : Nat) : Nat := if errAt l 0 ≠ 0 then errAt l 0 else if kindAt l 0 = kind ∧ endAt l 0 = (l.length : Int) then 0 else 3
def oneBody (l : List Nat) (kind : Nat) : List Nat := if oneErr l kind = 0 then bodyAt l 0 else []
end Pg
/-- What One returns: a body, or an error. -/
def RetO (w : World) (l : List Nat) (kind : Nat) (e : Ending) (w' : World) : Prop := ∃ A cap, e = .returned (.tuple #[.slice A (Pg.oneBody l kind).length cap, .int .i64 (Pg.oneErr l kind : Nat)]) ∧
 ByAt w' A (Pg.oneBody l kind) ∧ (Pg.oneBody l kind).length ≤ cap ∧ cap ≤ maxLen ∧ Below w.heap.size w w'
theorem tup2_eq {A : Option Addr} {n n' c : Nat} {e e' : Int} (h2 : n = n') (h4 : e = e') : Ending.returned (.tuple #[.slice A n c, .int .i64 e]) = Ending.returned (.tuple #[.slice A n' c, .int .i64 e']) := by rw [h2, h4]
theorem RetO.err {w w' : World} {l : List Nat} {kind : Nat} {c : Int} (h : Pg.oneErr l kind ≠ 0) (hc : c = ((Pg.oneErr l kind : Nat) : Int)) (hb : Below w.heap.size w w') : RetO w l kind (.returned (.tuple #[.slice none 0 0, .int .i64 c])) w' := by
 have hb0 : Pg.oneBody l kind = [] := if_neg h
 exact ⟨none, 0, by rw [hb0, hc]; rfl, by rw [hb0]; exact ByAt.nil _ _, by rw [hb0]; exact Nat.le_refl _, Nat.zero_le _, hb⟩
set_option maxHeartbeats 2000000 in
theorem one_any (a : Option Addr) (l : List Nat) (len cap : Nat) (kind : Nat) (hlen : Hid (len = l.length)) (hc : len ≤ cap) (hl : cap ≤ maxLen) (w : World) (HA : Hid (ByAt w a l)) (HG : Hid (HalvesAt w)) :
  Calls Tryd.prog 22 #[.slice a len cap, .int .u8 (kind : Int)] w (RetO w l kind) := by
 have HQ : Hid (Calls Tryd.prog 24 #[.slice a len cap, .int .i64 0] w (RetQ w l 0)) := Lib.hid (read_any a l len cap 0 hlen hc hl w HA HG)
 have hO : Hid (Pg.oneErr l kind = if Pg.errAt l 0 ≠ 0 then Pg.errAt l 0 else if Pg.kindAt l 0 = kind ∧ Pg.endAt l 0 = (l.length : Int) then 0 else 3) := rfl
 have hB : Hid (Pg.oneBody l kind = if Pg.oneErr l kind = 0 then Pg.bodyAt l 0 else []) := rfl
 have HE : Hid (Pg.endAt l 0 = (l.length : Int) ↔ Pg.endAt l 0 = (len : Int)) := Lib.hid (by rw [hlen.out])
 by_cases h0 : Pg.errAt l 0 = 0
 ·have t0 : (((Pg.errAt l 0 : Nat) : Int) != 0) = false := by rw [h0]; rfl
  have H0 := Lib.hid h0
  by_cases h1 : Pg.kindAt l 0 = kind
  ·have t1 : (((Pg.kindAt l 0 : Nat) : Int) != (kind : Int)) = false := by rw [h1]; simp
   by_cases h2 : Pg.endAt l 0 = (len : Int)
   ·have t2 : (Pg.endAt l 0 != (len : Int)) = false := by rw [h2]; simp
    have F : Hid (Pg.oneErr l kind = 0) := Lib.hid (by rw [hO.out, if_neg (by rw [h0]; exact fun h => h rfl), if_pos ⟨h1, HE.out.2 h2⟩])
    clear h0 h1 h2
    go_enter Tryd.func22, Tryd.ntmps22
    go_wp2_with (go_at_call 24; refine HQ.out.mono ?_; rintro e w2 ⟨A', cap', rfl, hA, hc1, hc2, hb⟩; have HA2 := Lib.hid hA; have HB2 := Lib.hid hb; clear hA hb)
    go_ret2
    have hbo : Pg.oneBody l kind = Pg.bodyAt l 0 := by rw [hB.out, if_pos F.out]
    exact ⟨A', cap', tup2_eq (by rw [hbo]) (by rw [F.out]; rfl), by rw [hbo]; exact HA2.out, by rw [hbo]; exact hc1, hc2, HB2.out⟩
   ·have t2 : (Pg.endAt l 0 != (len : Int)) = true := by simpa using h2
    have F : Hid (Pg.oneErr l kind = 3) := Lib.hid (by rw [hO.out, if_neg (by rw [h0]; exact fun h => h rfl), if_neg (fun h => h2 (HE.out.1 h.2))])
    clear h0 h1 h2
    go_enter Tryd.func22, Tryd.ntmps22
    go_wp2_with (go_at_call 24; refine HQ.out.mono ?_; rintro e w2 ⟨A', cap', rfl, hA, hc1, hc2, hb⟩; have HA2 := Lib.hid hA; have HB2 := Lib.hid hb; clear hA hb)
    go_ret2
    exact RetO.err (by rw [F.out]; decide) (by rw [F.out]; rfl) HB2.out
  ·have t1 : (((Pg.kindAt l 0 : Nat) : Int) != (kind : Int)) = true := by rw [bne_iff_ne]; omega
   have F : Hid (Pg.oneErr l kind = 3) := Lib.hid (by rw [hO.out, if_neg (by rw [h0]; exact fun h => h rfl), if_neg (fun h => h1 h.1)])
   clear h0 h1
   go_enter Tryd.func22, Tryd.ntmps22
   go_wp2_with (go_at_call 24; refine HQ.out.mono ?_; rintro e w2 ⟨A', cap', rfl, hA, hc1, hc2, hb⟩; have HA2 := Lib.hid hA; have HB2 := Lib.hid hb; clear hA hb)
   go_ret2
   exact RetO.err (by rw [F.out]; decide) (by rw [F.out]; rfl) HB2.out
 ·have t0 : (((Pg.errAt l 0 : Nat) : Int) != 0) = true := by rw [bne_iff_ne]; omega
  have F : Hid (Pg.oneErr l kind = Pg.errAt l 0) := Lib.hid (by rw [hO.out, if_pos h0])
  have H0 := Lib.hid h0
  clear h0
  go_enter Tryd.func22, Tryd.ntmps22
  go_wp2_with (go_at_call 24; refine HQ.out.mono ?_; rintro e w2 ⟨A', cap', rfl, hA, hc1, hc2, hb⟩; have HA2 := Lib.hid hA; have HB2 := Lib.hid hb; clear hA hb)
  go_ret2
  exact RetO.err (by rw [F.out]; exact H0.out) (by rw [F.out]) HB2.out
end Go.Proofs.YtifabkbdiiolfaaDoor

namespace Go.Proofs.YtifabkbdiiolfaaDoor
open Go.RowKit
namespace Pg
theorem lay_len (kind : Nat) (body : List Nat) : (lay kind body).length = 9 + body.length := by unfold lay four; rw [List.length_append, front_len]; simp; omega
theorem front_four (kind : Nat) (body : List Nat) : front kind body = four body.length ++ kind :: body := rfl
theorem four_len (n : Nat) : (four n).length = 4 := rfl
/-- A page, where it stands. -/
theorem errOf_lay (kind : Nat) (body r : List Nat) (hk : kind < 256) (hb : ∀ x ∈ body, x < 256) (hm : body.length ≤ 1048576) : errOf (lay kind body ++ r) = 0 ∧ sz (lay kind body ++ r) = body.length ∧ (lay kind body ++ r).getD 4 0 = kind ∧ ((lay kind body ++ r).drop 5).take body.length = body := by
 have h1 : lay kind body ++ r = four body.length ++ (kind :: (body ++ (four (sum (front kind body)) ++ r))) := by unfold lay; rw [front_four]; simp
 have hs : sz (lay kind body ++ r) = body.length := by
  unfold sz
  rw [h1, List.take_append_of_le_length (by rw [four_len]; exact Nat.le_refl _), List.take_of_length_le (by rw [four_len]; exact Nat.le_refl _), val_four _ (by omega)]
 refine ⟨?_, hs, ?_, ?_⟩
 ·unfold errOf
  have hl : (lay kind body ++ r).length = 9 + body.length + r.length := by rw [List.length_append, lay_len]
  rw [hs, if_neg (by omega), if_neg (by omega), if_neg (by omega), if_pos]
  have h2 : lay kind body ++ r = front kind body ++ (four (sum (front kind body)) ++ r) := by unfold lay; rw [List.append_assoc]
  have hf := front_len kind body
  rw [h2, ← hf, List.take_append_of_le_length (Nat.le_refl _), List.take_length, List.drop_append_of_le_length (Nat.le_refl _), List.drop_length, List.nil_append, List.take_append_of_le_length (by rw [four_len]; exact Nat.le_refl _), List.take_of_length_le (by rw [four_len]; exact Nat.le_refl _)]
  exact val_four _ (sum_lt (front_lt kind body hk hb))
 ·rw [h1]; rfl
 ·rw [h1, show (four body.length ++ (kind :: (body ++ (four (sum (front kind body)) ++ r)))).drop 5 = body ++ (four (sum (front kind body)) ++ r) from rfl, List.take_append_of_le_length (Nat.le_refl _), List.take_length]
theorem read_lay (l : List Nat) (kind : Nat) (body r : List Nat) (i : Int) (hi : i = (l.length : Int)) (hk : kind < 256) (hb : ∀ x ∈ body, x < 256) (hm : body.length ≤ 1048576) :
  errAt (l ++ (lay kind body ++ r)) i = 0 ∧ kindAt (l ++ (lay kind body ++ r)) i = kind ∧ bodyAt (l ++ (lay kind body ++ r)) i = body ∧ endAt (l ++ (lay kind body ++ r)) i = i + 9 + body.length := by
 obtain ⟨h1, h2, h3, h4⟩ := errOf_lay kind body r hk hb hm
 have hd : (l ++ (lay kind body ++ r)).drop i.toNat = lay kind body ++ r := by
  rw [hi, Int.toNat_natCast, List.drop_append_of_le_length (Nat.le_refl _), List.drop_length, List.nil_append]
 have he : errAt (l ++ (lay kind body ++ r)) i = 0 := by
  unfold errAt
  rw [if_neg (by rw [List.length_append, hi]; omega), hd, h1]
 refine ⟨he, ?_, ?_, ?_⟩
 ·unfold kindAt; rw [if_pos he, hd, h3]
 ·unfold bodyAt; rw [if_pos he, hd, h2, h4]
 ·unfold endAt; rw [if_pos he, hd, h2]
end Pg
theorem Roomy.set4 {w : World} {B g k cap : Nat} {cs : List Value} {l : List Nat} (h : Roomy w B g k cap cs l) (n : Nat) (hn : n < 4294967296) (i0 i1 i2 i3 : Int) (h0 : i0 = ((n % 256 : Nat) : Int)) (h1 : i1 = ((n / 256 % 256 : Nat) : Int)) (h2 : i2 = ((n / 65536 % 256 : Nat) : Int)) (h3 : i3 = ((n / 16777216 % 256 : Nat) : Int))
  (hl : ∃ a b c d r, l = a :: b :: c :: d :: r) : Roomy ((((w.setCell ⟨g, 0, none⟩ (.int .u8 i0)).setCell ⟨g, 1, none⟩ (.int .u8 i1)).setCell ⟨g, 2, none⟩ (.int .u8 i2)).setCell ⟨g, 3, none⟩ (.int .u8 i3)) B g k cap ((((cs.set 0 (bv (n % 256))).set 1 (bv (n / 256 % 256))).set 2 (bv (n / 65536 % 256))).set 3 (bv (n / 16777216 % 256))) (Pg.four n ++ l.drop 4) := by
 obtain ⟨a, b, c, d, r, rfl⟩ := hl
 subst h0 h1 h2 h3
 exact (((h.set 0 (n % 256) (by omega)).set 1 (n / 256 % 256) (by omega)).set 2 (n / 65536 % 256) (by omega)).set 3 (n / 16777216 % 256) (by omega)
end Go.Proofs.YtifabkbdiiolfaaDoor

namespace Go.Proofs.YtifabkbdiiolfaaDoor
open Go.RowKit Go.WideShapes
theorem own_word (w : World) (n : Nat) : OwnS (w.alloc (.cells (fourC n) 5)) w.heap.size (some ⟨w.heap.size, 0, none⟩) 4 4 (Pg.four n) :=
 OwnS.of_row (cs := bys (Pg.four n)) (heap_alloc_new' w _) rfl (by unfold maxLen; omega) rfl rfl (Nat.le_refl _) (Pg.four_lt n)
set_option maxHeartbeats 2000000 in
theorem refLay_any (kind : Nat) (b : Option Addr) (m c : Nat) (body : List Nat) (w : World) (hm : Hid (m = body.length)) (hsmall : m ≤ 1000000) (hk : kind < 256) (HB : Hid (ByAt w b body)) :
  Calls Tryd.prog 21 #[.int .u8 (kind : Int), .slice b m c] w (RetL w w.heap.size (4 + 1 + m + 4) (Pg.lay kind body)) := by
 have hm32 : m < 4294967296 := by omega
 have hw32 : IntKind.u32.wrap (m : Int) = (m : Int) := by rw [IntKind.wrap_u32']; omega
 have hfl := Lib.hid (Pg.front_lt kind body hk HB.out.lt)
 have HO1 := Lib.hid ((own_word w m).keep (((Below.refl _ _).alloc (Nat.le_refl _) (.cells #[.int .u8 (kind : Int)] 5))))
 have HB1 : Hid (ByAt ((w.alloc (.cells (fourC m) 5)).alloc (.cells #[.int .u8 (kind : Int)] 5)) (some ⟨w.heap.size + 1, 0, none⟩) [kind]) := Lib.hid (by
  have h := by_one (w.alloc (.cells (fourC m) 5)) kind hk
  rwa [show (w.alloc (.cells (fourC m) 5)).heap.size = w.heap.size + 1 by simp] at h)
 have HZ1 : Hid (w.heap.size ≤ ((w.alloc (.cells (fourC m) 5)).alloc (.cells #[.int .u8 (kind : Int)] 5)).heap.size) := Lib.hid (by simp; omega)
 have HW1 : Hid (Below w.heap.size w ((w.alloc (.cells (fourC m) 5)).alloc (.cells #[.int .u8 (kind : Int)] 5))) := Lib.hid (((Below.refl _ _).alloc (Nat.le_refl _) _).alloc (by simp) _)
 have hs32 : Pg.sum (Pg.front kind body) < 4294967296 := Pg.sum_lt hfl.out
 have HF : Hid ((Pg.four m ++ [kind]) ++ body = Pg.front kind body) := Lib.hid (by rw [hm.out]; unfold Pg.front; simp)
 have HFL : Hid (4 + 1 + m = (Pg.front kind body).length) := Lib.hid (by rw [Pg.front_len, hm.out])
 go_enter Tryd.func21, Tryd.ntmps21
 go_wp2_with (first | ((go_at_call 43; (with_reducible refine (four_any m hm32 _).mono ?_); rintro e w6 ⟨rfl, rfl⟩)) | (at_builtin; refine wpList_append_by rfl (.tmp 10) (.tmp 12) rfl w.heap.size (some ⟨w.heap.size, 0, none⟩) 4 4 (Pg.four m) rfl HO1.out (some ⟨w.heap.size + 1, 0, none⟩) 1 1 [kind] rfl rfl HB1.out (by omega) HZ1.out ?_; intro A2 cap2 w2 hO hG hL; have HO2 := Lib.hid hO; have HW2 := Lib.hid (HW1.out.grown hG HZ1.out HO1.out.base); have HB2 := ByAt.at HB HW2.out; have HZ2 := Lib.hid HW2.out.size; clear hO hG hL) | (at_builtin; refine wpList_append_by rfl (.tmp 14) (.tmp 15) rfl w.heap.size A2 (4 + 1) cap2 (Pg.four m ++ [kind]) rfl HO2.out b m c body rfl hm.out HB2.out (by omega) HZ2.out ?_; intro A3 cap3 w3 hO hG hL; rw [HF.out] at hO; have HO3 := Lib.hid hO; have HW3 := Lib.hid (HW2.out.grown hG HZ2.out HO2.out.base); have HZ3 := Lib.hid HW3.out.size; have HA3 := Lib.hid hO.byAt; clear hO hG hL) | (go_at_call 44; refine (refSum_any A3 (Pg.front kind body) (4 + 1 + m) cap3 HFL (by unfold maxLen; omega) w3 HA3).mono ?_; rintro e w6 ⟨rfl, rfl⟩))
 go_wp2_with (first | (go_at_call 43; refine (four_any _ hs32 _).mono ?_; rintro e w6 ⟨rfl, rfl⟩) | (at_builtin; refine wpList_append_by rfl (.tmp 17) (.tmp 20) rfl w.heap.size A3 (4 + 1 + m) cap3 (Pg.front kind body) rfl (HO3.out.keep ((Below.refl _ _).alloc (Nat.le_refl _) _)) (some ⟨w3.heap.size, 0, none⟩) 4 4 (Pg.four (Pg.sum (Pg.front kind body))) rfl rfl (by_four _ _) (by omega) (by_size HZ3) ?_; intro A5 cap5 w5 hO hG hL))
 go_ret
 exact ⟨A5, cap5, ret_eqP rfl, hO, (HW3.out.alloc HZ3.out _).grown hG (by_size HZ3) HO3.out.base⟩
end Go.Proofs.YtifabkbdiiolfaaDoor
