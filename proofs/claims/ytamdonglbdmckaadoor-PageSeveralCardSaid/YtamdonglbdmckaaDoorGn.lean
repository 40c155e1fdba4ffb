/-
  Pages that were laid are read; the law PageLengths.
-/
import Derived.Test.YtamdonglbdmckaaDoorGy
import Derived.Test.YtamdonglbdmckaaDoorGx
set_option linter.unusedSimpArgs false
set_option linter.unusedVariables false
namespace Go.Proofs.YtamdonglbdmckaaDoor
open Go.RowKit

namespace Pg
theorem lay_len (kind : Nat) (body : List Nat) : (lay kind body).length = 9 + body.length := by unfold lay four; rw [List.length_append, front_len]; simp; omega
theorem lay_lt (kind : Nat) (body : List Nat) (hk : kind < 256) (hb : ∀ x ∈ body, x < 256) : ∀ x ∈ lay kind body, x < 256 := fun x hx => (List.mem_append.1 hx).elim (front_lt kind body hk hb x) (four_lt _ x)
theorem front_four (kind : Nat) (body : List Nat) : front kind body = four body.length ++ kind :: body := rfl
theorem four_len (n : Nat) : (four n).length = 4 := rfl
/-- A page, where it stands. -/
theorem errOf_lay (kind : Nat) (body r : List Nat) (hk : kind < 256) (hb : ∀ x ∈ body, x < 256) (hm : body.length ≤ 1048576) : errOf (lay kind body ++ r) = 0 ∧ sz (lay kind body ++ r) = body.length ∧ (lay kind body ++ r).getD 4 0 = kind ∧ ((lay kind body ++ r).drop 5).take body.length = body := by
  have h1 : lay kind body ++ r = four body.length ++ (kind :: (body ++ (four (sum (front kind body)) ++ r))) := by unfold lay; rw [front_four]; simp
  have hs : sz (lay kind body ++ r) = body.length := by
    unfold sz
    rw [h1, List.take_append_of_le_length (by rw [four_len]; exact Nat.le_refl _), List.take_of_length_le (by rw [four_len]; exact Nat.le_refl _), val_four _ (by omega)]
  refine ⟨?_, hs, ?_, ?_⟩
  · unfold errOf
    have hl : (lay kind body ++ r).length = 9 + body.length + r.length := by rw [List.length_append, lay_len]
    rw [hs, if_neg (by omega), if_neg (by omega), if_neg (by omega), if_pos]
    have h2 : lay kind body ++ r = front kind body ++ (four (sum (front kind body)) ++ r) := by unfold lay; rw [List.append_assoc]
    have hf := front_len kind body
    rw [h2, ← hf, List.take_append_of_le_length (Nat.le_refl _), List.take_length, List.drop_append_of_le_length (Nat.le_refl _), List.drop_length, List.nil_append, List.take_append_of_le_length (by rw [four_len]; exact Nat.le_refl _), List.take_of_length_le (by rw [four_len]; exact Nat.le_refl _)]
    exact val_four _ (sum_lt (front_lt kind body hk hb))
  · rw [h1]; rfl
  · rw [h1, show (four body.length ++ (kind :: (body ++ (four (sum (front kind body)) ++ r)))).drop 5 = body ++ (four (sum (front kind body)) ++ r) from rfl, List.take_append_of_le_length (Nat.le_refl _), List.take_length]
theorem read_lay (l : List Nat) (kind : Nat) (body r : List Nat) (i : Int) (hi : i = (l.length : Int)) (hk : kind < 256) (hb : ∀ x ∈ body, x < 256) (hm : body.length ≤ 1048576) :
    errAt (l ++ (lay kind body ++ r)) i = 0 ∧ kindAt (l ++ (lay kind body ++ r)) i = kind ∧ bodyAt (l ++ (lay kind body ++ r)) i = body ∧ endAt (l ++ (lay kind body ++ r)) i = i + 9 + body.length := by
  obtain ⟨h1, h2, h3, h4⟩ := errOf_lay kind body r hk hb hm
  have hd : (l ++ (lay kind body ++ r)).drop i.toNat = lay kind body ++ r := by
    rw [hi, Int.toNat_natCast, List.drop_append_of_le_length (Nat.le_refl _), List.drop_length, List.nil_append]
  have he : errAt (l ++ (lay kind body ++ r)) i = 0 := by
    unfold errAt
    rw [if_neg (by rw [List.length_append, hi]; omega), hd, h1]
  refine ⟨he, ?_, ?_, ?_⟩
  · unfold kindAt; rw [if_pos he, hd, h3]
  · unfold bodyAt; rw [if_pos he, hd, h2, h4]
  · unfold endAt; rw [if_pos he, hd, h2]
/-- What says more than there is. -/
theorem err_more (q : List Nat) (h9 : 9 ≤ q.length) (h : q.length < sz q + 9) : errAt q 0 = 3 := by
  unfold errAt
  rw [if_neg (by omega)]
  show errOf q = 3
  unfold errOf
  rw [if_neg (by omega)]
  by_cases h2 : 1048576 < sz q
  · rw [if_pos h2]
  · rw [if_neg h2, if_pos h]
end Pg

/-- A row of the call's own, whole. -/
theorem OwnS.row {w : World} {B n cap : Nat} {A : Option Addr} {l : List Nat} (h : OwnS w B A n cap l) (hn : 0 < n) : ∃ g cs, A = some ⟨g, 0, none⟩ ∧ Roomy w B g n cap cs l := by
  rcases h.1.2 with ⟨h1, h2⟩ | ⟨g, cap', cur, h1, hb, hrow, -, hc, hs, ht⟩
  · omega
  · cases h1
    exact ⟨g, cur.toList, rfl, hrow, by rw [Array.length_toList, hs, Nat.mul_one], hc, by rw [← ht, Nat.mul_one], hb, h.2⟩
theorem Roomy.lt_heap {w : World} {B g n cap : Nat} {cs : List Value} {l : List Nat} (h : Roomy w B g n cap cs l) : g < w.heap.size := (Array.getElem?_eq_some_iff.1 h.row).1
theorem bys_set (l : List Nat) (i x : Nat) : bys (l.set i x) = (bys l).set i (bv x) := by unfold bys; rw [List.map_set]
/-- A byte is written. -/
theorem Roomy.set {w : World} {B g n cap : Nat} {cs : List Value} {l : List Nat} (h : Roomy w B g n cap cs l) (i x : Nat) (hx : x < 256) : Roomy (w.setCell ⟨g, i, none⟩ (.int .u8 (x : Int))) B g n cap (cs.set i (bv x)) (l.set i x) :=
  ⟨row_set h.row i _, by rw [List.length_set, h.size], h.cap, by rw [List.take_set, h.first, bys_set], h.base, fun y hy => by
    rcases List.mem_or_eq_of_mem_set hy with h1 | h1
    · exact h.lt y h1
    · omega⟩
theorem Roomy.own {w : World} {B g n cap : Nat} {cs : List Value} {l : List Nat} (h : Roomy w B g n cap cs l) (hn : n = l.length) : OwnS w B (some ⟨g, 0, none⟩) n cap l := OwnS.of_row h.row h.size h.cap hn h.first h.base h.lt
theorem Roomy.cell {w : World} {B g n cap : Nat} {cs : List Value} {l : List Nat} (h : Roomy w B g n cap cs l) (i x : Nat) (hx : l[i]? = some x) (hi : i < n) : w.cell? ⟨g, i, none⟩ = some (.int .u8 (x : Int)) ∧ w.frozen? ⟨g, i, none⟩ = false := by
  refine ⟨?_, row_frozen h.row i⟩
  rw [cell_of_row w g i cs.toArray _ (0, 0) h.row]
  have h1 : (cs.take n)[i]? = some (bv x) := by rw [h.first]; unfold bys; rw [List.getElem?_map, hx]; rfl
  rw [List.getElem?_take, if_pos hi] at h1
  rw [List.getElem?_toArray]; exact h1

theorem lay_at (kind : Nat) (body : List Nat) (i : Nat) (hi : i < 9) : ([] ++ Pg.lay kind body)[i]? = some (([] ++ Pg.lay kind body)[i]'(by rw [List.nil_append, Pg.lay_len]; omega)) := List.getElem?_eq_getElem _
theorem lengths_byte (n : Nat) : IntKind.u8.wrap (n : Int) = ((n % 256 : Nat) : Int) := by rw [IntKind.wrap_u8']; omega

theorem Roomy.le {w : World} {B g n cap : Nat} {cs : List Value} {l : List Nat} (h : Roomy w B g n cap cs l) (hn : n = l.length) : n ≤ cap := by
  have := congrArg List.length h.first
  rw [List.length_take, bys_length, h.size] at this
  omega
def setCells4 (w : World) (g n : Nat) : World := ((((w.setCell ⟨g, 0, none⟩ (.int .u8 ((n : Int) % 256))).setCell ⟨g, 1, none⟩ (.int .u8 ((n : Int) / 256 % 256))).setCell ⟨g, 2, none⟩ (.int .u8 ((n : Int) / 65536 % 256))).setCell ⟨g, 3, none⟩ (.int .u8 ((n : Int) / 16777216)))
theorem Roomy.set4 {w : World} {B g k cap : Nat} {cs : List Value} {l : List Nat} (h : Roomy w B g k cap cs l) (n : Nat) (hn : n < 4294967296) (i0 i1 i2 i3 : Int) (h0 : i0 = ((n % 256 : Nat) : Int)) (h1 : i1 = ((n / 256 % 256 : Nat) : Int)) (h2 : i2 = ((n / 65536 % 256 : Nat) : Int)) (h3 : i3 = ((n / 16777216 % 256 : Nat) : Int))
    (hl : ∃ a b c d r, l = a :: b :: c :: d :: r) : Roomy ((((w.setCell ⟨g, 0, none⟩ (.int .u8 i0)).setCell ⟨g, 1, none⟩ (.int .u8 i1)).setCell ⟨g, 2, none⟩ (.int .u8 i2)).setCell ⟨g, 3, none⟩ (.int .u8 i3)) B g k cap ((((cs.set 0 (bv (n % 256))).set 1 (bv (n / 256 % 256))).set 2 (bv (n / 65536 % 256))).set 3 (bv (n / 16777216 % 256))) (Pg.four n ++ l.drop 4) := by
  obtain ⟨a, b, c, d, r, rfl⟩ := hl
  subst h0 h1 h2 h3
  exact (((h.set 0 (n % 256) (by omega)).set 1 (n / 256 % 256) (by omega)).set 2 (n / 65536 % 256) (by omega)).set 3 (n / 16777216 % 256) (by omega)
theorem Pg.lay_head (kind : Nat) (body : List Nat) : [] ++ Pg.lay kind body = body.length % 256 :: body.length / 256 % 256 :: body.length / 65536 % 256 :: body.length / 16777216 % 256 :: (kind :: body ++ Pg.four (Pg.sum (Pg.front kind body))) := rfl
theorem pageLengths_out (kind : Nat) (b : Option Addr) (m c n : Nat) (hL : 300 < m ∨ n = m) (W : World) (HG : Hid (HalvesAt W)) :
    Calls Tryd.prog 7 #[.int .u8 (kind : Int), .slice b m c, .int .u32 (n : Int)] W fun e w' => e = .returned (.bool true) ∧ Below W.heap.size W w' := by
  have hX : 300 < m ∨ (¬ 300 < m ∧ n = m) := by omega
  rcases hX with h3 | ⟨h3, rfl⟩
  all_goals
    clear hL
    go_enter Tryd.func7, Tryd.ntmps7
    go_wp2_with (go_at_call 9; refine (awake_any _ HG).mono ?_; rintro e w1 ⟨rfl, hb⟩; have HB := Lib.hid hb; clear hb; have HG1 := HalvesAt.at HG HB.out)
    go_wp2_with (go_at_call 9; refine (awake_any _ HG1).mono ?_; rintro e w2 ⟨rfl, hb⟩; have HB2 := Lib.hid hb; clear hb)
    go_ret
    exact ⟨ret_eq rfl, below_to HB.out HB2.out⟩

set_option maxHeartbeats 4000000 in
theorem pageLengths_in (kind : Nat) (hk : kind < 256) (b : Option Addr) (m c n : Nat) (body : List Nat) (hn : n < 4294967296) (h3 : ¬ 300 < m) (hne : ((n : Int) == (m : Int)) = false) (hm : Hid (m = body.length)) (hc : m ≤ c) (hl : c ≤ maxLen) (W : World) (HA : Hid (ByAt W b body)) (HG : Hid (HalvesAt W)) (hW : 0 < W.heap.size) :
    Calls Tryd.prog 7 #[.int .u8 (kind : Int), .slice b m c, .int .u32 (n : Int)] W fun e w' => e = .returned (.bool true) ∧ Below W.heap.size W w' := by
  have HO0 : ∀ w : World, Hid (OwnS w w.heap.size none 0 0 []) := fun w => Lib.hid (OwnS.nil w _)
  go_enter Tryd.func7, Tryd.ntmps7
  go_wp2_with (go_at_call 9; refine (awake_any _ HG).mono ?_; rintro e w1 ⟨rfl, hb⟩; have HB := Lib.hid hb; clear hb; have HG1 := HalvesAt.at HG HB.out; have HA1 := ByAt.at HA HB.out; have hW1 := Nat.lt_of_lt_of_le hW HB.out.size)
  go_wp2_with (go_at_call 12; refine (lay_any none 0 0 [] kind b m c body w1.heap.size w1 (HO0 w1) hm (by omega) hk HA1 HG1 (Nat.le_refl _) hW1).mono ?_; rintro e w2 ⟨A2, cap2, rfl, hO, hb⟩; obtain ⟨g, cs, rfl, hR⟩ := hO.row (by omega); have HR := Lib.hid hR; have HB2 := Lib.hid hb; clear hb hO hR; obtain ⟨c0, f0⟩ := HR.out.cell 0 _ (lay_at kind body 0 (by omega)) (by omega); obtain ⟨c1, f1⟩ := HR.out.cell 1 _ (lay_at kind body 1 (by omega)) (by omega); obtain ⟨c2, f2⟩ := HR.out.cell 2 _ (lay_at kind body 2 (by omega)) (by omega); obtain ⟨c3, f3⟩ := HR.out.cell 3 _ (lay_at kind body 3 (by omega)) (by omega))
  have HR4 := Lib.hid (HR.out.set4 n hn ((n : Int) % 256) ((n : Int) / 256 % 256) ((n : Int) / 65536 % 256) ((n : Int) / 16777216) (by omega) (by omega) (by omega) (by omega) ⟨_, _, _, _, _, Pg.lay_head kind body⟩)
  have hl4 : Hid (5 + m + 4 = (Pg.four n ++ ([] ++ Pg.lay kind body).drop 4).length) := Lib.hid (by rw [List.length_append, Pg.four_len, List.length_drop, List.nil_append, Pg.lay_len, hm.out]; omega)
  have HA4 := Lib.hid (HR4.out.own (by rw [← hl4.out]; try omega)).byAt
  have HB4 := Lib.hid (((((HB2.out).setCell HR.out.base _).setCell (p := ⟨g, 1, none⟩) HR.out.base _).setCell (p := ⟨g, 2, none⟩) HR.out.base _).setCell (p := ⟨g, 3, none⟩) HR.out.base _ : Below w1.heap.size w1 (@setCells4 w2 g n))
  have HG4 := HalvesAt.at HG1 HB4.out
  have hcap := HR4.out.cap
  have hcc : 5 + m + 4 ≤ cap2 := by have := HR4.out.le (by rw [← hl4.out]; try omega); omega
  generalize hL4 : Pg.four n ++ ([] ++ Pg.lay kind body).drop 4 = L4 at *
  have hE : Hid (m < n → Pg.errAt L4 0 = 3) := Lib.hid fun h => by
    apply Pg.err_more
    · rw [← hl4.out]; omega
    · rw [← hl4.out, ← hL4]; unfold Pg.sz
      rw [List.take_append_of_le_length (by rw [Pg.four_len]; exact Nat.le_refl _), List.take_of_length_le (by rw [Pg.four_len]; exact Nat.le_refl _), Pg.val_four n hn]; omega
  clear hL4 c0 c1 c2 c3 f0 f1 f2 f3
  unfold setCells4 at HB4 HG4
  by_cases hmn : m < n
  all_goals
    (try (have h3e : ((Pg.errAt L4 0 : Nat) : Int) = 3 := by rw [hE.out hmn]; rfl))
    go_wp2_with (go_at_call 14; refine (read_any (some ⟨g, 0, none⟩) L4 (5 + m + 4) cap2 0 hl4 hcc hcap _ HA4 HG4).mono ?_; rintro e w5 ⟨A5, C5, rfl, hA, hc1, hc2, hb⟩; have HB5 := Lib.hid hb; clear hA hb hc1 hc2; have HA5 := ByAt.at HA4 HB5.out)
    go_wp2_with (go_at_call 16; refine (refRead_any (some ⟨g, 0, none⟩) L4 (5 + m + 4) cap2 0 hl4 hcc hcap _ HA5).mono ?_; rintro e w6 ⟨A6, C6, rfl, hA, hc1, hc2, hb⟩; have HB6 := Lib.hid hb; clear hA hb hc1 hc2)
    go_ret
    exact ⟨ret_eq rfl, below_to (below_to (below_to HB.out HB4.out) HB5.out) HB6.out⟩

theorem pageLengths_any (kind : Nat) (hk : kind < 256) (b : Option Addr) (body : List Nat) (m c : Nat) (hm : Hid (m = body.length)) (hc : m ≤ c) (hl : c ≤ maxLen) (n : Nat) (hn : n < 4294967296) (W : World) (HA : Hid (ByAt W b body)) (HG : Hid (HalvesAt W)) :
    Calls Tryd.prog 7 #[.int .u8 (kind : Int), .slice b m c, .int .u32 (n : Int)] W fun e w' => e = .returned (.bool true) ∧ Below W.heap.size W w' := by
  by_cases h : 300 < m ∨ n = m
  · exact pageLengths_out kind b m c n h W HG
  · exact pageLengths_in kind hk b m c n body hn (by omega) (by rw [beq_eq_false_iff_ne]; omega) hm hc hl W HA HG (World.block_lt_of_cell? W _ (HG.out 0 (by decide)))
end Go.Proofs.YtamdonglbdmckaaDoor
