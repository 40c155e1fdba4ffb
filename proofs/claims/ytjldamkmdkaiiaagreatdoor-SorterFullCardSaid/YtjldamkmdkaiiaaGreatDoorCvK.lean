/-
  Layer column: cuts of lists of whole numbers; runs laid.
-/
import Derived.Deep.RegionHeld3
import Derived.Deep.DeepCutAuto
import Derived.Deep.MidRow
import Derived.Deep.Draws
import Derived.StillTailTactics
import Derived.Test.YtjldamkmdkaiiaaGreatDoorCxK
import Derived.Test.YtjldamkmdkaiiaaGreatDoorTkK
set_option linter.unusedSimpArgs false
set_option linter.unusedVariables false
set_option maxRecDepth 8000
namespace Go.Proofs.YtjldamkmdkaiiaaGreatDoor
open Go.RowKit Go.WideShapes Col
theorem icut_from (a : Option Addr) (len cap k : Nat) (hk : k ≤ len) (hc : len ≤ cap) :
  ∃ A C, (∀ w, (Instr.slice 119 (.slice a len cap) (some (.int .i64 (k : Int))) none none).run Tryz.prog w = .ok (.slice A (len - k) C) w) ∧ len - k ≤ C ∧ C ≤ cap ∧ ∀ w l, len = l.length → IsAt w a l → IsAt w A (l.drop k) := by
 refine ⟨if cap = k then a else a.map (·.add k), cap - k, fun w => ?_, by omega, by omega, fun w l hl h j x hx => ?_⟩
 ·rw [run_slice_l w 119 a len cap Tryz.underlying119 .i64 (k : Int) (by omega) (by omega)]
  rw [show (Go.sizeOf (Tryz.prog.elem 119)).run Tryz.prog w = .ok 1 w from by kernel_rfl]
  simp [Result.andThen, sliced]
 ·rw [List.getElem?_drop] at hx
  obtain ⟨h1, g, off, rfl, hg, hcell⟩ := h _ _ hx
  have hkl := (List.getElem?_eq_some_iff.1 hx).1
  rw [if_neg (by omega)]
  exact ⟨h1, g, off + k, by simp [addr_add], hg, by rw [Nat.add_assoc]; exact hcell⟩
namespace Col
def runN (x : Int) : List Int → Nat
 | [] => 0
 | y :: l => if y = x then runN x l + 1 else 0
theorem runN_le (x : Int) : ∀ l, runN x l ≤ l.length
 | [] => Nat.le_refl _
 | y :: l => by
  unfold runN
  split
  ·have := runN_le x l; simp; omega
  ·omega
theorem runN_at (x : Int) : ∀ (l : List Int) (k : Nat), (∀ j, j < k → l[j]? = some x) → (k = l.length ∨ ∃ y, l[k]? = some y ∧ y ≠ x) → runN x l = k
 | [], k, h, h1 => by
  rcases h1 with h1 | ⟨y, h1, -⟩
  ·exact h1.symm
  ·simp at h1
 | z :: l, 0, h, h1 => by
  rcases h1 with h1 | ⟨y, h1, h2⟩
  ·simp at h1
  ·simp at h1; subst h1; unfold runN; rw [if_neg h2]
 | z :: l, k + 1, h, h1 => by
  have h0 := h 0 (by omega)
  simp at h0; subst h0
  unfold runN; rw [if_pos rfl, runN_at z l k (fun j hj => by have := h (j + 1) (by omega); simpa using this) (by
   rcases h1 with h1 | ⟨y, h1, h2⟩
   ·left; simpa using h1
   ·exact .inr ⟨y, by simpa using h1, h2⟩)]
def lru : List Int → List Nat
 | [] => []
 | x :: l => ub (zz x) ++ (ub (runN x l) ++ lru (l.drop (runN x l)))
termination_by l => l.length
decreasing_by simp; omega
theorem lru_nil : lru [] = [] := by rw [lru]
theorem lru_step (l : List Int) (x : Int) (r : Nat) (h1 : 1 ≤ r) (h : ∀ j, j < r → l[j]? = some x) (h2 : r = l.length ∨ ∃ y, l[r]? = some y ∧ y ≠ x) : lru l = ub (zz x) ++ (ub (r - 1) ++ lru (l.drop r)) := by
 rcases l with _ | ⟨z, l⟩
 ·have := h 0 (by omega); simp at this
 ·have h0 := h 0 (by omega)
  simp at h0; subst h0
  obtain ⟨k, rfl⟩ : ∃ k, r = k + 1 := ⟨r - 1, by omega⟩
  rw [lru, runN_at z l k (fun j hj => by have := h (j + 1) (by omega); simpa using this) (by
   rcases h2 with h1 | ⟨y, h1, h2⟩
   ·left; simpa using h1
   ·exact .inr ⟨y, by simpa using h1, h2⟩)]
  rfl
end Col
def RL (B : Nat) (W0 w : World) (n m : Nat) (p : List Nat) (l : List Int) (q s : Value) (wr : World) : Prop :=
 ∃ (A' : Option Addr) (n' cap' : Nat) (b' : Option Addr) (m' c' : Nat) (p' : List Nat) (l' : List Int), q = .slice A' n' cap' ∧ s = .slice b' m' c' ∧ m' = l'.length ∧ m' ≤ c' ∧ c' ≤ maxLen ∧ m' ≤ m ∧ n' + 20 * m' ≤ n + 20 * m ∧ p' ++ lru l' = p ++ lru l ∧ OwnS wr B A' n' cap' p' ∧ IsAt W0 b' l' ∧ Below B w wr
theorem all1 {l : List Int} {x : Int} (h : l[0]? = some x) : ∀ j, j < 1 → l[j]? = some x := fun j hj => by
 obtain rfl : j = 0 := by omega
 exact h
def lenOfS : Value → Nat
 | .slice _ n _ => n
 | _ => 0
set_option maxHeartbeats 4000000 in
theorem layRuns_any (B : Nat) (A : Option Addr) (n cap : Nat) (p : List Nat) (b : Option Addr) (m c : Nat) (l : List Int) (hm : Hid (m = l.length)) (hmc : m ≤ c) (hc : c ≤ 9223372036854775807) (hn : n ≤ 1000000) (hm1 : m ≤ 1000000) (W0 : World) (HL : Hid (IsAt W0 b l)) (hB : B = W0.heap.size) (w : World) (HW0 : Hid (Below B W0 w)) (H : Hid (OwnS w B A n cap p)) :
  Calls Tryz.prog 124 #[.slice A n cap, .slice b m c] w (Puts B w (p ++ lru l)) := by
 have HBB := Lib.hid hB
 have hBw : B ≤ w.heap.size := by rw [hB]; exact HW0.out.size
 clear hB
 go_enter Tryz.func124, Tryz.ntmps124
 go_wp2
 go_loopw [0, 1] (fun q s wr => RL B W0 w n m p l q s wr) (fun _ s _ => lenOfS s)
 case atStart => exact ⟨A, n, cap, b, m, c, p, l, rfl, rfl, hm.out, hmc, hc, Nat.le_refl _, Nat.le_refl _, rfl, H.out, HL.out, Below.refl _ _⟩
 case round =>
  obtain ⟨A', n', cap', b', m', c', p', l', rfl, rfl, hm', hmc', hc', hle, hb20, hp', hown, hat, hb⟩ := hrel
  have HO := Lib.hid hown; have HATW := Lib.hid hat; have HAT := Lib.hid (hat.keep (HBB.out ▸ (HW0.out.trans hb))); have HBL := Lib.hid hb; have HP := Lib.hid hp'; have HM := Lib.hid hm'
  have hbs : B ≤ wr.heap.size := Nat.le_trans hBw hb.size
  have hc2 : c' ≤ 9223372036854775807 := hc'
  clear hown hat hb hp' hm' hc'
  by_cases hz : 0 < m'
  ·obtain ⟨x, hx⟩ : ∃ x, l'[0]? = some x := ⟨l'[0]'(by have := HM.out; omega), List.getElem?_eq_getElem _⟩
   obtain ⟨hwf, g, off, rfl, hg, hc0⟩ := HAT.out 0 x hx
   have HG := Lib.hid hg
   have HW := Lib.hid hwf
   have HX0 := Lib.hid hx
   have HZ := Lib.hid (zz10 hwf)
   rw [Nat.add_zero] at hc0
   have HC0 := Lib.hid hc0
   obtain ⟨w0, hw0⟩ : ∃ w0, w0 = wr := ⟨wr, rfl⟩
   subst hw0
   clear hx hwf hg
   have hzi : (0 : Int) < (m' : Int) := by omega
   go_wp2
   clear hc0
   go_loopw [5] (fun v wk => ∃ r : Nat, 1 ≤ r ∧ r ≤ m' ∧ v = .int .i64 r ∧ (∀ j, j < r → l'[j]? = some x) ∧ Below w0.heap.size w0 wk) (fun v _ => m' - (intOf v).toNat)
   case atStart => exact ⟨1, Nat.le_refl _, hz, rfl, all1 HX0.out, Below.refl _ _⟩
   case round =>
    obtain ⟨r, hr1, hrm, rfl, hall, hbk⟩ := hrel
    obtain ⟨wk, hw0⟩ : ∃ wk, wk = wr := ⟨wr, rfl⟩
    subst hw0
    have HALL := Lib.hid hall
    have HBK2 := Lib.hid hbk
    have HC0' : Hid (wk.cell? ⟨g, off, none⟩ = some (.int .i64 x)) := Lib.hid ((hbk.cell (p := ⟨g, off, none⟩) HG.out).trans HC0.out)
    have HGK : Hid (g < wk.heap.size) := Lib.hid (Nat.lt_of_lt_of_le HG.out hbk.size)
    clear hall hbk
    by_cases hrm2 : r < m'
    ·obtain ⟨y, hy⟩ : ∃ y, l'[r]? = some y := ⟨l'[r]'(by have := HM.out; omega), List.getElem?_eq_getElem _⟩
     have HY := Lib.hid hy
     have HCY : Hid (wk.cell? ⟨g, off + r, none⟩ = some (.int .i64 y)) := Lib.hid (by
      obtain ⟨-, g', off', e, hcy⟩ := int_cell HAT.out r y hy
      injection e with e; injection e with e1 e2; subst e1; subst e2
      exact (HBK2.out.cell (p := ⟨g, off + r, none⟩) HG.out).trans hcy)
     have hri : (r : Int) < (m' : Int) := by omega
     clear hy
     by_cases hxy : y = x
     ·subst hxy
      go_upto_region 3 with fail
      have hh0 : Below wk.heap.size wk wk.drew := (Below.refl _ _).drew
      refine wp_region_held_drew (S := fun w => Below wk.heap.size wk w) (by kernel_rfl) hh0 (fun hHeld => ?_)
      refine tkm 0 (.int .i64 (r : Int)) rfl hHeld ?_
      try simp only [qz]
      refine tkm 1 (.slice (some ⟨g, off, none⟩) m' c') rfl hHeld ?_
      try simp only [qz]
      refine tks 2 (.int .i64 (m' : Int)) rfl hHeld ?_
      try simp only [qz]
      refine tk 3 (.bool true) rfl (Or.inl ⟨by rfl, fun w _ => by first | (go_simp; done) | (go_simp; omega)⟩) hHeld ?_
      try simp only [qz]
      refine tkm 4 (.bool true) rfl hHeld ?_
      try simp only [qz]
      refine tkm 5 (.slice (some ⟨g, off, none⟩) m' c') rfl hHeld ?_
      try simp only [qz]
      refine tkm 6 (.int .i64 (r : Int)) rfl hHeld ?_
      try simp only [qz]
      refine tk 7 (.pointer (some ⟨g, off + r, none⟩)) rfl (Or.inl ⟨by rfl, fun w _ => by go_simp; try (intro h; exfalso; omega)⟩) hHeld ?_
      try simp only [qz]
      refine tk 8 (.int .i64 y) rfl (Or.inl ⟨by rfl, fun w hw => by have hc : w.cell? ⟨g, off + r, none⟩ = some (.int .i64 y) := (hw.cell (p := ⟨g, off + r, none⟩) HGK.out).trans HCY.out; go_simp⟩) hHeld ?_
      try simp only [qz]
      refine tkm 9 (.slice (some ⟨g, off, none⟩) m' c') rfl hHeld ?_
      try simp only [qz]
      refine tk 10 (.pointer (some ⟨g, off, none⟩)) rfl (Or.inl ⟨by rfl, fun w _ => by go_simp; try (intro h; exfalso; omega)⟩) hHeld ?_
      try simp only [qz]
      refine tk 11 (.int .i64 y) rfl (Or.inl ⟨by rfl, fun w hw => by have hc : w.cell? ⟨g, off, none⟩ = some (.int .i64 y) := (hw.cell (p := ⟨g, off, none⟩) HGK.out).trans HC0'.out; go_simp⟩) hHeld ?_
      try simp only [qz]
      refine tk 12 (.bool true) rfl (Or.inl ⟨by rfl, fun w _ => by first | (go_simp; done) | (go_simp; exact hxy3.out)⟩) hHeld ?_
      try simp only [qz]
      refine rd1 13 rfl (fun K hK => ?_)
      go_simp
      refine hK.out _ _ hHeld (fun hHeld => ?_)
      clear hK K
      try simp only [qz]
      refine wpAnyH_done (by kernel_rfl) ?_ _
      have HB9 := Lib.hid (below_to HBK2.out hHeld)
      clear hHeld hh0
      go_wp2
      go_roundw
      case rel => exact ⟨r + 1, by omega, by omega, by go_num, fun j hj => (by
       rcases Nat.lt_or_ge j r with h | h
       ·exact HALL.out j h
       ·obtain rfl : j = r := by omega
        exact HY.out), HB9.out⟩
      case measure => simp [intOf]; omega
     ·have HST := Lib.hid (lru_step l' x r hr1 HALL.out (.inr ⟨y, HY.out, hxy⟩))
      have hxy2 : (y == x) = false := by rw [beq_eq_false_iff_ne]; exact hxy
      have hxy3 := Lib.hid hxy
      clear hxy
      go_upto_region 3 with fail
      have hh0 : Below wk.heap.size wk wk.drew := (Below.refl _ _).drew
      refine wp_region_held_drew (S := fun w => Below wk.heap.size wk w) (by kernel_rfl) hh0 (fun hHeld => ?_)
      refine tkm 0 (.int .i64 (r : Int)) rfl hHeld ?_
      try simp only [qz]
      refine tkm 1 (.slice (some ⟨g, off, none⟩) m' c') rfl hHeld ?_
      try simp only [qz]
      refine tks 2 (.int .i64 (m' : Int)) rfl hHeld ?_
      try simp only [qz]
      refine tk 3 (.bool true) rfl (Or.inl ⟨by rfl, fun w _ => by first | (go_simp; done) | (go_simp; omega)⟩) hHeld ?_
      try simp only [qz]
      refine tkm 4 (.bool true) rfl hHeld ?_
      try simp only [qz]
      refine tkm 5 (.slice (some ⟨g, off, none⟩) m' c') rfl hHeld ?_
      try simp only [qz]
      refine tkm 6 (.int .i64 (r : Int)) rfl hHeld ?_
      try simp only [qz]
      refine tk 7 (.pointer (some ⟨g, off + r, none⟩)) rfl (Or.inl ⟨by rfl, fun w _ => by go_simp; try (intro h; exfalso; omega)⟩) hHeld ?_
      try simp only [qz]
      refine tk 8 (.int .i64 y) rfl (Or.inl ⟨by rfl, fun w hw => by have hc : w.cell? ⟨g, off + r, none⟩ = some (.int .i64 y) := (hw.cell (p := ⟨g, off + r, none⟩) HGK.out).trans HCY.out; go_simp⟩) hHeld ?_
      try simp only [qz]
      refine tkm 9 (.slice (some ⟨g, off, none⟩) m' c') rfl hHeld ?_
      try simp only [qz]
      refine tk 10 (.pointer (some ⟨g, off, none⟩)) rfl (Or.inl ⟨by rfl, fun w _ => by go_simp; try (intro h; exfalso; omega)⟩) hHeld ?_
      try simp only [qz]
      refine tk 11 (.int .i64 x) rfl (Or.inl ⟨by rfl, fun w hw => by have hc : w.cell? ⟨g, off, none⟩ = some (.int .i64 x) := (hw.cell (p := ⟨g, off, none⟩) HGK.out).trans HC0'.out; go_simp⟩) hHeld ?_
      try simp only [qz]
      refine tk 12 (.bool false) rfl (Or.inl ⟨by rfl, fun w _ => by first | (go_simp; done) | (go_simp; exact hxy3.out)⟩) hHeld ?_
      try simp only [qz]
      refine rd1 13 rfl (fun K hK => ?_)
      go_simp
      refine hK.out _ _ hHeld (fun hHeld => ?_)
      clear hK K
      try simp only [qz]
      refine wpAnyH_done (by kernel_rfl) ?_ _
      have HB9 := Lib.hid (below_to HBK2.out hHeld)
      clear hHeld hh0
      clear HBK2 HC0' HGK HALL
      generalize wk.drew = w9 at *
      have HBW : Hid (Below B w w9) := Lib.hid (HBL.out.trans (HB9.out.mono hbs))
      have hc9 := (HB9.out.cell (p := ⟨g, off, none⟩) HG.out).trans HC0.out
      have HO9 := Lib.hid (HO.out.keep HB9.out)
      have hbs9 := Nat.le_trans hbs HB9.out.size
      obtain ⟨A2, C2, hcut, hcl, hcc, hcat⟩ := icut_from (some ⟨g, off, none⟩) m' c' r hrm hmc'
      have HCAT := Lib.hid (hcat _ l' HM.out HATW.out)
      clear hcat
      obtain ⟨q, hq⟩ : ∃ q : Nat, q + 1 = r := ⟨r - 1, by omega⟩
      have hqi : (r : Int) - 1 = (q : Int) := by omega
      have hq64 : q < 18446744073709551616 := by omega
      have HQ := Lib.hid (show r - 1 = q by omega)
      have HQ10 := Lib.hid (ub10 hq64)
      have hn9 : n' ≤ 21000000 := by omega
      have hn9a : n' ≤ 1099511627776 := by omega
      have hn9b : n' + 10 ≤ 1099511627776 := by omega
      have HPI := Lib.hid (putI_any B A' n' cap' _ x HW _ HO9 hn9a hbs9)
      clear HAT HB9
      go_wp2_with (first
       | (go_at_call 146; (with_reducible refine (HPI.out).mono ?_); rintro e w1 ⟨A1, n1, c1, rfl, h1, h2, h3⟩; have HO1 := Lib.hid h1; have HB1 := Lib.hid h2; have hn1 : n1 ≤ n' + 10 := (by have e1 := h1.len; have e2 := HO.out.len; have e3 := HZ.out; rw [List.length_append] at e1; omega); have hbs1 := Nat.le_trans hbs9 h3; have HPU := Lib.hid (putU_any B A1 n1 c1 _ q hq64 _ HO1 (by omega) hbs1); clear h1 h2 h3)
       | (go_at_call 93; (with_reducible refine (HPU.out).mono ?_); rintro e w2 ⟨A3, n3, c3, rfl, h1, h2, h3⟩; have HO3 := Lib.hid h1; have HB3 := Lib.hid h2; clear h1 h2 h3))
      go_roundw
      case rel =>
       have hBA := (HBW.out.trans HB1.out).trans HB3.out
       refine ⟨A3, n3, c3, A2, m' - r, C2, _, l'.drop r, rfl, rfl, by rw [List.length_drop, ← HM.out], hcl, Nat.le_trans hcc hc2, by omega, ?_, ?_, HO3.out, ?_, hBA⟩
       ·have e1 := HO1.out.len; have e2 := HO.out.len; have e3 := HZ.out; have e4 := HO3.out.len; have e5 := HQ10.out; rw [List.length_append] at e1 e4; rw [List.length_append] at e4; omega
       ·rw [← HP.out, HST.out, HQ.out]; simp only [List.append_assoc]
       ·exact HCAT.out
      case measure => simp [lenOfS]; omega
    ·have hrm3 : r = m' := by omega
     have HST := Lib.hid (lru_step l' x r hr1 HALL.out (.inl (by have := HM.out; omega)))
     have hrn : ¬ ((r : Int) < (m' : Int)) := by omega
     clear hrm3
     go_upto_region 3 with fail
     have hh0 : Below wk.heap.size wk wk.drew := (Below.refl _ _).drew
     refine wp_region_held_drew (S := fun w => Below wk.heap.size wk w) (by kernel_rfl) hh0 (fun hHeld => ?_)
     refine tkm 0 (.int .i64 (r : Int)) rfl hHeld ?_
     try simp only [qz]
     refine tkm 1 (.slice (some ⟨g, off, none⟩) m' c') rfl hHeld ?_
     try simp only [qz]
     refine tks 2 (.int .i64 (m' : Int)) rfl hHeld ?_
     try simp only [qz]
     refine tk 3 (.bool false) rfl (Or.inl ⟨by rfl, fun w _ => by first | (go_simp; done) | (go_simp; omega)⟩) hHeld ?_
     try simp only [qz]
     refine tkm 4 (.bool false) rfl hHeld ?_
     try simp only [qz]
     refine tk 5 undef rfl (Or.inr ⟨by rfl, rfl⟩) hHeld ?_
     try simp only [qz]
     refine tk 6 undef rfl (Or.inr ⟨by rfl, rfl⟩) hHeld ?_
     try simp only [qz]
     refine tk 7 undef rfl (Or.inr ⟨by rfl, rfl⟩) hHeld ?_
     try simp only [qz]
     refine tk 8 undef rfl (Or.inr ⟨by rfl, rfl⟩) hHeld ?_
     try simp only [qz]
     refine tk 9 undef rfl (Or.inr ⟨by rfl, rfl⟩) hHeld ?_
     try simp only [qz]
     refine tk 10 undef rfl (Or.inr ⟨by rfl, rfl⟩) hHeld ?_
     try simp only [qz]
     refine tk 11 undef rfl (Or.inr ⟨by rfl, rfl⟩) hHeld ?_
     try simp only [qz]
     refine tk 12 undef rfl (Or.inr ⟨by rfl, rfl⟩) hHeld ?_
     try simp only [qz]
     refine rd1 13 rfl (fun K hK => ?_)
     go_simp
     refine hK.out _ _ hHeld (fun hHeld => ?_)
     clear hK K
     try simp only [qz]
     refine wpAnyH_done (by kernel_rfl) ?_ _
     have HB9 := Lib.hid (below_to HBK2.out hHeld)
     clear hHeld hh0
     clear HBK2 HC0' HGK HALL
     generalize wk.drew = w9 at *
     have HBW : Hid (Below B w w9) := Lib.hid (HBL.out.trans (HB9.out.mono hbs))
     have hc9 := (HB9.out.cell (p := ⟨g, off, none⟩) HG.out).trans HC0.out
     have HO9 := Lib.hid (HO.out.keep HB9.out)
     have hbs9 := Nat.le_trans hbs HB9.out.size
     obtain ⟨A2, C2, hcut, hcl, hcc, hcat⟩ := icut_from (some ⟨g, off, none⟩) m' c' r hrm hmc'
     have HCAT := Lib.hid (hcat _ l' HM.out HATW.out)
     clear hcat
     obtain ⟨q, hq⟩ : ∃ q : Nat, q + 1 = r := ⟨r - 1, by omega⟩
     have hqi : (r : Int) - 1 = (q : Int) := by omega
     have hq64 : q < 18446744073709551616 := by omega
     have HQ := Lib.hid (show r - 1 = q by omega)
     have HQ10 := Lib.hid (ub10 hq64)
     have hn9 : n' ≤ 21000000 := by omega
     have hn9a : n' ≤ 1099511627776 := by omega
     have hn9b : n' + 10 ≤ 1099511627776 := by omega
     have HPI := Lib.hid (putI_any B A' n' cap' _ x HW _ HO9 hn9a hbs9)
     clear HAT HB9
     go_wp2_with (first
      | (go_at_call 146; (with_reducible refine (HPI.out).mono ?_); rintro e w1 ⟨A1, n1, c1, rfl, h1, h2, h3⟩; have HO1 := Lib.hid h1; have HB1 := Lib.hid h2; have hn1 : n1 ≤ n' + 10 := (by have e1 := h1.len; have e2 := HO.out.len; have e3 := HZ.out; rw [List.length_append] at e1; omega); have hbs1 := Nat.le_trans hbs9 h3; have HPU := Lib.hid (putU_any B A1 n1 c1 _ q hq64 _ HO1 (by omega) hbs1); clear h1 h2 h3)
      | (go_at_call 93; (with_reducible refine (HPU.out).mono ?_); rintro e w2 ⟨A3, n3, c3, rfl, h1, h2, h3⟩; have HO3 := Lib.hid h1; have HB3 := Lib.hid h2; clear h1 h2 h3))
     go_roundw
     case rel =>
      have hBA := (HBW.out.trans HB1.out).trans HB3.out
      refine ⟨A3, n3, c3, A2, m' - r, C2, _, l'.drop r, rfl, rfl, by rw [List.length_drop, ← HM.out], hcl, Nat.le_trans hcc hc2, by omega, ?_, ?_, HO3.out, ?_, hBA⟩
      ·have e1 := HO1.out.len; have e2 := HO.out.len; have e3 := HZ.out; have e4 := HO3.out.len; have e5 := HQ10.out; rw [List.length_append] at e1 e4; rw [List.length_append] at e4; omega
      ·rw [← HP.out, HST.out, HQ.out]; simp only [List.append_assoc]
      ·exact HCAT.out
     case measure => simp [lenOfS]; omega
  ·have hz2 : m' = 0 := by omega
   subst hz2
   have hl : l' = [] := List.eq_nil_of_length_eq_zero HM.out.symm
   subst hl
   go_wp2
   go_ret
   exact ⟨A', n', cap', rfl, by have := HP.out; rw [lru_nil, List.append_nil] at this; rw [← this]; exact HO.out, HBL.out, HBL.out.size⟩
end Go.Proofs.YtjldamkmdkaiiaaGreatDoor
