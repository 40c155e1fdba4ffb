/-
  Layer column: whole numbers laid plain, as distances, as runs.
-/
import Derived.Test.YtenmjofbamihdaaDoorCwK
set_option linter.unusedSimpArgs false
set_option linter.unusedVariables false
set_option maxRecDepth 8000
namespace Go.Proofs.YtenmjofbamihdaaDoor
open Go.RowKit Go.WideShapes Col
namespace Col
theorem ub10 {n : Nat} (h : n < 18446744073709551616) : (ub n).length ≤ 10 := ub_len 9 n (Nat.lt_trans h (by decide))
theorem zz10 {x : Int} (h : Wf64 x) : (ub (zz x)).length ≤ 10 := ub10 (zz_lt h)
theorem sub64_eq (a b : Int) : sub64 a b = wrap64 (a - b) := by unfold sub64 wrap64; rw [IntKind.wrap_i64]
theorem lpl_nil : lpl [] = [] := rfl
theorem lpl_snoc (l : List Int) (k : Nat) (x : Int) (h : l[k]? = some x) : lpl (l.take (k + 1)) = lpl (l.take k) ++ ub (zz x) := by
  rw [List.take_add_one, h]; simp [lpl]
/-- The last one, and what was ahead of all. -/
def lastOf (p : Int) (l : List Int) : Int := l.getLast?.getD p
theorem lastOf_snoc (p : Int) (l : List Int) (k : Nat) (x : Int) (h : l[k]? = some x) : lastOf p (l.take (k + 1)) = x := by
  rw [List.take_add_one, h]; simp [lastOf]
theorem lde_app : ∀ (p : Int) (l m : List Int), lde p (l ++ m) = lde p l ++ lde (lastOf p l) m
  | p, [], m => rfl
  | p, x :: l, m => by
    rw [List.cons_append, lde, lde, lde_app x l m, List.append_assoc]
    have e : lastOf p (x :: l) = lastOf x l := by
      unfold lastOf
      rcases l with _ | ⟨y, l⟩
      · rfl
      · rw [List.getLast?_cons_cons]
        rcases h : (y :: l).getLast? with _ | z
        · simp at h
        · rfl
    rw [e]
theorem lde_snoc (l : List Int) (k : Nat) (x : Int) (h : l[k]? = some x) : lde 0 (l.take (k + 1)) = lde 0 (l.take k) ++ ub (zz (sub64 x (lastOf 0 (l.take k)))) := by
  rw [List.take_add_one, h]; simp [lde_app, lde]
end Col

theorem int_cell {w : World} {b : Option Addr} {l : List Int} (h : IsAt w b l) (k : Nat) (x : Int) (hx : l[k]? = some x) : Wf64 x ∧ ∃ g off, b = some ⟨g, off, none⟩ ∧ w.cell? ⟨g, off + k, none⟩ = some (.int .i64 x) := by
  obtain ⟨h1, g, off, e, -, h2⟩ := h k x hx
  exact ⟨h1, g, off, e, h2⟩

set_option maxHeartbeats 1000000 in
theorem layPlain_any (B : Nat) (A : Option Addr) (n cap : Nat) (p : List Nat) (b : Option Addr) (m c : Nat) (l : List Int) (hm : Hid (m = l.length)) (hn : n ≤ 1000000) (hm1 : m ≤ 1000000) (W0 : World) (HL : Hid (IsAt W0 b l)) (hB : B = W0.heap.size) (w : World) (HW0 : Hid (Below B W0 w)) (H : Hid (OwnS w B A n cap p)) :
    Calls Tryd.prog 69 #[.slice A n cap, .slice b m c] w (Puts B w (p ++ lpl l)) := by
  have HBB := Lib.hid hB
  have hBw : B ≤ w.heap.size := by rw [hB]; exact HW0.out.size
  clear hB
  go_enter Tryd.func69, Tryd.ntmps69
  go_wp2
  go_loopw [0, 9] (fun q i wr => ∃ (k : Nat) (A' : Option Addr) (n' cap' : Nat), k ≤ m ∧ i = .int .i64 k ∧ q = .slice A' n' cap' ∧ n' ≤ n + 10 * k ∧ OwnS wr B A' n' cap' (p ++ lpl (l.take k)) ∧ Below B w wr) (fun _ i _ => m - (intOf i).toNat)
  case atStart => exact ⟨0, A, n, cap, Nat.zero_le _, rfl, rfl, Nat.le_refl _, by rw [List.take_zero, lpl_nil, List.append_nil]; exact H.out, Below.refl _ _⟩
  case round =>
    obtain ⟨k, A', n', cap', hk, rfl, rfl, hn', hown, hb⟩ := hrel
    have HO := Lib.hid hown
    have HBL := Lib.hid hb
    have hbs : B ≤ wr.heap.size := Nat.le_trans hBw hb.size
    clear hown hb
    by_cases hkm : k < m
    · obtain ⟨x, hx⟩ : ∃ x, l[k]? = some x := ⟨l[k]'(by have := hm.out; omega), List.getElem?_eq_getElem _⟩
      obtain ⟨hwf, g, off, rfl, hc⟩ := int_cell (HL.out.keep (HBB.out ▸ (HW0.out.trans HBL.out))) k x hx
      have HX := Lib.hid (lpl_snoc l k x hx)
      have HW := Lib.hid hwf
      have HZ := Lib.hid (zz10 hwf)
      clear hx hwf
      go_wp2_with (go_at_call 43; (refine (putI_any B A' n' cap' _ x HW _ HO (by omega) hbs).mono ?_); rintro e w1 ⟨A1, n1, c1, rfl, h1, h2, h3⟩; have HO1 := Lib.hid h1; have HB1 := Lib.hid h2; clear h1 h2 h3)
      go_roundw
      case rel => exact ⟨k + 1, A1, n1, c1, by omega, by go_num, rfl, by have e1 := HO1.out.len; have e2 := HO.out.len; have e3 := HZ.out; rw [List.length_append] at e1; omega, by rw [HX.out, ← List.append_assoc]; exact HO1.out, HBL.out.trans HB1.out⟩
      case measure => simp [intOf]; omega
    · have hkm' : k = m := by omega
      subst hkm'
      have HT : Hid (l.take k = l) := Lib.hid (List.take_of_length_le (by have := hm.out; omega))
      go_wp2
      go_ret
      exact ⟨A', n', cap', rfl, by rw [← HT.out]; exact HO.out, HBL.out, HBL.out.size⟩

set_option maxHeartbeats 1000000 in
theorem layDelta_any (B : Nat) (A : Option Addr) (n cap : Nat) (p : List Nat) (b : Option Addr) (m c : Nat) (l : List Int) (hm : Hid (m = l.length)) (hn : n ≤ 1000000) (hm1 : m ≤ 1000000) (W0 : World) (HL : Hid (IsAt W0 b l)) (hB : B = W0.heap.size) (w : World) (HW0 : Hid (Below B W0 w)) (H : Hid (OwnS w B A n cap p)) :
    Calls Tryd.prog 70 #[.slice A n cap, .slice b m c] w (Puts B w (p ++ lde 0 l)) := by
  have HBB := Lib.hid hB
  have hBw : B ≤ w.heap.size := by rw [hB]; exact HW0.out.size
  clear hB
  go_enter Tryd.func70, Tryd.ntmps70
  go_wp2
  go_loopw [0, 5, 10] (fun q a i wr => ∃ (k : Nat) (z : Int) (A' : Option Addr) (n' cap' : Nat), k ≤ m ∧ i = .int .i64 k ∧ a = .int .i64 z ∧ z = lastOf 0 (l.take k) ∧ q = .slice A' n' cap' ∧ n' ≤ n + 10 * k ∧ OwnS wr B A' n' cap' (p ++ lde 0 (l.take k)) ∧ Below B w wr) (fun _ _ i _ => m - (intOf i).toNat)
  case atStart => exact ⟨0, 0, A, n, cap, Nat.zero_le _, rfl, rfl, rfl, rfl, Nat.le_refl _, by rw [List.take_zero, lde, List.append_nil]; exact H.out, Below.refl _ _⟩
  case round =>
    obtain ⟨k, z, A', n', cap', hk, rfl, rfl, hz, rfl, hn', hown, hb⟩ := hrel
    have HO := Lib.hid hown
    have HBL := Lib.hid hb
    have HZZ := Lib.hid hz
    have hbs : B ≤ wr.heap.size := Nat.le_trans hBw hb.size
    clear hown hb hz
    by_cases hkm : k < m
    · obtain ⟨x, hx⟩ : ∃ x, l[k]? = some x := ⟨l[k]'(by have := hm.out; omega), List.getElem?_eq_getElem _⟩
      obtain ⟨hwf, g, off, rfl, hc⟩ := int_cell (HL.out.keep (HBB.out ▸ (HW0.out.trans HBL.out))) k x hx
      have HX := Lib.hid (lde_snoc l k x hx)
      have HX2 := Lib.hid (lastOf_snoc 0 l k x hx)
      obtain ⟨d, hd⟩ : ∃ d, d = wrap64 (x - z) := ⟨_, rfl⟩
      have HD := Lib.hid hd
      have HW : Hid (Wf64 d) := Lib.hid (by rw [hd, ← sub64_eq]; exact sub64_wf x z)
      have HZ := Lib.hid (zz10 HW.out)
      clear hx hwf hd
      go_wp2_with (go_at_call 43; rw [← HD.out]; (refine (putI_any B A' n' cap' _ d HW _ HO (by omega) hbs).mono ?_); rintro e w1 ⟨A1, n1, c1, rfl, h1, h2, h3⟩; have HO1 := Lib.hid h1; have HB1 := Lib.hid h2; clear h1 h2 h3)
      go_roundw
      case rel => exact ⟨k + 1, x, A1, n1, c1, by omega, by go_num, rfl, HX2.out.symm, rfl, by have e1 := HO1.out.len; have e2 := HO.out.len; have e3 := HZ.out; rw [List.length_append] at e1; omega, by rw [HX.out, ← List.append_assoc, ← HZZ.out, sub64_eq, ← HD.out]; exact HO1.out, HBL.out.trans HB1.out⟩
      case measure => simp [intOf]; omega
    · have hkm' : k = m := by omega
      subst hkm'
      have HT : Hid (l.take k = l) := Lib.hid (List.take_of_length_le (by have := hm.out; omega))
      go_wp2
      go_ret
      exact ⟨A', n', cap', rfl, by rw [← HT.out]; exact HO.out, HBL.out, HBL.out.size⟩
end Go.Proofs.YtenmjofbamihdaaDoor
