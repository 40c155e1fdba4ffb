/-
  Layer column: cuts of lists of whole numbers; runs laid.
-/
import Derived.Deep.RegionHeld3
import Derived.Deep.DeepCutAuto
import Derived.Deep.MidRow
import Derived.Deep.Draws
import Derived.StillTailTactics
import Derived.Test.YtpobfgokikfmbaaGreatDoorQPbak1
import Derived.Lib.Tables
import Derived.Laws.MathBits
import Derived.Outline
import Derived.OwnWalk
set_option linter.unusedSimpArgs false
set_option linter.unusedVariables false
set_option maxRecDepth 8000
namespace Go.Proofs.YtpobfgokikfmbaaGreatDoor
open Go.RowKit Go.WideShapes Col
theorem icut_from (a : Option Addr) (len cap k : Nat) (hk : k ≤ len) (hc : len ≤ cap) :
    ∃ A C, (∀ w, (Instr.slice 40 (.slice a len cap) (some (.int .i64 (k : Int))) none none).run Tryz.prog w = .ok (.slice A (len - k) C) w) ∧ len - k ≤ C ∧ C ≤ cap ∧ ∀ w l, len = l.length → IsAt w a l → IsAt w A (l.drop k) := by
  refine ⟨if cap = k then a else a.map (·.add k), cap - k, fun w => ?_, by omega, by omega, fun w l hl h j x hx => ?_⟩
  · rw [run_slice_l w 40 a len cap Tryz.underlying40 .i64 (k : Int) (by omega) (by omega)]
    rw [show (Go.sizeOf (Tryz.prog.elem 40)).run Tryz.prog w = .ok 1 w from by kernel_rfl]
    simp [Result.andThen, sliced]
  · rw [List.getElem?_drop] at hx
    obtain ⟨h1, g, off, rfl, hg, hcell⟩ := h _ _ hx
    have hkl := (List.getElem?_eq_some_iff.1 hx).1
    rw [if_neg (by omega)]
    exact ⟨h1, g, off + k, by simp [addr_add], hg, by rw [Nat.add_assoc]; exact hcell⟩
namespace Col
/-- How often a number stands ahead. -/
def runN (x : Int) : List Int → Nat
  | [] => 0
  | y :: l => if y = x then runN x l + 1 else 0
theorem runN_le (x : Int) : ∀ l, runN x l ≤ l.length
  | [] => Nat.le_refl _
  | y :: l => by
    unfold runN
    split
    · have := runN_le x l; simp; omega
    · omega
theorem runN_at (x : Int) : ∀ (l : List Int) (k : Nat), (∀ j, j < k → l[j]? = some x) → (k = l.length ∨ ∃ y, l[k]? = some y ∧ y ≠ x) → runN x l = k
  | [], k, h, h1 => by
    rcases h1 with h1 | ⟨y, h1, -⟩
    · exact h1.symm
    · simp at h1
  | z :: l, 0, h, h1 => by
    rcases h1 with h1 | ⟨y, h1, h2⟩
    · simp at h1
    · simp at h1; subst h1; unfold runN; rw [if_neg h2]
  | z :: l, k + 1, h, h1 => by
    have h0 := h 0 (by omega)
    simp at h0; subst h0
    unfold runN; rw [if_pos rfl, runN_at z l k (fun j hj => by have := h (j + 1) (by omega); simpa using this) (by
      rcases h1 with h1 | ⟨y, h1, h2⟩
      · left; simpa using h1
      · exact .inr ⟨y, by simpa using h1, h2⟩)]
/-- Numbers as their runs. -/
def lru : List Int → List Nat
  | [] => []
  | x :: l => ub (zz x) ++ (ub (runN x l) ++ lru (l.drop (runN x l)))
termination_by l => l.length
decreasing_by simp; omega
theorem lru_nil : lru [] = [] := by rw [lru]
theorem lru_step (l : List Int) (x : Int) (r : Nat) (h1 : 1 ≤ r) (h : ∀ j, j < r → l[j]? = some x) (h2 : r = l.length ∨ ∃ y, l[r]? = some y ∧ y ≠ x) : lru l = ub (zz x) ++ (ub (r - 1) ++ lru (l.drop r)) := by
  rcases l with _ | ⟨z, l⟩
  · have := h 0 (by omega); simp at this
  · have h0 := h 0 (by omega)
    simp at h0; subst h0
    obtain ⟨k, rfl⟩ : ∃ k, r = k + 1 := ⟨r - 1, by omega⟩
    rw [lru, runN_at z l k (fun j hj => by have := h (j + 1) (by omega); simpa using this) (by
      rcases h2 with h1 | ⟨y, h1, h2⟩
      · left; simpa using h1
      · exact .inr ⟨y, by simpa using h1, h2⟩)]
    rfl
end Col
def RL (B : Nat) (W0 w : World) (n m : Nat) (p : List Nat) (l : List Int) (q s : Value) (wr : World) : Prop :=
  ∃ (A' : Option Addr) (n' cap' : Nat) (b' : Option Addr) (m' c' : Nat) (p' : List Nat) (l' : List Int), q = .slice A' n' cap' ∧ s = .slice b' m' c' ∧ m' = l'.length ∧ m' ≤ c' ∧ c' ≤ maxLen ∧ m' ≤ m ∧ n' + 20 * m' ≤ n + 20 * m ∧ p' ++ lru l' = p ++ lru l ∧ OwnS wr B A' n' cap' p' ∧ IsAt W0 b' l' ∧ Below B w wr
theorem all1 {l : List Int} {x : Int} (h : l[0]? = some x) : ∀ j, j < 1 → l[j]? = some x := fun j hj => by
  obtain rfl : j = 0 := by omega
  exact h
def lenOfS : Value → Nat
  | .slice _ n _ => n
  | _ => 0
set_option maxHeartbeats 4000000 in
theorem layRuns_any (B : Nat) (A : Option Addr) (n cap : Nat) (p : List Nat) (b : Option Addr) (m c : Nat) (l : List Int) (hm : Hid (m = l.length)) (hmc : m ≤ c) (hc : c ≤ 9223372036854775807) (hn : n ≤ 1000000) (hm1 : m ≤ 1000000) (W0 : World) (HL : Hid (IsAt W0 b l)) (hB : B = W0.heap.size) (w : World) (HW0 : Hid (Below B W0 w)) (H : Hid (OwnS w B A n cap p)) :
    Calls Tryz.prog 66 #[.slice A n cap, .slice b m c] w (Puts B w (p ++ lru l)) := by
  have HBB := Lib.hid hB
  have hBw : B ≤ w.heap.size := by rw [hB]; exact HW0.out.size
  clear hB
  go_enter Tryz.func66, Tryz.ntmps66
  go_wp2
  go_loopw [0, 1] (fun q s wr => RL B W0 w n m p l q s wr) (fun _ s _ => lenOfS s)
  case atStart => exact ⟨A, n, cap, b, m, c, p, l, rfl, rfl, hm.out, hmc, hc, Nat.le_refl _, Nat.le_refl _, rfl, H.out, HL.out, Below.refl _ _⟩
  case round =>
    obtain ⟨A', n', cap', b', m', c', p', l', rfl, rfl, hm', hmc', hc', hle, hb20, hp', hown, hat, hb⟩ := hrel
    have HO := Lib.hid hown; have HATW := Lib.hid hat; have HAT := Lib.hid (hat.keep (HBB.out ▸ (HW0.out.trans hb))); have HBL := Lib.hid hb; have HP := Lib.hid hp'; have HM := Lib.hid hm'
    have hbs : B ≤ wr.heap.size := Nat.le_trans hBw hb.size
    have hc2 : c' ≤ 9223372036854775807 := hc'
    clear hown hat hb hp' hm' hc'
    by_cases hz : 0 < m'
    · obtain ⟨x, hx⟩ : ∃ x, l'[0]? = some x := ⟨l'[0]'(by have := HM.out; omega), List.getElem?_eq_getElem _⟩
      obtain ⟨hwf, g, off, rfl, hg, hc0⟩ := HAT.out 0 x hx
      have HG := Lib.hid hg
      have HW := Lib.hid hwf
      have HX0 := Lib.hid hx
      have HZ := Lib.hid (zz10 hwf)
      rw [Nat.add_zero] at hc0
      have HC0 := Lib.hid hc0
      obtain ⟨w0, hw0⟩ : ∃ w0, w0 = wr := ⟨wr, rfl⟩
      subst hw0
      clear hx hwf hg
      have hzi : (0 : Int) < (m' : Int) := by omega
      go_wp2
      clear hc0
      go_loopw [5] (fun v wk => ∃ r : Nat, 1 ≤ r ∧ r ≤ m' ∧ v = .int .i64 r ∧ (∀ j, j < r → l'[j]? = some x) ∧ Below w0.heap.size w0 wk) (fun v _ => m' - (intOf v).toNat)
      case atStart => exact ⟨1, Nat.le_refl _, hz, rfl, all1 HX0.out, Below.refl _ _⟩
      case round =>
        obtain ⟨r, hr1, hrm, rfl, hall, hbk⟩ := hrel
        obtain ⟨wk, hw0⟩ : ∃ wk, wk = wr := ⟨wr, rfl⟩
        subst hw0
        have HALL := Lib.hid hall
        have HBK2 := Lib.hid hbk
        have HC0' : Hid (wk.cell? ⟨g, off, none⟩ = some (.int .i64 x)) := Lib.hid ((hbk.cell (p := ⟨g, off, none⟩) HG.out).trans HC0.out)
        have HGK : Hid (g < wk.heap.size) := Lib.hid (Nat.lt_of_lt_of_le HG.out hbk.size)
        clear hall hbk
        by_cases hrm2 : r < m'
        · obtain ⟨y, hy⟩ : ∃ y, l'[r]? = some y := ⟨l'[r]'(by have := HM.out; omega), List.getElem?_eq_getElem _⟩
          have HY := Lib.hid hy
          have HCY : Hid (wk.cell? ⟨g, off + r, none⟩ = some (.int .i64 y)) := Lib.hid (by
            obtain ⟨-, g', off', e, hcy⟩ := int_cell HAT.out r y hy
            injection e with e; injection e with e1 e2; subst e1; subst e2
            exact (HBK2.out.cell (p := ⟨g, off + r, none⟩) HG.out).trans hcy)
          have hri : (r : Int) < (m' : Int) := by omega
          clear hy
          by_cases hxy : y = x
          · subst hxy
            go_upto_region 3 with fail
            have hh0 : Below wk.heap.size wk wk.drew := (Below.refl _ _).drew
            refine wp_region_held_drew (S := fun w => Below wk.heap.size wk w) (by kernel_rfl) hh0 (fun hHeld => ?_)
            refine wpAnyH_take (i := 0) (v := .int .i64 (r : Int)) rfl (by kernel_rfl) (by kernel_rfl) (by kernel_rfl) (fun _ _ _ h => h) (Or.inl ⟨by rfl, fun _ _ => rfl⟩) hHeld ?_
            try dsimp only
            try simp only [Act.put, List.getElem_toArray, List.getElem_cons_zero, List.getElem_cons_succ, List.setIfInBounds_toArray, List.set_cons_zero, List.set_cons_succ]
            refine wpAnyH_take (i := 1) (v := .slice (some ⟨g, off, none⟩) m' c') rfl (by kernel_rfl) (by kernel_rfl) (by kernel_rfl) (fun _ _ _ h => h) (Or.inl ⟨by rfl, fun _ _ => rfl⟩) hHeld ?_
            try dsimp only
            try simp only [Act.put, List.getElem_toArray, List.getElem_cons_zero, List.getElem_cons_succ, List.setIfInBounds_toArray, List.set_cons_zero, List.set_cons_succ]
            refine wpAnyH_take (i := 2) (v := .int .i64 (m' : Int)) rfl (by kernel_rfl) (by kernel_rfl) (by kernel_rfl) (fun _ _ _ h => h) (Or.inl ⟨by rfl, fun w _ => by go_simp⟩) hHeld ?_
            try dsimp only
            try simp only [Act.put, List.getElem_toArray, List.getElem_cons_zero, List.getElem_cons_succ, List.setIfInBounds_toArray, List.set_cons_zero, List.set_cons_succ]
            refine wpAnyH_take (i := 3) (v := .bool true) rfl (by kernel_rfl) (by kernel_rfl) (by kernel_rfl) (fun _ _ _ h => h) (Or.inl ⟨by rfl, fun w _ => by first | (go_simp; done) | (go_simp; omega)⟩) hHeld ?_
            try dsimp only
            try simp only [Act.put, List.getElem_toArray, List.getElem_cons_zero, List.getElem_cons_succ, List.setIfInBounds_toArray, List.set_cons_zero, List.set_cons_succ]
            refine wpAnyH_take (i := 4) (v := .bool true) rfl (by kernel_rfl) (by kernel_rfl) (by kernel_rfl) (fun _ _ _ h => h) (Or.inl ⟨by rfl, fun _ _ => rfl⟩) hHeld ?_
            try dsimp only
            try simp only [Act.put, List.getElem_toArray, List.getElem_cons_zero, List.getElem_cons_succ, List.setIfInBounds_toArray, List.set_cons_zero, List.set_cons_succ]
            refine wpAnyH_take (i := 5) (v := .slice (some ⟨g, off, none⟩) m' c') rfl (by kernel_rfl) (by kernel_rfl) (by kernel_rfl) (fun _ _ _ h => h) (Or.inl ⟨by rfl, fun _ _ => rfl⟩) hHeld ?_
            try dsimp only
            try simp only [Act.put, List.getElem_toArray, List.getElem_cons_zero, List.getElem_cons_succ, List.setIfInBounds_toArray, List.set_cons_zero, List.set_cons_succ]
            refine wpAnyH_take (i := 6) (v := .int .i64 (r : Int)) rfl (by kernel_rfl) (by kernel_rfl) (by kernel_rfl) (fun _ _ _ h => h) (Or.inl ⟨by rfl, fun _ _ => rfl⟩) hHeld ?_
            try dsimp only
            try simp only [Act.put, List.getElem_toArray, List.getElem_cons_zero, List.getElem_cons_succ, List.setIfInBounds_toArray, List.set_cons_zero, List.set_cons_succ]
            refine wpAnyH_take (i := 7) (v := .pointer (some ⟨g, off + r, none⟩)) rfl (by kernel_rfl) (by kernel_rfl) (by kernel_rfl) (fun _ _ _ h => h) (Or.inl ⟨by rfl, fun w _ => by go_simp; try (intro h; exfalso; omega)⟩) hHeld ?_
            try dsimp only
            try simp only [Act.put, List.getElem_toArray, List.getElem_cons_zero, List.getElem_cons_succ, List.setIfInBounds_toArray, List.set_cons_zero, List.set_cons_succ]
            refine wpAnyH_take (i := 8) (v := .int .i64 y) rfl (by kernel_rfl) (by kernel_rfl) (by kernel_rfl) (fun _ _ _ h => h) (Or.inl ⟨by rfl, fun w hw => by have hc : w.cell? ⟨g, off + r, none⟩ = some (.int .i64 y) := (hw.cell (p := ⟨g, off + r, none⟩) HGK.out).trans HCY.out; go_simp⟩) hHeld ?_
            try dsimp only
            try simp only [Act.put, List.getElem_toArray, List.getElem_cons_zero, List.getElem_cons_succ, List.setIfInBounds_toArray, List.set_cons_zero, List.set_cons_succ]
            refine wpAnyH_take (i := 9) (v := .slice (some ⟨g, off, none⟩) m' c') rfl (by kernel_rfl) (by kernel_rfl) (by kernel_rfl) (fun _ _ _ h => h) (Or.inl ⟨by rfl, fun _ _ => rfl⟩) hHeld ?_
            try dsimp only
            try simp only [Act.put, List.getElem_toArray, List.getElem_cons_zero, List.getElem_cons_succ, List.setIfInBounds_toArray, List.set_cons_zero, List.set_cons_succ]
            refine wpAnyH_take (i := 10) (v := .pointer (some ⟨g, off, none⟩)) rfl (by kernel_rfl) (by kernel_rfl) (by kernel_rfl) (fun _ _ _ h => h) (Or.inl ⟨by rfl, fun w _ => by go_simp; try (intro h; exfalso; omega)⟩) hHeld ?_
            try dsimp only
            try simp only [Act.put, List.getElem_toArray, List.getElem_cons_zero, List.getElem_cons_succ, List.setIfInBounds_toArray, List.set_cons_zero, List.set_cons_succ]
            refine wpAnyH_take (i := 11) (v := .int .i64 y) rfl (by kernel_rfl) (by kernel_rfl) (by kernel_rfl) (fun _ _ _ h => h) (Or.inl ⟨by rfl, fun w hw => by have hc : w.cell? ⟨g, off, none⟩ = some (.int .i64 y) := (hw.cell (p := ⟨g, off, none⟩) HGK.out).trans HC0'.out; go_simp⟩) hHeld ?_
            try dsimp only
            try simp only [Act.put, List.getElem_toArray, List.getElem_cons_zero, List.getElem_cons_succ, List.setIfInBounds_toArray, List.set_cons_zero, List.set_cons_succ]
            refine wpAnyH_take (i := 12) (v := .bool true) rfl (by kernel_rfl) (by kernel_rfl) (by kernel_rfl) (fun _ _ _ h => h) (Or.inl ⟨by rfl, fun w _ => by first | (go_simp; done) | (go_simp; exact hxy3.out)⟩) hHeld ?_
            try dsimp only
            try simp only [Act.put, List.getElem_toArray, List.getElem_cons_zero, List.getElem_cons_succ, List.setIfInBounds_toArray, List.set_cons_zero, List.set_cons_succ]
            refine wpAnyH_ready (rs := [13]) (by kernel_rfl) (by simp) (AllReadyH.cons rfl (fun K hK => ?_) AllReadyH.nil)
            go_simp
            refine hK.out _ _ hHeld (fun hHeld => ?_)
            clear hK K
            try dsimp only
            try simp only [Act.put, List.getElem_toArray, List.getElem_cons_zero, List.getElem_cons_succ, List.setIfInBounds_toArray, List.set_cons_zero, List.set_cons_succ]
            refine wpAnyH_done (by kernel_rfl) ?_ _
            have HB9 := Lib.hid (below_to HBK2.out hHeld)
            clear hHeld hh0
            go_wp2
            go_roundw
            case rel => exact ⟨r + 1, by omega, by omega, by go_num, fun j hj => (by
              rcases Nat.lt_or_ge j r with h | h
              · exact HALL.out j h
              · obtain rfl : j = r := by omega
                exact HY.out), HB9.out⟩
            case measure => simp [intOf]; omega
          · have HST := Lib.hid (lru_step l' x r hr1 HALL.out (.inr ⟨y, HY.out, hxy⟩))
            have hxy2 : (y == x) = false := by rw [beq_eq_false_iff_ne]; exact hxy
            have hxy3 := Lib.hid hxy
            clear hxy
            go_upto_region 3 with fail
            have hh0 : Below wk.heap.size wk wk.drew := (Below.refl _ _).drew
            refine wp_region_held_drew (S := fun w => Below wk.heap.size wk w) (by kernel_rfl) hh0 (fun hHeld => ?_)
            refine wpAnyH_take (i := 0) (v := .int .i64 (r : Int)) rfl (by kernel_rfl) (by kernel_rfl) (by kernel_rfl) (fun _ _ _ h => h) (Or.inl ⟨by rfl, fun _ _ => rfl⟩) hHeld ?_
            try dsimp only
            try simp only [Act.put, List.getElem_toArray, List.getElem_cons_zero, List.getElem_cons_succ, List.setIfInBounds_toArray, List.set_cons_zero, List.set_cons_succ]
            refine wpAnyH_take (i := 1) (v := .slice (some ⟨g, off, none⟩) m' c') rfl (by kernel_rfl) (by kernel_rfl) (by kernel_rfl) (fun _ _ _ h => h) (Or.inl ⟨by rfl, fun _ _ => rfl⟩) hHeld ?_
            try dsimp only
            try simp only [Act.put, List.getElem_toArray, List.getElem_cons_zero, List.getElem_cons_succ, List.setIfInBounds_toArray, List.set_cons_zero, List.set_cons_succ]
            refine wpAnyH_take (i := 2) (v := .int .i64 (m' : Int)) rfl (by kernel_rfl) (by kernel_rfl) (by kernel_rfl) (fun _ _ _ h => h) (Or.inl ⟨by rfl, fun w _ => by go_simp⟩) hHeld ?_
            try dsimp only
            try simp only [Act.put, List.getElem_toArray, List.getElem_cons_zero, List.getElem_cons_succ, List.setIfInBounds_toArray, List.set_cons_zero, List.set_cons_succ]
            refine wpAnyH_take (i := 3) (v := .bool true) rfl (by kernel_rfl) (by kernel_rfl) (by kernel_rfl) (fun _ _ _ h => h) (Or.inl ⟨by rfl, fun w _ => by first | (go_simp; done) | (go_simp; omega)⟩) hHeld ?_
            try dsimp only
            try simp only [Act.put, List.getElem_toArray, List.getElem_cons_zero, List.getElem_cons_succ, List.setIfInBounds_toArray, List.set_cons_zero, List.set_cons_succ]
            refine wpAnyH_take (i := 4) (v := .bool true) rfl (by kernel_rfl) (by kernel_rfl) (by kernel_rfl) (fun _ _ _ h => h) (Or.inl ⟨by rfl, fun _ _ => rfl⟩) hHeld ?_
            try dsimp only
            try simp only [Act.put, List.getElem_toArray, List.getElem_cons_zero, List.getElem_cons_succ, List.setIfInBounds_toArray, List.set_cons_zero, List.set_cons_succ]
            refine wpAnyH_take (i := 5) (v := .slice (some ⟨g, off, none⟩) m' c') rfl (by kernel_rfl) (by kernel_rfl) (by kernel_rfl) (fun _ _ _ h => h) (Or.inl ⟨by rfl, fun _ _ => rfl⟩) hHeld ?_
            try dsimp only
            try simp only [Act.put, List.getElem_toArray, List.getElem_cons_zero, List.getElem_cons_succ, List.setIfInBounds_toArray, List.set_cons_zero, List.set_cons_succ]
            refine wpAnyH_take (i := 6) (v := .int .i64 (r : Int)) rfl (by kernel_rfl) (by kernel_rfl) (by kernel_rfl) (fun _ _ _ h => h) (Or.inl ⟨by rfl, fun _ _ => rfl⟩) hHeld ?_
            try dsimp only
            try simp only [Act.put, List.getElem_toArray, List.getElem_cons_zero, List.getElem_cons_succ, List.setIfInBounds_toArray, List.set_cons_zero, List.set_cons_succ]
            refine wpAnyH_take (i := 7) (v := .pointer (some ⟨g, off + r, none⟩)) rfl (by kernel_rfl) (by kernel_rfl) (by kernel_rfl) (fun _ _ _ h => h) (Or.inl ⟨by rfl, fun w _ => by go_simp; try (intro h; exfalso; omega)⟩) hHeld ?_
            try dsimp only
            try simp only [Act.put, List.getElem_toArray, List.getElem_cons_zero, List.getElem_cons_succ, List.setIfInBounds_toArray, List.set_cons_zero, List.set_cons_succ]
            refine wpAnyH_take (i := 8) (v := .int .i64 y) rfl (by kernel_rfl) (by kernel_rfl) (by kernel_rfl) (fun _ _ _ h => h) (Or.inl ⟨by rfl, fun w hw => by have hc : w.cell? ⟨g, off + r, none⟩ = some (.int .i64 y) := (hw.cell (p := ⟨g, off + r, none⟩) HGK.out).trans HCY.out; go_simp⟩) hHeld ?_
            try dsimp only
            try simp only [Act.put, List.getElem_toArray, List.getElem_cons_zero, List.getElem_cons_succ, List.setIfInBounds_toArray, List.set_cons_zero, List.set_cons_succ]
            refine wpAnyH_take (i := 9) (v := .slice (some ⟨g, off, none⟩) m' c') rfl (by kernel_rfl) (by kernel_rfl) (by kernel_rfl) (fun _ _ _ h => h) (Or.inl ⟨by rfl, fun _ _ => rfl⟩) hHeld ?_
            try dsimp only
            try simp only [Act.put, List.getElem_toArray, List.getElem_cons_zero, List.getElem_cons_succ, List.setIfInBounds_toArray, List.set_cons_zero, List.set_cons_succ]
            refine wpAnyH_take (i := 10) (v := .pointer (some ⟨g, off, none⟩)) rfl (by kernel_rfl) (by kernel_rfl) (by kernel_rfl) (fun _ _ _ h => h) (Or.inl ⟨by rfl, fun w _ => by go_simp; try (intro h; exfalso; omega)⟩) hHeld ?_
            try dsimp only
            try simp only [Act.put, List.getElem_toArray, List.getElem_cons_zero, List.getElem_cons_succ, List.setIfInBounds_toArray, List.set_cons_zero, List.set_cons_succ]
            refine wpAnyH_take (i := 11) (v := .int .i64 x) rfl (by kernel_rfl) (by kernel_rfl) (by kernel_rfl) (fun _ _ _ h => h) (Or.inl ⟨by rfl, fun w hw => by have hc : w.cell? ⟨g, off, none⟩ = some (.int .i64 x) := (hw.cell (p := ⟨g, off, none⟩) HGK.out).trans HC0'.out; go_simp⟩) hHeld ?_
            try dsimp only
            try simp only [Act.put, List.getElem_toArray, List.getElem_cons_zero, List.getElem_cons_succ, List.setIfInBounds_toArray, List.set_cons_zero, List.set_cons_succ]
            refine wpAnyH_take (i := 12) (v := .bool false) rfl (by kernel_rfl) (by kernel_rfl) (by kernel_rfl) (fun _ _ _ h => h) (Or.inl ⟨by rfl, fun w _ => by first | (go_simp; done) | (go_simp; exact hxy3.out)⟩) hHeld ?_
            try dsimp only
            try simp only [Act.put, List.getElem_toArray, List.getElem_cons_zero, List.getElem_cons_succ, List.setIfInBounds_toArray, List.set_cons_zero, List.set_cons_succ]
            refine wpAnyH_ready (rs := [13]) (by kernel_rfl) (by simp) (AllReadyH.cons rfl (fun K hK => ?_) AllReadyH.nil)
            go_simp
            refine hK.out _ _ hHeld (fun hHeld => ?_)
            clear hK K
            try dsimp only
            try simp only [Act.put, List.getElem_toArray, List.getElem_cons_zero, List.getElem_cons_succ, List.setIfInBounds_toArray, List.set_cons_zero, List.set_cons_succ]
            refine wpAnyH_done (by kernel_rfl) ?_ _
            have HB9 := Lib.hid (below_to HBK2.out hHeld)
            clear hHeld hh0
            clear HBK2 HC0' HGK HALL
            generalize wk.drew = w9 at *
            have HBW : Hid (Below B w w9) := Lib.hid (HBL.out.trans (HB9.out.mono hbs))
            have hc9 := (HB9.out.cell (p := ⟨g, off, none⟩) HG.out).trans HC0.out
            have HO9 := Lib.hid (HO.out.keep HB9.out)
            have hbs9 := Nat.le_trans hbs HB9.out.size
            obtain ⟨A2, C2, hcut, hcl, hcc, hcat⟩ := icut_from (some ⟨g, off, none⟩) m' c' r hrm hmc'
            have HCAT := Lib.hid (hcat _ l' HM.out HATW.out)
            clear hcat
            obtain ⟨q, hq⟩ : ∃ q : Nat, q + 1 = r := ⟨r - 1, by omega⟩
            have hqi : (r : Int) - 1 = (q : Int) := by omega
            have hq64 : q < 18446744073709551616 := by omega
            have HQ := Lib.hid (show r - 1 = q by omega)
            have HQ10 := Lib.hid (ub10 hq64)
            have hn9 : n' ≤ 21000000 := by omega
            have hn9a : n' ≤ 1099511627776 := by omega
            have hn9b : n' + 10 ≤ 1099511627776 := by omega
            have HPI := Lib.hid (putI_any B A' n' cap' _ x HW _ HO9 hn9a hbs9)
            clear HAT HB9
            go_wp2_with (first
              | (go_at_call 89; (with_reducible refine (HPI.out).mono ?_); rintro e w1 ⟨A1, n1, c1, rfl, h1, h2, h3⟩; have HO1 := Lib.hid h1; have HB1 := Lib.hid h2; have hn1 : n1 ≤ n' + 10 := (by have e1 := h1.len; have e2 := HO.out.len; have e3 := HZ.out; rw [List.length_append] at e1; omega); have hbs1 := Nat.le_trans hbs9 h3; have HPU := Lib.hid (putU_any B A1 n1 c1 _ q hq64 _ HO1 (by omega) hbs1); clear h1 h2 h3)
              | (go_at_call 31; (with_reducible refine (HPU.out).mono ?_); rintro e w2 ⟨A3, n3, c3, rfl, h1, h2, h3⟩; have HO3 := Lib.hid h1; have HB3 := Lib.hid h2; clear h1 h2 h3))
            go_roundw
            case rel =>
              have hBA := (HBW.out.trans HB1.out).trans HB3.out
              refine ⟨A3, n3, c3, A2, m' - r, C2, _, l'.drop r, rfl, rfl, by rw [List.length_drop, ← HM.out], hcl, Nat.le_trans hcc hc2, by omega, ?_, ?_, HO3.out, ?_, hBA⟩
              · have e1 := HO1.out.len; have e2 := HO.out.len; have e3 := HZ.out; have e4 := HO3.out.len; have e5 := HQ10.out; rw [List.length_append] at e1 e4; rw [List.length_append] at e4; omega
              · rw [← HP.out, HST.out, HQ.out]; simp only [List.append_assoc]
              · exact HCAT.out
            case measure => simp [lenOfS]; omega
        · have hrm3 : r = m' := by omega
          have HST := Lib.hid (lru_step l' x r hr1 HALL.out (.inl (by have := HM.out; omega)))
          have hrn : ¬ ((r : Int) < (m' : Int)) := by omega
          clear hrm3
          go_upto_region 3 with fail
          have hh0 : Below wk.heap.size wk wk.drew := (Below.refl _ _).drew
          refine wp_region_held_drew (S := fun w => Below wk.heap.size wk w) (by kernel_rfl) hh0 (fun hHeld => ?_)
          refine wpAnyH_take (i := 0) (v := .int .i64 (r : Int)) rfl (by kernel_rfl) (by kernel_rfl) (by kernel_rfl) (fun _ _ _ h => h) (Or.inl ⟨by rfl, fun _ _ => rfl⟩) hHeld ?_
          try dsimp only
          try simp only [Act.put, List.getElem_toArray, List.getElem_cons_zero, List.getElem_cons_succ, List.setIfInBounds_toArray, List.set_cons_zero, List.set_cons_succ]
          refine wpAnyH_take (i := 1) (v := .slice (some ⟨g, off, none⟩) m' c') rfl (by kernel_rfl) (by kernel_rfl) (by kernel_rfl) (fun _ _ _ h => h) (Or.inl ⟨by rfl, fun _ _ => rfl⟩) hHeld ?_
          try dsimp only
          try simp only [Act.put, List.getElem_toArray, List.getElem_cons_zero, List.getElem_cons_succ, List.setIfInBounds_toArray, List.set_cons_zero, List.set_cons_succ]
          refine wpAnyH_take (i := 2) (v := .int .i64 (m' : Int)) rfl (by kernel_rfl) (by kernel_rfl) (by kernel_rfl) (fun _ _ _ h => h) (Or.inl ⟨by rfl, fun w _ => by go_simp⟩) hHeld ?_
          try dsimp only
          try simp only [Act.put, List.getElem_toArray, List.getElem_cons_zero, List.getElem_cons_succ, List.setIfInBounds_toArray, List.set_cons_zero, List.set_cons_succ]
          refine wpAnyH_take (i := 3) (v := .bool false) rfl (by kernel_rfl) (by kernel_rfl) (by kernel_rfl) (fun _ _ _ h => h) (Or.inl ⟨by rfl, fun w _ => by first | (go_simp; done) | (go_simp; omega)⟩) hHeld ?_
          try dsimp only
          try simp only [Act.put, List.getElem_toArray, List.getElem_cons_zero, List.getElem_cons_succ, List.setIfInBounds_toArray, List.set_cons_zero, List.set_cons_succ]
          refine wpAnyH_take (i := 4) (v := .bool false) rfl (by kernel_rfl) (by kernel_rfl) (by kernel_rfl) (fun _ _ _ h => h) (Or.inl ⟨by rfl, fun _ _ => rfl⟩) hHeld ?_
          try dsimp only
          try simp only [Act.put, List.getElem_toArray, List.getElem_cons_zero, List.getElem_cons_succ, List.setIfInBounds_toArray, List.set_cons_zero, List.set_cons_succ]
          refine wpAnyH_take (i := 5) (v := undef) rfl (by kernel_rfl) (by kernel_rfl) (by kernel_rfl) (fun _ _ _ h => h) (Or.inr ⟨by rfl, rfl⟩) hHeld ?_
          try dsimp only
          try simp only [Act.put, List.getElem_toArray, List.getElem_cons_zero, List.getElem_cons_succ, List.setIfInBounds_toArray, List.set_cons_zero, List.set_cons_succ]
          refine wpAnyH_take (i := 6) (v := undef) rfl (by kernel_rfl) (by kernel_rfl) (by kernel_rfl) (fun _ _ _ h => h) (Or.inr ⟨by rfl, rfl⟩) hHeld ?_
          try dsimp only
          try simp only [Act.put, List.getElem_toArray, List.getElem_cons_zero, List.getElem_cons_succ, List.setIfInBounds_toArray, List.set_cons_zero, List.set_cons_succ]
          refine wpAnyH_take (i := 7) (v := undef) rfl (by kernel_rfl) (by kernel_rfl) (by kernel_rfl) (fun _ _ _ h => h) (Or.inr ⟨by rfl, rfl⟩) hHeld ?_
          try dsimp only
          try simp only [Act.put, List.getElem_toArray, List.getElem_cons_zero, List.getElem_cons_succ, List.setIfInBounds_toArray, List.set_cons_zero, List.set_cons_succ]
          refine wpAnyH_take (i := 8) (v := undef) rfl (by kernel_rfl) (by kernel_rfl) (by kernel_rfl) (fun _ _ _ h => h) (Or.inr ⟨by rfl, rfl⟩) hHeld ?_
          try dsimp only
          try simp only [Act.put, List.getElem_toArray, List.getElem_cons_zero, List.getElem_cons_succ, List.setIfInBounds_toArray, List.set_cons_zero, List.set_cons_succ]
          refine wpAnyH_take (i := 9) (v := undef) rfl (by kernel_rfl) (by kernel_rfl) (by kernel_rfl) (fun _ _ _ h => h) (Or.inr ⟨by rfl, rfl⟩) hHeld ?_
          try dsimp only
          try simp only [Act.put, List.getElem_toArray, List.getElem_cons_zero, List.getElem_cons_succ, List.setIfInBounds_toArray, List.set_cons_zero, List.set_cons_succ]
          refine wpAnyH_take (i := 10) (v := undef) rfl (by kernel_rfl) (by kernel_rfl) (by kernel_rfl) (fun _ _ _ h => h) (Or.inr ⟨by rfl, rfl⟩) hHeld ?_
          try dsimp only
          try simp only [Act.put, List.getElem_toArray, List.getElem_cons_zero, List.getElem_cons_succ, List.setIfInBounds_toArray, List.set_cons_zero, List.set_cons_succ]
          refine wpAnyH_take (i := 11) (v := undef) rfl (by kernel_rfl) (by kernel_rfl) (by kernel_rfl) (fun _ _ _ h => h) (Or.inr ⟨by rfl, rfl⟩) hHeld ?_
          try dsimp only
          try simp only [Act.put, List.getElem_toArray, List.getElem_cons_zero, List.getElem_cons_succ, List.setIfInBounds_toArray, List.set_cons_zero, List.set_cons_succ]
          refine wpAnyH_take (i := 12) (v := undef) rfl (by kernel_rfl) (by kernel_rfl) (by kernel_rfl) (fun _ _ _ h => h) (Or.inr ⟨by rfl, rfl⟩) hHeld ?_
          try dsimp only
          try simp only [Act.put, List.getElem_toArray, List.getElem_cons_zero, List.getElem_cons_succ, List.setIfInBounds_toArray, List.set_cons_zero, List.set_cons_succ]
          refine wpAnyH_ready (rs := [13]) (by kernel_rfl) (by simp) (AllReadyH.cons rfl (fun K hK => ?_) AllReadyH.nil)
          go_simp
          refine hK.out _ _ hHeld (fun hHeld => ?_)
          clear hK K
          try dsimp only
          try simp only [Act.put, List.getElem_toArray, List.getElem_cons_zero, List.getElem_cons_succ, List.setIfInBounds_toArray, List.set_cons_zero, List.set_cons_succ]
          refine wpAnyH_done (by kernel_rfl) ?_ _
          have HB9 := Lib.hid (below_to HBK2.out hHeld)
          clear hHeld hh0
          clear HBK2 HC0' HGK HALL
          generalize wk.drew = w9 at *
          have HBW : Hid (Below B w w9) := Lib.hid (HBL.out.trans (HB9.out.mono hbs))
          have hc9 := (HB9.out.cell (p := ⟨g, off, none⟩) HG.out).trans HC0.out
          have HO9 := Lib.hid (HO.out.keep HB9.out)
          have hbs9 := Nat.le_trans hbs HB9.out.size
          obtain ⟨A2, C2, hcut, hcl, hcc, hcat⟩ := icut_from (some ⟨g, off, none⟩) m' c' r hrm hmc'
          have HCAT := Lib.hid (hcat _ l' HM.out HATW.out)
          clear hcat
          obtain ⟨q, hq⟩ : ∃ q : Nat, q + 1 = r := ⟨r - 1, by omega⟩
          have hqi : (r : Int) - 1 = (q : Int) := by omega
          have hq64 : q < 18446744073709551616 := by omega
          have HQ := Lib.hid (show r - 1 = q by omega)
          have HQ10 := Lib.hid (ub10 hq64)
          have hn9 : n' ≤ 21000000 := by omega
          have hn9a : n' ≤ 1099511627776 := by omega
          have hn9b : n' + 10 ≤ 1099511627776 := by omega
          have HPI := Lib.hid (putI_any B A' n' cap' _ x HW _ HO9 hn9a hbs9)
          clear HAT HB9
          go_wp2_with (first
            | (go_at_call 89; (with_reducible refine (HPI.out).mono ?_); rintro e w1 ⟨A1, n1, c1, rfl, h1, h2, h3⟩; have HO1 := Lib.hid h1; have HB1 := Lib.hid h2; have hn1 : n1 ≤ n' + 10 := (by have e1 := h1.len; have e2 := HO.out.len; have e3 := HZ.out; rw [List.length_append] at e1; omega); have hbs1 := Nat.le_trans hbs9 h3; have HPU := Lib.hid (putU_any B A1 n1 c1 _ q hq64 _ HO1 (by omega) hbs1); clear h1 h2 h3)
            | (go_at_call 31; (with_reducible refine (HPU.out).mono ?_); rintro e w2 ⟨A3, n3, c3, rfl, h1, h2, h3⟩; have HO3 := Lib.hid h1; have HB3 := Lib.hid h2; clear h1 h2 h3))
          go_roundw
          case rel =>
            have hBA := (HBW.out.trans HB1.out).trans HB3.out
            refine ⟨A3, n3, c3, A2, m' - r, C2, _, l'.drop r, rfl, rfl, by rw [List.length_drop, ← HM.out], hcl, Nat.le_trans hcc hc2, by omega, ?_, ?_, HO3.out, ?_, hBA⟩
            · have e1 := HO1.out.len; have e2 := HO.out.len; have e3 := HZ.out; have e4 := HO3.out.len; have e5 := HQ10.out; rw [List.length_append] at e1 e4; rw [List.length_append] at e4; omega
            · rw [← HP.out, HST.out, HQ.out]; simp only [List.append_assoc]
            · exact HCAT.out
          case measure => simp [lenOfS]; omega
    · have hz2 : m' = 0 := by omega
      subst hz2
      have hl : l' = [] := List.eq_nil_of_length_eq_zero HM.out.symm
      subst hl
      go_wp2
      go_ret
      exact ⟨A', n', cap', rfl, by have := HP.out; rw [lru_nil, List.append_nil] at this; rw [← this]; exact HO.out, HBL.out, HBL.out.size⟩
end Go.Proofs.YtpobfgokikfmbaaGreatDoor

set_option linter.unusedSimpArgs false
set_option linter.unusedVariables false
set_option maxRecDepth 8000
namespace Go.Proofs.YtpobfgokikfmbaaGreatDoor
open Go.RowKit Go.WideShapes Col
namespace Col
/-- A number's k bytes, the lowest first. -/
def leb : Nat → Nat → List Nat
  | 0, _ => []
  | k + 1, n => n % 256 :: leb k (n / 256)
theorem leb_length : ∀ (k n : Nat), (leb k n).length = k
  | 0, _ => rfl
  | k + 1, n => by rw [leb, List.length_cons, leb_length k]
theorem leb_lt : ∀ (k n : Nat), ∀ x ∈ leb k n, x < 256
  | 0, _, x, h => by cases h
  | k + 1, n, x, h => by
    rcases List.mem_cons.1 h with rfl | h
    · exact Nat.mod_lt _ (by decide)
    · exact leb_lt k _ x h
theorem leb_get : ∀ (k n i : Nat), i < k → (leb k n)[i]? = some (n / 2 ^ (8 * i) % 256)
  | k + 1, n, 0, _ => by rw [leb]; simp
  | k + 1, n, i + 1, h => by
    rw [leb, List.getElem?_cons_succ, leb_get k (n / 256) i (by omega), Nat.div_div_eq_div_mul, show 8 * (i + 1) = 8 + 8 * i by omega, Nat.pow_add]
theorem leb_zero : ∀ k, leb k 0 = List.replicate k 0
  | 0 => rfl
  | k + 1 => by rw [leb, Nat.zero_div, leb_zero k]; rfl
theorem leb_ext {k : Nat} {l : List Nat} {n : Nat} (hl : l.length = k) (h : ∀ i, i < k → l[i]? = some (n / 2 ^ (8 * i) % 256)) : l = leb k n := by
  apply List.ext_getElem?
  intro i
  by_cases hi : i < k
  · rw [h i hi, leb_get k n i hi]
  · rw [List.getElem?_eq_none (by omega), List.getElem?_eq_none (by rw [leb_length]; omega)]
/-- The bits of d that go into the byte in which the place at stands. -/
theorem byte_step (a at' d : Nat) (ha : a < 2 ^ at') (i s : Nat) (hi : at' = 8 * i + s) (hs : s < 8) :
    a / 2 ^ (8 * i) % 256 < 2 ^ s ∧ (a + d % 2 ^ (8 - s) * 2 ^ at') / 2 ^ (8 * i) % 256 = a / 2 ^ (8 * i) % 256 + d * 2 ^ s % 256 ∧ a + d % 2 ^ (8 - s) * 2 ^ at' < 2 ^ (8 * (i + 1)) ∧
    (∀ j, j < i → (a + d % 2 ^ (8 - s) * 2 ^ at') / 2 ^ (8 * j) % 256 = a / 2 ^ (8 * j) % 256) ∧ (∀ j, i < j → (a + d % 2 ^ (8 - s) * 2 ^ at') / 2 ^ (8 * j) % 256 = a / 2 ^ (8 * j) % 256) := by
  have hp : 2 ^ at' = 2 ^ (8 * i) * 2 ^ s := by rw [hi, Nat.pow_add]
  have hP : 0 < 2 ^ (8 * i) := Nat.two_pow_pos _
  have hS : 0 < 2 ^ s := Nat.two_pow_pos _
  have h8 : 2 ^ s * 2 ^ (8 - s) = 256 := by rw [← Nat.pow_add, show s + (8 - s) = 8 by omega]
  have hq : a / 2 ^ (8 * i) < 2 ^ s := by rw [Nat.div_lt_iff_lt_mul hP, Nat.mul_comm, ← hp]; exact ha
  have h256 : 2 ^ s ≤ 256 := by rw [← h8]; exact Nat.le_mul_of_pos_right _ (Nat.two_pow_pos _)
  have hR : d % 2 ^ (8 - s) < 2 ^ (8 - s) := Nat.mod_lt _ (Nat.two_pow_pos _)
  have hd : d * 2 ^ s % 256 = d % 2 ^ (8 - s) * 2 ^ s := by
    rw [← h8, Nat.mul_comm d, Nat.mul_mod_mul_left, Nat.mul_comm]
  generalize d % 2 ^ (8 - s) = R at *
  have hsum : (a + R * 2 ^ at') / 2 ^ (8 * i) = a / 2 ^ (8 * i) + R * 2 ^ s := by
    rw [hp, show R * (2 ^ (8 * i) * 2 ^ s) = 2 ^ (8 * i) * (R * 2 ^ s) by rw [Nat.mul_left_comm]]
    exact Nat.add_mul_div_left _ _ hP
  have hlt : a / 2 ^ (8 * i) + R * 2 ^ s < 256 := by
    have h1 : (R + 1) * 2 ^ s ≤ 2 ^ (8 - s) * 2 ^ s := Nat.mul_le_mul_right _ hR
    rw [Nat.add_mul, Nat.one_mul, Nat.mul_comm (2 ^ (8 - s)), h8] at h1
    omega
  have hbig : a + R * 2 ^ at' < 2 ^ (8 * (i + 1)) := by
    have h1 := (Nat.div_lt_iff_lt_mul hP).1 (show (a + R * 2 ^ at') / 2 ^ (8 * i) < 2 ^ 8 by rw [hsum]; exact hlt)
    rw [show 8 * (i + 1) = 8 + 8 * i by omega, Nat.pow_add]; exact h1
  refine ⟨by rw [Nat.mod_eq_of_lt (by omega)]; exact hq, ?_, hbig, fun j hj => ?_, fun j hj => ?_⟩
  · rw [hsum, hd, Nat.mod_eq_of_lt hlt, Nat.mod_eq_of_lt (by omega : a / 2 ^ (8 * i) < 256)]
  · obtain ⟨k, rfl⟩ : ∃ k, i = j + 1 + k := ⟨i - j - 1, by omega⟩
    have e : R * 2 ^ at' = 2 ^ (8 * j) * (256 * (2 ^ (8 * k) * (R * 2 ^ s))) := by
      rw [hp, show 8 * (j + 1 + k) = 8 * j + (8 + 8 * k) by omega, Nat.pow_add, Nat.pow_add, show (256 : Nat) = 2 ^ 8 from rfl]
      simp only [Nat.mul_comm, Nat.mul_left_comm, Nat.mul_assoc]
    rw [e, Nat.add_mul_div_left _ _ (Nat.two_pow_pos _), Nat.add_mul_mod_self_left]
  · have h1 : 2 ^ (8 * (i + 1)) ≤ 2 ^ (8 * j) := Nat.pow_le_pow_right (by decide) (by omega)
    rw [Nat.div_eq_of_lt (by omega), Nat.div_eq_of_lt (by have : a ≤ a + R * 2 ^ at' := Nat.le_add_right _ _; omega)]
theorem leb_set (K a at' d : Nat) (ha : a < 2 ^ at') (i s : Nat) (hi : at' = 8 * i + s) (hs : s < 8) (hK : i < K) :
    (leb K a).set i (a / 2 ^ (8 * i) % 256 + d * 2 ^ s % 256) = leb K (a + d % 2 ^ (8 - s) * 2 ^ at') := by
  obtain ⟨-, h2, -, h4, h5⟩ := byte_step a at' d ha i s hi hs
  refine leb_ext (by rw [List.length_set, leb_length]) fun j hj => ?_
  rw [List.getElem?_set]
  by_cases e : i = j
  · subst e
    rw [if_pos rfl, if_pos (by rw [leb_length]; omega), h2]
  · rw [if_neg e, leb_get K a j hj]
    rcases Nat.lt_or_gt_of_ne e with h | h
    · rw [h5 j h]
    · rw [h4 j h]
theorem split_d (d s : Nat) (hs : s < 8) : d = d % 2 ^ (8 - s) + 2 ^ (8 - s) * (d / 2 ^ (8 - s)) := (Nat.mod_add_div _ _).symm
theorem or_u8 (s b x : Nat) (hs : s < 8) (hb : b < 2 ^ s) (hx : x < 256) (hm : x % 2 ^ s = 0) : bits BinOp.or IntKind.u8 (b : Int) (x : Int) = ((b + x : Nat) : Int) := by
  have hb2 : b < 256 := Nat.lt_of_lt_of_le hb (by
    have : 2 ^ s ≤ 2 ^ 8 := Nat.pow_le_pow_right (by decide) (by omega)
    exact this)
  have h1 : ∀ n : Nat, n < 256 → (BitVec.ofInt 8 (n : Int)).toNat = n := fun n hn => by
    rw [BitVec.ofInt_natCast, BitVec.toNat_ofNat]; exact Nat.mod_eq_of_lt hn
  show IntKind.u8.wrap ((BitVec.ofInt 8 (b : Int) ||| BitVec.ofInt 8 (x : Int)).toNat : Int) = _
  rw [BitVec.toNat_or, h1 b hb2, h1 x hx]
  obtain ⟨q, rfl⟩ : ∃ q, x = 2 ^ s * q := ⟨x / 2 ^ s, by have := Nat.mod_add_div x (2 ^ s); omega⟩
  have e : b ||| 2 ^ s * q = 2 ^ s * q + b := by rw [Nat.or_comm, Nat.two_pow_add_eq_or_of_lt hb]
  rw [e, IntKind.wrap_u8]
  have hbx : 2 ^ s * q + b < 256 := by
    have hqp : q * 2 ^ s < 256 := by rw [Nat.mul_comm]; exact hx
    have hdv : 2 ^ s * 2 ^ (8 - s) = 256 := by rw [← Nat.pow_add, show s + (8 - s) = 8 by omega]
    have hq1 : q < 2 ^ (8 - s) := Nat.lt_of_mul_lt_mul_left (a := 2 ^ s) (by rw [hdv]; exact hx)
    have : 2 ^ s * (q + 1) ≤ 2 ^ s * 2 ^ (8 - s) := Nat.mul_le_mul_left _ hq1
    rw [hdv, Nat.mul_add] at this; omega
  omega
theorem shl_u8 (d s : Nat) (hs : s < 8) : IntKind.u8.wrap (IntKind.u64.wrap ((d : Int) * 2 ^ s)) = ((d * 2 ^ s % 256 : Nat) : Int) := by
  rw [wrap_shl, IntKind.wrap_u8]; omega
theorem mod_dvd (d s : Nat) (hs : s < 8) : d * 2 ^ s % 256 % 2 ^ s = 0 := by
  have h8 : 2 ^ s * 2 ^ (8 - s) = 256 := by rw [← Nat.pow_add, show s + (8 - s) = 8 by omega]
  rw [← h8, Nat.mul_comm d, Nat.mul_mod_mul_left, Nat.mul_mod_right]
end Col

/-- A row of bytes that is all of a slice. -/
def RowB (w : World) (g : Nat) (l : List Nat) : Prop := w.heap[g]? = some (.cells (bys l).toArray 5 (0, 0))
section
variable {w : World} {g : Nat} {l : List Nat}
theorem RowB.cell (h : RowB w g l) (i x : Nat) (hx : l[i]? = some x) : w.cell? ⟨g, i, none⟩ = some (.int .u8 (x : Int)) := by
  rw [cell_of_row _ _ _ _ _ _ h, List.getElem?_toArray]; unfold bys; rw [List.getElem?_map, hx]; rfl
theorem RowB.fr (h : RowB w g l) (i : Nat) : w.frozen? ⟨g, i, none⟩ = false := row_frozen h i
theorem RowB.drew (h : RowB w g l) : RowB w.drew g l := h
theorem RowB.set (h : RowB w g l) (i x : Nat) (hi : i < l.length) : RowB (w.setCell ⟨g, i, none⟩ (.int .u8 (x : Int))) g (l.set i x) := by
  unfold RowB at *
  rw [World.setCell]
  simp only [Array.getElem?_modify, if_pos, h, Option.map_some]
  have e : (bys l).toArray.setIfInBounds i (.int .u8 (x : Int)) = (bys (l.set i x)).toArray := by
    unfold bys; rw [List.map_set]; simp; rfl
  simp [e]
theorem RowB.keep {w' : World} {S : Nat → Prop} (h : RowB w g l) (hk : Kept S w w') (hg : ¬ S g) : RowB w' g l := hk.heap h hg
end
def PB (g K T : Nat) (w0 : World) (p q : Value) (wr : World) : Prop := ∃ a d at' : Nat, p = .int .i64 (at' : Int) ∧ q = .int .u64 (d : Int) ∧ d < 18446744073709551616 ∧ a < 2 ^ at' ∧ a + d * 2 ^ at' = T ∧ at' < 1099511627776 + 8 ∧ RowB wr g (leb K a) ∧ Kept (Only g) w0 wr
set_option maxHeartbeats 4000000 in
theorem putBits_any (g K a at0 d0 : Nat) (ha : a < 2 ^ at0) (hd : d0 < 18446744073709551616) (hK8 : 8 * K < 1099511627776) (hat : at0 < 1099511627776) (hT : Hid (a + d0 * 2 ^ at0 < 2 ^ (8 * K))) (w : World) (H : Hid (RowB w g (leb K a))) :
    Calls Tryz.prog 94 #[.slice (some ⟨g, 0, none⟩) K K, .int .i64 (at0 : Int), .int .u64 (d0 : Int)] w fun e w' => e = .returned (.tuple #[]) ∧ RowB w' g (leb K (a + d0 * 2 ^ at0)) ∧ Kept (Only g) w w' := by
  have HPB : Hid (PB g K (a + d0 * 2 ^ at0) w (.int .i64 (at0 : Int)) (.int .u64 (d0 : Int)) w) := Lib.hid ⟨a, d0, at0, rfl, rfl, hd, ha, rfl, by omega, H.out, Kept.refl _ _⟩
  obtain ⟨T, hTT⟩ : ∃ T, T = a + d0 * 2 ^ at0 := ⟨_, rfl⟩
  rw [← hTT] at hT HPB ⊢
  clear H ha hTT hd
  go_enter Tryz.func94, Tryz.ntmps94
  go_wp2
  go_loopw [1, 2] (fun p q wr => PB g K T w p q wr) (fun _ q _ => (intOf q).toNat)
  case atStart => exact HPB.out
  case round =>
    obtain ⟨a, d, at', rfl, rfl, hd, ha, hT2, hlt, hrow, hkp⟩ := hrel
    have HA := Lib.hid ha; have HT2 := Lib.hid hT2; have HR := Lib.hid hrow; have HK := Lib.hid hkp
    clear ha hT2 hrow hkp HPB
    by_cases hd0 : d = 0
    · subst hd0
      go_wp2
      refine bodyPost_end (results_none rfl _ _ _) rfl ⟨rfl, ?_, HK.out⟩
      have := HT2.out; rw [Nat.zero_mul, Nat.add_zero] at this; rw [← this]; exact HR.out
    · have hz : ((d : Int) != 0) = true := by rw [bne_iff_ne]; omega
      obtain ⟨i, hi⟩ : ∃ i, i = at' / 8 := ⟨_, rfl⟩
      obtain ⟨s, hs⟩ : ∃ s, s = at' % 8 := ⟨_, rfl⟩
      have hs8 : s < 8 := by omega
      have his : at' = 8 * i + s := by omega
      have hqi : (at' : Int) / 8 = (i : Int) := by omega
      have hqs : (at' : Int) % 8 = (s : Int) := by omega
      have hqi2 : (at' : Int).tdiv 8 = (i : Int) := by rw [Int.tdiv_eq_ediv_of_nonneg (by omega)]; exact hqi
      have hqs2 : (at' : Int).tmod 8 = (s : Int) := by rw [Int.tmod_eq_emod_of_nonneg (by omega)]; exact hqs
      have hiK : i < K := by
        have h1 : 2 ^ at' ≤ T := by
          rw [← HT2.out]
          have : 1 * 2 ^ at' ≤ d * 2 ^ at' := Nat.mul_le_mul_right _ (by omega)
          omega
        have h2 : 2 ^ at' < 2 ^ (8 * K) := Nat.lt_of_le_of_lt h1 hT.out
        have h3 : at' < 8 * K := (Nat.pow_lt_pow_iff_right (by decide)).1 h2
        omega
      have hiKi : (i : Int) < (K : Int) := by omega
      obtain ⟨h1, h2, h3, -, -⟩ := byte_step a at' d HA.out i s his hs8
      obtain ⟨b, hb⟩ : ∃ b, b = a / 2 ^ (8 * i) % 256 := ⟨_, rfl⟩
      obtain ⟨x, hx⟩ : ∃ x, x = d * 2 ^ s % 256 := ⟨_, rfl⟩
      have HC : Hid (wr.cell? ⟨g, i, none⟩ = some (.int .u8 (b : Int))) := Lib.hid (HR.out.cell i b (by rw [hb]; exact leb_get K a i hiK))
      have HF : Hid (wr.frozen? ⟨g, i, none⟩ = false) := Lib.hid (HR.out.fr i)
      have HX : Hid (IntKind.u8.wrap (IntKind.u64.wrap ((d : Int) * 2 ^ s)) = (x : Int)) := Lib.hid (by rw [hx]; exact shl_u8 d s hs8)
      have HOR : Hid (bits BinOp.or IntKind.u8 (b : Int) (x : Int) = (b : Int) + (x : Int)) := Lib.hid (by rw [← Int.natCast_add]; exact or_u8 s b x hs8 (by rw [hb]; exact h1) (by rw [hx]; exact Nat.mod_lt _ (by decide)) (by rw [hx]; exact mod_dvd d s hs8))
      have HRS : Hid (RowB ((wr.setCell ⟨g, i, none⟩ (.int .u8 ((b : Int) + (x : Int)))).drew) g (leb K (a + d % 2 ^ (8 - s) * 2 ^ at'))) := Lib.hid (by
        rw [← leb_set K a at' d HA.out i s his hs8 hiK, ← hb, ← hx]; exact HR.out.set i (b + x) (by rw [leb_length]; exact hiK))
      have HKS : Hid (Kept (Only g) w ((wr.setCell ⟨g, i, none⟩ (.int .u8 ((b : Int) + (x : Int)))).drew)) := Lib.hid (HK.out.setCell _ _ (.inl rfl)).drew
      obtain ⟨a2, ha2⟩ : ∃ a2, a2 = a + d % 2 ^ (8 - s) * 2 ^ at' := ⟨_, rfl⟩
      obtain ⟨d2, hd2⟩ : ∃ d2, d2 = d / 2 ^ (8 - s) := ⟨_, rfl⟩
      obtain ⟨t, ht⟩ : ∃ t, t = 8 - s := ⟨_, rfl⟩
      have HT3 : Hid (a2 + d2 * 2 ^ (at' + t) = T) := Lib.hid (by
        rw [← HT2.out, ha2, hd2, ht, Nat.pow_add, Nat.add_assoc]
        congr 1
        have e := split_d d s hs8
        have : d * 2 ^ at' = (d % 2 ^ (8 - s) + 2 ^ (8 - s) * (d / 2 ^ (8 - s))) * 2 ^ at' := by rw [← e]
        rw [this, Nat.add_mul]
        congr 1
        simp only [Nat.mul_comm, Nat.mul_left_comm, Nat.mul_assoc])
      have HA3 : Hid (a2 < 2 ^ (at' + t)) := Lib.hid (by rw [ha2, ht]; rw [show at' + (8 - s) = 8 * (i + 1) by omega]; exact h3)
      have hd3 : d2 < d := by rw [hd2]; exact Nat.div_lt_self (by omega) (Nat.one_lt_two_pow (by omega))
      have HD2 : Hid ((d : Int) / 2 ^ t = (d2 : Int)) := Lib.hid (by rw [hd2, ht, Int.natCast_ediv, Int.natCast_pow]; rfl)
      rw [← ha2] at HRS
      have ht8 : t ≤ 8 := by omega
      have hti : (8 : Int) - (s : Int) = (t : Int) := by omega
      have hs64 : (s : Int) < 64 := by omega
      have HIS := Lib.hid his
      clear his
      clear h1 h2 h3 hb hx ha2 hd2 ht hi hs hd0
      go_upto_region 1 with fail
      refine wp_region_held_drew (S := fun _ => True) (by kernel_rfl) trivial (fun hHeld => ?_)
      refine wpAnyH_take (i := 0) (v := .slice (some ⟨g, 0, none⟩) K K) rfl (by kernel_rfl) (by kernel_rfl) (by kernel_rfl) (fun _ _ _ h => h) (Or.inl ⟨by rfl, fun _ _ => rfl⟩) hHeld ?_
      try dsimp only
      try simp only [Act.put, List.getElem_toArray, List.getElem_cons_zero, List.getElem_cons_succ, List.setIfInBounds_toArray, List.set_cons_zero, List.set_cons_succ]
      refine wpAnyH_take (i := 1) (v := .int .i64 (at' : Int)) rfl (by kernel_rfl) (by kernel_rfl) (by kernel_rfl) (fun _ _ _ h => h) (Or.inl ⟨by rfl, fun _ _ => rfl⟩) hHeld ?_
      try dsimp only
      try simp only [Act.put, List.getElem_toArray, List.getElem_cons_zero, List.getElem_cons_succ, List.setIfInBounds_toArray, List.set_cons_zero, List.set_cons_succ]
      refine wpAnyH_take (i := 2) (v := .int .i64 (i : Int)) rfl (by kernel_rfl) (by kernel_rfl) (by kernel_rfl) (fun _ _ _ h => h) (Or.inl ⟨by rfl, fun w _ => by first | (go_simp; done) | (go_simp; rw [IntKind.wrap_i64]; omega)⟩) hHeld ?_
      try dsimp only
      try simp only [Act.put, List.getElem_toArray, List.getElem_cons_zero, List.getElem_cons_succ, List.setIfInBounds_toArray, List.set_cons_zero, List.set_cons_succ]
      refine wpAnyH_take (i := 3) (v := .pointer (some ⟨g, i, none⟩)) rfl (by kernel_rfl) (by kernel_rfl) (by kernel_rfl) (fun _ _ _ h => h) (Or.inl ⟨by rfl, fun w _ => by go_simp; try (intro h; exfalso; omega)⟩) hHeld ?_
      try dsimp only
      try simp only [Act.put, List.getElem_toArray, List.getElem_cons_zero, List.getElem_cons_succ, List.setIfInBounds_toArray, List.set_cons_zero, List.set_cons_succ]
      refine wpAnyH_take (i := 5) (v := .int .u64 (d : Int)) rfl (by kernel_rfl) (by kernel_rfl) (by kernel_rfl) (fun _ _ _ h => h) (Or.inl ⟨by rfl, fun _ _ => rfl⟩) hHeld ?_
      try dsimp only
      try simp only [Act.put, List.getElem_toArray, List.getElem_cons_zero, List.getElem_cons_succ, List.setIfInBounds_toArray, List.set_cons_zero, List.set_cons_succ]
      refine wpAnyH_take (i := 6) (v := .int .i64 (at' : Int)) rfl (by kernel_rfl) (by kernel_rfl) (by kernel_rfl) (fun _ _ _ h => h) (Or.inl ⟨by rfl, fun _ _ => rfl⟩) hHeld ?_
      try dsimp only
      try simp only [Act.put, List.getElem_toArray, List.getElem_cons_zero, List.getElem_cons_succ, List.setIfInBounds_toArray, List.set_cons_zero, List.set_cons_succ]
      refine wpAnyH_take (i := 7) (v := .int .i64 (s : Int)) rfl (by kernel_rfl) (by kernel_rfl) (by kernel_rfl) (fun _ _ _ h => h) (Or.inl ⟨by rfl, fun w _ => by go_simp⟩) hHeld ?_
      try dsimp only
      try simp only [Act.put, List.getElem_toArray, List.getElem_cons_zero, List.getElem_cons_succ, List.setIfInBounds_toArray, List.set_cons_zero, List.set_cons_succ]
      refine wpAnyH_take (i := 8) (v := .int .u64 (IntKind.u64.wrap ((d : Int) * 2 ^ s))) rfl (by kernel_rfl) (by kernel_rfl) (by kernel_rfl) (fun _ _ _ h => h) (Or.inl ⟨by rfl, fun w _ => by go_simp⟩) hHeld ?_
      try dsimp only
      try simp only [Act.put, List.getElem_toArray, List.getElem_cons_zero, List.getElem_cons_succ, List.setIfInBounds_toArray, List.set_cons_zero, List.set_cons_succ]
      refine wpAnyH_take (i := 9) (v := .int .u8 (x : Int)) rfl (by kernel_rfl) (by kernel_rfl) (by kernel_rfl) (fun _ _ _ h => h) (Or.inl ⟨by rfl, fun w _ => by first | (go_simp; exact HX.out) | (have hh := HX.out; go_simp)⟩) hHeld ?_
      try dsimp only
      try simp only [Act.put, List.getElem_toArray, List.getElem_cons_zero, List.getElem_cons_succ, List.setIfInBounds_toArray, List.set_cons_zero, List.set_cons_succ]
      have c9 : (wr.drew).cell? ⟨g, i, none⟩ = some (.int .u8 (b : Int)) := HC.out
      have f9 : (wr.drew).frozen? ⟨g, i, none⟩ = false := HF.out
      refine wpAnyH_ready (rs := [4]) (by kernel_rfl) (by simp) (AllReadyH.cons rfl (fun K hK => ?_) AllReadyH.nil)
      go_simp
      refine hK.out _ _ hHeld (fun hHeld => ?_)
      clear hK K
      try dsimp only
      try simp only [Act.put, List.getElem_toArray, List.getElem_cons_zero, List.getElem_cons_succ, List.setIfInBounds_toArray, List.set_cons_zero, List.set_cons_succ]
      have hor := HOR.out
      refine wpAnyH_ready (rs := [10]) (by kernel_rfl) (by simp) (AllReadyH.cons rfl (fun K hK => ?_) AllReadyH.nil)
      go_simp
      refine hK.out _ _ hHeld (fun hHeld => ?_)
      clear hK K
      try dsimp only
      try simp only [Act.put, List.getElem_toArray, List.getElem_cons_zero, List.getElem_cons_succ, List.setIfInBounds_toArray, List.set_cons_zero, List.set_cons_succ]
      refine wpAnyH_take (i := 11) (v := .pointer (some ⟨g, i, none⟩)) rfl (by kernel_rfl) (by kernel_rfl) (by kernel_rfl) (fun _ _ _ h => h) (Or.inl ⟨by rfl, fun w _ => by go_simp; try (intro h; exfalso; omega)⟩) hHeld ?_
      try dsimp only
      try simp only [Act.put, List.getElem_toArray, List.getElem_cons_zero, List.getElem_cons_succ, List.setIfInBounds_toArray, List.set_cons_zero, List.set_cons_succ]
      refine wpAnyH_ready (rs := [12]) (by kernel_rfl) (by simp) (AllReadyH.cons rfl (fun K hK => ?_) AllReadyH.nil)
      go_simp
      refine hK.out _ _ hHeld (fun hHeld => ?_)
      clear hK K
      try dsimp only
      try simp only [Act.put, List.getElem_toArray, List.getElem_cons_zero, List.getElem_cons_succ, List.setIfInBounds_toArray, List.set_cons_zero, List.set_cons_succ]
      refine wpAnyH_done (by kernel_rfl) ?_ _
      generalize (World.setCell wr _ _).drew = w9 at *
      have hdd := HD2.out
      go_wp2
      go_roundw
      case rel => exact ⟨a2, d2, at' + t, by go_num, rfl, by omega, HA3.out, HT3.out, by omega, HRS.out, HKS.out⟩
      case measure => simp [intOf]; omega
end Go.Proofs.YtpobfgokikfmbaaGreatDoor

set_option linter.unusedSimpArgs false
set_option linter.unusedVariables false
set_option maxRecDepth 8000
namespace Go.Proofs.YtpobfgokikfmbaaGreatDoor
open Go.RowKit Go.WideShapes Col

theorem ret_eqC {v v' : Value} (h : v = v') : Ending.returned v = Ending.returned v' := by rw [h]
theorem len_byteC (y : Nat) (_hy : y < 256) (p : y < Lib.len8tab.size) : ((Lib.len8tab[y]'p).toNat : Int) = (bitLen y : Nat) := by
  have h := len8tab_get y (by exact p)
  exact congrArg Int.ofNat h
theorem len_atC (x y : Int) (k : Nat) (K : Int) (hK : K = (k : Nat)) (hk : k ≤ 56) (h0 : 0 ≤ y) (h1 : y < 256) (e : y.toNat = x.toNat / 2 ^ k) (hy : y ≠ 0) (p : y.toNat < Lib.len8tab.size) :
    wrap64 (K + wrap64 ((Lib.len8tab[y.toNat]'p).toNat : Int)) = (bitLen x.toNat : Nat) := by
  rw [len_byteC _ (by omega) p]
  have h8 := bitLen_le8 y.toNat (by omega)
  have hs := bitLen_shift x.toNat k (by rw [← e]; omega)
  rw [← e] at hs
  unfold wrap64
  omega
theorem len_lowC (x : Int) (h0 : 0 ≤ x) (h1 : x < 256) (p : x.toNat < Lib.len8tab.size) : wrap64 (wrap64 ((Lib.len8tab[x.toNat]'p).toNat : Int)) = (bitLen x.toNat : Nat) := by
  rw [len_byteC _ (by omega) p]
  have h8 := bitLen_le8 x.toNat (by omega)
  unfold wrap64
  omega
set_option maxHeartbeats 1000000 in
set_option maxRecDepth 100000 in
theorem lenC_int (x : Int) (h0 : 0 ≤ x) (h1 : x ≤ 18446744073709551615) (w : World) :
    Calls Tryz.prog 91 #[.int .u64 x] w fun e w' => e = .returned (.int .i64 (bitLen x.toNat : Nat)) ∧ w = w' := by
  have hsz := Lib.len8tab_size
  go_enter Tryz.func91, Tryz.ntmps91
  go_wp2
  all_goals (go_ret; refine ⟨ret_eqC (congrArg (Value.int IntKind.i64) ?_), rfl⟩)
  · exact len_atC x _ 56 56 rfl (by omega) (by omega) (by omega) (by show _ = x.toNat / 72057594037927936; omega) (by omega) _
  · exact len_atC x _ 48 48 rfl (by omega) (by omega) (by omega) (by show _ = x.toNat / 281474976710656; omega) (by omega) _
  · exact len_atC x _ 40 40 rfl (by omega) (by omega) (by omega) (by show _ = x.toNat / 1099511627776; omega) (by omega) _
  · exact len_atC x _ 32 32 rfl (by omega) (by omega) (by omega) (by show _ = x.toNat / 4294967296; omega) (by omega) _
  · exact len_atC x _ 24 24 rfl (by omega) (by omega) (by omega) (by show _ = x.toNat / 16777216; omega) (by omega) _
  · exact len_atC x _ 16 16 rfl (by omega) (by omega) (by omega) (by show _ = x.toNat / 65536; omega) (by omega) _
  · exact len_atC x _ 8 8 rfl (by omega) (by omega) (by omega) (by show _ = x.toNat / 256; omega) (by omega) _
  · have h := len_lowC x (by omega) (by omega) (by rw [hsz]; omega)
    exact h

theorem lenC_any (x : Nat) (hx : x < 18446744073709551616) (w : World) :
    Calls Tryz.prog 91 #[.int .u64 x] w fun e w' => e = .returned (.int .i64 (bitLen x : Nat)) ∧ w = w' := by
  have h := lenC_int (x : Int) (by omega) (by omega) w
  rwa [Int.toNat_natCast] at h

namespace Col
def mnL (l : List Int) : Int := l.foldl min (l.headD 0)
def mxL (l : List Int) : Int := l.foldl max (l.headD 0)
theorem fmin_le : ∀ (l : List Int) (a : Int), l.foldl min a ≤ a ∧ ∀ x ∈ l, l.foldl min a ≤ x
  | [], a => ⟨Int.le_refl _, fun x h => by cases h⟩
  | y :: l, a => by
    obtain ⟨h1, h2⟩ := fmin_le l (min a y)
    refine ⟨by rw [List.foldl_cons]; omega, fun x hx => ?_⟩
    rw [List.foldl_cons]
    rcases List.mem_cons.1 hx with rfl | hx
    · omega
    · exact h2 x hx
theorem fmax_ge : ∀ (l : List Int) (a : Int), a ≤ l.foldl max a ∧ ∀ x ∈ l, x ≤ l.foldl max a
  | [], a => ⟨Int.le_refl _, fun x h => by cases h⟩
  | y :: l, a => by
    obtain ⟨h1, h2⟩ := fmax_ge l (max a y)
    refine ⟨by rw [List.foldl_cons]; omega, fun x hx => ?_⟩
    rw [List.foldl_cons]
    rcases List.mem_cons.1 hx with rfl | hx
    · omega
    · exact h2 x hx
theorem fmin_wf : ∀ (l : List Int) (a : Int), Wf64 a → (∀ x ∈ l, Wf64 x) → Wf64 (l.foldl min a)
  | [], a, h, _ => h
  | y :: l, a, h, hl => by
    rw [List.foldl_cons]
    refine fmin_wf l _ ?_ fun x hx => hl x (List.mem_cons_of_mem _ hx)
    have := hl y (List.mem_cons_self ..)
    unfold Wf64 at *; omega
theorem fmax_wf : ∀ (l : List Int) (a : Int), Wf64 a → (∀ x ∈ l, Wf64 x) → Wf64 (l.foldl max a)
  | [], a, h, _ => h
  | y :: l, a, h, hl => by
    rw [List.foldl_cons]
    refine fmax_wf l _ ?_ fun x hx => hl x (List.mem_cons_of_mem _ hx)
    have := hl y (List.mem_cons_self ..)
    unfold Wf64 at *; omega
theorem head_wf {l : List Int} (h : ∀ x ∈ l, Wf64 x) : Wf64 (l.headD 0) := by
  cases l with
  | nil => exact ⟨by simp, by simp⟩
  | cons x l => exact h x (List.mem_cons_self ..)
theorem mnL_wf {l : List Int} (h : ∀ x ∈ l, Wf64 x) : Wf64 (mnL l) := fmin_wf l _ (head_wf h) h
theorem mxL_wf {l : List Int} (h : ∀ x ∈ l, Wf64 x) : Wf64 (mxL l) := fmax_wf l _ (head_wf h) h
theorem fold_snoc (f : Int → Int → Int) (a : Int) (l : List Int) (k : Nat) (x : Int) (h : l[k]? = some x) : (l.take (k + 1)).foldl f a = f ((l.take k).foldl f a) x := by
  rw [List.take_add_one, h]; simp
theorem head_get {l : List Int} {x : Int} (h : l[0]? = some x) : l.headD 0 = x := by
  cases l with
  | nil => simp at h
  | cons y l => simpa using h
end Col

def MR (w : World) (l : List Int) (f : Int → Int → Int) (p q : Value) (wr : World) : Prop := ∃ (k : Nat), 1 ≤ k ∧ k ≤ l.length ∧ q = .int .i64 (k : Int) ∧ p = .int .i64 ((l.take k).foldl f (l.headD 0)) ∧ w = wr
set_option maxHeartbeats 1000000 in
theorem minI_any (b : Option Addr) (m c : Nat) (l : List Int) (hm : Hid (m = l.length)) (h0 : 0 < m) (hmc : m ≤ 1000000) (w : World) (HL : Hid (IsAt w b l)) :
    Calls Tryz.prog 90 #[.slice b m c] w fun e w' => e = .returned (.int .i64 (mnL l)) ∧ w = w' := by
  obtain ⟨x, hx⟩ : ∃ x, l[0]? = some x := ⟨l[0]'(by have := hm.out; omega), List.getElem?_eq_getElem _⟩
  obtain ⟨hwf, g, off, rfl, hc⟩ := int_cell HL.out 0 x hx
  rw [Nat.add_zero] at hc
  have HX := Lib.hid hx
  have HH := Lib.hid (head_get hx)
  clear hx hwf
  go_enter Tryz.func90, Tryz.ntmps90
  go_wp2
  go_loopw [3, 4] (fun p q wr => MR w l min p q wr) (fun _ q _ => m - (intOf q).toNat)
  case atStart => exact ⟨1, Nat.le_refl _, by have := hm.out; omega, rfl, by rw [fold_snoc min _ l 0 x HX.out, HH.out]; simp, rfl⟩
  case round =>
    obtain ⟨k, hk1, hkl, rfl, rfl, rfl⟩ := hrel
    have HK : Hid (k ≤ l.length) := Lib.hid hkl
    have hkm : k ≤ m := by have := hm.out; omega
    have HA : Hid (mnL l = (l.take m).foldl min (l.headD 0)) := Lib.hid (by rw [List.take_of_length_le (by have := hm.out; omega)]; rfl)
    by_cases hlt : k < m
    · obtain ⟨y, hy⟩ : ∃ y, l[k]? = some y := ⟨l[k]'(by have := hm.out; omega), List.getElem?_eq_getElem _⟩
      have hcy : w.cell? ⟨g, off + k, none⟩ = some (.int .i64 y) := by
        obtain ⟨-, g', off', e, hcy⟩ := int_cell HL.out k y hy
        injection e with e; injection e with e1 e2; subst e1; subst e2
        exact hcy
      have HS := Lib.hid (fold_snoc min (l.headD 0) l k y hy)
      obtain ⟨z, hz⟩ : ∃ z, z = (l.take k).foldl min (l.headD 0) := ⟨_, rfl⟩
      rw [← hz] at HS ⊢
      clear hz hy hkl
      go_wp2
      go_roundw
      case rel => exact ⟨k + 1, by omega, by have := hm.out; omega, by go_num, by (first | (rw [HS.out]; done) | (rw [HS.out]; congr 1; split <;> omega)), rfl⟩
      case measure => simp [intOf]; omega
    · obtain rfl : k = m := by omega
      clear hkl
      obtain ⟨z, hz⟩ : ∃ z, z = (l.take k).foldl min (l.headD 0) := ⟨_, rfl⟩
      rw [← hz] at HA ⊢
      clear hz
      go_wp2
      go_ret
      exact ⟨by rw [HA.out]; rfl, rfl⟩

set_option maxHeartbeats 1000000 in
theorem maxI_any (b : Option Addr) (m c : Nat) (l : List Int) (hm : Hid (m = l.length)) (h0 : 0 < m) (hmc : m ≤ 1000000) (w : World) (HL : Hid (IsAt w b l)) :
    Calls Tryz.prog 92 #[.slice b m c] w fun e w' => e = .returned (.int .i64 (mxL l)) ∧ w = w' := by
  obtain ⟨x, hx⟩ : ∃ x, l[0]? = some x := ⟨l[0]'(by have := hm.out; omega), List.getElem?_eq_getElem _⟩
  obtain ⟨hwf, g, off, rfl, hc⟩ := int_cell HL.out 0 x hx
  rw [Nat.add_zero] at hc
  have HX := Lib.hid hx
  have HH := Lib.hid (head_get hx)
  clear hx hwf
  go_enter Tryz.func92, Tryz.ntmps92
  go_wp2
  go_loopw [3, 4] (fun p q wr => MR w l max p q wr) (fun _ q _ => m - (intOf q).toNat)
  case atStart => exact ⟨1, Nat.le_refl _, by have := hm.out; omega, rfl, by rw [fold_snoc max _ l 0 x HX.out, HH.out]; simp, rfl⟩
  case round =>
    obtain ⟨k, hk1, hkl, rfl, rfl, rfl⟩ := hrel
    have HK : Hid (k ≤ l.length) := Lib.hid hkl
    have hkm : k ≤ m := by have := hm.out; omega
    have HA : Hid (mxL l = (l.take m).foldl max (l.headD 0)) := Lib.hid (by rw [List.take_of_length_le (by have := hm.out; omega)]; rfl)
    by_cases hlt : k < m
    · obtain ⟨y, hy⟩ : ∃ y, l[k]? = some y := ⟨l[k]'(by have := hm.out; omega), List.getElem?_eq_getElem _⟩
      have hcy : w.cell? ⟨g, off + k, none⟩ = some (.int .i64 y) := by
        obtain ⟨-, g', off', e, hcy⟩ := int_cell HL.out k y hy
        injection e with e; injection e with e1 e2; subst e1; subst e2
        exact hcy
      have HS := Lib.hid (fold_snoc max (l.headD 0) l k y hy)
      obtain ⟨z, hz⟩ : ∃ z, z = (l.take k).foldl max (l.headD 0) := ⟨_, rfl⟩
      rw [← hz] at HS ⊢
      clear hz hy hkl
      go_wp2
      go_roundw
      case rel => exact ⟨k + 1, by omega, by have := hm.out; omega, by go_num, by (first | (rw [HS.out]; done) | (rw [HS.out]; congr 1; split <;> omega)), rfl⟩
      case measure => simp [intOf]; omega
    · obtain rfl : k = m := by omega
      clear hkl
      obtain ⟨z, hz⟩ : ∃ z, z = (l.take k).foldl max (l.headD 0) := ⟨_, rfl⟩
      rw [← hz] at HA ⊢
      clear hz
      go_wp2
      go_ret
      exact ⟨by rw [HA.out]; rfl, rfl⟩

set_option maxHeartbeats 1000000 in
theorem byteCount_any (n : Nat) (hn : n < 1099511627776) (w : World) : Calls Tryz.prog 93 #[.int .i64 (n : Int)] w fun e w' => e = .returned (.int .i64 (((n + 7) / 8 : Nat) : Int)) ∧ w = w' := by
  obtain ⟨q, hq⟩ : ∃ q : Nat, q = (n + 7) / 8 := ⟨_, rfl⟩
  have hq2 : ((n : Int) + 7).tdiv 8 = (q : Int) := by rw [Int.tdiv_eq_ediv_of_nonneg (by omega)]; omega
  have hq3 : ((n : Int) + 7) / 8 = (q : Int) := by omega
  rw [← hq]
  have HQ := Lib.hid hq
  clear hq
  go_enter Tryz.func93, Tryz.ntmps93
  go_wp2
  go_ret
  exact ⟨rfl, rfl⟩
end Go.Proofs.YtpobfgokikfmbaaGreatDoor

set_option linter.unusedSimpArgs false
set_option linter.unusedVariables false
set_option maxRecDepth 8000
namespace Go.Proofs.YtpobfgokikfmbaaGreatDoor
open Go.RowKit Go.WideShapes Col
namespace Col
/-- Digits, the lowest first. -/
def pk (W : Nat) : List Nat → Nat
  | [] => 0
  | d :: r => d + 2 ^ W * pk W r
theorem pk_app (W : Nat) : ∀ (l m : List Nat), pk W (l ++ m) = pk W l + 2 ^ (W * l.length) * pk W m
  | [], m => by simp [pk]
  | d :: l, m => by
    have ih := pk_app W l m
    have e : 2 ^ (W * (l.length + 1)) = 2 ^ W * 2 ^ (W * l.length) := by rw [Nat.mul_add, Nat.mul_one, Nat.add_comm, Nat.pow_add]
    rw [List.cons_append, pk, pk, ih, List.length_cons, e, Nat.mul_add, Nat.mul_assoc, Nat.add_assoc]
theorem pk_snoc (W : Nat) (l : List Nat) (k d : Nat) (h : l[k]? = some d) : pk W (l.take (k + 1)) = pk W (l.take k) + d * 2 ^ (k * W) := by
  have hk := (List.getElem?_eq_some_iff.1 h).1
  rw [List.take_add_one, h, pk_app, List.length_take, Nat.min_eq_left (by omega)]
  simp [pk, Nat.mul_comm]
theorem pk_lt (W : Nat) : ∀ (l : List Nat), (∀ d ∈ l, d < 2 ^ W) → pk W l < 2 ^ (W * l.length)
  | [], _ => by simp [pk]
  | d :: l, h => by
    have h1 := h d (List.mem_cons_self ..)
    have h2 := pk_lt W l fun x hx => h x (List.mem_cons_of_mem _ hx)
    rw [pk, List.length_cons, Nat.mul_add, Nat.mul_one, Nat.add_comm (W * l.length), Nat.pow_add]
    have h3 : 2 ^ W * (pk W l + 1) ≤ 2 ^ W * 2 ^ (W * l.length) := Nat.mul_le_mul_left _ h2
    rw [Nat.mul_add] at h3
    omega
theorem pk_take_lt (W : Nat) (l : List Nat) (k : Nat) (hk : k ≤ l.length) (h : ∀ d ∈ l, d < 2 ^ W) : pk W (l.take k) < 2 ^ (k * W) := by
  have := pk_lt W (l.take k) fun d hd => h d (List.mem_of_mem_take hd)
  rwa [List.length_take, Nat.min_eq_left hk, Nat.mul_comm] at this
/-- The distance from the least. -/
def dig (mn x : Int) : Nat := (x - mn).toNat
def wid (l : List Int) : Nat := bitLen (mxL l - mnL l).toNat
def digs (l : List Int) : List Nat := l.map (dig (mnL l))
def lpk (l : List Int) : List Nat := if l = [] then [] else ub (zz (mnL l)) ++ ([wid l] ++ leb ((l.length * wid l + 7) / 8) (pk (wid l) (digs l)))
theorem lpk_nil : lpk [] = [] := rfl
theorem lpk_some {l : List Int} (h : 0 < l.length) : lpk l = ub (zz (mnL l)) ++ ([wid l] ++ leb ((l.length * wid l + 7) / 8) (pk (wid l) (digs l))) := by
  unfold lpk; rw [if_neg (by intro e; rw [e] at h; cases h)]
theorem mn_le {l : List Int} {x : Int} (h : x ∈ l) : mnL l ≤ x := (fmin_le l _).2 x h
theorem mx_ge {l : List Int} {x : Int} (h : x ∈ l) : x ≤ mxL l := (fmax_ge l _).2 x h
theorem mn_mx (l : List Int) : mnL l ≤ mxL l := by
  have h1 := (fmin_le l (l.headD 0)).1; have h2 := (fmax_ge l (l.headD 0)).1
  unfold mnL mxL; omega
theorem dig_lt {l : List Int} : ∀ d ∈ digs l, d < 2 ^ wid l := fun d hd => by
  obtain ⟨x, hx, rfl⟩ := List.mem_map.1 hd
  have h1 := mn_le hx; have h2 := mx_ge hx
  have h3 := (bitLen_spec (mxL l - mnL l).toNat).1
  unfold dig wid
  exact Nat.lt_of_le_of_lt (by omega) h3
theorem wid_le {l : List Int} (h : ∀ x ∈ l, Wf64 x) : wid l ≤ 64 := by
  have h1 := mnL_wf h; have h2 := mxL_wf h; have h3 := mn_mx l
  unfold Wf64 at h1 h2
  have hs := bitLen_spec (mxL l - mnL l).toNat
  unfold wid
  by_cases h0 : (mxL l - mnL l).toNat = 0
  · rw [h0]; decide
  · have h4 := hs.2 h0
    have h5 : 2 ^ (bitLen (mxL l - mnL l).toNat - 1) < 2 ^ 64 := by omega
    have := (Nat.pow_lt_pow_iff_right (by decide)).1 h5
    omega
theorem dig_u64 {mn x : Int} (h : mn ≤ x) (h1 : Wf64 mn) (h2 : Wf64 x) : IntKind.u64.wrap (wrap64 (x - mn)) = ((dig mn x : Nat) : Int) ∧ dig mn x < 18446744073709551616 := by
  unfold Wf64 at h1 h2
  unfold dig
  refine ⟨?_, by omega⟩
  rw [IntKind.wrap_u64]; unfold wrap64; omega
end Col

theorem OwnS.ltC {w : World} {B n cap : Nat} {A : Option Addr} {l : List Nat} (h : OwnS w B A n cap l) (k : Nat) (hk : A.map (·.block) = some k) : k < w.heap.size := by
  rcases h.1.2 with ⟨h1, _⟩ | ⟨a, cap', cur, h1, hb, hrow, -⟩
  · injection h1 with e1 e2 e3; rw [e1] at hk; cases hk
  · injection h1 with e1 e2 e3; rw [e1] at hk; simp at hk; subst hk; exact (Array.getElem?_eq_some_iff.1 hrow).1
theorem OwnS.keptG {w w' : World} {B n cap g : Nat} {A : Option Addr} {l : List Nat} (h : OwnS w B A n cap l) (hk : Kept (Only g) w w') (hne : ∀ k, A.map (·.block) = some k → k ≠ g) : OwnS w' B A n cap l :=
  ⟨h.1.kept (row := some g) ⟨hk.os, hk.tape, hk.output, hk.size, fun k hk' hn => hk.block k hk' (fun e => hn (by rw [show k = g from e]))⟩ (by
    rcases A with _ | a
    · simp [Value.ownBlock]
    · have := hne a.block rfl
      simp [Value.ownBlock]; intro e; exact this (by first | exact e | exact e.symm)), h.2⟩
theorem infoByteC : (Tryz.prog.info? 5).map (fun i => (i.zero, i.size, i.bytes)) = some (some (.int .u8 0), 1, 1) := by kernel_rfl
theorem rowB_zeros {w : World} {B g q : Nat} (h : w.ownsRow B 5 1 (.slice (some ⟨g, 0, none⟩) q q) q (madeCells (Value.int .u8 0).cells (q * 1)).toList) : RowB w g (leb q 0) := by
  rw [leb_zero]
  have e : bys (List.replicate q 0) = List.replicate q (.int .u8 0) := by unfold bys; rw [List.map_replicate]; rfl
  rw [Nat.mul_one, show (Value.int .u8 0).cells = #[.int .u8 0] from rfl, toList_madeCells_one, ← e] at h
  rcases h.2 with ⟨h1, h2⟩ | ⟨g', cap', cur, h1, hb, hrow, -, -, hs, ht⟩
  · cases h1
  · cases h1
    unfold RowB
    rw [hrow]
    have hc : cur = (bys (List.replicate q 0)).toArray := by
      apply Array.ext'
      rw [← ht, Nat.mul_one, List.take_of_length_le (by rw [Array.length_toList, hs]; omega)]
    rw [hc]
def PL (g K W : Nat) (ds : List Nat) (m : Nat) (w4 : World) (v : Value) (wr : World) : Prop := ∃ i : Nat, i ≤ m ∧ v = .int .i64 (i : Int) ∧ RowB wr g (leb K (pk W (ds.take i))) ∧ Kept (Only g) w4 wr
set_option maxHeartbeats 4000000 in
theorem layPacked_any (B : Nat) (A : Option Addr) (n cap : Nat) (p : List Nat) (b : Option Addr) (m c : Nat) (l : List Int) (hm : Hid (m = l.length)) (hn : n ≤ 1000000) (hm1 : m ≤ 1000000) (W0 : World) (HL0 : Hid (IsAt W0 b l)) (hB : B = W0.heap.size) (w : World) (HW0 : Hid (Below B W0 w)) (H : Hid (OwnS w B A n cap p)) :
    Calls Tryz.prog 67 #[.slice A n cap, .slice b m c] w (Puts B w (p ++ lpk l)) := by
  have HBB := Lib.hid hB
  have hBw : B ≤ w.heap.size := by rw [hB]; exact HW0.out.size
  have HL : Hid (IsAt w b l) := Lib.hid (HL0.out.keep (HBB.out ▸ HW0.out))
  clear hB
  by_cases h0 : m = 0
  · have hl : l = [] := List.eq_nil_of_length_eq_zero (by have := hm.out; omega)
    subst hl
    subst h0
    go_enter Tryz.func67, Tryz.ntmps67
    go_wp2
    go_ret
    exact ⟨A, n, cap, rfl, by rw [lpk_nil, List.append_nil]; exact H.out, Below.refl _ _, Nat.le_refl _⟩
  · have hwf := HL.out.wf
    have HWF := Lib.hid hwf
    obtain ⟨iu, hiu, hz0, hz1, hz2⟩ := info_parts infoByteC
    obtain ⟨mn, hmn⟩ : ∃ mn, mn = mnL l := ⟨_, rfl⟩
    obtain ⟨mx, hmx⟩ : ∃ mx, mx = mxL l := ⟨_, rfl⟩
    have HMNW : Hid (Wf64 mn) := Lib.hid (hmn ▸ mnL_wf hwf)
    have HMX : Hid (mn ≤ mx ∧ Wf64 mx) := Lib.hid ⟨by rw [hmn, hmx]; exact mn_mx l, hmx ▸ mxL_wf hwf⟩
    obtain ⟨D, hD⟩ : ∃ D, D = dig mn mx := ⟨_, rfl⟩
    obtain ⟨hDu, hD64⟩ := dig_u64 HMX.out.1 HMNW.out HMX.out.2
    rw [← hD] at hDu hD64
    obtain ⟨W, hW⟩ : ∃ W, W = wid l := ⟨_, rfl⟩
    have HWD : Hid (bitLen D = W) := Lib.hid (by rw [hW, hD, hmn, hmx]; rfl)
    have hW64 : W ≤ 64 := by rw [hW]; exact wid_le hwf
    obtain ⟨ds, hds⟩ : ∃ ds, ds = digs l := ⟨_, rfl⟩
    have HDS : Hid (∀ d ∈ ds, d < 2 ^ W) := Lib.hid (by rw [hds, hW]; exact dig_lt)
    have HDL : Hid (ds.length = m) := Lib.hid (by rw [hds, hm.out]; exact List.length_map ..)
    have HDX : Hid (∀ (i : Nat) (x : Int), l[i]? = some x → ds[i]? = some (dig mn x) ∧ IntKind.u64.wrap (wrap64 (x - mn)) = ((dig mn x : Nat) : Int) ∧ dig mn x < 18446744073709551616) := Lib.hid fun i x hx => by
      refine ⟨by rw [hds]; unfold digs; rw [List.getElem?_map, hx, hmn]; rfl, dig_u64 (by rw [hmn]; exact mn_le (List.mem_of_getElem? hx)) HMNW.out (hwf x (List.mem_of_getElem? hx))⟩
    obtain ⟨MW, hMW⟩ : ∃ MW, MW = m * W := ⟨_, rfl⟩
    have hMWb : MW ≤ 64000000 := by
      have : m * W ≤ 1000000 * 64 := Nat.mul_le_mul hm1 hW64
      omega
    have hMWi : (m : Int) * (W : Int) = (MW : Int) := by rw [hMW]; exact (Int.natCast_mul m W).symm
    obtain ⟨K, hK⟩ : ∃ K, K = (MW + 7) / 8 := ⟨_, rfl⟩
    have hKb : K ≤ 8000001 := by omega
    have HK8 : Hid (MW ≤ 8 * K) := Lib.hid (by omega)
    have HRES : Hid (lpk l = ub (zz mn) ++ ([W] ++ leb K (pk W ds))) := Lib.hid (by
      rw [lpk_some (by have := hm.out; omega), hK, hMW, hm.out, hW, hmn, hds])
    have HMN := Lib.hid (show mnL l = mn from hmn.symm)
    have HMXE := Lib.hid (show mxL l = mx from hmx.symm)
    have HZ := Lib.hid (zz10 HMNW.out)
    have HKK : Hid ((MW + 7) / 8 = K) := Lib.hid hK.symm
    have HMWE := Lib.hid hMW
    have hw8 : IntKind.u8.wrap (W : Int) = (W : Int) := by rw [IntKind.wrap_u8]; omega
    have hW256 : W < 256 := by omega
    have hm0 : 0 < m := by omega
    have hzb : iu.bytes * K ≤ 281474976710656 := by rw [hz2]; omega
    have hKm : K ≤ maxLen := by unfold maxLen; omega
    have h0' : ((m : Int) == 0) = false := by rw [beq_eq_false_iff_ne]; omega
    have HMIN := Lib.hid (minI_any b m c l hm hm0 hm1)
    have HMAX := Lib.hid (maxI_any b m c l hm hm0 hm1)
    have hLEN := lenC_any D hD64
    rw [HWD.out] at hLEN
    have HLEN := Lib.hid hLEN
    have hBC := byteCount_any MW (by omega)
    rw [HKK.out] at hBC
    have HBC := Lib.hid hBC
    have HPI := Lib.hid (putI_any B A n cap p mn HMNW w H (by omega) hBw)
    clear hwf hmn hmx hD hW hds hMW hK h0 hLEN hBC
    go_enter Tryz.func67, Tryz.ntmps67
    go_wp2_with (first
      | (go_at_call 90; refine (HMIN.out _ HL).mono ?_; rw [HMN.out]; rintro e w1 ⟨rfl, rfl⟩)
      | (go_at_call 92; refine (HMAX.out _ HL).mono ?_; rw [HMXE.out]; rintro e w1 ⟨rfl, rfl⟩)
      | (go_at_call 91; refine (HLEN.out _).mono ?_; rintro e w1 ⟨rfl, rfl⟩)
      | (go_at_call 93; refine (HBC.out _).mono ?_; rintro e w1 ⟨rfl, rfl⟩)
      | (go_at_call 89; (with_reducible refine (HPI.out).mono ?_); rintro e w1 ⟨A1, n1, c1, rfl, h1, h2, h3⟩; have HO1 := Lib.hid (h1.keep ((Below.refl _ _).alloc (Nat.le_refl _) (.cells #[.int .u8 (W : Int)] 5))); have HB1 := Lib.hid (h2.alloc (Nat.le_trans hBw h3) (.cells #[.int .u8 (W : Int)] 5)); have hn1 : n1 ≤ n + 10 := (by have e1 := h1.len; have e2 := H.out.len; have e3 := HZ.out; rw [List.length_append] at e1; omega); have HBW := Lib.hid (by_one w1 W hW256); have hbs1 : B ≤ (w1.alloc (.cells #[.int .u8 (W : Int)] 5)).heap.size := (by simp; omega); clear h1 h2 h3)
      | (refine wpList_append_by rfl (.tmp 24) (.tmp 27) rfl B A1 n1 c1 _ rfl HO1.out (some ⟨w1.heap.size, 0, none⟩) 1 1 [W] rfl rfl HBW.out (by omega) hbs1 ?_; intro A2 c2 w2 ho2 hg2 hr2; have HO2 := Lib.hid ho2; have HB2 := Lib.hid (HB1.out.grown hg2 hbs1 HO1.out.base); clear ho2 hg2 hr2)
      | (refine wpList_make_full _ rfl (.tmp 33) (.tmp 33) 22 rfl w2.heap.size 5 iu (.int .u8 0) 1 Tryz.underlying22 hiu hz0 hz1 .i64 .i64 _ _ K rfl rfl rfl rfl hzb hKm (Nat.le_refl _) ?_; intro w3 own hgr; have HRB := Lib.hid (rowB_zeros own); have HB3 : Hid (Below w2.heap.size w2 w3) := Lib.hid ((Below.refl _ w2).grown hgr (Nat.le_refl _) (by intro k hk; cases hk)); clear own hgr))
    obtain ⟨g, hg⟩ : ∃ g, g = w2.heap.size := ⟨_, rfl⟩
    have hBg : B ≤ g := by rw [hg]; exact Nat.le_trans hBw HB2.out.size
    rw [← hg] at HRB ⊢
    have HO3 := Lib.hid (HO2.out.keep HB3.out)
    have HNE : Hid (∀ k, A2.map (·.block) = some k → k ≠ g) := Lib.hid fun k hk => by have := HO2.out.ltC k hk; omega
    have HBA : Hid (Below B w w3) := Lib.hid (HB2.out.trans (HB3.out.mono (by omega)))
    have HG3 : Hid (g < w3.heap.size) := Lib.hid (Array.getElem?_eq_some_iff.1 HRB.out).1
    have HST : Hid (PL g K W ds m w3 (.int .i64 0) w3) := Lib.hid ⟨0, Nat.zero_le _, rfl, by rw [List.take_zero]; exact HRB.out, Kept.refl _ _⟩
    clear HRB HBW HB1 HB2 HO1 HO2 HPI hg HMIN HMAX HLEN HBC HMXE HMX
    go_loopw [37] (fun v wr => PL g K W ds m w3 v wr) (fun v _ => m - (intOf v).toNat)
    case atStart => exact HST.out
    case round =>
      obtain ⟨i, him, rfl, hrow, hk⟩ := hrel
      have HR := Lib.hid hrow; have HK := Lib.hid hk
      clear hrow hk HST
      by_cases hlt : i < m
      · obtain ⟨x, hx⟩ : ∃ x, l[i]? = some x := ⟨l[i]'(by have := hm.out; omega), List.getElem?_eq_getElem _⟩
        obtain ⟨hwfx, g', off, rfl, hg', hc⟩ := HL0.out i x hx
        have hg3 : g' < w3.heap.size := Nat.lt_of_lt_of_le hg' (Nat.le_trans HW0.out.size HBA.out.size)
        have hne : ¬ g' = g := by have := HBB.out; omega
        have hcx : wr.cell? ⟨g', off + i, none⟩ = some (.int .i64 x) := (HK.out.cell (p := ⟨g', off + i, none⟩) hg3 hne).trans (((HBB.out ▸ (HW0.out.trans HBA.out) : Below W0.heap.size W0 w3).cell (p := ⟨g', off + i, none⟩) hg').trans hc)
        clear hg3 hne
        obtain ⟨hd1, hd2, hd3⟩ := HDX.out i x hx
        obtain ⟨d, hd⟩ : ∃ d, d = dig mn x := ⟨_, rfl⟩
        rw [← hd] at hd1 hd2 hd3
        have HD1 := Lib.hid hd1
        obtain ⟨at', hat⟩ : ∃ at', at' = i * W := ⟨_, rfl⟩
        have hati : (i : Int) * (W : Int) = (at' : Int) := by rw [hat]; exact (Int.natCast_mul i W).symm
        have hatb : at' ≤ 64000000 := by
          have : i * W ≤ 1000000 * 64 := Nat.mul_le_mul (by omega) hW64
          omega
        have HLT := Lib.hid (pk_take_lt W ds i (by have := HDL.out; omega) HDS.out)
        have HSN := Lib.hid (pk_snoc W ds i d hd1)
        have HT : Hid (pk W (ds.take i) + d * 2 ^ at' < 2 ^ (8 * K)) := Lib.hid (by
          have h1 := pk_take_lt W ds (i + 1) (by have := HDL.out; omega) HDS.out
          rw [pk_snoc W ds i d hd1, ← hat] at h1
          refine Nat.lt_of_lt_of_le h1 (Nat.pow_le_pow_right (by decide) ?_)
          have h2 : (i + 1) * W ≤ m * W := Nat.mul_le_mul_right _ (by omega)
          have := HK8.out; have := HMWE.out; omega)
        rw [← hat] at HLT HSN
        have HPB := Lib.hid (putBits_any g K (pk W (ds.take i)) at' d HLT.out hd3 (by omega) (by omega) HT wr HR)
        clear hx hwfx hg' hc hd1 hd hat HT HLT
        go_wp2_with (go_at_call 94; (with_reducible refine (HPB.out).mono ?_); rintro e w9 ⟨rfl, h1, h2⟩; have HR9 := Lib.hid h1; have HK9 := Lib.hid h2; clear h1 h2)
        go_roundw
        case rel => exact ⟨i + 1, by omega, by go_num, by rw [HSN.out]; exact HR9.out, HK.out.trans HK9.out⟩
        case measure => simp [intOf]; omega
      · obtain rfl : i = m := by omega
        have HFB : Hid (ByAt wr (some ⟨g, 0, none⟩) (leb K (pk W ds))) := Lib.hid (by
          have h := HR.out
          rw [List.take_of_length_le (by have := HDL.out; omega)] at h
          exact ByAt.of_row _ (leb_lt _ _) h ⟨[], by simp⟩)
        have HO9 := Lib.hid (HO3.out.keptG HK.out HNE.out)
        have HBF : Hid (Below B w wr) := Lib.hid (HBA.out.trans (HK.out.below (B := B) (Nat.le_trans hBg (Nat.le_of_lt HG3.out)) (fun k hk => by have hk : k = g := hk; omega)))
        have hbs9 : B ≤ wr.heap.size := Nat.le_trans hBw HBF.out.size
        have HLL := Lib.hid (leb_length K (pk W ds))
        go_wp2_with (refine wpList_append_by rfl (.tmp 52) (.tmp 53) rfl B A2 (n1 + 1) c2 _ rfl HO9.out (some ⟨g, 0, none⟩) K K _ rfl HLL.out.symm HFB.out (by omega) hbs9 ?_; intro A4 c4 w4 ho4 hg4 hr4; have HO4 := Lib.hid ho4; have HB4 := Lib.hid (HBF.out.grown hg4 hbs9 HO9.out.base); clear ho4 hg4 hr4)
        go_ret
        exact ⟨A4, _, c4, rfl, by rw [HRES.out]; have := HO4.out; simpa only [List.append_assoc] using this, HB4.out, HB4.out.size⟩
end Go.Proofs.YtpobfgokikfmbaaGreatDoor

set_option linter.unusedSimpArgs false
set_option linter.unusedVariables false
set_option maxRecDepth 8000
namespace Go.Proofs.YtpobfgokikfmbaaGreatDoor
open Go.RowKit Go.WideShapes Col
namespace Col
/-- Whole numbers, laid in a way. -/
def asL (way : Nat) (l : List Int) : List Nat := [way] ++ ub l.length ++ (if way = 0 then lpl l else if way = 1 then lde 0 l else if way = 2 then lru l else lpk l)
theorem lpl_len : ∀ l : List Int, (∀ x ∈ l, Wf64 x) → (lpl l).length ≤ 10 * l.length
  | [], _ => Nat.le_refl _
  | x :: l, h => by
    have h1 := zz10 (h x (List.mem_cons_self ..))
    have h2 := lpl_len l fun y hy => h y (List.mem_cons_of_mem _ hy)
    unfold lpl at *
    rw [List.flatMap_cons, List.length_append, List.length_cons]; omega
theorem lde_len : ∀ (l : List Int) (p : Int), (lde p l).length ≤ 10 * l.length
  | [], _ => Nat.le_refl _
  | x :: l, p => by
    have h1 := zz10 (sub64_wf x p)
    have h2 := lde_len l x
    rw [lde, List.length_append, List.length_cons]; omega
theorem lru_len (n : Nat) : ∀ l : List Int, l.length ≤ n → l.length ≤ 1000000 → (∀ x ∈ l, Wf64 x) → (lru l).length ≤ 20 * l.length := by
  induction n with
  | zero => intro l h _ _; rw [List.eq_nil_of_length_eq_zero (by omega : l.length = 0), lru_nil]; simp
  | succ n ih =>
    intro l h h1 h2
    rcases l with _ | ⟨x, l⟩
    · rw [lru_nil]; simp
    · rw [lru]
      have hr := runN_le x l
      have h3 := ih (l.drop (runN x l)) (by rw [List.length_drop]; simp at h; omega) (by rw [List.length_drop]; simp at h1; omega) fun y hy => h2 y (List.mem_cons_of_mem _ (List.mem_of_mem_drop hy))
      have h4 := zz10 (h2 x (List.mem_cons_self ..))
      have h5 : (ub (runN x l)).length ≤ 10 := ub10 (by simp at h1; omega)
      rw [List.length_drop] at h3
      rw [List.length_append, List.length_append, List.length_cons]; omega
theorem lpk_len (l : List Int) (h : ∀ x ∈ l, Wf64 x) : (lpk l).length ≤ 12 + 8 * l.length := by
  by_cases h0 : 0 < l.length
  · rw [lpk_some h0, List.length_append, List.length_append, leb_length]
    have h1 := zz10 (mnL_wf h)
    have h2 := wid_le h
    have h3 : l.length * wid l ≤ l.length * 64 := Nat.mul_le_mul_left _ h2
    simp only [List.length_cons, List.length_nil]; omega
  · rw [List.eq_nil_of_length_eq_zero (by omega : l.length = 0), lpk_nil]; simp
theorem asL_len (way : Nat) (l : List Int) (h : ∀ x ∈ l, Wf64 x) (hl : l.length ≤ 1000000) : (asL way l).length ≤ 23 + 20 * l.length := by
  have h1 : (ub l.length).length ≤ 10 := ub10 (by omega)
  unfold asL
  rw [List.length_append, List.length_append]
  have h2 := lpl_len l h; have h3 := lde_len l 0; have h4 := lru_len _ l (Nat.le_refl _) hl h; have h5 := lpk_len l h
  simp only [List.length_cons, List.length_nil]
  split
  · omega
  · split
    · omega
    · split <;> omega
end Col
set_option maxHeartbeats 2000000 in
theorem as_any (way : Nat) (hway : way < 4) (b : Option Addr) (m c : Nat) (l : List Int) (hm : Hid (m = l.length)) (hmc : m ≤ c) (hc : c ≤ 9223372036854775807) (hm1 : m ≤ 900000) (w : World) (HL : Hid (IsAt w b l)) :
    Calls Tryz.prog 32 #[.int .u8 (way : Int), .slice b m c] w (Puts w.heap.size w (asL way l)) := by
  obtain ⟨B, hB⟩ : ∃ B, B = w.heap.size := ⟨_, rfl⟩
  rw [← hB]
  have HBB := Lib.hid hB
  obtain ⟨w1, hw1⟩ : ∃ w1, w1 = w.alloc (.cells #[.int .u8 (way : Int)] 5) := ⟨_, rfl⟩
  have HA : Hid (w.alloc (.cells #[.int .u8 (way : Int)] 5) = w1) := Lib.hid hw1.symm
  have HB1 : Hid (Below B w w1) := Lib.hid (by rw [hw1]; exact (Below.refl _ _).alloc (by omega) _)
  have HO : Hid (OwnS w1 B (some ⟨B, 0, none⟩) 1 1 [way]) := Lib.hid (OwnS.of_row (cs := [.int .u8 (way : Int)]) (by rw [hw1, hB]; exact heap_alloc_new' w _) rfl (by decide) rfl rfl (Nat.le_refl _) (fun x hx => by simp at hx; omega))
  have hu := ub10 (show m < 18446744073709551616 by omega)
  have HU := Lib.hid hu
  have HM := Lib.hid hm.out
  have hmw : IntKind.u64.wrap (m : Int) = (m : Int) := by rw [IntKind.wrap_u64]; omega
  have HPU := Lib.hid (putU_any B _ 1 1 [way] m (by omega) w1 HO (by omega) (by have := HB1.out.size; omega))
  clear hu hB hw1
  have hway4 : way = 0 ∨ way = 1 ∨ way = 2 ∨ way = 3 := by omega
  rcases hway4 with rfl | rfl | rfl | rfl
  all_goals
    go_enter Tryz.func32, Tryz.ntmps32
    go_wp2_with (first
      | (go_at_call 31; have e := HA.out; (first | rw [← HBB.out, e] | (change World.alloc w (.cells #[.int .u8 0] 5) = w1 at e; rw [← HBB.out, e]) | (change World.alloc w (.cells #[.int .u8 1] 5) = w1 at e; rw [← HBB.out, e]) | (change World.alloc w (.cells #[.int .u8 2] 5) = w1 at e; rw [← HBB.out, e]) | (change World.alloc w (.cells #[.int .u8 3] 5) = w1 at e; rw [← HBB.out, e])); clear e; refine (HPU.out).mono ?_; rintro e w2 ⟨A2, n2, c2, rfl, h1, h2, h3⟩; have HO2 := Lib.hid h1; have HB2 := Lib.hid (HB1.out.trans h2); have hn2 : n2 ≤ 11 := (by have e1 := h1.len; have e2 := HU.out; simp at e1; omega); clear h1 h2 h3)
      | (go_at_call 64; refine (layPlain_any B A2 n2 c2 _ b m c l HM (by omega) (by omega) w HL HBB.out _ HB2 HO2).mono ?_; rintro e w3 ⟨A3, n3, c3, rfl, h1, h2, h3⟩; have HO3 := Lib.hid h1; have HB3 := Lib.hid (HB2.out.trans h2); clear h1 h2 h3)
      | (go_at_call 65; refine (layDelta_any B A2 n2 c2 _ b m c l HM (by omega) (by omega) w HL HBB.out _ HB2 HO2).mono ?_; rintro e w3 ⟨A3, n3, c3, rfl, h1, h2, h3⟩; have HO3 := Lib.hid h1; have HB3 := Lib.hid (HB2.out.trans h2); clear h1 h2 h3)
      | (go_at_call 66; refine (layRuns_any B A2 n2 c2 _ b m c l HM hmc hc (by omega) (by omega) w HL HBB.out _ HB2 HO2).mono ?_; rintro e w3 ⟨A3, n3, c3, rfl, h1, h2, h3⟩; have HO3 := Lib.hid h1; have HB3 := Lib.hid (HB2.out.trans h2); clear h1 h2 h3)
      | (go_at_call 67; refine (layPacked_any B A2 n2 c2 _ b m c l HM (by omega) (by omega) w HL HBB.out _ HB2 HO2).mono ?_; rintro e w3 ⟨A3, n3, c3, rfl, h1, h2, h3⟩; have HO3 := Lib.hid h1; have HB3 := Lib.hid (HB2.out.trans h2); clear h1 h2 h3))
    go_ret
    exact ⟨A3, n3, c3, rfl, by have := HO3.out; rw [HM.out] at this; exact this, HB3.out, HB3.out.size⟩
end Go.Proofs.YtpobfgokikfmbaaGreatDoor

set_option linter.unusedSimpArgs false
set_option linter.unusedVariables false
set_option maxRecDepth 8000
namespace Go.Proofs.YtpobfgokikfmbaaGreatDoor
open Go.RowKit Go.WideShapes Col
namespace Col
/-- The shorter one, and of two the first. -/
def pickL (best : List Nat) (p : List Nat) : List Nat := if p.length < best.length then p else best
def bestL (k : Nat) (l : List Int) : List Nat := match k with
  | 0 => asL 0 l
  | k + 1 => pickL (bestL k l) (asL (k + 1) l)
def intsL (l : List Int) : List Nat := bestL 3 l
end Col
def RI (W : World) (l : List Int) (u v : Value) (wr : World) : Prop := ∃ (k : Nat) (A : Option Addr) (n cap : Nat), k ≤ 3 ∧ v = .int .u8 ((k + 1 : Nat) : Int) ∧ u = .slice A n cap ∧ OwnS wr W.heap.size A n cap (bestL k l) ∧ Below W.heap.size W wr
set_option maxHeartbeats 2000000 in
theorem ints_any (b : Option Addr) (m c : Nat) (l : List Int) (hm : Hid (m = l.length)) (hmc : m ≤ c) (hc : c ≤ 9223372036854775807) (hm1 : m ≤ 900000) (W : World) (HL : Hid (IsAt W b l)) :
    Calls Tryz.prog 14 #[.slice b m c] W (Puts W.heap.size W (intsL l)) := by
  have HA := Lib.hid fun way hway w hl => as_any way hway b m c l hm hmc hc hm1 w hl
  have HWF : Hid (∀ x ∈ l, Wf64 x) := Lib.hid HL.out.wf
  have HA0 : Hid (Calls Tryz.prog 32 #[.int .u8 0, .slice b m c] W (Puts W.heap.size W (asL 0 l))) := Lib.hid (HA.out 0 (by decide) W HL)
  go_enter Tryz.func14, Tryz.ntmps14
  go_wp2_with (go_at_call 32; (with_reducible refine (HA0.out).mono ?_); rintro e w1 ⟨A1, n1, c1, rfl, h1, h2, h3⟩; have HO1 := Lib.hid h1; have HB1 := Lib.hid h2; clear h1 h2 h3)
  go_loopw [3, 4] (fun u v wr => RI W l u v wr) (fun _ v _ => 4 - (intOf v).toNat)
  case atStart => exact ⟨0, A1, n1, c1, by decide, rfl, rfl, HO1.out, HB1.out⟩
  case round =>
    obtain ⟨k, A, n, cap, hk, rfl, rfl, ho, hb⟩ := hrel
    have HO := Lib.hid ho; have HB := Lib.hid hb
    clear ho hb HA0
    have hk4 : k = 0 ∨ k = 1 ∨ k = 2 ∨ k = 3 := by omega
    by_cases h3 : k = 3
    · subst h3
      go_wp2
      go_ret
      exact ⟨A, n, cap, rfl, HO.out, HB.out, HB.out.size⟩
    · obtain ⟨K, hK⟩ : ∃ K, K = k + 1 := ⟨_, rfl⟩
      have HK := Lib.hid hK
      have hK4 : K < 4 := by omega
      have hK3 : K ≤ 3 := by omega
      rw [← hK]
      clear hK hk hk4 h3
      have HAK := Lib.hid (HA.out K hK4 wr (Lib.hid (HL.out.keep HB.out)))
      have HNL := Lib.hid HO.out.len
      go_upto_region 6 with (go_at_call 32; (with_reducible refine (HAK.out).mono ?_); rintro e w2 ⟨A2, n2, c2, rfl, h1, h2, h3⟩; have HO2 := Lib.hid (h1.more HB.out.size); have HB2 := Lib.hid (below_to HB.out h2); have HOK := Lib.hid (HO.out.keep h2); clear h1 h2 h3)
      have HN2 := Lib.hid HO2.out.len
      by_cases hlt : n2 < n
      · have HS : Hid (bestL K l = asL K l) := Lib.hid (by rw [HK.out]; unfold bestL pickL; rw [if_pos (by have := HNL.out; have := HN2.out; rw [← HK.out]; omega)])
        go_wp2
        go_roundw
        case rel => exact ⟨K, A2, n2, c2, hK3, by go_num, rfl, by rw [HS.out]; exact HO2.out, HB2.out⟩
        case measure => have := HK.out; simp [intOf]; omega
      · have HS : Hid (bestL K l = bestL k l) := Lib.hid (by rw [HK.out]; unfold bestL; unfold pickL; rw [if_neg (by have := HNL.out; have := HN2.out; rw [← HK.out]; omega)]; cases k <;> rfl)
        go_wp2
        go_roundw
        case rel => exact ⟨K, A, n, cap, hK3, by go_num, rfl, by rw [HS.out]; exact HOK.out, HB2.out⟩
        case measure => have := HK.out; simp [intOf]; omega
theorem ints_777 : intsL [7, 7, 7] = [2, 3, 14, 2] := by decide +kernel
end Go.Proofs.YtpobfgokikfmbaaGreatDoor

set_option linter.unusedSimpArgs false
set_option linter.unusedVariables false
set_option maxRecDepth 8000
namespace Go.Proofs.YtpobfgokikfmbaaGreatDoor
open Go.RowKit Go.WideShapes Col
theorem str_777 : strB [2, 3, 14, 2] = { data := #[2, 3, 14, 2] } := by decide +kernel
end Go.Proofs.YtpobfgokikfmbaaGreatDoor
