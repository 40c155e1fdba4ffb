/-
  Layer files: many files: where they lie; the search among their names.
-/
import Derived.Test.YtafdhgofdocjhaaFd
set_option linter.unusedSimpArgs false
set_option linter.unusedVariables false
namespace Go.Proofs.Ytafdhgofdocjhaa
open Go.RowKit Go.WideShapes

/-- A file as its cells tell it. -/
structure Fil where
  name : ByteArray
  A : Option Addr
  cap : Nat
  l : List Nat
  du : Nat
def FilesAt (w : World) (f : Nat) (xs : List Fil) : Prop :=
  ∀ (k : Nat) (x : Fil), xs[k]? = some x → f < w.heap.size ∧ w.cell? ⟨f, k * 3, none⟩ = some (.string x.name) ∧ w.cell? ⟨f, k * 3 + 1, none⟩ = some (.slice x.A x.l.length x.cap) ∧ w.cell? ⟨f, k * 3 + 2, none⟩ = some (.int .i64 (x.du : Nat))
theorem FilesAt.keep {w w' : World} {f : Nat} {xs : List Fil} (h : FilesAt w f xs) (hb : Below w.heap.size w w') : FilesAt w' f xs := fun k x hx => by
  obtain ⟨h0, h1, h2, h3⟩ := h k x hx
  exact ⟨Nat.lt_of_lt_of_le h0 hb.size, (hb.cell (p := ⟨f, k * 3, none⟩) h0).trans h1, (hb.cell (p := ⟨f, k * 3 + 1, none⟩) h0).trans h2, (hb.cell (p := ⟨f, k * 3 + 2, none⟩) h0).trans h3⟩
/-- The place of a name: all before it are less, no other one is. -/
def Place (xs : List Fil) (t : ByteArray) (lo : Nat) : Prop :=
  lo ≤ xs.length ∧ (∀ (k : Nat) (x : Fil), k < lo → xs[k]? = some x → cmpK x.name t < 0) ∧ (∀ (k : Nat) (x : Fil), lo ≤ k → xs[k]? = some x → ¬ cmpK x.name t < 0)
def isAt (xs : List Fil) (t : ByteArray) (lo : Nat) : Bool :=
  match xs[lo]? with
  | some x => cmpK x.name t == 0
  | none => false
set_option maxHeartbeats 1000000 in
theorem findf_any (nm t : ByteArray) (r : Int) (hr : cmpK nm t = r) (l : Value) (d : Int) (w : World) : Calls Try.prog 51 #[.agg #[.string nm, l, .int .i64 d], .string t] w fun e w' => e = .returned (.int .i64 r) ∧ Below w.heap.size w w' := by
  have H := Lib.hid fun w => strCompare_any nm t r hr w
  clear hr
  go_enter Try.func51, Try.ntmps51
  go_wp2_with (go_at_call 52; refine (H.out _).mono ?_; rintro e w' ⟨rfl, rfl⟩)
  go_ret
  exact ⟨rfl, (Below.refl w.heap.size w).alloc (Nat.le_refl _) _⟩
set_option maxHeartbeats 4000000 in
theorem search_any (f fc : Nat) (xs : List Fil) (t : ByteArray) (n : Nat) (hn : Hid (n = xs.length)) (h1000 : n ≤ 1000) (lo : Nat) (hlo : Hid (Place xs t lo)) (W : World) (HF : Hid (FilesAt W f xs)) :
    Calls Try.prog 50 #[.slice (some ⟨f, 0, none⟩) n fc, .string t, .func (.func 51) #[] #[]] W fun e w' => e = .returned (.tuple #[.int .i64 lo, .bool (isAt xs t lo)]) ∧ Below W.heap.size W w' := by
  go_enter Try.func50, Try.ntmps50
  go_wp2
  go_loopw [9, 10] (fun a b wr => ∃ i j : Nat, i ≤ lo ∧ lo ≤ j ∧ j ≤ n ∧ a = .int .i64 i ∧ b = .int .i64 j ∧ Below W.heap.size W wr) (fun a b _ => (intOf b - intOf a).toNat)
  case atStart => exact ⟨0, n, Nat.zero_le _, by have := hlo.out.1; have := hn.out; omega, Nat.le_refl _, rfl, rfl, Below.refl _ _⟩
  case round =>
    obtain ⟨i, j, h1, h2, h3, rfl, rfl, hb⟩ := hrel
    have HB := Lib.hid hb
    clear hb
    by_cases hij : i < j
    · have hhn : (i + j) / 2 < xs.length := by have := hn.out; omega
      obtain ⟨x, hxe⟩ : ∃ x, xs[(i + j) / 2]? = some x := ⟨xs[(i + j) / 2], List.getElem?_eq_getElem hhn⟩
      have HX := Lib.hid hxe
      obtain ⟨c0, c1, c2, c3⟩ := (HF.out.keep HB.out) _ x hxe
      obtain ⟨r, hr⟩ : ∃ r, cmpK x.name t = r := ⟨_, rfl⟩
      have HR := Lib.hid hr
      have hm1 : i ≤ (i + j) / 2 := by omega
      have hm2 : (i + j) / 2 < j := by omega
      clear hxe hr
      by_cases hneg : r < 0
      · have hlt : (i + j) / 2 + 1 ≤ lo := by
          rcases Nat.lt_or_ge ((i + j) / 2) lo with hq | hq
          · exact hq
          · exact absurd (by rw [HR.out]; exact hneg) (hlo.out.2.2 _ x hq HX.out)
        go_wp2_with (go_at_call 51; refine (findf_any _ _ r HR.out _ _ _).mono ?_; rintro e w1 ⟨rfl, hb⟩; have HB1 := Lib.hid (below_to HB.out hb); clear hb)
        go_roundw
        case rel => exact ⟨(i + j) / 2 + 1, j, hlt, h2, h3, by go_num, rfl, HB1.out⟩
        case measure => simp [intOf]; omega
      · have hge : lo ≤ (i + j) / 2 := by
          rcases Nat.lt_or_ge ((i + j) / 2) lo with hq | hq
          · exact absurd (by have := hlo.out.2.1 _ x hq HX.out; rwa [HR.out] at this) hneg
          · exact hq
        go_wp2_with (go_at_call 51; refine (findf_any _ _ r HR.out _ _ _).mono ?_; rintro e w1 ⟨rfl, hb⟩; have HB1 := Lib.hid (below_to HB.out hb); clear hb)
        go_roundw
        case rel => exact ⟨i, (i + j) / 2, h1, hge, by omega, rfl, by go_num, HB1.out⟩
        case measure => simp [intOf]; omega
    · have hi : i = lo := by omega
      subst hi
      clear h1 h2
      have hji : ¬ ((i : Int) < (j : Int)) := by omega
      by_cases hin : i < n
      · obtain ⟨x, hxe⟩ : ∃ x, xs[i]? = some x := ⟨xs[i]'(by have := hn.out; omega), List.getElem?_eq_getElem _⟩
        have HI : Hid (isAt xs t i = (cmpK x.name t == 0)) := Lib.hid (by unfold isAt; rw [hxe])
        obtain ⟨c0, c1, c2, c3⟩ := (HF.out.keep HB.out) _ x hxe
        obtain ⟨r, hr⟩ : ∃ r, cmpK x.name t = r := ⟨_, rfl⟩
        have HR := Lib.hid hr
        rw [hr] at HI
        clear hxe hr
        go_wp2_with (go_at_call 51; refine (findf_any _ _ r HR.out _ _ _).mono ?_; rintro e w1 ⟨rfl, hb⟩; have HB1 := Lib.hid (below_to HB.out hb); clear hb)
        go_ret2
        exact ⟨by rw [HI.out]; rfl, HB1.out⟩
      · have HI : Hid (isAt xs t i = false) := Lib.hid (by unfold isAt; rw [List.getElem?_eq_none (by have := hn.out; omega)])
        go_wp2
        go_ret2
        exact ⟨by rw [HI.out]; rfl, HB.out⟩
end Go.Proofs.Ytafdhgofdocjhaa
