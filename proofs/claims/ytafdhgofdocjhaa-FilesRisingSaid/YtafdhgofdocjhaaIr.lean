/-
  Layer files: what every call of a law that makes, renames and deletes files without bytes leaves: contracts that hold whatever the name is.
-/
import Derived.Test.YtafdhgofdocjhaaIk
import Derived.Test.YtafdhgofdocjhaaFk
set_option linter.unusedSimpArgs false
set_option linter.unusedVariables false
namespace Go.Proofs.Ytafdhgofdocjhaa
open Go.RowKit Go.WideShapes

/-- Files that rise by their names, each name with the form, none with bytes. -/
structure Thin (xs : List Fil) : Prop where
  rises : Rises xs
  each : ∀ (k : Nat) (x : Fil), xs[k]? = some x → formK x.name = true ∧ x.l = []
theorem Thin.nil : Thin [] := ⟨rises_nil, fun k x h => by simp at h⟩
theorem sumN_thin : ∀ (xs : List Fil), (∀ (k : Nat) (x : Fil), xs[k]? = some x → x.l = []) → sumN xs = 0
  | [], _ => rfl
  | x :: r, h => by
    have h0 := h 0 x rfl
    have h1 := sumN_thin r (fun k y hy => h (k + 1) y (by simpa using hy))
    simp [sumN, h0, h1]
theorem Thin.sum {xs : List Fil} (h : Thin xs) : sumN xs = 0 := sumN_thin xs fun k x hx => (h.each k x hx).2
theorem Thin.set {xs : List Fil} (h : Thin xs) (q : Nat) (x y : Fil) (hx : xs[q]? = some x) (hy : y.name = x.name) (hl : y.l = []) : Thin (xs.set q y) := by
  refine ⟨h.rises.set q x y hx hy, fun k z hz => ?_⟩
  rw [List.getElem?_set] at hz
  by_cases e : q = k
  · rw [if_pos e] at hz
    split at hz
    · injection hz with hz; subst hz
      exact ⟨by rw [hy]; exact (h.each q x hx).1, hl⟩
    · cases hz
  · rw [if_neg e] at hz; exact h.each k z hz
theorem Thin.erase {xs : List Fil} (h : Thin xs) (q : Nat) : Thin (xs.eraseIdx q) := by
  refine ⟨h.rises.erase q, fun k z hz => ?_⟩
  rw [List.getElem?_eraseIdx] at hz
  split at hz <;> exact h.each _ z hz
theorem Thin.ins {xs : List Fil} (h : Thin xs) {t : ByteArray} {lo : Nat} (hp : Place xs t lo) (hno : isAt xs t lo = false) (y : Fil) (hy : y.name = t) (ht : formK t = true) (hl : y.l = []) : Thin (ins xs lo y) := by
  refine ⟨h.rises.ins hp hno y hy, fun k z hz => ?_⟩
  rcases ins_from hp.1 hz with ⟨-, rfl⟩ | ⟨-, hz'⟩
  · exact ⟨by rw [hy]; exact ht, hl⟩
  · exact h.each _ z hz'
theorem Thin.called {xs : List Fil} (h : Thin xs) {i lo : Nat} {x : Fil} {t : ByteArray} (hx : xs[i]? = some x) (hp : Place (xs.eraseIdx i) t lo) (ht : formK t = true) : Thin (called xs i x t lo) := by
  have hl := (h.each i x hx).2
  unfold Proofs.Ytafdhgofdocjhaa.called
  split
  · rename_i hat
    obtain ⟨y, hy, hc⟩ := isAt_yes hat
    exact (h.erase i).set lo y _ hy (ck_eq hc).symm hl
  · rename_i hat
    exact (h.erase i).ins hp (by simpa using hat) _ rfl ht hl
theorem formK_size {t : ByteArray} (h : formK t = true) : t.size ≤ 32 := by
  unfold formK at h
  simp only [Bool.and_eq_true, decide_eq_true_eq] at h
  exact h.1.2
theorem called_len (xs : List Fil) (i : Nat) (x : Fil) (t : ByteArray) (lo : Nat) (hi : i < xs.length) : (called xs i x t lo).length ≤ xs.length := by
  unfold called
  split
  · rw [List.length_set, List.length_eraseIdx]; split <;> omega
  · rw [ins_len, List.length_eraseIdx]; split <;> omega

section
variable {W : World} {g : Nat} {room armed ops : Int} {xs : List Fil}
set_option maxHeartbeats 2000000 in
/-- A name without the form: nothing is made. -/
theorem append_bad {t : ByteArray} (hform : formK t = false) (w : World) (hs : Hid (SA W g room false armed ops xs w)) (p : Option Addr) (n c : Nat) :
    Calls Try.prog 13 #[.pointer (some ⟨g, 0, none⟩), .string t, .slice p n c] w fun z w' => z = .returned (.int .i64 1) ∧ Below w.heap.size w w' := by
  have hb := (Below.refl w.heap.size w).alloc (Nat.le_refl _) (.cells #[.string t] 9)
  have h' := hs.out.next hb
  have hR := refuses_any1 g w.heap.size t false (w.alloc (.cells #[.string t] 9)) (by simp [World.cell?_alloc_new]) h'.g2
  rw [hform] at hR
  change Calls _ _ _ _ (fun e w' => e = .returned (.int .i64 1) ∧ _) at hR
  have H := Lib.hid hR
  have HB0 := Lib.hid hb
  clear hR hb h' hs hform
  go_enter Try.func13, Try.ntmps13
  go_wp2_with (go_at_call 35; refine H.out.mono ?_; rintro e w' ⟨rfl, rfl⟩)
  go_ret
  exact ⟨rfl, HB0.out⟩
set_option maxHeartbeats 2000000 in
theorem rename_bad {t u : ByteArray} (hform : (formK t && formK u) = false) (w : World) (hs : Hid (SA W g room false armed ops xs w)) :
    Calls Try.prog 17 #[.pointer (some ⟨g, 0, none⟩), .string t, .string u] w fun z w' => z = .returned (.int .i64 1) ∧ Below w.heap.size w w' := by
  have hb := (Below.refl w.heap.size w).alloc (Nat.le_refl _) (.cells #[.string t, .string u] 9)
  have h' := hs.out.next hb
  have hR := refuses_any2 g w.heap.size t u false (w.alloc (.cells #[.string t, .string u] 9)) (by simp [World.cell?_alloc_new]) (by simp [World.cell?_alloc_new]) h'.g2
  rw [hform] at hR
  change Calls _ _ _ _ (fun e w' => e = .returned (.int .i64 1) ∧ _) at hR
  have H := Lib.hid hR
  have HB0 := Lib.hid hb
  clear hR hb h' hs hform
  go_enter Try.func17, Try.ntmps17
  go_wp2_with (go_at_call 35; refine H.out.mono ?_; rintro e w' ⟨rfl, rfl⟩)
  go_ret
  exact ⟨rfl, HB0.out⟩
set_option maxHeartbeats 2000000 in
theorem rename_none {t u : ByteArray} (hform : (formK t && formK u) = true) (hn : xs.length ≤ 1000) (lo : Nat) (hlo : Hid (Place xs t lo)) (hno : Hid (isAt xs t lo = false)) (w : World) (hs : Hid (SA W g room false armed ops xs w)) :
    Calls Try.prog 17 #[.pointer (some ⟨g, 0, none⟩), .string t, .string u] w fun z w' => z = .returned (.int .i64 5) ∧ Below w.heap.size w w' := by
  have hft : formK t = true := by revert hform; cases formK t <;> simp
  have hb := (Below.refl w.heap.size w).alloc (Nat.le_refl _) (.cells #[.string t, .string u] 9)
  have h' := hs.out.next hb
  have hR := refuses_any2 g w.heap.size t u false (w.alloc (.cells #[.string t, .string u] 9)) (by simp [World.cell?_alloc_new]) (by simp [World.cell?_alloc_new]) h'.g2
  rw [hform] at hR
  change Calls _ _ _ _ (fun e w' => e = .returned (.int .i64 0) ∧ _) at hR
  have hP := place_A t hn lo hlo _ (Lib.hid h')
  rw [hno.out, hft] at hP
  have HP : Hid (Calls Try.prog 43 #[.pointer (some ⟨g, 0, none⟩), .string t] (w.alloc (.cells #[.string t, .string u] 9)) fun e w' => e = .returned (.tuple #[.int .i64 0, .int .i64 5]) ∧ Below w.heap.size w w') := Lib.hid (hP.mono fun e w' ⟨he, hb2⟩ => ⟨he, hb.trans (hb2.mono (by simp))⟩)
  have H := Lib.hid hR
  clear hR hb h' hs hform hP hlo hno hft
  go_enter Try.func17, Try.ntmps17
  go_wp2_with (first
    | (go_at_call 35; refine H.out.mono ?_; rintro e w' ⟨rfl, rfl⟩)
    | (go_at_call 43; refine HP.out.mono ?_; rintro z w1 ⟨rfl, hb⟩; have HB1 := Lib.hid hb; clear hb))
  go_ret
  exact ⟨rfl, HB1.out⟩
/-- What a call leaves. -/
def Left (W : World) (g : Nat) (room ops : Int) (n : Nat) (e : Ending) (w' : World) : Prop := ∃ (code ops' : Int) (ys : List Fil), e = .returned (.int .i64 code) ∧ Thin ys ∧ ys.length ≤ n ∧ ops ≤ ops' ∧ ops' ≤ ops + 1 ∧ SA W g room false 0 ops' ys w'
theorem append_T (t : ByteArray) (h : Thin xs) (hn : xs.length < 500) (hops : 0 ≤ ops ∧ ops < 1000000000) (hroom : 0 ≤ room ∧ room ≤ 16777216) (w : World) (hs : Hid (SA W g room false 0 ops xs w)) :
    Calls Try.prog 13 #[.pointer (some ⟨g, 0, none⟩), .string t, .slice none 0 0] w (Left W g room ops (xs.length + 1)) := by
  rcases hf : formK t with _ | _
  · refine (append_bad hf w hs none 0 0).mono ?_
    rintro e w' ⟨rfl, hb⟩
    exact ⟨1, ops, xs, rfl, h, by omega, by omega, by omega, hs.out.next hb⟩
  · refine (append_A (by have := formK_size hf; omega) hf h.rises hn w hs op_none (Lib.hid hops) (Lib.hid (by decide)) none 0 0 [] (Lib.hid rfl) (Lib.hid (ByAt.nil _ _)) (Lib.hid fun f n c _ k x hx => by simp at hx) hroom.2 (by rw [h.sum]; have := hroom.1; simpa using this) hroom.1).mono ?_
    rintro e w' ⟨rfl, ys, hr, hw⟩
    rcases hr with ⟨lo, x, A', cap', hT, rfl⟩ | ⟨lo, A', cap', hp, hno, rfl⟩
    · exact ⟨0, ops + 1, _, rfl, h.set lo x { x with A := A', cap := cap', l := x.l ++ [] } hT.get rfl (by simp [(h.each lo x hT.get).2]), by rw [List.length_set]; omega, by omega, by omega, hw⟩
    · exact ⟨0, ops + 1, _, rfl, h.ins hp hno _ rfl hf rfl, (by rw [ins_len]; exact Nat.le_refl _), by omega, by omega, hw⟩
theorem delete_T (t : ByteArray) (h : Thin xs) (hn : xs.length ≤ 1000) (hops : 0 ≤ ops ∧ ops < 1000000000) (w : World) (hs : Hid (SA W g room false 0 ops xs w)) :
    Calls Try.prog 19 #[.pointer (some ⟨g, 0, none⟩), .string t] w (Left W g room ops xs.length) := by
  have hp := h.rises.place t
  rcases hat : isAt xs t (placeOf xs t) with _ | _
  · refine (delete_no hn _ (Lib.hid hp) (Lib.hid hat) w hs).mono ?_
    rintro e w' ⟨rfl, hb⟩
    exact ⟨_, ops, xs, rfl, h, by omega, by omega, by omega, hs.out.next hb⟩
  · obtain ⟨x, hx, hc⟩ := isAt_yes hat
    have hf : formK t = true := by rw [← ck_eq hc]; exact (h.each _ x hx).1
    have hT : There xs t (placeOf xs t) x := ⟨by have := formK_size hf; omega, hf, hp, hx, hc⟩
    refine (delete_A hn _ x w hs (Lib.hid hT) op_none (Lib.hid hops) (Lib.hid (by decide))).mono ?_
    rintro e w' ⟨rfl, hw⟩
    exact ⟨0, ops + 1, _, rfl, h.erase _, by rw [List.length_eraseIdx]; split <;> omega, by omega, by omega, hw⟩
theorem rename_T (t u : ByteArray) (h : Thin xs) (hn : xs.length ≤ 1000) (hops : 0 ≤ ops ∧ ops < 1000000000) (w : World) (hs : Hid (SA W g room false 0 ops xs w)) :
    Calls Try.prog 17 #[.pointer (some ⟨g, 0, none⟩), .string t, .string u] w (Left W g room ops xs.length) := by
  rcases hf : (formK t && formK u) with _ | _
  · refine (rename_bad hf w hs).mono ?_
    rintro e w' ⟨rfl, hb⟩
    exact ⟨1, ops, xs, rfl, h, by omega, by omega, by omega, hs.out.next hb⟩
  · have hft : formK t = true := by revert hf; cases formK t <;> simp
    have hfu : formK u = true := by revert hf; rw [hft]; simp
    have hp := h.rises.place t
    rcases hat : isAt xs t (placeOf xs t) with _ | _
    · refine (rename_none hf hn _ (Lib.hid hp) (Lib.hid hat) w hs).mono ?_
      rintro e w' ⟨rfl, hb⟩
      exact ⟨5, ops, xs, rfl, h, by omega, by omega, by omega, hs.out.next hb⟩
    · obtain ⟨x, hx, hc⟩ := isAt_yes hat
      have hT : There xs t (placeOf xs t) x := ⟨by have := formK_size hft; omega, hft, hp, hx, hc⟩
      have hp2 := (h.erase (placeOf xs t)).rises.place u
      refine (rename_A hn (by have := formK_size hfu; omega) hfu w hs (Lib.hid hT) (Lib.hid hp2) op_none (Lib.hid hops) (Lib.hid (by decide))).mono ?_
      rintro e w' ⟨rfl, hw⟩
      exact ⟨0, ops + 1, _, rfl, h.called hx hp2 hfu, called_len _ _ _ _ _ hT.lt, by omega, by omega, hw⟩
end
end Go.Proofs.Ytafdhgofdocjhaa
