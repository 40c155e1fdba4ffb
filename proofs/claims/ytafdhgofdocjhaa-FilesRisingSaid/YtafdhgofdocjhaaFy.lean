/-
  Layer files: what refuses, and the place of a file, whatever the names and the files.
-/
import Derived.Test.YtafdhgofdocjhaaFx
import Derived.Test.YtafdhgofdocjhaaFz
set_option linter.unusedSimpArgs false
set_option linter.unusedVariables false
namespace Go.Proofs.Ytafdhgofdocjhaa
open Go.RowKit Go.WideShapes

def refK (a c : Bool) : Int := if a then (if c then 9 else 0) else 1
set_option maxHeartbeats 1000000 in
theorem refuses_any1 (g h : Nat) (t : ByteArray) (c : Bool) (w : World) (h0 : w.cell? ⟨h, 0, none⟩ = some (.string t)) (h2 : w.cell? ⟨g, 2, none⟩ = some (.bool c)) :
    Calls Try.prog 35 #[.pointer (some ⟨g, 0, none⟩), .slice (some ⟨h, 0, none⟩) 1 1] w fun e w' => e = .returned (.int .i64 (refK (formK t) c)) ∧ w = w' := by
  have HF := Lib.hid fun w => form_any t w
  rcases hv : formK t with _ | _
  all_goals
    rw [hv] at HF
    clear hv
    cases c
    all_goals
      go_enter Try.func35, Try.ntmps35
      go_wp2
      refine wp_loop_rounds 2 ?_
      rw [rounds_succ]
      go_wp2_with (go_at_call 32; refine (HF.out _).mono ?_; rintro e w' ⟨rfl, rfl⟩)
      try (rw [rounds_succ]; go_wp2)
      go_ret
      exact ⟨rfl, rfl⟩
set_option maxHeartbeats 2000000 in
theorem refuses_any2 (g h : Nat) (t u : ByteArray) (c : Bool) (w : World) (h0 : w.cell? ⟨h, 0, none⟩ = some (.string t)) (h1 : w.cell? ⟨h, 1, none⟩ = some (.string u)) (h2 : w.cell? ⟨g, 2, none⟩ = some (.bool c)) :
    Calls Try.prog 35 #[.pointer (some ⟨g, 0, none⟩), .slice (some ⟨h, 0, none⟩) 2 2] w fun e w' => e = .returned (.int .i64 (refK (formK t && formK u) c)) ∧ w = w' := by
  have HF := Lib.hid fun w => form_any t w
  have HG := Lib.hid fun w => form_any u w
  rcases hv : formK t with _ | _
  all_goals
    rw [hv] at HF
    clear hv
    rcases hv : formK u with _ | _
    all_goals
      rw [hv] at HG
      clear hv
      cases c
      all_goals
        go_enter Try.func35, Try.ntmps35
        go_wp2
        refine wp_loop_rounds 3 ?_
        rw [rounds_succ]
        go_wp2_with (go_at_call 32; refine (HF.out _).mono ?_; rintro e w' ⟨rfl, rfl⟩)
        try (rw [rounds_succ]; go_wp2_with (go_at_call 32; refine (HG.out _).mono ?_; rintro e w' ⟨rfl, rfl⟩))
        try (rw [rounds_succ]; go_wp2)
        go_ret
        exact ⟨rfl, rfl⟩
/-- What is told of a file that must be there. -/
def placeAt (form c there : Bool) (lo : Nat) : Value := .tuple #[.int .i64 (if form && !c && there then (lo : Int) else 0), .int .i64 (if form then (if c then 9 else (if there then 0 else 5)) else 1)]
set_option maxHeartbeats 4000000 in
theorem place_any (g f fc : Nat) (xs : List Fil) (t : ByteArray) (n : Nat) (hn : Hid (n = xs.length)) (h1000 : n ≤ 1000) (lo : Nat) (hlo : Hid (Place xs t lo)) (c : Bool) (w : World) (k1 : w.cell? ⟨g, 1, none⟩ = some (.slice (some ⟨f, 0, none⟩) n fc)) (k2 : w.cell? ⟨g, 2, none⟩ = some (.bool c)) (HF : Hid (FilesAt w f xs)) :
    Calls Try.prog 43 #[.pointer (some ⟨g, 0, none⟩), .string t] w fun e w' => e = .returned (placeAt (formK t) c (isAt xs t lo) lo) ∧ Below w.heap.size w w' := by
  have hb := (Below.refl w.heap.size w).alloc (Nat.le_refl _) (.cells #[.string t] 9)
  have j1 := (hb.cell (p := ⟨g, 1, none⟩) (lt_of_cell k1)).trans k1
  have j2 := (hb.cell (p := ⟨g, 2, none⟩) (lt_of_cell k1)).trans k2
  have HR := Lib.hid (refuses_any1 g w.heap.size t c (w.alloc (.cells #[.string t] 9)) (by simp [World.cell?_alloc_new]) j2)
  have HN := Lib.hid (find_any g f fc xs t n hn h1000 lo hlo _ j1 (Lib.hid (HF.out.keep hb)))
  have HB := Lib.hid hb
  clear hb k1 k2 j1 j2 hn hlo HF h1000
  generalize formK t = a at *
  generalize isAt xs t lo = b at *
  cases a <;> cases c <;> cases b
  all_goals
    go_enter Try.func43, Try.ntmps43
    go_wp2_with (first
      | (go_at_call 35; refine HR.out.mono ?_; rintro e w1 ⟨rfl, rfl⟩)
      | (go_at_call 36; refine HN.out.mono ?_; rintro e w2 ⟨rfl, hb⟩; have HB2 := Lib.hid hb; clear hb))
    go_ret2
    first
      | exact ⟨rfl, HB.out⟩
      | exact ⟨rfl, below_to HB.out HB2.out⟩
end Go.Proofs.Ytafdhgofdocjhaa
