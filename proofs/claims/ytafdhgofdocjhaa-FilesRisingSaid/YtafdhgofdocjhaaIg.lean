/-
  Layer files: a store whatever its files are, with a row or without one: what each call does.
-/
import Derived.Test.YtafdhgofdocjhaaId
import Derived.Test.YtafdhgofdocjhaaIe
import Derived.Test.YtafdhgofdocjhaaIf
set_option linter.unusedSimpArgs false
set_option linter.unusedVariables false
namespace Go.Proofs.Ytafdhgofdocjhaa
open Go.RowKit Go.WideShapes

def SA (W : World) (g : Nat) (room : Int) (off : Bool) (armed ops : Int) (xs : List Fil) (w : World) : Prop := (xs = [] ∧ S0 W g room off armed ops w) ∨ ∃ f fcap r, SN W g room off armed ops f fcap r xs w
section
variable {W : World} {g : Nat} {room armed ops : Int} {off : Bool} {xs : List Fil} {w w' : World}
theorem SA.below (h : SA W g room off armed ops xs w) : W.grownBy w (some g) := by
  rcases h with ⟨-, h⟩ | ⟨f, fcap, r, h⟩ <;> exact h.below
theorem SA.next (h : SA W g room off armed ops xs w) (hb : Below w.heap.size w w') : SA W g room off armed ops xs w' := by
  rcases h with ⟨e, h⟩ | ⟨f, fcap, r, h⟩
  · exact .inl ⟨e, h.next hb⟩
  · exact .inr ⟨f, fcap, r, h.next hb⟩
theorem SA.g0 (h : SA W g room off armed ops xs w) : w.cell? ⟨g, 0, none⟩ = some (.int .i64 room) := by
  rcases h with ⟨e, h⟩ | ⟨f, fcap, r, h⟩ <;> exact h.g0
theorem SA.g2 (h : SA W g room off armed ops xs w) : w.cell? ⟨g, 2, none⟩ = some (.bool off) := by
  rcases h with ⟨e, h⟩ | ⟨f, fcap, r, h⟩ <;> exact h.g2
theorem SA.g3 (h : SA W g room off armed ops xs w) : w.cell? ⟨g, 3, none⟩ = some (.int .i64 armed) := by
  rcases h with ⟨e, h⟩ | ⟨f, fcap, r, h⟩ <;> exact h.g3
theorem SA.g4 (h : SA W g room off armed ops xs w) : w.cell? ⟨g, 4, none⟩ = some (.int .i64 ops) := by
  rcases h with ⟨e, h⟩ | ⟨f, fcap, r, h⟩ <;> exact h.g4
theorem SA.lt (h : SA W g room off armed ops xs w) : g < w.heap.size := by
  rcases h with ⟨e, h⟩ | ⟨f, fcap, r, h⟩ <;> exact (Array.getElem?_eq_some_iff.1 h.st).1
theorem find_A (t : ByteArray) (hn : xs.length ≤ 1000) (lo : Nat) (hlo : Hid (Place xs t lo)) (w : World) (hs : Hid (SA W g room off armed ops xs w)) :
    Calls Try.prog 36 #[.pointer (some ⟨g, 0, none⟩), .string t] w fun e w' => e = .returned (.tuple #[.int .i64 lo, .bool (isAt xs t lo)]) ∧ Below w.heap.size w w' := by
  rcases hs.out with ⟨rfl, h⟩ | ⟨f, fcap, r, h⟩
  · refine (find_nil g none 0 t w h.g1).mono ?_
    rintro e w' ⟨rfl, rfl⟩
    have h0 : lo = 0 := by have := hlo.out.1; simp at this; exact this
    subst h0
    exact ⟨rfl, Below.refl _ _⟩
  · exact find_any g f fcap xs t xs.length (Lib.hid rfl) hn lo hlo w h.g1 (Lib.hid h.files)
set_option maxHeartbeats 4000000 in
theorem place_A (t : ByteArray) (hn : xs.length ≤ 1000) (lo : Nat) (hlo : Hid (Place xs t lo)) (w : World) (hs : Hid (SA W g room off armed ops xs w)) :
    Calls Try.prog 43 #[.pointer (some ⟨g, 0, none⟩), .string t] w fun e w' => e = .returned (placeAt (formK t) off (isAt xs t lo) lo) ∧ Below w.heap.size w w' := by
  have hb := (Below.refl w.heap.size w).alloc (Nat.le_refl _) (.cells #[.string t] 9)
  have h' := hs.out.next hb
  have HR := Lib.hid (refuses_any1 g w.heap.size t off (w.alloc (.cells #[.string t] 9)) (by simp [World.cell?_alloc_new]) h'.g2)
  have HN := Lib.hid (find_A t hn lo hlo _ (Lib.hid h'))
  have HB := Lib.hid hb
  clear hb h' hlo hn hs
  generalize formK t = a at *
  generalize isAt xs t lo = b at *
  cases a <;> cases off <;> cases b
  all_goals
    go_enter Try.func43, Try.ntmps43
    go_wp2_with (first
      | (go_at_call 35; refine HR.out.mono ?_; rintro e w1 ⟨rfl, rfl⟩)
      | (go_at_call 36; refine HN.out.mono ?_; rintro e w2 ⟨rfl, hb⟩; have HB2 := Lib.hid hb; clear hb))
    go_ret2
    first
      | exact ⟨rfl, HB.out⟩
      | exact ⟨rfl, below_to HB.out HB2.out⟩
theorem used_A (hn : xs.length ≤ 1000) (hsum : sumN xs ≤ 1000000000) (w : World) (hs : Hid (SA W g room off armed ops xs w)) :
    Calls Try.prog 28 #[.pointer (some ⟨g, 0, none⟩)] w fun e w' => e = .returned (.int .i64 (sumN xs : Nat)) ∧ Below w.heap.size w w' := by
  rcases hs.out with ⟨rfl, h⟩ | ⟨f, fcap, r, h⟩
  · refine (used_0 g none 0 w h.g1).mono ?_
    rintro e w' ⟨rfl, rfl⟩
    exact ⟨rfl, Below.refl _ _⟩
  · exact used_any g f fcap xs xs.length (Lib.hid rfl) hn hsum w h.g1 (Lib.hid h.files)
theorem operate_A {e armed' : Int} {off' : Bool} (w : World) (hs : SA W g room false armed ops xs w) (ho : Hid (Op1 armed e armed' off')) (h : 0 ≤ ops ∧ ops < 1000000000) (ha : armed < 1000000000) :
    Calls Try.prog 39 #[.pointer (some ⟨g, 0, none⟩)] w fun x w' => x = .returned (.int .i64 e) ∧ SA W g room off' armed' (ops + 1) xs w' := by
  rcases hs with ⟨rfl, hs⟩ | ⟨f, fcap, r, hs⟩
  · rcases ho.out with ⟨rfl, rfl, rfl, rfl⟩ | ⟨h2, rfl, rfl, rfl⟩ | ⟨rfl, rfl, rfl, rfl⟩
    · refine (operate_0 g ops h w hs.g3 hs.g4 (hs.gf 4)).mono ?_
      rintro x w' ⟨rfl, rfl⟩
      exact ⟨rfl, .inl ⟨rfl, hs.putOps _⟩⟩
    · refine (operate_n g ops armed h ⟨h2, ha⟩ w hs.g3 hs.g4 (hs.gf 3) (hs.gf 4)).mono ?_
      rintro x w' ⟨rfl, rfl⟩
      exact ⟨rfl, .inl ⟨rfl, gb_set (hs.putOps (ops + 1)).below (.inl rfl) _ _, row_set (hs.putOps (ops + 1)).st 3 _⟩⟩
    · refine (operate_1 g ops _ h w hs.g2 hs.g3 hs.g4 (hs.gf 2) (hs.gf 3) (hs.gf 4)).mono ?_
      rintro x w' ⟨rfl, rfl⟩
      exact ⟨rfl, .inl ⟨rfl, gb_set (gb_set (hs.putOps (ops + 1)).below (.inl rfl) _ _) (.inl rfl) _ _, row_set (row_set (hs.putOps (ops + 1)).st 3 _) 2 _⟩⟩
  · refine (operate_N w hs ho.out h ha).mono ?_
    rintro x w' ⟨rfl, h⟩
    exact ⟨rfl, .inr ⟨f, fcap, r, h⟩⟩
/-- What an append leaves of the files. -/
def AppRel (xs : List Fil) (t : ByteArray) (m : List Nat) (ys : List Fil) : Prop :=
  (∃ lo x A' cap', There xs t lo x ∧ ys = xs.set lo { x with A := A', cap := cap', l := x.l ++ m }) ∨
  (∃ lo A' cap', Place xs t lo ∧ isAt xs t lo = false ∧ ys = ins xs lo ⟨t, A', cap', m, 0⟩)
theorem append_A {t : ByteArray} {e armed' : Int} {off' : Bool} (hts : t.size ≤ 281474976710656) (hform : formK t = true) (hr : Rises xs) (hn : xs.length < 500) (w : World) (hs : Hid (SA W g room false armed ops xs w)) (ho : Hid (Op1 armed e armed' off')) (h : Hid (0 ≤ ops ∧ ops < 1000000000)) (ha : Hid (armed < 1000000000))
    (p : Option Addr) (n c : Nat) (m : List Nat) (hm : Hid (n = m.length)) (hp : Hid (ByAt w p m)) (hpf : Hid (∀ f n c, w.cell? ⟨g, 1, none⟩ = some (.slice (some ⟨f, 0, none⟩) n c) → ∀ (k x : Nat), m[k]? = some x → p.map (·.block) ≠ some f)) (hroom : room ≤ 16777216) (hfit : (n : Int) ≤ room - (sumN xs : Nat)) (hr0 : 0 ≤ room) :
    Calls Try.prog 13 #[.pointer (some ⟨g, 0, none⟩), .string t, .slice p n c] w fun z w' => z = .returned (.int .i64 e) ∧ ∃ ys, AppRel xs t m ys ∧ SA W g room off' armed' (ops + 1) ys w' := by
  have hpl := hr.place t
  rcases hs.out with ⟨rfl, h0⟩ | ⟨f, fcap, r, hN⟩
  · refine (append_first hts hform w (Lib.hid h0) ho h ha p n c m hm hp hroom (by simp [sumN] at hfit; exact hfit)).mono ?_
    rintro z w' ⟨rfl, f', fcap', r', A', cap', h⟩
    exact ⟨rfl, _, .inr ⟨0, A', cap', ⟨Nat.zero_le _, fun k x hk => by omega, fun k x _ hx => by simp at hx⟩, rfl, rfl⟩, .inr ⟨f', fcap', r', h⟩⟩
  · rcases hb : isAt xs t (placeOf xs t) with _ | _
    · refine (append_ins hts hform (Lib.hid hpl) (Lib.hid hb) hpl.1 hn (by omega) w (Lib.hid hN) ho h ha p n c m hm hp (Lib.hid (hpf.out f _ _ hN.g1)) hroom hfit hr0).mono ?_
      rintro z w' ⟨rfl, f', fcap', r', A', cap', h⟩
      exact ⟨rfl, _, .inr ⟨_, A', cap', hpl, hb, rfl⟩, .inr ⟨f', fcap', r', h⟩⟩
    · obtain ⟨x, hx, hc⟩ := isAt_yes hb
      have hT : There xs t (placeOf xs t) x := ⟨by omega, hform, hpl, hx, hc⟩
      have hxl : x.l.length ≤ sumN xs := by
        have h1 := sumN_take xs _ x hx; have h2 := sumN_le xs (placeOf xs t + 1); omega
      refine (append_yes (by omega) (by omega) w (Lib.hid hN) (Lib.hid hT) ho h ha p n c m hm hp hroom hfit hr0 (by omega)).mono ?_
      rintro z w' ⟨rfl, A', cap', h⟩
      exact ⟨rfl, _, .inl ⟨_, x, A', cap', hT, rfl⟩, .inr ⟨f, fcap, r, h⟩⟩
set_option maxHeartbeats 4000000 in
/-- A file that is not there, or a name that has no form: nothing is done. -/
theorem delete_no {t : ByteArray} (hn : xs.length ≤ 1000) (lo : Nat) (hlo : Hid (Place xs t lo)) (hno : Hid (isAt xs t lo = false)) (w : World) (hs : Hid (SA W g room false armed ops xs w)) :
    Calls Try.prog 19 #[.pointer (some ⟨g, 0, none⟩), .string t] w fun e w' => e = .returned (.int .i64 (if formK t then 5 else 1)) ∧ Below w.heap.size w w' := by
  have hP := place_A t hn lo hlo w hs
  rw [hno.out] at hP
  have HP : Hid (Calls Try.prog 43 #[.pointer (some ⟨g, 0, none⟩), .string t] w fun e w' => e = .returned (.tuple #[.int .i64 0, .int .i64 (if formK t then 5 else 1)]) ∧ Below w.heap.size w w') := Lib.hid (hP.mono fun e w' ⟨he, hb⟩ => ⟨by rw [he]; unfold placeAt; cases formK t <;> rfl, hb⟩)
  clear hP hlo hno hs
  generalize formK t = b at *
  cases b
  all_goals
    try (rw [if_pos rfl] at HP)
    try (rw [if_neg (by decide)] at HP)
    go_enter Try.func19, Try.ntmps19
    go_wp2_with (go_at_call 43; refine HP.out.mono ?_; rintro z w1 ⟨rfl, hb⟩; have HB := Lib.hid hb; clear hb)
    go_ret
    exact ⟨rfl, HB.out⟩
theorem delete_A {t : ByteArray} {armed' : Int} (hn : xs.length ≤ 1000) (lo : Nat) (x : Fil) (w : World) (hs : Hid (SA W g room false armed ops xs w)) (ht : Hid (There xs t lo x)) (ho : Hid (Op1 armed 0 armed' false)) (h : Hid (0 ≤ ops ∧ ops < 1000000000)) (ha : Hid (armed < 1000000000)) :
    Calls Try.prog 19 #[.pointer (some ⟨g, 0, none⟩), .string t] w fun e w' => e = .returned (.int .i64 0) ∧ SA W g room false armed' (ops + 1) (xs.eraseIdx lo) w' := by
  rcases hs.out with ⟨rfl, h0⟩ | ⟨f, fcap, r, hN⟩
  · have := ht.out.get; simp at this
  · refine (delete_yes hn w (Lib.hid hN) ht ho h ha).mono ?_
    rintro e w' ⟨rfl, r', h⟩
    exact ⟨rfl, .inr ⟨f, fcap, r', h⟩⟩
end
end Go.Proofs.Ytafdhgofdocjhaa
