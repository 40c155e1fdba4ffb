/-
  Layer files: awake; the law FilesNil.
-/
import Derived.Test.YtafdhgofdocjhaaFj
set_option linter.unusedSimpArgs false
set_option linter.unusedVariables false
namespace Go.Proofs.Ytafdhgofdocjhaa
open Go.RowKit Go.WideShapes

section
variable {W : World} {g f fcap cap : Nat} {room armed ops du : Int} {off : Bool} {r : List Value} {A : Option Addr} {l : List Nat} {w : World}
theorem s0_alloc (h : Hid (S0 W g room off armed ops w)) (o : Obj) : Hid (S0 W g room off armed ops (w.alloc o)) := Lib.hid (h.out.next ((Below.refl _ _).alloc (Nat.le_refl _) o))
theorem s1_alloc (h : Hid (S1 W g room off armed ops f fcap r A cap l du w)) (o : Obj) : Hid (S1 W g room off armed ops f fcap r A cap l du (w.alloc o)) := Lib.hid (h.out.next ((Below.refl _ _).alloc (Nat.le_refl _) o))
theorem s1_lt (h : Hid (S1 W g room off armed ops f fcap r A cap l du w)) : g ≠ w.heap.size := by have := (Array.getElem?_eq_some_iff.1 h.out.st).1; omega
end
theorem by_new (w : World) (l : List Nat) (hl : ∀ x ∈ l, x < 256) (cs : Array Value) (hcs : cs.toList = bys l) (fr : Nat × Nat) : Hid (ByAt (w.alloc (.cells cs 5 fr)) (some ⟨w.heap.size, 0, none⟩) l) :=
  Lib.hid (ByAt.of_row l hl (heap_alloc_new' w _) ⟨[], by rw [List.append_nil, hcs]⟩)
theorem op_none : Hid (Op1 0 0 0 false) := Lib.hid ⟨.inl ⟨rfl, rfl, rfl, rfl⟩⟩
theorem xyz : strB (List.take 3 ([120, 121] ++ [122, 119])) = ({ data := #[120, 121, 122] } : ByteArray) := by decide
set_option maxHeartbeats 2000000 in
theorem awake_any (w : World) : Calls Try.prog 10 #[] w fun e w' => e = .returned (.bool true) ∧ Below w.heap.size w w' := by
  have kc := fun (w : World) (C : Array Value) (n c : Nat) => Lib.run_convert_bytes_const (P := Try.prog) w 32 5 C n c Try.underlying32 Try.underlying5
  go_enter Try.func10, Try.ntmps10
  go_wp2_with (first
    | (go_at_call 11; refine (new_any 100 (by decide) _).mono ?_; rintro x w1 ⟨g, rfl, hgn, h0⟩; have HS0 := Lib.hid h0; have HGN := Lib.hid hgn; clear h0 hgn)
    | (go_at_call 13; refine (append_0 (e := 0) _ (s0_alloc HS0 _) op_none (Lib.hid (by decide)) (Lib.hid (by decide)) _ 2 2 [120, 121] (Lib.hid rfl) (by_new _ [120, 121] (by decide) _ rfl _) (by decide) (by decide)).mono ?_; rintro x w2 ⟨rfl, f, fcap, r, A1, cap1, h1⟩; have HS1 := Lib.hid h1; clear h1 HS0)
    | (go_at_call 15; refine (sync_ok _ HS1 op_none (Lib.hid (by decide)) (Lib.hid (by decide))).mono ?_; rintro x w3 ⟨rfl, h1⟩; have HS2 := Lib.hid h1; clear h1 HS1)
    | (go_at_call 13; refine (append_1 (e := 0) _ (s1_alloc HS2 _) op_none (Lib.hid (by decide)) (Lib.hid (by decide)) _ 2 2 [122, 119] (Lib.hid rfl) (by_new _ [122, 119] (by decide) _ rfl _) (by decide) (by decide) (by decide) (by decide)).mono ?_; rintro x w4 ⟨rfl, A2, cap2, h1⟩; have HS3 := Lib.hid h1; clear h1 HS2)
    | (go_at_call 23; refine (restart_one _ 1 (by decide) 3 (Lib.hid (by decide)) (by decide) (by decide) _ _ (s1_alloc HS3 _) (s1_lt HS3) (by simp [World.cell?_alloc_new])).mono ?_; rintro x w5 ⟨rfl, h1⟩; have HS4 := Lib.hid h1; clear h1 HS3)
    | (go_at_call 25; refine (read_1 _ (by decide) HS4).mono ?_; rintro x w6 ⟨B, c, rfl, own, hb⟩; have HS5 := Lib.hid (HS4.out.next hb); have hcv := conv_by (w := w6) (A := B) (l := List.take 3 ([120, 121] ++ [122, 119])) 3 c own.byAt rfl; rw [xyz] at hcv; clear own hb HS4))
  go_ret
  exact ⟨rfl, gb_new HS5.out.below HGN.out⟩
end Go.Proofs.Ytafdhgofdocjhaa
