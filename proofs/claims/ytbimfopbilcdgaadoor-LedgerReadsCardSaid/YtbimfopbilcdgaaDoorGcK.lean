/-
  Lists of bytes that a call owns; append of bytes; cuts; slices.Clone.
-/
import Derived.Maps.AppendAt
import Derived.Deep.RegionHeld3
import Derived.Deep.Draws
import Derived.Test.YtbimfopbilcdgaaDoorByK
import Derived.Test.YtbimfopbilcdgaaDoorPmK
set_option linter.unusedSimpArgs false
set_option linter.unusedVariables false
set_option maxRecDepth 8000
namespace Go.Proofs.YtbimfopbilcdgaaDoor
open Go.RowKit

section
variable {w w' : World} {B n cap : Nat} {A : Option Addr} {l : List Nat}
end
set_option maxHeartbeats 1000000 in
theorem clone_any (a : Option Addr) (l : List Nat) (len cap : Nat) (hlen : Hid (len = l.length)) (hl : len ≤ 140737488355328) (w : World) (HA : Hid (ByAt w a l)) :
    Calls Tryd.prog 44 #[.slice a len cap] w (RetS w l) := by
  have q22 : ∀ (w : World) (a : Option Addr) (n c n' c' : Nat), (binOp .eql 22 (.slice a n c) (.slice none n' c')).run Tryd.prog w = .ok (.bool a.isNone) w := fun w a n c n' c' => Lib.run_eql_slice_nil w _ _ a n c n' c' Tryd.underlying22
  have hl9 : len ≤ maxLen := by unfold maxLen; omega
  rcases a with _ | ad
  · have e : l = [] := by
      rcases l with _ | ⟨x, r⟩
      · rfl
      · obtain ⟨-, g, off, e, -⟩ := HA.out 0 x rfl; cases e
    subst e
    have e : len = 0 := hlen.out
    subst e
    go_enter Tryd.func44, Tryd.ntmps44
    go_wp2
    go_ret
    exact ⟨none, 0, rfl, OwnS.nil _ _, Below.refl _ _⟩
  · have HA1 : Hid (ByAt (w.alloc (.cells #[] 5)) (some ad) l) := Lib.hid (HA.out.keep ((Below.refl _ _).alloc (Nat.le_refl _) _))
    have HO : Hid (OwnS (w.alloc (.cells #[] 5)) w.heap.size (some ⟨w.heap.size, 0, none⟩) 0 0 []) := Lib.hid ⟨World.ownsRow_made w #[] 0 (Nat.le_refl _) (Nat.zero_le _) (by simp), fun x hx => by cases hx⟩
    go_enter Tryd.func44, Tryd.ntmps44
    go_wp2_with (at_builtin; refine wpList_append_by rfl (.tmp 5) (.tmp 6) rfl w.heap.size (some ⟨w.heap.size, 0, none⟩) 0 0 [] rfl HO.out (some ad) len cap l rfl hlen.out HA1.out (by omega) (by simp) ?_; intro A' cap' w' hO hG hL)
    go_ret
    rw [Nat.zero_add, List.nil_append, hlen.out] at hO
    exact ⟨A', cap', by rw [← hlen.out]; rfl, hO, ((Below.refl _ w).alloc (Nat.le_refl _) _).grown hG (by simp) (by intro k hk; simp at hk; omega)⟩

/-! Cuts -/
end Go.Proofs.YtbimfopbilcdgaaDoor
