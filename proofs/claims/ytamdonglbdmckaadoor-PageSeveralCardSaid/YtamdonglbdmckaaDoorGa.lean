/-
  The document's example, and the law PageSums.
-/
import Derived.Test.YtamdonglbdmckaaDoorGs
import Derived.Lib.SlBytesConst
set_option linter.unusedSimpArgs false
set_option linter.unusedVariables false
namespace Go.Proofs.YtamdonglbdmckaaDoor
open Go.RowKit

theorem HalvesAt.keep {w w' : World} (h : HalvesAt w) (hb : Below w.heap.size w w') : HalvesAt w' := fun i hi =>
  (hb.cell (p := ⟨0, i, none⟩) (World.block_lt_of_cell? w _ (h i hi))).trans (h i hi)
theorem ByAt.nil (w : World) (a : Option Addr) : ByAt w a [] := fun k x hx => by simp at hx
def bv (x : Nat) : Value := .int .u8 (x : Int)
def bys (l : List Nat) : List Value := l.map bv
theorem bys_length (l : List Nat) : (bys l).length = l.length := List.length_map ..
/-- A block of bytes that is known whole. -/
theorem ByAt.of_row {w : World} {g : Nat} {cs : Array Value} {t : TypeId} {fr : Nat × Nat} (l : List Nat) (hl : ∀ x ∈ l, x < 256) (hrow : w.heap[g]? = some (.cells cs t fr)) (hcs : (bys l).IsPrefix cs.toList) : ByAt w (some ⟨g, 0, none⟩) l := fun k x hx => by
  refine ⟨hl x (List.mem_of_getElem? hx), g, 0, rfl, (Array.getElem?_eq_some_iff.1 hrow).1, ?_⟩
  rw [cell_of_row w g (0 + k) cs t fr hrow, Nat.zero_add, ← Array.getElem?_toList]
  obtain ⟨r, hr⟩ := hcs
  have hk : k < (bys l).length := by rw [bys_length]; exact (List.getElem?_eq_some_iff.1 hx).1
  rw [← hr, List.getElem?_append_left hk]
  unfold bys; rw [List.getElem?_map, hx]; rfl

theorem heap_alloc_new' (w : World) (o : Obj) : (w.alloc o).heap[w.heap.size]? = some o := by show (w.heap.push o)[w.heap.size]? = _; simp
theorem digits_sum : Pg.sum [49, 50, 51, 52, 53, 54, 55, 56, 57] = 3421780262 := by decide +kernel
set_option maxHeartbeats 1000000 in
theorem awake_any (w : World) (HG : Hid (HalvesAt w)) :
    Calls Tryd.prog 9 #[] w fun e w' => e = .returned (.bool true) ∧ Below w.heap.size w w' := by
  have kc := fun (w : World) (C : Array Value) (n c : Nat) => Lib.run_convert_bytes_const (P := Tryd.prog) w 22 5 C n c Tryd.underlying22 Tryd.underlying5
  have hs := digits_sum
  go_enter Tryd.func9, Tryd.ntmps9
  go_wp2_with (go_at_call 10; refine (sum_any _ [49, 50, 51, 52, 53, 54, 55, 56, 57] 9 9 (Lib.hid rfl) (by decide) _ ?h1 ?h2).mono ?_; (case h1 => exact Lib.hid (ByAt.of_row _ (by decide) (heap_alloc_new' w _) ⟨[], rfl⟩)); (case h2 => exact Lib.hid (HG.out.keep ((Below.refl _ _).alloc (Nat.le_refl _) _))); rintro e w' ⟨rfl, rfl⟩)
  go_ret
  exact ⟨ret_eq rfl, (Below.refl _ _).alloc (Nat.le_refl _) _⟩

theorem ByAt.at {w w' : World} {a : Option Addr} {l : List Nat} (h : Hid (ByAt w a l)) (hb : Below w.heap.size w w') : Hid (ByAt w' a l) := h.out.keep hb
theorem HalvesAt.at {w w' : World} (h : Hid (HalvesAt w)) (hb : Below w.heap.size w w') : Hid (HalvesAt w') := h.out.keep hb

set_option maxHeartbeats 1000000 in
theorem pageSums_any (a : Option Addr) (l : List Nat) (len cap : Nat) (hlen : Hid (len = l.length)) (hcap : len ≤ cap) (hl : cap ≤ maxLen) (W : World) (HA : Hid (ByAt W a l)) (HG : Hid (HalvesAt W)) :
    Calls Tryd.prog 3 #[.slice a len cap] W fun e w' => e = .returned (.bool true) ∧ Below W.heap.size W w' := by
  go_enter Tryd.func3, Tryd.ntmps3
  go_wp2_with (go_at_call 9; refine (awake_any _ HG).mono ?_; rintro e w1 ⟨rfl, hb⟩; have HA1 := ByAt.at HA hb; have HG1 := HalvesAt.at HG hb; have HB := Lib.hid hb; clear hb)
  go_wp2_with (first
   | (go_at_call 10; refine (sum_any _ l _ _ hlen (by omega) _ HA1 HG1).mono ?_; rintro e w' ⟨rfl, rfl⟩)
   | (go_at_call 11; refine (refSum_any _ l _ _ hlen (by omega) _ HA1).mono ?_; rintro e w' ⟨rfl, rfl⟩))
  go_ret
  exact ⟨ret_eq rfl, HB.out⟩
end Go.Proofs.YtamdonglbdmckaaDoor
