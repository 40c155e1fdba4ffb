/-
  Layer segment: the contracts of layNumbers, layFoot.
-/
import Derived.BigRegion
import Derived.Deep.CutBlock
import Derived.Deep.RegionHeld
import Derived.Test.YtenmjofbamihdaaGreatDoorYfK
import Derived.Test.YtenmjofbamihdaaGreatDoorYcK
set_option linter.unusedSimpArgs false
set_option linter.unusedVariables false
set_option maxRecDepth 8000
namespace Go.Proofs.YtenmjofbamihdaaGreatDoor
open Go.RowKit Go.WideShapes Col
def numC (ns : List Nat) : List Value := ns.map fun (x : Nat) => Value.int .u64 (x : Int)
theorem numC_get (ns : List Nat) (k x : Nat) (h : ns[k]? = some x) : (numC ns).toArray[k]? = some (.int .u64 (x : Int)) := by
  unfold numC; simp [h]
def nsB (ns : List Nat) : List Nat := ns.flatMap ub
theorem nsB_snoc (ns : List Nat) (k x : Nat) (h : ns[k]? = some x) : nsB (ns.take (k + 1)) = nsB (ns.take k) ++ ub x := by
  unfold nsB; rw [List.take_add_one, h]; simp
theorem nsB_len {ns : List Nat} (h : ∀ x ∈ ns, x < 18446744073709551616) : (nsB ns).length ≤ 10 * ns.length := by
  induction ns with
  | nil => simp [nsB]
  | cons x r ih =>
    have h1 := ub10 (h x (by simp))
    have h2 := ih fun y hy => h y (by simp [hy])
    unfold nsB at *
    rw [List.flatMap_cons, List.length_append, List.length_cons]; omega
set_option maxHeartbeats 2000000 in
theorem layNums_any (B : Nat) (A : Option Addr) (n cap : Nat) (l : List Nat) (g m : Nat) (ns : List Nat) (hm : Hid (m = ns.length)) (hm9 : m ≤ 100) (hns : Hid (∀ x ∈ ns, x < 18446744073709551616)) (W : World) (H : Hid (OwnS W B A n cap l)) (hn : n ≤ 900000000) (hB : B ≤ W.heap.size)
    (HR : Hid (W.heap[g]? = some (.cells (numC ns).toArray 24 (0, 0)))) :
    Calls Tryz.prog 46 #[.slice A n cap, .slice (some ⟨g, 0, none⟩) m m] W (PutU B W (l ++ nsB ns)) := by
  have HLN := Lib.hid H.out.len
  have HBB := Lib.hid hB
  go_enter Tryz.func46, Tryz.ntmps46
  go_wp2
  go_loopw [0, 9] (fun p i wr => ∃ k : Nat, k ≤ m ∧ i = .int .i64 (k : Int) ∧ ∃ A' n' cap', p = .slice A' n' cap' ∧ Hid (OwnS wr B A' n' cap' (l ++ nsB (ns.take k))) ∧ Hid (KU B W wr)) (fun _ i _ => m - (intOf i).toNat)
  case atStart => exact ⟨0, by omega, rfl, A, n, cap, rfl, Lib.hid (by rw [show nsB (ns.take 0) = [] from rfl, List.append_nil]; exact H.out), KU.refl _ _⟩
  case round =>
    obtain ⟨k, hk, rfl, A', n', cap', rfl, HO, HK⟩ := hrel
    by_cases hlt : k < m
    · obtain ⟨x, hx⟩ : ∃ x, ns[k]? = some x := ⟨ns[k]'(by have := hm.out; omega), List.getElem?_eq_getElem _⟩
      have hx64 := hns.out x (List.mem_of_getElem? hx)
      have hrow := HK.out.rows _ _ _ _ HR.out (by decide)
      have hcx : wr.cell? ⟨g, k, none⟩ = some (.int .u64 (x : Int)) := by rw [cell_of_row _ _ _ _ _ _ hrow]; exact numC_get ns k x hx
      have HSN := Lib.hid (nsB_snoc ns k x hx)
      have hn' : n' ≤ 1099511627776 := by
        have h1 := HO.out.len
        have h2 := nsB_len (ns := ns.take k) (fun y hy => hns.out y (List.mem_of_mem_take hy))
        have h3 := HLN.out
        rw [List.length_append] at h1
        have h4 : (ns.take k).length ≤ k := by rw [List.length_take]; omega
        omega
      have hBw : B ≤ wr.heap.size := Nat.le_trans HBB.out HK.out.below.size
      have hkm : (k : Int) < (m : Int) := by omega
      clear hx hrow
      go_wp2_with (go_at_call 58; (with_reducible refine (putU_u B A' n' cap' _ x hx64 _ HO hn' hBw).mono ?_); rintro e w2 ⟨A2, n2, c2, rfl, ho, hk2⟩; have HO2 := Lib.hid ho; have HK2 := Lib.hid hk2; clear ho hk2)
      have HO3 : Hid (OwnS w2 B A2 n2 c2 (l ++ nsB (ns.take (k + 1)))) := Lib.hid (by rw [HSN.out, ← List.append_assoc]; exact HO2.out)
      have HK3 : Hid (KU B W w2) := Lib.hid (HK.out.trans HK2.out)
      go_roundw
      case rel => exact ⟨k + 1, by omega, by go_num, A2, n2, c2, rfl, HO3, HK3⟩
      case measure => simp [intOf]; omega
    · obtain rfl : k = m := by omega
      have HO3 : Hid (OwnS wr B A' n' cap' (l ++ nsB ns)) := Lib.hid (by have := HO.out; rwa [List.take_of_length_le (by have := hm.out; omega)] at this)
      go_wp2
      go_ret
      exact ⟨A', n', cap', rfl, HO3.out, HK.out⟩
end Go.Proofs.YtenmjofbamihdaaGreatDoor
