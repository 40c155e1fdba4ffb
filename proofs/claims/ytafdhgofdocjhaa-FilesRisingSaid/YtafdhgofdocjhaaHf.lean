/-
  Layer files: Delete of a file that is there, in a store of many files.
-/
import Derived.Test.YtafdhgofdocjhaaHd
import Derived.Test.YtafdhgofdocjhaaFt
set_option linter.unusedSimpArgs false
set_option linter.unusedVariables false
namespace Go.Proofs.Ytafdhgofdocjhaa
open Go.RowKit Go.WideShapes

theorem flat_erase (xs : List Fil) (k : Nat) (hk : k < xs.length) : (flat xs).take (k * 3) ++ (flat xs).drop ((k + 1) * 3) = flat (xs.eraseIdx k) := by
  induction xs generalizing k with
  | nil => simp at hk
  | cons x r ih =>
    have h3 : (flC3 x).length = 3 := rfl
    rcases k with _ | k
    · simp [flat, List.drop_append, h3, flC3]
    · rw [flat, List.eraseIdx_cons_succ, flat, List.take_append, List.drop_append, h3, List.take_of_length_le (by rw [h3]; omega), List.drop_eq_nil_of_le (by rw [h3]; omega), List.nil_append, List.append_assoc, show (k + 1) * 3 - 3 = k * 3 by omega, show (k + 1 + 1) * 3 - 3 = (k + 1) * 3 by omega, ih k (by simpa using hk)]
theorem flat_one (xs : List Fil) : ∀ u ∈ flat xs, u.oneCell' = true := by
  induction xs with
  | nil => intro u hu; cases hu
  | cons x r ih =>
    intro u hu
    rw [flat, List.mem_append] at hu
    rcases hu with hu | hu
    · simp only [flC3, List.mem_cons, List.not_mem_nil, or_false] at hu
      rcases hu with rfl | rfl | rfl <;> rfl
    · exact ih u hu
theorem erase_from {xs : List Fil} {k j : Nat} {z : Fil} (h : (xs.eraseIdx k)[j]? = some z) : xs[if j < k then j else j + 1]? = some z := by
  rw [List.getElem?_eraseIdx] at h
  split at h <;> rename_i hj
  · rw [if_pos hj]; exact h
  · rw [if_neg hj]; exact h
section
variable {W : World} {g f fcap : Nat} {room armed ops : Int} {off : Bool} {r : List Value} {xs : List Fil} {w w' : World}
theorem SN.erased (h : SN W g room off armed ops f fcap r xs w) (k J : Nat) (hk : k < xs.length) (hJ : J + 1 = xs.length) (hox : OwnX w' W.heap.size (some ⟨f, 0, none⟩) J fcap ((flat xs).take (k * 3) ++ (flat xs).drop ((k + 1) * 3))) (hg : w.grownBy w' (some f)) :
    ∃ r', SN W g room off armed ops f fcap r' (xs.eraseIdx k) (w'.setCell ⟨g, 1, none⟩ (.slice (some ⟨f, 0, none⟩) J fcap)) := by
  have hgl := (Array.getElem?_eq_some_iff.1 h.st).1
  have e1 := (hg.block g hgl (fun e => h.ne (by injection e))).trans h.st
  have hlen : (xs.eraseIdx k).length = J := by rw [List.length_eraseIdx_of_lt hk]; omega
  rw [flat_erase xs k hk] at hox
  rcases hox.2 with ⟨h1, h2⟩ | ⟨f', cap', cur, h1, hb, hrow, -, hc, hs, ht⟩
  · cases h1
  · cases h1
    have h4 : cur.toList.length = fcap * 3 := by simpa using hs
    have h3 := congrArg List.length ht
    rw [List.length_take, flat_len, hlen, h4] at h3
    have hst : w'.heap[g]? = some (.cells (stC room (some ⟨f, 0, none⟩) xs.length fcap off armed ops).toArray 68 (0, 0)) := e1
    refine ⟨cur.toList.drop (J * 3), gb_set (gb_grown h.below hg (fun b hb => by simp at hb; have := h.fbase; omega)) (.inl rfl) _ _, h.fbase, h.ne, by rw [hlen]; exact row_set hst 1 _, row_far h.ne ?_, ⟨by rw [List.length_drop, hlen, h4]; omega, hc⟩, fun j z hz => own_far (own_grown (h.own _ z (erase_from hz)) hg (fun b hb e => h.sf _ z (erase_from hz) (by rw [hb]; exact e.symm))) (h.sg _ z (erase_from hz)), fun j z hz => h.sg _ z (erase_from hz), fun j z hz => h.sf _ z (erase_from hz), fun i j y z hij hy hz => h.ap _ _ y z (by split <;> split <;> omega) (erase_from hy) (erase_from hz)⟩
    rw [hrow]
    have e : cur = (flat (xs.eraseIdx k) ++ cur.toList.drop (J * 3)).toArray := by rw [← ht, List.take_append_drop]
    rw [← e]
set_option maxHeartbeats 4000000 in
theorem delete_yes {t : ByteArray} {lo : Nat} {x : Fil} {armed' : Int} (hn : xs.length ≤ 1000) (w : World) (hs : Hid (SN W g room false armed ops f fcap r xs w)) (ht : Hid (There xs t lo x)) (ho : Hid (Op1 armed 0 armed' false)) (h : Hid (0 ≤ ops ∧ ops < 1000000000)) (ha : Hid (armed < 1000000000)) :
    Calls Try.prog 19 #[.pointer (some ⟨g, 0, none⟩), .string t] w fun e w' => e = .returned (.int .i64 0) ∧ ∃ r', SN W g room false armed' (ops + 1) f fcap r' (xs.eraseIdx lo) w' := by
  have hlo := ht.out.lt
  obtain ⟨J, hJ⟩ : ∃ J, J + 1 = xs.length := ⟨xs.length - 1, by omega⟩
  have HJ := Lib.hid hJ
  clear hJ
  go_enter Try.func19, Try.ntmps19
  go_wp2_with (first
    | (go_at_call 43; refine (place_yes hn _ hs ht).mono ?_; rintro z w1 ⟨rfl, hb⟩; have HS1 := Lib.hid (hs.out.next hb); clear hb)
    | (go_at_call 39; refine (operate_N _ HS1.out ho.out h.out ha.out).mono ?_; rintro z w2 ⟨rfl, h2⟩; have HS := Lib.hid h2; have cg := h2.g1; clear h2)
    | (go_at_call 46
       refine (del_any W.heap.size f xs.length J fcap lo (xs.length - (lo + 1)) (Lib.hid HJ.out.symm) hlo (Lib.hid rfl) (by omega) (Lib.hid (by have := HS.out.fc.1; omega)) (flat xs) _ (Lib.hid HS.out.ownX) (Lib.hid (flat_one xs))).mono ?_
       rintro z w3 ⟨rfl, hox, hg⟩
       obtain ⟨r', hst⟩ := HS.out.erased lo J hlo HJ.out hox hg
       have HST := Lib.hid hst
       have hrow := (hg.block g (Array.getElem?_eq_some_iff.1 HS.out.st).1 (fun e => HS.out.ne (by injection e))).trans HS.out.st
       have cg3 := row_cells hrow 1 _ rfl
       have kg3 := row_frozen hrow 1
       clear hrow hox hg hst))
  go_ret
  exact ⟨rfl, r', HST.out⟩
end
end Go.Proofs.Ytafdhgofdocjhaa
