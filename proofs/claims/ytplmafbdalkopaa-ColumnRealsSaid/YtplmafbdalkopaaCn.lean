/-
  Layer column: ReadInts.
-/
import Derived.Test.YtplmafbdalkopaaCm
set_option linter.unusedSimpArgs false
set_option linter.unusedVariables false
set_option maxRecDepth 8000
namespace Go.Proofs.Ytplmafbdalkopaa
open Go.RowKit Go.WideShapes Col
/-- How ReadInts ends. -/
def RdEnds (o : Option (List Int)) (w : World) (e : Ending) (w' : World) : Prop := match o with
  | some l => (∃ A n cap, e = .returned (.tuple #[.slice A n cap, .int .i64 0]) ∧ OwnI w' w.heap.size A n cap l) ∧ Below w.heap.size w w'
  | none => e = .returned (.tuple #[.slice none 0 0, .int .i64 3]) ∧ Below w.heap.size w w'
theorem rdl_no {q : List Nat} {cl B : Nat} {b : Bool} {w : World} (h : riL q = none) (hr : RdL q cl B b w) : b = false := by
  rcases b with _ | _
  · rfl
  · obtain ⟨A9, n9, c9, l9, e9, -⟩ := hr
    rw [h] at e9; cases e9
theorem rdl_yes {q : List Nat} {cl B : Nat} {b : Bool} {w : World} {l : List Int} (h : riL q = some l) (hr : RdL q cl B b w) : b = true := by
  rcases b with _ | _
  · have hr : riL q = none := hr
    rw [h] at hr; cases hr
  · rfl
set_option maxHeartbeats 2000000 in
theorem readListI_any (A : Option Addr) (C : Nat) (q : List Nat) (n : Nat) (hn : Hid (n = q.length)) (hn4 : n ≤ 1099511627776) (hC : n ≤ C) (hC' : C ≤ maxLen) (w : World) (HA : Hid (ByAt w A q)) :
    Calls Try.prog 44 #[.slice A n C, .func (.func 45) #[] #[]] w (RdEnds (riL q) w) := by
  obtain ⟨bf, w1, hbf, hw1, hrow1, hb1, hbf1⟩ := alloc_pt w (.func (.func 45) #[] #[]) 71
  obtain ⟨cl, w2, hcl, hw2, hrow2, hb2, hcl2⟩ := alloc_pt w1 (.slice none 0 0) 22
  have HW : Hid ((w.alloc (.cells #[.func (.func 45) #[] #[]] 71)).alloc (.cells #[.slice none 0 0] 22) = w2) := Lib.hid (by rw [hw2, hw1])
  have hsz : w1.heap.size = w.heap.size + 1 := by rw [hw1]; simp
  have HBF := Lib.hid hbf; have HCL : Hid (cl = w.heap.size + 1) := Lib.hid (by rw [hcl, hsz])
  have HB2 : Hid (Below w.heap.size w w2) := Lib.hid (below_to hb1 hb2)
  have hrf2 : w2.heap[bf]? = some (.cells #[.func (.func 45) #[] #[]] 71 (0, 0)) := (Kept.of_below (S := fun _ => False) hb2).heap hrow1 fun e => e
  have ht := try_any 74 #[] #[.pointer (some ⟨bf, 0, none⟩), .pointer (some ⟨cl, 0, none⟩)] A C q n hn hC hC' w2 (Lib.hid (HA.out.keep HB2.out)) (fun k => k = cl) (fun k hk => by have hk : k = cl := hk; omega)
    (fun g => RdL q cl (g + 1)) (RdL q cl w2.heap.size) (fun g b v2 v3 hg h hk => (h.keep hk (by omega) (Nat.lt_succ_self _)).less (by omega))
    (fun g v1 hg hr hb => listFn_any g bf cl q (by rw [← hn.out]; exact hn4) v1 (Lib.hid hr) (Lib.hid ((Kept.of_below (S := fun _ => False) hb).heap hrf2 fun e => e)) (Lib.hid ((Kept.of_below (S := fun _ => False) hb).heap hrow2 fun e => e)) (by omega) (by omega))
    (fun _ _ => by first | rfl | kernel_rfl)
  have HT := Lib.hid ht
  have HR2 := Lib.hid hrow2
  clear ht hbf hw1 hrow1 hb1 hcl hw2 hrow2 hb2 hrf2 hbf1
  go_enter Try.func44, Try.ntmps44
  go_upto_region 2 with fail
  have e1 : w.heap.size = bf := HBF.out.symm
  have e2 : w.heap.size + 1 = cl := HCL.out.symm
  have hx : ∀ (w3 : World) (b : Bool), RdL q cl w2.heap.size b w3 → Kept (fun k => k = cl) w2 w3 → Below w.heap.size w w3 := fun w3 b _ hk => HB2.out.trans (hk.below (B := w.heap.size) (by omega) fun k hk => by have hk : k = cl := hk; omega)
  have HX := Lib.hid hx
  clear hx
  rw [HW.out, e2, e1]
  clear e1 e2
  rcases ho : riL q with _ | l
  · have HO := Lib.hid ho
    clear ho
    go_wp2_with (go_at_call 28; (with_reducible refine (HT.out).mono ?_); rintro e w3 ⟨b, rfl, hr, hk⟩; obtain rfl := rdl_no HO.out hr; have HB3 := Lib.hid (HX.out w3 false hr hk); clear hr hk)
    go_ret2
    rw [HO.out]
    exact ⟨rfl, HB3.out⟩
  · have HO := Lib.hid ho
    clear ho
    go_wp2_with (go_at_call 28; (with_reducible refine (HT.out).mono ?_); rintro e w3 ⟨b, rfl, hr, hk⟩; obtain rfl := rdl_yes HO.out hr; have HB3 := Lib.hid (HX.out w3 true hr hk); obtain ⟨A9, n9, c9, l9, e9, hrow9, how9⟩ := hr; rw [HO.out] at e9; injection e9 with e9; subst e9; have HOW := Lib.hid (how9.more HB2.out.size); have c9c : w3.cell? ⟨cl, 0, none⟩ = some (.slice A9 n9 c9) := (by rw [cell_of_row _ _ _ _ _ _ hrow9]; rfl); clear hk hrow9 how9)
    go_ret2
    rw [HO.out]
    exact ⟨⟨A9, n9, c9, rfl, HOW.out⟩, HB3.out⟩
set_option maxHeartbeats 2000000 in
theorem readIntsC_any (A : Option Addr) (C : Nat) (q : List Nat) (n : Nat) (hn : Hid (n = q.length)) (hn4 : n ≤ 1099511627776) (hC : n ≤ C) (hC' : C ≤ maxLen) (w : World) (HA : Hid (ByAt w A q)) :
    Calls Try.prog 14 #[.slice A n C] w (RdEnds (riL q) w) := by
  have HT := Lib.hid (readListI_any A C q n hn hn4 hC hC' w HA)
  rcases ho : riL q with _ | l
  · have HO := Lib.hid ho
    rw [ho] at HT
    clear ho
    go_enter Try.func14, Try.ntmps14
    go_wp2_with (go_at_call 44; (with_reducible refine (HT.out).mono ?_); rintro e w3 ⟨rfl, hb⟩; have HB := Lib.hid hb; clear hb)
    go_ret2
    exact ⟨rfl, HB.out⟩
  · have HO := Lib.hid ho
    rw [ho] at HT
    clear ho
    go_enter Try.func14, Try.ntmps14
    go_wp2_with (go_at_call 44; (with_reducible refine (HT.out).mono ?_); rintro e w3 ⟨⟨A9, n9, c9, rfl, ho⟩, hb⟩; have HB := Lib.hid hb; have HOW := Lib.hid ho; clear hb ho)
    go_ret2
    exact ⟨⟨A9, n9, c9, rfl, HOW.out⟩, HB.out⟩
end Go.Proofs.Ytplmafbdalkopaa
