/-
  Layer files: the contracts of New, place, Sync, Append, of a store without files and of one.
-/
import Derived.Test.YtafdhgofdocjhaaFd
import Derived.Deep.RegionHeld3
import Derived.Deep.DeepCutAuto
import Derived.StillTailTactics
set_option linter.unusedSimpArgs false
set_option linter.unusedVariables false
namespace Go.Proofs.Ytafdhgofdocjhaa
open Go.RowKit Go.WideShapes

set_option maxHeartbeats 400000 in
theorem new_any (n : Int) (h : 1 ≤ n ∧ n ≤ 16777216) (w : World) : Calls Try.prog 11 #[.int .i64 n] w fun e w' => ∃ g, e = .returned (.tuple #[.pointer (some ⟨g, 0, none⟩), .int .i64 0]) ∧ w.heap.size ≤ g ∧ S0 w g n false 0 0 w' := by
  obtain ⟨h1, h2⟩ := h
  have HS : Hid (S0 w w.heap.size n false 0 0 (w.alloc (.cells (stC n none 0 0 false 0 0).toArray 68))) := Lib.hid ⟨World.grownBy_alloc _ _ _, heap_alloc_new' w _⟩
  go_enter Try.func11, Try.ntmps11
  go_wp2
  go_ret2
  exact ⟨_, rfl, Nat.le_refl _, HS.out⟩
def CellNa (h : Nat) (w : World) : Prop := w.cell? ⟨h, 0, none⟩ = some (.string { data := #[97] })
/-- 'refuses' of one name, out of the cells alone. -/
def RefGives (g h : Nat) (c : Bool) (w : World) : Prop := Calls Try.prog 35 #[.pointer (some ⟨g, 0, none⟩), .slice (some ⟨h, 0, none⟩) 1 1] w fun e w' => e = .returned (.int .i64 (if c then 9 else 0)) ∧ w = w'
theorem ref_new {w : World} {g : Nat} {c : Bool} (t : TypeId) (h2 : w.cell? ⟨g, 2, none⟩ = some (.bool c)) : RefGives g w.heap.size c (w.alloc (.cells #[.string { data := #[97] }] t)) :=
  refuses_1 g w.heap.size c _ (by simp [World.cell?_alloc_new]) ((Below.cell ((Below.refl w.heap.size w).alloc (Nat.le_refl _) _) (p := ⟨g, 2, none⟩) (lt_of_cell h2)).trans h2)
set_option maxHeartbeats 1000000 in
theorem place_off (g : Nat) (w : World) (h2 : w.cell? ⟨g, 2, none⟩ = some (.bool true)) :
    Calls Try.prog 43 #[.pointer (some ⟨g, 0, none⟩), .string { data := #[97] }] w fun e w' => e = .returned (.tuple #[.int .i64 0, .int .i64 9]) ∧ Below w.heap.size w w' := by
  have H := Lib.hid (ref_new 9 h2)
  clear h2
  go_enter Try.func43, Try.ntmps43
  go_wp2_with (go_at_call 35; refine H.out.mono ?_; rintro e w' ⟨rfl, rfl⟩)
  go_ret2
  exact ⟨rfl, (Below.refl w.heap.size w).alloc (Nat.le_refl _) _⟩
set_option maxHeartbeats 1000000 in
theorem place_1 {W : World} {g f fcap cap : Nat} {room armed ops du : Int} {r : List Value} {A : Option Addr} {l : List Nat} (w : World) (hs : Hid (S1 W g room false armed ops f fcap r A cap l du w)) :
    Calls Try.prog 43 #[.pointer (some ⟨g, 0, none⟩), .string { data := #[97] }] w fun e w' => e = .returned (.tuple #[.int .i64 0, .int .i64 0]) ∧ Below w.heap.size w w' := by
  have H := Lib.hid (ref_new 9 hs.out.g2)
  have hb := (Below.refl w.heap.size w).alloc (Nat.le_refl _) (.cells #[.string { data := #[97] }] 9)
  have h' := hs.out.next hb
  have HF := Lib.hid (find_1 g f fcap _ du _ h'.g1 h'.f0 h'.f1 h'.f2)
  have HB := Lib.hid hb
  clear h' hb hs
  go_enter Try.func43, Try.ntmps43
  go_wp2_with (first
    | (go_at_call 35; refine H.out.mono ?_; rintro e w' ⟨rfl, rfl⟩)
    | (go_at_call 36; refine HF.out.mono ?_; rintro e w1 ⟨rfl, hb⟩; have HB1 := Lib.hid hb; clear hb))
  go_ret2
  exact ⟨rfl, HB.out.trans (HB1.out.mono HB.out.size)⟩
/-- What operate does: to the number, to when the power goes off, and whether it is off. -/
structure Op1 (armed : Int) (e : Int) (armed' : Int) (off' : Bool) : Prop where
  out : (armed = 0 ∧ e = 0 ∧ armed' = 0 ∧ off' = false) ∨ (2 ≤ armed ∧ e = 0 ∧ armed' = armed - 1 ∧ off' = false) ∨ (armed = 1 ∧ e = 9 ∧ armed' = 0 ∧ off' = true)
theorem Op1.some (armed : Int) (h : 0 ≤ armed) : ∃ e armed' off', Op1 armed e armed' off' := by
  by_cases h0 : armed = 0
  · exact ⟨0, 0, false, ⟨.inl ⟨h0, rfl, rfl, rfl⟩⟩⟩
  · by_cases h1 : armed = 1
    · exact ⟨9, 0, true, ⟨.inr (.inr ⟨h1, rfl, rfl, rfl⟩)⟩⟩
    · exact ⟨0, armed - 1, false, ⟨.inr (.inl ⟨by omega, rfl, rfl, rfl⟩)⟩⟩
theorem operate_1file {W : World} {g f fcap cap : Nat} {room armed ops du : Int} {r : List Value} {A : Option Addr} {l : List Nat} {e armed' : Int} {off' : Bool} (w : World) (hs : S1 W g room false armed ops f fcap r A cap l du w) (ho : Op1 armed e armed' off') (h : 0 ≤ ops ∧ ops < 1000000000) (ha : armed < 1000000000) :
    Calls Try.prog 39 #[.pointer (some ⟨g, 0, none⟩)] w fun x w' => x = .returned (.int .i64 e) ∧ S1 W g room off' armed' (ops + 1) f fcap r A cap l du w' := by
  rcases ho.out with ⟨rfl, rfl, rfl, rfl⟩ | ⟨h2, rfl, rfl, rfl⟩ | ⟨rfl, rfl, rfl, rfl⟩
  · refine (operate_0 g ops h w hs.g3 hs.g4 (hs.gf 4)).mono ?_
    rintro x w' ⟨rfl, rfl⟩
    exact ⟨rfl, hs.putOps _⟩
  · refine (operate_n g ops armed h ⟨h2, ha⟩ w hs.g3 hs.g4 (hs.gf 3) (hs.gf 4)).mono ?_
    rintro x w' ⟨rfl, rfl⟩
    exact ⟨rfl, (hs.putOps _).putArmed _⟩
  · refine (operate_1 g ops false h w hs.g2 hs.g3 hs.g4 (hs.gf 2) (hs.gf 3) (hs.gf 4)).mono ?_
    rintro x w' ⟨rfl, rfl⟩
    exact ⟨rfl, ((hs.putOps _).putArmed _).putOff _⟩

set_option maxHeartbeats 2000000 in
theorem sync_bad {W : World} {g f fcap cap : Nat} {room armed ops du : Int} {r : List Value} {A : Option Addr} {l : List Nat} {armed' : Int} {off' : Bool} (w : World) (hs : Hid (S1 W g room false armed ops f fcap r A cap l du w)) (ho : Hid (Op1 armed 9 armed' off')) (h : Hid (0 ≤ ops ∧ ops < 1000000000)) (ha : Hid (armed < 1000000000)) :
    Calls Try.prog 15 #[.pointer (some ⟨g, 0, none⟩), .string { data := #[97] }] w fun x w' => x = .returned (.int .i64 9) ∧ S1 W g room off' armed' (ops + 1) f fcap r A cap l du w' := by
  go_enter Try.func15, Try.ntmps15
  go_wp2_with (first
    | (go_at_call 43; refine (place_1 _ hs).mono ?_; rintro x w1 ⟨rfl, hb⟩; have HS1 := Lib.hid (hs.out.next hb); clear hb)
    | (go_at_call 39; refine (operate_1file _ HS1.out ho.out h.out ha.out).mono ?_; rintro x w2 ⟨rfl, h2⟩; have HS := Lib.hid h2; clear h2))
  go_ret
  exact ⟨rfl, HS.out⟩
set_option maxHeartbeats 2000000 in
theorem sync_ok {W : World} {g f fcap cap : Nat} {room armed ops du : Int} {r : List Value} {A : Option Addr} {l : List Nat} {armed' : Int} (w : World) (hs : Hid (S1 W g room false armed ops f fcap r A cap l du w)) (ho : Hid (Op1 armed 0 armed' false)) (h : Hid (0 ≤ ops ∧ ops < 1000000000)) (ha : Hid (armed < 1000000000)) :
    Calls Try.prog 15 #[.pointer (some ⟨g, 0, none⟩), .string { data := #[97] }] w fun x w' => x = .returned (.int .i64 0) ∧ S1 W g room false armed' (ops + 1) f fcap r A cap l l.length w' := by
  go_enter Try.func15, Try.ntmps15
  go_upto_region 5 with (first
    | (go_at_call 43; refine (place_1 _ hs).mono ?_; rintro x w1 ⟨rfl, hb⟩; have HS1 := Lib.hid (hs.out.next hb); clear hb)
    | (go_at_call 39; refine (operate_1file _ HS1.out ho.out h.out ha.out).mono ?_; rintro x w2 ⟨rfl, h2⟩; have HS := Lib.hid h2; clear h2))
  have HS3 := Lib.hid HS.out.drew
  have c1 := HS3.out.g1
  have c2 := HS3.out.f1
  have c3 := HS3.out.f2
  have c4 := HS3.out.ff 2
  go_still_tail 16, (by kernel_rfl)
  change wpList _ _ _ _ _ (World.drew _)
  generalize World.drew _ = w3 at *
  go_wp2
  go_ret
  exact ⟨rfl, HS3.out.putDu _⟩
end Go.Proofs.Ytafdhgofdocjhaa
