/-
  Layer column: the document's own reader: its row, Byte.
-/
import Derived.Test.YtpobfgokikfmbaaDoorQPrds3
set_option linter.unusedSimpArgs false
set_option linter.unusedVariables false
set_option maxRecDepth 8000
namespace Go.Proofs.YtpobfgokikfmbaaDoor
open Go.RowKit Go.WideShapes Col
/-- Where the document's reader stands: below 0 behind a fault. -/
def atR (p : List Nat) : Option (List Nat) → Int
  | none => -1
  | some q => (p.length : Int) - (q.length : Int)
structure RRA (w : World) (m : Nat) (A : Option Addr) (C : Nat) (p : List Nat) (s : Option (List Nat)) : Prop where
  row : w.heap[m]? = some (.cells #[.slice A p.length C, .int .i64 (atR p s)] 47 (0, 0))
  cap : p.length ≤ C
  cap' : C ≤ maxLen
  bytes : ByAt w A p
  suf : ∀ q, s = some q → ∃ k, k ≤ p.length ∧ q = p.drop k
  off : ∀ a, A = some a → 0 < p.length → a.block ≠ m
  small : p.length ≤ 1000000
section
variable {w w' : World} {m C : Nat} {A : Option Addr} {p : List Nat} {s s' : Option (List Nat)}
theorem RRA.c0 (h : RRA w m A C p s) : w.cell? ⟨m, 0, none⟩ = some (.slice A p.length C) := by rw [cell_of_row _ _ _ _ _ _ h.row]; rfl
theorem RRA.c1 (h : RRA w m A C p s) : w.cell? ⟨m, 1, none⟩ = some (.int .i64 (atR p s)) := by rw [cell_of_row _ _ _ _ _ _ h.row]; rfl
theorem RRA.fr (h : RRA w m A C p s) (i : Nat) : w.frozen? ⟨m, i, none⟩ = false := row_frozen h.row i
theorem RRA.lt (h : RRA w m A C p s) : m < w.heap.size := (Array.getElem?_eq_some_iff.1 h.row).1
theorem RRA.keep {S : Nat → Prop} (h : RRA w m A C p s) (hk : Kept S w w') (hm : ¬ S m) (ho : Off S A p) : RRA w' m A C p s := ⟨hk.heap h.row hm, h.cap, h.cap', h.bytes.kept hk ho, h.suf, h.off, h.small⟩
theorem RRA.drew (h : RRA w m A C p s) : RRA w.drew m A C p s := h.keep (S := fun _ => False) ((Kept.refl _ _).drew) (fun e => e) (fun a _ _ e => e)
theorem RRA.put (h : RRA w m A C p s) (hs : ∀ q, s' = some q → ∃ k, k ≤ p.length ∧ q = p.drop k) : RRA (w.setCell ⟨m, 1, none⟩ (.int .i64 (atR p s'))) m A C p s' :=
  ⟨by have := h.row; rw [World.setCell]; simp [Array.getElem?_modify, this], h.cap, h.cap', h.bytes.kept (S := Only m) ((Kept.refl _ _).setCell _ _ (.inl rfl)) (fun a ha h0 e => h.off a ha h0 e), hs, h.off, h.small⟩
end
/-- The next byte of the document's reader, and what is left. -/
def byteS : Option (List Nat) → Nat × Option (List Nat)
  | some (b :: q) => (b, some q)
  | _ => (0, none)
theorem drop_next {p q : List Nat} {b k : Nat} (h : b :: q = p.drop k) : k < p.length ∧ p[k]? = some b ∧ q = p.drop (k + 1) := by
  have hk : k < p.length := by
    rcases Nat.lt_or_ge k p.length with h1 | h1
    · exact h1
    · rw [List.drop_of_length_le h1] at h; cases h
  rw [List.drop_eq_getElem_cons hk] at h
  injection h with h1 h2
  exact ⟨hk, by rw [List.getElem?_eq_getElem hk, h1], h2⟩
def RByte (w : World) (m : Nat) (A : Option Addr) (C : Nat) (p : List Nat) (v : Value) (s : Option (List Nat)) (e : Ending) (w' : World) : Prop := e = .returned v ∧ RRA w' m A C p s ∧ Kept (Only m) w w'
theorem RByte.at {w w' : World} {m C : Nat} {A : Option Addr} {p : List Nat} {v : Value} {s : Option (List Nat)} {e : Ending} (h : RByte w m A C p v s e w') : e = .returned v ∧ Hid (RRA w' m A C p s) ∧ Hid (Kept (Only m) w w') := h
set_option maxHeartbeats 4000000 in
theorem rbyte_any (m C : Nat) (A : Option Addr) (p : List Nat) (s : Option (List Nat)) (w : World) (H : Hid (RRA w m A C p s)) :
    Calls Tryd.prog 56 #[.pointer (some ⟨m, 0, none⟩)] w (RByte w m A C p (.int .u8 ((byteS s).1 : Int)) (byteS s).2) := by
  obtain ⟨n, hn⟩ : ∃ n, n = p.length := ⟨_, rfl⟩
  have HN := Lib.hid hn
  have HC0 : Hid (w.cell? ⟨m, 0, none⟩ = some (.slice A n C)) := Lib.hid (by rw [hn]; exact H.out.c0)
  have HLT := Lib.hid H.out.lt
  have hsm : n ≤ 1000000 := by rw [hn]; exact H.out.small
  clear hn
  rcases s with _ | q
  · have HC1 : Hid (w.cell? ⟨m, 1, none⟩ = some (.int .i64 (-1))) := Lib.hid H.out.c1
    go_enter Tryd.func56, Tryd.ntmps56
    go_upto_region 1 with fail
    refine wp_region_held_drew (S := fun w' => Below w.heap.size w w') (by kernel_rfl) ((Below.refl _ _).drew) (fun hHeld => ?_)
    refine wpAnyH_take (i := 0) (v := .pointer (some ⟨m, 0, none⟩)) rfl (by kernel_rfl) (by kernel_rfl) (by kernel_rfl) (fun _ _ _ h => h) (Or.inl ⟨by rfl, fun _ _ => rfl⟩) hHeld ?_
    try dsimp only
    try simp only [Act.put, List.getElem_toArray, List.getElem_cons_zero, List.getElem_cons_succ, List.setIfInBounds_toArray, List.set_cons_zero, List.set_cons_succ]
    refine wpAnyH_take (i := 1) (v := .pointer (some ⟨m, 0, none⟩)) rfl (by kernel_rfl) (by kernel_rfl) (by kernel_rfl) (fun _ _ _ h => h) (Or.inl ⟨by rfl, fun w _ => by go_simp⟩) hHeld ?_
    try dsimp only
    try simp only [Act.put, List.getElem_toArray, List.getElem_cons_zero, List.getElem_cons_succ, List.setIfInBounds_toArray, List.set_cons_zero, List.set_cons_succ]
    refine wpAnyH_take (i := 2) (v := .pointer (some ⟨m, 1, none⟩)) rfl (by kernel_rfl) (by kernel_rfl) (by kernel_rfl) (fun _ _ _ h => h) (Or.inl ⟨by rfl, fun w _ => by go_simp⟩) hHeld ?_
    try dsimp only
    try simp only [Act.put, List.getElem_toArray, List.getElem_cons_zero, List.getElem_cons_succ, List.setIfInBounds_toArray, List.set_cons_zero, List.set_cons_succ]
    refine wpAnyH_take (i := 3) (v := .int .i64 (-1)) rfl (by kernel_rfl) (by kernel_rfl) (by kernel_rfl) (fun _ _ _ h => h) (Or.inl ⟨by rfl, fun w hw => by have hc : w.cell? ⟨m, 1, none⟩ = some (.int .i64 (-1)) := (hw.cell (p := ⟨m, 1, none⟩) HLT.out).trans HC1.out; go_simp⟩) hHeld ?_
    try dsimp only
    try simp only [Act.put, List.getElem_toArray, List.getElem_cons_zero, List.getElem_cons_succ, List.setIfInBounds_toArray, List.set_cons_zero, List.set_cons_succ]
    refine wpAnyH_take (i := 4) (v := .bool true) rfl (by kernel_rfl) (by kernel_rfl) (by kernel_rfl) (fun _ _ _ h => h) (Or.inl ⟨by rfl, fun w _ => by first | (go_simp; done) | (go_simp; omega)⟩) hHeld ?_
    try dsimp only
    try simp only [Act.put, List.getElem_toArray, List.getElem_cons_zero, List.getElem_cons_succ, List.setIfInBounds_toArray, List.set_cons_zero, List.set_cons_succ]
    refine wpAnyH_take (i := 5) (v := .bool true) rfl (by kernel_rfl) (by kernel_rfl) (by kernel_rfl) (fun _ _ _ h => h) (Or.inl ⟨by rfl, fun _ _ => rfl⟩) hHeld ?_
    try dsimp only
    try simp only [Act.put, List.getElem_toArray, List.getElem_cons_zero, List.getElem_cons_succ, List.setIfInBounds_toArray, List.set_cons_zero, List.set_cons_succ]
    refine wpAnyH_take (i := 6) (v := undef) rfl (by kernel_rfl) (by kernel_rfl) (by kernel_rfl) (fun _ _ _ h => h) (Or.inr ⟨by rfl, rfl⟩) hHeld ?_
    try dsimp only
    try simp only [Act.put, List.getElem_toArray, List.getElem_cons_zero, List.getElem_cons_succ, List.setIfInBounds_toArray, List.set_cons_zero, List.set_cons_succ]
    refine wpAnyH_take (i := 7) (v := undef) rfl (by kernel_rfl) (by kernel_rfl) (by kernel_rfl) (fun _ _ _ h => h) (Or.inr ⟨by rfl, rfl⟩) hHeld ?_
    try dsimp only
    try simp only [Act.put, List.getElem_toArray, List.getElem_cons_zero, List.getElem_cons_succ, List.setIfInBounds_toArray, List.set_cons_zero, List.set_cons_succ]
    refine wpAnyH_take (i := 8) (v := undef) rfl (by kernel_rfl) (by kernel_rfl) (by kernel_rfl) (fun _ _ _ h => h) (Or.inr ⟨by rfl, rfl⟩) hHeld ?_
    try dsimp only
    try simp only [Act.put, List.getElem_toArray, List.getElem_cons_zero, List.getElem_cons_succ, List.setIfInBounds_toArray, List.set_cons_zero, List.set_cons_succ]
    refine wpAnyH_take (i := 9) (v := undef) rfl (by kernel_rfl) (by kernel_rfl) (by kernel_rfl) (fun _ _ _ h => h) (Or.inr ⟨by rfl, rfl⟩) hHeld ?_
    try dsimp only
    try simp only [Act.put, List.getElem_toArray, List.getElem_cons_zero, List.getElem_cons_succ, List.setIfInBounds_toArray, List.set_cons_zero, List.set_cons_succ]
    refine wpAnyH_take (i := 10) (v := undef) rfl (by kernel_rfl) (by kernel_rfl) (by kernel_rfl) (fun _ _ _ h => h) (Or.inr ⟨by rfl, rfl⟩) hHeld ?_
    try dsimp only
    try simp only [Act.put, List.getElem_toArray, List.getElem_cons_zero, List.getElem_cons_succ, List.setIfInBounds_toArray, List.set_cons_zero, List.set_cons_succ]
    refine wpAnyH_take (i := 11) (v := undef) rfl (by kernel_rfl) (by kernel_rfl) (by kernel_rfl) (fun _ _ _ h => h) (Or.inr ⟨by rfl, rfl⟩) hHeld ?_
    try dsimp only
    try simp only [Act.put, List.getElem_toArray, List.getElem_cons_zero, List.getElem_cons_succ, List.setIfInBounds_toArray, List.set_cons_zero, List.set_cons_succ]
    refine wpAnyH_take (i := 12) (v := undef) rfl (by kernel_rfl) (by kernel_rfl) (by kernel_rfl) (fun _ _ _ h => h) (Or.inr ⟨by rfl, rfl⟩) hHeld ?_
    try dsimp only
    try simp only [Act.put, List.getElem_toArray, List.getElem_cons_zero, List.getElem_cons_succ, List.setIfInBounds_toArray, List.set_cons_zero, List.set_cons_succ]
    refine wpAnyH_take (i := 13) (v := undef) rfl (by kernel_rfl) (by kernel_rfl) (by kernel_rfl) (fun _ _ _ h => h) (Or.inr ⟨by rfl, rfl⟩) hHeld ?_
    try dsimp only
    try simp only [Act.put, List.getElem_toArray, List.getElem_cons_zero, List.getElem_cons_succ, List.setIfInBounds_toArray, List.set_cons_zero, List.set_cons_succ]
    refine wpAnyH_take (i := 14) (v := undef) rfl (by kernel_rfl) (by kernel_rfl) (by kernel_rfl) (fun _ _ _ h => h) (Or.inr ⟨by rfl, rfl⟩) hHeld ?_
    try dsimp only
    try simp only [Act.put, List.getElem_toArray, List.getElem_cons_zero, List.getElem_cons_succ, List.setIfInBounds_toArray, List.set_cons_zero, List.set_cons_succ]
    refine wpAnyH_take (i := 15) (v := undef) rfl (by kernel_rfl) (by kernel_rfl) (by kernel_rfl) (fun _ _ _ h => h) (Or.inr ⟨by rfl, rfl⟩) hHeld ?_
    try dsimp only
    try simp only [Act.put, List.getElem_toArray, List.getElem_cons_zero, List.getElem_cons_succ, List.setIfInBounds_toArray, List.set_cons_zero, List.set_cons_succ]
    refine wpAnyH_ready (rs := [16]) (by kernel_rfl) (by simp) (AllReadyH.cons rfl (fun K hK => ?_) AllReadyH.nil)
    go_simp
    refine hK.out _ _ hHeld (fun hHeld => ?_)
    clear hK K
    try dsimp only
    try simp only [Act.put, List.getElem_toArray, List.getElem_cons_zero, List.getElem_cons_succ, List.setIfInBounds_toArray, List.set_cons_zero, List.set_cons_succ]
    refine wpAnyH_done (by kernel_rfl) ?_ _
    have HR := Lib.hid H.out.drew
    have f1 := HR.out.fr 1
    have c1 : w.drew.cell? ⟨m, 1, none⟩ = some (.int .i64 (-1)) := HC1.out
    go_wp2
    go_ret
    exact ⟨rfl, HR.out.put (s' := none) (fun q h => by cases h), ((Kept.refl (Only m) w).drew).setCell _ _ (.inl rfl)⟩
  · rcases q with _ | ⟨b, q⟩
    · have HC1 : Hid (w.cell? ⟨m, 1, none⟩ = some (.int .i64 (n : Int))) := Lib.hid (by have := H.out.c1; rw [this, HN.out]; simp [atR])
      go_enter Tryd.func56, Tryd.ntmps56
      go_upto_region 1 with fail
      refine wp_region_held_drew (S := fun w' => Below w.heap.size w w') (by kernel_rfl) ((Below.refl _ _).drew) (fun hHeld => ?_)
      refine wpAnyH_take (i := 0) (v := .pointer (some ⟨m, 0, none⟩)) rfl (by kernel_rfl) (by kernel_rfl) (by kernel_rfl) (fun _ _ _ h => h) (Or.inl ⟨by rfl, fun _ _ => rfl⟩) hHeld ?_
      try dsimp only
      try simp only [Act.put, List.getElem_toArray, List.getElem_cons_zero, List.getElem_cons_succ, List.setIfInBounds_toArray, List.set_cons_zero, List.set_cons_succ]
      refine wpAnyH_take (i := 1) (v := .pointer (some ⟨m, 0, none⟩)) rfl (by kernel_rfl) (by kernel_rfl) (by kernel_rfl) (fun _ _ _ h => h) (Or.inl ⟨by rfl, fun w _ => by go_simp⟩) hHeld ?_
      try dsimp only
      try simp only [Act.put, List.getElem_toArray, List.getElem_cons_zero, List.getElem_cons_succ, List.setIfInBounds_toArray, List.set_cons_zero, List.set_cons_succ]
      refine wpAnyH_take (i := 2) (v := .pointer (some ⟨m, 1, none⟩)) rfl (by kernel_rfl) (by kernel_rfl) (by kernel_rfl) (fun _ _ _ h => h) (Or.inl ⟨by rfl, fun w _ => by go_simp⟩) hHeld ?_
      try dsimp only
      try simp only [Act.put, List.getElem_toArray, List.getElem_cons_zero, List.getElem_cons_succ, List.setIfInBounds_toArray, List.set_cons_zero, List.set_cons_succ]
      refine wpAnyH_take (i := 3) (v := .int .i64 (n : Int)) rfl (by kernel_rfl) (by kernel_rfl) (by kernel_rfl) (fun _ _ _ h => h) (Or.inl ⟨by rfl, fun w hw => by have hc : w.cell? ⟨m, 1, none⟩ = some (.int .i64 (n : Int)) := (hw.cell (p := ⟨m, 1, none⟩) HLT.out).trans HC1.out; go_simp⟩) hHeld ?_
      try dsimp only
      try simp only [Act.put, List.getElem_toArray, List.getElem_cons_zero, List.getElem_cons_succ, List.setIfInBounds_toArray, List.set_cons_zero, List.set_cons_succ]
      refine wpAnyH_take (i := 4) (v := .bool false) rfl (by kernel_rfl) (by kernel_rfl) (by kernel_rfl) (fun _ _ _ h => h) (Or.inl ⟨by rfl, fun w _ => by first | (go_simp; done) | (go_simp; omega)⟩) hHeld ?_
      try dsimp only
      try simp only [Act.put, List.getElem_toArray, List.getElem_cons_zero, List.getElem_cons_succ, List.setIfInBounds_toArray, List.set_cons_zero, List.set_cons_succ]
      refine wpAnyH_take (i := 5) (v := .bool false) rfl (by kernel_rfl) (by kernel_rfl) (by kernel_rfl) (fun _ _ _ h => h) (Or.inl ⟨by rfl, fun _ _ => rfl⟩) hHeld ?_
      try dsimp only
      try simp only [Act.put, List.getElem_toArray, List.getElem_cons_zero, List.getElem_cons_succ, List.setIfInBounds_toArray, List.set_cons_zero, List.set_cons_succ]
      refine wpAnyH_take (i := 6) (v := .pointer (some ⟨m, 0, none⟩)) rfl (by kernel_rfl) (by kernel_rfl) (by kernel_rfl) (fun _ _ _ h => h) (Or.inl ⟨by rfl, fun _ _ => rfl⟩) hHeld ?_
      try dsimp only
      try simp only [Act.put, List.getElem_toArray, List.getElem_cons_zero, List.getElem_cons_succ, List.setIfInBounds_toArray, List.set_cons_zero, List.set_cons_succ]
      refine wpAnyH_take (i := 7) (v := .pointer (some ⟨m, 0, none⟩)) rfl (by kernel_rfl) (by kernel_rfl) (by kernel_rfl) (fun _ _ _ h => h) (Or.inl ⟨by rfl, fun w _ => by go_simp⟩) hHeld ?_
      try dsimp only
      try simp only [Act.put, List.getElem_toArray, List.getElem_cons_zero, List.getElem_cons_succ, List.setIfInBounds_toArray, List.set_cons_zero, List.set_cons_succ]
      refine wpAnyH_take (i := 8) (v := .pointer (some ⟨m, 1, none⟩)) rfl (by kernel_rfl) (by kernel_rfl) (by kernel_rfl) (fun _ _ _ h => h) (Or.inl ⟨by rfl, fun w _ => by go_simp⟩) hHeld ?_
      try dsimp only
      try simp only [Act.put, List.getElem_toArray, List.getElem_cons_zero, List.getElem_cons_succ, List.setIfInBounds_toArray, List.set_cons_zero, List.set_cons_succ]
      refine wpAnyH_take (i := 9) (v := .int .i64 (n : Int)) rfl (by kernel_rfl) (by kernel_rfl) (by kernel_rfl) (fun _ _ _ h => h) (Or.inl ⟨by rfl, fun w hw => by have hc : w.cell? ⟨m, 1, none⟩ = some (.int .i64 (n : Int)) := (hw.cell (p := ⟨m, 1, none⟩) HLT.out).trans HC1.out; go_simp⟩) hHeld ?_
      try dsimp only
      try simp only [Act.put, List.getElem_toArray, List.getElem_cons_zero, List.getElem_cons_succ, List.setIfInBounds_toArray, List.set_cons_zero, List.set_cons_succ]
      refine wpAnyH_take (i := 10) (v := .pointer (some ⟨m, 0, none⟩)) rfl (by kernel_rfl) (by kernel_rfl) (by kernel_rfl) (fun _ _ _ h => h) (Or.inl ⟨by rfl, fun _ _ => rfl⟩) hHeld ?_
      try dsimp only
      try simp only [Act.put, List.getElem_toArray, List.getElem_cons_zero, List.getElem_cons_succ, List.setIfInBounds_toArray, List.set_cons_zero, List.set_cons_succ]
      refine wpAnyH_take (i := 11) (v := .pointer (some ⟨m, 0, none⟩)) rfl (by kernel_rfl) (by kernel_rfl) (by kernel_rfl) (fun _ _ _ h => h) (Or.inl ⟨by rfl, fun w _ => by go_simp⟩) hHeld ?_
      try dsimp only
      try simp only [Act.put, List.getElem_toArray, List.getElem_cons_zero, List.getElem_cons_succ, List.setIfInBounds_toArray, List.set_cons_zero, List.set_cons_succ]
      refine wpAnyH_take (i := 12) (v := .pointer (some ⟨m, 0, none⟩)) rfl (by kernel_rfl) (by kernel_rfl) (by kernel_rfl) (fun _ _ _ h => h) (Or.inl ⟨by rfl, fun w _ => by go_simp⟩) hHeld ?_
      try dsimp only
      try simp only [Act.put, List.getElem_toArray, List.getElem_cons_zero, List.getElem_cons_succ, List.setIfInBounds_toArray, List.set_cons_zero, List.set_cons_succ]
      refine wpAnyH_take (i := 13) (v := .slice A n C) rfl (by kernel_rfl) (by kernel_rfl) (by kernel_rfl) (fun _ _ _ h => h) (Or.inl ⟨by rfl, fun w hw => by have hc : w.cell? ⟨m, 0, none⟩ = some (.slice A n C) := (hw.cell (p := ⟨m, 0, none⟩) HLT.out).trans HC0.out; go_simp⟩) hHeld ?_
      try dsimp only
      try simp only [Act.put, List.getElem_toArray, List.getElem_cons_zero, List.getElem_cons_succ, List.setIfInBounds_toArray, List.set_cons_zero, List.set_cons_succ]
      refine wpAnyH_take (i := 14) (v := .int .i64 (n : Int)) rfl (by kernel_rfl) (by kernel_rfl) (by kernel_rfl) (fun _ _ _ h => h) (Or.inl ⟨by rfl, fun w _ => by go_simp⟩) hHeld ?_
      try dsimp only
      try simp only [Act.put, List.getElem_toArray, List.getElem_cons_zero, List.getElem_cons_succ, List.setIfInBounds_toArray, List.set_cons_zero, List.set_cons_succ]
      refine wpAnyH_take (i := 15) (v := .bool true) rfl (by kernel_rfl) (by kernel_rfl) (by kernel_rfl) (fun _ _ _ h => h) (Or.inl ⟨by rfl, fun w _ => by first | (go_simp; done) | (go_simp; omega)⟩) hHeld ?_
      try dsimp only
      try simp only [Act.put, List.getElem_toArray, List.getElem_cons_zero, List.getElem_cons_succ, List.setIfInBounds_toArray, List.set_cons_zero, List.set_cons_succ]
      refine wpAnyH_ready (rs := [16]) (by kernel_rfl) (by simp) (AllReadyH.cons rfl (fun K hK => ?_) AllReadyH.nil)
      go_simp
      refine hK.out _ _ hHeld (fun hHeld => ?_)
      clear hK K
      try dsimp only
      try simp only [Act.put, List.getElem_toArray, List.getElem_cons_zero, List.getElem_cons_succ, List.setIfInBounds_toArray, List.set_cons_zero, List.set_cons_succ]
      refine wpAnyH_done (by kernel_rfl) ?_ _
      have HR := Lib.hid H.out.drew
      have f1 := HR.out.fr 1
      have c1 : w.drew.cell? ⟨m, 1, none⟩ = some (.int .i64 (n : Int)) := HC1.out
      go_wp2
      go_ret
      exact ⟨rfl, HR.out.put (s' := none) (fun q h => by cases h), ((Kept.refl (Only m) w).drew).setCell _ _ (.inl rfl)⟩
    · obtain ⟨k, hk, hq⟩ := H.out.suf _ rfl
      obtain ⟨hkn, hb, hq2⟩ := drop_next hq
      have hlen : q.length + (k + 1) = n := by rw [hq2, List.length_drop, HN.out]; omega
      have HQ := Lib.hid hq2
      have hk0 : k < n := by omega
      have HC1 : Hid (w.cell? ⟨m, 1, none⟩ = some (.int .i64 (k : Int))) := Lib.hid (by
        have h := H.out.c1; rw [h]
        have e : atR p (some (b :: q)) = (k : Int) := by show (p.length : Int) - ((b :: q).length : Int) = _; rw [List.length_cons, ← HN.out]; omega
        rw [e])
      obtain ⟨hb256, g, off, rfl, hg, hcb⟩ := H.out.bytes k b hb
      have HG := Lib.hid hg; have HCB := Lib.hid hcb
      have HNE : Hid (g ≠ m) := Lib.hid (H.out.off ⟨g, off, none⟩ rfl (by omega))
      have hkni : (k : Int) < (n : Int) := by omega
      have HE : Hid (atR p (some q) = (k : Int) + 1) := Lib.hid (by show (p.length : Int) - (q.length : Int) = _; rw [← HN.out]; omega)
      have HP2 : Hid (RRA ((w.setCell ⟨m, 1, none⟩ (.int .i64 ((k : Int) + 1))).drew) m (some ⟨g, off, none⟩) C p (some q)) := Lib.hid (by
        have h := (H.out.put (s' := some q) (fun q' h => by injection h with h; subst h; exact ⟨k + 1, by rw [← HN.out]; omega, hq2⟩)).drew
        rwa [HE.out] at h)
      have HK2 : Hid (Kept (Only m) w ((w.setCell ⟨m, 1, none⟩ (.int .i64 ((k : Int) + 1))).drew)) := Lib.hid (((Kept.refl (Only m) w).setCell _ _ (.inl rfl)).drew)
      clear hk hq hkn hb hq2 hg hcb hlen
      go_enter Tryd.func56, Tryd.ntmps56
      go_upto_region 1 with fail
      refine wp_region_held_drew (S := fun w' => Below w.heap.size w w') (by kernel_rfl) ((Below.refl _ _).drew) (fun hHeld => ?_)
      refine wpAnyH_take (i := 0) (v := .pointer (some ⟨m, 0, none⟩)) rfl (by kernel_rfl) (by kernel_rfl) (by kernel_rfl) (fun _ _ _ h => h) (Or.inl ⟨by rfl, fun _ _ => rfl⟩) hHeld ?_
      try dsimp only
      try simp only [Act.put, List.getElem_toArray, List.getElem_cons_zero, List.getElem_cons_succ, List.setIfInBounds_toArray, List.set_cons_zero, List.set_cons_succ]
      refine wpAnyH_take (i := 1) (v := .pointer (some ⟨m, 0, none⟩)) rfl (by kernel_rfl) (by kernel_rfl) (by kernel_rfl) (fun _ _ _ h => h) (Or.inl ⟨by rfl, fun w _ => by go_simp⟩) hHeld ?_
      try dsimp only
      try simp only [Act.put, List.getElem_toArray, List.getElem_cons_zero, List.getElem_cons_succ, List.setIfInBounds_toArray, List.set_cons_zero, List.set_cons_succ]
      refine wpAnyH_take (i := 2) (v := .pointer (some ⟨m, 1, none⟩)) rfl (by kernel_rfl) (by kernel_rfl) (by kernel_rfl) (fun _ _ _ h => h) (Or.inl ⟨by rfl, fun w _ => by go_simp⟩) hHeld ?_
      try dsimp only
      try simp only [Act.put, List.getElem_toArray, List.getElem_cons_zero, List.getElem_cons_succ, List.setIfInBounds_toArray, List.set_cons_zero, List.set_cons_succ]
      refine wpAnyH_take (i := 3) (v := .int .i64 (k : Int)) rfl (by kernel_rfl) (by kernel_rfl) (by kernel_rfl) (fun _ _ _ h => h) (Or.inl ⟨by rfl, fun w hw => by have hc : w.cell? ⟨m, 1, none⟩ = some (.int .i64 (k : Int)) := (hw.cell (p := ⟨m, 1, none⟩) HLT.out).trans HC1.out; go_simp⟩) hHeld ?_
      try dsimp only
      try simp only [Act.put, List.getElem_toArray, List.getElem_cons_zero, List.getElem_cons_succ, List.setIfInBounds_toArray, List.set_cons_zero, List.set_cons_succ]
      refine wpAnyH_take (i := 4) (v := .bool false) rfl (by kernel_rfl) (by kernel_rfl) (by kernel_rfl) (fun _ _ _ h => h) (Or.inl ⟨by rfl, fun w _ => by first | (go_simp; done) | (go_simp; omega)⟩) hHeld ?_
      try dsimp only
      try simp only [Act.put, List.getElem_toArray, List.getElem_cons_zero, List.getElem_cons_succ, List.setIfInBounds_toArray, List.set_cons_zero, List.set_cons_succ]
      refine wpAnyH_take (i := 5) (v := .bool false) rfl (by kernel_rfl) (by kernel_rfl) (by kernel_rfl) (fun _ _ _ h => h) (Or.inl ⟨by rfl, fun _ _ => rfl⟩) hHeld ?_
      try dsimp only
      try simp only [Act.put, List.getElem_toArray, List.getElem_cons_zero, List.getElem_cons_succ, List.setIfInBounds_toArray, List.set_cons_zero, List.set_cons_succ]
      refine wpAnyH_take (i := 6) (v := .pointer (some ⟨m, 0, none⟩)) rfl (by kernel_rfl) (by kernel_rfl) (by kernel_rfl) (fun _ _ _ h => h) (Or.inl ⟨by rfl, fun _ _ => rfl⟩) hHeld ?_
      try dsimp only
      try simp only [Act.put, List.getElem_toArray, List.getElem_cons_zero, List.getElem_cons_succ, List.setIfInBounds_toArray, List.set_cons_zero, List.set_cons_succ]
      refine wpAnyH_take (i := 7) (v := .pointer (some ⟨m, 0, none⟩)) rfl (by kernel_rfl) (by kernel_rfl) (by kernel_rfl) (fun _ _ _ h => h) (Or.inl ⟨by rfl, fun w _ => by go_simp⟩) hHeld ?_
      try dsimp only
      try simp only [Act.put, List.getElem_toArray, List.getElem_cons_zero, List.getElem_cons_succ, List.setIfInBounds_toArray, List.set_cons_zero, List.set_cons_succ]
      refine wpAnyH_take (i := 8) (v := .pointer (some ⟨m, 1, none⟩)) rfl (by kernel_rfl) (by kernel_rfl) (by kernel_rfl) (fun _ _ _ h => h) (Or.inl ⟨by rfl, fun w _ => by go_simp⟩) hHeld ?_
      try dsimp only
      try simp only [Act.put, List.getElem_toArray, List.getElem_cons_zero, List.getElem_cons_succ, List.setIfInBounds_toArray, List.set_cons_zero, List.set_cons_succ]
      refine wpAnyH_take (i := 9) (v := .int .i64 (k : Int)) rfl (by kernel_rfl) (by kernel_rfl) (by kernel_rfl) (fun _ _ _ h => h) (Or.inl ⟨by rfl, fun w hw => by have hc : w.cell? ⟨m, 1, none⟩ = some (.int .i64 (k : Int)) := (hw.cell (p := ⟨m, 1, none⟩) HLT.out).trans HC1.out; go_simp⟩) hHeld ?_
      try dsimp only
      try simp only [Act.put, List.getElem_toArray, List.getElem_cons_zero, List.getElem_cons_succ, List.setIfInBounds_toArray, List.set_cons_zero, List.set_cons_succ]
      refine wpAnyH_take (i := 10) (v := .pointer (some ⟨m, 0, none⟩)) rfl (by kernel_rfl) (by kernel_rfl) (by kernel_rfl) (fun _ _ _ h => h) (Or.inl ⟨by rfl, fun _ _ => rfl⟩) hHeld ?_
      try dsimp only
      try simp only [Act.put, List.getElem_toArray, List.getElem_cons_zero, List.getElem_cons_succ, List.setIfInBounds_toArray, List.set_cons_zero, List.set_cons_succ]
      refine wpAnyH_take (i := 11) (v := .pointer (some ⟨m, 0, none⟩)) rfl (by kernel_rfl) (by kernel_rfl) (by kernel_rfl) (fun _ _ _ h => h) (Or.inl ⟨by rfl, fun w _ => by go_simp⟩) hHeld ?_
      try dsimp only
      try simp only [Act.put, List.getElem_toArray, List.getElem_cons_zero, List.getElem_cons_succ, List.setIfInBounds_toArray, List.set_cons_zero, List.set_cons_succ]
      refine wpAnyH_take (i := 12) (v := .pointer (some ⟨m, 0, none⟩)) rfl (by kernel_rfl) (by kernel_rfl) (by kernel_rfl) (fun _ _ _ h => h) (Or.inl ⟨by rfl, fun w _ => by go_simp⟩) hHeld ?_
      try dsimp only
      try simp only [Act.put, List.getElem_toArray, List.getElem_cons_zero, List.getElem_cons_succ, List.setIfInBounds_toArray, List.set_cons_zero, List.set_cons_succ]
      refine wpAnyH_take (i := 13) (v := .slice (some ⟨g, off, none⟩) n C) rfl (by kernel_rfl) (by kernel_rfl) (by kernel_rfl) (fun _ _ _ h => h) (Or.inl ⟨by rfl, fun w hw => by have hc : w.cell? ⟨m, 0, none⟩ = some (.slice (some ⟨g, off, none⟩) n C) := (hw.cell (p := ⟨m, 0, none⟩) HLT.out).trans HC0.out; go_simp⟩) hHeld ?_
      try dsimp only
      try simp only [Act.put, List.getElem_toArray, List.getElem_cons_zero, List.getElem_cons_succ, List.setIfInBounds_toArray, List.set_cons_zero, List.set_cons_succ]
      refine wpAnyH_take (i := 14) (v := .int .i64 (n : Int)) rfl (by kernel_rfl) (by kernel_rfl) (by kernel_rfl) (fun _ _ _ h => h) (Or.inl ⟨by rfl, fun w _ => by go_simp⟩) hHeld ?_
      try dsimp only
      try simp only [Act.put, List.getElem_toArray, List.getElem_cons_zero, List.getElem_cons_succ, List.setIfInBounds_toArray, List.set_cons_zero, List.set_cons_succ]
      refine wpAnyH_take (i := 15) (v := .bool false) rfl (by kernel_rfl) (by kernel_rfl) (by kernel_rfl) (fun _ _ _ h => h) (Or.inl ⟨by rfl, fun w _ => by first | (go_simp; done) | (go_simp; omega)⟩) hHeld ?_
      try dsimp only
      try simp only [Act.put, List.getElem_toArray, List.getElem_cons_zero, List.getElem_cons_succ, List.setIfInBounds_toArray, List.set_cons_zero, List.set_cons_succ]
      refine wpAnyH_ready (rs := [16]) (by kernel_rfl) (by simp) (AllReadyH.cons rfl (fun K hK => ?_) AllReadyH.nil)
      go_simp
      refine hK.out _ _ hHeld (fun hHeld => ?_)
      clear hK K
      try dsimp only
      try simp only [Act.put, List.getElem_toArray, List.getElem_cons_zero, List.getElem_cons_succ, List.setIfInBounds_toArray, List.set_cons_zero, List.set_cons_succ]
      refine wpAnyH_done (by kernel_rfl) ?_ _
      have HR := Lib.hid H.out.drew
      have f1 := HR.out.fr 1
      have c1 : w.drew.cell? ⟨m, 1, none⟩ = some (.int .i64 (k : Int)) := HC1.out
      go_upto_region 5 with fail
      clear f1 c1
      generalize hw9 : (w.setCell ⟨m, 1, none⟩ (.int .i64 ((k : Int) + 1))).drew = w9 at *
      have HD0 : Hid (w9.cell? ⟨m, 0, none⟩ = some (.slice (some ⟨g, off, none⟩) n C)) := Lib.hid (by rw [HN.out]; exact HP2.out.c0)
      have HD1 : Hid (w9.cell? ⟨m, 1, none⟩ = some (.int .i64 ((k : Int) + 1))) := Lib.hid (by have h := HP2.out.c1; rwa [HE.out] at h)
      have HL9 := Lib.hid HP2.out.lt
      have HGB : Hid (w9.cell? ⟨g, off + k, none⟩ = some (.int .u8 (b : Int))) := Lib.hid ((HK2.out.cell (p := ⟨g, off + k, none⟩) HG.out HNE.out).trans HCB.out)
      have HGL : Hid (g < w9.heap.size) := Lib.hid (Nat.lt_of_lt_of_le HG.out HK2.out.size)
      clear hw9
      refine wp_region_held_drew (S := fun w' => Below w9.heap.size w9 w') (by kernel_rfl) ((Below.refl _ _).drew) (fun hHeld => ?_)
      refine wpAnyH_take (i := 0) (v := .pointer (some ⟨m, 0, none⟩)) rfl (by kernel_rfl) (by kernel_rfl) (by kernel_rfl) (fun _ _ _ h => h) (Or.inl ⟨by rfl, fun _ _ => rfl⟩) hHeld ?_
      try dsimp only
      try simp only [Act.put, List.getElem_toArray, List.getElem_cons_zero, List.getElem_cons_succ, List.setIfInBounds_toArray, List.set_cons_zero, List.set_cons_succ]
      refine wpAnyH_take (i := 1) (v := .pointer (some ⟨m, 0, none⟩)) rfl (by kernel_rfl) (by kernel_rfl) (by kernel_rfl) (fun _ _ _ h => h) (Or.inl ⟨by rfl, fun w _ => by go_simp⟩) hHeld ?_
      try dsimp only
      try simp only [Act.put, List.getElem_toArray, List.getElem_cons_zero, List.getElem_cons_succ, List.setIfInBounds_toArray, List.set_cons_zero, List.set_cons_succ]
      refine wpAnyH_take (i := 2) (v := .pointer (some ⟨m, 0, none⟩)) rfl (by kernel_rfl) (by kernel_rfl) (by kernel_rfl) (fun _ _ _ h => h) (Or.inl ⟨by rfl, fun w _ => by go_simp⟩) hHeld ?_
      try dsimp only
      try simp only [Act.put, List.getElem_toArray, List.getElem_cons_zero, List.getElem_cons_succ, List.setIfInBounds_toArray, List.set_cons_zero, List.set_cons_succ]
      refine wpAnyH_take (i := 3) (v := .slice (some ⟨g, off, none⟩) n C) rfl (by kernel_rfl) (by kernel_rfl) (by kernel_rfl) (fun _ _ _ h => h) (Or.inl ⟨by rfl, fun w hw => by have hc : w.cell? ⟨m, 0, none⟩ = some (.slice (some ⟨g, off, none⟩) n C) := (hw.cell (p := ⟨m, 0, none⟩) HL9.out).trans HD0.out; go_simp⟩) hHeld ?_
      try dsimp only
      try simp only [Act.put, List.getElem_toArray, List.getElem_cons_zero, List.getElem_cons_succ, List.setIfInBounds_toArray, List.set_cons_zero, List.set_cons_succ]
      refine wpAnyH_take (i := 4) (v := .pointer (some ⟨m, 0, none⟩)) rfl (by kernel_rfl) (by kernel_rfl) (by kernel_rfl) (fun _ _ _ h => h) (Or.inl ⟨by rfl, fun _ _ => rfl⟩) hHeld ?_
      try dsimp only
      try simp only [Act.put, List.getElem_toArray, List.getElem_cons_zero, List.getElem_cons_succ, List.setIfInBounds_toArray, List.set_cons_zero, List.set_cons_succ]
      refine wpAnyH_take (i := 5) (v := .pointer (some ⟨m, 0, none⟩)) rfl (by kernel_rfl) (by kernel_rfl) (by kernel_rfl) (fun _ _ _ h => h) (Or.inl ⟨by rfl, fun w _ => by go_simp⟩) hHeld ?_
      try dsimp only
      try simp only [Act.put, List.getElem_toArray, List.getElem_cons_zero, List.getElem_cons_succ, List.setIfInBounds_toArray, List.set_cons_zero, List.set_cons_succ]
      refine wpAnyH_take (i := 6) (v := .pointer (some ⟨m, 1, none⟩)) rfl (by kernel_rfl) (by kernel_rfl) (by kernel_rfl) (fun _ _ _ h => h) (Or.inl ⟨by rfl, fun w _ => by go_simp⟩) hHeld ?_
      try dsimp only
      try simp only [Act.put, List.getElem_toArray, List.getElem_cons_zero, List.getElem_cons_succ, List.setIfInBounds_toArray, List.set_cons_zero, List.set_cons_succ]
      refine wpAnyH_take (i := 7) (v := .int .i64 ((k : Int) + 1)) rfl (by kernel_rfl) (by kernel_rfl) (by kernel_rfl) (fun _ _ _ h => h) (Or.inl ⟨by rfl, fun w hw => by have hc : w.cell? ⟨m, 1, none⟩ = some (.int .i64 ((k : Int) + 1)) := (hw.cell (p := ⟨m, 1, none⟩) HL9.out).trans HD1.out; go_simp⟩) hHeld ?_
      try dsimp only
      try simp only [Act.put, List.getElem_toArray, List.getElem_cons_zero, List.getElem_cons_succ, List.setIfInBounds_toArray, List.set_cons_zero, List.set_cons_succ]
      refine wpAnyH_take (i := 8) (v := .int .i64 (k : Int)) rfl (by kernel_rfl) (by kernel_rfl) (by kernel_rfl) (fun _ _ _ h => h) (Or.inl ⟨by rfl, fun w _ => by first | (go_simp; done) | (go_simp; omega) | (go_simp; rw [IntKind.wrap_i64]; omega)⟩) hHeld ?_
      try dsimp only
      try simp only [Act.put, List.getElem_toArray, List.getElem_cons_zero, List.getElem_cons_succ, List.setIfInBounds_toArray, List.set_cons_zero, List.set_cons_succ]
      refine wpAnyH_take (i := 9) (v := .pointer (some ⟨g, off + k, none⟩)) rfl (by kernel_rfl) (by kernel_rfl) (by kernel_rfl) (fun _ _ _ h => h) (Or.inl ⟨by rfl, fun w _ => by first | (go_simp; done) | (go_simp; intro h; exfalso; omega)⟩) hHeld ?_
      try dsimp only
      try simp only [Act.put, List.getElem_toArray, List.getElem_cons_zero, List.getElem_cons_succ, List.setIfInBounds_toArray, List.set_cons_zero, List.set_cons_succ]
      refine wpAnyH_take (i := 10) (v := .int .u8 (b : Int)) rfl (by kernel_rfl) (by kernel_rfl) (by kernel_rfl) (fun _ _ _ h => h) (Or.inl ⟨by rfl, fun w hw => by have hc : w.cell? ⟨g, off + k, none⟩ = some (.int .u8 (b : Int)) := (hw.cell (p := ⟨g, off + k, none⟩) HGL.out).trans HGB.out; go_simp⟩) hHeld ?_
      try dsimp only
      try simp only [Act.put, List.getElem_toArray, List.getElem_cons_zero, List.getElem_cons_succ, List.setIfInBounds_toArray, List.set_cons_zero, List.set_cons_succ]
      refine wpAnyH_ready (rs := [11]) (by kernel_rfl) (by simp) (AllReadyH.cons rfl (fun K hK => ?_) AllReadyH.nil)
      go_simp
      refine hK.out _ _ hHeld (fun hHeld => ?_)
      clear hK K
      try dsimp only
      try simp only [Act.put, List.getElem_toArray, List.getElem_cons_zero, List.getElem_cons_succ, List.setIfInBounds_toArray, List.set_cons_zero, List.set_cons_succ]
      refine wpAnyH_done (by kernel_rfl) ?_ _
      have HB9 := Lib.hid hHeld
      go_wp2
      go_ret
      exact ⟨rfl, HP2.out.keep (S := fun _ => False) (Kept.of_below HB9.out) (fun e => e) (fun a _ _ e => e), HK2.out.trans (Kept.of_below HB9.out)⟩
end Go.Proofs.YtpobfgokikfmbaaDoor

set_option linter.unusedSimpArgs false
set_option linter.unusedVariables false
set_option maxRecDepth 8000
namespace Go.Proofs.YtpobfgokikfmbaaDoor
open Go.RowKit Go.WideShapes Col
def uintS (most : Nat) : Option (List Nat) → Nat × Option (List Nat)
  | none => (0, none)
  | some q => match uP most q with
    | some (n, r) => (n, some r)
    | none => (0, none)
theorem uintS_some {most n : Nat} {q r : List Nat} (h : uP most q = some (n, r)) : uintS most (some q) = (n, some r) := by simp [uintS, h]
theorem uintS_none {most : Nat} {q : List Nat} (h : uP most q = none) : uintS most (some q) = (0, none) := by simp [uintS, h]
theorem atR_pos {w : World} {m C : Nat} {A : Option Addr} {p q : List Nat} (h : RRA w m A C p (some q)) : ∃ z : Nat, atR p (some q) = (z : Int) ∧ z + q.length = p.length := by
  obtain ⟨k, hk, rfl⟩ := h.suf _ rfl
  exact ⟨k, by show (p.length : Int) - ((p.drop k).length : Int) = _; rw [List.length_drop]; omega, by rw [List.length_drop]; omega⟩
def RUI (w : World) (m C : Nat) (A : Option Addr) (p : List Nat) (s : Option (List Nat)) (u v : Value) (wr : World) : Prop :=
  ∃ (k acc : Nat) (s' : Option (List Nat)), k ≤ 9 ∧ v = .int .i64 (k : Int) ∧ u = .int .u64 (acc : Int) ∧ acc < 2 ^ (7 * k) ∧ RRA wr m A C p s' ∧ Kept (Only m) w wr ∧
    ((s = none ∧ s' = none) ∨ ∃ q q', s = some q ∧ s' = some q' ∧ plus k acc (grp k q') = grp 0 q)
theorem uP_of_none {most : Nat} {q : List Nat} (h : grp 0 q = none) : uP most q = none := by unfold uP; rw [h]; rfl
theorem uP_of_big {most n : Nat} {q r : List Nat} (h : grp 0 q = some (n, r)) (h2 : most < n) : uP most q = none := by unfold uP; rw [h]; simp; omega
theorem uP_of_ok {most n : Nat} {q r : List Nat} (h : grp 0 q = some (n, r)) (h2 : n ≤ most) : uP most q = some (n, r) := by unfold uP; rw [h]; simp [h2]
set_option maxHeartbeats 4000000 in
theorem ruint_any (m C : Nat) (A : Option Addr) (p : List Nat) (most : Nat) (s : Option (List Nat)) (w : World) (H : Hid (RRA w m A C p s)) :
    Calls Tryd.prog 38 #[.pointer (some ⟨m, 0, none⟩), .int .u64 (most : Int)] w (RByte w m A C p (.int .u64 ((uintS most s).1 : Int)) (uintS most s).2) := by
  have HST : Hid (RUI w m C A p s (.int .u64 0) (.int .i64 0) w) := Lib.hid ⟨0, 0, s, by decide, rfl, rfl, by decide, H.out, Kept.refl _ _, by
    rcases s with _ | q
    · exact .inl ⟨rfl, rfl⟩
    · exact .inr ⟨q, q, rfl, rfl, plus_zero _⟩⟩
  go_enter Tryd.func38, Tryd.ntmps38
  go_wp2
  go_loopw [5, 6] (fun u v wr => RUI w m C A p s u v wr) (fun _ v _ => 10 - (intOf v).toNat)
  case atStart => exact HST.out
  case round =>
    obtain ⟨k, acc, s', hk, rfl, rfl, ha, hr, hkp, hcase⟩ := hrel
    have HR := Lib.hid hr; have HK := Lib.hid hkp; have HA := Lib.hid ha
    clear hr hkp ha HST
    have HBY := Lib.hid (rbyte_any m C A p s' wr HR)
    have hfail : Hid ((∀ w3 : World, RRA w3 m A C p none → Kept (Only m) wr w3 → (uintS most s) = (0, none) → RByte w m A C p (.int .u64 ((uintS most s).1 : Int)) (uintS most s).2 (.returned (.int .u64 0)) w3)) := Lib.hid fun w3 h1 h2 h3 => by rw [h3]; exact ⟨rfl, h1, HK.out.trans h2⟩
    rcases hcase with ⟨hs, hs'⟩ | ⟨q, q', hs, hs', hpl⟩
    · have HE : Hid (uintS most s = (0, none)) := Lib.hid (by rw [hs]; rfl)
      subst hs'
      go_wp2_with (go_at_call 56; (with_reducible refine (HBY.out).mono ?_); rintro e w2 hy; obtain ⟨rfl, HR2, HK2⟩ := hy.at; have c1 : w2.cell? ⟨m, 1, none⟩ = some (.int .i64 (-1)) := HR2.out.c1; have f1 := HR2.out.fr 1; clear hy)
      go_ret
      exact hfail.out _ (HR2.out.put (s' := none) (fun q h => by cases h)) (HK2.out.setCell _ _ (.inl rfl)) HE.out
    · have HPL := Lib.hid hpl
      have HS := Lib.hid hs
      subst hs'
      clear hpl hs
      rcases q' with _ | ⟨b, q'⟩
      · have HE : Hid (uintS most s = (0, none)) := Lib.hid (by
          rw [HS.out]
          exact uintS_none (uP_of_none (by have := HPL.out; rw [← this]; simp [plus, grp])))
        go_wp2_with (go_at_call 56; (with_reducible refine (HBY.out).mono ?_); rintro e w2 hy; obtain ⟨rfl, HR2, HK2⟩ := hy.at; have c1 : w2.cell? ⟨m, 1, none⟩ = some (.int .i64 (-1)) := HR2.out.c1; have f1 := HR2.out.fr 1; clear hy)
        go_ret
        exact hfail.out _ (HR2.out.put (s' := none) (fun q h => by cases h)) (HK2.out.setCell _ _ (.inl rfl)) HE.out
      · have hb256 : b < 256 := by
          obtain ⟨j, hj, hq⟩ := HR.out.suf _ rfl
          exact HR.out.bytes.lt b (List.mem_of_mem_drop (hq ▸ List.mem_cons_self ..))
        have HBY2 : Hid (Calls Tryd.prog 56 #[.pointer (some ⟨m, 0, none⟩)] wr (RByte wr m A C p (.int .u8 (b : Int)) (some q'))) := HBY
        clear HBY
        by_cases h91 : k = 9 ∧ 1 < b
        · have HE : Hid (uintS most s = (0, none)) := Lib.hid (by
            rw [HS.out]
            exact uintS_none (uP_of_none (by have := HPL.out; rw [← this, grp, if_pos (.inr h91)]; rfl)))
          obtain ⟨h9, hb1⟩ := h91
          subst h9
          have hb1i : (1 : Int) < (b : Int) := by omega
          go_wp2_with (go_at_call 56; (with_reducible refine (HBY2.out).mono ?_); rintro e w2 hy; obtain ⟨rfl, HR2, HK2⟩ := hy.at; obtain ⟨z, hz, hzl⟩ := atR_pos HR2.out; have c1 := HR2.out.c1; rw [hz] at c1; have f1 := HR2.out.fr 1; clear hy hz hzl)
          go_ret
          exact hfail.out _ (HR2.out.put (s' := none) (fun q h => by cases h)) (HK2.out.setCell _ _ (.inl rfl)) HE.out
        · obtain ⟨c, hc⟩ : ∃ c, c = b % 128 := ⟨_, rfl⟩
          have hci : (b : Int) % 128 = (c : Int) := by omega
          have hci2 : (b : Int).tmod 128 = (c : Int) := by rw [Int.tmod_eq_emod_of_nonneg (by omega)]; exact hci
          have hc128 : c < 128 := by omega
          have hcw : IntKind.u64.wrap (c : Int) = (c : Int) := by rw [IntKind.wrap_u64]; omega
          have hfit : c * 2 ^ (7 * k) < 18446744073709551616 := by
            by_cases h8 : k ≤ 8
            · exact fits8 h8 hc128
            · exact fits9 hk (by omega)
          obtain ⟨acc', hacc⟩ : ∃ acc', acc' = acc + 2 ^ (7 * k) * c := ⟨_, rfl⟩
          have hadd : (acc : Int) + IntKind.u64.wrap ((c : Int) * 2 ^ (7 * k)) = (acc' : Int) := by
            rw [wrap_shl, Nat.mod_eq_of_lt hfit, hacc, Nat.mul_comm c]; omega
          have hacc64 : acc' < 18446744073709551616 := by rw [hacc]; exact acc_w hk HA.out hc128 hfit
          have HAN : Hid (acc' < 2 ^ (7 * (k + 1))) := Lib.hid (by rw [hacc]; exact acc_next HA.out hc128)
          have HACC := Lib.hid hacc
          have HCC := Lib.hid hc
          have h9f : ((k : Int) == 9 && decide ((1 : Int) < (b : Int))) = false := by
            rw [Bool.and_eq_false_iff]
            by_cases h9 : k = 9
            · right; simp; omega
            · left; rw [beq_eq_false_iff_ne]; omega
          have hbk : ¬ (9 < k ∨ (k = 9 ∧ 1 < b)) := by omega
          have hk7 : (7 : Int) * (k : Int) < 64 := by omega
          have HNB := Lib.hid h91
          clear hc hacc hfit
          by_cases hb7 : b < 128
          · have HG : Hid ((b = 0 ∧ 0 < k → grp 0 q = none) ∧ (¬ (b = 0 ∧ 0 < k) → grp 0 q = some (acc', q'))) := Lib.hid (by
              have := HPL.out
              refine ⟨fun h => ?_, fun h => ?_⟩
              · rw [← this, h.1, grp_zero h.2]; rfl
              · rw [← this, grp_end hbk hb7 h, HACC.out, HCC.out, Nat.mod_eq_of_lt hb7]; rfl)
            by_cases hb0 : b = 0 ∧ 0 < k
            · have HE : Hid (uintS most s = (0, none)) := Lib.hid (by rw [HS.out]; exact uintS_none (uP_of_none (HG.out.1 hb0)))
              obtain ⟨hb0, hk0⟩ := hb0
              subst hb0
              have hk0i : (0 : Int) < (k : Int) := by omega
              clear h91
              by_cases hk9 : k = 9
              · subst hk9
                go_wp2_with (go_at_call 56; (with_reducible refine (HBY2.out).mono ?_); rintro e w2 hy; obtain ⟨rfl, HR2, HK2⟩ := hy.at; obtain ⟨z, hz, hzl⟩ := atR_pos HR2.out; have c1 := HR2.out.c1; rw [hz] at c1; have f1 := HR2.out.fr 1; clear hy hz hzl)
                go_ret
                exact hfail.out _ (HR2.out.put (s' := none) (fun q h => by cases h)) (HK2.out.setCell _ _ (.inl rfl)) HE.out
              · have hk9i : ((k : Int) == 9) = false := by rw [beq_eq_false_iff_ne]; omega
                clear hk9
                go_wp2_with (go_at_call 56; (with_reducible refine (HBY2.out).mono ?_); rintro e w2 hy; obtain ⟨rfl, HR2, HK2⟩ := hy.at; obtain ⟨z, hz, hzl⟩ := atR_pos HR2.out; have c1 := HR2.out.c1; rw [hz] at c1; have f1 := HR2.out.fr 1; clear hy hz hzl)
                go_ret
                exact hfail.out _ (HR2.out.put (s' := none) (fun q h => by cases h)) (HK2.out.setCell _ _ (.inl rfl)) HE.out
            · have HGG := Lib.hid (HG.out.2 hb0)
              by_cases hk0 : k = 0
              · have hk0i : ¬ ((0 : Int) < (k : Int)) := by omega
                have hk9i : ((k : Int) == 9) = false := by rw [beq_eq_false_iff_ne]; omega
                clear h91 hb0 hk0 HG h9f
                by_cases hmost : acc' ≤ most
                · have HE : Hid (uintS most s = (acc', some q')) := Lib.hid (by rw [HS.out]; exact uintS_some (uP_of_ok HGG.out hmost))
                  have hmi : ¬ ((most : Int) < (acc' : Int)) := by omega
                  clear hmost
                  go_wp2_with (go_at_call 56; (with_reducible refine (HBY2.out).mono ?_); rintro e w2 hy; obtain ⟨rfl, HR2, HK2⟩ := hy.at; obtain ⟨z, hz, hzl⟩ := atR_pos HR2.out; have c1 := HR2.out.c1; rw [hz] at c1; have f1 := HR2.out.fr 1; clear hy hz hzl)
                  go_ret
                  exact ⟨by rw [HE.out]; rfl, by rw [HE.out]; exact HR2.out, HK.out.trans HK2.out⟩
                · have HE : Hid (uintS most s = (0, none)) := Lib.hid (by rw [HS.out]; exact uintS_none (uP_of_big HGG.out (by omega)))
                  have hmi : (most : Int) < (acc' : Int) := by omega
                  clear hmost
                  go_wp2_with (go_at_call 56; (with_reducible refine (HBY2.out).mono ?_); rintro e w2 hy; obtain ⟨rfl, HR2, HK2⟩ := hy.at; obtain ⟨z, hz, hzl⟩ := atR_pos HR2.out; have c1 := HR2.out.c1; rw [hz] at c1; have f1 := HR2.out.fr 1; clear hy hz hzl)
                  go_ret
                  exact hfail.out _ (HR2.out.put (s' := none) (fun q h => by cases h)) (HK2.out.setCell _ _ (.inl rfl)) HE.out
              · have hk0i : (0 : Int) < (k : Int) := by omega
                have hb0i : ((b : Int) == 0) = false := by rw [beq_eq_false_iff_ne]; omega
                by_cases hk9 : k = 9
                · have hk9i : ((k : Int) == 9) = true := by rw [beq_iff_eq]; omega
                  have hb1 : ¬ ((1 : Int) < (b : Int)) := by omega
                  clear h91 hb0 hk0 hk9 HG h9f
                  by_cases hmost : acc' ≤ most
                  · have HE : Hid (uintS most s = (acc', some q')) := Lib.hid (by rw [HS.out]; exact uintS_some (uP_of_ok HGG.out hmost))
                    have hmi : ¬ ((most : Int) < (acc' : Int)) := by omega
                    clear hmost
                    go_wp2_with (go_at_call 56; (with_reducible refine (HBY2.out).mono ?_); rintro e w2 hy; obtain ⟨rfl, HR2, HK2⟩ := hy.at; obtain ⟨z, hz, hzl⟩ := atR_pos HR2.out; have c1 := HR2.out.c1; rw [hz] at c1; have f1 := HR2.out.fr 1; clear hy hz hzl)
                    go_ret
                    exact ⟨by rw [HE.out]; rfl, by rw [HE.out]; exact HR2.out, HK.out.trans HK2.out⟩
                  · have HE : Hid (uintS most s = (0, none)) := Lib.hid (by rw [HS.out]; exact uintS_none (uP_of_big HGG.out (by omega)))
                    have hmi : (most : Int) < (acc' : Int) := by omega
                    clear hmost
                    go_wp2_with (go_at_call 56; (with_reducible refine (HBY2.out).mono ?_); rintro e w2 hy; obtain ⟨rfl, HR2, HK2⟩ := hy.at; obtain ⟨z, hz, hzl⟩ := atR_pos HR2.out; have c1 := HR2.out.c1; rw [hz] at c1; have f1 := HR2.out.fr 1; clear hy hz hzl)
                    go_ret
                    exact hfail.out _ (HR2.out.put (s' := none) (fun q h => by cases h)) (HK2.out.setCell _ _ (.inl rfl)) HE.out
                · have hk9i : ((k : Int) == 9) = false := by rw [beq_eq_false_iff_ne]; omega
                  clear h91 hb0 hk0 hk9 HG h9f
                  by_cases hmost : acc' ≤ most
                  · have HE : Hid (uintS most s = (acc', some q')) := Lib.hid (by rw [HS.out]; exact uintS_some (uP_of_ok HGG.out hmost))
                    have hmi : ¬ ((most : Int) < (acc' : Int)) := by omega
                    clear hmost
                    go_wp2_with (go_at_call 56; (with_reducible refine (HBY2.out).mono ?_); rintro e w2 hy; obtain ⟨rfl, HR2, HK2⟩ := hy.at; obtain ⟨z, hz, hzl⟩ := atR_pos HR2.out; have c1 := HR2.out.c1; rw [hz] at c1; have f1 := HR2.out.fr 1; clear hy hz hzl)
                    go_ret
                    exact ⟨by rw [HE.out]; rfl, by rw [HE.out]; exact HR2.out, HK.out.trans HK2.out⟩
                  · have HE : Hid (uintS most s = (0, none)) := Lib.hid (by rw [HS.out]; exact uintS_none (uP_of_big HGG.out (by omega)))
                    have hmi : (most : Int) < (acc' : Int) := by omega
                    clear hmost
                    go_wp2_with (go_at_call 56; (with_reducible refine (HBY2.out).mono ?_); rintro e w2 hy; obtain ⟨rfl, HR2, HK2⟩ := hy.at; obtain ⟨z, hz, hzl⟩ := atR_pos HR2.out; have c1 := HR2.out.c1; rw [hz] at c1; have f1 := HR2.out.fr 1; clear hy hz hzl)
                    go_ret
                    exact hfail.out _ (HR2.out.put (s' := none) (fun q h => by cases h)) (HK2.out.setCell _ _ (.inl rfl)) HE.out
          · have hk9i : ((k : Int) == 9) = false := by rw [beq_eq_false_iff_ne]; omega
            have hk8 : k ≤ 8 := by omega
            have HP2 : Hid (plus (k + 1) acc' (grp (k + 1) q') = grp 0 q) := Lib.hid (by
              have := HPL.out
              rw [plus_on hk8 (by omega), ← HCC.out, ← HACC.out] at this; exact this)
            clear h91 h9f
            go_wp2_with (go_at_call 56; (with_reducible refine (HBY2.out).mono ?_); rintro e w2 hy; obtain ⟨rfl, HR2, HK2⟩ := hy.at; obtain ⟨z, hz, hzl⟩ := atR_pos HR2.out; have c1 := HR2.out.c1; rw [hz] at c1; have f1 := HR2.out.fr 1; clear hy hz hzl)
            go_roundw
            case rel => exact ⟨k + 1, acc', some q', by omega, by go_num, rfl, HAN.out, HR2.out, HK.out.trans HK2.out, .inr ⟨q, q', HS.out, rfl, HP2.out⟩⟩
            case measure => simp [intOf]; omega
def intS : Option (List Nat) → Int × Option (List Nat)
  | none => (0, none)
  | some q => match zP q with
    | some (x, r) => (x, some r)
    | none => (0, none)
theorem intS_some {x : Int} {q r : List Nat} (h : zP q = some (x, r)) : intS (some q) = (x, some r) := by simp [intS, h]
theorem intS_none {q : List Nat} (h : zP q = none) : intS (some q) = (0, none) := by simp [intS, h]
theorem intS_of {w : World} {m C : Nat} {A : Option Addr} {p : List Nat} (s : Option (List Nat)) (h : RRA w m A C p s) : intS s = (uz (uintS 18446744073709551615 s).1, (uintS 18446744073709551615 s).2) ∧ (uintS 18446744073709551615 s).1 < 18446744073709551616 := by
  rcases s with _ | q
  · exact ⟨rfl, by decide⟩
  · obtain ⟨k, hk, hq⟩ := h.suf _ rfl
    have hb : ∀ x ∈ q, x < 256 := fun x hx => h.bytes.lt x (List.mem_of_mem_drop (hq ▸ hx))
    rcases hg : grp 0 q with _ | ⟨n, r⟩
    · rw [intS_none (by unfold zP; rw [hg]; rfl), uintS_none (uP_of_none hg)]; exact ⟨rfl, by decide⟩
    · have hn := grp_u64 hg hb
      rw [intS_some (x := uz n) (by unfold zP; rw [hg]; rfl), uintS_some (uP_of_ok hg (by omega))]; exact ⟨rfl, hn⟩
set_option maxHeartbeats 1000000 in
theorem rint_any (m C : Nat) (A : Option Addr) (p : List Nat) (s : Option (List Nat)) (w : World) (H : Hid (RRA w m A C p s)) :
    Calls Tryd.prog 57 #[.pointer (some ⟨m, 0, none⟩)] w (RByte w m A C p (.int .i64 (intS s).1) (intS s).2) := by
  obtain ⟨he, hlt⟩ := intS_of s H.out
  have HU := Lib.hid (ruint_any m C A p 18446744073709551615 s w H)
  have HE := Lib.hid he
  obtain ⟨n, hn⟩ : ∃ n, n = (uintS 18446744073709551615 s).1 := ⟨_, rfl⟩
  obtain ⟨s2, hs2⟩ : ∃ s2, s2 = (uintS 18446744073709551615 s).2 := ⟨_, rfl⟩
  rw [← hn, ← hs2] at HE HU
  rw [← hn] at hlt
  clear he hn hs2
  obtain ⟨q, hq⟩ : ∃ q, q = n / 2 := ⟨_, rfl⟩
  have hqi : (n : Int) / 2 = (q : Int) := by omega
  have hqi2 : (n : Int).tdiv 2 = (q : Int) := by rw [Int.tdiv_eq_ediv_of_nonneg (by omega)]; exact hqi
  have hqw : IntKind.i64.wrap (q : Int) = (q : Int) := by rw [IntKind.wrap_i64]; omega
  have HQ := Lib.hid hq
  have hq63 : q < 9223372036854775808 := by omega
  clear hq
  rcases Nat.mod_two_eq_zero_or_one n with h2 | h2
  · have hmi : (n : Int) % 2 = 0 := by omega
    have hmi2 : (n : Int).tmod 2 = 0 := by rw [Int.tmod_eq_emod_of_nonneg (by omega)]; exact hmi
    have HX : Hid (uz n = (q : Int)) := Lib.hid (by unfold uz; rw [if_neg (by omega), HQ.out])
    clear h2
    go_enter Tryd.func57, Tryd.ntmps57
    go_wp2_with (go_at_call 38; (refine (HU.out).mono ?_); rintro e w2 hy; obtain ⟨rfl, HR2, HK2⟩ := hy.at; clear hy)
    go_ret
    exact ⟨by rw [HE.out]; exact ret_i64 HX.out.symm, by rw [HE.out]; exact HR2.out, HK2.out⟩
  · have hmi : (n : Int) % 2 = 1 := by omega
    have hmi2 : (n : Int).tmod 2 = 1 := by rw [Int.tmod_eq_emod_of_nonneg (by omega)]; exact hmi
    have HX : Hid (uz n = -(q : Int) - 1) := Lib.hid (by unfold uz; rw [if_pos h2, HQ.out])
    clear h2
    go_enter Tryd.func57, Tryd.ntmps57
    go_wp2_with (go_at_call 38; (refine (HU.out).mono ?_); rintro e w2 hy; obtain ⟨rfl, HR2, HK2⟩ := hy.at; clear hy)
    go_ret
    exact ⟨by rw [HE.out]; exact ret_i64 HX.out.symm, by rw [HE.out]; exact HR2.out, HK2.out⟩
end Go.Proofs.YtpobfgokikfmbaaDoor
