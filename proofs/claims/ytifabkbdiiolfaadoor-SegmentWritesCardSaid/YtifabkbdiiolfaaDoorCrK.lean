/-
  Layer column: the reader: its row, mayRead, Check, take, Byte.
-/
import Derived.Test.YtifabkbdiiolfaaDoorRows
import Derived.WalkKit
import Derived.Below
import Derived.Lib.Hide
import Derived.Deep.Draws
import Derived.Deep.QuietTactic
import Derived.Recover
import Derived.Test.YtifabkbdiiolfaaDoorByK
set_option linter.unusedSimpArgs false
set_option linter.unusedVariables false
namespace Go.Proofs.YtifabkbdiiolfaaDoor
open Go.RowKit Go.WideShapes
/-- All that was there is as it was, but for some blocks. -/
structure Kept (S : Nat → Prop) (w w' : World) : Prop where
 os : w'.os = w.os
 tape : w'.tape = w.tape
 output : w'.output = w.output
 size : w.heap.size ≤ w'.heap.size
 block : ∀ k, k < w.heap.size → ¬ S k → w'.heap[k]? = w.heap[k]?
section
variable {S S' : Nat → Prop} {a b c w w' : World}
theorem Kept.refl (S : Nat → Prop) (w : World) : Kept S w w := ⟨rfl, rfl, rfl, Nat.le_refl _, fun _ _ _ => rfl⟩
theorem Kept.trans (h : Kept S a b) (k : Kept S b c) : Kept S a c :=
 ⟨k.os.trans h.os, k.tape.trans h.tape, k.output.trans h.output, Nat.le_trans h.size k.size, fun i hi hs => (k.block i (Nat.lt_of_lt_of_le hi h.size) hs).trans (h.block i hi hs)⟩
/-- What comes behind may write what is new, too. -/
theorem Kept.trans' (h : Kept S a b) (k : Kept S' b c) (hs : ∀ i, S' i → S i ∨ a.heap.size ≤ i) : Kept S a c :=
 ⟨k.os.trans h.os, k.tape.trans h.tape, k.output.trans h.output, Nat.le_trans h.size k.size, fun i hi hn => (k.block i (Nat.lt_of_lt_of_le hi h.size) (fun h2 => by
  rcases hs i h2 with h3 | h3
  ·exact hn h3
  ·omega)).trans (h.block i hi hn)⟩
theorem Kept.mono (h : Kept S w w') (hs : ∀ k, S k → S' k ∨ w.heap.size ≤ k) : Kept S' w w' := ⟨h.os, h.tape, h.output, h.size, fun k hk hn => h.block k hk fun h1 => by
  rcases hs k h1 with h3 | h3
  ·exact hn h3
  ·omega⟩
theorem Kept.of_below (h : Below w.heap.size w w') : Kept S w w' := ⟨h.os, h.tape, h.output, h.size, fun k hk _ => h.block k hk⟩
theorem Kept.below {B : Nat} (h : Kept S w w') (hB : B ≤ w.heap.size) (hs : ∀ k, S k → B ≤ k) : Below B w w' := ⟨h.os, h.tape, h.output, h.size, fun k hk => h.block k (by omega) (fun h1 => by have := hs k h1; omega)⟩
theorem Kept.setCell (h : Kept S a w) (p : Addr) (u : Value) (hp : S p.block ∨ a.heap.size ≤ p.block) : Kept S a (w.setCell p u) :=
 ⟨h.os, h.tape, h.output, by rw [show (w.setCell p u).heap.size = w.heap.size by simp [World.setCell]]; exact h.size, fun k hk hn => by
  rw [Below.heap_setCell _ _ _ _ (fun e => by
   rcases hp with h1 | h1
   ·exact hn (e ▸ h1)
   ·omega)]; exact h.block k hk hn⟩
theorem Kept.drewN (h : Kept S a w) (n : Nat) : Kept S a (w.drewN n) := ⟨h.os, h.tape, h.output, h.size, h.block⟩
theorem Kept.drew (h : Kept S a w) : Kept S a w.drew := ⟨h.os, h.tape, h.output, h.size, h.block⟩
theorem Kept.alloc (h : Kept S a w) (o : Obj) : Kept S a (w.alloc o) :=
 ⟨h.os, h.tape, h.output, by simp; exact Nat.le_succ_of_le h.size, fun k hk hn => by rw [Below.heap_alloc _ _ _ (Nat.lt_of_lt_of_le hk h.size)]; exact h.block k hk hn⟩
theorem Kept.cell (h : Kept S w w') {p : Addr} (hp : p.block < w.heap.size) (hs : ¬ S p.block) : w'.cell? p = w.cell? p := World.cell?_of_block (h.block p.block hp hs)
theorem Kept.heap (h : Kept S w w') {k : Nat} {o : Obj} (hk : w.heap[k]? = some o) (hs : ¬ S k) : w'.heap[k]? = some o := (h.block k (Array.getElem?_eq_some_iff.1 hk).1 hs).trans hk
end
end Go.Proofs.YtifabkbdiiolfaaDoor

set_option maxRecDepth 8000
namespace Go.Proofs.YtifabkbdiiolfaaDoor
open Go.RowKit Go.WideShapes
section
variable {S S' : Nat → Prop} {a b c w w' : World}
/-- Bytes that don't lie in what is written. -/
def Off (S : Nat → Prop) (A : Option Addr) (l : List Nat) : Prop := ∀ a, A = some a → 0 < l.length → ¬ S a.block
theorem ByAt.kept {A : Option Addr} {l : List Nat} (h : ByAt w A l) (hk : Kept S w w') (ho : Off S A l) : ByAt w' A l := fun k x hx => by
 obtain ⟨h1, g, off, h2, h3, h4⟩ := h k x hx
 have hl : 0 < l.length := by have := (List.getElem?_eq_some_iff.1 hx).1; omega
 exact ⟨h1, g, off, h2, Nat.lt_of_lt_of_le h3 hk.size, (hk.cell (p := ⟨g, off + k, none⟩) h3 (ho ⟨g, off, none⟩ h2 hl)).trans h4⟩
end
/-- A reader whose Try is under way: what is left of its bytes. -/
structure RdA (w : World) (g : Nat) (A : Option Addr) (C : Nat) (q : List Nat) : Prop where
 row : w.heap[g]? = some (.cells #[.slice A q.length C, .bool true, .bool false] 83 (0, 0))
 cap : q.length ≤ C
 cap' : C ≤ maxLen
 bytes : ByAt w A q
 low : ∀ a, A = some a → 0 < q.length → a.block < g
def Rd (w : World) (g : Nat) (q : List Nat) : Prop := ∃ A C, RdA w g A C q
/-- A reader that gave up. -/
def Gone (w : World) (g : Nat) : Prop := ∃ x y z, w.heap[g]? = some (.cells #[x, .bool y, .bool z] 83 (0, 0))
def gu (g : Nat) : PanicEntry := { v := .iface 100 (.agg #[.pointer (some ⟨g, 0, none⟩)]), recovered := false }
abbrev Only (g : Nat) : Nat → Prop := fun k => k = g
section
variable {w w' : World} {g C : Nat} {A : Option Addr} {q : List Nat}
theorem RdA.lt (h : RdA w g A C q) : g < w.heap.size := (Array.getElem?_eq_some_iff.1 h.row).1
theorem RdA.c0 (h : RdA w g A C q) : w.cell? ⟨g, 0, none⟩ = some (.slice A q.length C) := by rw [cell_of_row _ _ _ _ _ _ h.row]; rfl
theorem RdA.c1 (h : RdA w g A C q) : w.cell? ⟨g, 1, none⟩ = some (.bool true) := by rw [cell_of_row _ _ _ _ _ _ h.row]; rfl
theorem RdA.c2 (h : RdA w g A C q) : w.cell? ⟨g, 2, none⟩ = some (.bool false) := by rw [cell_of_row _ _ _ _ _ _ h.row]; rfl
theorem RdA.fr (h : RdA w g A C q) (i : Nat) : w.frozen? ⟨g, i, none⟩ = false := row_frozen h.row i
theorem RdA.off (h : RdA w g A C q) : Off (Only g) A q := fun a ha hl hs => by
 obtain ⟨b, off, e, hb, hc⟩ := h.bytes.spot hl
 rw [e] at ha; injection ha with ha; subst ha
 have hc0 := hc 0 q[0] (List.getElem?_eq_getElem hl)
 have hs : b = g := hs
 subst hs
 rw [cell_of_row _ _ _ _ _ _ h.row] at hc0
 have hj : off + 0 < 3 := (Array.getElem?_eq_some_iff.1 hc0).1
 rcases (by omega : off + 0 = 0 ∨ off + 0 = 1 ∨ off + 0 = 2) with h1 | h1 | h1 <;> · rw [h1] at hc0; simp at hc0
theorem RdA.gone (h : RdA w g A C q) : Gone w g := ⟨_, _, _, h.row⟩
theorem Gone.set2 (h : Gone w g) (u : Bool) : Gone (w.setCell ⟨g, 2, none⟩ (.bool u)) g := by
 obtain ⟨x, y, z, h⟩ := h
 exact ⟨x, y, u, by rw [World.setCell]; simp [Array.getElem?_modify, h]⟩
theorem RdA.keep {S : Nat → Prop} (h : RdA w g A C q) (hk : Kept S w w') (hg : ¬ S g) (ho : Off S A q) : RdA w' g A C q :=
 ⟨hk.heap h.row hg, h.cap, h.cap', h.bytes.kept hk ho, h.low⟩
theorem RdA.drewN (h : RdA w g A C q) (n : Nat) : RdA (w.drewN n) g A C q := ⟨h.row, h.cap, h.cap', h.bytes.keep (below_drewN (Below.refl _ _) n), h.low⟩
/-- The reader goes on. -/
theorem RdA.next (h : RdA w g A C q) {A' : Option Addr} {C' : Nat} {q' : List Nat} (h1 : q'.length ≤ C') (h2 : C' ≤ maxLen) (h3 : ByAt w A' q') (h4 : Off (Only g) A' q') (h5 : ∀ a, A' = some a → 0 < q'.length → a.block < g) : RdA (w.setCell ⟨g, 0, none⟩ (.slice A' q'.length C')) g A' C' q' :=
 ⟨by rw [World.setCell]; simp [Array.getElem?_modify, h.row], h1, h2, h3.kept ((Kept.refl (Only g) w).setCell _ _ (.inl rfl)) h4, h5⟩
end
set_option maxHeartbeats 400000 in
theorem mayRead_yes (g C : Nat) (A : Option Addr) (q : List Nat) (w : World) (H : Hid (RdA w g A C q)) :
  Calls Tryd.prog 61 #[.pointer (some ⟨g, 0, none⟩)] w fun e w' => e = .returned (.bool true) ∧ w = w' := by
 have c1 := H.out.c1
 go_enter Tryd.func61, Tryd.ntmps61
 go_wp2
 go_ret
 exact ⟨rfl, rfl⟩
set_option maxHeartbeats 400000 in
theorem check_true (p : Value) (w : World) :
  Calls Tryd.prog 49 #[p, .bool true] w fun e w' => e = .returned (.tuple #[]) ∧ w = w' := by
 go_enter Tryd.func49, Tryd.ntmps49
 go_wp2
 exact bodyPost_ret (results_none rfl _ _ _) rfl ⟨rfl, rfl⟩
set_option maxHeartbeats 400000 in
theorem check_false (g C : Nat) (A : Option Addr) (q : List Nat) (w : World) (H : Hid (RdA w g A C q)) :
  Calls Tryd.prog 49 #[.pointer (some ⟨g, 0, none⟩), .bool false] w fun e w' => e = .panicked [gu g] ∧ Gone w' g ∧ Kept (Only g) w w' := by
 have f2 := H.out.fr 2
 have c2 := H.out.c2
 go_enter Tryd.func49, Tryd.ntmps49
 go_wp2_with (go_at_call 61; refine (mayRead_yes g C A q _ H).mono ?_; rintro e w1 ⟨rfl, rfl⟩)
 exact ⟨rfl, rfl, H.out.gone.set2 true, (Kept.refl _ _).setCell _ _ (.inl rfl)⟩
/-- How a reading ends: with a value, and the rest; or by giving up. -/
def Yes (g : Nat) (w : World) (v : Value) (q : List Nat) (e : Ending) (w' : World) : Prop := e = .returned v ∧ Rd w' g q ∧ Kept (Only g) w w'
def No (g : Nat) (w : World) (e : Ending) (w' : World) : Prop := e = .panicked [gu g] ∧ Gone w' g ∧ Kept (Only g) w w'
/-- The next n bytes. -/
def Took (g : Nat) (w : World) (n : Nat) (q : List Nat) (e : Ending) (w' : World) : Prop := ∃ A C, e = .returned (.slice A n C) ∧ n ≤ C ∧ C ≤ maxLen ∧ ByAt w A (q.take n) ∧ Off (Only g) A (q.take n) ∧ Rd w' g (q.drop n) ∧ Kept (Only g) w w' ∧ (∀ a, A = some a → 0 < (q.take n).length → a.block < g)
theorem RdA.next' {w : World} {g C : Nat} {A : Option Addr} {q : List Nat} (h : RdA w g A C q) {A' : Option Addr} {C' n : Nat} {q' : List Nat} (hn : n = q'.length) (h1 : n ≤ C') (h2 : C' ≤ maxLen) (h3 : ByAt w A' q') (h4 : Off (Only g) A' q') (h5 : ∀ a, A' = some a → 0 < q'.length → a.block < g) : RdA (w.setCell ⟨g, 0, none⟩ (.slice A' n C')) g A' C' q' := by
 subst hn; exact h.next h1 h2 h3 h4 h5
theorem byte_there {g x n : Nat} {w w' : World} {A : Option Addr} {q : List Nat} (h : ByAt w A ((x :: q).take (n + 1))) (ho : Off (Only g) A ((x :: q).take (n + 1))) (hk : Kept (Only g) w w') : ∃ b off, A = some ⟨b, off, none⟩ ∧ w'.cell? ⟨b, off, none⟩ = some (.int .u8 (x : Int)) ∧ b < w'.heap.size := by
 obtain ⟨-, b, off, e, hb, hc⟩ := h 0 x (by simp)
 exact ⟨b, off, e, (hk.cell (p := ⟨b, off + 0, none⟩) hb (ho _ e (by simp))).trans hc, Nat.lt_of_lt_of_le hb hk.size⟩
theorem Off.of {g : Nat} {w : World} {A C} {q : List Nat} (h : RdA w g A C q) {A' : Option Addr} {q' : List Nat} (h' : ByAt w A' q') : Off (Only g) A' q' := fun a ha hl hs => by
 obtain ⟨b, off, e, hb, hc⟩ := h'.spot hl
 rw [e] at ha; injection ha with ha; subst ha
 have hc0 := hc 0 q'[0] (List.getElem?_eq_getElem hl)
 have hs : b = g := hs
 subst hs
 rw [cell_of_row _ _ _ _ _ _ h.row] at hc0
 have hj : off + 0 < 3 := (Array.getElem?_eq_some_iff.1 hc0).1
 rcases (by omega : off + 0 = 0 ∨ off + 0 = 1 ∨ off + 0 = 2) with h1 | h1 | h1 <;> · rw [h1] at hc0; simp at hc0
theorem add_block (d : Addr) (k : Nat) : (d.add k).block = d.block := by
 unfold Addr.add; split <;> rfl
theorem cut_fromU (a : Option Addr) (len cap k : Nat) (hk : k ≤ len) (hc : len ≤ cap) :
  ∃ A C, (∀ w, (Instr.slice 24 (.slice a len cap) (some (.int .u64 (k : Int))) none none).run Tryd.prog w = .ok (.slice A (len - k) C) w) ∧ len - k ≤ C ∧ C ≤ cap ∧ (∀ w l, len = l.length → ByAt w a l → ByAt w A (l.drop k)) ∧ ∀ c, A = some c → ∃ d, a = some d ∧ c.block = d.block := by
 refine ⟨if cap = k then a else a.map (·.add k), cap - k, fun w => ?_, by omega, by omega, fun w l hl h j x hx => ?_, fun c hc' => ?_⟩
 ·rw [run_slice_l w 24 a len cap Tryd.underlying24 .u64 (k : Int) (by omega) (by omega)]
  rw [show (Go.sizeOf (Tryd.prog.elem 24)).run Tryd.prog w = .ok 1 w from by kernel_rfl]
  simp [Result.andThen, sliced]
 ·rw [List.getElem?_drop] at hx
  obtain ⟨h1, g, off, rfl, hg, hcell⟩ := h _ _ hx
  have hkl := (List.getElem?_eq_some_iff.1 hx).1
  rw [if_neg (by omega)]
  exact ⟨h1, g, off + k, by simp [addr_add], hg, by rw [Nat.add_assoc]; exact hcell⟩
 ·split at hc'
  ·exact ⟨c, hc', rfl⟩
  ·rcases a with _ | d
   ·cases hc'
   ·injection hc' with hc'; subst hc'; exact ⟨d, rfl, add_block d _⟩
theorem cut_toU (a : Option Addr) (len cap k : Nat) (hk : k ≤ len) (hc : len ≤ cap) :
  ∃ A, (∀ w, (Instr.slice 24 (.slice a len cap) none (some (.int .u64 (k : Int))) none).run Tryd.prog w = .ok (.slice A k cap) w) ∧ (∀ w l, len = l.length → ByAt w a l → ByAt w A (l.take k)) ∧ ∀ c, A = some c → ∃ d, a = some d ∧ c.block = d.block := by
 refine ⟨if cap = 0 then a else a.map (·.add 0), fun w => ?_, fun w l hl h j x hx => ?_, fun c hc' => ?_⟩
 ·rw [run_slice_h w 24 a len cap Tryd.underlying24 .u64 (k : Int) (by omega) (by omega)]
  rw [show (Go.sizeOf (Tryd.prog.elem 24)).run Tryd.prog w = .ok 1 w from by kernel_rfl]
  simp [Result.andThen, sliced]
 ·rw [List.getElem?_take] at hx
  split at hx
  ·obtain ⟨h1, g, off, rfl, hg, hcell⟩ := h _ _ hx
   exact ⟨h1, g, off, by simp [addr_add], hg, hcell⟩
  ·cases hx
 ·split at hc'
  ·exact ⟨c, hc', rfl⟩
  ·rcases a with _ | d
   ·cases hc'
   ·injection hc' with hc'; subst hc'; exact ⟨d, rfl, add_block d _⟩
set_option maxHeartbeats 1000000 in
theorem take_yes (g C : Nat) (A : Option Addr) (q : List Nat) (n L : Nat) (HL : Hid (L = q.length)) (hn : n ≤ L) (w : World) (H : Hid (RdA w g A C q)) :
  Calls Tryd.prog 77 #[.pointer (some ⟨g, 0, none⟩), .int .u64 (n : Int)] w (Took g w n q) := by
 have c0 := H.out.c0
 have f0 := H.out.fr 0
 have hC := H.out.cap
 have hC' := H.out.cap'
 rw [← HL.out] at c0 hC
 have hC' : C ≤ 9223372036854775807 := hC'
 obtain ⟨A1, r1, d1, e1⟩ := cut_toU A L C n hn hC
 obtain ⟨A2, C2, r2, d2, d3, d4, e2⟩ := cut_fromU A L C n hn hC
 have E1 : Hid (∀ a, A1 = some a → 0 < (q.take n).length → a.block < g) := Lib.hid fun a ha h0 => by
  obtain ⟨d, hd, e⟩ := e1 a ha
  rw [e]; exact H.out.low d hd (by rw [List.length_take] at h0; omega)
 have E2 : Hid (∀ a, A2 = some a → 0 < (q.drop n).length → a.block < g) := Lib.hid fun a ha h0 => by
  obtain ⟨d, hd, e⟩ := e2 a ha
  rw [e]; exact H.out.low d hd (by rw [List.length_drop] at h0; omega)
 have D1 := Lib.hid (d1 w q HL.out H.out.bytes)
 have D4 := Lib.hid (d4 w q HL.out H.out.bytes)
 clear d1 d4 e1 e2
 go_enter Tryd.func77, Tryd.ntmps77
 go_wp2_with (go_at_call 49; refine (check_true _ _).mono ?_; rintro e w1 ⟨rfl, rfl⟩)
 go_ret
 exact ⟨A1, C, rfl, by omega, H.out.cap', D1.out, Off.of H.out D1.out, ⟨A2, C2, H.out.next' (by rw [List.length_drop, HL.out]) d2 (Nat.le_trans d3 H.out.cap') D4.out (Off.of H.out D4.out) E2.out⟩, (Kept.refl _ _).setCell _ _ (.inl rfl), E1.out⟩
set_option maxHeartbeats 1000000 in
theorem take_no (g C : Nat) (A : Option Addr) (q : List Nat) (n L : Nat) (HL : Hid (L = q.length)) (hn : L < n) (w : World) (H : Hid (RdA w g A C q)) :
  Calls Tryd.prog 77 #[.pointer (some ⟨g, 0, none⟩), .int .u64 (n : Int)] w (No g w) := by
 have c0 := H.out.c0
 have hC := H.out.cap
 have hC' := H.out.cap'
 rw [← HL.out] at c0 hC
 have hC' : C ≤ 9223372036854775807 := hC'
 have hd : ¬ n ≤ L := by omega
 have hd2 : decide (n ≤ L) = false := by simpa using hn
 go_enter Tryd.func77, Tryd.ntmps77
 go_wp2_with (go_at_call 49; (with_reducible refine (check_false g C A q _ H).mono ?_); rintro e w1 ⟨rfl, h1, h2⟩)
 exact ⟨rfl, rfl, h1, h2⟩
set_option maxHeartbeats 1000000 in
theorem byte_yes (g : Nat) (x : Nat) (q : List Nat) (w : World) (H : Hid (Rd w g (x :: q))) :
  Calls Tryd.prog 76 #[.pointer (some ⟨g, 0, none⟩)] w (Yes g w (.int .u8 (x : Int)) q) := by
 obtain ⟨A, C, h⟩ := H.out
 have h := Lib.hid h
 go_enter Tryd.func76, Tryd.ntmps76
 go_wp2_with (first
  | (go_at_call 61; refine (mayRead_yes g C A _ _ h).mono ?_; rintro e w1 ⟨rfl, rfl⟩)
  | (go_at_call 77; refine (take_yes g C A (x :: q) 1 (q.length + 1) (Lib.hid (List.length_cons ..).symm) (by omega) _ h).mono ?_; rintro e w1 ⟨A1, C1, rfl, a1, a2, a3, a4, a5, a6, a7⟩; clear a7; obtain ⟨b1, b2, b3, b4, b5⟩ := byte_there (n := 0) a3 a4 a6; subst b3; clear a3 a4 b5; have a5 := Lib.hid a5; have a6 := Lib.hid a6))
 go_ret
 exact ⟨rfl, a5.out, a6.out⟩
set_option maxHeartbeats 1000000 in
theorem byte_no (g : Nat) (w : World) (H : Hid (Rd w g [])) :
  Calls Tryd.prog 76 #[.pointer (some ⟨g, 0, none⟩)] w (No g w) := by
 obtain ⟨A, C, h⟩ := H.out
 have h := Lib.hid h
 go_enter Tryd.func76, Tryd.ntmps76
 go_wp2_with (first
  | (go_at_call 61; refine (mayRead_yes g C A _ _ h).mono ?_; rintro e w1 ⟨rfl, rfl⟩)
  | (go_at_call 77; refine (take_no g C A [] 1 0 (Lib.hid rfl) (by omega) _ h).mono ?_; rintro e w1 ⟨rfl, h1, h2⟩))
 exact ⟨rfl, rfl, h1, h2⟩
end Go.Proofs.YtifabkbdiiolfaaDoor
