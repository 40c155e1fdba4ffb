/-
  Layer column: the reader: its row, mayRead, Check, take, Byte.
-/
import Derived.Test.YtjldamkmdkaiiaaGreatDoorRows
import Derived.WalkKit
import Derived.Below
import Derived.Lib.Hide
import Derived.Deep.Draws
import Derived.Deep.QuietTactic
import Derived.Recover
import Derived.Test.YtjldamkmdkaiiaaGreatDoorGlK
import Derived.Test.YtjldamkmdkaiiaaGreatDoorMbK
set_option linter.unusedSimpArgs false
set_option linter.unusedVariables false
namespace Go.Proofs.YtjldamkmdkaiiaaGreatDoor
open Go.RowKit Go.WideShapes
structure Kept (S : Nat → Prop) (w w' : World) : Prop where
 os : w'.os = w.os
 tape : w'.tape = w.tape
 output : w'.output = w.output
 size : w.heap.size ≤ w'.heap.size
 block : ∀ k, k < w.heap.size → ¬ S k → w'.heap[k]? = w.heap[k]?
section
variable {S S' : Nat → Prop} {a b c w w' : World}
theorem Kept.refl (S : Nat → Prop) (w : World) : Kept S w w := ⟨rfl, rfl, rfl, Nat.le_refl _, fun _ _ _ => rfl⟩
theorem Kept.trans (h : Kept S a b) (k : Kept S b c) : Kept S a c :=
 ⟨k.os.trans h.os, k.tape.trans h.tape, k.output.trans h.output, Nat.le_trans h.size k.size, fun i hi hs => (k.block i (Nat.lt_of_lt_of_le hi h.size) hs).trans (h.block i hi hs)⟩
theorem Kept.trans' (h : Kept S a b) (k : Kept S' b c) (hs : ∀ i, S' i → S i ∨ a.heap.size ≤ i) : Kept S a c :=
 ⟨k.os.trans h.os, k.tape.trans h.tape, k.output.trans h.output, Nat.le_trans h.size k.size, fun i hi hn => (k.block i (Nat.lt_of_lt_of_le hi h.size) (fun h2 => by
  rcases hs i h2 with h3 | h3
  ·exact hn h3
  ·omega)).trans (h.block i hi hn)⟩
theorem Kept.mono (h : Kept S w w') (hs : ∀ k, S k → S' k ∨ w.heap.size ≤ k) : Kept S' w w' := ⟨h.os, h.tape, h.output, h.size, fun k hk hn => h.block k hk fun h1 => by
  rcases hs k h1 with h3 | h3
  ·exact hn h3
  ·omega⟩
theorem Kept.of_below (h : Below w.heap.size w w') : Kept S w w' := ⟨h.os, h.tape, h.output, h.size, fun k hk _ => h.block k hk⟩
theorem Kept.below {B : Nat} (h : Kept S w w') (hB : B ≤ w.heap.size) (hs : ∀ k, S k → B ≤ k) : Below B w w' := ⟨h.os, h.tape, h.output, h.size, fun k hk => h.block k (by omega) (fun h1 => by have := hs k h1; omega)⟩
theorem Kept.setCell (h : Kept S a w) (p : Addr) (u : Value) (hp : S p.block ∨ a.heap.size ≤ p.block) : Kept S a (w.setCell p u) :=
 ⟨h.os, h.tape, h.output, by rw [show (w.setCell p u).heap.size = w.heap.size by simp [World.setCell]]; exact h.size, fun k hk hn => by
  rw [Below.heap_setCell _ _ _ _ (fun e => by
   rcases hp with h1 | h1
   ·exact hn (e ▸ h1)
   ·omega)]; exact h.block k hk hn⟩
theorem Kept.drewN (h : Kept S a w) (n : Nat) : Kept S a (w.drewN n) := ⟨h.os, h.tape, h.output, h.size, h.block⟩
theorem Kept.drew (h : Kept S a w) : Kept S a w.drew := ⟨h.os, h.tape, h.output, h.size, h.block⟩
theorem Kept.alloc (h : Kept S a w) (o : Obj) : Kept S a (w.alloc o) :=
 ⟨h.os, h.tape, h.output, by simp; exact Nat.le_succ_of_le h.size, fun k hk hn => by rw [Below.heap_alloc _ _ _ (Nat.lt_of_lt_of_le hk h.size)]; exact h.block k hk hn⟩
theorem Kept.cell (h : Kept S w w') {p : Addr} (hp : p.block < w.heap.size) (hs : ¬ S p.block) : w'.cell? p = w.cell? p := World.cell?_of_block (h.block p.block hp hs)
theorem Kept.frozen (h : Kept S w w') {p : Addr} (hp : p.block < w.heap.size) (hs : ¬ S p.block) : w'.frozen? p = w.frozen? p := World.frozen?_of_block (h.block p.block hp hs)
theorem Kept.heap (h : Kept S w w') {k : Nat} {o : Obj} (hk : w.heap[k]? = some o) (hs : ¬ S k) : w'.heap[k]? = some o := (h.block k (Array.getElem?_eq_some_iff.1 hk).1 hs).trans hk
end
end Go.Proofs.YtjldamkmdkaiiaaGreatDoor
set_option maxRecDepth 8000
namespace Go.Proofs.YtjldamkmdkaiiaaGreatDoor
open Go.RowKit Go.WideShapes
section
variable {S S' : Nat → Prop} {a b c w w' : World}
def Off (S : Nat → Prop) (A : Option Addr) (l : List Nat) : Prop := ∀ a, A = some a → 0 < l.length → ¬ S a.block
theorem ByAt.kept {A : Option Addr} {l : List Nat} (h : ByAt w A l) (hk : Kept S w w') (ho : Off S A l) : ByAt w' A l := fun k x hx => by
 obtain ⟨h1, g, off, h2, h3, h4⟩ := h k x hx
 have hl : 0 < l.length := by have := (List.getElem?_eq_some_iff.1 hx).1; omega
 exact ⟨h1, g, off, h2, Nat.lt_of_lt_of_le h3 hk.size, (hk.cell (p := ⟨g, off + k, none⟩) h3 (ho ⟨g, off, none⟩ h2 hl)).trans h4⟩
end
structure RdA (w : World) (g : Nat) (A : Option Addr) (C : Nat) (q : List Nat) : Prop where
 row : w.heap[g]? = some (.cells #[.slice A q.length C, .bool true, .bool false] 160 (0, 0))
 cap : q.length ≤ C
 cap' : C ≤ maxLen
 bytes : ByAt w A q
 low : ∀ a, A = some a → 0 < q.length → a.block < g
def Rd (w : World) (g : Nat) (q : List Nat) : Prop := ∃ A C, RdA w g A C q
def Gone (w : World) (g : Nat) : Prop := ∃ x y z, w.heap[g]? = some (.cells #[x, .bool y, .bool z] 160 (0, 0))
def gu (g : Nat) : PanicEntry := { v := .iface 181 (.agg #[.pointer (some ⟨g, 0, none⟩)]), recovered := false }
abbrev Only (g : Nat) : Nat → Prop := fun k => k = g
section
variable {w w' : World} {g C : Nat} {A : Option Addr} {q : List Nat}
theorem RdA.lt (h : RdA w g A C q) : g < w.heap.size := (Array.getElem?_eq_some_iff.1 h.row).1
theorem RdA.c0 (h : RdA w g A C q) : w.cell? ⟨g, 0, none⟩ = some (.slice A q.length C) := by rw [cell_of_row _ _ _ _ _ _ h.row]; rfl
theorem RdA.c1 (h : RdA w g A C q) : w.cell? ⟨g, 1, none⟩ = some (.bool true) := by rw [cell_of_row _ _ _ _ _ _ h.row]; rfl
theorem RdA.c2 (h : RdA w g A C q) : w.cell? ⟨g, 2, none⟩ = some (.bool false) := by rw [cell_of_row _ _ _ _ _ _ h.row]; rfl
theorem RdA.fr (h : RdA w g A C q) (i : Nat) : w.frozen? ⟨g, i, none⟩ = false := row_frozen h.row i
theorem RdA.off (h : RdA w g A C q) : Off (Only g) A q := fun a ha hl hs => by
 obtain ⟨b, off, e, hb, hc⟩ := h.bytes.spot hl
 rw [e] at ha; injection ha with ha; subst ha
 have hc0 := hc 0 q[0] (List.getElem?_eq_getElem hl)
 have hs : b = g := hs
 subst hs
 rw [cell_of_row _ _ _ _ _ _ h.row] at hc0
 have hj : off + 0 < 3 := (Array.getElem?_eq_some_iff.1 hc0).1
 rcases (by omega : off + 0 = 0 ∨ off + 0 = 1 ∨ off + 0 = 2) with h1 | h1 | h1 <;> · rw [h1] at hc0; simp at hc0
theorem RdA.gone (h : RdA w g A C q) : Gone w g := ⟨_, _, _, h.row⟩
theorem Gone.set2 (h : Gone w g) (u : Bool) : Gone (w.setCell ⟨g, 2, none⟩ (.bool u)) g := by
 obtain ⟨x, y, z, h⟩ := h
 exact ⟨x, y, u, by rw [World.setCell]; simp [Array.getElem?_modify, h]⟩
theorem RdA.keep {S : Nat → Prop} (h : RdA w g A C q) (hk : Kept S w w') (hg : ¬ S g) (ho : Off S A q) : RdA w' g A C q :=
 ⟨hk.heap h.row hg, h.cap, h.cap', h.bytes.kept hk ho, h.low⟩
theorem RdA.drewN (h : RdA w g A C q) (n : Nat) : RdA (w.drewN n) g A C q := ⟨h.row, h.cap, h.cap', h.bytes.keep (below_drewN (Below.refl _ _) n), h.low⟩
theorem RdA.next (h : RdA w g A C q) {A' : Option Addr} {C' : Nat} {q' : List Nat} (h1 : q'.length ≤ C') (h2 : C' ≤ maxLen) (h3 : ByAt w A' q') (h4 : Off (Only g) A' q') (h5 : ∀ a, A' = some a → 0 < q'.length → a.block < g) : RdA (w.setCell ⟨g, 0, none⟩ (.slice A' q'.length C')) g A' C' q' :=
 ⟨by rw [World.setCell]; simp [Array.getElem?_modify, h.row], h1, h2, h3.kept ((Kept.refl (Only g) w).setCell _ _ (.inl rfl)) h4, h5⟩
end
set_option maxHeartbeats 400000 in
theorem mayRead_yes (g C : Nat) (A : Option Addr) (q : List Nat) (w : World) (H : Hid (RdA w g A C q)) :
  Calls Tryz.prog 145 #[.pointer (some ⟨g, 0, none⟩)] w fun e w' => e = .returned (.bool true) ∧ w = w' := by
 have c1 := H.out.c1
 go_enter Tryz.func145, Tryz.ntmps145
 go_wp2
 go_ret
 exact ⟨rfl, rfl⟩
set_option maxHeartbeats 400000 in
theorem check_true (p : Value) (w : World) :
  Calls Tryz.prog 121 #[p, .bool true] w fun e w' => e = .returned (.tuple #[]) ∧ w = w' := by
 go_enter Tryz.func121, Tryz.ntmps121
 go_wp2
 exact bodyPost_ret (results_none rfl _ _ _) rfl ⟨rfl, rfl⟩
set_option maxHeartbeats 400000 in
theorem check_false (g C : Nat) (A : Option Addr) (q : List Nat) (w : World) (H : Hid (RdA w g A C q)) :
  Calls Tryz.prog 121 #[.pointer (some ⟨g, 0, none⟩), .bool false] w fun e w' => e = .panicked [gu g] ∧ Gone w' g ∧ Kept (Only g) w w' := by
 have f2 := H.out.fr 2
 have c2 := H.out.c2
 go_enter Tryz.func121, Tryz.ntmps121
 go_wp2_with (go_at_call 145; refine (mayRead_yes g C A q _ H).mono ?_; rintro e w1 ⟨rfl, rfl⟩)
 exact ⟨rfl, rfl, H.out.gone.set2 true, (Kept.refl _ _).setCell _ _ (.inl rfl)⟩
def Yes (g : Nat) (w : World) (v : Value) (q : List Nat) (e : Ending) (w' : World) : Prop := e = .returned v ∧ Rd w' g q ∧ Kept (Only g) w w'
def No (g : Nat) (w : World) (e : Ending) (w' : World) : Prop := e = .panicked [gu g] ∧ Gone w' g ∧ Kept (Only g) w w'
def Took (g : Nat) (w : World) (n : Nat) (q : List Nat) (e : Ending) (w' : World) : Prop := ∃ A C, e = .returned (.slice A n C) ∧ n ≤ C ∧ C ≤ maxLen ∧ ByAt w A (q.take n) ∧ Off (Only g) A (q.take n) ∧ Rd w' g (q.drop n) ∧ Kept (Only g) w w' ∧ (∀ a, A = some a → 0 < (q.take n).length → a.block < g)
theorem RdA.next' {w : World} {g C : Nat} {A : Option Addr} {q : List Nat} (h : RdA w g A C q) {A' : Option Addr} {C' n : Nat} {q' : List Nat} (hn : n = q'.length) (h1 : n ≤ C') (h2 : C' ≤ maxLen) (h3 : ByAt w A' q') (h4 : Off (Only g) A' q') (h5 : ∀ a, A' = some a → 0 < q'.length → a.block < g) : RdA (w.setCell ⟨g, 0, none⟩ (.slice A' n C')) g A' C' q' := by
 subst hn; exact h.next h1 h2 h3 h4 h5
theorem byte_there {g x n : Nat} {w w' : World} {A : Option Addr} {q : List Nat} (h : ByAt w A ((x :: q).take (n + 1))) (ho : Off (Only g) A ((x :: q).take (n + 1))) (hk : Kept (Only g) w w') : ∃ b off, A = some ⟨b, off, none⟩ ∧ w'.cell? ⟨b, off, none⟩ = some (.int .u8 (x : Int)) ∧ b < w'.heap.size := by
 obtain ⟨-, b, off, e, hb, hc⟩ := h 0 x (by simp)
 exact ⟨b, off, e, (hk.cell (p := ⟨b, off + 0, none⟩) hb (ho _ e (by simp))).trans hc, Nat.lt_of_lt_of_le hb hk.size⟩
theorem Off.of {g : Nat} {w : World} {A C} {q : List Nat} (h : RdA w g A C q) {A' : Option Addr} {q' : List Nat} (h' : ByAt w A' q') : Off (Only g) A' q' := fun a ha hl hs => by
 obtain ⟨b, off, e, hb, hc⟩ := h'.spot hl
 rw [e] at ha; injection ha with ha; subst ha
 have hc0 := hc 0 q'[0] (List.getElem?_eq_getElem hl)
 have hs : b = g := hs
 subst hs
 rw [cell_of_row _ _ _ _ _ _ h.row] at hc0
 have hj : off + 0 < 3 := (Array.getElem?_eq_some_iff.1 hc0).1
 rcases (by omega : off + 0 = 0 ∨ off + 0 = 1 ∨ off + 0 = 2) with h1 | h1 | h1 <;> · rw [h1] at hc0; simp at hc0
theorem add_block (d : Addr) (k : Nat) : (d.add k).block = d.block := by
 unfold Addr.add; split <;> rfl
theorem cut_fromU (a : Option Addr) (len cap k : Nat) (hk : k ≤ len) (hc : len ≤ cap) :
  ∃ A C, (∀ w, (Instr.slice 32 (.slice a len cap) (some (.int .u64 (k : Int))) none none).run Tryz.prog w = .ok (.slice A (len - k) C) w) ∧ len - k ≤ C ∧ C ≤ cap ∧ (∀ w l, len = l.length → ByAt w a l → ByAt w A (l.drop k)) ∧ ∀ c, A = some c → ∃ d, a = some d ∧ c.block = d.block := by
 refine ⟨if cap = k then a else a.map (·.add k), cap - k, fun w => ?_, by omega, by omega, fun w l hl h j x hx => ?_, fun c hc' => ?_⟩
 ·rw [run_slice_l w 32 a len cap Tryz.underlying32 .u64 (k : Int) (by omega) (by omega)]
  rw [show (Go.sizeOf (Tryz.prog.elem 32)).run Tryz.prog w = .ok 1 w from by kernel_rfl]
  simp [Result.andThen, sliced]
 ·rw [List.getElem?_drop] at hx
  obtain ⟨h1, g, off, rfl, hg, hcell⟩ := h _ _ hx
  have hkl := (List.getElem?_eq_some_iff.1 hx).1
  rw [if_neg (by omega)]
  exact ⟨h1, g, off + k, by simp [addr_add], hg, by rw [Nat.add_assoc]; exact hcell⟩
 ·split at hc'
  ·exact ⟨c, hc', rfl⟩
  ·rcases a with _ | d
   ·cases hc'
   ·injection hc' with hc'; subst hc'; exact ⟨d, rfl, add_block d _⟩
theorem cut_toU (a : Option Addr) (len cap k : Nat) (hk : k ≤ len) (hc : len ≤ cap) :
  ∃ A, (∀ w, (Instr.slice 32 (.slice a len cap) none (some (.int .u64 (k : Int))) none).run Tryz.prog w = .ok (.slice A k cap) w) ∧ (∀ w l, len = l.length → ByAt w a l → ByAt w A (l.take k)) ∧ ∀ c, A = some c → ∃ d, a = some d ∧ c.block = d.block := by
 refine ⟨if cap = 0 then a else a.map (·.add 0), fun w => ?_, fun w l hl h j x hx => ?_, fun c hc' => ?_⟩
 ·rw [run_slice_h w 32 a len cap Tryz.underlying32 .u64 (k : Int) (by omega) (by omega)]
  rw [show (Go.sizeOf (Tryz.prog.elem 32)).run Tryz.prog w = .ok 1 w from by kernel_rfl]
  simp [Result.andThen, sliced]
 ·rw [List.getElem?_take] at hx
  split at hx
  ·obtain ⟨h1, g, off, rfl, hg, hcell⟩ := h _ _ hx
   exact ⟨h1, g, off, by simp [addr_add], hg, hcell⟩
  ·cases hx
 ·split at hc'
  ·exact ⟨c, hc', rfl⟩
  ·rcases a with _ | d
   ·cases hc'
   ·injection hc' with hc'; subst hc'; exact ⟨d, rfl, add_block d _⟩
set_option maxHeartbeats 1000000 in
theorem take_yes (g C : Nat) (A : Option Addr) (q : List Nat) (n L : Nat) (HL : Hid (L = q.length)) (hn : n ≤ L) (w : World) (H : Hid (RdA w g A C q)) :
  Calls Tryz.prog 169 #[.pointer (some ⟨g, 0, none⟩), .int .u64 (n : Int)] w (Took g w n q) := by
 have c0 := H.out.c0
 have f0 := H.out.fr 0
 have hC := H.out.cap
 have hC' := H.out.cap'
 rw [← HL.out] at c0 hC
 have hC' : C ≤ 9223372036854775807 := hC'
 obtain ⟨A1, r1, d1, e1⟩ := cut_toU A L C n hn hC
 obtain ⟨A2, C2, r2, d2, d3, d4, e2⟩ := cut_fromU A L C n hn hC
 have E1 : Hid (∀ a, A1 = some a → 0 < (q.take n).length → a.block < g) := Lib.hid fun a ha h0 => by
  obtain ⟨d, hd, e⟩ := e1 a ha
  rw [e]; exact H.out.low d hd (by rw [List.length_take] at h0; omega)
 have E2 : Hid (∀ a, A2 = some a → 0 < (q.drop n).length → a.block < g) := Lib.hid fun a ha h0 => by
  obtain ⟨d, hd, e⟩ := e2 a ha
  rw [e]; exact H.out.low d hd (by rw [List.length_drop] at h0; omega)
 have D1 := Lib.hid (d1 w q HL.out H.out.bytes)
 have D4 := Lib.hid (d4 w q HL.out H.out.bytes)
 clear d1 d4 e1 e2
 go_enter Tryz.func169, Tryz.ntmps169
 go_wp2_with (go_at_call 121; refine (check_true _ _).mono ?_; rintro e w1 ⟨rfl, rfl⟩)
 go_ret
 exact ⟨A1, C, rfl, by omega, H.out.cap', D1.out, Off.of H.out D1.out, ⟨A2, C2, H.out.next' (by rw [List.length_drop, HL.out]) d2 (Nat.le_trans d3 H.out.cap') D4.out (Off.of H.out D4.out) E2.out⟩, (Kept.refl _ _).setCell _ _ (.inl rfl), E1.out⟩
set_option maxHeartbeats 1000000 in
theorem take_no (g C : Nat) (A : Option Addr) (q : List Nat) (n L : Nat) (HL : Hid (L = q.length)) (hn : L < n) (w : World) (H : Hid (RdA w g A C q)) :
  Calls Tryz.prog 169 #[.pointer (some ⟨g, 0, none⟩), .int .u64 (n : Int)] w (No g w) := by
 have c0 := H.out.c0
 have hC := H.out.cap
 have hC' := H.out.cap'
 rw [← HL.out] at c0 hC
 have hC' : C ≤ 9223372036854775807 := hC'
 have hd : ¬ n ≤ L := by omega
 have hd2 : decide (n ≤ L) = false := by simpa using hn
 go_enter Tryz.func169, Tryz.ntmps169
 go_wp2_with (go_at_call 121; (with_reducible refine (check_false g C A q _ H).mono ?_); rintro e w1 ⟨rfl, h1, h2⟩)
 exact ⟨rfl, rfl, h1, h2⟩
set_option maxHeartbeats 1000000 in
theorem byte_yes (g : Nat) (x : Nat) (q : List Nat) (w : World) (H : Hid (Rd w g (x :: q))) :
  Calls Tryz.prog 172 #[.pointer (some ⟨g, 0, none⟩)] w (Yes g w (.int .u8 (x : Int)) q) := by
 obtain ⟨A, C, h⟩ := H.out
 have h := Lib.hid h
 go_enter Tryz.func172, Tryz.ntmps172
 go_wp2_with (first
  | (go_at_call 145; refine (mayRead_yes g C A _ _ h).mono ?_; rintro e w1 ⟨rfl, rfl⟩)
  | (go_at_call 169; refine (take_yes g C A (x :: q) 1 (q.length + 1) (Lib.hid (List.length_cons ..).symm) (by omega) _ h).mono ?_; rintro e w1 ⟨A1, C1, rfl, a1, a2, a3, a4, a5, a6, a7⟩; clear a7; obtain ⟨b1, b2, b3, b4, b5⟩ := byte_there (n := 0) a3 a4 a6; subst b3; clear a3 a4 b5; have a5 := Lib.hid a5; have a6 := Lib.hid a6))
 go_ret
 exact ⟨rfl, a5.out, a6.out⟩
set_option maxHeartbeats 1000000 in
theorem byte_no (g : Nat) (w : World) (H : Hid (Rd w g [])) :
  Calls Tryz.prog 172 #[.pointer (some ⟨g, 0, none⟩)] w (No g w) := by
 obtain ⟨A, C, h⟩ := H.out
 have h := Lib.hid h
 go_enter Tryz.func172, Tryz.ntmps172
 go_wp2_with (first
  | (go_at_call 145; refine (mayRead_yes g C A _ _ h).mono ?_; rintro e w1 ⟨rfl, rfl⟩)
  | (go_at_call 169; refine (take_no g C A [] 1 0 (Lib.hid rfl) (by omega) _ h).mono ?_; rintro e w1 ⟨rfl, h1, h2⟩))
 exact ⟨rfl, rfl, h1, h2⟩
end Go.Proofs.YtjldamkmdkaiiaaGreatDoor
namespace Go.Proofs.YtjldamkmdkaiiaaGreatDoor
open Go.RowKit Go.Sort
abbrev At1 (b : Nat) : Nat → Prop := fun k => k = b
section
variable {w w' : World} {B t rb lb n cr cl win : Nat} {L : Nat → Nat} {Rs : List (List Ev)}
theorem EvAt.keptE {S : Nat → Prop} {A : Option Addr} {l : List Ev} (h : EvAt w A l) (hk : Kept S w w') (hS : ∀ a, A = some a → 0 < l.length → ¬ S a.block) : EvAt w' A l := fun j v hv => by
 obtain ⟨g, off, h2, h3, h4⟩ := h j v hv
 have h0 : 0 < l.length := by
  have := (List.getElem?_eq_some_iff.1 hv).1
  rw [evs_length] at this; omega
 exact ⟨g, off, h2, Nat.lt_of_lt_of_le h3 hk.size, (hk.cell (p := ⟨g, off + j, none⟩) h3 (hS ⟨g, off, none⟩ h2 h0)).trans h4⟩
theorem TreeM.setL (h : TreeM w B t rb lb n cr cl win L Rs) (m v : Nat) (hm : m < n) : TreeM (w.setCell ⟨lb, m, none⟩ (.int .i64 (v : Int))) B t rb lb n cr cl win (upd L m v) Rs := by
 have hk : Kept (At1 lb) w (w.setCell ⟨lb, m, none⟩ (.int .i64 (v : Int))) := (Kept.refl _ _).setCell _ _ (.inl rfl)
 refine ⟨hk.heap h.row (fun e => h.tl e), h.rrow.set, h.lrow.set, fun j l hj => ?_, fun j hj => ?_, h.len, h.pos, h.few, h.small, h.caps, h.bt, h.br, h.bl, h.tr, h.tl, h.rl⟩
 ·obtain ⟨A, c, h1, h2, h3, h4, h5, h6⟩ := h.runs j l hj
  exact ⟨A, c, (hk.cell (p := ⟨rb, j, none⟩) h.rrow.lt (fun e => h.rl e)).trans h1, h2, h3, h4, h5.keptE hk (fun a ha h0 e => by have h7 := h6 a ha h0; have h8 := h.bl; have e : a.block = lb := e; omega), h6⟩
 ·by_cases e : j = m
  ·subst e
   obtain ⟨u, hu⟩ := h.lrow.get j hj
   rw [upd_at]; exact World.cell?_setCell_same _ _ _ hu
  ·rw [upd_ne _ _ e]
   exact (World.cell?_setCell_other _ _ _ _ (fun h => by injection h with h1 h2 h3; omega)).trans (h.los j hj)
end
def Dsc (m x : Nat) : Prop := ∃ k, m / 2 ^ k = x
theorem dsc_self (m : Nat) : Dsc m m := ⟨0, by simp⟩
theorem dsc_le {m x : Nat} (h : Dsc m x) : x ≤ m := by obtain ⟨k, rfl⟩ := h; exact Nat.div_le_self _ _
theorem dsc_cases {m x : Nat} (hx : 0 < x) : Dsc m x ↔ m = x ∨ Dsc m (2 * x) ∨ Dsc m (2 * x + 1) := by
 constructor
 ·rintro ⟨k, hk⟩
  rcases k with _ | k
  ·left; simpa using hk
  ·right
   rw [half_pow] at hk
   rcases (show m / 2 ^ k = 2 * x ∨ m / 2 ^ k = 2 * x + 1 by omega) with h | h
   ·exact .inl ⟨k, h⟩
   ·exact .inr ⟨k, h⟩
 ·rintro (rfl | ⟨k, hk⟩ | ⟨k, hk⟩)
  ·exact dsc_self _
  ·exact ⟨k + 1, by rw [half_pow, hk]; omega⟩
  ·exact ⟨k + 1, by rw [half_pow, hk]; omega⟩
def Played (B t rb lb n cr cl win : Nat) (L : Nat → Nat) (Rs : List (List Ev)) (node : Nat) (w : World) (e : Ending) (w' : World) : Prop :=
 e = .returned (.int .i64 (vw ltM (rsF Rs) n node : Nat)) ∧ ∃ L', TreeM w' B t rb lb n cr cl win L' Rs ∧ Kept (At1 lb) w w' ∧ (∀ m, 0 < m → m < n → Dsc m node → L' m = lz ltM (rsF Rs) n m) ∧ (∀ m, ¬ Dsc m node → L' m = L m)
set_option maxHeartbeats 4000000 in
theorem play_any (B t rb lb n cr cl win : Nat) (Rs : List (List Ev)) : ∀ (d node : Nat) (L : Nat → Nat) (w : World), 2 * n - node ≤ d → 0 < node → node < 2 * n → Hid (TreeM w B t rb lb n cr cl win L Rs) →
  Calls Tryz.prog 110 #[.pointer (some ⟨t, 0, none⟩), .int .i64 (node : Int)] w (Played B t rb lb n cr cl win L Rs node w) := by
 intro d
 induction d with
 | zero => intro node L w h1 h2 h3; omega
 | succ d ih =>
  intro node L w hd h0 hn HT
  have c0 := HT.out.c0
  have hcr := HT.out.caps.1
  have hcr2 := HT.out.caps.2.1
  have hn16 := HT.out.few
  unfold maxLen at hcr2
  by_cases hlf : n ≤ node
  ·obtain ⟨v, hv⟩ : ∃ v, v = node - n := ⟨_, rfl⟩
   have hvi : (node : Int) - (n : Int) = (v : Int) := by omega
   have HV : Hid (vw ltM (rsF Rs) n node = v) := Lib.hid (by rw [vw_leaf hlf, hv])
   clear hv
   go_enter Tryz.func110, Tryz.ntmps110
   go_wp2
   go_ret
   refine ⟨by rw [HV.out]; rfl, L, HT.out, Kept.refl _ _, fun m h1 h2 h3 => ?_, fun m _ => rfl⟩
   have := dsc_le h3; omega
  ·have hlt : node < n := by omega
   obtain ⟨a, ha⟩ : ∃ a, a = 2 * node := ⟨_, rfl⟩
   obtain ⟨b, hb⟩ : ∃ b, b = 2 * node + 1 := ⟨_, rfl⟩
   have hai : 2 * (node : Int) = (a : Int) := by omega
   have hbi : (a : Int) + 1 = (b : Int) := by omega
   have HA := Lib.hid ha; have HB := Lib.hid hb
   have HPA := Lib.hid (ih a L w (by omega) (by omega) (by omega) HT)
   have HPB := Lib.hid fun L2 w2 h => ih b L2 w2 (by omega) (by omega) (by omega) h
   obtain ⟨x, hx⟩ : ∃ x, x = vw ltM (rsF Rs) n a := ⟨_, rfl⟩
   obtain ⟨y, hy⟩ : ∃ y, y = vw ltM (rsF Rs) n b := ⟨_, rfl⟩
   have hxn : x < n := by rw [hx]; exact vw_lt wkE (by omega) (by omega)
   have hyn : y < n := by rw [hy]; exact vw_lt wkE (by omega) (by omega)
   have HX := Lib.hid hx; have HY := Lib.hid hy
   obtain ⟨yx, hyx⟩ : ∃ yx, ah ltM (rsF Rs) y x = yx := ⟨_, rfl⟩
   have HYX := Lib.hid hyx
   have HVW : Hid (vw ltM (rsF Rs) n node = if yx = true then y else x) := Lib.hid (by rw [vw_node hlt h0, ← hb, ← ha, ← hx, ← hy, hyx])
   have HLZ : Hid (lz ltM (rsF Rs) n node = if yx = true then x else y) := Lib.hid (by unfold lz; rw [← hb, ← ha, ← hx, ← hy, hyx])
   have hni : (node : Int) < (n : Int) := by omega
   have hbb : b ≤ 32 := by omega
   clear hx hy hyx ha hb ih
   go_enter Tryz.func110, Tryz.ntmps110
   go_upto_region 4 with (first
    | (go_at_call 110; (with_reducible refine (HPA.out).mono ?_); rintro e w2 ⟨rfl, L2, h1, h2, h3, h4⟩; have HT2 := Lib.hid h1; have HK2 := Lib.hid h2; have H3 := Lib.hid h3; have H4 := Lib.hid h4; clear h1 h2 h3 h4; rw [← HX.out])
    | (go_at_call 110; (refine (HPB.out _ _ HT2).mono ?_); rintro e w3 ⟨rfl, L3, h1, h2, h3, h4⟩; have HT3 := Lib.hid h1; have HK3 := Lib.hid h2; have H5 := Lib.hid h3; have H6 := Lib.hid h4; clear h1 h2 h3 h4; rw [← HY.out]))
   have HAH := Lib.hid (ahead_any B t rb lb n cr cl win L3 Rs y x hyn hxn w3 HT3)
   rw [HYX.out] at HAH
   have HK23 := Lib.hid (HK2.out.trans HK3.out)
   -- what the losers are behind both
   have HL3 : Hid (∀ m, 0 < m → m < n → (Dsc m a ∨ Dsc m b) → L3 m = lz ltM (rsF Rs) n m) := Lib.hid fun m h1 h2 h3 => by
    by_cases h4 : Dsc m b
    ·exact H5.out m h1 h2 h4
    ·rw [H6.out m h4]
     rcases h3 with h3 | h3
     ·exact H3.out m h1 h2 h3
     ·exact (h4 h3).elim
   have HL3' : Hid (∀ m, ¬ Dsc m a → ¬ Dsc m b → L3 m = L m) := Lib.hid fun m h1 h2 => by rw [H6.out m h2, H4.out m h1]
   have HFIN : Hid (∀ (w9 : World) (v : Nat), lz ltM (rsF Rs) n node = v → TreeM w9 B t rb lb n cr cl win (upd L3 node v) Rs → Kept (At1 lb) w w9 →
     ∃ L', TreeM w9 B t rb lb n cr cl win L' Rs ∧ Kept (At1 lb) w w9 ∧ (∀ m, 0 < m → m < n → Dsc m node → L' m = lz ltM (rsF Rs) n m) ∧ (∀ m, ¬ Dsc m node → L' m = L m)) := Lib.hid fun w9 v hv h1 h2 => by
    refine ⟨upd L3 node v, h1, h2, fun m g1 g2 g3 => ?_, fun m g1 => ?_⟩
    ·by_cases e : m = node
     ·subst e; rw [upd_at, hv]
     ·rw [upd_ne _ _ e]
      rcases (dsc_cases h0).1 g3 with g4 | g4 | g4
      ·exact (e g4).elim
      ·exact HL3.out m g1 g2 (.inl (by rw [HA.out]; exact g4))
      ·exact HL3.out m g1 g2 (.inr (by rw [HB.out]; exact g4))
    ·have e : m ≠ node := fun e => g1 (e ▸ dsc_self _)
     rw [upd_ne _ _ e]
     exact HL3'.out m (fun g => g1 ((dsc_cases h0).2 (.inr (.inl (by rw [← HA.out]; exact g))))) (fun g => g1 ((dsc_cases h0).2 (.inr (.inr (by rw [← HB.out]; exact g)))))
   clear HPA HPB H3 H4 H5 H6 HL3 HL3' HT2 HK2 HK3 c0
   cases yx
   ·go_wp2_with (go_at_call 137; (with_reducible refine (HAH.out).mono ?_); rintro e w4 ⟨rfl, hb4⟩; have HT4 := Lib.hid (HT3.out.below hb4); have HK4 := Lib.hid (HK23.out.trans (Kept.of_below hb4)); have c2 := HT4.out.c2; have fl := HT4.out.lrow.fr node; obtain ⟨u4, cl4⟩ := HT4.out.lrow.get node (by omega); have hcl := HT4.out.caps.2.2.1; clear hb4)
    go_ret
    exact ⟨by rw [HVW.out]; rfl, HFIN.out _ y HLZ.out (HT4.out.setL node y (by omega)) (HK4.out.setCell _ _ (.inl rfl))⟩
   ·go_wp2_with (go_at_call 137; (with_reducible refine (HAH.out).mono ?_); rintro e w4 ⟨rfl, hb4⟩; have HT4 := Lib.hid (HT3.out.below hb4); have HK4 := Lib.hid (HK23.out.trans (Kept.of_below hb4)); have c2 := HT4.out.c2; have fl := HT4.out.lrow.fr node; obtain ⟨u4, cl4⟩ := HT4.out.lrow.get node (by omega); have hcl := HT4.out.caps.2.2.1; clear hb4)
    go_ret
    exact ⟨by rw [HVW.out]; rfl, HFIN.out _ x HLZ.out (HT4.out.setL node x (by omega)) (HK4.out.setCell _ _ (.inl rfl))⟩
end Go.Proofs.YtjldamkmdkaiiaaGreatDoor
