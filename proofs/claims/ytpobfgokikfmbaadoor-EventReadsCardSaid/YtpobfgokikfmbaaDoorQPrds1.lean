/-
  Layer column: the reader: its row, mayRead, Check, take, Byte.
-/
import Derived.Recover
import Derived.Test.YtpobfgokikfmbaaDoorQPrds0
import Derived.LaidEqlPtr
import Derived.Defers
import Derived.Deep.RegionHeld3
import Derived.Deep.DeepCutAuto
import Derived.Deep.MidRow
import Derived.Deep.Draws
import Derived.StillTailTactics
set_option linter.unusedSimpArgs false
set_option linter.unusedVariables false
set_option maxRecDepth 8000
namespace Go.Proofs.YtpobfgokikfmbaaDoor
open Go.RowKit Go.WideShapes

section
variable {S S' : Nat → Prop} {a b c w w' : World}
/-- Bytes that don't lie in what is written. -/
def Off (S : Nat → Prop) (A : Option Addr) (l : List Nat) : Prop := ∀ a, A = some a → 0 < l.length → ¬ S a.block
theorem ByAt.kept {A : Option Addr} {l : List Nat} (h : ByAt w A l) (hk : Kept S w w') (ho : Off S A l) : ByAt w' A l := fun k x hx => by
  obtain ⟨h1, g, off, h2, h3, h4⟩ := h k x hx
  have hl : 0 < l.length := by have := (List.getElem?_eq_some_iff.1 hx).1; omega
  exact ⟨h1, g, off, h2, Nat.lt_of_lt_of_le h3 hk.size, (hk.cell (p := ⟨g, off + k, none⟩) h3 (ho ⟨g, off, none⟩ h2 hl)).trans h4⟩
end

/-- A reader whose Try is under way: what is left of its bytes. -/
structure RdA (w : World) (g : Nat) (A : Option Addr) (C : Nat) (q : List Nat) : Prop where
  row : w.heap[g]? = some (.cells #[.slice A q.length C, .bool true, .bool false] 66 (0, 0))
  cap : q.length ≤ C
  cap' : C ≤ maxLen
  bytes : ByAt w A q
  low : ∀ a, A = some a → 0 < q.length → a.block < g
def Rd (w : World) (g : Nat) (q : List Nat) : Prop := ∃ A C, RdA w g A C q
/-- A reader that gave up. -/
def Gone (w : World) (g : Nat) : Prop := ∃ x y z, w.heap[g]? = some (.cells #[x, .bool y, .bool z] 66 (0, 0))
def gu (g : Nat) : PanicEntry := { v := .iface 90 (.agg #[.pointer (some ⟨g, 0, none⟩)]), recovered := false }
abbrev Only (g : Nat) : Nat → Prop := fun k => k = g

section
variable {w w' : World} {g C : Nat} {A : Option Addr} {q : List Nat}
theorem RdA.lt (h : RdA w g A C q) : g < w.heap.size := (Array.getElem?_eq_some_iff.1 h.row).1
theorem RdA.c0 (h : RdA w g A C q) : w.cell? ⟨g, 0, none⟩ = some (.slice A q.length C) := by rw [cell_of_row _ _ _ _ _ _ h.row]; rfl
theorem RdA.c1 (h : RdA w g A C q) : w.cell? ⟨g, 1, none⟩ = some (.bool true) := by rw [cell_of_row _ _ _ _ _ _ h.row]; rfl
theorem RdA.c2 (h : RdA w g A C q) : w.cell? ⟨g, 2, none⟩ = some (.bool false) := by rw [cell_of_row _ _ _ _ _ _ h.row]; rfl
theorem RdA.fr (h : RdA w g A C q) (i : Nat) : w.frozen? ⟨g, i, none⟩ = false := row_frozen h.row i
theorem RdA.off (h : RdA w g A C q) : Off (Only g) A q := fun a ha hl hs => by
  obtain ⟨b, off, e, hb, hc⟩ := h.bytes.spot hl
  rw [e] at ha; injection ha with ha; subst ha
  have hc0 := hc 0 q[0] (List.getElem?_eq_getElem hl)
  have hs : b = g := hs
  subst hs
  rw [cell_of_row _ _ _ _ _ _ h.row] at hc0
  have hj : off + 0 < 3 := (Array.getElem?_eq_some_iff.1 hc0).1
  rcases (by omega : off + 0 = 0 ∨ off + 0 = 1 ∨ off + 0 = 2) with h1 | h1 | h1 <;> · rw [h1] at hc0; simp at hc0
theorem RdA.gone (h : RdA w g A C q) : Gone w g := ⟨_, _, _, h.row⟩
theorem Gone.set2 (h : Gone w g) (u : Bool) : Gone (w.setCell ⟨g, 2, none⟩ (.bool u)) g := by
  obtain ⟨x, y, z, h⟩ := h
  exact ⟨x, y, u, by rw [World.setCell]; simp [Array.getElem?_modify, h]⟩
theorem RdA.keep {S : Nat → Prop} (h : RdA w g A C q) (hk : Kept S w w') (hg : ¬ S g) (ho : Off S A q) : RdA w' g A C q :=
  ⟨hk.heap h.row hg, h.cap, h.cap', h.bytes.kept hk ho, h.low⟩
theorem RdA.drewN (h : RdA w g A C q) (n : Nat) : RdA (w.drewN n) g A C q := ⟨h.row, h.cap, h.cap', h.bytes.keep (below_drewN (Below.refl _ _) n), h.low⟩
/-- The reader goes on. -/
theorem RdA.next (h : RdA w g A C q) {A' : Option Addr} {C' : Nat} {q' : List Nat} (h1 : q'.length ≤ C') (h2 : C' ≤ maxLen) (h3 : ByAt w A' q') (h4 : Off (Only g) A' q') (h5 : ∀ a, A' = some a → 0 < q'.length → a.block < g) : RdA (w.setCell ⟨g, 0, none⟩ (.slice A' q'.length C')) g A' C' q' :=
  ⟨by rw [World.setCell]; simp [Array.getElem?_modify, h.row], h1, h2, h3.kept ((Kept.refl (Only g) w).setCell _ _ (.inl rfl)) h4, h5⟩
end

set_option maxHeartbeats 400000 in
theorem mayRead_yes (g C : Nat) (A : Option Addr) (q : List Nat) (w : World) (H : Hid (RdA w g A C q)) :
    Calls Tryd.prog 55 #[.pointer (some ⟨g, 0, none⟩)] w fun e w' => e = .returned (.bool true) ∧ w = w' := by
  have c1 := H.out.c1
  go_enter Tryd.func55, Tryd.ntmps55
  go_wp2
  go_ret
  exact ⟨rfl, rfl⟩
set_option maxHeartbeats 400000 in
theorem check_true (p : Value) (w : World) :
    Calls Tryd.prog 34 #[p, .bool true] w fun e w' => e = .returned (.tuple #[]) ∧ w = w' := by
  go_enter Tryd.func34, Tryd.ntmps34
  go_wp2
  exact bodyPost_ret (results_none rfl _ _ _) rfl ⟨rfl, rfl⟩
set_option maxHeartbeats 400000 in
theorem check_false (g C : Nat) (A : Option Addr) (q : List Nat) (w : World) (H : Hid (RdA w g A C q)) :
    Calls Tryd.prog 34 #[.pointer (some ⟨g, 0, none⟩), .bool false] w fun e w' => e = .panicked [gu g] ∧ Gone w' g ∧ Kept (Only g) w w' := by
  have f2 := H.out.fr 2
  have c2 := H.out.c2
  go_enter Tryd.func34, Tryd.ntmps34
  go_wp2_with (go_at_call 55; refine (mayRead_yes g C A q _ H).mono ?_; rintro e w1 ⟨rfl, rfl⟩)
  exact ⟨rfl, rfl, H.out.gone.set2 true, (Kept.refl _ _).setCell _ _ (.inl rfl)⟩

/-- How a reading ends: with a value, and the rest; or by giving up. -/
def Yes (g : Nat) (w : World) (v : Value) (q : List Nat) (e : Ending) (w' : World) : Prop := e = .returned v ∧ Rd w' g q ∧ Kept (Only g) w w'
def No (g : Nat) (w : World) (e : Ending) (w' : World) : Prop := e = .panicked [gu g] ∧ Gone w' g ∧ Kept (Only g) w w'
/-- The next n bytes. -/
def Took (g : Nat) (w : World) (n : Nat) (q : List Nat) (e : Ending) (w' : World) : Prop := ∃ A C, e = .returned (.slice A n C) ∧ n ≤ C ∧ C ≤ maxLen ∧ ByAt w A (q.take n) ∧ Off (Only g) A (q.take n) ∧ Rd w' g (q.drop n) ∧ Kept (Only g) w w' ∧ (∀ a, A = some a → 0 < (q.take n).length → a.block < g)

theorem RdA.next' {w : World} {g C : Nat} {A : Option Addr} {q : List Nat} (h : RdA w g A C q) {A' : Option Addr} {C' n : Nat} {q' : List Nat} (hn : n = q'.length) (h1 : n ≤ C') (h2 : C' ≤ maxLen) (h3 : ByAt w A' q') (h4 : Off (Only g) A' q') (h5 : ∀ a, A' = some a → 0 < q'.length → a.block < g) : RdA (w.setCell ⟨g, 0, none⟩ (.slice A' n C')) g A' C' q' := by
  subst hn; exact h.next h1 h2 h3 h4 h5
theorem byte_there {g x n : Nat} {w w' : World} {A : Option Addr} {q : List Nat} (h : ByAt w A ((x :: q).take (n + 1))) (ho : Off (Only g) A ((x :: q).take (n + 1))) (hk : Kept (Only g) w w') : ∃ b off, A = some ⟨b, off, none⟩ ∧ w'.cell? ⟨b, off, none⟩ = some (.int .u8 (x : Int)) ∧ b < w'.heap.size := by
  obtain ⟨-, b, off, e, hb, hc⟩ := h 0 x (by simp)
  exact ⟨b, off, e, (hk.cell (p := ⟨b, off + 0, none⟩) hb (ho _ e (by simp))).trans hc, Nat.lt_of_lt_of_le hb hk.size⟩
theorem Off.of {g : Nat} {w : World} {A C} {q : List Nat} (h : RdA w g A C q) {A' : Option Addr} {q' : List Nat} (h' : ByAt w A' q') : Off (Only g) A' q' := fun a ha hl hs => by
  obtain ⟨b, off, e, hb, hc⟩ := h'.spot hl
  rw [e] at ha; injection ha with ha; subst ha
  have hc0 := hc 0 q'[0] (List.getElem?_eq_getElem hl)
  have hs : b = g := hs
  subst hs
  rw [cell_of_row _ _ _ _ _ _ h.row] at hc0
  have hj : off + 0 < 3 := (Array.getElem?_eq_some_iff.1 hc0).1
  rcases (by omega : off + 0 = 0 ∨ off + 0 = 1 ∨ off + 0 = 2) with h1 | h1 | h1 <;> · rw [h1] at hc0; simp at hc0

theorem add_block (d : Addr) (k : Nat) : (d.add k).block = d.block := by
  unfold Addr.add; split <;> rfl
theorem cut_fromU (a : Option Addr) (len cap k : Nat) (hk : k ≤ len) (hc : len ≤ cap) :
    ∃ A C, (∀ w, (Instr.slice 22 (.slice a len cap) (some (.int .u64 (k : Int))) none none).run Tryd.prog w = .ok (.slice A (len - k) C) w) ∧ len - k ≤ C ∧ C ≤ cap ∧ (∀ w l, len = l.length → ByAt w a l → ByAt w A (l.drop k)) ∧ ∀ c, A = some c → ∃ d, a = some d ∧ c.block = d.block := by
  refine ⟨if cap = k then a else a.map (·.add k), cap - k, fun w => ?_, by omega, by omega, fun w l hl h j x hx => ?_, fun c hc' => ?_⟩
  · rw [run_slice_l w 22 a len cap Tryd.underlying22 .u64 (k : Int) (by omega) (by omega)]
    rw [show (Go.sizeOf (Tryd.prog.elem 22)).run Tryd.prog w = .ok 1 w from by kernel_rfl]
    simp [Result.andThen, sliced]
  · rw [List.getElem?_drop] at hx
    obtain ⟨h1, g, off, rfl, hg, hcell⟩ := h _ _ hx
    have hkl := (List.getElem?_eq_some_iff.1 hx).1
    rw [if_neg (by omega)]
    exact ⟨h1, g, off + k, by simp [addr_add], hg, by rw [Nat.add_assoc]; exact hcell⟩
  · split at hc'
    · exact ⟨c, hc', rfl⟩
    · rcases a with _ | d
      · cases hc'
      · injection hc' with hc'; subst hc'; exact ⟨d, rfl, add_block d _⟩
theorem cut_toU (a : Option Addr) (len cap k : Nat) (hk : k ≤ len) (hc : len ≤ cap) :
    ∃ A, (∀ w, (Instr.slice 22 (.slice a len cap) none (some (.int .u64 (k : Int))) none).run Tryd.prog w = .ok (.slice A k cap) w) ∧ (∀ w l, len = l.length → ByAt w a l → ByAt w A (l.take k)) ∧ ∀ c, A = some c → ∃ d, a = some d ∧ c.block = d.block := by
  refine ⟨if cap = 0 then a else a.map (·.add 0), fun w => ?_, fun w l hl h j x hx => ?_, fun c hc' => ?_⟩
  · rw [run_slice_h w 22 a len cap Tryd.underlying22 .u64 (k : Int) (by omega) (by omega)]
    rw [show (Go.sizeOf (Tryd.prog.elem 22)).run Tryd.prog w = .ok 1 w from by kernel_rfl]
    simp [Result.andThen, sliced]
  · rw [List.getElem?_take] at hx
    split at hx
    · obtain ⟨h1, g, off, rfl, hg, hcell⟩ := h _ _ hx
      exact ⟨h1, g, off, by simp [addr_add], hg, hcell⟩
    · cases hx
  · split at hc'
    · exact ⟨c, hc', rfl⟩
    · rcases a with _ | d
      · cases hc'
      · injection hc' with hc'; subst hc'; exact ⟨d, rfl, add_block d _⟩
set_option maxHeartbeats 1000000 in
theorem take_yes (g C : Nat) (A : Option Addr) (q : List Nat) (n L : Nat) (HL : Hid (L = q.length)) (hn : n ≤ L) (w : World) (H : Hid (RdA w g A C q)) :
    Calls Tryd.prog 65 #[.pointer (some ⟨g, 0, none⟩), .int .u64 (n : Int)] w (Took g w n q) := by
  have c0 := H.out.c0
  have f0 := H.out.fr 0
  have hC := H.out.cap
  have hC' := H.out.cap'
  rw [← HL.out] at c0 hC
  have hC' : C ≤ 9223372036854775807 := hC'
  obtain ⟨A1, r1, d1, e1⟩ := cut_toU A L C n hn hC
  obtain ⟨A2, C2, r2, d2, d3, d4, e2⟩ := cut_fromU A L C n hn hC
  have E1 : Hid (∀ a, A1 = some a → 0 < (q.take n).length → a.block < g) := Lib.hid fun a ha h0 => by
    obtain ⟨d, hd, e⟩ := e1 a ha
    rw [e]; exact H.out.low d hd (by rw [List.length_take] at h0; omega)
  have E2 : Hid (∀ a, A2 = some a → 0 < (q.drop n).length → a.block < g) := Lib.hid fun a ha h0 => by
    obtain ⟨d, hd, e⟩ := e2 a ha
    rw [e]; exact H.out.low d hd (by rw [List.length_drop] at h0; omega)
  have D1 := Lib.hid (d1 w q HL.out H.out.bytes)
  have D4 := Lib.hid (d4 w q HL.out H.out.bytes)
  clear d1 d4 e1 e2
  go_enter Tryd.func65, Tryd.ntmps65
  go_wp2_with (go_at_call 34; refine (check_true _ _).mono ?_; rintro e w1 ⟨rfl, rfl⟩)
  go_ret
  exact ⟨A1, C, rfl, by omega, H.out.cap', D1.out, Off.of H.out D1.out, ⟨A2, C2, H.out.next' (by rw [List.length_drop, HL.out]) d2 (Nat.le_trans d3 H.out.cap') D4.out (Off.of H.out D4.out) E2.out⟩, (Kept.refl _ _).setCell _ _ (.inl rfl), E1.out⟩
set_option maxHeartbeats 1000000 in
theorem take_no (g C : Nat) (A : Option Addr) (q : List Nat) (n L : Nat) (HL : Hid (L = q.length)) (hn : L < n) (w : World) (H : Hid (RdA w g A C q)) :
    Calls Tryd.prog 65 #[.pointer (some ⟨g, 0, none⟩), .int .u64 (n : Int)] w (No g w) := by
  have c0 := H.out.c0
  have hC := H.out.cap
  have hC' := H.out.cap'
  rw [← HL.out] at c0 hC
  have hC' : C ≤ 9223372036854775807 := hC'
  have hd : ¬ n ≤ L := by omega
  have hd2 : decide (n ≤ L) = false := by simpa using hn
  go_enter Tryd.func65, Tryd.ntmps65
  go_wp2_with (go_at_call 34; (with_reducible refine (check_false g C A q _ H).mono ?_); rintro e w1 ⟨rfl, h1, h2⟩)
  exact ⟨rfl, rfl, h1, h2⟩
set_option maxHeartbeats 1000000 in
theorem byte_yes (g : Nat) (x : Nat) (q : List Nat) (w : World) (H : Hid (Rd w g (x :: q))) :
    Calls Tryd.prog 68 #[.pointer (some ⟨g, 0, none⟩)] w (Yes g w (.int .u8 (x : Int)) q) := by
  obtain ⟨A, C, h⟩ := H.out
  have h := Lib.hid h
  go_enter Tryd.func68, Tryd.ntmps68
  go_wp2_with (first
    | (go_at_call 55; refine (mayRead_yes g C A _ _ h).mono ?_; rintro e w1 ⟨rfl, rfl⟩)
    | (go_at_call 65; refine (take_yes g C A (x :: q) 1 (q.length + 1) (Lib.hid (List.length_cons ..).symm) (by omega) _ h).mono ?_; rintro e w1 ⟨A1, C1, rfl, a1, a2, a3, a4, a5, a6, a7⟩; clear a7; obtain ⟨b1, b2, b3, b4, b5⟩ := byte_there (n := 0) a3 a4 a6; subst b3; clear a3 a4 b5; have a5 := Lib.hid a5; have a6 := Lib.hid a6))
  go_ret
  exact ⟨rfl, a5.out, a6.out⟩
set_option maxHeartbeats 1000000 in
theorem byte_no (g : Nat) (w : World) (H : Hid (Rd w g [])) :
    Calls Tryd.prog 68 #[.pointer (some ⟨g, 0, none⟩)] w (No g w) := by
  obtain ⟨A, C, h⟩ := H.out
  have h := Lib.hid h
  go_enter Tryd.func68, Tryd.ntmps68
  go_wp2_with (first
    | (go_at_call 55; refine (mayRead_yes g C A _ _ h).mono ?_; rintro e w1 ⟨rfl, rfl⟩)
    | (go_at_call 65; refine (take_no g C A [] 1 0 (Lib.hid rfl) (by omega) _ h).mono ?_; rintro e w1 ⟨rfl, h1, h2⟩))
  exact ⟨rfl, rfl, h1, h2⟩
end Go.Proofs.YtpobfgokikfmbaaDoor

set_option linter.unusedSimpArgs false
set_option linter.unusedVariables false
namespace Go.Proofs.YtpobfgokikfmbaaDoor
namespace Col

/-- A number as bytes. -/
def ub (n : Nat) : List Nat := if h : n < 128 then [n] else (n % 128 + 128) :: ub (n / 128)
termination_by n
decreasing_by omega
theorem ub_lt {n : Nat} (h : n < 128) : ub n = [n] := by rw [ub, dif_pos h]
theorem ub_ge {n : Nat} (h : 128 ≤ n) : ub n = (n % 128 + 128) :: ub (n / 128) := by rw [ub, dif_neg (by omega)]
theorem ub_bytes (n : Nat) : ∀ x ∈ ub n, x < 256 := by
  induction n using Nat.strongRecOn with
  | ind n ih =>
    intro x hx
    by_cases h : n < 128
    · rw [ub_lt h] at hx; simp at hx; omega
    · rw [ub_ge (by omega)] at hx
      rcases List.mem_cons.1 hx with rfl | hx
      · omega
      · exact ih (n / 128) (by omega) x hx
theorem ub_pos (n : Nat) : 0 < (ub n).length := by
  by_cases h : n < 128
  · rw [ub_lt h]; simp
  · rw [ub_ge (by omega)]; simp
theorem ub_len (k : Nat) : ∀ n : Nat, n < 2 ^ (7 * (k + 1)) → (ub n).length ≤ k + 1 := by
  induction k with
  | zero => intro n h; rw [ub_lt (by simpa using h)]; simp
  | succ k ih =>
    intro n h
    by_cases h1 : n < 128
    · rw [ub_lt h1]; simp
    · rw [ub_ge (by omega), List.length_cons]
      have : n / 128 < 2 ^ (7 * (k + 1)) := by
        rw [Nat.div_lt_iff_lt_mul (by decide)]
        rw [show 7 * (k + 1 + 1) = 7 * (k + 1) + 7 by omega, Nat.pow_add] at h
        exact h
      have := ih _ this
      omega
/-- The next number of some bytes, from its k-th group on. -/
def grp : Nat → List Nat → Option (Nat × List Nat)
  | _, [] => none
  | k, b :: q => if 9 < k ∨ (k = 9 ∧ 1 < b) then none else if b < 128 then (if b = 0 ∧ 0 < k then none else some (b, q)) else (grp (k + 1) q).map fun p => (b % 128 + 128 * p.1, p.2)
theorem grp_big (k : Nat) (h : 9 < k) (q : List Nat) : grp k q = none := by
  cases q with
  | nil => rfl
  | cons b q => rw [grp, if_pos (.inl h)]
theorem grp_end {k b : Nat} {q : List Nat} (h : ¬ (9 < k ∨ (k = 9 ∧ 1 < b))) (hb : b < 128) (h0 : ¬ (b = 0 ∧ 0 < k)) : grp k (b :: q) = some (b, q) := by rw [grp, if_neg h, if_pos hb, if_neg h0]
theorem grp_zero {k : Nat} {q : List Nat} (h0 : 0 < k) : grp k (0 :: q) = none := by
  rw [grp]; split
  · rfl
  · rw [if_pos (by omega), if_pos ⟨rfl, h0⟩]
theorem grp_on {k b : Nat} {q : List Nat} (h : k ≤ 8) (hb : 128 ≤ b) : grp k (b :: q) = (grp (k + 1) q).map fun p => (b % 128 + 128 * p.1, p.2) := by rw [grp, if_neg (by omega), if_neg (by omega)]
/-- What was read of it goes ahead. -/
def plus (k acc : Nat) (o : Option (Nat × List Nat)) : Option (Nat × List Nat) := o.map fun p => (acc + 2 ^ (7 * k) * p.1, p.2)
theorem plus_zero (o : Option (Nat × List Nat)) : plus 0 0 o = o := by
  cases o with
  | none => rfl
  | some p => simp [plus]
theorem plus_on {k acc b : Nat} {q : List Nat} (h : k ≤ 8) (hb : 128 ≤ b) : plus k acc (grp k (b :: q)) = plus (k + 1) (acc + 2 ^ (7 * k) * (b % 128)) (grp (k + 1) q) := by
  rw [grp_on h hb]
  unfold plus
  rw [Option.map_map]
  congr 1
  funext p
  have : 2 ^ (7 * (k + 1)) = 2 ^ (7 * k) * 128 := by rw [show 7 * (k + 1) = 7 * k + 7 by omega, Nat.pow_add]
  show (acc + 2 ^ (7 * k) * (b % 128 + 128 * p.1), p.2) = (acc + 2 ^ (7 * k) * (b % 128) + 2 ^ (7 * (k + 1)) * p.1, p.2)
  rw [this, Nat.mul_add, Nat.mul_assoc, Nat.add_assoc]
/-- There and back. -/
theorem grp_ub (r : List Nat) (n : Nat) : ∀ k, (k ≤ 9 ∧ n < 2 ^ (64 - 7 * k)) → (0 < n ∨ k = 0) → grp k (ub n ++ r) = some (n, r) := by
  induction n using Nat.strongRecOn with
  | ind n ih =>
    intro k hk h0
    have h9 : k = 9 → n ≤ 1 := fun h => by have := hk.2; rw [h] at this; simp at this; omega
    by_cases h : n < 128
    · rw [ub_lt h]
      exact grp_end (by omega) h (by omega)
    · have hk8 : k ≤ 8 := by omega
      rw [ub_ge (by omega), List.cons_append, grp_on hk8 (by omega), ih (n / 128) (by omega) (k + 1) ⟨by omega, ?_⟩ (by omega)]
      · simp; omega
      · rw [Nat.div_lt_iff_lt_mul (by decide)]
        have := hk.2
        rw [show 64 - 7 * k = (64 - 7 * (k + 1)) + 7 by omega, Nat.pow_add] at this
        exact this
theorem grp_lt (q : List Nat) : ∀ k n r, grp k q = some (n, r) → (k ≤ 9 ∧ ((∀ x ∈ q, x < 256) → n < 2 ^ (64 - 7 * k)) ∧ ∃ m, 0 < m ∧ r = q.drop m ∧ m ≤ q.length) := by
  induction q with
  | nil => intro k n r h; cases h
  | cons b q ih =>
    intro k n r h
    rw [grp] at h
    split at h
    · cases h
    rename_i h1
    split at h
    · split at h
      · cases h
      · injection h with h; injection h with h2 h3; subst h2; subst h3
        refine ⟨by omega, fun _ => ?_, 1, by omega, rfl, by simp⟩
        by_cases h9 : k = 9
        · subst h9; simp; omega
        · have : 2 ^ 8 ≤ 2 ^ (64 - 7 * k) := Nat.pow_le_pow_right (by decide) (by omega)
          omega
    · rename_i h2
      rcases hg : grp (k + 1) q with _ | ⟨n', r'⟩
      · rw [hg] at h; cases h
      · rw [hg] at h
        simp only [Option.map_some, Option.some.injEq, Prod.mk.injEq] at h
        obtain ⟨i1, i2, m, i3, i4, i5⟩ := ih _ _ _ hg
        refine ⟨by omega, fun hx => ?_, m + 1, by omega, by rw [← h.2, i4]; rfl, by simp; omega⟩
        have i2 := i2 fun x hx' => hx x (List.mem_cons_of_mem _ hx')
        have : 2 ^ (64 - 7 * k) = 2 ^ (64 - 7 * (k + 1)) * 128 := by rw [show 64 - 7 * k = (64 - 7 * (k + 1)) + 7 by omega, Nat.pow_add]
        omega
end Col
end Go.Proofs.YtpobfgokikfmbaaDoor

set_option linter.unusedSimpArgs false
set_option linter.unusedVariables false
set_option maxRecDepth 8000
namespace Go.Proofs.YtpobfgokikfmbaaDoor
open Go.RowKit Go.WideShapes Col

theorem Yes.rd {g : Nat} {w w' : World} {v : Value} {q : List Nat} {e : Ending} (h : Yes g w v q e w') : e = .returned v ∧ Hid (Rd w' g q) ∧ Hid (Kept (Only g) w w') := h
theorem andNot128 (b : Nat) (h : b < 256) : bits BinOp.andNot IntKind.u8 (b : Int) 128 = ((b % 128 : Nat) : Int) := by
  have : ∀ b : Fin 256, bits BinOp.andNot IntKind.u8 ((b : Nat) : Int) 128 = (((b : Nat) % 128 : Nat) : Int) := by decide +kernel
  exact this ⟨b, h⟩
theorem wrap_shl (c s : Nat) : IntKind.u64.wrap ((c : Int) * 2 ^ s) = ((c * 2 ^ s % 18446744073709551616 : Nat) : Int) := by
  rw [IntKind.wrap_u64, Int.natCast_emod, Int.natCast_mul, Int.natCast_pow]; rfl
theorem shift_fits (c s : Nat) : (IntKind.u64.wrap ((c : Int) * 2 ^ s) / 2 ^ s == (c : Int)) = decide (c * 2 ^ s < 18446744073709551616) := by
  rw [wrap_shl]
  have hp : 0 < 2 ^ s := Nat.two_pow_pos s
  have e : (((c * 2 ^ s % 18446744073709551616 : Nat) : Int) / 2 ^ s) = ((c * 2 ^ s % 18446744073709551616 / 2 ^ s : Nat) : Int) := by
    rw [Int.natCast_ediv, Int.natCast_pow]; rfl
  rw [e, Bool.eq_iff_iff, beq_iff_eq, decide_eq_true_eq]
  constructor
  · intro h
    have h : c * 2 ^ s % 18446744073709551616 / 2 ^ s = c := by omega
    have h1 := Nat.div_mul_le_self (c * 2 ^ s % 18446744073709551616) (2 ^ s)
    rw [h] at h1
    have h2 := Nat.mod_lt (c * 2 ^ s) (y := 18446744073709551616) (by decide)
    omega
  · intro h
    rw [Nat.mod_eq_of_lt h, Nat.mul_div_cancel _ hp]
theorem or_shl (acc c s : Nat) (ha : acc < 2 ^ s) (h64 : acc < 18446744073709551616) (h : c * 2 ^ s < 18446744073709551616) : bits .or .u64 (acc : Int) (IntKind.u64.wrap ((c : Int) * 2 ^ s)) = ((acc + 2 ^ s * c : Nat) : Int) := by
  rw [wrap_shl, Nat.mod_eq_of_lt h, bits_or_u64_nat _ _ h64 h]
  congr 1
  rw [Nat.mul_comm c, Nat.or_comm, ← Nat.two_pow_add_eq_or_of_lt ha, Nat.add_comm]
theorem acc_next {acc c k : Nat} (ha : acc < 2 ^ (7 * k)) (hc : c < 128) : acc + 2 ^ (7 * k) * c < 2 ^ (7 * (k + 1)) := by
  rw [show 7 * (k + 1) = 7 * k + 7 by omega, Nat.pow_add]
  have : 2 ^ (7 * k) * c ≤ 2 ^ (7 * k) * 127 := Nat.mul_le_mul_left _ (by omega)
  omega
theorem fits8 {c k : Nat} (hk : k ≤ 8) (hc : c < 128) : c * 2 ^ (7 * k) < 18446744073709551616 := by
  have : 2 ^ (7 * k) ≤ 2 ^ 56 := Nat.pow_le_pow_right (by decide) (by omega)
  have h2 : c * 2 ^ (7 * k) ≤ 127 * 2 ^ 56 := Nat.mul_le_mul (by omega) this
  omega
theorem fits9 {c k : Nat} (hk : k ≤ 9) (hc : c ≤ 1) : c * 2 ^ (7 * k) < 18446744073709551616 := by
  have : 2 ^ (7 * k) ≤ 2 ^ 63 := Nat.pow_le_pow_right (by decide) (by omega)
  have h2 : c * 2 ^ (7 * k) ≤ 1 * 2 ^ 63 := Nat.mul_le_mul (by omega) this
  omega
theorem acc64 {acc k : Nat} (hk : k ≤ 9) (ha : acc < 2 ^ (7 * k)) : acc < 18446744073709551616 := by
  have : 2 ^ (7 * k) ≤ 2 ^ 63 := Nat.pow_le_pow_right (by decide) (by omega)
  omega
theorem acc_w {acc c k : Nat} (hk : k ≤ 9) (ha : acc < 2 ^ (7 * k)) (hc : c < 128) (hf : c * 2 ^ (7 * k) < 18446744073709551616) : acc + 2 ^ (7 * k) * c < 18446744073709551616 := by
  by_cases h8 : k ≤ 8
  · exact acc64 (k := k + 1) (by omega) (acc_next ha hc)
  · have h9 : k = 9 := by omega
    subst h9
    have e : 2 ^ (7 * 9) = 9223372036854775808 := by decide
    rw [e] at ha hf ⊢
    omega
set_option maxHeartbeats 1000000 in
theorem groups_yes (g : Nat) (q r : List Nat) (n : Nat) (hq : Hid (grp 0 q = some (n, r))) (hql : q.length ≤ 9223372036854775807) (w : World) (H : Hid (Rd w g q)) :
    Calls Tryd.prog 82 #[.pointer (some ⟨g, 0, none⟩)] w (Yes g w (.int .u64 (n : Int)) r) := by
  go_enter Tryd.func82, Tryd.ntmps82
  go_wp2
  go_loopw [3, 4] (fun u s wr => ∃ (k acc : Nat) (q' : List Nat), k ≤ 9 ∧ s = .int .i64 ((7 * k : Nat) : Int) ∧ u = .int .u64 (acc : Int) ∧ acc < 2 ^ (7 * k) ∧ plus k acc (grp k q') = some (n, r) ∧ Rd wr g q' ∧ Kept (Only g) w wr) (fun _ s _ => 70 - (intOf s).toNat)
  case atStart => exact ⟨0, 0, q, by omega, rfl, rfl, by simp, by rw [plus_zero]; exact hq.out, H.out, Kept.refl _ _⟩
  case round =>
    obtain ⟨k, acc, q', hk, rfl, rfl, ha, hp, hr, hkp⟩ := hrel
    have HP := Lib.hid hp
    have HR := Lib.hid hr
    have HK := Lib.hid hkp
    clear hp hr hkp
    rcases q' with _ | ⟨b, q'⟩
    · have := HP.out; simp [plus, grp] at this
    · have hb : b < 256 := by obtain ⟨A, C, h⟩ := HR.out; exact h.bytes.lt b (by simp)
      have h0 := andNot128 b hb
      have hc : b % 128 < 128 := Nat.mod_lt _ (by decide)
      have hfit : (b % 128) * 2 ^ (7 * k) < 18446744073709551616 := by
        by_cases h8 : k ≤ 8
        · exact fits8 h8 hc
        · refine fits9 hk ?_
          have := HP.out
          rw [grp] at this
          split at this
          · cases this
          · omega
      have h1 := (shift_fits (b % 128) (7 * k)).trans (decide_eq_true hfit)
      have h2 := or_shl acc (b % 128) (7 * k) ha (acc64 hk ha) hfit
      have hn := acc_next ha hc
      have hw := acc_w hk ha hc hfit
      obtain ⟨acc', hacc⟩ : ∃ x, x = acc + 2 ^ (7 * k) * (b % 128) := ⟨_, rfl⟩
      obtain ⟨c, hcc⟩ : ∃ x, x = b % 128 := ⟨_, rfl⟩
      rw [← hacc] at h2 hw hn
      rw [← hcc] at h0 h1 h2 hc
      have HC := Lib.hid hcc
      have HAC := Lib.hid hacc
      have HA := Lib.hid ha
      have HN := Lib.hid hn
      have HW := Lib.hid hw
      have hwc : IntKind.u64.wrap (c : Int) = (c : Int) := by rw [IntKind.wrap_u64]; omega
      clear ha hn hacc hcc hfit hw
      by_cases hb7 : b < 128
      · have hb0 : ¬ (b = 0 ∧ 0 < k) := by
          rintro ⟨rfl, h⟩
          have := HP.out; rw [grp_zero h] at this; cases this
        have hbk : ¬ (9 < k ∨ (k = 9 ∧ 1 < b)) := by
          intro h
          have := HP.out; rw [grp, if_pos h] at this; cases this
        have HE : Hid (acc' = n ∧ q' = r) := Lib.hid (by
          have := HP.out
          rw [grp_end hbk hb7 hb0] at this
          simp only [plus, Option.map_some, Option.some.injEq, Prod.mk.injEq] at this
          rw [HAC.out]; exact ⟨by rw [← this.1, Nat.mod_eq_of_lt hb7], this.2⟩)
        clear hb0 hbk
        obtain ⟨rfl, rfl⟩ := HE.out
        by_cases hbz : b = 0
        · have hkz : (7 * (k : Int) == 0) = true := by
            have : k = 0 := Nat.eq_zero_of_not_pos fun h => by
              have := HP.out; rw [hbz, grp_zero h] at this; cases this
            subst this; rfl
          have hbz' : ((b : Int) != 0) = false := by rw [hbz]; rfl
          have HB := Lib.hid hbz
          clear hbz
          go_wp2_with (first
            | (go_at_call 68; (with_reducible refine (byte_yes g b q' _ HR).mono ?_); rintro e w1 hy; obtain ⟨rfl, HR1, HK1⟩ := Yes.rd hy; clear hy)
            | (go_at_call 34; (with_reducible refine (check_true _ _).mono ?_); rintro e w2 ⟨rfl, rfl⟩))
          go_ret
          exact ⟨rfl, HR1.out, HK.out.trans HK1.out⟩
        · have hbz' : ((b : Int) != 0) = true := by rw [bne_iff_ne]; omega
          go_wp2_with (first
            | (go_at_call 68; (with_reducible refine (byte_yes g b q' _ HR).mono ?_); rintro e w1 hy; obtain ⟨rfl, HR1, HK1⟩ := Yes.rd hy; clear hy)
            | (go_at_call 34; (with_reducible refine (check_true _ _).mono ?_); rintro e w2 ⟨rfl, rfl⟩))
          go_ret
          exact ⟨rfl, HR1.out, HK.out.trans HK1.out⟩
      · have hk8 : k ≤ 8 := by
          rcases Nat.lt_or_ge 8 k with h | h
          · have := HP.out; rw [grp, if_pos (by omega)] at this; cases this
          · exact h
        have HP2 : Hid (plus (k + 1) acc' (grp (k + 1) q') = some (n, r)) := Lib.hid (by
          have := HP.out
          rwa [plus_on hk8 (by omega), ← HAC.out] at this)
        go_wp2_with (first
            | (go_at_call 68; (with_reducible refine (byte_yes g b q' _ HR).mono ?_); rintro e w1 hy; obtain ⟨rfl, HR1, HK1⟩ := Yes.rd hy; clear hy)
            | (go_at_call 34; (with_reducible refine (check_true _ _).mono ?_); rintro e w2 ⟨rfl, rfl⟩))
        go_roundw
        case rel => exact ⟨k + 1, acc', q', by omega, by go_num, rfl, HN.out, HP2.out, HR1.out, HK.out.trans HK1.out⟩
        case measure => simp [intOf]; omega

theorem shl_far (c k : Nat) (hk : 10 ≤ k) : Op.shift BinOp.shl IntKind.u64 (c : Int) IntKind.i64 (7 * (k : Int)) = pure (.int .u64 0) := by
  have hm : min (7 * (k : Int)).toNat IntKind.u64.bits = 64 := by
    have : IntKind.u64.bits = 64 := rfl
    rw [this]; omega
  unfold Op.shift
  rw [if_neg (by omega)]
  simp only [hm]
  rw [wrap_shl, Nat.mul_mod_left]; rfl
theorem shr_far (k : Nat) (hk : 10 ≤ k) : Op.shift BinOp.shr IntKind.u64 0 IntKind.i64 (7 * (k : Int)) = pure (.int .u64 0) := by
  unfold Op.shift
  rw [if_neg (by omega)]
  simp
theorem no_end {g : Nat} {w wr w' : World} (HK : Hid (Kept (Only g) w wr)) (h1 : Gone w' g) (h2 : Kept (Only g) wr w') : No g w (.panicked [gu g]) w' := ⟨rfl, h1, HK.out.trans h2⟩
set_option maxHeartbeats 2000000 in
theorem groups_no (g : Nat) (q : List Nat) (hq : Hid (grp 0 q = none)) (L : Nat) (HL : Hid (L = q.length)) (hql : L ≤ 1099511627776) (w : World) (H : Hid (Rd w g q)) :
    Calls Tryd.prog 82 #[.pointer (some ⟨g, 0, none⟩)] w (No g w) := by
  go_enter Tryd.func82, Tryd.ntmps82
  go_wp2
  go_loopw [3, 4] (fun u s wr => ∃ (k acc : Nat) (q' : List Nat), k + q'.length = L ∧ s = .int .i64 ((7 * k : Nat) : Int) ∧ u = .int .u64 (acc : Int) ∧ acc < 18446744073709551616 ∧ (k ≤ 9 → acc < 2 ^ (7 * k)) ∧ grp k q' = none ∧ Rd wr g q' ∧ Kept (Only g) w wr) (fun _ s _ => 7 * (L + 1) - (intOf s).toNat)
  case atStart => exact ⟨0, 0, q, by rw [HL.out]; omega, rfl, rfl, by simp, fun _ => by simp, hq.out, H.out, Kept.refl _ _⟩
  case round =>
    obtain ⟨k, acc, q', hk, rfl, rfl, ha, hap, hp, hr, hkp⟩ := hrel
    have HP := Lib.hid hp
    have HR := Lib.hid hr
    have HK := Lib.hid hkp
    have HKL := Lib.hid hk
    have HA := Lib.hid hap
    have HW := Lib.hid ha
    have hkL : k ≤ L := by omega
    clear hp hr hkp hk hap ha
    rcases q' with _ | ⟨b, q'⟩
    · go_wp2_with (go_at_call 68; (with_reducible refine (byte_no g _ HR).mono ?_); rintro e w1 ⟨rfl, h1, h2⟩)
      exact ⟨rfl, no_end HK h1 h2⟩
    · have hb : b < 256 := by obtain ⟨A, C, h⟩ := HR.out; exact h.bytes.lt b (by simp)
      have h0 := andNot128 b hb
      have hc : b % 128 < 128 := Nat.mod_lt _ (by decide)
      obtain ⟨c, hcc⟩ : ∃ x, x = b % 128 := ⟨_, rfl⟩
      rw [← hcc] at h0 hc
      have HC := Lib.hid hcc
      have hwc : IntKind.u64.wrap (c : Int) = (c : Int) := by rw [IntKind.wrap_u64]; omega
      have hkL' : k + 1 ≤ L := by have := HKL.out; simp at this; omega
      clear hcc
      by_cases h9 : k ≤ 9
      · have h1 := shift_fits c (7 * k)
        by_cases hfit : c * 2 ^ (7 * k) < 18446744073709551616
        · rw [decide_eq_true hfit] at h1
          have h2 := or_shl acc c (7 * k) (HA.out h9) HW.out hfit
          have HW' := Lib.hid (acc_w h9 (HA.out h9) hc hfit)
          have HN := Lib.hid (acc_next (HA.out h9) hc)
          obtain ⟨acc', hacc⟩ : ∃ x, x = acc + 2 ^ (7 * k) * c := ⟨_, rfl⟩
          rw [← hacc] at h2 HW' HN
          clear hacc
          by_cases hb7 : b < 128
          · have hb0 : b = 0 ∧ 0 < k := by
              refine Classical.byContradiction fun h => ?_
              have hp := HP.out
              by_cases h99 : 9 < k ∨ (k = 9 ∧ 1 < b)
              · have e : k = 9 := by omega
                rw [e] at hfit
                have := HC.out
                omega
              · rw [grp_end h99 hb7 h] at hp; cases hp
            have hkz : (7 * (k : Int) == 0) = false := by rw [beq_eq_false_iff_ne]; omega
            have hbz' : ((b : Int) != 0) = false := by rw [hb0.1]; rfl
            have HB := Lib.hid hb0
            clear hb0 hfit
            go_wp2_with (first
            | (go_at_call 68; (with_reducible refine (byte_yes g b q' _ HR).mono ?_); rintro e w1 hy; obtain ⟨rfl, HR1, HK1⟩ := Yes.rd hy; clear hy)
            | (go_at_call 34; first
              | ((with_reducible refine (check_true _ _).mono ?_); rintro e w2 ⟨rfl, rfl⟩)
              | (obtain ⟨A, C, hR⟩ := HR1.out; (with_reducible refine (check_false g C A q' _ (Lib.hid hR)).mono ?_); rintro e w2 ⟨rfl, h1, h2⟩)))
            exact ⟨rfl, no_end HK h1 (HK1.out.trans h2)⟩
          · have HP2 : Hid (grp (k + 1) q' = none) := Lib.hid (by
              have hp := HP.out
              by_cases h8 : k ≤ 8
              · rw [grp_on h8 (by omega)] at hp
                rcases hg : grp (k + 1) q' with _ | p
                · rfl
                · rw [hg] at hp; cases hp
              · exact grp_big _ (by omega) _)
            clear hfit
            go_wp2_with (first
            | (go_at_call 68; (with_reducible refine (byte_yes g b q' _ HR).mono ?_); rintro e w1 hy; obtain ⟨rfl, HR1, HK1⟩ := Yes.rd hy; clear hy)
            | (go_at_call 34; first
              | ((with_reducible refine (check_true _ _).mono ?_); rintro e w2 ⟨rfl, rfl⟩)
              | (obtain ⟨A, C, hR⟩ := HR1.out; (with_reducible refine (check_false g C A q' _ (Lib.hid hR)).mono ?_); rintro e w2 ⟨rfl, h1, h2⟩)))
            go_roundw
            case rel => exact ⟨k + 1, acc', q', by have := HKL.out; simp at this; omega, by go_num, rfl, HW'.out, fun _ => HN.out, HP2.out, HR1.out, HK.out.trans HK1.out⟩
            case measure => simp [intOf]; omega
        · rw [decide_eq_false hfit] at h1
          clear hfit
          go_wp2_with (first
            | (go_at_call 68; (with_reducible refine (byte_yes g b q' _ HR).mono ?_); rintro e w1 hy; obtain ⟨rfl, HR1, HK1⟩ := Yes.rd hy; clear hy)
            | (go_at_call 34; first
              | ((with_reducible refine (check_true _ _).mono ?_); rintro e w2 ⟨rfl, rfl⟩)
              | (obtain ⟨A, C, hR⟩ := HR1.out; (with_reducible refine (check_false g C A q' _ (Lib.hid hR)).mono ?_); rintro e w2 ⟨rfl, h1, h2⟩)))
          exact ⟨rfl, no_end HK h1 (HK1.out.trans h2)⟩
      · have s1 := shl_far c k (by omega)
        have s2 := shr_far k (by omega)
        have h2 : bits .or .u64 (acc : Int) 0 = (acc : Int) := by
          have := bits_or_u64_nat acc 0 HW.out (by decide)
          rwa [Nat.or_zero] at this
        by_cases hc0 : c = 0
        · have h1 : ((0 : Int) == (c : Int)) = true := by rw [hc0]; rfl
          have HC0 := Lib.hid hc0
          clear hc0
          by_cases hb7 : b < 128
          · have hb0 : b = 0 := by have := HC.out; have := HC0.out; omega
            have hkz : (7 * (k : Int) == 0) = false := by rw [beq_eq_false_iff_ne]; omega
            have hbz' : ((b : Int) != 0) = false := by rw [hb0]; rfl
            have HB := Lib.hid hb0
            clear hb0
            go_wp2_with (first
            | (go_at_call 68; (with_reducible refine (byte_yes g b q' _ HR).mono ?_); rintro e w1 hy; obtain ⟨rfl, HR1, HK1⟩ := Yes.rd hy; clear hy)
            | (go_at_call 34; first
              | ((with_reducible refine (check_true _ _).mono ?_); rintro e w2 ⟨rfl, rfl⟩)
              | (obtain ⟨A, C, hR⟩ := HR1.out; (with_reducible refine (check_false g C A q' _ (Lib.hid hR)).mono ?_); rintro e w2 ⟨rfl, h1, h2⟩)))
            exact ⟨rfl, no_end HK h1 (HK1.out.trans h2)⟩
          · have HP2 : Hid (grp (k + 1) q' = none) := Lib.hid (grp_big _ (by omega) _)
            go_wp2_with (first
            | (go_at_call 68; (with_reducible refine (byte_yes g b q' _ HR).mono ?_); rintro e w1 hy; obtain ⟨rfl, HR1, HK1⟩ := Yes.rd hy; clear hy)
            | (go_at_call 34; first
              | ((with_reducible refine (check_true _ _).mono ?_); rintro e w2 ⟨rfl, rfl⟩)
              | (obtain ⟨A, C, hR⟩ := HR1.out; (with_reducible refine (check_false g C A q' _ (Lib.hid hR)).mono ?_); rintro e w2 ⟨rfl, h1, h2⟩)))
            go_roundw
            case rel => exact ⟨k + 1, acc, q', by have := HKL.out; simp at this; omega, by go_num, rfl, HW.out, fun h => by omega, HP2.out, HR1.out, HK.out.trans HK1.out⟩
            case measure => simp [intOf]; omega
        · have h1 : ((0 : Int) == (c : Int)) = false := by rw [beq_eq_false_iff_ne]; omega
          go_wp2_with (first
            | (go_at_call 68; (with_reducible refine (byte_yes g b q' _ HR).mono ?_); rintro e w1 hy; obtain ⟨rfl, HR1, HK1⟩ := Yes.rd hy; clear hy)
            | (go_at_call 34; first
              | ((with_reducible refine (check_true _ _).mono ?_); rintro e w2 ⟨rfl, rfl⟩)
              | (obtain ⟨A, C, hR⟩ := HR1.out; (with_reducible refine (check_false g C A q' _ (Lib.hid hR)).mono ?_); rintro e w2 ⟨rfl, h1, h2⟩)))
          exact ⟨rfl, no_end HK h1 (HK1.out.trans h2)⟩
end Go.Proofs.YtpobfgokikfmbaaDoor

set_option linter.unusedSimpArgs false
set_option linter.unusedVariables false
set_option maxRecDepth 8000
namespace Go.Proofs.YtpobfgokikfmbaaDoor
open Go.RowKit Go.WideShapes Col
namespace Col
/-- The next number, at most that. -/
def uP (most : Nat) (q : List Nat) : Option (Nat × List Nat) := (grp 0 q).bind fun p => if p.1 ≤ most then some p else none
theorem uP_some {most n : Nat} {q r : List Nat} (h : uP most q = some (n, r)) : grp 0 q = some (n, r) ∧ n ≤ most := by
  unfold uP at h
  rcases hg : grp 0 q with _ | p
  · rw [hg] at h; cases h
  · rw [hg] at h; simp only [Option.bind_some] at h
    split at h
    · injection h with h; subst h; exact ⟨rfl, by assumption⟩
    · cases h
theorem uP_none {most : Nat} {q : List Nat} (h : uP most q = none) : grp 0 q = none ∨ ∃ n r, grp 0 q = some (n, r) ∧ most < n := by
  unfold uP at h
  rcases hg : grp 0 q with _ | ⟨n, r⟩
  · exact .inl rfl
  · rw [hg] at h; simp only [Option.bind_some] at h
    split at h
    · cases h
    · exact .inr ⟨n, r, rfl, by omega⟩
/-- A number with its sign. -/
def uz (n : Nat) : Int := if n % 2 = 1 then -((n / 2 : Nat) : Int) - 1 else ((n / 2 : Nat) : Int)
def zP (q : List Nat) : Option (Int × List Nat) := (grp 0 q).map fun p => (uz p.1, p.2)
def tP (most : Nat) (q : List Nat) : Option (List Nat × List Nat) := (uP most q).bind fun p => if p.1 ≤ p.2.length then some (p.2.take p.1, p.2.drop p.1) else none
theorem tP_some {most : Nat} {q s r : List Nat} (h : tP most q = some (s, r)) : ∃ n q', uP most q = some (n, q') ∧ n ≤ q'.length ∧ s = q'.take n ∧ r = q'.drop n := by
  unfold tP at h
  rcases hg : uP most q with _ | ⟨n, q'⟩
  · rw [hg] at h; cases h
  · rw [hg] at h; simp only [Option.bind_some] at h
    split at h
    · injection h with h; injection h with h1 h2; exact ⟨n, q', rfl, by assumption, h1.symm, h2.symm⟩
    · cases h
theorem tP_none {most : Nat} {q : List Nat} (h : tP most q = none) : uP most q = none ∨ ∃ n q', uP most q = some (n, q') ∧ q'.length < n := by
  unfold tP at h
  rcases hg : uP most q with _ | ⟨n, q'⟩
  · exact .inl rfl
  · rw [hg] at h; simp only [Option.bind_some] at h
    split at h
    · cases h
    · exact .inr ⟨n, q', rfl, by omega⟩
theorem zP_some {x : Int} {q r : List Nat} (h : zP q = some (x, r)) : ∃ n, grp 0 q = some (n, r) ∧ uz n = x := by
  unfold zP at h
  rcases hg : grp 0 q with _ | ⟨n, r'⟩
  · rw [hg] at h; cases h
  · rw [hg] at h; injection h with h; injection h with h1 h2; subst h2; exact ⟨n, rfl, h1⟩
theorem zP_none {q : List Nat} (h : zP q = none) : grp 0 q = none := by
  unfold zP at h
  rcases hg : grp 0 q with _ | p
  · rfl
  · rw [hg] at h; cases h
end Col

theorem Rd.lt {w : World} {g : Nat} {q : List Nat} (h : Rd w g q) : ∀ x ∈ q, x < 256 := by obtain ⟨A, C, h⟩ := h; exact h.bytes.lt
theorem grp_u64 {q r : List Nat} {n : Nat} (h : grp 0 q = some (n, r)) (hq : ∀ x ∈ q, x < 256) : n < 18446744073709551616 := by
  have := (grp_lt q 0 n r h).2.1 hq; simpa using this
theorem Yes.trans {g : Nat} {w w1 w' : World} {v : Value} {r : List Nat} {e : Ending} (HK : Hid (Kept (Only g) w w1)) (h : Yes g w1 v r e w') : Yes g w v r e w' := ⟨h.1, h.2.1, HK.out.trans h.2.2⟩

set_option maxHeartbeats 1000000 in
theorem uint_yes (g most n : Nat) (q r : List Nat) (hq : Hid (uP most q = some (n, r))) (hql : q.length ≤ 9223372036854775807) (w : World) (H : Hid (Rd w g q)) :
    Calls Tryd.prog 66 #[.pointer (some ⟨g, 0, none⟩), .int .u64 (most : Int)] w (Yes g w (.int .u64 (n : Int)) r) := by
  obtain ⟨A, C, h⟩ := H.out
  have HA := Lib.hid h
  obtain ⟨h1, h2⟩ := uP_some hq.out
  have H1 := Lib.hid h1
  clear h h1
  go_enter Tryd.func66, Tryd.ntmps66
  go_wp2_with (first
    | (go_at_call 55; refine (mayRead_yes g C A _ _ HA).mono ?_; rintro e w1 ⟨rfl, rfl⟩)
    | (go_at_call 82; (with_reducible refine (groups_yes g q r n H1 hql _ H).mono ?_); rintro e w1 hy; obtain ⟨rfl, HR1, HK1⟩ := Yes.rd hy; clear hy)
    | (go_at_call 34; (with_reducible refine (check_true _ _).mono ?_); rintro e w2 ⟨rfl, rfl⟩))
  go_ret
  exact ⟨rfl, HR1.out, HK1.out⟩
set_option maxHeartbeats 1000000 in
theorem uint_no (g most : Nat) (q : List Nat) (hq : Hid (uP most q = none)) (L : Nat) (HL : Hid (L = q.length)) (hql : L ≤ 1099511627776) (w : World) (H : Hid (Rd w g q)) :
    Calls Tryd.prog 66 #[.pointer (some ⟨g, 0, none⟩), .int .u64 (most : Int)] w (No g w) := by
  obtain ⟨A, C, h⟩ := H.out
  have HA := Lib.hid h
  have hB := Lib.hid h.bytes.lt
  clear h
  have hql2 : q.length ≤ 9223372036854775807 := by rw [← HL.out]; omega
  rcases uP_none hq.out with h1 | ⟨n, r, h1, h2⟩
  · have H1 := Lib.hid h1
    clear h1
    go_enter Tryd.func66, Tryd.ntmps66
    go_wp2_with (first
      | (go_at_call 55; refine (mayRead_yes g C A _ _ HA).mono ?_; rintro e w1 ⟨rfl, rfl⟩)
      | (go_at_call 82; (with_reducible refine (groups_no g q H1 L HL hql _ H).mono ?_); rintro e w1 ⟨rfl, h1, h2⟩))
    exact ⟨rfl, rfl, h1, h2⟩
  · have hn := grp_u64 h1 hB.out
    have H1 := Lib.hid h1
    have hd : ¬ n ≤ most := by omega
    have hd2 : decide (n ≤ most) = false := by simpa using h2
    clear h1
    go_enter Tryd.func66, Tryd.ntmps66
    go_wp2_with (first
      | (go_at_call 55; refine (mayRead_yes g C A _ _ HA).mono ?_; rintro e w1 ⟨rfl, rfl⟩)
      | (go_at_call 82; (with_reducible refine (groups_yes g q r n H1 hql2 _ H).mono ?_); rintro e w1 hy; obtain ⟨rfl, HR1, HK1⟩ := Yes.rd hy; clear hy)
      | (go_at_call 34; obtain ⟨A1, C1, hR⟩ := HR1.out; (with_reducible refine (check_false g C1 A1 r _ (Lib.hid hR)).mono ?_); rintro e w2 ⟨rfl, h1, h2⟩))
    exact ⟨rfl, no_end HK1 h1 h2⟩

theorem xor0_i64 (m : Nat) (h : m < 9223372036854775808) : bits BinOp.xor IntKind.i64 (m : Int) 0 = (m : Int) := by
  have h1 : (BitVec.ofInt 64 (m : Int)).toNat = m := by
    rw [BitVec.ofInt_natCast, BitVec.toNat_ofNat]; exact Nat.mod_eq_of_lt (by omega)
  have h0 : BitVec.ofInt 64 0 = 0#64 := by decide
  show IntKind.i64.wrap ((BitVec.ofInt 64 (m : Int) ^^^ BitVec.ofInt 64 0).toNat : Int) = _
  rw [h0, BitVec.xor_zero, h1, IntKind.wrap_i64]; omega
theorem xor1_i64 (m : Nat) (h : m < 9223372036854775808) : bits BinOp.xor IntKind.i64 (m : Int) (-1) = -(m : Int) - 1 := by
  have h1 : (BitVec.ofInt 64 (m : Int)).toNat = m := by
    rw [BitVec.ofInt_natCast, BitVec.toNat_ofNat]; exact Nat.mod_eq_of_lt (by omega)
  have h0 : BitVec.ofInt 64 (-1) = BitVec.allOnes 64 := by decide
  show IntKind.i64.wrap ((BitVec.ofInt 64 (m : Int) ^^^ BitVec.ofInt 64 (-1)).toNat : Int) = _
  rw [h0, BitVec.xor_allOnes, BitVec.toNat_not, h1, IntKind.wrap_i64]; omega
theorem ret_i64 {k : IntKind} {a b : Int} (h : a = b) : Ending.returned (.int k a) = .returned (.int k b) := by rw [h]
theorem and1 (n : Nat) (h : n < 18446744073709551616) : bits BinOp.and IntKind.u64 (n : Int) 1 = ((n % 2 : Nat) : Int) := by
  have := bits_and_u64_nat n 1 h (by decide)
  rw [Nat.and_one_is_mod] at this
  exact this
set_option maxHeartbeats 1000000 in
theorem int_yes (g : Nat) (x : Int) (q r : List Nat) (hq : Hid (zP q = some (x, r))) (hql : q.length ≤ 9223372036854775807) (w : World) (H : Hid (Rd w g q)) :
    Calls Tryd.prog 70 #[.pointer (some ⟨g, 0, none⟩)] w (Yes g w (.int .i64 x) r) := by
  obtain ⟨n, h1, hx⟩ := zP_some hq.out
  have hn := grp_u64 h1 H.out.lt
  have HU : Hid (uP 18446744073709551615 q = some (n, r)) := Lib.hid (by unfold uP; rw [h1]; simp; omega)
  have a1 := and1 n hn
  clear h1
  rcases Nat.mod_two_eq_zero_or_one n with h2 | h2
  · rw [h2] at a1
    have HX : Hid (x = ((n / 2 : Nat) : Int)) := Lib.hid (by rw [← hx]; unfold uz; rw [if_neg (by omega)])
    clear hx h2
    go_enter Tryd.func70, Tryd.ntmps70
    go_wp2_with (go_at_call 66; (refine (uint_yes g 18446744073709551615 n q r HU hql _ H).mono ?_); rintro e w1 hy; obtain ⟨rfl, HR1, HK1⟩ := Yes.rd hy; clear hy)
    go_ret
    exact ⟨ret_i64 ((xor0_i64 (n / 2) (by omega)).trans HX.out.symm), HR1.out, HK1.out⟩
  · rw [h2] at a1
    have HX : Hid (x = -((n / 2 : Nat) : Int) - 1) := Lib.hid (by rw [← hx]; unfold uz; rw [if_pos h2])
    clear hx h2
    go_enter Tryd.func70, Tryd.ntmps70
    go_wp2_with (go_at_call 66; (refine (uint_yes g 18446744073709551615 n q r HU hql _ H).mono ?_); rintro e w1 hy; obtain ⟨rfl, HR1, HK1⟩ := Yes.rd hy; clear hy)
    go_ret
    exact ⟨ret_i64 ((xor1_i64 (n / 2) (by omega)).trans HX.out.symm), HR1.out, HK1.out⟩
set_option maxHeartbeats 1000000 in
theorem int_no (g : Nat) (q : List Nat) (hq : Hid (zP q = none)) (L : Nat) (HL : Hid (L = q.length)) (hql : L ≤ 1099511627776) (w : World) (H : Hid (Rd w g q)) :
    Calls Tryd.prog 70 #[.pointer (some ⟨g, 0, none⟩)] w (No g w) := by
  have HU : Hid (uP 18446744073709551615 q = none) := Lib.hid (by unfold uP; rw [zP_none hq.out]; rfl)
  go_enter Tryd.func70, Tryd.ntmps70
  go_wp2_with (go_at_call 66; (refine (uint_no g 18446744073709551615 q HU L HL hql _ H).mono ?_); rintro e w1 ⟨rfl, h1, h2⟩)
  exact ⟨rfl, rfl, h1, h2⟩

theorem off_kept {g n : Nat} {w w' : World} {A : Option Addr} {q : List Nat} (h : ByAt w A q) (ho : Off (Only g) A q) (hk : Kept (Only g) w w') : Hid (ByAt w' A q) := h.kept hk ho
set_option maxHeartbeats 1000000 in
theorem text_yes (g most : Nat) (hm : most < 9223372036854775808) (q s r : List Nat) (hq : Hid (tP most q = some (s, r))) (hql : q.length ≤ 9223372036854775807) (w : World) (H : Hid (Rd w g q)) :
    Calls Tryd.prog 48 #[.pointer (some ⟨g, 0, none⟩), .int .i64 (most : Int)] w (Yes g w (.string (strB s)) r) := by
  obtain ⟨n, q', h1, h2, h3, h4⟩ := tP_some hq.out
  obtain ⟨A, C, h⟩ := H.out
  have HA := Lib.hid h
  have HU := Lib.hid h1
  have H3 := Lib.hid h3
  have H4 := Lib.hid h4
  have H2 := Lib.hid h2
  clear h h1 h3 h4 h2
  have hn := Lib.hid (grp_u64 (uP_some HU.out).1 H.out.lt)
  go_enter Tryd.func48, Tryd.ntmps48
  go_wp2_with (first
    | (go_at_call 55; refine (mayRead_yes g C A _ _ HA).mono ?_; rintro e w1 ⟨rfl, rfl⟩)
    | (go_at_call 34; (with_reducible refine (check_true _ _).mono ?_); rintro e w2 ⟨rfl, rfl⟩)
    | (go_at_call 66; (with_reducible refine (uint_yes g most n q q' HU hql _ H).mono ?_); rintro e w1 hy; obtain ⟨rfl, HR1, HK1⟩ := Yes.rd hy; clear hy)
    | (go_at_call 65; obtain ⟨A1, C1, hR⟩ := HR1.out; (with_reducible refine (take_yes g C1 A1 q' n q'.length (Lib.hid rfl) H2.out _ (Lib.hid hR)).mono ?_); rintro e w2 ⟨A2, C2, rfl, a1, a2, a3, a4, a5, a6, a7⟩; clear a7; have HB := off_kept (n := 0) a3 a4 a6; have h5 := conv_at n C2 HB (Below.refl _ _) (by rw [List.length_take]; have := H2.out; omega); have HR2 := Lib.hid a5; have HK2 := Lib.hid a6; clear a1 a2 a3 a4 a5 a6 hR))
  go_ret
  exact ⟨by rw [H3.out]; rfl, by rw [H4.out]; exact HR2.out, HK1.out.trans HK2.out⟩
set_option maxHeartbeats 1000000 in
theorem text_no (g most : Nat) (hm : most < 9223372036854775808) (q : List Nat) (hq : Hid (tP most q = none)) (L : Nat) (HL : Hid (L = q.length)) (hql : L ≤ 1099511627776) (w : World) (H : Hid (Rd w g q)) :
    Calls Tryd.prog 48 #[.pointer (some ⟨g, 0, none⟩), .int .i64 (most : Int)] w (No g w) := by
  obtain ⟨A, C, h⟩ := H.out
  have HA := Lib.hid h
  clear h
  have hql2 : q.length ≤ 9223372036854775807 := by rw [← HL.out]; omega
  rcases tP_none hq.out with h1 | ⟨n, q', h1, h2⟩
  · have HU := Lib.hid h1
    clear h1
    go_enter Tryd.func48, Tryd.ntmps48
    go_wp2_with (first
      | (go_at_call 55; refine (mayRead_yes g C A _ _ HA).mono ?_; rintro e w1 ⟨rfl, rfl⟩)
      | (go_at_call 34; (with_reducible refine (check_true _ _).mono ?_); rintro e w2 ⟨rfl, rfl⟩)
      | (go_at_call 66; (with_reducible refine (uint_no g most q HU L HL hql _ H).mono ?_); rintro e w1 ⟨rfl, h1, h2⟩))
    exact ⟨rfl, rfl, h1, h2⟩
  · have HU := Lib.hid h1
    have H2 := Lib.hid h2
    clear h1 h2
    have hn := Lib.hid (grp_u64 (uP_some HU.out).1 H.out.lt)
    go_enter Tryd.func48, Tryd.ntmps48
    go_wp2_with (first
      | (go_at_call 55; refine (mayRead_yes g C A _ _ HA).mono ?_; rintro e w1 ⟨rfl, rfl⟩)
      | (go_at_call 34; (with_reducible refine (check_true _ _).mono ?_); rintro e w2 ⟨rfl, rfl⟩)
      | (go_at_call 66; (with_reducible refine (uint_yes g most n q q' HU hql2 _ H).mono ?_); rintro e w1 hy; obtain ⟨rfl, HR1, HK1⟩ := Yes.rd hy; clear hy)
      | (go_at_call 65; obtain ⟨A1, C1, hR⟩ := HR1.out; (with_reducible refine (take_no g C1 A1 q' n q'.length (Lib.hid rfl) H2.out _ (Lib.hid hR)).mono ?_); rintro e w2 ⟨rfl, h1, h2⟩))
    exact ⟨rfl, no_end HK1 h1 h2⟩
end Go.Proofs.YtpobfgokikfmbaaDoor

set_option linter.unusedSimpArgs false
set_option linter.unusedVariables false
set_option maxRecDepth 8000
namespace Go.Proofs.YtpobfgokikfmbaaDoor
open Go.RowKit Go.WideShapes Col

theorem assert_gu (v : Value) (w : World) : (Instr.typeAssert (.iface 90 v) 20 90 true).run Tryd.prog w = .ok (.tuple #[v, .bool true]) w := by kernel_rfl
theorem infoRd : (Tryd.prog.info? 66).isSome = true := by kernel_rfl
theorem eql_ptr (g : Nat) (w : World) : (binOp BinOp.eql 40 (.pointer (some ⟨g, 0, none⟩)) (.pointer (some ⟨g, 0, none⟩))).run Tryd.prog w = .ok (.bool true) w := by
  obtain ⟨j, hj⟩ := Option.isSome_iff_exists.1 infoRd
  exact run_eql_ptr_same w _ Tryd.underlying40 hj
set_option maxHeartbeats 1000000 in
theorem threw_yes (g : Nat) (w : World) :
    Calls Tryd.prog 27 #[.pointer (some ⟨g, 0, none⟩), .iface 90 (.agg #[.pointer (some ⟨g, 0, none⟩)])] w fun e w' => e = .returned (.bool true) ∧ Below w.heap.size w w' := by
  have ha := assert_gu (.agg #[.pointer (some ⟨g, 0, none⟩)])
  have hp := eql_ptr g
  go_enter Tryd.func27, Tryd.ntmps27
  go_wp2
  go_ret
  exact ⟨rfl, (Below.refl _ _).alloc (Nat.le_refl _) _⟩

theorem try1_tmps (x : Value) : (#[x] ++ Array.replicate (Tryd.f26.ntmps - (#[x] : Array Value).size) undef) = #[x, undef, undef, undef, undef, undef, undef, undef, undef, undef, undef, undef, undef, undef, undef] := by
  rw [Tryd.ntmps26]; rfl
theorem Gone.cells {w : World} {g : Nat} (h : Gone w g) : ∃ x y z, w.cell? ⟨g, 0, none⟩ = some x ∧ w.cell? ⟨g, 1, none⟩ = some (.bool y) ∧ w.cell? ⟨g, 2, none⟩ = some (.bool z) ∧ w.frozen? ⟨g, 0, none⟩ = false ∧ w.frozen? ⟨g, 1, none⟩ = false ∧ w.frozen? ⟨g, 2, none⟩ = false := by
  obtain ⟨x, y, z, hrow⟩ := h
  exact ⟨x, y, z, by rw [cell_of_row _ _ _ _ _ _ hrow]; rfl, by rw [cell_of_row _ _ _ _ _ _ hrow]; rfl, by rw [cell_of_row _ _ _ _ _ _ hrow]; rfl, row_frozen hrow 0, row_frozen hrow 1, row_frozen hrow 2⟩
theorem kept_wipe (w : World) (g : Nat) (a b c : Value) : Kept (Only g) w (((w.setCell ⟨g, 0, none⟩ a).setCell ⟨g, 1, none⟩ b).setCell ⟨g, 2, none⟩ c) :=
  (((Kept.refl (Only g) w).setCell ⟨g, 0, none⟩ a (.inl rfl)).setCell ⟨g, 1, none⟩ b (.inl rfl)).setCell ⟨g, 2, none⟩ c (.inl rfl)
/-- The deferred closure, where the reader gave up: what was thrown is caught. -/
theorem try1_panicking (v g : Nat) (older : List PanicEntry) (w : World) (hv : w.cell? ⟨v, 0, none⟩ = some (.pointer (some ⟨g, 0, none⟩))) (hG : Hid (Gone w g)) (hvg : v ≠ g) (hlt : v < w.heap.size) :
    CallsD Tryd.prog 26 #[.pointer (some ⟨v, 0, none⟩)] (.panicking (gu g :: older)) w fun e u' w' =>
      e = .returned (.tuple #[]) ∧ u' = .panicking ({ v := .iface 90 (.agg #[.pointer (some ⟨g, 0, none⟩)]), recovered := true } :: older) ∧ Kept (Only g) w w' := by
  obtain ⟨x, y, z, c0, c1, c2, f0, f1, f2⟩ := hG.out.cells
  refine callsD_of_wpS Tryd.func26 rfl fun c₀ cs hu => ?_
  rw [try1_tmps]
  apply wpS_seq
  refine wpS_of_wp ?_
  go_wp2
  simp only [Exit.thenS]
  have hk := kept_wipe w g (.slice none 0 0) (.bool false) (.bool false)
  have hv2 := (hk.cell (p := ⟨v, 0, none⟩) hlt hvg).trans hv
  have HK := Lib.hid hk
  clear hk
  generalize ((w.setCell ⟨g, 0, none⟩ (.slice none 0 0)).setCell ⟨g, 1, none⟩ (.bool false)).setCell ⟨g, 2, none⟩ (.bool false) = w2 at *
  clear c0 c1 c2 f0 f1 f2 hv
  apply wpS_seq
  apply wpS_region
  simp [wpOpsS, go_sem, recoverD, hu, gu, Exit.thenS]
  refine wpS_of_wp ?_
  go_wp2_with (go_at_call 27; refine (threw_yes g _).mono ?_; rintro e w3 ⟨rfl, hb⟩)
  exact ⟨rfl, _, rfl, _, results_none rfl _ _ _, rfl, rfl, HK.out.trans (Kept.of_below hb)⟩
/-- Where all went well it only forgets. -/
theorem try1_returning (v g : Nat) (w : World) (hv : w.cell? ⟨v, 0, none⟩ = some (.pointer (some ⟨g, 0, none⟩))) (hG : Hid (Gone w g)) (hvg : v ≠ g) (hlt : v < w.heap.size) :
    CallsD Tryd.prog 26 #[.pointer (some ⟨v, 0, none⟩)] .returning w fun e u' w' => e = .returned (.tuple #[]) ∧ u' = .returning ∧ Kept (Only g) w w' := by
  obtain ⟨x, y, z, c0, c1, c2, f0, f1, f2⟩ := hG.out.cells
  refine callsD_of_wpS Tryd.func26 rfl fun c₀ cs hu => ?_
  rw [try1_tmps]
  apply wpS_seq
  refine wpS_of_wp ?_
  go_wp2
  simp only [Exit.thenS]
  have hk := kept_wipe w g (.slice none 0 0) (.bool false) (.bool false)
  have HK := Lib.hid hk
  clear hk
  generalize ((w.setCell ⟨g, 0, none⟩ (.slice none 0 0)).setCell ⟨g, 1, none⟩ (.bool false)).setCell ⟨g, 2, none⟩ (.bool false) = w2 at *
  clear c0 c1 c2 f0 f1 f2 hv
  apply wpS_seq
  apply wpS_region
  simp [wpOpsS, go_sem, recoverD, hu, gu, Exit.thenS]
  refine wpS_of_wp ?_
  go_wp2
  exact ⟨rfl, .returning, by rw [← hu], _, results_none rfl _ _ _, rfl, rfl, HK.out⟩
end Go.Proofs.YtpobfgokikfmbaaDoor

set_option linter.unusedSimpArgs false
set_option linter.unusedVariables false
set_option maxRecDepth 8000
namespace Go.Proofs.YtpobfgokikfmbaaDoor
open Go.RowKit Go.WideShapes Col

/-- How a function ends that Try calls. -/
def Tried (g : Nat) (S : Nat → Prop) (R : Bool → World → Prop) (w1 : World) (e : Ending) (w2 : World) : Prop :=
  Kept (fun k => S k ∨ k = g) w1 w2 ∧ ((∃ q', e = .returned (.tuple #[]) ∧ Rd w2 g q' ∧ R (decide (q' = [])) w2) ∨ (e = .panicked [gu g] ∧ Gone w2 g ∧ R false w2))
/-- How Try ends. -/
def TryEnds (S : Nat → Prop) (R : Bool → World → Prop) (w : World) (e : Ending) (w' : World) : Prop := ∃ b, e = .returned (.bool b) ∧ R b w' ∧ Kept S w w'

set_option maxHeartbeats 1000000 in
theorem try_any (F : Nat) (first cap : Array Value) (A : Option Addr) (C : Nat) (q : List Nat) (n : Nat) (hn : Hid (n = q.length)) (hC : n ≤ C) (hC' : C ≤ maxLen) (w : World) (HA : Hid (ByAt w A q)) (S : Nat → Prop) (hS : ∀ k, S k → k < w.heap.size) (R : Nat → Bool → World → Prop) (R' : Bool → World → Prop)
    (hR : ∀ g b w2 w3, w.heap.size ≤ g → R g b w2 → Kept (Only g) w2 w3 → R' b w3)
    (hf : ∀ g w1, w.heap.size ≤ g → Rd w1 g q → Below w.heap.size w w1 → Calls Tryd.prog F (first.push (.pointer (some ⟨g, 0, none⟩)) ++ cap) w1 (Tried g S (R g) w1))
    (hent : ∀ (args : Array Value) (w : World), (callFunc F args).run Tryd.prog w = .ok (.enter F args) w) :
    Calls Tryd.prog 10 #[.slice A n C, .func (.func F) first cap] w (TryEnds S R' w) := by
  have hmf : ∀ (fn : Fn) (first cap : Array Value) (w : World), (Instr.makeFunc fn first cap).run Tryd.prog w = .ok (.func fn first cap) w := fun _ _ _ _ => rfl
  have hnil : ∀ w : World, (binOp BinOp.eql 42 (.func (.func F) first cap) .nilFunc).run Tryd.prog w = .ok (.bool false) w := fun _ => by kernel_rfl
  have HS := Lib.hid hS
  have HR := Lib.hid hR
  have HF := Lib.hid hf
  clear hS hR hf
  obtain ⟨W2, hW2⟩ : ∃ W2, W2 = (w.alloc (.cells #[.slice A n C, .bool true, .bool false] 66)).alloc (.cells #[.pointer (some ⟨w.heap.size, 0, none⟩)] 40) := ⟨_, rfl⟩
  have hbl : Below w.heap.size w W2 := by
    rw [hW2]; exact ((Below.refl _ _).alloc (Nat.le_refl _) _).alloc (by simp) _
  have hrow : W2.heap[w.heap.size]? = some (.cells #[.slice A n C, .bool true, .bool false] 66 (0, 0)) := by
    rw [hW2]; exact heap_alloc2_old w _ _
  have hrd : Rd W2 w.heap.size q := ⟨A, C, by rw [← hn.out]; exact hrow, by rw [← hn.out]; exact hC, hC', HA.out.keep hbl, fun a ha h0 => by
    obtain ⟨b, off, e, hb, -⟩ := HA.out.spot h0
    rw [e] at ha; injection ha with ha; subst ha; exact hb⟩
  have hv : W2.cell? ⟨w.heap.size + 1, 0, none⟩ = some (.pointer (some ⟨w.heap.size, 0, none⟩)) := by
    rw [hW2]; have h := heap_alloc2_new w (.cells #[.slice A n C, .bool true, .bool false] 66) (.cells #[.pointer (some ⟨w.heap.size, 0, none⟩)] 40)
    rw [cell_of_row _ _ _ _ _ _ h]; rfl
  have hsz : w.heap.size + 1 < W2.heap.size := by rw [hW2]; simp
  have HW := Lib.hid hW2
  have HBL := Lib.hid hbl
  have HRD := Lib.hid hrd
  have HV := Lib.hid hv
  have HSZ := Lib.hid hsz
  clear hrow hbl hrd hv hsz hW2
  go_enter_defers Tryd.func10, Tryd.ntmps10
  go_wp2_with fail
  rw [← HW.out]
  refine (HF.out w.heap.size _ (Nat.le_refl _) HRD.out HBL.out).mono ?_
  have hvg : w.heap.size + 1 ≠ w.heap.size := by omega
  have fin : ∀ (w3 w4 : World) (b : Bool), Kept (fun k => S k ∨ k = w.heap.size) W2 w3 → Kept (Only w.heap.size) w3 w4 → R w.heap.size b w3 → TryEnds S R' w (.returned (.bool b)) w4 := fun w3 w4 b h1 h2 hr =>
    ⟨b, rfl, HR.out w.heap.size b w3 w4 (Nat.le_refl _) hr h2,
      ((Kept.of_below HBL.out).trans' h1 (fun i hi => by
        rcases hi with h | h
        · exact .inl h
        · exact .inr (by subst h; exact Nat.le_refl _))).trans' h2 (fun i hi => .inr (by have hi : i = w.heap.size := hi; subst hi; exact Nat.le_refl _))⟩
  have FIN := Lib.hid fin
  clear fin
  have keepv : ∀ (w3 : World), Kept (fun k => S k ∨ k = w.heap.size) W2 w3 → w3.cell? ⟨w.heap.size + 1, 0, none⟩ = some (.pointer (some ⟨w.heap.size, 0, none⟩)) ∧ w.heap.size + 1 < w3.heap.size := fun w3 h1 =>
    ⟨(h1.cell (p := ⟨w.heap.size + 1, 0, none⟩) HSZ.out (by
      rintro (h | h)
      · have h2 := HS.out _ h
        have h2 : w.heap.size + 1 < w.heap.size := h2
        omega
      · exact hvg h)).trans HV.out, Nat.lt_of_lt_of_le HSZ.out h1.size⟩
  have KV := Lib.hid keepv
  clear keepv
  rintro e w3 ⟨hk, ⟨q', rfl, hrd, hr⟩ | ⟨rfl, hg, hr⟩⟩
  · obtain ⟨hv3, hz3⟩ := KV.out _ hk
    obtain ⟨A', C', hA⟩ := hrd
    have HK := Lib.hid hk
    have HRR := Lib.hid hr
    have HAA := Lib.hid hA
    have c0 := hA.c0
    have c2 := hA.c2
    have HG := Lib.hid hA.gone
    clear hk hr hA
    obtain ⟨N, hN⟩ : ∃ N, N = q'.length := ⟨_, rfl⟩
    rw [← hN] at c0
    have HN := Lib.hid hN
    clear hN
    by_cases hz : N = 0
    · subst hz
      have hq : q' = [] := List.eq_nil_of_length_eq_zero HN.out.symm
      subst hq
      have HRT : Hid (R w.heap.size true w3) := Lib.hid (by have := HRR.out; simpa using this)
      clear HRR
      go_wp2
      refine leaves_cons (f := 26) (args := #[.pointer (some ⟨w.heap.size + 1, 0, none⟩)]) (by simp) (by simp [go_sem]) ?_
      refine (try1_returning _ _ _ hv3 HG hvg hz3).mono ?_
      rintro e u' w4 ⟨rfl, rfl, hk4⟩
      refine ⟨_, results_tmp (t := 4) rfl _ _ _, ?_⟩
      exact FIN.out _ _ _ HK.out hk4 HRT.out
    · have hz2 : ((N : Int) == 0) = false := by rw [beq_eq_false_iff_ne]; omega
      have HZ := Lib.hid hz
      have hq : decide (q' = []) = false := by
        rw [decide_eq_false_iff_not]; intro h
        have := HN.out; rw [h] at this; exact HZ.out this
      rw [hq] at HRR
      clear hz hq
      go_wp2
      refine leaves_cons (f := 26) (args := #[.pointer (some ⟨w.heap.size + 1, 0, none⟩)]) (by simp) (by simp [go_sem]) ?_
      refine (try1_returning _ _ _ hv3 HG hvg hz3).mono ?_
      rintro e u' w4 ⟨rfl, rfl, hk4⟩
      refine ⟨_, results_tmp (t := 4) rfl _ _ _, ?_⟩
      exact FIN.out _ _ _ HK.out hk4 HRR.out
  · obtain ⟨hv3, hz3⟩ := KV.out _ hk
    have HK := Lib.hid hk
    have HRR := Lib.hid hr
    have HG := Lib.hid hg
    clear hk hr hg
    go_wp2
    refine leaves_cons (f := 26) (args := #[.pointer (some ⟨w.heap.size + 1, 0, none⟩)]) (by simp) (by simp [go_sem]) ?_
    refine (try1_panicking _ _ [] _ hv3 HG hvg hz3).mono ?_
    rintro e u' w4 ⟨rfl, rfl, hk4⟩
    simp [Leaves, settle, results, Tryd.results10, go_sem]
    exact FIN.out _ _ _ HK.out hk4 HRR.out
end Go.Proofs.YtpobfgokikfmbaaDoor

set_option linter.unusedSimpArgs false
set_option linter.unusedVariables false
set_option maxRecDepth 8000
namespace Go.Proofs.YtpobfgokikfmbaaDoor
open Go.RowKit Go.WideShapes

def Wf64 (x : Int) : Prop := -9223372036854775808 ≤ x ∧ x ≤ 9223372036854775807
/-- A slice value that holds some whole numbers, in a world. -/
def IsAt (w : World) (a : Option Addr) (l : List Int) : Prop := ∀ (k : Nat) (x : Int), l[k]? = some x → Wf64 x ∧ ∃ g off, a = some ⟨g, off, none⟩ ∧ g < w.heap.size ∧ w.cell? ⟨g, off + k, none⟩ = some (.int .i64 x)
theorem IsAt.keep {w w' : World} {a : Option Addr} {l : List Int} (h : IsAt w a l) (hb : Below w.heap.size w w') : IsAt w' a l := fun k x hx => by
  obtain ⟨h1, g, off, h2, h3, h4⟩ := h k x hx
  exact ⟨h1, g, off, h2, Nat.lt_of_lt_of_le h3 hb.size, (hb.cell (p := ⟨g, off + k, none⟩) h3).trans h4⟩
theorem IsAt.wf {w : World} {a : Option Addr} {l : List Int} (h : IsAt w a l) : ∀ x ∈ l, Wf64 x := fun x hx => by
  obtain ⟨k, hk⟩ := List.getElem?_of_mem hx
  exact (h k x hk).1
theorem IsAt.nil (w : World) (a : Option Addr) : IsAt w a [] := fun k x hx => by simp at hx
theorem IsAt.at {w w' : World} {a : Option Addr} {l : List Int} (h : Hid (IsAt w a l)) (hb : Below w.heap.size w w') : Hid (IsAt w' a l) := h.out.keep hb
theorem IsAt.spot {w : World} {a : Option Addr} {l : List Int} (h : IsAt w a l) (h0 : 0 < l.length) : ∃ g off, a = some ⟨g, off, none⟩ ∧ g < w.heap.size ∧ ∀ (k : Nat) (x : Int), l[k]? = some x → w.cell? ⟨g, off + k, none⟩ = some (.int .i64 x) := by
  obtain ⟨-, g, off, rfl, hg, -⟩ := h 0 l[0] (List.getElem?_eq_getElem h0)
  refine ⟨g, off, rfl, hg, fun k x hx => ?_⟩
  obtain ⟨-, g', off', h2, -, hc⟩ := h k x hx
  cases h2
  exact hc
def iv (x : Int) : Value := .int .i64 x
def ivs (l : List Int) : List Value := l.map iv
theorem ivs_length (l : List Int) : (ivs l).length = l.length := List.length_map ..
theorem ivs_append (l m : List Int) : ivs (l ++ m) = ivs l ++ ivs m := List.map_append ..
theorem ivs_one (l : List Int) : ∀ u ∈ ivs l, u.oneCell' = true := fun u hu => by
  obtain ⟨x, -, rfl⟩ := List.mem_map.1 hu; rfl
theorem IsAt.of_row {w : World} {g : Nat} {cs : Array Value} {t : TypeId} {fr : Nat × Nat} (l : List Int) (hl : ∀ x ∈ l, Wf64 x) (hrow : w.heap[g]? = some (.cells cs t fr)) (hcs : (ivs l).IsPrefix cs.toList) : IsAt w (some ⟨g, 0, none⟩) l := fun k x hx => by
  refine ⟨hl x (List.mem_of_getElem? hx), g, 0, rfl, (Array.getElem?_eq_some_iff.1 hrow).1, ?_⟩
  rw [cell_of_row w g (0 + k) cs t fr hrow, Nat.zero_add, ← Array.getElem?_toList]
  obtain ⟨r, hr⟩ := hcs
  have hk : k < (ivs l).length := by rw [ivs_length]; exact (List.getElem?_eq_some_iff.1 hx).1
  rw [← hr, List.getElem?_append_left hk]
  unfold ivs; rw [List.getElem?_map, hx]; rfl
theorem infoI64 : (Tryd.prog.info? 2).map (fun i => (i.zero, i.size, i.bytes)) = some (some (.int .i64 0), 1, 8) := by kernel_rfl
/-- A slice of whole numbers that the call owns: its block lies from B on. -/
def OwnI (w : World) (B : Nat) (A : Option Addr) (n cap : Nat) (l : List Int) : Prop := w.ownsRow B 2 1 (.slice A n cap) n (ivs l) ∧ ∀ x ∈ l, Wf64 x
theorem OwnI.len {w : World} {B n cap : Nat} {A : Option Addr} {l : List Int} (h : OwnI w B A n cap l) : n = l.length := by have := h.1.1; rw [ivs_length] at this; omega
theorem OwnI.caps {w : World} {B n cap : Nat} {A : Option Addr} {l : List Int} (h : OwnI w B A n cap l) : n ≤ cap ∧ cap ≤ maxLen := by
  rcases h.1.2 with ⟨h1, h2⟩ | ⟨g, cap', cur, h1, -, -, h2, h3, -⟩
  · cases h1; exact ⟨Nat.le_refl _, Nat.zero_le _⟩
  · cases h1; exact ⟨h2, h3⟩
theorem OwnI.isAt {w : World} {B n cap : Nat} {A : Option Addr} {l : List Int} (h : OwnI w B A n cap l) : IsAt w A l := by
  rcases h.1.2 with ⟨h1, h2⟩ | ⟨g, cap', cur, h1, hb, hrow, -, -, hs, ht⟩
  · have := h.len
    have hl : l = [] := List.eq_nil_of_length_eq_zero (by omega)
    subst hl; exact IsAt.nil _ _
  · cases h1
    exact IsAt.of_row l h.2 hrow ⟨cur.toList.drop (n * 1), by rw [← ht, List.take_append_drop]⟩
theorem OwnI.nil (w : World) (B : Nat) : OwnI w B none 0 0 [] := ⟨w.ownsRow_nil B _ 1, fun x hx => by cases hx⟩
theorem OwnI.keep {w w' : World} {B n cap : Nat} {A : Option Addr} {l : List Int} (h : OwnI w B A n cap l) (hb : Below w.heap.size w w') : OwnI w' B A n cap l :=
  ⟨h.1.kept (row := none) ⟨hb.os, hb.tape, hb.output, hb.size, fun k hk _ => hb.block k hk⟩ (by rcases A with _ | a <;> simp [Value.ownBlock]), h.2⟩
theorem OwnI.base {w : World} {B n cap : Nat} {A : Option Addr} {l : List Int} (h : OwnI w B A n cap l) : ∀ k, A.map (·.block) = some k → B ≤ k := fun k hk => by
  rcases h.1.2 with ⟨h1, h2⟩ | ⟨g, cap', cur, h1, hb, _⟩
  · cases h1; cases hk
  · cases h1; simp at hk; omega
theorem is_at {w : World} {a : Addr} {l : List Int} (h : IsAt w (some a) l) (j : Nat) (u : Value) (hu : (ivs l)[j]? = some u) : w.cell? (a.add j) = some u := by
  unfold ivs at hu
  rw [List.getElem?_map] at hu
  rcases hx : l[j]? with _ | x
  · rw [hx] at hu; cases hu
  · rw [hx] at hu
    obtain ⟨-, g, off, e, -, hc⟩ := h j x hx
    cases e
    rw [addr_add, hc]; exact hu
/-- append of whole numbers that are some, the source nil, empty or not. -/
theorem run_append_is (w : World) (B : Nat) (A : Option Addr) (n cap : Nat) (l : List Int) (hown : OwnI w B A n cap l) (a : Addr) (m c : Nat) (l2 : List Int) (hm : m = l2.length) (h2 : IsAt w (some a) l2)
    (hbytes : (n + m) * 8 ≤ 140737488355328) (hbase : B ≤ w.heap.size) (ty : TypeId) :
    ∃ A' cap' w', (Builtin.append_ #[50, 50] ty #[.slice A n cap, .slice (some a) m c]).run Tryd.prog w = .ok (.slice A' (n + m) cap') w' ∧ OwnI w' B A' (n + m) cap' (l ++ l2) ∧ w.grownBy w' (A.map (·.block)) := by
  obtain ⟨i0, hi, hz0, hz1, hz2⟩ := info_parts infoI64
  have hlt : ∀ x ∈ l ++ l2, Wf64 x := fun x hx => by
    rcases List.mem_append.1 hx with h | h
    · exact hown.2 x h
    · exact h2.wf x h
  obtain ⟨v', w', hr, h3, h4, h5, h6⟩ := run_append_own_at (P := Tryd.prog) w B 50 ty 2 i0 (.int .i64 0) 1 8 Tryd.underlying50 hi hz0 hz1 hz2 rfl (by decide) _ n (ivs l) hown.1 a m c (ivs l2) (by rw [ivs_length, hm, Nat.mul_one]) (is_at h2) (ivs_one l2) (by unfold maxLen; omega) (by omega) hbase
  rw [← ivs_append] at h3
  rcases h3.2 with ⟨rfl, h0⟩ | ⟨g, cap', cur, rfl, hb, hrest⟩
  · have hn0 : n = 0 := by omega
    have hm0 : m = 0 := by omega
    subst hn0; subst hm0
    exact ⟨none, 0, w', hr, ⟨h3, hlt⟩, by rcases A with _ | _ <;> exact h4⟩
  · exact ⟨_, _, w', hr, ⟨h3, hlt⟩, by rcases A with _ | _ <;> exact h4⟩
theorem wpList_append_is {w : World} {ops : Array Oper} {rest : List Oper} {o : Oper} {a : Act} {Q : Exit → Act → World → Prop} (hgd : o.guard = none) (s x : Operand)
    (ho : o.op = .call { callee := .builtin .append, args := #[s, x], argTypes := #[50, 50] })
    (B : Nat) (A : Option Addr) (n cap : Nat) (l : List Int) (hs : a.eval s = .slice A n cap) (hown : OwnI w B A n cap l) (b : Addr) (m c : Nat) (l2 : List Int) (hx : a.eval x = .slice (some b) m c) (hm : m = l2.length) (h2 : IsAt w (some b) l2)
    (hbytes : (n + m) * 8 ≤ 140737488355328) (hbase : B ≤ w.heap.size)
    (h : ∀ A' cap' w', OwnI w' B A' (n + m) cap' (l ++ l2) → w.grownBy w' (A.map (·.block)) → wpList Tryd.prog ops Q rest (a.put o.dst (.slice A' (n + m) cap')) w') : wpList Tryd.prog ops Q (o :: rest) a w := by
  refine wpList_plain hgd fun K hK => ?_
  obtain ⟨A', cap', w', hr, h3, h4⟩ := run_append_is w B A n cap l hown b m c l2 hm h2 hbytes hbase o.type
  unfold Oper.wp execOp
  simp only [ho, resolve, invoke, builtin, Sem.run_bind, Sem.run_pure, Result.andThen_ok, List.map_toArray, List.map_cons, List.map_nil, hs, hx, hr]
  exact hK _ _ (h A' cap' w' h3 h4)
theorem is_one (w : World) (x : Int) (hx : Wf64 x) : IsAt (w.alloc (.cells #[.int .i64 x] 2)) (some ⟨w.heap.size, 0, none⟩) [x] :=
  IsAt.of_row _ (fun y hy => by simp at hy; subst hy; exact hx) (heap_alloc_new' w _) ⟨[], rfl⟩
end Go.Proofs.YtpobfgokikfmbaaDoor

set_option linter.unusedSimpArgs false
set_option linter.unusedVariables false
set_option maxRecDepth 8000
namespace Go.Proofs.YtpobfgokikfmbaaDoor
open Go.RowKit Go.WideShapes Col
namespace Col
def zz (x : Int) : Nat := if x < 0 then (-2 * x - 1).toNat else (2 * x).toNat
theorem zz_lt {x : Int} (h : Wf64 x) : zz x < 18446744073709551616 := by unfold zz; obtain ⟨h1, h2⟩ := h; split <;> omega
theorem uz_zz {x : Int} : uz (zz x) = x := by
  unfold uz zz
  split <;> split <;> omega
/-- Numbers one behind the other. -/
def lpl (l : List Int) : List Nat := l.flatMap fun x => ub (zz x)
def sub64 (a b : Int) : Int := IntKind.i64.wrap (a - b)
/-- Numbers as their distances. -/
def lde : Int → List Int → List Nat
  | _, [] => []
  | p, x :: l => ub (zz (sub64 x p)) ++ lde x l
theorem sub64_wf (a b : Int) : Wf64 (sub64 a b) := by unfold sub64 Wf64; rw [IntKind.wrap_i64]; omega
end Col

/-- What a call ends with that appends bytes. -/
def Puts (B : Nat) (w : World) (l : List Nat) (e : Ending) (w' : World) : Prop := ∃ A n cap, e = .returned (.slice A n cap) ∧ OwnS w' B A n cap l ∧ Below B w w' ∧ w.heap.size ≤ w'.heap.size
theorem Puts.eq {B : Nat} {w w' : World} {l m : List Nat} {e : Ending} (h : Puts B w l e w') (hm : l = m) : Puts B w m e w' := hm ▸ h
theorem or128 (n : Nat) : bits BinOp.or IntKind.u8 ((n : Int) % 256) 128 = ((n % 128 + 128 : Nat) : Int) := by
  have h : ∀ b : Fin 256, bits BinOp.or IntKind.u8 ((b : Nat) : Int) 128 = (((b : Nat) % 128 + 128 : Nat) : Int) := by decide +kernel
  have e : (n : Int) % 256 = ((n % 256 : Nat) : Int) := by omega
  rw [e, h ⟨n % 256, by omega⟩]
  congr 1
  show n % 256 % 128 + 128 = n % 128 + 128
  omega

theorem xor_zz_neg (x : Int) (h : Wf64 x) (hn : x < 0) : bits BinOp.xor IntKind.u64 (IntKind.u64.wrap (IntKind.u64.wrap x * 2)) 18446744073709551615 = ((zz x : Nat) : Int) := by
  have e : zz x = (-2 * x - 1).toNat := if_pos hn
  obtain ⟨h1, h2⟩ := h
  have e1 : IntKind.u64.wrap (IntKind.u64.wrap x * 2) = (((2 * (x + 9223372036854775808)).toNat : Nat) : Int) := by rw [IntKind.wrap_u64, IntKind.wrap_u64]; omega
  have hb : ∀ a : Nat, a < 18446744073709551616 → bits BinOp.xor IntKind.u64 (a : Int) 18446744073709551615 = ((18446744073709551615 - a : Nat) : Int) := fun a ha => by
    have h1 : (BitVec.ofInt 64 (a : Int)).toNat = a := by
      rw [BitVec.ofInt_natCast, BitVec.toNat_ofNat]; exact Nat.mod_eq_of_lt (by omega)
    have h0 : BitVec.ofInt 64 18446744073709551615 = BitVec.allOnes 64 := by decide
    show IntKind.u64.wrap ((BitVec.ofInt 64 (a : Int) ^^^ BitVec.ofInt 64 18446744073709551615).toNat : Int) = _
    rw [h0, BitVec.xor_allOnes, BitVec.toNat_not, h1, IntKind.wrap_u64]; omega
  rw [e1, hb _ (by omega), e]
  omega
theorem xor_zz_pos (x : Int) (h : Wf64 x) (hn : ¬ x < 0) : bits BinOp.xor IntKind.u64 (x * 2) 0 = ((zz x : Nat) : Int) := by
  have e : zz x = (2 * x).toNat := if_neg hn
  obtain ⟨h1, h2⟩ := h
  have hb : ∀ a : Nat, a < 18446744073709551616 → bits BinOp.xor IntKind.u64 (a : Int) 0 = (a : Int) := fun a ha => by
    have h1 : (BitVec.ofInt 64 (a : Int)).toNat = a := by
      rw [BitVec.ofInt_natCast, BitVec.toNat_ofNat]; exact Nat.mod_eq_of_lt (by omega)
    have h0 : BitVec.ofInt 64 0 = 0#64 := by decide
    show IntKind.u64.wrap ((BitVec.ofInt 64 (a : Int) ^^^ BitVec.ofInt 64 0).toNat : Int) = _
    rw [h0, BitVec.xor_zero, h1, IntKind.wrap_u64]; omega
  have e1 : x * 2 = (((2 * x).toNat : Nat) : Int) := by omega
  rw [e1, hb _ (by omega), e]
end Go.Proofs.YtpobfgokikfmbaaDoor

set_option linter.unusedSimpArgs false
set_option linter.unusedVariables false
set_option maxRecDepth 8000
namespace Go.Proofs.YtpobfgokikfmbaaDoor
open Go.RowKit Go.WideShapes Col
namespace Col
theorem ub10 {n : Nat} (h : n < 18446744073709551616) : (ub n).length ≤ 10 := ub_len 9 n (Nat.lt_trans h (by decide))
theorem zz10 {x : Int} (h : Wf64 x) : (ub (zz x)).length ≤ 10 := ub10 (zz_lt h)
theorem sub64_eq (a b : Int) : sub64 a b = wrap64 (a - b) := by unfold sub64 wrap64; rw [IntKind.wrap_i64]
theorem lpl_nil : lpl [] = [] := rfl
theorem lpl_snoc (l : List Int) (k : Nat) (x : Int) (h : l[k]? = some x) : lpl (l.take (k + 1)) = lpl (l.take k) ++ ub (zz x) := by
  rw [List.take_add_one, h]; simp [lpl]
/-- The last one, and what was ahead of all. -/
def lastOf (p : Int) (l : List Int) : Int := l.getLast?.getD p
theorem lastOf_snoc (p : Int) (l : List Int) (k : Nat) (x : Int) (h : l[k]? = some x) : lastOf p (l.take (k + 1)) = x := by
  rw [List.take_add_one, h]; simp [lastOf]
theorem lde_app : ∀ (p : Int) (l m : List Int), lde p (l ++ m) = lde p l ++ lde (lastOf p l) m
  | p, [], m => rfl
  | p, x :: l, m => by
    rw [List.cons_append, lde, lde, lde_app x l m, List.append_assoc]
    have e : lastOf p (x :: l) = lastOf x l := by
      unfold lastOf
      rcases l with _ | ⟨y, l⟩
      · rfl
      · rw [List.getLast?_cons_cons]
        rcases h : (y :: l).getLast? with _ | z
        · simp at h
        · rfl
    rw [e]
theorem lde_snoc (l : List Int) (k : Nat) (x : Int) (h : l[k]? = some x) : lde 0 (l.take (k + 1)) = lde 0 (l.take k) ++ ub (zz (sub64 x (lastOf 0 (l.take k)))) := by
  rw [List.take_add_one, h]; simp [lde_app, lde]
theorem lastOf_wf (l : List Int) (h : ∀ x ∈ l, Wf64 x) : Wf64 (lastOf 0 l) := by
  unfold lastOf
  rcases hl : l.getLast? with _ | x
  · exact ⟨by simp, by simp⟩
  · exact h x (List.mem_of_getLast? hl)
end Col

theorem int_cell {w : World} {b : Option Addr} {l : List Int} (h : IsAt w b l) (k : Nat) (x : Int) (hx : l[k]? = some x) : Wf64 x ∧ ∃ g off, b = some ⟨g, off, none⟩ ∧ w.cell? ⟨g, off + k, none⟩ = some (.int .i64 x) := by
  obtain ⟨h1, g, off, e, -, h2⟩ := h k x hx
  exact ⟨h1, g, off, e, h2⟩

end Go.Proofs.YtpobfgokikfmbaaDoor

set_option linter.unusedSimpArgs false
set_option linter.unusedVariables false
set_option maxRecDepth 8000
namespace Go.Proofs.YtpobfgokikfmbaaDoor
open Go.RowKit Go.WideShapes Col
theorem icut_from (a : Option Addr) (len cap k : Nat) (hk : k ≤ len) (hc : len ≤ cap) :
    ∃ A C, (∀ w, (Instr.slice 50 (.slice a len cap) (some (.int .i64 (k : Int))) none none).run Tryd.prog w = .ok (.slice A (len - k) C) w) ∧ len - k ≤ C ∧ C ≤ cap ∧ ∀ w l, len = l.length → IsAt w a l → IsAt w A (l.drop k) := by
  refine ⟨if cap = k then a else a.map (·.add k), cap - k, fun w => ?_, by omega, by omega, fun w l hl h j x hx => ?_⟩
  · rw [run_slice_l w 50 a len cap Tryd.underlying50 .i64 (k : Int) (by omega) (by omega)]
    rw [show (Go.sizeOf (Tryd.prog.elem 50)).run Tryd.prog w = .ok 1 w from by kernel_rfl]
    simp [Result.andThen, sliced]
  · rw [List.getElem?_drop] at hx
    obtain ⟨h1, g, off, rfl, hg, hcell⟩ := h _ _ hx
    have hkl := (List.getElem?_eq_some_iff.1 hx).1
    rw [if_neg (by omega)]
    exact ⟨h1, g, off + k, by simp [addr_add], hg, by rw [Nat.add_assoc]; exact hcell⟩
namespace Col
/-- How often a number stands ahead. -/
def runN (x : Int) : List Int → Nat
  | [] => 0
  | y :: l => if y = x then runN x l + 1 else 0
theorem runN_le (x : Int) : ∀ l, runN x l ≤ l.length
  | [] => Nat.le_refl _
  | y :: l => by
    unfold runN
    split
    · have := runN_le x l; simp; omega
    · omega
theorem runN_at (x : Int) : ∀ (l : List Int) (k : Nat), (∀ j, j < k → l[j]? = some x) → (k = l.length ∨ ∃ y, l[k]? = some y ∧ y ≠ x) → runN x l = k
  | [], k, h, h1 => by
    rcases h1 with h1 | ⟨y, h1, -⟩
    · exact h1.symm
    · simp at h1
  | z :: l, 0, h, h1 => by
    rcases h1 with h1 | ⟨y, h1, h2⟩
    · simp at h1
    · simp at h1; subst h1; unfold runN; rw [if_neg h2]
  | z :: l, k + 1, h, h1 => by
    have h0 := h 0 (by omega)
    simp at h0; subst h0
    unfold runN; rw [if_pos rfl, runN_at z l k (fun j hj => by have := h (j + 1) (by omega); simpa using this) (by
      rcases h1 with h1 | ⟨y, h1, h2⟩
      · left; simpa using h1
      · exact .inr ⟨y, by simpa using h1, h2⟩)]
/-- Numbers as their runs. -/
def lru : List Int → List Nat
  | [] => []
  | x :: l => ub (zz x) ++ (ub (runN x l) ++ lru (l.drop (runN x l)))
termination_by l => l.length
decreasing_by simp; omega
theorem lru_nil : lru [] = [] := by rw [lru]
theorem lru_step (l : List Int) (x : Int) (r : Nat) (h1 : 1 ≤ r) (h : ∀ j, j < r → l[j]? = some x) (h2 : r = l.length ∨ ∃ y, l[r]? = some y ∧ y ≠ x) : lru l = ub (zz x) ++ (ub (r - 1) ++ lru (l.drop r)) := by
  rcases l with _ | ⟨z, l⟩
  · have := h 0 (by omega); simp at this
  · have h0 := h 0 (by omega)
    simp at h0; subst h0
    obtain ⟨k, rfl⟩ : ∃ k, r = k + 1 := ⟨r - 1, by omega⟩
    rw [lru, runN_at z l k (fun j hj => by have := h (j + 1) (by omega); simpa using this) (by
      rcases h2 with h1 | ⟨y, h1, h2⟩
      · left; simpa using h1
      · exact .inr ⟨y, by simpa using h1, h2⟩)]
    rfl
end Col
def RL (B : Nat) (W0 w : World) (n m : Nat) (p : List Nat) (l : List Int) (q s : Value) (wr : World) : Prop :=
  ∃ (A' : Option Addr) (n' cap' : Nat) (b' : Option Addr) (m' c' : Nat) (p' : List Nat) (l' : List Int), q = .slice A' n' cap' ∧ s = .slice b' m' c' ∧ m' = l'.length ∧ m' ≤ c' ∧ c' ≤ maxLen ∧ m' ≤ m ∧ n' + 20 * m' ≤ n + 20 * m ∧ p' ++ lru l' = p ++ lru l ∧ OwnS wr B A' n' cap' p' ∧ IsAt W0 b' l' ∧ Below B w wr
theorem all1 {l : List Int} {x : Int} (h : l[0]? = some x) : ∀ j, j < 1 → l[j]? = some x := fun j hj => by
  obtain rfl : j = 0 := by omega
  exact h
def lenOfS : Value → Nat
  | .slice _ n _ => n
  | _ => 0
end Go.Proofs.YtpobfgokikfmbaaDoor

set_option linter.unusedSimpArgs false
set_option linter.unusedVariables false
set_option maxRecDepth 8000
namespace Go.Proofs.YtpobfgokikfmbaaDoor
open Go.RowKit Go.WideShapes Col
namespace Col
/-- A number's k bytes, the lowest first. -/
def leb : Nat → Nat → List Nat
  | 0, _ => []
  | k + 1, n => n % 256 :: leb k (n / 256)
theorem leb_length : ∀ (k n : Nat), (leb k n).length = k
  | 0, _ => rfl
  | k + 1, n => by rw [leb, List.length_cons, leb_length k]
theorem leb_lt : ∀ (k n : Nat), ∀ x ∈ leb k n, x < 256
  | 0, _, x, h => by cases h
  | k + 1, n, x, h => by
    rcases List.mem_cons.1 h with rfl | h
    · exact Nat.mod_lt _ (by decide)
    · exact leb_lt k _ x h
theorem leb_get : ∀ (k n i : Nat), i < k → (leb k n)[i]? = some (n / 2 ^ (8 * i) % 256)
  | k + 1, n, 0, _ => by rw [leb]; simp
  | k + 1, n, i + 1, h => by
    rw [leb, List.getElem?_cons_succ, leb_get k (n / 256) i (by omega), Nat.div_div_eq_div_mul, show 8 * (i + 1) = 8 + 8 * i by omega, Nat.pow_add]
theorem leb_zero : ∀ k, leb k 0 = List.replicate k 0
  | 0 => rfl
  | k + 1 => by rw [leb, Nat.zero_div, leb_zero k]; rfl
theorem leb_ext {k : Nat} {l : List Nat} {n : Nat} (hl : l.length = k) (h : ∀ i, i < k → l[i]? = some (n / 2 ^ (8 * i) % 256)) : l = leb k n := by
  apply List.ext_getElem?
  intro i
  by_cases hi : i < k
  · rw [h i hi, leb_get k n i hi]
  · rw [List.getElem?_eq_none (by omega), List.getElem?_eq_none (by rw [leb_length]; omega)]
/-- The bits of d that go into the byte in which the place at stands. -/
theorem byte_step (a at' d : Nat) (ha : a < 2 ^ at') (i s : Nat) (hi : at' = 8 * i + s) (hs : s < 8) :
    a / 2 ^ (8 * i) % 256 < 2 ^ s ∧ (a + d % 2 ^ (8 - s) * 2 ^ at') / 2 ^ (8 * i) % 256 = a / 2 ^ (8 * i) % 256 + d * 2 ^ s % 256 ∧ a + d % 2 ^ (8 - s) * 2 ^ at' < 2 ^ (8 * (i + 1)) ∧
    (∀ j, j < i → (a + d % 2 ^ (8 - s) * 2 ^ at') / 2 ^ (8 * j) % 256 = a / 2 ^ (8 * j) % 256) ∧ (∀ j, i < j → (a + d % 2 ^ (8 - s) * 2 ^ at') / 2 ^ (8 * j) % 256 = a / 2 ^ (8 * j) % 256) := by
  have hp : 2 ^ at' = 2 ^ (8 * i) * 2 ^ s := by rw [hi, Nat.pow_add]
  have hP : 0 < 2 ^ (8 * i) := Nat.two_pow_pos _
  have hS : 0 < 2 ^ s := Nat.two_pow_pos _
  have h8 : 2 ^ s * 2 ^ (8 - s) = 256 := by rw [← Nat.pow_add, show s + (8 - s) = 8 by omega]
  have hq : a / 2 ^ (8 * i) < 2 ^ s := by rw [Nat.div_lt_iff_lt_mul hP, Nat.mul_comm, ← hp]; exact ha
  have h256 : 2 ^ s ≤ 256 := by rw [← h8]; exact Nat.le_mul_of_pos_right _ (Nat.two_pow_pos _)
  have hR : d % 2 ^ (8 - s) < 2 ^ (8 - s) := Nat.mod_lt _ (Nat.two_pow_pos _)
  have hd : d * 2 ^ s % 256 = d % 2 ^ (8 - s) * 2 ^ s := by
    rw [← h8, Nat.mul_comm d, Nat.mul_mod_mul_left, Nat.mul_comm]
  generalize d % 2 ^ (8 - s) = R at *
  have hsum : (a + R * 2 ^ at') / 2 ^ (8 * i) = a / 2 ^ (8 * i) + R * 2 ^ s := by
    rw [hp, show R * (2 ^ (8 * i) * 2 ^ s) = 2 ^ (8 * i) * (R * 2 ^ s) by rw [Nat.mul_left_comm]]
    exact Nat.add_mul_div_left _ _ hP
  have hlt : a / 2 ^ (8 * i) + R * 2 ^ s < 256 := by
    have h1 : (R + 1) * 2 ^ s ≤ 2 ^ (8 - s) * 2 ^ s := Nat.mul_le_mul_right _ hR
    rw [Nat.add_mul, Nat.one_mul, Nat.mul_comm (2 ^ (8 - s)), h8] at h1
    omega
  have hbig : a + R * 2 ^ at' < 2 ^ (8 * (i + 1)) := by
    have h1 := (Nat.div_lt_iff_lt_mul hP).1 (show (a + R * 2 ^ at') / 2 ^ (8 * i) < 2 ^ 8 by rw [hsum]; exact hlt)
    rw [show 8 * (i + 1) = 8 + 8 * i by omega, Nat.pow_add]; exact h1
  refine ⟨by rw [Nat.mod_eq_of_lt (by omega)]; exact hq, ?_, hbig, fun j hj => ?_, fun j hj => ?_⟩
  · rw [hsum, hd, Nat.mod_eq_of_lt hlt, Nat.mod_eq_of_lt (by omega : a / 2 ^ (8 * i) < 256)]
  · obtain ⟨k, rfl⟩ : ∃ k, i = j + 1 + k := ⟨i - j - 1, by omega⟩
    have e : R * 2 ^ at' = 2 ^ (8 * j) * (256 * (2 ^ (8 * k) * (R * 2 ^ s))) := by
      rw [hp, show 8 * (j + 1 + k) = 8 * j + (8 + 8 * k) by omega, Nat.pow_add, Nat.pow_add, show (256 : Nat) = 2 ^ 8 from rfl]
      simp only [Nat.mul_comm, Nat.mul_left_comm, Nat.mul_assoc]
    rw [e, Nat.add_mul_div_left _ _ (Nat.two_pow_pos _), Nat.add_mul_mod_self_left]
  · have h1 : 2 ^ (8 * (i + 1)) ≤ 2 ^ (8 * j) := Nat.pow_le_pow_right (by decide) (by omega)
    rw [Nat.div_eq_of_lt (by omega), Nat.div_eq_of_lt (by have : a ≤ a + R * 2 ^ at' := Nat.le_add_right _ _; omega)]
theorem leb_set (K a at' d : Nat) (ha : a < 2 ^ at') (i s : Nat) (hi : at' = 8 * i + s) (hs : s < 8) (hK : i < K) :
    (leb K a).set i (a / 2 ^ (8 * i) % 256 + d * 2 ^ s % 256) = leb K (a + d % 2 ^ (8 - s) * 2 ^ at') := by
  obtain ⟨-, h2, -, h4, h5⟩ := byte_step a at' d ha i s hi hs
  refine leb_ext (by rw [List.length_set, leb_length]) fun j hj => ?_
  rw [List.getElem?_set]
  by_cases e : i = j
  · subst e
    rw [if_pos rfl, if_pos (by rw [leb_length]; omega), h2]
  · rw [if_neg e, leb_get K a j hj]
    rcases Nat.lt_or_gt_of_ne e with h | h
    · rw [h5 j h]
    · rw [h4 j h]
theorem split_d (d s : Nat) (hs : s < 8) : d = d % 2 ^ (8 - s) + 2 ^ (8 - s) * (d / 2 ^ (8 - s)) := (Nat.mod_add_div _ _).symm
theorem or_u8 (s b x : Nat) (hs : s < 8) (hb : b < 2 ^ s) (hx : x < 256) (hm : x % 2 ^ s = 0) : bits BinOp.or IntKind.u8 (b : Int) (x : Int) = ((b + x : Nat) : Int) := by
  have hb2 : b < 256 := Nat.lt_of_lt_of_le hb (by
    have : 2 ^ s ≤ 2 ^ 8 := Nat.pow_le_pow_right (by decide) (by omega)
    exact this)
  have h1 : ∀ n : Nat, n < 256 → (BitVec.ofInt 8 (n : Int)).toNat = n := fun n hn => by
    rw [BitVec.ofInt_natCast, BitVec.toNat_ofNat]; exact Nat.mod_eq_of_lt hn
  show IntKind.u8.wrap ((BitVec.ofInt 8 (b : Int) ||| BitVec.ofInt 8 (x : Int)).toNat : Int) = _
  rw [BitVec.toNat_or, h1 b hb2, h1 x hx]
  obtain ⟨q, rfl⟩ : ∃ q, x = 2 ^ s * q := ⟨x / 2 ^ s, by have := Nat.mod_add_div x (2 ^ s); omega⟩
  have e : b ||| 2 ^ s * q = 2 ^ s * q + b := by rw [Nat.or_comm, Nat.two_pow_add_eq_or_of_lt hb]
  rw [e, IntKind.wrap_u8]
  have hbx : 2 ^ s * q + b < 256 := by
    have hqp : q * 2 ^ s < 256 := by rw [Nat.mul_comm]; exact hx
    have hdv : 2 ^ s * 2 ^ (8 - s) = 256 := by rw [← Nat.pow_add, show s + (8 - s) = 8 by omega]
    have hq1 : q < 2 ^ (8 - s) := Nat.lt_of_mul_lt_mul_left (a := 2 ^ s) (by rw [hdv]; exact hx)
    have : 2 ^ s * (q + 1) ≤ 2 ^ s * 2 ^ (8 - s) := Nat.mul_le_mul_left _ hq1
    rw [hdv, Nat.mul_add] at this; omega
  omega
theorem shl_u8 (d s : Nat) (hs : s < 8) : IntKind.u8.wrap (IntKind.u64.wrap ((d : Int) * 2 ^ s)) = ((d * 2 ^ s % 256 : Nat) : Int) := by
  rw [wrap_shl, IntKind.wrap_u8]; omega
theorem mod_dvd (d s : Nat) (hs : s < 8) : d * 2 ^ s % 256 % 2 ^ s = 0 := by
  have h8 : 2 ^ s * 2 ^ (8 - s) = 256 := by rw [← Nat.pow_add, show s + (8 - s) = 8 by omega]
  rw [← h8, Nat.mul_comm d, Nat.mul_mod_mul_left, Nat.mul_mod_right]
end Col

/-- A row of bytes that is all of a slice. -/
def RowB (w : World) (g : Nat) (l : List Nat) : Prop := w.heap[g]? = some (.cells (bys l).toArray 5 (0, 0))
section
variable {w : World} {g : Nat} {l : List Nat}
theorem RowB.cell (h : RowB w g l) (i x : Nat) (hx : l[i]? = some x) : w.cell? ⟨g, i, none⟩ = some (.int .u8 (x : Int)) := by
  rw [cell_of_row _ _ _ _ _ _ h, List.getElem?_toArray]; unfold bys; rw [List.getElem?_map, hx]; rfl
theorem RowB.fr (h : RowB w g l) (i : Nat) : w.frozen? ⟨g, i, none⟩ = false := row_frozen h i
theorem RowB.drew (h : RowB w g l) : RowB w.drew g l := h
theorem RowB.set (h : RowB w g l) (i x : Nat) (hi : i < l.length) : RowB (w.setCell ⟨g, i, none⟩ (.int .u8 (x : Int))) g (l.set i x) := by
  unfold RowB at *
  rw [World.setCell]
  simp only [Array.getElem?_modify, if_pos, h, Option.map_some]
  have e : (bys l).toArray.setIfInBounds i (.int .u8 (x : Int)) = (bys (l.set i x)).toArray := by
    unfold bys; rw [List.map_set]; simp; rfl
  simp [e]
theorem RowB.keep {w' : World} {S : Nat → Prop} (h : RowB w g l) (hk : Kept S w w') (hg : ¬ S g) : RowB w' g l := hk.heap h hg
end
def PB (g K T : Nat) (w0 : World) (p q : Value) (wr : World) : Prop := ∃ a d at' : Nat, p = .int .i64 (at' : Int) ∧ q = .int .u64 (d : Int) ∧ d < 18446744073709551616 ∧ a < 2 ^ at' ∧ a + d * 2 ^ at' = T ∧ at' < 1099511627776 + 8 ∧ RowB wr g (leb K a) ∧ Kept (Only g) w0 wr
end Go.Proofs.YtpobfgokikfmbaaDoor
