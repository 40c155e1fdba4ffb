/-
  Layer column: the reader: its row, mayRead, Check, take, Byte.
-/
import Derived.Recover
import Derived.Test.YtljelocomjbanaaQPaback2
import Derived.Lib.ConvBytes
import Derived.Lib.AppendStr
import Derived.Test.YtljelocomjbanaaQPaback1
set_option linter.unusedSimpArgs false
set_option linter.unusedVariables false
set_option maxRecDepth 8000
namespace Go.Proofs.Ytljelocomjbanaa
open Go.RowKit Go.WideShapes

section
variable {S S' : Nat → Prop} {a b c w w' : World}
/-- Bytes that don't lie in what is written. -/
def Off (S : Nat → Prop) (A : Option Addr) (l : List Nat) : Prop := ∀ a, A = some a → 0 < l.length → ¬ S a.block
theorem ByAt.kept {A : Option Addr} {l : List Nat} (h : ByAt w A l) (hk : Kept S w w') (ho : Off S A l) : ByAt w' A l := fun k x hx => by
  obtain ⟨h1, g, off, h2, h3, h4⟩ := h k x hx
  have hl : 0 < l.length := by have := (List.getElem?_eq_some_iff.1 hx).1; omega
  exact ⟨h1, g, off, h2, Nat.lt_of_lt_of_le h3 hk.size, (hk.cell (p := ⟨g, off + k, none⟩) h3 (ho ⟨g, off, none⟩ h2 hl)).trans h4⟩
end

/-- A reader whose Try is under way: what is left of its bytes. -/
structure RdA (w : World) (g : Nat) (A : Option Addr) (C : Nat) (q : List Nat) : Prop where
  row : w.heap[g]? = some (.cells #[.slice A q.length C, .bool true, .bool false] 107 (0, 0))
  cap : q.length ≤ C
  cap' : C ≤ maxLen
  bytes : ByAt w A q
  low : ∀ a, A = some a → 0 < q.length → a.block < g
def Rd (w : World) (g : Nat) (q : List Nat) : Prop := ∃ A C, RdA w g A C q
/-- A reader that gave up. -/
def Gone (w : World) (g : Nat) : Prop := ∃ x y z, w.heap[g]? = some (.cells #[x, .bool y, .bool z] 107 (0, 0))
def gu (g : Nat) : PanicEntry := { v := .iface 142 (.agg #[.pointer (some ⟨g, 0, none⟩)]), recovered := false }
abbrev Only (g : Nat) : Nat → Prop := fun k => k = g

section
variable {w w' : World} {g C : Nat} {A : Option Addr} {q : List Nat}
theorem RdA.lt (h : RdA w g A C q) : g < w.heap.size := (Array.getElem?_eq_some_iff.1 h.row).1
theorem RdA.c0 (h : RdA w g A C q) : w.cell? ⟨g, 0, none⟩ = some (.slice A q.length C) := by rw [cell_of_row _ _ _ _ _ _ h.row]; rfl
theorem RdA.c1 (h : RdA w g A C q) : w.cell? ⟨g, 1, none⟩ = some (.bool true) := by rw [cell_of_row _ _ _ _ _ _ h.row]; rfl
theorem RdA.c2 (h : RdA w g A C q) : w.cell? ⟨g, 2, none⟩ = some (.bool false) := by rw [cell_of_row _ _ _ _ _ _ h.row]; rfl
theorem RdA.fr (h : RdA w g A C q) (i : Nat) : w.frozen? ⟨g, i, none⟩ = false := row_frozen h.row i
theorem RdA.off (h : RdA w g A C q) : Off (Only g) A q := fun a ha hl hs => by
  obtain ⟨b, off, e, hb, hc⟩ := h.bytes.spot hl
  rw [e] at ha; injection ha with ha; subst ha
  have hc0 := hc 0 q[0] (List.getElem?_eq_getElem hl)
  have hs : b = g := hs
  subst hs
  rw [cell_of_row _ _ _ _ _ _ h.row] at hc0
  have hj : off + 0 < 3 := (Array.getElem?_eq_some_iff.1 hc0).1
  rcases (by omega : off + 0 = 0 ∨ off + 0 = 1 ∨ off + 0 = 2) with h1 | h1 | h1 <;> · rw [h1] at hc0; simp at hc0
theorem RdA.gone (h : RdA w g A C q) : Gone w g := ⟨_, _, _, h.row⟩
theorem Gone.set2 (h : Gone w g) (u : Bool) : Gone (w.setCell ⟨g, 2, none⟩ (.bool u)) g := by
  obtain ⟨x, y, z, h⟩ := h
  exact ⟨x, y, u, by rw [World.setCell]; simp [Array.getElem?_modify, h]⟩
theorem RdA.keep {S : Nat → Prop} (h : RdA w g A C q) (hk : Kept S w w') (hg : ¬ S g) (ho : Off S A q) : RdA w' g A C q :=
  ⟨hk.heap h.row hg, h.cap, h.cap', h.bytes.kept hk ho, h.low⟩
theorem RdA.drewN (h : RdA w g A C q) (n : Nat) : RdA (w.drewN n) g A C q := ⟨h.row, h.cap, h.cap', h.bytes.keep (below_drewN (Below.refl _ _) n), h.low⟩
/-- The reader goes on. -/
theorem RdA.next (h : RdA w g A C q) {A' : Option Addr} {C' : Nat} {q' : List Nat} (h1 : q'.length ≤ C') (h2 : C' ≤ maxLen) (h3 : ByAt w A' q') (h4 : Off (Only g) A' q') (h5 : ∀ a, A' = some a → 0 < q'.length → a.block < g) : RdA (w.setCell ⟨g, 0, none⟩ (.slice A' q'.length C')) g A' C' q' :=
  ⟨by rw [World.setCell]; simp [Array.getElem?_modify, h.row], h1, h2, h3.kept ((Kept.refl (Only g) w).setCell _ _ (.inl rfl)) h4, h5⟩
end

set_option maxHeartbeats 400000 in
theorem mayRead_yes (g C : Nat) (A : Option Addr) (q : List Nat) (w : World) (H : Hid (RdA w g A C q)) :
    Calls Try.prog 97 #[.pointer (some ⟨g, 0, none⟩)] w fun e w' => e = .returned (.bool true) ∧ w = w' := by
  have c1 := H.out.c1
  go_enter Try.func97, Try.ntmps97
  go_wp2
  go_ret
  exact ⟨rfl, rfl⟩
set_option maxHeartbeats 400000 in
theorem check_true (p : Value) (w : World) :
    Calls Try.prog 66 #[p, .bool true] w fun e w' => e = .returned (.tuple #[]) ∧ w = w' := by
  go_enter Try.func66, Try.ntmps66
  go_wp2
  exact bodyPost_ret (results_none rfl _ _ _) rfl ⟨rfl, rfl⟩
set_option maxHeartbeats 400000 in
theorem check_false (g C : Nat) (A : Option Addr) (q : List Nat) (w : World) (H : Hid (RdA w g A C q)) :
    Calls Try.prog 66 #[.pointer (some ⟨g, 0, none⟩), .bool false] w fun e w' => e = .panicked [gu g] ∧ Gone w' g ∧ Kept (Only g) w w' := by
  have f2 := H.out.fr 2
  have c2 := H.out.c2
  go_enter Try.func66, Try.ntmps66
  go_wp2_with (go_at_call 97; refine (mayRead_yes g C A q _ H).mono ?_; rintro e w1 ⟨rfl, rfl⟩)
  exact ⟨rfl, rfl, H.out.gone.set2 true, (Kept.refl _ _).setCell _ _ (.inl rfl)⟩

/-- How a reading ends: with a value, and the rest; or by giving up. -/
def Yes (g : Nat) (w : World) (v : Value) (q : List Nat) (e : Ending) (w' : World) : Prop := e = .returned v ∧ Rd w' g q ∧ Kept (Only g) w w'
def No (g : Nat) (w : World) (e : Ending) (w' : World) : Prop := e = .panicked [gu g] ∧ Gone w' g ∧ Kept (Only g) w w'
/-- The next n bytes. -/
def Took (g : Nat) (w : World) (n : Nat) (q : List Nat) (e : Ending) (w' : World) : Prop := ∃ A C, e = .returned (.slice A n C) ∧ n ≤ C ∧ C ≤ maxLen ∧ ByAt w A (q.take n) ∧ Off (Only g) A (q.take n) ∧ Rd w' g (q.drop n) ∧ Kept (Only g) w w' ∧ (∀ a, A = some a → 0 < (q.take n).length → a.block < g)

theorem RdA.next' {w : World} {g C : Nat} {A : Option Addr} {q : List Nat} (h : RdA w g A C q) {A' : Option Addr} {C' n : Nat} {q' : List Nat} (hn : n = q'.length) (h1 : n ≤ C') (h2 : C' ≤ maxLen) (h3 : ByAt w A' q') (h4 : Off (Only g) A' q') (h5 : ∀ a, A' = some a → 0 < q'.length → a.block < g) : RdA (w.setCell ⟨g, 0, none⟩ (.slice A' n C')) g A' C' q' := by
  subst hn; exact h.next h1 h2 h3 h4 h5
theorem byte_there {g x n : Nat} {w w' : World} {A : Option Addr} {q : List Nat} (h : ByAt w A ((x :: q).take (n + 1))) (ho : Off (Only g) A ((x :: q).take (n + 1))) (hk : Kept (Only g) w w') : ∃ b off, A = some ⟨b, off, none⟩ ∧ w'.cell? ⟨b, off, none⟩ = some (.int .u8 (x : Int)) ∧ b < w'.heap.size := by
  obtain ⟨-, b, off, e, hb, hc⟩ := h 0 x (by simp)
  exact ⟨b, off, e, (hk.cell (p := ⟨b, off + 0, none⟩) hb (ho _ e (by simp))).trans hc, Nat.lt_of_lt_of_le hb hk.size⟩
theorem Off.of {g : Nat} {w : World} {A C} {q : List Nat} (h : RdA w g A C q) {A' : Option Addr} {q' : List Nat} (h' : ByAt w A' q') : Off (Only g) A' q' := fun a ha hl hs => by
  obtain ⟨b, off, e, hb, hc⟩ := h'.spot hl
  rw [e] at ha; injection ha with ha; subst ha
  have hc0 := hc 0 q'[0] (List.getElem?_eq_getElem hl)
  have hs : b = g := hs
  subst hs
  rw [cell_of_row _ _ _ _ _ _ h.row] at hc0
  have hj : off + 0 < 3 := (Array.getElem?_eq_some_iff.1 hc0).1
  rcases (by omega : off + 0 = 0 ∨ off + 0 = 1 ∨ off + 0 = 2) with h1 | h1 | h1 <;> · rw [h1] at hc0; simp at hc0

theorem add_block (d : Addr) (k : Nat) : (d.add k).block = d.block := by
  unfold Addr.add; split <;> rfl
theorem cut_fromU (a : Option Addr) (len cap k : Nat) (hk : k ≤ len) (hc : len ≤ cap) :
    ∃ A C, (∀ w, (Instr.slice 39 (.slice a len cap) (some (.int .u64 (k : Int))) none none).run Try.prog w = .ok (.slice A (len - k) C) w) ∧ len - k ≤ C ∧ C ≤ cap ∧ (∀ w l, len = l.length → ByAt w a l → ByAt w A (l.drop k)) ∧ ∀ c, A = some c → ∃ d, a = some d ∧ c.block = d.block := by
  refine ⟨if cap = k then a else a.map (·.add k), cap - k, fun w => ?_, by omega, by omega, fun w l hl h j x hx => ?_, fun c hc' => ?_⟩
  · rw [run_slice_l w 39 a len cap Try.underlying39 .u64 (k : Int) (by omega) (by omega)]
    rw [show (Go.sizeOf (Try.prog.elem 39)).run Try.prog w = .ok 1 w from by kernel_rfl]
    simp [Result.andThen, sliced]
  · rw [List.getElem?_drop] at hx
    obtain ⟨h1, g, off, rfl, hg, hcell⟩ := h _ _ hx
    have hkl := (List.getElem?_eq_some_iff.1 hx).1
    rw [if_neg (by omega)]
    exact ⟨h1, g, off + k, by simp [addr_add], hg, by rw [Nat.add_assoc]; exact hcell⟩
  · split at hc'
    · exact ⟨c, hc', rfl⟩
    · rcases a with _ | d
      · cases hc'
      · injection hc' with hc'; subst hc'; exact ⟨d, rfl, add_block d _⟩
theorem cut_toU (a : Option Addr) (len cap k : Nat) (hk : k ≤ len) (hc : len ≤ cap) :
    ∃ A, (∀ w, (Instr.slice 39 (.slice a len cap) none (some (.int .u64 (k : Int))) none).run Try.prog w = .ok (.slice A k cap) w) ∧ (∀ w l, len = l.length → ByAt w a l → ByAt w A (l.take k)) ∧ ∀ c, A = some c → ∃ d, a = some d ∧ c.block = d.block := by
  refine ⟨if cap = 0 then a else a.map (·.add 0), fun w => ?_, fun w l hl h j x hx => ?_, fun c hc' => ?_⟩
  · rw [run_slice_h w 39 a len cap Try.underlying39 .u64 (k : Int) (by omega) (by omega)]
    rw [show (Go.sizeOf (Try.prog.elem 39)).run Try.prog w = .ok 1 w from by kernel_rfl]
    simp [Result.andThen, sliced]
  · rw [List.getElem?_take] at hx
    split at hx
    · obtain ⟨h1, g, off, rfl, hg, hcell⟩ := h _ _ hx
      exact ⟨h1, g, off, by simp [addr_add], hg, hcell⟩
    · cases hx
  · split at hc'
    · exact ⟨c, hc', rfl⟩
    · rcases a with _ | d
      · cases hc'
      · injection hc' with hc'; subst hc'; exact ⟨d, rfl, add_block d _⟩
set_option maxHeartbeats 1000000 in
theorem take_yes (g C : Nat) (A : Option Addr) (q : List Nat) (n L : Nat) (HL : Hid (L = q.length)) (hn : n ≤ L) (w : World) (H : Hid (RdA w g A C q)) :
    Calls Try.prog 125 #[.pointer (some ⟨g, 0, none⟩), .int .u64 (n : Int)] w (Took g w n q) := by
  have c0 := H.out.c0
  have f0 := H.out.fr 0
  have hC := H.out.cap
  have hC' := H.out.cap'
  rw [← HL.out] at c0 hC
  have hC' : C ≤ 9223372036854775807 := hC'
  obtain ⟨A1, r1, d1, e1⟩ := cut_toU A L C n hn hC
  obtain ⟨A2, C2, r2, d2, d3, d4, e2⟩ := cut_fromU A L C n hn hC
  have E1 : Hid (∀ a, A1 = some a → 0 < (q.take n).length → a.block < g) := Lib.hid fun a ha h0 => by
    obtain ⟨d, hd, e⟩ := e1 a ha
    rw [e]; exact H.out.low d hd (by rw [List.length_take] at h0; omega)
  have E2 : Hid (∀ a, A2 = some a → 0 < (q.drop n).length → a.block < g) := Lib.hid fun a ha h0 => by
    obtain ⟨d, hd, e⟩ := e2 a ha
    rw [e]; exact H.out.low d hd (by rw [List.length_drop] at h0; omega)
  have D1 := Lib.hid (d1 w q HL.out H.out.bytes)
  have D4 := Lib.hid (d4 w q HL.out H.out.bytes)
  clear d1 d4 e1 e2
  go_enter Try.func125, Try.ntmps125
  go_wp2_with (go_at_call 66; refine (check_true _ _).mono ?_; rintro e w1 ⟨rfl, rfl⟩)
  go_ret
  exact ⟨A1, C, rfl, by omega, H.out.cap', D1.out, Off.of H.out D1.out, ⟨A2, C2, H.out.next' (by rw [List.length_drop, HL.out]) d2 (Nat.le_trans d3 H.out.cap') D4.out (Off.of H.out D4.out) E2.out⟩, (Kept.refl _ _).setCell _ _ (.inl rfl), E1.out⟩
set_option maxHeartbeats 1000000 in
theorem take_no (g C : Nat) (A : Option Addr) (q : List Nat) (n L : Nat) (HL : Hid (L = q.length)) (hn : L < n) (w : World) (H : Hid (RdA w g A C q)) :
    Calls Try.prog 125 #[.pointer (some ⟨g, 0, none⟩), .int .u64 (n : Int)] w (No g w) := by
  have c0 := H.out.c0
  have hC := H.out.cap
  have hC' := H.out.cap'
  rw [← HL.out] at c0 hC
  have hC' : C ≤ 9223372036854775807 := hC'
  have hd : ¬ n ≤ L := by omega
  have hd2 : decide (n ≤ L) = false := by simpa using hn
  go_enter Try.func125, Try.ntmps125
  go_wp2_with (go_at_call 66; (with_reducible refine (check_false g C A q _ H).mono ?_); rintro e w1 ⟨rfl, h1, h2⟩)
  exact ⟨rfl, rfl, h1, h2⟩
set_option maxHeartbeats 1000000 in
theorem byte_yes (g : Nat) (x : Nat) (q : List Nat) (w : World) (H : Hid (Rd w g (x :: q))) :
    Calls Try.prog 123 #[.pointer (some ⟨g, 0, none⟩)] w (Yes g w (.int .u8 (x : Int)) q) := by
  obtain ⟨A, C, h⟩ := H.out
  have h := Lib.hid h
  go_enter Try.func123, Try.ntmps123
  go_wp2_with (first
    | (go_at_call 97; refine (mayRead_yes g C A _ _ h).mono ?_; rintro e w1 ⟨rfl, rfl⟩)
    | (go_at_call 125; refine (take_yes g C A (x :: q) 1 (q.length + 1) (Lib.hid (List.length_cons ..).symm) (by omega) _ h).mono ?_; rintro e w1 ⟨A1, C1, rfl, a1, a2, a3, a4, a5, a6, a7⟩; clear a7; obtain ⟨b1, b2, b3, b4, b5⟩ := byte_there (n := 0) a3 a4 a6; subst b3; clear a3 a4 b5; have a5 := Lib.hid a5; have a6 := Lib.hid a6))
  go_ret
  exact ⟨rfl, a5.out, a6.out⟩
set_option maxHeartbeats 1000000 in
theorem byte_no (g : Nat) (w : World) (H : Hid (Rd w g [])) :
    Calls Try.prog 123 #[.pointer (some ⟨g, 0, none⟩)] w (No g w) := by
  obtain ⟨A, C, h⟩ := H.out
  have h := Lib.hid h
  go_enter Try.func123, Try.ntmps123
  go_wp2_with (first
    | (go_at_call 97; refine (mayRead_yes g C A _ _ h).mono ?_; rintro e w1 ⟨rfl, rfl⟩)
    | (go_at_call 125; refine (take_no g C A [] 1 0 (Lib.hid rfl) (by omega) _ h).mono ?_; rintro e w1 ⟨rfl, h1, h2⟩))
  exact ⟨rfl, rfl, h1, h2⟩
end Go.Proofs.Ytljelocomjbanaa

set_option linter.unusedSimpArgs false
set_option linter.unusedVariables false
namespace Go.Proofs.Ytljelocomjbanaa
namespace Col

/-- A number as bytes. -/
def ub (n : Nat) : List Nat := if h : n < 128 then [n] else (n % 128 + 128) :: ub (n / 128)
termination_by n
decreasing_by omega
theorem ub_lt {n : Nat} (h : n < 128) : ub n = [n] := by rw [ub, dif_pos h]
theorem ub_ge {n : Nat} (h : 128 ≤ n) : ub n = (n % 128 + 128) :: ub (n / 128) := by rw [ub, dif_neg (by omega)]
theorem ub_bytes (n : Nat) : ∀ x ∈ ub n, x < 256 := by
  induction n using Nat.strongRecOn with
  | ind n ih =>
    intro x hx
    by_cases h : n < 128
    · rw [ub_lt h] at hx; simp at hx; omega
    · rw [ub_ge (by omega)] at hx
      rcases List.mem_cons.1 hx with rfl | hx
      · omega
      · exact ih (n / 128) (by omega) x hx
theorem ub_pos (n : Nat) : 0 < (ub n).length := by
  by_cases h : n < 128
  · rw [ub_lt h]; simp
  · rw [ub_ge (by omega)]; simp
theorem ub_len (k : Nat) : ∀ n : Nat, n < 2 ^ (7 * (k + 1)) → (ub n).length ≤ k + 1 := by
  induction k with
  | zero => intro n h; rw [ub_lt (by simpa using h)]; simp
  | succ k ih =>
    intro n h
    by_cases h1 : n < 128
    · rw [ub_lt h1]; simp
    · rw [ub_ge (by omega), List.length_cons]
      have : n / 128 < 2 ^ (7 * (k + 1)) := by
        rw [Nat.div_lt_iff_lt_mul (by decide)]
        rw [show 7 * (k + 1 + 1) = 7 * (k + 1) + 7 by omega, Nat.pow_add] at h
        exact h
      have := ih _ this
      omega
/-- The next number of some bytes, from its k-th group on. -/
def grp : Nat → List Nat → Option (Nat × List Nat)
  | _, [] => none
  | k, b :: q => if 9 < k ∨ (k = 9 ∧ 1 < b) then none else if b < 128 then (if b = 0 ∧ 0 < k then none else some (b, q)) else (grp (k + 1) q).map fun p => (b % 128 + 128 * p.1, p.2)
theorem grp_big (k : Nat) (h : 9 < k) (q : List Nat) : grp k q = none := by
  cases q with
  | nil => rfl
  | cons b q => rw [grp, if_pos (.inl h)]
theorem grp_end {k b : Nat} {q : List Nat} (h : ¬ (9 < k ∨ (k = 9 ∧ 1 < b))) (hb : b < 128) (h0 : ¬ (b = 0 ∧ 0 < k)) : grp k (b :: q) = some (b, q) := by rw [grp, if_neg h, if_pos hb, if_neg h0]
theorem grp_zero {k : Nat} {q : List Nat} (h0 : 0 < k) : grp k (0 :: q) = none := by
  rw [grp]; split
  · rfl
  · rw [if_pos (by omega), if_pos ⟨rfl, h0⟩]
theorem grp_on {k b : Nat} {q : List Nat} (h : k ≤ 8) (hb : 128 ≤ b) : grp k (b :: q) = (grp (k + 1) q).map fun p => (b % 128 + 128 * p.1, p.2) := by rw [grp, if_neg (by omega), if_neg (by omega)]
/-- What was read of it goes ahead. -/
def plus (k acc : Nat) (o : Option (Nat × List Nat)) : Option (Nat × List Nat) := o.map fun p => (acc + 2 ^ (7 * k) * p.1, p.2)
theorem plus_zero (o : Option (Nat × List Nat)) : plus 0 0 o = o := by
  cases o with
  | none => rfl
  | some p => simp [plus]
theorem plus_on {k acc b : Nat} {q : List Nat} (h : k ≤ 8) (hb : 128 ≤ b) : plus k acc (grp k (b :: q)) = plus (k + 1) (acc + 2 ^ (7 * k) * (b % 128)) (grp (k + 1) q) := by
  rw [grp_on h hb]
  unfold plus
  rw [Option.map_map]
  congr 1
  funext p
  have : 2 ^ (7 * (k + 1)) = 2 ^ (7 * k) * 128 := by rw [show 7 * (k + 1) = 7 * k + 7 by omega, Nat.pow_add]
  show (acc + 2 ^ (7 * k) * (b % 128 + 128 * p.1), p.2) = (acc + 2 ^ (7 * k) * (b % 128) + 2 ^ (7 * (k + 1)) * p.1, p.2)
  rw [this, Nat.mul_add, Nat.mul_assoc, Nat.add_assoc]
/-- There and back. -/
theorem grp_ub (r : List Nat) (n : Nat) : ∀ k, (k ≤ 9 ∧ n < 2 ^ (64 - 7 * k)) → (0 < n ∨ k = 0) → grp k (ub n ++ r) = some (n, r) := by
  induction n using Nat.strongRecOn with
  | ind n ih =>
    intro k hk h0
    have h9 : k = 9 → n ≤ 1 := fun h => by have := hk.2; rw [h] at this; simp at this; omega
    by_cases h : n < 128
    · rw [ub_lt h]
      exact grp_end (by omega) h (by omega)
    · have hk8 : k ≤ 8 := by omega
      rw [ub_ge (by omega), List.cons_append, grp_on hk8 (by omega), ih (n / 128) (by omega) (k + 1) ⟨by omega, ?_⟩ (by omega)]
      · simp; omega
      · rw [Nat.div_lt_iff_lt_mul (by decide)]
        have := hk.2
        rw [show 64 - 7 * k = (64 - 7 * (k + 1)) + 7 by omega, Nat.pow_add] at this
        exact this
theorem grp_lt (q : List Nat) : ∀ k n r, grp k q = some (n, r) → (k ≤ 9 ∧ ((∀ x ∈ q, x < 256) → n < 2 ^ (64 - 7 * k)) ∧ ∃ m, 0 < m ∧ r = q.drop m ∧ m ≤ q.length) := by
  induction q with
  | nil => intro k n r h; cases h
  | cons b q ih =>
    intro k n r h
    rw [grp] at h
    split at h
    · cases h
    rename_i h1
    split at h
    · split at h
      · cases h
      · injection h with h; injection h with h2 h3; subst h2; subst h3
        refine ⟨by omega, fun _ => ?_, 1, by omega, rfl, by simp⟩
        by_cases h9 : k = 9
        · subst h9; simp; omega
        · have : 2 ^ 8 ≤ 2 ^ (64 - 7 * k) := Nat.pow_le_pow_right (by decide) (by omega)
          omega
    · rename_i h2
      rcases hg : grp (k + 1) q with _ | ⟨n', r'⟩
      · rw [hg] at h; cases h
      · rw [hg] at h
        simp only [Option.map_some, Option.some.injEq, Prod.mk.injEq] at h
        obtain ⟨i1, i2, m, i3, i4, i5⟩ := ih _ _ _ hg
        refine ⟨by omega, fun hx => ?_, m + 1, by omega, by rw [← h.2, i4]; rfl, by simp; omega⟩
        have i2 := i2 fun x hx' => hx x (List.mem_cons_of_mem _ hx')
        have : 2 ^ (64 - 7 * k) = 2 ^ (64 - 7 * (k + 1)) * 128 := by rw [show 64 - 7 * k = (64 - 7 * (k + 1)) + 7 by omega, Nat.pow_add]
        omega
end Col
end Go.Proofs.Ytljelocomjbanaa

set_option linter.unusedSimpArgs false
set_option linter.unusedVariables false
set_option maxRecDepth 8000
namespace Go.Proofs.Ytljelocomjbanaa
open Go.RowKit Go.WideShapes Col

theorem Yes.rd {g : Nat} {w w' : World} {v : Value} {q : List Nat} {e : Ending} (h : Yes g w v q e w') : e = .returned v ∧ Hid (Rd w' g q) ∧ Hid (Kept (Only g) w w') := h
theorem andNot128 (b : Nat) (h : b < 256) : bits BinOp.andNot IntKind.u8 (b : Int) 128 = ((b % 128 : Nat) : Int) := by
  have : ∀ b : Fin 256, bits BinOp.andNot IntKind.u8 ((b : Nat) : Int) 128 = (((b : Nat) % 128 : Nat) : Int) := by decide +kernel
  exact this ⟨b, h⟩
theorem wrap_shl (c s : Nat) : IntKind.u64.wrap ((c : Int) * 2 ^ s) = ((c * 2 ^ s % 18446744073709551616 : Nat) : Int) := by
  rw [IntKind.wrap_u64, Int.natCast_emod, Int.natCast_mul, Int.natCast_pow]; rfl
theorem shift_fits (c s : Nat) : (IntKind.u64.wrap ((c : Int) * 2 ^ s) / 2 ^ s == (c : Int)) = decide (c * 2 ^ s < 18446744073709551616) := by
  rw [wrap_shl]
  have hp : 0 < 2 ^ s := Nat.two_pow_pos s
  have e : (((c * 2 ^ s % 18446744073709551616 : Nat) : Int) / 2 ^ s) = ((c * 2 ^ s % 18446744073709551616 / 2 ^ s : Nat) : Int) := by
    rw [Int.natCast_ediv, Int.natCast_pow]; rfl
  rw [e, Bool.eq_iff_iff, beq_iff_eq, decide_eq_true_eq]
  constructor
  · intro h
    have h : c * 2 ^ s % 18446744073709551616 / 2 ^ s = c := by omega
    have h1 := Nat.div_mul_le_self (c * 2 ^ s % 18446744073709551616) (2 ^ s)
    rw [h] at h1
    have h2 := Nat.mod_lt (c * 2 ^ s) (y := 18446744073709551616) (by decide)
    omega
  · intro h
    rw [Nat.mod_eq_of_lt h, Nat.mul_div_cancel _ hp]
theorem or_shl (acc c s : Nat) (ha : acc < 2 ^ s) (h64 : acc < 18446744073709551616) (h : c * 2 ^ s < 18446744073709551616) : bits .or .u64 (acc : Int) (IntKind.u64.wrap ((c : Int) * 2 ^ s)) = ((acc + 2 ^ s * c : Nat) : Int) := by
  rw [wrap_shl, Nat.mod_eq_of_lt h, bits_or_u64_nat _ _ h64 h]
  congr 1
  rw [Nat.mul_comm c, Nat.or_comm, ← Nat.two_pow_add_eq_or_of_lt ha, Nat.add_comm]
theorem acc_next {acc c k : Nat} (ha : acc < 2 ^ (7 * k)) (hc : c < 128) : acc + 2 ^ (7 * k) * c < 2 ^ (7 * (k + 1)) := by
  rw [show 7 * (k + 1) = 7 * k + 7 by omega, Nat.pow_add]
  have : 2 ^ (7 * k) * c ≤ 2 ^ (7 * k) * 127 := Nat.mul_le_mul_left _ (by omega)
  omega
theorem fits8 {c k : Nat} (hk : k ≤ 8) (hc : c < 128) : c * 2 ^ (7 * k) < 18446744073709551616 := by
  have : 2 ^ (7 * k) ≤ 2 ^ 56 := Nat.pow_le_pow_right (by decide) (by omega)
  have h2 : c * 2 ^ (7 * k) ≤ 127 * 2 ^ 56 := Nat.mul_le_mul (by omega) this
  omega
theorem fits9 {c k : Nat} (hk : k ≤ 9) (hc : c ≤ 1) : c * 2 ^ (7 * k) < 18446744073709551616 := by
  have : 2 ^ (7 * k) ≤ 2 ^ 63 := Nat.pow_le_pow_right (by decide) (by omega)
  have h2 : c * 2 ^ (7 * k) ≤ 1 * 2 ^ 63 := Nat.mul_le_mul (by omega) this
  omega
theorem acc64 {acc k : Nat} (hk : k ≤ 9) (ha : acc < 2 ^ (7 * k)) : acc < 18446744073709551616 := by
  have : 2 ^ (7 * k) ≤ 2 ^ 63 := Nat.pow_le_pow_right (by decide) (by omega)
  omega
theorem acc_w {acc c k : Nat} (hk : k ≤ 9) (ha : acc < 2 ^ (7 * k)) (hc : c < 128) (hf : c * 2 ^ (7 * k) < 18446744073709551616) : acc + 2 ^ (7 * k) * c < 18446744073709551616 := by
  by_cases h8 : k ≤ 8
  · exact acc64 (k := k + 1) (by omega) (acc_next ha hc)
  · have h9 : k = 9 := by omega
    subst h9
    have e : 2 ^ (7 * 9) = 9223372036854775808 := by decide
    rw [e] at ha hf ⊢
    omega
set_option maxHeartbeats 1000000 in
theorem groups_yes (g : Nat) (q r : List Nat) (n : Nat) (hq : Hid (grp 0 q = some (n, r))) (hql : q.length ≤ 9223372036854775807) (w : World) (H : Hid (Rd w g q)) :
    Calls Try.prog 98 #[.pointer (some ⟨g, 0, none⟩)] w (Yes g w (.int .u64 (n : Int)) r) := by
  go_enter Try.func98, Try.ntmps98
  go_wp2
  go_loopw [3, 4] (fun u s wr => ∃ (k acc : Nat) (q' : List Nat), k ≤ 9 ∧ s = .int .i64 ((7 * k : Nat) : Int) ∧ u = .int .u64 (acc : Int) ∧ acc < 2 ^ (7 * k) ∧ plus k acc (grp k q') = some (n, r) ∧ Rd wr g q' ∧ Kept (Only g) w wr) (fun _ s _ => 70 - (intOf s).toNat)
  case atStart => exact ⟨0, 0, q, by omega, rfl, rfl, by simp, by rw [plus_zero]; exact hq.out, H.out, Kept.refl _ _⟩
  case round =>
    obtain ⟨k, acc, q', hk, rfl, rfl, ha, hp, hr, hkp⟩ := hrel
    have HP := Lib.hid hp
    have HR := Lib.hid hr
    have HK := Lib.hid hkp
    clear hp hr hkp
    rcases q' with _ | ⟨b, q'⟩
    · have := HP.out; simp [plus, grp] at this
    · have hb : b < 256 := by obtain ⟨A, C, h⟩ := HR.out; exact h.bytes.lt b (by simp)
      have h0 := andNot128 b hb
      have hc : b % 128 < 128 := Nat.mod_lt _ (by decide)
      have hfit : (b % 128) * 2 ^ (7 * k) < 18446744073709551616 := by
        by_cases h8 : k ≤ 8
        · exact fits8 h8 hc
        · refine fits9 hk ?_
          have := HP.out
          rw [grp] at this
          split at this
          · cases this
          · omega
      have h1 := (shift_fits (b % 128) (7 * k)).trans (decide_eq_true hfit)
      have h2 := or_shl acc (b % 128) (7 * k) ha (acc64 hk ha) hfit
      have hn := acc_next ha hc
      have hw := acc_w hk ha hc hfit
      obtain ⟨acc', hacc⟩ : ∃ x, x = acc + 2 ^ (7 * k) * (b % 128) := ⟨_, rfl⟩
      obtain ⟨c, hcc⟩ : ∃ x, x = b % 128 := ⟨_, rfl⟩
      rw [← hacc] at h2 hw hn
      rw [← hcc] at h0 h1 h2 hc
      have HC := Lib.hid hcc
      have HAC := Lib.hid hacc
      have HA := Lib.hid ha
      have HN := Lib.hid hn
      have HW := Lib.hid hw
      have hwc : IntKind.u64.wrap (c : Int) = (c : Int) := by rw [IntKind.wrap_u64]; omega
      clear ha hn hacc hcc hfit hw
      by_cases hb7 : b < 128
      · have hb0 : ¬ (b = 0 ∧ 0 < k) := by
          rintro ⟨rfl, h⟩
          have := HP.out; rw [grp_zero h] at this; cases this
        have hbk : ¬ (9 < k ∨ (k = 9 ∧ 1 < b)) := by
          intro h
          have := HP.out; rw [grp, if_pos h] at this; cases this
        have HE : Hid (acc' = n ∧ q' = r) := Lib.hid (by
          have := HP.out
          rw [grp_end hbk hb7 hb0] at this
          simp only [plus, Option.map_some, Option.some.injEq, Prod.mk.injEq] at this
          rw [HAC.out]; exact ⟨by rw [← this.1, Nat.mod_eq_of_lt hb7], this.2⟩)
        clear hb0 hbk
        obtain ⟨rfl, rfl⟩ := HE.out
        by_cases hbz : b = 0
        · have hkz : (7 * (k : Int) == 0) = true := by
            have : k = 0 := Nat.eq_zero_of_not_pos fun h => by
              have := HP.out; rw [hbz, grp_zero h] at this; cases this
            subst this; rfl
          have hbz' : ((b : Int) != 0) = false := by rw [hbz]; rfl
          have HB := Lib.hid hbz
          clear hbz
          go_wp2_with (first
            | (go_at_call 123; (with_reducible refine (byte_yes g b q' _ HR).mono ?_); rintro e w1 hy; obtain ⟨rfl, HR1, HK1⟩ := Yes.rd hy; clear hy)
            | (go_at_call 66; (with_reducible refine (check_true _ _).mono ?_); rintro e w2 ⟨rfl, rfl⟩))
          go_ret
          exact ⟨rfl, HR1.out, HK.out.trans HK1.out⟩
        · have hbz' : ((b : Int) != 0) = true := by rw [bne_iff_ne]; omega
          go_wp2_with (first
            | (go_at_call 123; (with_reducible refine (byte_yes g b q' _ HR).mono ?_); rintro e w1 hy; obtain ⟨rfl, HR1, HK1⟩ := Yes.rd hy; clear hy)
            | (go_at_call 66; (with_reducible refine (check_true _ _).mono ?_); rintro e w2 ⟨rfl, rfl⟩))
          go_ret
          exact ⟨rfl, HR1.out, HK.out.trans HK1.out⟩
      · have hk8 : k ≤ 8 := by
          rcases Nat.lt_or_ge 8 k with h | h
          · have := HP.out; rw [grp, if_pos (by omega)] at this; cases this
          · exact h
        have HP2 : Hid (plus (k + 1) acc' (grp (k + 1) q') = some (n, r)) := Lib.hid (by
          have := HP.out
          rwa [plus_on hk8 (by omega), ← HAC.out] at this)
        go_wp2_with (first
            | (go_at_call 123; (with_reducible refine (byte_yes g b q' _ HR).mono ?_); rintro e w1 hy; obtain ⟨rfl, HR1, HK1⟩ := Yes.rd hy; clear hy)
            | (go_at_call 66; (with_reducible refine (check_true _ _).mono ?_); rintro e w2 ⟨rfl, rfl⟩))
        go_roundw
        case rel => exact ⟨k + 1, acc', q', by omega, by go_num, rfl, HN.out, HP2.out, HR1.out, HK.out.trans HK1.out⟩
        case measure => simp [intOf]; omega

theorem shl_far (c k : Nat) (hk : 10 ≤ k) : Op.shift BinOp.shl IntKind.u64 (c : Int) IntKind.i64 (7 * (k : Int)) = pure (.int .u64 0) := by
  have hm : min (7 * (k : Int)).toNat IntKind.u64.bits = 64 := by
    have : IntKind.u64.bits = 64 := rfl
    rw [this]; omega
  unfold Op.shift
  rw [if_neg (by omega)]
  simp only [hm]
  rw [wrap_shl, Nat.mul_mod_left]; rfl
theorem shr_far (k : Nat) (hk : 10 ≤ k) : Op.shift BinOp.shr IntKind.u64 0 IntKind.i64 (7 * (k : Int)) = pure (.int .u64 0) := by
  unfold Op.shift
  rw [if_neg (by omega)]
  simp
theorem no_end {g : Nat} {w wr w' : World} (HK : Hid (Kept (Only g) w wr)) (h1 : Gone w' g) (h2 : Kept (Only g) wr w') : No g w (.panicked [gu g]) w' := ⟨rfl, h1, HK.out.trans h2⟩
set_option maxHeartbeats 2000000 in
theorem groups_no (g : Nat) (q : List Nat) (hq : Hid (grp 0 q = none)) (L : Nat) (HL : Hid (L = q.length)) (hql : L ≤ 1099511627776) (w : World) (H : Hid (Rd w g q)) :
    Calls Try.prog 98 #[.pointer (some ⟨g, 0, none⟩)] w (No g w) := by
  go_enter Try.func98, Try.ntmps98
  go_wp2
  go_loopw [3, 4] (fun u s wr => ∃ (k acc : Nat) (q' : List Nat), k + q'.length = L ∧ s = .int .i64 ((7 * k : Nat) : Int) ∧ u = .int .u64 (acc : Int) ∧ acc < 18446744073709551616 ∧ (k ≤ 9 → acc < 2 ^ (7 * k)) ∧ grp k q' = none ∧ Rd wr g q' ∧ Kept (Only g) w wr) (fun _ s _ => 7 * (L + 1) - (intOf s).toNat)
  case atStart => exact ⟨0, 0, q, by rw [HL.out]; omega, rfl, rfl, by simp, fun _ => by simp, hq.out, H.out, Kept.refl _ _⟩
  case round =>
    obtain ⟨k, acc, q', hk, rfl, rfl, ha, hap, hp, hr, hkp⟩ := hrel
    have HP := Lib.hid hp
    have HR := Lib.hid hr
    have HK := Lib.hid hkp
    have HKL := Lib.hid hk
    have HA := Lib.hid hap
    have HW := Lib.hid ha
    have hkL : k ≤ L := by omega
    clear hp hr hkp hk hap ha
    rcases q' with _ | ⟨b, q'⟩
    · go_wp2_with (go_at_call 123; (with_reducible refine (byte_no g _ HR).mono ?_); rintro e w1 ⟨rfl, h1, h2⟩)
      exact ⟨rfl, no_end HK h1 h2⟩
    · have hb : b < 256 := by obtain ⟨A, C, h⟩ := HR.out; exact h.bytes.lt b (by simp)
      have h0 := andNot128 b hb
      have hc : b % 128 < 128 := Nat.mod_lt _ (by decide)
      obtain ⟨c, hcc⟩ : ∃ x, x = b % 128 := ⟨_, rfl⟩
      rw [← hcc] at h0 hc
      have HC := Lib.hid hcc
      have hwc : IntKind.u64.wrap (c : Int) = (c : Int) := by rw [IntKind.wrap_u64]; omega
      have hkL' : k + 1 ≤ L := by have := HKL.out; simp at this; omega
      clear hcc
      by_cases h9 : k ≤ 9
      · have h1 := shift_fits c (7 * k)
        by_cases hfit : c * 2 ^ (7 * k) < 18446744073709551616
        · rw [decide_eq_true hfit] at h1
          have h2 := or_shl acc c (7 * k) (HA.out h9) HW.out hfit
          have HW' := Lib.hid (acc_w h9 (HA.out h9) hc hfit)
          have HN := Lib.hid (acc_next (HA.out h9) hc)
          obtain ⟨acc', hacc⟩ : ∃ x, x = acc + 2 ^ (7 * k) * c := ⟨_, rfl⟩
          rw [← hacc] at h2 HW' HN
          clear hacc
          by_cases hb7 : b < 128
          · have hb0 : b = 0 ∧ 0 < k := by
              refine Classical.byContradiction fun h => ?_
              have hp := HP.out
              by_cases h99 : 9 < k ∨ (k = 9 ∧ 1 < b)
              · have e : k = 9 := by omega
                rw [e] at hfit
                have := HC.out
                omega
              · rw [grp_end h99 hb7 h] at hp; cases hp
            have hkz : (7 * (k : Int) == 0) = false := by rw [beq_eq_false_iff_ne]; omega
            have hbz' : ((b : Int) != 0) = false := by rw [hb0.1]; rfl
            have HB := Lib.hid hb0
            clear hb0 hfit
            go_wp2_with (first
            | (go_at_call 123; (with_reducible refine (byte_yes g b q' _ HR).mono ?_); rintro e w1 hy; obtain ⟨rfl, HR1, HK1⟩ := Yes.rd hy; clear hy)
            | (go_at_call 66; first
              | ((with_reducible refine (check_true _ _).mono ?_); rintro e w2 ⟨rfl, rfl⟩)
              | (obtain ⟨A, C, hR⟩ := HR1.out; (with_reducible refine (check_false g C A q' _ (Lib.hid hR)).mono ?_); rintro e w2 ⟨rfl, h1, h2⟩)))
            exact ⟨rfl, no_end HK h1 (HK1.out.trans h2)⟩
          · have HP2 : Hid (grp (k + 1) q' = none) := Lib.hid (by
              have hp := HP.out
              by_cases h8 : k ≤ 8
              · rw [grp_on h8 (by omega)] at hp
                rcases hg : grp (k + 1) q' with _ | p
                · rfl
                · rw [hg] at hp; cases hp
              · exact grp_big _ (by omega) _)
            clear hfit
            go_wp2_with (first
            | (go_at_call 123; (with_reducible refine (byte_yes g b q' _ HR).mono ?_); rintro e w1 hy; obtain ⟨rfl, HR1, HK1⟩ := Yes.rd hy; clear hy)
            | (go_at_call 66; first
              | ((with_reducible refine (check_true _ _).mono ?_); rintro e w2 ⟨rfl, rfl⟩)
              | (obtain ⟨A, C, hR⟩ := HR1.out; (with_reducible refine (check_false g C A q' _ (Lib.hid hR)).mono ?_); rintro e w2 ⟨rfl, h1, h2⟩)))
            go_roundw
            case rel => exact ⟨k + 1, acc', q', by have := HKL.out; simp at this; omega, by go_num, rfl, HW'.out, fun _ => HN.out, HP2.out, HR1.out, HK.out.trans HK1.out⟩
            case measure => simp [intOf]; omega
        · rw [decide_eq_false hfit] at h1
          clear hfit
          go_wp2_with (first
            | (go_at_call 123; (with_reducible refine (byte_yes g b q' _ HR).mono ?_); rintro e w1 hy; obtain ⟨rfl, HR1, HK1⟩ := Yes.rd hy; clear hy)
            | (go_at_call 66; first
              | ((with_reducible refine (check_true _ _).mono ?_); rintro e w2 ⟨rfl, rfl⟩)
              | (obtain ⟨A, C, hR⟩ := HR1.out; (with_reducible refine (check_false g C A q' _ (Lib.hid hR)).mono ?_); rintro e w2 ⟨rfl, h1, h2⟩)))
          exact ⟨rfl, no_end HK h1 (HK1.out.trans h2)⟩
      · have s1 := shl_far c k (by omega)
        have s2 := shr_far k (by omega)
        have h2 : bits .or .u64 (acc : Int) 0 = (acc : Int) := by
          have := bits_or_u64_nat acc 0 HW.out (by decide)
          rwa [Nat.or_zero] at this
        by_cases hc0 : c = 0
        · have h1 : ((0 : Int) == (c : Int)) = true := by rw [hc0]; rfl
          have HC0 := Lib.hid hc0
          clear hc0
          by_cases hb7 : b < 128
          · have hb0 : b = 0 := by have := HC.out; have := HC0.out; omega
            have hkz : (7 * (k : Int) == 0) = false := by rw [beq_eq_false_iff_ne]; omega
            have hbz' : ((b : Int) != 0) = false := by rw [hb0]; rfl
            have HB := Lib.hid hb0
            clear hb0
            go_wp2_with (first
            | (go_at_call 123; (with_reducible refine (byte_yes g b q' _ HR).mono ?_); rintro e w1 hy; obtain ⟨rfl, HR1, HK1⟩ := Yes.rd hy; clear hy)
            | (go_at_call 66; first
              | ((with_reducible refine (check_true _ _).mono ?_); rintro e w2 ⟨rfl, rfl⟩)
              | (obtain ⟨A, C, hR⟩ := HR1.out; (with_reducible refine (check_false g C A q' _ (Lib.hid hR)).mono ?_); rintro e w2 ⟨rfl, h1, h2⟩)))
            exact ⟨rfl, no_end HK h1 (HK1.out.trans h2)⟩
          · have HP2 : Hid (grp (k + 1) q' = none) := Lib.hid (grp_big _ (by omega) _)
            go_wp2_with (first
            | (go_at_call 123; (with_reducible refine (byte_yes g b q' _ HR).mono ?_); rintro e w1 hy; obtain ⟨rfl, HR1, HK1⟩ := Yes.rd hy; clear hy)
            | (go_at_call 66; first
              | ((with_reducible refine (check_true _ _).mono ?_); rintro e w2 ⟨rfl, rfl⟩)
              | (obtain ⟨A, C, hR⟩ := HR1.out; (with_reducible refine (check_false g C A q' _ (Lib.hid hR)).mono ?_); rintro e w2 ⟨rfl, h1, h2⟩)))
            go_roundw
            case rel => exact ⟨k + 1, acc, q', by have := HKL.out; simp at this; omega, by go_num, rfl, HW.out, fun h => by omega, HP2.out, HR1.out, HK.out.trans HK1.out⟩
            case measure => simp [intOf]; omega
        · have h1 : ((0 : Int) == (c : Int)) = false := by rw [beq_eq_false_iff_ne]; omega
          go_wp2_with (first
            | (go_at_call 123; (with_reducible refine (byte_yes g b q' _ HR).mono ?_); rintro e w1 hy; obtain ⟨rfl, HR1, HK1⟩ := Yes.rd hy; clear hy)
            | (go_at_call 66; first
              | ((with_reducible refine (check_true _ _).mono ?_); rintro e w2 ⟨rfl, rfl⟩)
              | (obtain ⟨A, C, hR⟩ := HR1.out; (with_reducible refine (check_false g C A q' _ (Lib.hid hR)).mono ?_); rintro e w2 ⟨rfl, h1, h2⟩)))
          exact ⟨rfl, no_end HK h1 (HK1.out.trans h2)⟩
end Go.Proofs.Ytljelocomjbanaa

set_option linter.unusedSimpArgs false
set_option linter.unusedVariables false
set_option maxRecDepth 8000
namespace Go.Proofs.Ytljelocomjbanaa
open Go.RowKit Go.WideShapes Col
namespace Col
/-- The next number, at most that. -/
def uP (most : Nat) (q : List Nat) : Option (Nat × List Nat) := (grp 0 q).bind fun p => if p.1 ≤ most then some p else none
theorem uP_some {most n : Nat} {q r : List Nat} (h : uP most q = some (n, r)) : grp 0 q = some (n, r) ∧ n ≤ most := by
  unfold uP at h
  rcases hg : grp 0 q with _ | p
  · rw [hg] at h; cases h
  · rw [hg] at h; simp only [Option.bind_some] at h
    split at h
    · injection h with h; subst h; exact ⟨rfl, by assumption⟩
    · cases h
theorem uP_none {most : Nat} {q : List Nat} (h : uP most q = none) : grp 0 q = none ∨ ∃ n r, grp 0 q = some (n, r) ∧ most < n := by
  unfold uP at h
  rcases hg : grp 0 q with _ | ⟨n, r⟩
  · exact .inl rfl
  · rw [hg] at h; simp only [Option.bind_some] at h
    split at h
    · cases h
    · exact .inr ⟨n, r, rfl, by omega⟩
/-- A number with its sign. -/
def uz (n : Nat) : Int := if n % 2 = 1 then -((n / 2 : Nat) : Int) - 1 else ((n / 2 : Nat) : Int)
def zP (q : List Nat) : Option (Int × List Nat) := (grp 0 q).map fun p => (uz p.1, p.2)
def tP (most : Nat) (q : List Nat) : Option (List Nat × List Nat) := (uP most q).bind fun p => if p.1 ≤ p.2.length then some (p.2.take p.1, p.2.drop p.1) else none
theorem tP_some {most : Nat} {q s r : List Nat} (h : tP most q = some (s, r)) : ∃ n q', uP most q = some (n, q') ∧ n ≤ q'.length ∧ s = q'.take n ∧ r = q'.drop n := by
  unfold tP at h
  rcases hg : uP most q with _ | ⟨n, q'⟩
  · rw [hg] at h; cases h
  · rw [hg] at h; simp only [Option.bind_some] at h
    split at h
    · injection h with h; injection h with h1 h2; exact ⟨n, q', rfl, by assumption, h1.symm, h2.symm⟩
    · cases h
theorem tP_none {most : Nat} {q : List Nat} (h : tP most q = none) : uP most q = none ∨ ∃ n q', uP most q = some (n, q') ∧ q'.length < n := by
  unfold tP at h
  rcases hg : uP most q with _ | ⟨n, q'⟩
  · exact .inl rfl
  · rw [hg] at h; simp only [Option.bind_some] at h
    split at h
    · cases h
    · exact .inr ⟨n, q', rfl, by omega⟩
theorem zP_some {x : Int} {q r : List Nat} (h : zP q = some (x, r)) : ∃ n, grp 0 q = some (n, r) ∧ uz n = x := by
  unfold zP at h
  rcases hg : grp 0 q with _ | ⟨n, r'⟩
  · rw [hg] at h; cases h
  · rw [hg] at h; injection h with h; injection h with h1 h2; subst h2; exact ⟨n, rfl, h1⟩
theorem zP_none {q : List Nat} (h : zP q = none) : grp 0 q = none := by
  unfold zP at h
  rcases hg : grp 0 q with _ | p
  · rfl
  · rw [hg] at h; cases h
end Col

theorem Rd.lt {w : World} {g : Nat} {q : List Nat} (h : Rd w g q) : ∀ x ∈ q, x < 256 := by obtain ⟨A, C, h⟩ := h; exact h.bytes.lt
theorem grp_u64 {q r : List Nat} {n : Nat} (h : grp 0 q = some (n, r)) (hq : ∀ x ∈ q, x < 256) : n < 18446744073709551616 := by
  have := (grp_lt q 0 n r h).2.1 hq; simpa using this
theorem Yes.trans {g : Nat} {w w1 w' : World} {v : Value} {r : List Nat} {e : Ending} (HK : Hid (Kept (Only g) w w1)) (h : Yes g w1 v r e w') : Yes g w v r e w' := ⟨h.1, h.2.1, HK.out.trans h.2.2⟩

set_option maxHeartbeats 1000000 in
theorem uint_yes (g most n : Nat) (q r : List Nat) (hq : Hid (uP most q = some (n, r))) (hql : q.length ≤ 9223372036854775807) (w : World) (H : Hid (Rd w g q)) :
    Calls Try.prog 63 #[.pointer (some ⟨g, 0, none⟩), .int .u64 (most : Int)] w (Yes g w (.int .u64 (n : Int)) r) := by
  obtain ⟨A, C, h⟩ := H.out
  have HA := Lib.hid h
  obtain ⟨h1, h2⟩ := uP_some hq.out
  have H1 := Lib.hid h1
  clear h h1
  go_enter Try.func63, Try.ntmps63
  go_wp2_with (first
    | (go_at_call 97; refine (mayRead_yes g C A _ _ HA).mono ?_; rintro e w1 ⟨rfl, rfl⟩)
    | (go_at_call 98; (with_reducible refine (groups_yes g q r n H1 hql _ H).mono ?_); rintro e w1 hy; obtain ⟨rfl, HR1, HK1⟩ := Yes.rd hy; clear hy)
    | (go_at_call 66; (with_reducible refine (check_true _ _).mono ?_); rintro e w2 ⟨rfl, rfl⟩))
  go_ret
  exact ⟨rfl, HR1.out, HK1.out⟩
set_option maxHeartbeats 1000000 in
theorem uint_no (g most : Nat) (q : List Nat) (hq : Hid (uP most q = none)) (L : Nat) (HL : Hid (L = q.length)) (hql : L ≤ 1099511627776) (w : World) (H : Hid (Rd w g q)) :
    Calls Try.prog 63 #[.pointer (some ⟨g, 0, none⟩), .int .u64 (most : Int)] w (No g w) := by
  obtain ⟨A, C, h⟩ := H.out
  have HA := Lib.hid h
  have hB := Lib.hid h.bytes.lt
  clear h
  have hql2 : q.length ≤ 9223372036854775807 := by rw [← HL.out]; omega
  rcases uP_none hq.out with h1 | ⟨n, r, h1, h2⟩
  · have H1 := Lib.hid h1
    clear h1
    go_enter Try.func63, Try.ntmps63
    go_wp2_with (first
      | (go_at_call 97; refine (mayRead_yes g C A _ _ HA).mono ?_; rintro e w1 ⟨rfl, rfl⟩)
      | (go_at_call 98; (with_reducible refine (groups_no g q H1 L HL hql _ H).mono ?_); rintro e w1 ⟨rfl, h1, h2⟩))
    exact ⟨rfl, rfl, h1, h2⟩
  · have hn := grp_u64 h1 hB.out
    have H1 := Lib.hid h1
    have hd : ¬ n ≤ most := by omega
    have hd2 : decide (n ≤ most) = false := by simpa using h2
    clear h1
    go_enter Try.func63, Try.ntmps63
    go_wp2_with (first
      | (go_at_call 97; refine (mayRead_yes g C A _ _ HA).mono ?_; rintro e w1 ⟨rfl, rfl⟩)
      | (go_at_call 98; (with_reducible refine (groups_yes g q r n H1 hql2 _ H).mono ?_); rintro e w1 hy; obtain ⟨rfl, HR1, HK1⟩ := Yes.rd hy; clear hy)
      | (go_at_call 66; obtain ⟨A1, C1, hR⟩ := HR1.out; (with_reducible refine (check_false g C1 A1 r _ (Lib.hid hR)).mono ?_); rintro e w2 ⟨rfl, h1, h2⟩))
    exact ⟨rfl, no_end HK1 h1 h2⟩

theorem xor0_i64 (m : Nat) (h : m < 9223372036854775808) : bits BinOp.xor IntKind.i64 (m : Int) 0 = (m : Int) := by
  have h1 : (BitVec.ofInt 64 (m : Int)).toNat = m := by
    rw [BitVec.ofInt_natCast, BitVec.toNat_ofNat]; exact Nat.mod_eq_of_lt (by omega)
  have h0 : BitVec.ofInt 64 0 = 0#64 := by decide
  show IntKind.i64.wrap ((BitVec.ofInt 64 (m : Int) ^^^ BitVec.ofInt 64 0).toNat : Int) = _
  rw [h0, BitVec.xor_zero, h1, IntKind.wrap_i64]; omega
theorem xor1_i64 (m : Nat) (h : m < 9223372036854775808) : bits BinOp.xor IntKind.i64 (m : Int) (-1) = -(m : Int) - 1 := by
  have h1 : (BitVec.ofInt 64 (m : Int)).toNat = m := by
    rw [BitVec.ofInt_natCast, BitVec.toNat_ofNat]; exact Nat.mod_eq_of_lt (by omega)
  have h0 : BitVec.ofInt 64 (-1) = BitVec.allOnes 64 := by decide
  show IntKind.i64.wrap ((BitVec.ofInt 64 (m : Int) ^^^ BitVec.ofInt 64 (-1)).toNat : Int) = _
  rw [h0, BitVec.xor_allOnes, BitVec.toNat_not, h1, IntKind.wrap_i64]; omega
theorem ret_i64 {k : IntKind} {a b : Int} (h : a = b) : Ending.returned (.int k a) = .returned (.int k b) := by rw [h]
theorem and1 (n : Nat) (h : n < 18446744073709551616) : bits BinOp.and IntKind.u64 (n : Int) 1 = ((n % 2 : Nat) : Int) := by
  have := bits_and_u64_nat n 1 h (by decide)
  rw [Nat.and_one_is_mod] at this
  exact this
theorem off_kept {g n : Nat} {w w' : World} {A : Option Addr} {q : List Nat} (h : ByAt w A q) (ho : Off (Only g) A q) (hk : Kept (Only g) w w') : Hid (ByAt w' A q) := h.kept hk ho
set_option maxHeartbeats 1000000 in
theorem text_yes (g most : Nat) (hm : most < 9223372036854775808) (q s r : List Nat) (hq : Hid (tP most q = some (s, r))) (hql : q.length ≤ 9223372036854775807) (w : World) (H : Hid (Rd w g q)) :
    Calls Try.prog 100 #[.pointer (some ⟨g, 0, none⟩), .int .i64 (most : Int)] w (Yes g w (.string (strB s)) r) := by
  obtain ⟨n, q', h1, h2, h3, h4⟩ := tP_some hq.out
  obtain ⟨A, C, h⟩ := H.out
  have HA := Lib.hid h
  have HU := Lib.hid h1
  have H3 := Lib.hid h3
  have H4 := Lib.hid h4
  have H2 := Lib.hid h2
  clear h h1 h3 h4 h2
  have hn := Lib.hid (grp_u64 (uP_some HU.out).1 H.out.lt)
  go_enter Try.func100, Try.ntmps100
  go_wp2_with (first
    | (go_at_call 97; refine (mayRead_yes g C A _ _ HA).mono ?_; rintro e w1 ⟨rfl, rfl⟩)
    | (go_at_call 66; (with_reducible refine (check_true _ _).mono ?_); rintro e w2 ⟨rfl, rfl⟩)
    | (go_at_call 63; (with_reducible refine (uint_yes g most n q q' HU hql _ H).mono ?_); rintro e w1 hy; obtain ⟨rfl, HR1, HK1⟩ := Yes.rd hy; clear hy)
    | (go_at_call 125; obtain ⟨A1, C1, hR⟩ := HR1.out; (with_reducible refine (take_yes g C1 A1 q' n q'.length (Lib.hid rfl) H2.out _ (Lib.hid hR)).mono ?_); rintro e w2 ⟨A2, C2, rfl, a1, a2, a3, a4, a5, a6, a7⟩; clear a7; have HB := off_kept (n := 0) a3 a4 a6; have h5 := conv_at n C2 HB (Below.refl _ _) (by rw [List.length_take]; have := H2.out; omega); have HR2 := Lib.hid a5; have HK2 := Lib.hid a6; clear a1 a2 a3 a4 a5 a6 hR))
  go_ret
  exact ⟨by rw [H3.out]; rfl, by rw [H4.out]; exact HR2.out, HK1.out.trans HK2.out⟩
set_option maxHeartbeats 1000000 in
theorem text_no (g most : Nat) (hm : most < 9223372036854775808) (q : List Nat) (hq : Hid (tP most q = none)) (L : Nat) (HL : Hid (L = q.length)) (hql : L ≤ 1099511627776) (w : World) (H : Hid (Rd w g q)) :
    Calls Try.prog 100 #[.pointer (some ⟨g, 0, none⟩), .int .i64 (most : Int)] w (No g w) := by
  obtain ⟨A, C, h⟩ := H.out
  have HA := Lib.hid h
  clear h
  have hql2 : q.length ≤ 9223372036854775807 := by rw [← HL.out]; omega
  rcases tP_none hq.out with h1 | ⟨n, q', h1, h2⟩
  · have HU := Lib.hid h1
    clear h1
    go_enter Try.func100, Try.ntmps100
    go_wp2_with (first
      | (go_at_call 97; refine (mayRead_yes g C A _ _ HA).mono ?_; rintro e w1 ⟨rfl, rfl⟩)
      | (go_at_call 66; (with_reducible refine (check_true _ _).mono ?_); rintro e w2 ⟨rfl, rfl⟩)
      | (go_at_call 63; (with_reducible refine (uint_no g most q HU L HL hql _ H).mono ?_); rintro e w1 ⟨rfl, h1, h2⟩))
    exact ⟨rfl, rfl, h1, h2⟩
  · have HU := Lib.hid h1
    have H2 := Lib.hid h2
    clear h1 h2
    have hn := Lib.hid (grp_u64 (uP_some HU.out).1 H.out.lt)
    go_enter Try.func100, Try.ntmps100
    go_wp2_with (first
      | (go_at_call 97; refine (mayRead_yes g C A _ _ HA).mono ?_; rintro e w1 ⟨rfl, rfl⟩)
      | (go_at_call 66; (with_reducible refine (check_true _ _).mono ?_); rintro e w2 ⟨rfl, rfl⟩)
      | (go_at_call 63; (with_reducible refine (uint_yes g most n q q' HU hql2 _ H).mono ?_); rintro e w1 hy; obtain ⟨rfl, HR1, HK1⟩ := Yes.rd hy; clear hy)
      | (go_at_call 125; obtain ⟨A1, C1, hR⟩ := HR1.out; (with_reducible refine (take_no g C1 A1 q' n q'.length (Lib.hid rfl) H2.out _ (Lib.hid hR)).mono ?_); rintro e w2 ⟨rfl, h1, h2⟩))
    exact ⟨rfl, no_end HK1 h1 h2⟩
end Go.Proofs.Ytljelocomjbanaa

set_option linter.unusedSimpArgs false
set_option linter.unusedVariables false
set_option maxRecDepth 8000
namespace Go.Proofs.Ytljelocomjbanaa
open Go.RowKit Go.WideShapes

def Wf64 (x : Int) : Prop := -9223372036854775808 ≤ x ∧ x ≤ 9223372036854775807
/-- A slice value that holds some whole numbers, in a world. -/
def IsAt (w : World) (a : Option Addr) (l : List Int) : Prop := ∀ (k : Nat) (x : Int), l[k]? = some x → Wf64 x ∧ ∃ g off, a = some ⟨g, off, none⟩ ∧ g < w.heap.size ∧ w.cell? ⟨g, off + k, none⟩ = some (.int .i64 x)
theorem IsAt.keep {w w' : World} {a : Option Addr} {l : List Int} (h : IsAt w a l) (hb : Below w.heap.size w w') : IsAt w' a l := fun k x hx => by
  obtain ⟨h1, g, off, h2, h3, h4⟩ := h k x hx
  exact ⟨h1, g, off, h2, Nat.lt_of_lt_of_le h3 hb.size, (hb.cell (p := ⟨g, off + k, none⟩) h3).trans h4⟩
theorem IsAt.wf {w : World} {a : Option Addr} {l : List Int} (h : IsAt w a l) : ∀ x ∈ l, Wf64 x := fun x hx => by
  obtain ⟨k, hk⟩ := List.getElem?_of_mem hx
  exact (h k x hk).1
theorem IsAt.nil (w : World) (a : Option Addr) : IsAt w a [] := fun k x hx => by simp at hx
theorem IsAt.at {w w' : World} {a : Option Addr} {l : List Int} (h : Hid (IsAt w a l)) (hb : Below w.heap.size w w') : Hid (IsAt w' a l) := h.out.keep hb
theorem IsAt.spot {w : World} {a : Option Addr} {l : List Int} (h : IsAt w a l) (h0 : 0 < l.length) : ∃ g off, a = some ⟨g, off, none⟩ ∧ g < w.heap.size ∧ ∀ (k : Nat) (x : Int), l[k]? = some x → w.cell? ⟨g, off + k, none⟩ = some (.int .i64 x) := by
  obtain ⟨-, g, off, rfl, hg, -⟩ := h 0 l[0] (List.getElem?_eq_getElem h0)
  refine ⟨g, off, rfl, hg, fun k x hx => ?_⟩
  obtain ⟨-, g', off', h2, -, hc⟩ := h k x hx
  cases h2
  exact hc
def iv (x : Int) : Value := .int .i64 x
def ivs (l : List Int) : List Value := l.map iv
theorem ivs_length (l : List Int) : (ivs l).length = l.length := List.length_map ..
theorem ivs_append (l m : List Int) : ivs (l ++ m) = ivs l ++ ivs m := List.map_append ..
theorem ivs_one (l : List Int) : ∀ u ∈ ivs l, u.oneCell' = true := fun u hu => by
  obtain ⟨x, -, rfl⟩ := List.mem_map.1 hu; rfl
theorem IsAt.of_row {w : World} {g : Nat} {cs : Array Value} {t : TypeId} {fr : Nat × Nat} (l : List Int) (hl : ∀ x ∈ l, Wf64 x) (hrow : w.heap[g]? = some (.cells cs t fr)) (hcs : (ivs l).IsPrefix cs.toList) : IsAt w (some ⟨g, 0, none⟩) l := fun k x hx => by
  refine ⟨hl x (List.mem_of_getElem? hx), g, 0, rfl, (Array.getElem?_eq_some_iff.1 hrow).1, ?_⟩
  rw [cell_of_row w g (0 + k) cs t fr hrow, Nat.zero_add, ← Array.getElem?_toList]
  obtain ⟨r, hr⟩ := hcs
  have hk : k < (ivs l).length := by rw [ivs_length]; exact (List.getElem?_eq_some_iff.1 hx).1
  rw [← hr, List.getElem?_append_left hk]
  unfold ivs; rw [List.getElem?_map, hx]; rfl
theorem infoI64 : (Try.prog.info? 2).map (fun i => (i.zero, i.size, i.bytes)) = some (some (.int .i64 0), 1, 8) := by kernel_rfl
/-- A slice of whole numbers that the call owns: its block lies from B on. -/
def OwnI (w : World) (B : Nat) (A : Option Addr) (n cap : Nat) (l : List Int) : Prop := w.ownsRow B 2 1 (.slice A n cap) n (ivs l) ∧ ∀ x ∈ l, Wf64 x
theorem OwnI.len {w : World} {B n cap : Nat} {A : Option Addr} {l : List Int} (h : OwnI w B A n cap l) : n = l.length := by have := h.1.1; rw [ivs_length] at this; omega
theorem OwnI.caps {w : World} {B n cap : Nat} {A : Option Addr} {l : List Int} (h : OwnI w B A n cap l) : n ≤ cap ∧ cap ≤ maxLen := by
  rcases h.1.2 with ⟨h1, h2⟩ | ⟨g, cap', cur, h1, -, -, h2, h3, -⟩
  · cases h1; exact ⟨Nat.le_refl _, Nat.zero_le _⟩
  · cases h1; exact ⟨h2, h3⟩
theorem OwnI.isAt {w : World} {B n cap : Nat} {A : Option Addr} {l : List Int} (h : OwnI w B A n cap l) : IsAt w A l := by
  rcases h.1.2 with ⟨h1, h2⟩ | ⟨g, cap', cur, h1, hb, hrow, -, -, hs, ht⟩
  · have := h.len
    have hl : l = [] := List.eq_nil_of_length_eq_zero (by omega)
    subst hl; exact IsAt.nil _ _
  · cases h1
    exact IsAt.of_row l h.2 hrow ⟨cur.toList.drop (n * 1), by rw [← ht, List.take_append_drop]⟩
theorem OwnI.nil (w : World) (B : Nat) : OwnI w B none 0 0 [] := ⟨w.ownsRow_nil B _ 1, fun x hx => by cases hx⟩
theorem OwnI.keep {w w' : World} {B n cap : Nat} {A : Option Addr} {l : List Int} (h : OwnI w B A n cap l) (hb : Below w.heap.size w w') : OwnI w' B A n cap l :=
  ⟨h.1.kept (row := none) ⟨hb.os, hb.tape, hb.output, hb.size, fun k hk _ => hb.block k hk⟩ (by rcases A with _ | a <;> simp [Value.ownBlock]), h.2⟩
theorem OwnI.base {w : World} {B n cap : Nat} {A : Option Addr} {l : List Int} (h : OwnI w B A n cap l) : ∀ k, A.map (·.block) = some k → B ≤ k := fun k hk => by
  rcases h.1.2 with ⟨h1, h2⟩ | ⟨g, cap', cur, h1, hb, _⟩
  · cases h1; cases hk
  · cases h1; simp at hk; omega
theorem is_at {w : World} {a : Addr} {l : List Int} (h : IsAt w (some a) l) (j : Nat) (u : Value) (hu : (ivs l)[j]? = some u) : w.cell? (a.add j) = some u := by
  unfold ivs at hu
  rw [List.getElem?_map] at hu
  rcases hx : l[j]? with _ | x
  · rw [hx] at hu; cases hu
  · rw [hx] at hu
    obtain ⟨-, g, off, e, -, hc⟩ := h j x hx
    cases e
    rw [addr_add, hc]; exact hu
/-- append of whole numbers that are some, the source nil, empty or not. -/
theorem run_append_is (w : World) (B : Nat) (A : Option Addr) (n cap : Nat) (l : List Int) (hown : OwnI w B A n cap l) (a : Addr) (m c : Nat) (l2 : List Int) (hm : m = l2.length) (h2 : IsAt w (some a) l2)
    (hbytes : (n + m) * 8 ≤ 140737488355328) (hbase : B ≤ w.heap.size) (ty : TypeId) :
    ∃ A' cap' w', (Builtin.append_ #[64, 64] ty #[.slice A n cap, .slice (some a) m c]).run Try.prog w = .ok (.slice A' (n + m) cap') w' ∧ OwnI w' B A' (n + m) cap' (l ++ l2) ∧ w.grownBy w' (A.map (·.block)) := by
  obtain ⟨i0, hi, hz0, hz1, hz2⟩ := info_parts infoI64
  have hlt : ∀ x ∈ l ++ l2, Wf64 x := fun x hx => by
    rcases List.mem_append.1 hx with h | h
    · exact hown.2 x h
    · exact h2.wf x h
  obtain ⟨v', w', hr, h3, h4, h5, h6⟩ := run_append_own_at (P := Try.prog) w B 64 ty 2 i0 (.int .i64 0) 1 8 Try.underlying64 hi hz0 hz1 hz2 rfl (by decide) _ n (ivs l) hown.1 a m c (ivs l2) (by rw [ivs_length, hm, Nat.mul_one]) (is_at h2) (ivs_one l2) (by unfold maxLen; omega) (by omega) hbase
  rw [← ivs_append] at h3
  rcases h3.2 with ⟨rfl, h0⟩ | ⟨g, cap', cur, rfl, hb, hrest⟩
  · have hn0 : n = 0 := by omega
    have hm0 : m = 0 := by omega
    subst hn0; subst hm0
    exact ⟨none, 0, w', hr, ⟨h3, hlt⟩, by rcases A with _ | _ <;> exact h4⟩
  · exact ⟨_, _, w', hr, ⟨h3, hlt⟩, by rcases A with _ | _ <;> exact h4⟩
theorem wpList_append_is {w : World} {ops : Array Oper} {rest : List Oper} {o : Oper} {a : Act} {Q : Exit → Act → World → Prop} (hgd : o.guard = none) (s x : Operand)
    (ho : o.op = .call { callee := .builtin .append, args := #[s, x], argTypes := #[64, 64] })
    (B : Nat) (A : Option Addr) (n cap : Nat) (l : List Int) (hs : a.eval s = .slice A n cap) (hown : OwnI w B A n cap l) (b : Addr) (m c : Nat) (l2 : List Int) (hx : a.eval x = .slice (some b) m c) (hm : m = l2.length) (h2 : IsAt w (some b) l2)
    (hbytes : (n + m) * 8 ≤ 140737488355328) (hbase : B ≤ w.heap.size)
    (h : ∀ A' cap' w', OwnI w' B A' (n + m) cap' (l ++ l2) → w.grownBy w' (A.map (·.block)) → wpList Try.prog ops Q rest (a.put o.dst (.slice A' (n + m) cap')) w') : wpList Try.prog ops Q (o :: rest) a w := by
  refine wpList_plain hgd fun K hK => ?_
  obtain ⟨A', cap', w', hr, h3, h4⟩ := run_append_is w B A n cap l hown b m c l2 hm h2 hbytes hbase o.type
  unfold Oper.wp execOp
  simp only [ho, resolve, invoke, builtin, Sem.run_bind, Sem.run_pure, Result.andThen_ok, List.map_toArray, List.map_cons, List.map_nil, hs, hx, hr]
  exact hK _ _ (h A' cap' w' h3 h4)
theorem is_one (w : World) (x : Int) (hx : Wf64 x) : IsAt (w.alloc (.cells #[.int .i64 x] 2)) (some ⟨w.heap.size, 0, none⟩) [x] :=
  IsAt.of_row _ (fun y hy => by simp at hy; subst hy; exact hx) (heap_alloc_new' w _) ⟨[], rfl⟩
end Go.Proofs.Ytljelocomjbanaa

set_option linter.unusedSimpArgs false
set_option linter.unusedVariables false
set_option maxRecDepth 8000
namespace Go.Proofs.Ytljelocomjbanaa
open Go.RowKit Go.WideShapes Col
namespace Col
def zz (x : Int) : Nat := if x < 0 then (-2 * x - 1).toNat else (2 * x).toNat
theorem zz_lt {x : Int} (h : Wf64 x) : zz x < 18446744073709551616 := by unfold zz; obtain ⟨h1, h2⟩ := h; split <;> omega
theorem uz_zz {x : Int} : uz (zz x) = x := by
  unfold uz zz
  split <;> split <;> omega
/-- Numbers one behind the other. -/
def lpl (l : List Int) : List Nat := l.flatMap fun x => ub (zz x)
def sub64 (a b : Int) : Int := IntKind.i64.wrap (a - b)
/-- Numbers as their distances. -/
def lde : Int → List Int → List Nat
  | _, [] => []
  | p, x :: l => ub (zz (sub64 x p)) ++ lde x l
theorem sub64_wf (a b : Int) : Wf64 (sub64 a b) := by unfold sub64 Wf64; rw [IntKind.wrap_i64]; omega
end Col

/-- What a call ends with that appends bytes. -/
def Puts (B : Nat) (w : World) (l : List Nat) (e : Ending) (w' : World) : Prop := ∃ A n cap, e = .returned (.slice A n cap) ∧ OwnS w' B A n cap l ∧ Below B w w' ∧ w.heap.size ≤ w'.heap.size
theorem Puts.eq {B : Nat} {w w' : World} {l m : List Nat} {e : Ending} (h : Puts B w l e w') (hm : l = m) : Puts B w m e w' := hm ▸ h
theorem or128 (n : Nat) : bits BinOp.or IntKind.u8 ((n : Int) % 256) 128 = ((n % 128 + 128 : Nat) : Int) := by
  have h : ∀ b : Fin 256, bits BinOp.or IntKind.u8 ((b : Nat) : Int) 128 = (((b : Nat) % 128 + 128 : Nat) : Int) := by decide +kernel
  have e : (n : Int) % 256 = ((n % 256 : Nat) : Int) := by omega
  rw [e, h ⟨n % 256, by omega⟩]
  congr 1
  show n % 256 % 128 + 128 = n % 128 + 128
  omega

set_option maxHeartbeats 1000000 in
theorem putU_any (B : Nat) (A : Option Addr) (n cap : Nat) (l : List Nat) (x : Nat) (hx : x < 18446744073709551616) (w : World) (H : Hid (OwnS w B A n cap l)) (hn : n ≤ 1099511627776) (hB : B ≤ w.heap.size) :
    Calls Try.prog 55 #[.slice A n cap, .int .u64 (x : Int)] w (Puts B w (l ++ ub x)) := by
  have HBB := Lib.hid hB
  go_enter Try.func55, Try.ntmps55
  go_wp2
  go_loopw [0, 1] (fun p y wr => ∃ (A' : Option Addr) (n' cap' : Nat) (l' : List Nat) (x' : Nat), p = .slice A' n' cap' ∧ y = .int .u64 (x' : Int) ∧ x' ≤ x ∧ n' + (ub x').length ≤ n + (ub x).length ∧ l' ++ ub x' = l ++ ub x ∧ OwnS wr B A' n' cap' l' ∧ Below B w wr) (fun _ y _ => (intOf y).toNat)
  case atStart => exact ⟨A, n, cap, l, x, rfl, rfl, Nat.le_refl _, Nat.le_refl _, rfl, H.out, Below.refl _ _⟩
  case round =>
    obtain ⟨A', n', cap', l', x', rfl, rfl, hx', hn', hl, hown, hb⟩ := hrel
    have HN := Lib.hid hn'
    have HL := Lib.hid hl
    have HO := Lib.hid hown
    have HB := Lib.hid hb
    have hub := Lib.hid (ub_len 9 x (Nat.lt_trans hx (by decide)))
    have hub' := Lib.hid (ub_pos x')
    clear hn' hl hown hb
    have hbs : B ≤ wr.heap.size := Nat.le_trans HBB.out HB.out.size
    by_cases h : x' < 128
    · have hw8 : IntKind.u8.wrap (x' : Int) = (x' : Int) := by rw [IntKind.wrap_u8]; omega
      have HB1 := Lib.hid (by_one wr x' (by omega))
      have HO1 := Lib.hid (HO.out.keep ((Below.refl _ _).alloc (Nat.le_refl _) (.cells #[.int .u8 (x' : Int)] 5)))
      have hbs1 : B ≤ (wr.alloc (.cells #[.int .u8 (x' : Int)] 5)).heap.size := by simp; omega
      go_wp2_with (refine wpList_append_by rfl (.tmp 15) (.tmp 18) rfl B A' n' cap' l' rfl HO1.out (some ⟨wr.heap.size, 0, none⟩) 1 1 [x'] rfl rfl HB1.out (by have := HN.out; have := hub.out; have := hub'.out; omega) hbs1 ?_; intro A2 cap2 w2 ho2 hg2 hr2)
      have HF := Lib.hid ho2
      have HG := Lib.hid hg2
      clear ho2 hg2 hr2
      go_ret
      have hbl : Below B w w2 := ((HB.out.alloc hbs _).grown HG.out hbs1 HO1.out.base)
      exact ⟨A2, n' + 1, cap2, rfl, by rw [← HL.out, ub_lt h]; exact HF.out, hbl, hbl.size⟩
    · have h8 := or128 x'
      have HB1 := Lib.hid (by_one wr (x' % 128 + 128) (by omega))
      have HO1 := Lib.hid (HO.out.keep ((Below.refl _ _).alloc (Nat.le_refl _) (.cells #[.int .u8 ((x' % 128 + 128 : Nat) : Int)] 5)))
      have hbs1 : B ≤ (wr.alloc (.cells #[.int .u8 ((x' % 128 + 128 : Nat) : Int)] 5)).heap.size := by simp; omega
      obtain ⟨c, hc⟩ : ∃ c, c = x' % 128 + 128 := ⟨_, rfl⟩
      rw [← hc] at h8 HB1 HO1 hbs1
      have HC := Lib.hid hc
      clear hc
      go_wp2_with (refine wpList_append_by rfl (.tmp 7) (.tmp 11) rfl B A' n' cap' l' rfl HO1.out (some ⟨wr.heap.size, 0, none⟩) 1 1 [c] rfl rfl HB1.out (by have := HN.out; have := hub.out; have := hub'.out; omega) hbs1 ?_; intro A2 cap2 w2 ho2 hg2 hr2; have HF := Lib.hid ho2; have HG := Lib.hid hg2; clear ho2 hg2 hr2)
      go_roundw
      case rel => exact ⟨A2, n' + 1, cap2, l' ++ [c], x' / 128, rfl, by go_num, by omega, by have := HN.out; rw [ub_ge (by omega), List.length_cons] at this; omega, by rw [← HL.out, ub_ge (n := x') (by omega), List.append_assoc, HC.out]; rfl, HF.out, ((HB.out.alloc hbs _).grown HG.out hbs1 HO1.out.base)⟩
      case measure => simp [intOf]; omega

theorem xor_zz_neg (x : Int) (h : Wf64 x) (hn : x < 0) : bits BinOp.xor IntKind.u64 (IntKind.u64.wrap (IntKind.u64.wrap x * 2)) 18446744073709551615 = ((zz x : Nat) : Int) := by
  have e : zz x = (-2 * x - 1).toNat := if_pos hn
  obtain ⟨h1, h2⟩ := h
  have e1 : IntKind.u64.wrap (IntKind.u64.wrap x * 2) = (((2 * (x + 9223372036854775808)).toNat : Nat) : Int) := by rw [IntKind.wrap_u64, IntKind.wrap_u64]; omega
  have hb : ∀ a : Nat, a < 18446744073709551616 → bits BinOp.xor IntKind.u64 (a : Int) 18446744073709551615 = ((18446744073709551615 - a : Nat) : Int) := fun a ha => by
    have h1 : (BitVec.ofInt 64 (a : Int)).toNat = a := by
      rw [BitVec.ofInt_natCast, BitVec.toNat_ofNat]; exact Nat.mod_eq_of_lt (by omega)
    have h0 : BitVec.ofInt 64 18446744073709551615 = BitVec.allOnes 64 := by decide
    show IntKind.u64.wrap ((BitVec.ofInt 64 (a : Int) ^^^ BitVec.ofInt 64 18446744073709551615).toNat : Int) = _
    rw [h0, BitVec.xor_allOnes, BitVec.toNat_not, h1, IntKind.wrap_u64]; omega
  rw [e1, hb _ (by omega), e]
  omega
theorem xor_zz_pos (x : Int) (h : Wf64 x) (hn : ¬ x < 0) : bits BinOp.xor IntKind.u64 (x * 2) 0 = ((zz x : Nat) : Int) := by
  have e : zz x = (2 * x).toNat := if_neg hn
  obtain ⟨h1, h2⟩ := h
  have hb : ∀ a : Nat, a < 18446744073709551616 → bits BinOp.xor IntKind.u64 (a : Int) 0 = (a : Int) := fun a ha => by
    have h1 : (BitVec.ofInt 64 (a : Int)).toNat = a := by
      rw [BitVec.ofInt_natCast, BitVec.toNat_ofNat]; exact Nat.mod_eq_of_lt (by omega)
    have h0 : BitVec.ofInt 64 0 = 0#64 := by decide
    show IntKind.u64.wrap ((BitVec.ofInt 64 (a : Int) ^^^ BitVec.ofInt 64 0).toNat : Int) = _
    rw [h0, BitVec.xor_zero, h1, IntKind.wrap_u64]; omega
  have e1 : x * 2 = (((2 * x).toNat : Nat) : Int) := by omega
  rw [e1, hb _ (by omega), e]
end Go.Proofs.Ytljelocomjbanaa

set_option linter.unusedSimpArgs false
set_option linter.unusedVariables false
set_option maxRecDepth 8000
namespace Go.Proofs.Ytljelocomjbanaa
open Go.RowKit Go.WideShapes Col
def WfT (x : List Nat) : Prop := ∀ c ∈ x, c < 256
theorem ub10 {n : Nat} (h : n < 18446744073709551616) : (ub n).length ≤ 10 := ub_len 9 n (Nat.lt_trans h (by decide))
/-- The list's own block. -/
def MineK (A : Option Addr) (k : Nat) : Prop := A.map (·.block) = some k
theorem kept_grown {w0 w w' : World} {A A0 : Option Addr} (h : Kept (MineK A0) w0 w) (hA : ∀ k, MineK A k → MineK A0 k ∨ w0.heap.size ≤ k) (hg : w.grownBy w' (A.map (·.block))) : Kept (MineK A0) w0 w' :=
  h.trans' (S' := MineK A) ⟨hg.os, hg.tape, hg.output, hg.size, fun k hk hn => hg.block k hk (fun e => hn e.symm)⟩ hA
theorem mine_next {w0 w : World} {A A0 A2 : Option Addr} (hA : ∀ k, MineK A k → MineK A0 k ∨ w0.heap.size ≤ k) (hs : w0.heap.size ≤ w.heap.size) (hr : A2.map (·.block) = A.map (·.block) ∨ A2.map (·.block) = some w.heap.size) : ∀ k, MineK A2 k → MineK A0 k ∨ w0.heap.size ≤ k := fun k hk => by
  unfold MineK at hk
  rcases hr with h | h
  · rw [h] at hk; exact hA k hk
  · rw [h] at hk; injection hk with hk; exact .inr (by omega)
theorem kept_own {w w' : World} {A : Option Addr} {B n cap : Nat} {l : List Nat} (h : Kept (MineK A) w w') (ho : OwnS w B A n cap l) (hB : B ≤ w.heap.size) : Below B w w' := h.below hB fun k hk => ho.base k hk
/-- What a call ends with that appends bytes. -/
def PutK (B : Nat) (w : World) (A : Option Addr) (l : List Nat) (e : Ending) (w' : World) : Prop := ∃ A' n cap, e = .returned (.slice A' n cap) ∧ OwnS w' B A' n cap l ∧ Kept (MineK A) w w' ∧ (∀ k, MineK A' k → MineK A k ∨ w.heap.size ≤ k)
theorem PutK.at {B : Nat} {w w' : World} {A : Option Addr} {l : List Nat} {e : Ending} (h : PutK B w A l e w') : ∃ A' n cap, e = .returned (.slice A' n cap) ∧ Hid (OwnS w' B A' n cap l) ∧ Hid (Kept (MineK A) w w') ∧ Hid (∀ k, MineK A' k → MineK A k ∨ w.heap.size ≤ k) ∧ n = l.length := by
  obtain ⟨A', n, cap, he, ho, hk, hm⟩ := h
  exact ⟨A', n, cap, he, ho, hk, hm, ho.len⟩
set_option maxHeartbeats 1000000 in
theorem putU_k (B : Nat) (A : Option Addr) (n cap : Nat) (l : List Nat) (x : Nat) (hx : x < 18446744073709551616) (w : World) (H : Hid (OwnS w B A n cap l)) (hn : n ≤ 1099511627776) (hB : B ≤ w.heap.size) :
    Calls Try.prog 55 #[.slice A n cap, .int .u64 (x : Int)] w (PutK B w A (l ++ ub x)) := by
  have HBB := Lib.hid hB
  go_enter Try.func55, Try.ntmps55
  go_wp2
  go_loopw [0, 1] (fun p y wr => ∃ (A' : Option Addr) (n' cap' : Nat) (l' : List Nat) (x' : Nat), p = .slice A' n' cap' ∧ y = .int .u64 (x' : Int) ∧ x' ≤ x ∧ n' + (ub x').length ≤ n + (ub x).length ∧ l' ++ ub x' = l ++ ub x ∧ OwnS wr B A' n' cap' l' ∧ Kept (MineK A) w wr ∧ (∀ k, MineK A' k → MineK A k ∨ w.heap.size ≤ k)) (fun _ y _ => (intOf y).toNat)
  case atStart => exact ⟨A, n, cap, l, x, rfl, rfl, Nat.le_refl _, Nat.le_refl _, rfl, H.out, Kept.refl _ _, fun k hk => .inl hk⟩
  case round =>
    obtain ⟨A', n', cap', l', x', rfl, rfl, hx', hn', hl, hown, hb, hmi⟩ := hrel
    have HN := Lib.hid hn'
    have HL := Lib.hid hl
    have HO := Lib.hid hown
    have HB := Lib.hid hb
    have HMI := Lib.hid hmi
    have hub := Lib.hid (ub_len 9 x (Nat.lt_trans hx (by decide)))
    have hub' := Lib.hid (ub_pos x')
    clear hn' hl hown hb hmi
    have hbs : B ≤ wr.heap.size := Nat.le_trans HBB.out HB.out.size
    by_cases h : x' < 128
    · have hw8 : IntKind.u8.wrap (x' : Int) = (x' : Int) := by rw [IntKind.wrap_u8]; omega
      have HB1 := Lib.hid (by_one wr x' (by omega))
      have HO1 := Lib.hid (HO.out.keep ((Below.refl _ _).alloc (Nat.le_refl _) (.cells #[.int .u8 (x' : Int)] 5)))
      have hbs1 : B ≤ (wr.alloc (.cells #[.int .u8 (x' : Int)] 5)).heap.size := by simp; omega
      go_wp2_with (refine wpList_append_by rfl (.tmp 15) (.tmp 18) rfl B A' n' cap' l' rfl HO1.out (some ⟨wr.heap.size, 0, none⟩) 1 1 [x'] rfl rfl HB1.out (by have := HN.out; have := hub.out; have := hub'.out; omega) hbs1 ?_; intro A2 cap2 w2 ho2 hg2 hr2)
      have HF := Lib.hid ho2
      have HG := Lib.hid hg2
      have HR2 := Lib.hid hr2
      clear ho2 hg2 hr2
      go_ret
      exact ⟨A2, n' + 1, cap2, rfl, by rw [← HL.out, ub_lt h]; exact HF.out, kept_grown (HB.out.alloc _) HMI.out HG.out, mine_next HMI.out (HB.out.alloc _).size HR2.out⟩
    · have h8 := or128 x'
      have HB1 := Lib.hid (by_one wr (x' % 128 + 128) (by omega))
      have HO1 := Lib.hid (HO.out.keep ((Below.refl _ _).alloc (Nat.le_refl _) (.cells #[.int .u8 ((x' % 128 + 128 : Nat) : Int)] 5)))
      have hbs1 : B ≤ (wr.alloc (.cells #[.int .u8 ((x' % 128 + 128 : Nat) : Int)] 5)).heap.size := by simp; omega
      obtain ⟨c, hc⟩ : ∃ c, c = x' % 128 + 128 := ⟨_, rfl⟩
      rw [← hc] at h8 HB1 HO1 hbs1
      have HC := Lib.hid hc
      clear hc
      go_wp2_with (refine wpList_append_by rfl (.tmp 7) (.tmp 11) rfl B A' n' cap' l' rfl HO1.out (some ⟨wr.heap.size, 0, none⟩) 1 1 [c] rfl rfl HB1.out (by have := HN.out; have := hub.out; have := hub'.out; omega) hbs1 ?_; intro A2 cap2 w2 ho2 hg2 hr2; have HF := Lib.hid ho2; have HG := Lib.hid hg2; have HR2 := Lib.hid hr2; clear ho2 hg2 hr2)
      go_roundw
      case rel => exact ⟨A2, n' + 1, cap2, l' ++ [c], x' / 128, rfl, by go_num, by omega, by have := HN.out; rw [ub_ge (by omega), List.length_cons] at this; omega, by rw [← HL.out, ub_ge (n := x') (by omega), List.append_assoc, HC.out]; rfl, HF.out, kept_grown (HB.out.alloc _) HMI.out HG.out, mine_next HMI.out (HB.out.alloc _).size HR2.out⟩
      case measure => simp [intOf]; omega
theorem Puts.at {B : Nat} {w w' : World} {l : List Nat} {e : Ending} (h : Puts B w l e w') : ∃ A n cap, e = .returned (.slice A n cap) ∧ Hid (OwnS w' B A n cap l) ∧ Hid (Below B w w') ∧ n = l.length := by
  obtain ⟨A, n, cap, he, ho, hb, -⟩ := h
  exact ⟨A, n, cap, he, ho, hb, ho.len⟩
set_option maxHeartbeats 2000000 in
theorem refU_any (n : Nat) : n < 18446744073709551616 → ∀ w : World, Calls Try.prog 58 #[.int .u64 (n : Int)] w (Puts w.heap.size w (ub n)) := by
  induction n using Nat.strongRecOn with
  | ind n ih =>
    intro hn w
    by_cases h : n < 128
    · have hw8 : IntKind.u8.wrap (n : Int) = (n : Int) := by rw [IntKind.wrap_u8]; omega
      have HO : Hid (OwnS (w.alloc (.cells #[.int .u8 (n : Int)] 5)) w.heap.size (some ⟨w.heap.size, 0, none⟩) 1 1 [n]) := Lib.hid (OwnS.of_row (cs := [.int .u8 (n : Int)]) (heap_alloc_new' w _) rfl (by decide) rfl rfl (Nat.le_refl _) (fun x hx => by simp at hx; omega))
      have HB : Hid (Below w.heap.size w (w.alloc (.cells #[.int .u8 (n : Int)] 5))) := Lib.hid ((Below.refl _ _).alloc (Nat.le_refl _) _)
      clear ih
      go_enter Try.func58, Try.ntmps58
      go_wp2
      go_ret
      exact ⟨_, 1, 1, rfl, by rw [ub_lt h]; exact HO.out, HB.out, HB.out.size⟩
    · obtain ⟨m, hm⟩ : ∃ m, m = n % 128 := ⟨_, rfl⟩
      obtain ⟨q, hq⟩ : ∃ q, q = n / 128 := ⟨_, rfl⟩
      obtain ⟨c, hc⟩ : ∃ c, c = m + 128 := ⟨_, rfl⟩
      have hmi : (n : Int) % 128 = (m : Int) := by omega
      have hmi2 : (n : Int).tmod 128 = (m : Int) := by rw [Int.tmod_eq_emod_of_nonneg (by omega)]; exact hmi
      have hqi : (n : Int) / 128 = (q : Int) := by omega
      have hqi2 : (n : Int).tdiv 128 = (q : Int) := by rw [Int.tdiv_eq_ediv_of_nonneg (by omega)]; exact hqi
      have hci : (m : Int) + 128 = (c : Int) := by omega
      have hc256 : c < 256 := by omega
      have hw8 : IntKind.u8.wrap (c : Int) = (c : Int) := by rw [IntKind.wrap_u8]; omega
      have hm128 : m < 128 := by omega
      have HUB : Hid (ub n = [c] ++ ub q) := Lib.hid (by rw [ub_ge (by omega), ← hm, ← hc, ← hq]; rfl)
      have HQ10 := Lib.hid (ub10 (show q < 18446744073709551616 by omega))
      have HI := Lib.hid (ih q (by omega) (by omega))
      have HO : Hid (OwnS (w.alloc (.cells #[.int .u8 (c : Int)] 5)) w.heap.size (some ⟨w.heap.size, 0, none⟩) 1 1 [c]) := Lib.hid (OwnS.of_row (cs := [.int .u8 (c : Int)]) (heap_alloc_new' w _) rfl (by decide) rfl rfl (Nat.le_refl _) (fun x hx => by simp at hx; omega))
      have HB : Hid (Below w.heap.size w (w.alloc (.cells #[.int .u8 (c : Int)] 5))) := Lib.hid ((Below.refl _ _).alloc (Nat.le_refl _) _)
      clear ih hm hq hc
      go_enter Try.func58, Try.ntmps58
      go_wp2_with (first
        | (go_at_call 58; refine (HI.out _).mono ?_; rintro e w2 hp; obtain ⟨A2, n2, c2, rfl, HO2, HB2, hn2⟩ := hp.at; have HN2 := Lib.hid hn2; have hn10 : n2 ≤ 10 := (by have := HQ10.out; omega); have HO3 := Lib.hid (HO.out.keep HB2.out); have HB3 := Lib.hid (below_to HB.out HB2.out); clear hp hn2)
        | (refine wpList_append_by rfl (.tmp 14) (.tmp 17) rfl w.heap.size (some ⟨w.heap.size, 0, none⟩) 1 1 [c] rfl HO3.out A2 n2 c2 (ub q) rfl HN2.out HO2.out.byAt (by omega) HB3.out.size ?_; intro A4 c4 w4 ho4 hg4 hr4; have HO4 := Lib.hid ho4; have HB4 := Lib.hid (HB3.out.grown hg4 HB3.out.size HO3.out.base); clear ho4 hg4 hr4))
      go_ret
      exact ⟨A4, _, c4, rfl, by rw [HUB.out]; exact HO4.out, HB4.out, HB4.out.size⟩
theorem conv_sb (s : List Nat) (hs : WfT s) (n : Nat) (hn : n = s.length) (w : World) : ∃ (w' : World) (C : Nat), (convert 9 39 (.string (strB s))).run Try.prog w = .ok (.slice (some ⟨w.heap.size, 0, none⟩) n C) w' ∧ ByAt w' (some ⟨w.heap.size, 0, none⟩) s ∧ Below w.heap.size w w' := by
  have h := Go.Lib.run_convert_string_bytes w 9 39 5 (strB s) Try.underlying9 Try.underlying39 Try.underlying5
  rw [show (strB s).size = n by rw [strB_size, hn]] at h
  refine ⟨_, _, h, fun k x hx => ?_, ⟨rfl, rfl, rfl, by rw [Go.Lib.bytesWorld_size]; omega, fun k hk => Go.Lib.bytesWorld_at_old _ _ _ k hk⟩⟩
  · have hx256 := hs x (List.mem_of_getElem? hx)
    refine ⟨hx256, _, 0, rfl, by rw [Go.Lib.bytesWorld_size]; omega, ?_⟩
    have hk := (List.getElem?_eq_some_iff.1 hx).1
    rw [Nat.zero_add, Go.Lib.bytesWorld_cell w _ (strB s) k (by rw [strB_size]; exact hk)]
    have e : (strB s).data.toList.getD k 0 = UInt8.ofNat x := by
      unfold strB; rw [strOfNums_data, List.getD_eq_getElem?_getD, List.getElem?_map, List.getElem?_map, hx]; rfl
    rw [e, UInt8.toNat_ofNat_of_lt' (by simpa using hx256)]
/-- A text as bytes. -/
def txL (s : List Nat) : List Nat := ub s.length ++ s
set_option maxHeartbeats 2000000 in
theorem refText_any (s : List Nat) (hs : WfT s) (hl : s.length ≤ 1000000) (w : World) : Calls Try.prog 59 #[.string (strB s)] w (Puts w.heap.size w (txL s)) := by
  obtain ⟨n, hn⟩ : ∃ n, n = s.length := ⟨_, rfl⟩
  have hsz : (strB s).size = n := by rw [strB_size, hn]
  have hnw : IntKind.u64.wrap (n : Int) = (n : Int) := by rw [IntKind.wrap_u64]; omega
  have HU := Lib.hid (refU_any n (by omega))
  have H10 : Hid ((ub n).length ≤ 10) := Lib.hid (ub10 (show n < 18446744073709551616 by omega))
  have HWS := Lib.hid hs
  have HN := Lib.hid hn
  have hnl : n ≤ 1000000 := by omega
  clear hs hn hl
  go_enter Try.func59, Try.ntmps59
  go_wp2_with (first
    | (go_at_call 58; refine (HU.out _).mono ?_; rintro e w2 hp; obtain ⟨A2, n2, c2, rfl, HO2, HB2, hn2⟩ := hp.at; obtain ⟨w3, C3, hcv, hby, hb3⟩ := conv_sb s HWS.out n HN.out w2; have HBY := Lib.hid hby; have HO3 := Lib.hid (HO2.out.keep hb3); have HB3 := Lib.hid (below_to HB2.out hb3); have hn10 : n2 ≤ 10 := (by have := H10.out; omega); clear hby hb3 hp hn2)
    | (refine wpList_append_by rfl (.tmp 8) (.tmp 10) rfl w.heap.size A2 n2 c2 (ub n) rfl HO3.out (some ⟨w2.heap.size, 0, none⟩) n C3 s rfl HN.out HBY.out (by omega) HB3.out.size ?_; intro A4 c4 w4 ho4 hg4 hr4; have HO4 := Lib.hid ho4; have HB4 := Lib.hid (HB3.out.grown hg4 HB3.out.size HO3.out.base); clear ho4 hg4 hr4))
  go_ret
  exact ⟨A4, _, c4, rfl, by unfold txL; rw [← HN.out]; exact HO4.out, HB4.out, HB4.out.size⟩
theorem strCells_by (s : List Nat) (hs : WfT s) : Go.Lib.strCells (strB s) = bys s := by
  unfold Go.Lib.strCells strB bys
  rw [strOfNums_data, List.map_map, List.map_map]
  refine List.map_congr_left fun x hx => ?_
  show Value.int .u8 ((UInt8.ofNat (Int.ofNat x).toNat).toNat : Int) = .int .u8 (x : Int)
  rw [show (Int.ofNat x).toNat = x from rfl, UInt8.toNat_ofNat_of_lt' (by simpa using hs x hx)]
theorem ownStr {w : World} {B n : Nat} {v : Value} {l : List Value} (h : w.ownsRow B 5 1 v n l) : ∃ A cap, v = .slice A n cap := by
  rcases h.2 with ⟨e0, e1⟩ | ⟨g, cap', cur, e0, -⟩
  · exact ⟨none, 0, by rw [e0, e1]⟩
  · exact ⟨_, _, e0⟩
theorem ownB {w : World} {B n cap : Nat} {A : Option Addr} {l : List Nat} (h : OwnS w B A n cap l) : ∀ k, (Value.slice A n cap).ownBlock = some k → B ≤ k := fun k hk => by
  rcases A with _ | a
  · cases hk
  · exact h.base k (by simpa [Value.ownBlock] using hk)
theorem own_block (A : Option Addr) (n c : Nat) : (Value.slice A n c).ownBlock = A.map (·.block) := by cases A <;> rfl
set_option maxHeartbeats 2000000 in
theorem putT_any (B : Nat) (A : Option Addr) (n cap : Nat) (l s : List Nat) (hs : WfT s) (hl : s.length ≤ 1000000) (w : World) (H : Hid (OwnS w B A n cap l)) (hn : n ≤ 1099511627776) (hB : B ≤ w.heap.size) :
    Calls Try.prog 56 #[.slice A n cap, .string (strB s)] w (Puts B w (l ++ txL s)) := by
  obtain ⟨m, hm⟩ : ∃ m, m = s.length := ⟨_, rfl⟩
  have hsz : (strB s).size = m := by rw [strB_size, hm]
  have HSZ := Lib.hid hsz
  have hmw : IntKind.u64.wrap (m : Int) = (m : Int) := by rw [IntKind.wrap_u64]; omega
  have HU := Lib.hid (putU_any B A n cap l m (by omega) w H hn hB)
  have H10 : Hid ((ub m).length ≤ 10) := Lib.hid (ub10 (show m < 18446744073709551616 by omega))
  have HWS := Lib.hid hs
  have HM := Lib.hid hm
  have HLN : Hid (n = l.length) := Lib.hid H.out.len
  have hml : m ≤ 1000000 := by omega
  obtain ⟨i0, hi, hz0, hz1, hz2⟩ := info_parts infoU8
  have HI := Lib.hid (And.intro hi (And.intro hz0 (And.intro hz1 hz2)))
  clear hs hm hl hi hz0 hz1 hz2
  go_enter Try.func56, Try.ntmps56
  go_wp2_with (first
    | (go_at_call 55; (with_reducible refine (HU.out).mono ?_); rintro e w2 hp; obtain ⟨A2, n2, c2, rfl, HO2, HB2, hn2⟩ := hp.at; have HN2 := Lib.hid hn2; have hn10 : n2 ≤ n + 10 := (by have := H10.out; have := HLN.out; rw [hn2, List.length_append]; omega); have hB2 : B ≤ w2.heap.size := Nat.le_trans hB HB2.out.size; clear hp hn2)
    | (at_builtin; refine Go.Lib.wpList_append_own_string _ rfl (.tmp 9) (.tmp 10) 39 9 rfl B 5 i0 Try.underlying39 Try.underlying9 HI.out.1 HI.out.2.1 HI.out.2.2.1 HI.out.2.2.2 (.slice A2 n2 c2) n2 _ rfl HO2.out.1 (strB s) rfl (by rw [HSZ.out]; unfold maxLen; omega) (by rw [HSZ.out]; omega) hB2 ?_; intro v4 w4 ho4 hg4 hr4; rw [HSZ.out, strCells_by s HWS.out] at ho4; obtain ⟨A5, c5, hv4⟩ := ownStr ho4; subst hv4; have HO4 := Lib.hid ho4; have HB4 := Lib.hid (HB2.out.grown hg4 hB2 (ownB HO2.out)); clear ho4 hg4 hr4))
  have ho := HO4.out
  rw [show bys (l ++ ub m) ++ bys s = bys (l ++ txL s) by unfold txL bys; rw [← HM.out]; simp] at ho
  go_ret
  refine ⟨A5, _, c5, rfl, ⟨ho, fun x hx => ?_⟩, HB4.out, HB4.out.size⟩
  rcases List.mem_append.1 hx with h | h
  · exact H.out.2 x h
  · unfold txL at h
    rcases List.mem_append.1 h with h2 | h2
    · exact HO2.out.2 x (List.mem_append.2 (.inr (by rw [HM.out]; exact h2)))
    · exact HWS.out x h2
end Go.Proofs.Ytljelocomjbanaa

set_option linter.unusedSimpArgs false
set_option linter.unusedVariables false
set_option maxRecDepth 8000
namespace Go.Proofs.Ytljelocomjbanaa
open Go.RowKit Sm

theorem Kp.drew {w0 : World} {g : Nat} {cs : Array Value} {t : TypeId} {w : World} (h : Kp w0 g cs t w) : Kp w0 g cs t w.drew := ⟨h.below.drew, h.row⟩
theorem Kp.put {w0 : World} {g : Nat} {cs cs' : Array Value} {t : TypeId} {w : World} (h : Kp w0 g cs t w) (hg : w0.heap.size ≤ g) : Kp w0 g cs' t (w.setRow g cs') := h.stored hg cs'
def SmGives (a b : Nat) : Prop := ∀ w, Calls Try.prog 46 #[.float .f64 a, .float .f64 b] w fun e w' => e = .returned (.bool true) ∧ w = w'
theorem SmGives.at {a b : Nat} (H : SmGives a b) (w : World) : Calls Try.prog 46 #[.float .f64 a, .float .f64 b] w fun e w' => e = .returned (.bool true) ∧ w = w' := H w
theorem sm_gives (a b : Nat) (ha : a < 18446744073709551616) (hb : b < 18446744073709551616) (h : Fl.canon a = Fl.canon b) : SmGives a b := fun w => by
  refine (refSame_any a b ha hb w).mono ?_
  rintro e w' ⟨rfl, rfl⟩
  exact ⟨ret_eq (congrArg Value.bool (decide_eq_true h)), rfl⟩
/-- All of the numbers are finite. -/
def Fin (l : List Nat) : Prop := ∀ x, x ∈ l → Fl.rung x < 9218868437227405312
theorem fin_has (l : List Nat) : Fin l → accH l = 0 ∨ accH l = 8 ∨ accH l = 24 :=
  list_snoc (p := fun l => Fin l → accH l = 0 ∨ accH l = 8 ∨ accH l = 24) (fun _ => Or.inl rfl) (fun l b ih h => by
    have h1 := ih (fun x hx => h x (by simp [hx]))
    have h2 := kind_fin b (h b (by simp))
    rw [accH_snoc, h2]
    rcases h1 with h1 | h1 | h1 <;> rw [h1] <;> split <;> decide) l
theorem fin_snoc (l : List Nat) (b : Nat) (h : Fin l) (hb : Fl.rung b < 9218868437227405312) : Fin (l ++ [b]) := fun x hx => by
  rcases List.mem_append.1 hx with h1 | h1
  · exact h x h1
  · rw [List.mem_singleton.1 h1]; exact hb

/-- A whole sum read, its operation guarded or not. -/
theorem wpList_sum {ops : Array Oper} {rest : List Oper} {o : Oper} {a : Act} {w : World} {Q : Exit → Act → World → Prop} (x : Operand) (ho : o.op = .load 27 x)
    (g : Nat) (hx : a.eval x = .pointer (some ⟨g, 0, none⟩)) (n h : Nat) (t : TypeId) (fr : Nat × Nat) (hg : w.heap[g]? = some (.cells (P36 (wd n) h) t fr)) (hw : Region.wanted o (yielded ops a.tmps) = true)
    (hh : wpList Try.prog ops Q rest (a.put o.dst (.agg (P36 (wd n) h))) w) : wpList Try.prog ops Q (o :: rest) a w :=
  wpList_load_row_w hw 27 x ho g hx t _ fr _ hg u27 rfl (i36 _ _) hh
theorem wpList_keepSum {ops : Array Oper} {rest : List Oper} {o : Oper} {a : Act} {w : World} {Q : Exit → Act → World → Prop} (x y : Operand) (ho : o.op = .store 27 x y)
    (g : Nat) (hx : a.eval x = .pointer (some ⟨g, 0, none⟩)) (n h : Nat) (hy : a.eval y = .agg (P36 (wd n) h)) (f : Nat → Nat) (k : Nat) (t : TypeId) (hg : w.heap[g]? = some (.cells (P36 f k) t (0, 0))) (hgd : o.guard = none)
    (hh : wpList Try.prog ops Q rest (a.put o.dst undef) (w.setRow g (P36 (wd n) h))) : wpList Try.prog ops Q (o :: rest) a w :=
  wpList_store_row hgd 27 x y ho g _ hx hy t _ hg (i36 _ _) (by rw [P36_size, P36_size]) (one36 _ _) hh
end Go.Proofs.Ytljelocomjbanaa

set_option linter.unusedSimpArgs false
set_option linter.unusedVariables false
set_option maxRecDepth 8000
namespace Go.Proofs.Ytljelocomjbanaa
open Go.RowKit Sm

/-- What stands behind a number's bytes. -/
def sgB (l : List Nat) : Nat := if 128 ≤ l.getLast?.getD 0 then 255 else 0
/-- Its last byte says no more than the others. -/
def spB (l : List Nat) : Bool := match l.getLast? with
  | none => false
  | some x => x == sgB l.dropLast
theorem sgB_lt (l : List Nat) : sgB l < 256 := by unfold sgB; split <;> decide
theorem sgB_nil : sgB [] = 0 := rfl
theorem sgB_of (l : List Nat) (x : Nat) (n : Nat) (hn : l.length = n + 1) (hx : l[n]? = some x) : sgB l = if 128 ≤ x then 255 else 0 := by
  unfold sgB
  rw [List.getLast?_eq_getElem?, hn, Nat.add_sub_cancel, hx]; rfl

set_option maxHeartbeats 1000000 in
theorem signByte_any (a : Option Addr) (l : List Nat) (len cap : Nat) (hlen : Hid (len = l.length)) (hl : len ≤ 4096) (w : World) (HA : Hid (ByAt w a l)) :
    Calls Try.prog 122 #[.slice a len cap] w fun e w' => e = .returned (.int .u8 (sgB l)) ∧ w = w' := by
  by_cases hz : len = 0
  · subst hz
    have e : l = [] := List.length_eq_zero_iff.1 hlen.out.symm
    subst e
    go_enter Try.func122, Try.ntmps122
    go_wp2
    go_ret
    exact ⟨rfl, rfl⟩
  · have hn : len - 1 < l.length := by have := hlen.out; omega
    obtain ⟨hx, g, off, rfl, hg, hc⟩ := HA.out (len - 1) l[len - 1] (List.getElem?_eq_getElem hn)
    have hs := Lib.hid (sgB_of l l[len - 1] (len - 1) (by have := hlen.out; omega) (List.getElem?_eq_getElem hn))
    have h0 : decide ((0 : Int) < (len : Int)) = true := decide_eq_true (by omega)
    have ht : ((len : Int) - 1).toNat = len - 1 := by omega
    generalize l[len - 1] = x at *
    go_enter Try.func122, Try.ntmps122
    set_option maxRecDepth 4000 in go_wp2
    all_goals go_ret
    all_goals refine ⟨ret_eq ?_, rfl⟩
    all_goals rw [hs.out]
    · rw [if_pos (by omega)]; rfl
    · rw [if_neg (by omega)]; rfl

/-! Which bytes of what was there may be -/
def possB (h : Nat) (z : Bool) : Bool := if 32 ≤ h then false else if h / 16 % 2 = 1 then decide (h / 8 % 2 = 1) else decide (h = 0 ∨ h = 8) && z
theorem poss_tests : ∀ h : _root_.Fin 256, (bits .and .u8 ((h.val : Nat) : Int) 16 != 0) = decide (h.val / 16 % 2 = 1) ∧ (bits .and .u8 ((h.val : Nat) : Int) 8 != 0) = decide (h.val / 8 % 2 = 1) ∧
    (bits .andNot .u8 ((h.val : Nat) : Int) 8 == 0) = decide (h.val = 0 ∨ h.val = 8) := by decide +kernel
set_option maxHeartbeats 1000000 in
theorem possible_core (h : Nat) (z c0 c1 c2 c3 : Bool) (hh : h < 256) (t0 : decide ((32 : Int) ≤ (h : Int)) = c0) (t1 : (bits .and .u8 (h : Int) 16 != 0) = c1) (t2 : (bits .and .u8 (h : Int) 8 != 0) = c2) (t3 : (bits .andNot .u8 (h : Int) 8 == 0) = c3) (w : World) :
    Calls Try.prog 124 #[.int .u8 h, .bool z] w fun e w' => e = .returned (.bool (if c0 then false else if c1 then c2 else (c3 && z))) ∧ w = w' := by
  cases c0 <;> cases c1 <;> cases c2 <;> cases c3 <;> cases z
  all_goals
    go_enter Try.func124, Try.ntmps124
    (set_option maxRecDepth 4000 in go_wp2)
    go_ret
    exact ⟨rfl, rfl⟩

theorem possible_any (h : Nat) (z : Bool) (hh : h < 256) (w : World) :
    Calls Try.prog 124 #[.int .u8 h, .bool z] w fun e w' => e = .returned (.bool (possB h z)) ∧ w = w' := by
  obtain ⟨t1, t2, t3⟩ := poss_tests ⟨h, hh⟩
  refine (possible_core h z _ _ _ _ hh rfl t1 t2 t3 w).mono ?_
  rintro e w' ⟨rfl, rfl⟩
  refine ⟨ret_eq (congrArg Value.bool ?_), rfl⟩
  unfold possB
  by_cases h0 : 32 ≤ h
  · rw [if_pos h0, if_pos (decide_eq_true (by omega))]
  · rw [if_neg h0, if_neg (by rw [decide_eq_true_eq]; omega)]
    by_cases h1 : h / 16 % 2 = 1
    · rw [if_pos h1, if_pos (decide_eq_true h1)]
    · rw [if_neg h1, if_neg (by rw [decide_eq_true_eq]; exact h1)]

/-- The list without its last. -/
theorem ByAt.most {w : World} {a : Option Addr} {l : List Nat} (h : ByAt w a l) : ByAt w a l.dropLast := fun k x hx => by
  rw [List.dropLast_eq_take, List.getElem?_take] at hx
  split at hx
  · exact h k x hx
  · cases hx

end Go.Proofs.Ytljelocomjbanaa
