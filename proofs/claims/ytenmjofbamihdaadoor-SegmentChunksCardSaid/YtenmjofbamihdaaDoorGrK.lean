/-
  Contracts of Read and One, and of the document's.
-/
import Derived.Test.YtenmjofbamihdaaDoorByK
import Derived.Test.YtenmjofbamihdaaDoorPlK
set_option linter.unusedSimpArgs false
set_option linter.unusedVariables false
set_option maxRecDepth 8000
namespace Go.Proofs.YtenmjofbamihdaaDoor
open Go.RowKit
namespace Pg
/-- How many bytes a page says it has; what is wrong with it; its parts. -/
def sz (q : List Nat) : Nat := val (q.take 4)
def errOf (q : List Nat) : Nat :=
  if q.length < 9 then 3 else if 1048576 < sz q then 3 else if q.length < sz q + 9 then 3 else if val ((q.drop (5 + sz q)).take 4) = sum (q.take (5 + sz q)) then 0 else 4
def errAt (l : List Nat) (i : Int) : Nat := if i < 0 ∨ (l.length : Int) < i then 1 else errOf (l.drop i.toNat)
def kindAt (l : List Nat) (i : Int) : Nat := if errAt l i = 0 then (l.drop i.toNat).getD 4 0 else 0
def bodyAt (l : List Nat) (i : Int) : List Nat := if errAt l i = 0 then ((l.drop i.toNat).drop 5).take (sz (l.drop i.toNat)) else []
def endAt (l : List Nat) (i : Int) : Int := if errAt l i = 0 then i + 9 + sz (l.drop i.toNat) else 0
theorem kind_err {l : List Nat} {i : Int} (h : errAt l i ≠ 0) : kindAt l i = 0 := if_neg h
theorem body_err {l : List Nat} {i : Int} (h : errAt l i ≠ 0) : bodyAt l i = [] := if_neg h
theorem end_err {l : List Nat} {i : Int} (h : errAt l i ≠ 0) : endAt l i = 0 := if_neg h
end Pg

/-- What a reading returns: the parts, or an error. -/
def RetQ (w : World) (l : List Nat) (i : Int) (e : Ending) (w' : World) : Prop := ∃ A cap, e = .returned (.tuple #[.int .u8 (Pg.kindAt l i : Nat), .slice A (Pg.bodyAt l i).length cap, .int .i64 (Pg.endAt l i), .int .i64 (Pg.errAt l i : Nat)]) ∧
  ByAt w' A (Pg.bodyAt l i) ∧ (Pg.bodyAt l i).length ≤ cap ∧ cap ≤ maxLen ∧ Below w.heap.size w w'
theorem RetQ.err {w w' : World} {l : List Nat} {i : Int} (c : Nat) (h : Pg.errAt l i = c) (hc : c ≠ 0) (hb : Below w.heap.size w w') : RetQ w l i (.returned (.tuple #[.int .u8 0, .slice none 0 0, .int .i64 0, .int .i64 (c : Nat)])) w' := by
  have h0 : Pg.errAt l i ≠ 0 := by rw [h]; exact hc
  refine ⟨none, 0, ?_, ?_, ?_, Nat.zero_le _, hb⟩
  · rw [Pg.kind_err h0, Pg.body_err h0, Pg.end_err h0, h]; rfl
  · rw [Pg.body_err h0]; exact ByAt.nil _ _
  · rw [Pg.body_err h0]; exact Nat.le_refl _

theorem wordOf_at (a : Option Addr) (l : List Nat) (len cap : Nat) (hlen : Hid (len = l.length)) (h4 : 4 ≤ len) (hl : len ≤ maxLen) (w : World) (HA : Hid (ByAt w a l)) :
    Calls Tryd.prog 49 #[.slice a len cap] w fun e w' => e = .returned (.int .u32 (Pg.sz l : Nat)) ∧ Below w.heap.size w w' :=
  (wordOf_any a l len cap hlen h4 hl w HA).mono fun _ _ ⟨h, n, hn⟩ => ⟨h, by rw [hn]; exact below_drewN (Below.refl _ _) n⟩
theorem wordOf_q (a : Option Addr) (l : List Nat) (N : Nat) (hN : Pg.val (l.take 4) = N) (len cap : Nat) (hlen : Hid (len = l.length)) (h4 : 4 ≤ len) (hl : len ≤ maxLen) (w : World) (HA : Hid (ByAt w a l)) :
    Calls Tryd.prog 49 #[.slice a len cap] w fun e w' => e = .returned (.int .u32 (N : Nat)) ∧ ∃ n, w' = w.drewN n := by
  rw [← hN]; exact wordOf_any a l len cap hlen h4 hl w HA
theorem sum_q (a : Option Addr) (l : List Nat) (N : Nat) (hN : Pg.sum l = N) (len cap : Nat) (hlen : Hid (len = l.length)) (hl : len ≤ maxLen) (w : World) (HA : Hid (ByAt w a l)) (HG : Hid (HalvesAt w)) :
    Calls Tryd.prog 41 #[.slice a len cap] w fun e w' => e = .returned (.int .u32 (N : Nat)) ∧ w' = w := by
  rw [← hN]; exact (sum_any a l len cap hlen hl w HA HG).mono fun _ _ ⟨h, hw⟩ => ⟨h, hw.symm⟩

set_option maxHeartbeats 1000000 in
/-- Where the place is none. -/
theorem read_arg (a : Option Addr) (l : List Nat) (len cap : Nat) (i : Int) (hlen : Hid (len = l.length)) (hl : len ≤ maxLen) (hi : i < 0 ∨ (len : Int) < i) (w : World) :
    Calls Tryd.prog 28 #[.slice a len cap, .int .i64 i] w (RetQ w l i) := by
  have he : Hid (Pg.errAt l i = 1) := Lib.hid (by unfold Pg.errAt; rw [if_pos]; rw [← hlen.out]; exact hi)
  unfold maxLen at hl
  by_cases h0 : i < 0
  all_goals
    (try (have h1 : (len : Int) < i := by omega))
    clear hi
    go_enter Tryd.func28, Tryd.ntmps28
    go_wp2
    refine bodyPost_ret (results_tmp4 rfl _ _ _) rfl ?_
    exact RetQ.err 1 he.out (by decide) (Below.refl _ _)

/-- What stands there, and from where it is taken. -/
structure Rest (w : World) (a : Option Addr) (l : List Nat) (len cap k : Nat) (A : Option Addr) (n C : Nat) (q : List Nat) : Prop where
  run : ∀ w, (Instr.slice 24 (.slice a len cap) (some (.int .i64 (k : Int))) none none).run Tryd.prog w = .ok (.slice A n C) w
  len : Hid (n = q.length)
  cap : n ≤ C
  cap' : C ≤ maxLen
  byAt : Hid (ByAt w A q)
  err : Pg.errAt l (k : Int) = Pg.errOf q
  drop : l.drop ((k : Int)).toNat = q
theorem rest_of (a : Option Addr) (l : List Nat) (len cap k : Nat) (hlen : Hid (len = l.length)) (hk : k ≤ len) (hc : len ≤ cap) (hl : cap ≤ maxLen) (w : World) (HA : Hid (ByAt w a l)) :
    ∃ A n C q, Rest w a l len cap k A n C q := by
  obtain ⟨A, C, hr, h1, h2, h3⟩ := cut_from a len cap k hk hc
  refine ⟨A, len - k, C, l.drop k, hr, Lib.hid (by rw [List.length_drop, hlen.out]), h1, by omega, Lib.hid (h3 w l hlen.out HA.out), ?_, rfl⟩
  unfold Pg.errAt
  rw [if_neg (by have := hlen.out; omega)]; rfl

set_option maxHeartbeats 1000000 in
theorem read_short (a : Option Addr) (l : List Nat) (len cap k : Nat) (hk : k ≤ len) (A : Option Addr) (n C : Nat) (q : List Nat) (w : World) (R : Hid (Rest w a l len cap k A n C q)) (hn : n < 9) (hl : len ≤ maxLen) :
    Calls Tryd.prog 28 #[.slice a len cap, .int .i64 (k : Int)] w (RetQ w l k) := by
  have he : Hid (Pg.errAt l k = 3) := Lib.hid (by rw [R.out.err]; unfold Pg.errOf; rw [if_pos (by rw [← R.out.len.out]; exact hn)])
  have hr := R.out.run
  have h1 : ¬ (len : Int) < (k : Int) := by omega
  unfold maxLen at hl
  go_enter Tryd.func28, Tryd.ntmps28
  go_wp2
  refine bodyPost_ret (results_tmp4 rfl _ _ _) rfl ?_
  exact RetQ.err 3 he.out (by decide) (Below.refl _ _)

set_option maxHeartbeats 1000000 in
/-- Where it says more than there is, or than may be. -/
theorem read_long (a : Option Addr) (l : List Nat) (len cap k : Nat) (hk : k ≤ len) (A : Option Addr) (n C : Nat) (q : List Nat) (w : World) (R : Hid (Rest w a l len cap k A n C q)) (hn : ¬ n < 9) (hl : len ≤ maxLen)
    (hs : 1048576 < Pg.sz q ∨ n < Pg.sz q + 9) (hz : Pg.sz q < 4294967296) :
    Calls Tryd.prog 28 #[.slice a len cap, .int .i64 (k : Int)] w (RetQ w l k) := by
  have hc' := R.out.cap'
  have hcn := R.out.cap
  have he : Hid (Pg.errAt l k = 3) := Lib.hid (by
    have hq := R.out.len.out
    rw [R.out.err]; unfold Pg.errOf
    rw [if_neg (by omega)]
    by_cases h : 1048576 < Pg.sz q
    · rw [if_pos h]
    · rw [if_neg h, if_pos (by omega)])
  have hr := R.out.run
  have HL := R.out.len
  have HQ := R.out.byAt
  have h1 : ¬ (len : Int) < (k : Int) := by omega
  unfold maxLen at hl hc'
  obtain ⟨N, hN⟩ : ∃ N, N = Pg.sz q := ⟨_, rfl⟩
  rw [← hN] at hs hz
  have HN := Lib.hid hN
  clear hN
  by_cases h2 : 1048576 < N
  all_goals
    (try (have h3 : n < N + 9 := by omega))
    clear hs
    go_enter Tryd.func28, Tryd.ntmps28
    go_wp2_with (go_at_call 49; (refine (wordOf_at A q n C HL (by omega) (by unfold maxLen; omega) w HQ).mono ?_); rintro e w2 ⟨rfl, hb⟩; rw [← HN.out]; have HB := Lib.hid hb; clear hb)
    refine bodyPost_ret (results_tmp4 rfl _ _ _) rfl ?_
    exact RetQ.err 3 he.out (by decide) HB.out
end Go.Proofs.YtenmjofbamihdaaDoor
