/-
  Bytes as strings; the document's Read.
-/
import Derived.Test.YtamdonglbdmckaaDoorGq
import Derived.Laws.BytesArg
set_option linter.unusedSimpArgs false
set_option linter.unusedVariables false
namespace Go.Proofs.YtamdonglbdmckaaDoor
open Go.RowKit

/-- Bytes as a string. -/
def strB (l : List Nat) : ByteArray := strOfNums (l.map Int.ofNat)
theorem strB_inj {l m : List Nat} (hl : ∀ x ∈ l, x < 256) (hm : ∀ x ∈ m, x < 256) (h : strB l = strB m) : l = m := by
  have h1 := congrArg (fun s : ByteArray => s.data.toList) h
  simp only [strB, strOfNums_data, List.map_map] at h1
  have h2 := congrArg (List.map UInt8.toNat) h1
  have key : ∀ r : List Nat, (∀ x ∈ r, x < 256) → (r.map ((fun n : Int => UInt8.ofNat n.toNat) ∘ Int.ofNat)).map UInt8.toNat = r := by
    intro r hr
    rw [List.map_map]
    conv => rhs; rw [← List.map_id r]
    apply List.map_congr_left
    intro x hx
    have := hr x hx
    simp [Function.comp]; omega
  rwa [key l hl, key m hm] at h2
theorem conv_by {w : World} {A : Option Addr} {l : List Nat} (n C : Nat) (h : ByAt w A l) (hn : n = l.length) : (convert 22 9 (.slice A n C)).run Tryd.prog w = .ok (.string (strB l)) w := by
  rcases l with _ | ⟨x, r⟩
  · subst hn
    rcases A with _ | ad
    · exact run_convert_bytes_nil w 22 5 Tryd.underlying22 Tryd.underlying5 _ _ 9 Tryd.underlying9
    · rw [run_convert_bytes_string w 22 9 5 _ _ C Tryd.underlying22 Tryd.underlying5 Tryd.underlying9]
      rw [run_bytesToString w ad _ C [] (by simpa using run_loadCells_list (P := Tryd.prog) w ad [] (fun j v hj => by simp at hj))]
      rfl
  · obtain ⟨g, off, rfl, -, hc⟩ := h.spot (by simp)
    refine run_convert_bytes_arg w 22 5 Tryd.underlying22 Tryd.underlying5 g off n C ((x :: r).map Int.ofNat) (by rw [List.length_map, hn]) (fun i hi => ?_) 9 Tryd.underlying9
    have hil : i < (x :: r).length := by omega
    rw [hc i ((x :: r)[i]) (List.getElem?_eq_getElem hil)]
    simp only [List.getD_eq_getElem?_getD, List.getElem?_map, List.getElem?_eq_getElem hil]; rfl

/-- The document's size, from the highest byte on. -/
theorem size_loop (b0 b1 b2 b3 : Nat) (r : List Nat) : Pg.sz (b0 :: b1 :: b2 :: b3 :: r) = b0 + 256 * (b1 + 256 * (b2 + 256 * (b3 + 256 * 0))) := rfl

set_option maxHeartbeats 1000000 in
theorem refRead_arg (a : Option Addr) (l : List Nat) (len cap : Nat) (i : Int) (hlen : Hid (len = l.length)) (hl : len ≤ maxLen) (hi : i < 0 ∨ (len : Int) < i) (w : World) :
    Calls Tryd.prog 16 #[.slice a len cap, .int .i64 i] w (RetQ w l i) := by
  have he : Hid (Pg.errAt l i = 1) := Lib.hid (by unfold Pg.errAt; rw [if_pos]; rw [← hlen.out]; exact hi)
  unfold maxLen at hl
  by_cases h0 : i < 0
  all_goals
    (try (have h1 : (len : Int) < i := by omega))
    clear hi
    go_enter Tryd.func16, Tryd.ntmps16
    go_wp2
    refine bodyPost_ret (results_tmp4 rfl _ _ _) rfl ?_
    exact RetQ.err 1 he.out (by decide) (Below.refl _ _)

set_option maxHeartbeats 1000000 in
theorem refRead_short (a : Option Addr) (l : List Nat) (len cap k : Nat) (hk : k ≤ len) (A : Option Addr) (n C : Nat) (q : List Nat) (w : World) (R : Hid (Rest w a l len cap k A n C q)) (hn : n < 9) (hl : len ≤ maxLen) :
    Calls Tryd.prog 16 #[.slice a len cap, .int .i64 (k : Int)] w (RetQ w l k) := by
  have he : Hid (Pg.errAt l k = 3) := Lib.hid (by rw [R.out.err]; unfold Pg.errOf; rw [if_pos (by rw [← R.out.len.out]; exact hn)])
  have hr := R.out.run
  have h1 : ¬ (len : Int) < (k : Int) := by omega
  unfold maxLen at hl
  go_enter Tryd.func16, Tryd.ntmps16
  go_wp2
  refine bodyPost_ret (results_tmp4 rfl _ _ _) rfl ?_
  exact RetQ.err 3 he.out (by decide) (Below.refl _ _)

/-- The first four bytes, in the walk's words. -/
theorem first_four {w : World} {A : Option Addr} {q : List Nat} (h : ByAt w A q) (hn : 9 ≤ q.length) : ∃ g off b0 b1 b2 b3 r, A = some ⟨g, off, none⟩ ∧ q = b0 :: b1 :: b2 :: b3 :: r ∧ b0 < 256 ∧ b1 < 256 ∧ b2 < 256 ∧ b3 < 256 ∧ g < w.heap.size ∧
    w.cell? ⟨g, off, none⟩ = some (.int .u8 (b0 : Int)) ∧ w.cell? ⟨g, off + 1, none⟩ = some (.int .u8 (b1 : Int)) ∧ w.cell? ⟨g, off + 2, none⟩ = some (.int .u8 (b2 : Int)) ∧ w.cell? ⟨g, off + 3, none⟩ = some (.int .u8 (b3 : Int)) := by
  obtain ⟨b0, b1, b2, b3, r, rfl⟩ : ∃ b0 b1 b2 b3 r, q = b0 :: b1 :: b2 :: b3 :: r := by
    match q, hn with
    | b0 :: b1 :: b2 :: b3 :: r, _ => exact ⟨b0, b1, b2, b3, r, rfl⟩
    | [_, _, _], h => simp at h
    | [_, _], h => simp at h
    | [_], h => simp at h
    | [], h => simp at h
  obtain ⟨g, off, rfl, hg, hc⟩ := h.spot (by simp)
  exact ⟨g, off, b0, b1, b2, b3, r, rfl, rfl, h.lt b0 (by simp), h.lt b1 (by simp), h.lt b2 (by simp), h.lt b3 (by simp), hg, hc 0 b0 rfl, hc 1 b1 rfl, hc 2 b2 rfl, hc 3 b3 rfl⟩

def part (b0 b1 b2 b3 : Nat) : Nat → Nat
  | 0 => 0
  | 1 => b3
  | 2 => b3 * 256 + b2
  | 3 => (b3 * 256 + b2) * 256 + b1
  | _ => ((b3 * 256 + b2) * 256 + b1) * 256 + b0
set_option maxHeartbeats 2000000 in
/-- Where it says more than there is, or than may be. -/
theorem refRead_long (a : Option Addr) (l : List Nat) (len cap k : Nat) (hk : k ≤ len) (A : Option Addr) (n C : Nat) (q : List Nat) (w : World) (R : Hid (Rest w a l len cap k A n C q)) (hn : ¬ n < 9) (hl : len ≤ maxLen)
    (hs : 1048576 < Pg.sz q ∨ n < Pg.sz q + 9) (hz : Pg.sz q < 4294967296) :
    Calls Tryd.prog 16 #[.slice a len cap, .int .i64 (k : Int)] w (RetQ w l k) := by
  have hc' := R.out.cap'
  have hcn := R.out.cap
  have he : Hid (Pg.errAt l k = 3) := Lib.hid (by
    have hq := R.out.len.out
    rw [R.out.err]; unfold Pg.errOf
    rw [if_neg (by omega)]
    by_cases h : 1048576 < Pg.sz q
    · rw [if_pos h]
    · rw [if_neg h, if_pos (by omega)])
  have hr := R.out.run
  obtain ⟨g, off, b0, b1, b2, b3, r, rfl, rfl, l0, l1, l2, l3, hg, c0, c1, c2, c3⟩ := first_four R.out.byAt.out (by rw [← R.out.len.out]; omega)
  obtain ⟨N, hN⟩ : ∃ N, N = b0 + 256 * (b1 + 256 * (b2 + 256 * (b3 + 256 * 0))) := ⟨_, rfl⟩
  rw [size_loop, ← hN] at hs hz
  have HN := Lib.hid hN
  clear hN
  have h1 : ¬ (len : Int) < (k : Int) := by omega
  unfold maxLen at hl hc'
  by_cases h2 : 1048576 < N
  all_goals
    (try (have h3 : n < N + 9 := by omega))
    clear hs
    go_enter Tryd.func16, Tryd.ntmps16
    go_wp2
    go_loop [9, 10] (fun s i => ∃ j : Nat, j ≤ 4 ∧ i = .int .i64 (3 - (j : Int)) ∧ s = .int .i64 (part b0 b1 b2 b3 j : Nat)) (fun _ i => (1 + intOf i).toNat)
    case atStart => exact ⟨0, Nat.zero_le _, rfl, rfl⟩
    case round =>
      obtain ⟨j, hj, rfl, rfl⟩ := hrel
      have hjc : j = 0 ∨ j = 1 ∨ j = 2 ∨ j = 3 ∨ j = 4 := by omega
      rcases hjc with rfl | rfl | rfl | rfl | rfl
      · simp only [part]
        go_wp2
        go_round
        case rel => exact ⟨1, by omega, rfl, by simp only [part]; try go_num⟩
        case measure => simp [intOf]
      · simp only [part]
        go_wp2
        go_round
        case rel => exact ⟨2, by omega, rfl, by simp only [part]; try go_num⟩
        case measure => simp [intOf]
      · simp only [part]
        go_wp2
        go_round
        case rel => exact ⟨3, by omega, rfl, by simp only [part]; try go_num⟩
        case measure => simp [intOf]
      · simp only [part]
        go_wp2
        go_round
        case rel => exact ⟨4, by omega, rfl, by simp only [part]; try go_num⟩
        case measure => simp [intOf]
      · have hP : part b0 b1 b2 b3 4 = N := by have := HN.out; show ((b3 * 256 + b2) * 256 + b1) * 256 + b0 = N; omega
        rw [hP]
        clear hP
        go_wp2
        refine bodyPost_ret (results_tmp4 rfl _ _ _) rfl ?_
        exact RetQ.err 3 he.out (by decide) (Below.refl _ _)
end Go.Proofs.YtamdonglbdmckaaDoor
