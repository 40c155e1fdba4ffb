/-
  Layer merge: New.
-/
import Derived.Test.YtoeknpaogeelmaaMe
set_option linter.unusedSimpArgs false
set_option linter.unusedVariables false
set_option maxRecDepth 8000
namespace Go.Proofs.Ytoeknpaogeelmaa
open Go.RowKit Go.Sort

/-- A run as a slice. -/
structure Sl where
  A : Option Addr
  c : Nat
  l : List Ev
def Sl.v (s : Sl) : Value := .slice s.A s.l.length s.c
def slV (Ss : List Sl) : List Value := Ss.map Sl.v
def slL (Ss : List Sl) : List (List Ev) := Ss.map Sl.l
theorem slV_one (Ss : List Sl) : ∀ u ∈ slV Ss, u.oneCell' = true := fun u hu => by
  obtain ⟨s, -, rfl⟩ := List.mem_map.1 hu; rfl
/-- What there is of a run. -/
structure SlOk (w : World) (s : Sl) : Prop where
  cap : s.l.length ≤ s.c
  cap' : s.c ≤ maxLen
  nil : s.A = none → s.c = 0
  at' : EvAt w s.A s.l
  small : s.l.length ≤ 1000
theorem SlOk.keep {w w' : World} {s : Sl} (h : SlOk w s) (hb : Below w.heap.size w w') : SlOk w' s := ⟨h.cap, h.cap', h.nil, h.at'.keep hb, h.small⟩
theorem SlOk.low {w : World} {s : Sl} (h : SlOk w s) : ∀ a, s.A = some a → 0 < s.l.length → a.block < w.heap.size := fun a ha h0 => by
  obtain ⟨x, hx⟩ : ∃ x, s.l[0]? = some x := ⟨_, List.getElem?_eq_getElem h0⟩
  obtain ⟨g, off, e, hg, -⟩ := evr h.at' 0 x hx
  rw [ha] at e; injection e with e; rw [e]; exact hg
/-- A slice of runs, in a world. -/
structure RunsAt (w : World) (a : Option Addr) (Ss : List Sl) : Prop where
  cell : ∀ (j : Nat) (s : Sl), Ss[j]? = some s → ∃ g off, a = some ⟨g, off, none⟩ ∧ g < w.heap.size ∧ w.cell? ⟨g, off + j, none⟩ = some s.v
  ok : ∀ s ∈ Ss, SlOk w s
theorem RunsAt.keep {w w' : World} {a : Option Addr} {Ss : List Sl} (h : RunsAt w a Ss) (hb : Below w.heap.size w w') : RunsAt w' a Ss := by
  refine ⟨fun j s hs => ?_, fun s hs => (h.ok s hs).keep hb⟩
  obtain ⟨g, off, h2, h3, h4⟩ := h.cell j s hs
  exact ⟨g, off, h2, Nat.lt_of_lt_of_le h3 hb.size, (hb.cell (p := ⟨g, off + j, none⟩) h3).trans h4⟩
theorem infoSl : (Try.prog.info? 25).map (fun i => (i.zero, i.size, i.bytes)) = some (some (.slice none 0 0), 1, 24) := by kernel_rfl
theorem infoInt : (Try.prog.info? 3).map (fun i => (i.zero, i.size, i.bytes)) = some (some (.int .i64 0), 1, 8) := by kernel_rfl
/-- The runs' row, made anew. -/
def RunsRow (w : World) (rb n : Nat) (vs : List Value) : Prop := ∃ cur : Array Value, w.heap[rb]? = some (.cells cur 25 (0, 0)) ∧ n ≤ cur.size ∧ ∀ (j : Nat) (u : Value), vs[j]? = some u → cur[j]? = some u
theorem RunsRow.lt {w : World} {rb n : Nat} {vs : List Value} (h : RunsRow w rb n vs) : rb < w.heap.size := by obtain ⟨cur, h1, -⟩ := h; exact (Array.getElem?_eq_some_iff.1 h1).1
theorem RunsRow.keep {w w' : World} {rb n : Nat} {vs : List Value} (h : RunsRow w rb n vs) (hb : Below w.heap.size w w') : RunsRow w' rb n vs := by
  have hl := h.lt
  obtain ⟨cur, h1, h2⟩ := h; exact ⟨cur, (hb.block _ hl).trans h1, h2⟩
def LosRow (w : World) (lb n : Nat) : Prop := ∃ cur : Array Value, w.heap[lb]? = some (.cells cur 3 (0, 0)) ∧ n ≤ cur.size ∧ ∀ j, j < n → cur[j]? = some (.int .i64 0)
theorem LosRow.lt {w : World} {lb n : Nat} (h : LosRow w lb n) : lb < w.heap.size := by obtain ⟨cur, h1, -⟩ := h; exact (Array.getElem?_eq_some_iff.1 h1).1
theorem LosRow.keep {w w' : World} {lb n : Nat} (h : LosRow w lb n) (hb : Below w.heap.size w w') : LosRow w' lb n := by
  have hl := h.lt
  obtain ⟨cur, h1, h2⟩ := h; exact ⟨cur, (hb.block _ hl).trans h1, h2⟩
theorem rowz_zeros {w : World} {B g n : Nat} (h : w.ownsRow B 3 1 (.slice (some ⟨g, 0, none⟩) n n) n (madeCells (Value.int .i64 0).cells (n * 1)).toList) : LosRow w g n := by
  rw [Nat.mul_one, show (Value.int .i64 0).cells = #[.int .i64 0] from rfl, toList_madeCells_one] at h
  rcases h.2 with ⟨h1, h2⟩ | ⟨g', cap', cur, h1, hb, hrow, -, -, hs, ht⟩
  · cases h1
  · cases h1
    refine ⟨cur, hrow, by omega, fun j hj => ?_⟩
    have e : (cur.toList.take (n * 1))[j]? = (List.replicate n (Value.int .i64 0))[j]? := by rw [ht]
    rw [List.getElem?_take, if_pos (by omega)] at e
    rw [← Array.getElem?_toList, e, List.getElem?_replicate, if_pos hj]
def cloR_ren : Go.Shelf.Ren := ⟨fun | 41 => 17 | n => n, fun | 22 => 22 | 23 => 25 | 4 => 4 | n => n, fun n => n⟩
theorem cloR : Go.Proofs.SlLaysE0.n41 Try.prog cloR_ren := {
  mixed := by kernel_rfl
  f41 := ⟨Try.f17.name, by decide, Try.func17.trans (congrArg some (by kernel_rfl))⟩
  t4 := Try.underlying4
  a4 := Try.isAgg4
  z4 := Try.sizeOf4
  v4 := Try.zeroValue4
  t22 := Try.underlying22
  a22 := Try.isAgg22
  z22 := Try.sizeOf22
  v22 := Try.zeroValue22 }
theorem clone_runs (g off n c : Nat) (vs : List Value) (hn : Hid (n = vs.length ∧ ∀ u ∈ vs, u.oneCell' = true)) (hb : n ≤ 1000) (w : World) (H : Hid (∀ (j : Nat) (u : Value), vs[j]? = some u → w.cell? ⟨g, off + j, none⟩ = some u)) (h0 : 0 < n) :
    Calls Try.prog 17 #[.slice (some ⟨g, off, none⟩) n c] w fun e w' => ∃ rb cr, e = .returned (.slice (some ⟨rb, 0, none⟩) n cr) ∧ w.heap.size ≤ rb ∧ n ≤ cr ∧ cr ≤ maxLen ∧ RunsRow w' rb n vs ∧ Below w.heap.size w w' := by
  obtain ⟨i0, hi, hz0, hz1, hz2⟩ := info_parts infoSl
  have h := AnyE.slices_Clone cloR i0 _ 1 24 hi hz0 hz1 hz2 rfl (by decide) Try.sizeOf25 g off n c vs w (by rw [← hn.out.1]; omega) (by unfold maxLen; omega) (by omega) (fun j u hu => H.out j u hu) hn.out.2
  change Calls Try.prog 17 _ _ _ at h
  refine h.mono fun e w' ⟨v', he, hown, hv, hbl⟩ => ?_
  rcases hown.2 with ⟨e0, _⟩ | ⟨rb, cap, cur, e0, hb0, hg, hn1, hm, hs, ht⟩
  · exact absurd e0 hv
  · subst e0
    refine ⟨rb, cap, he, hb0, hn1, hm, ⟨cur, hg, by omega, fun j u hu => ?_⟩, hbl⟩
    have e : (cur.toList.take (n * 1))[j]? = vs[j]? := by rw [ht]
    have hj : j < n := by rw [hn.out.1]; exact (List.getElem?_eq_some_iff.1 hu).1
    rw [List.getElem?_take, if_pos (by omega)] at e
    rw [← Array.getElem?_toList, e, hu]
end Go.Proofs.Ytoeknpaogeelmaa
