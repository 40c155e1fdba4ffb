/-
  From a walk to the given card, for a law that answers true, makes memory of its own and reads the table of halves: its arguments read as before.
-/
import Derived.Test.YtbimfopbilcdgaaDoorTie
import Derived.Test.YtbimfopbilcdgaaDoorCards
import Derived.ProofKit
import Derived.Laws.Cover2
import Derived.WideKeyArgs
import Derived.Carry
import Derived.Deep.Slices
import Derived.LaidMore
import Derived.OpenShut
import Derived.Stop.Joined
import Derived.SevenTiedAt
import Derived.SizedLaws
import Derived.Test.YtbimfopbilcdgaaDoorByK
import Derived.Test.YtbimfopbilcdgaaDoorPmK
set_option linter.unusedSimpArgs false
set_option linter.unusedVariables false
set_option maxRecDepth 8000
namespace Go.Proofs.YtbimfopbilcdgaaDoor
open Go.ChangeShapes Go.WideShapes Go.ChangeAt Go.WideElems Go.RowKit

theorem Tryd.own : ownKnob Tryd.prog.godebug = none := by kernel_rfl
theorem Tryd.laidOut : laidOutB Tryd.prog = true := by kernel_rfl

section
variable {H : Type} {enc : TypeId × Value → H} {P : Program}

theorem trodAll_keep {W W' : World} {sp : Nat → Bool} (hl : laidOutB P = true) (hs : ∀ x : MemPlace, x.block < W.heap.size → W.sameAt W' x) : ∀ (ts : List TypeId) (vs : List Value) (ds : List (DataW H)) (ps : List MemPlace),
    (∀ t, t ∈ ts → P.readableRec t = true ∧ t < P.types.size) → DataW.TrodAll enc P W 0 (fun _ => true) true ts vs ds ps → (∀ x, x ∈ ps → x.block < W.heap.size) → (∀ x, x ∈ ps → sp x.block = true) →
    DataW.TrodAll enc P W' 0 sp true ts vs ds ps
  | [], [], [], _, _, h, _, _ => h
  | t :: ts, v :: vs, d :: ds, ps, hr, ⟨p, q, hd, hrest, he⟩, hlt, hsp => by
    subst he
    refine ⟨p, q, ?_, trodAll_keep hl hs ts vs ds q (fun t ht => hr t (by simp [ht])) hrest (fun x hx => hlt x (by simp [hx])) (fun x hx => hsp x (by simp [hx])), rfl⟩
    exact WideElems.Trod_stays hl (hr t (by simp)).1 (hr t (by simp)).2 hd (fun x hx => hs x (hlt x (by simp [hx]))) (fun x hx => hsp x (by simp [hx]))
  | [], [], _ :: _, _, _, h, _, _ => h.elim
  | [], _ :: _, _, _, _, h, _, _ => h.elim
  | _ :: _, [], _, _, _, h, _, _ => h.elim
  | _ :: _, _ :: _, [], _, _, h, _, _ => h.elim

theorem post_law {f : Func} {s : ChangeSpec} {W W' : World} {args : Array Value} {ds : List (DataW H)} {before : List MemPlace} {tb : TypeId} (hl : laidOutB P = true)
    (hv : s.vars = []) (hW : DataW.Whole enc P f.params.toList s.vars false W args.toList ds [] before)
    (hrec : ∀ t, t ∈ f.params.toList → P.readableRec t = true ∧ t < P.types.size)
    (hres : (s.fn H ds).results = [.lit (.bool true)]) (hargs : (s.fn H ds).args = ds) (hvs : (s.fn H ds).vars = [])
    (hrt : f.resultTypes = #[tb]) (htb : P.underlying tb = some .bool) (hb : Below W.heap.size W W') : s.post enc P f false true false false W args (.bool true) W' := by
  have hlt : ∀ x, x ∈ before → x.block < W.heap.size := fun x hx => hW.lt x hx
  have hW2 := hW
  obtain ⟨p, q, hA, hV, rfl, -, -⟩ := hW2
  have hq : q = [] := by rw [hv] at hV; exact hV
  subst hq
  refine ⟨ds, [], p ++ [], [], p, [], hW, ?_, ?_, ?_, hb.frame _, fun h => by cases h⟩
  · rw [List.append_nil, hres, hrt]
    exact trodAll_mk1 (shut_bool htb true)
  · rw [List.append_nil, hargs]
    exact trodAll_keep hl (fun x hx => hb.same hx) _ _ _ _ hrec hA (fun x hx => hlt x (by simp [hx])) (fun x hx => by simpa using hlt x (by simp [hx]))
  · rw [List.append_nil, hv, hvs]; rfl

/-- A slice of bytes that came in. -/
theorem open_bys {W : World} {t e : TypeId} {v : Value} {d : DataW H} {ps : List MemPlace} (ht : P.underlying t = some (.slice e)) (he : P.underlying e = some (.int .u8)) (hc : P.cellsOf e = 1)
    {b0 : Nat} {r : Reach} (hok : Value.okWide P W r b0 t v) (hd : DataW.Trod enc P W 0 (fun _ => true) true t v d ps) (hlt : ∀ x, x ∈ ps → x.block < W.heap.size) :
    ∃ (a : Option Addr) (l : List Nat) (cap : Nat), v = .slice a l.length cap ∧ l.length ≤ cap ∧ cap ≤ maxLen ∧ ByAt W a l := by
  obtain ⟨fuel, hf⟩ := hd
  obtain ⟨a, len, cap, rfl⟩ : ∃ a len cap, v = .slice a len cap := by
    simp only [Value.okWide, ht, Cell.okWide] at hok
    cases v <;> simp_all [Cell.ok]
  rcases Deep.open_slice1 ht hc hf with ⟨hcs, -⟩ | ⟨a', len', cap', m, n, V, D, Pl, hcs, -, hl, hm, hmm, hx, hcell⟩
  · simp [Value.cells] at hcs
    obtain ⟨rfl, rfl, rfl⟩ := hcs
    exact ⟨none, [], 0, rfl, Nat.le_refl _, by unfold maxLen; omega, fun k x hx => by simp at hx⟩
  · simp [Value.cells] at hcs
    obtain ⟨rfl, rfl, rfl⟩ := hcs
    simp only [if_true] at hmm
    subst hmm
    have hV : ∀ i, i < m → ∃ b : Nat, V i = .int .u8 (b : Int) ∧ b < 256 := fun i hi => by
      obtain ⟨b, h1, _, h2⟩ := DataW.trod_int he (hcell i hi).2
      have h3 : 0 ≤ b ∧ b ≤ 255 := by simpa [Lit.wf, IntKind.min, IntKind.max, IntKind.signed, IntKind.bits] using h2
      exact ⟨b.toNat, by rw [show ((b.toNat : Nat) : Int) = b by omega]; simpa using h1, by omega⟩
    let B : Nat → Nat := fun i => match V i with | .int _ b => b.toNat | _ => 0
    have hB : ∀ i, i < m → V i = .int .u8 (B i : Int) ∧ B i < 256 := fun i hi => by
      obtain ⟨b, h1, h2⟩ := hV i hi
      have : B i = b := by show (match V i with | .int _ b => b.toNat | _ => 0) = b; rw [h1]; simp
      rw [this]; exact ⟨h1, h2⟩
    refine ⟨some a', (List.range len).map B, m, by simp, by simpa using hl, hm, fun k x hx2 => ?_⟩
    have hk : k < len := by
      rcases Nat.lt_or_ge k len with h | h
      · exact h
      · rw [List.getElem?_eq_none (by simpa using h)] at hx2; cases hx2
    have hx3 : x = B k := by simp [hk] at hx2; exact hx2.symm
    subst hx3
    obtain ⟨b, off, spot⟩ := a'
    have hspot : spot = none := by simpa [Addr.add] using World.cell?_spot (hcell 0 (by omega)).1
    subst hspot
    refine ⟨(hB k (by omega)).2, b, off, rfl, ?_, ?_⟩
    · have hcl := (hcell 0 (by omega)).1
      have := block_lt_of_cell hcl
      simpa [Addr.add] using this
    · have h := (hcell k (by omega)).1
      rw [(hB k (by omega)).1] at h
      rw [Addr.add_lit] at h
      exact h
/-- A slice of bytes that came in, and its reading. -/
theorem open_bysd {W : World} {t e : TypeId} {v : Value} {d : DataW H} {ps : List MemPlace} (ht : P.underlying t = some (.slice e)) (he : P.underlying e = some (.int .u8)) (hc : P.cellsOf e = 1)
    {b0 : Nat} {r : Reach} (hok : Value.okWide P W r b0 t v) (hd : DataW.Trod enc P W 0 (fun _ => true) true t v d ps) (hlt : ∀ x, x ∈ ps → x.block < W.heap.size) :
    ∃ (a : Option Addr) (l : List Nat) (cap : Nat), v = .slice a l.length cap ∧ l.length ≤ cap ∧ cap ≤ maxLen ∧ ByAt W a l ∧ (d = .nil ∧ l = [] ∨ ∃ elems spare, d = .slice elems spare ∧ elems.length = l.length) := by
  obtain ⟨fuel, hf⟩ := hd
  obtain ⟨a, len, cap, rfl⟩ : ∃ a len cap, v = .slice a len cap := by
    simp only [Value.okWide, ht, Cell.okWide] at hok
    cases v <;> simp_all [Cell.ok]
  rcases Deep.open_slice1 ht hc hf with ⟨hcs, hx0⟩ | ⟨a', len', cap', m, n, V, D, Pl, hcs, -, hl, hm, hmm, hx, hcell⟩
  · simp [Value.cells] at hcs
    obtain ⟨rfl, rfl, rfl⟩ := hcs
    exact ⟨none, [], 0, rfl, Nat.le_refl _, by unfold maxLen; omega, fun k x hx => by simp at hx, .inl ⟨by simpa using congrArg Prod.fst hx0, rfl⟩⟩
  · simp [Value.cells] at hcs
    obtain ⟨rfl, rfl, rfl⟩ := hcs
    simp only [if_true] at hmm
    subst hmm
    have hV : ∀ i, i < m → ∃ b : Nat, V i = .int .u8 (b : Int) ∧ b < 256 := fun i hi => by
      obtain ⟨b, h1, _, h2⟩ := DataW.trod_int he (hcell i hi).2
      have h3 : 0 ≤ b ∧ b ≤ 255 := by simpa [Lit.wf, IntKind.min, IntKind.max, IntKind.signed, IntKind.bits] using h2
      exact ⟨b.toNat, by rw [show ((b.toNat : Nat) : Int) = b by omega]; simpa using h1, by omega⟩
    let B : Nat → Nat := fun i => match V i with | .int _ b => b.toNat | _ => 0
    have hB : ∀ i, i < m → V i = .int .u8 (B i : Int) ∧ B i < 256 := fun i hi => by
      obtain ⟨b, h1, h2⟩ := hV i hi
      have : B i = b := by show (match V i with | .int _ b => b.toNat | _ => 0) = b; rw [h1]; simp
      rw [this]; exact ⟨h1, h2⟩
    refine ⟨some a', (List.range len).map B, m, by simp, by simpa using hl, hm, fun k x hx2 => ?_, .inr ⟨_, _, by simpa using congrArg Prod.fst hx, by simp⟩⟩
    have hk : k < len := by
      rcases Nat.lt_or_ge k len with h | h
      · exact h
      · rw [List.getElem?_eq_none (by simpa using h)] at hx2; cases hx2
    have hx3 : x = B k := by simp [hk] at hx2; exact hx2.symm
    subst hx3
    obtain ⟨b, off, spot⟩ := a'
    have hspot : spot = none := by simpa [Addr.add] using World.cell?_spot (hcell 0 (by omega)).1
    subst hspot
    refine ⟨(hB k (by omega)).2, b, off, rfl, ?_, ?_⟩
    · have hcl := (hcell 0 (by omega)).1
      have := block_lt_of_cell hcl
      simpa [Addr.add] using this
    · have h := (hcell k (by omega)).1
      rw [(hB k (by omega)).1] at h
      rw [Addr.add_lit] at h
      exact h
theorem bys_reach {ts : List TypeId} {ds : List (DataW H)} (h : (DataW.weightsEach P ts ds).all (· ≤ reachBytes) = true) {j : Nat} {t e : TypeId} {d : DataW H} {l : List Nat} (ht : ts[j]? = some t) (hd : ds[j]? = some d) (hu : P.underlying t = some (.slice e)) (hb : P.bytesOf e = 1)
    (hdl : d = .nil ∧ l = [] ∨ ∃ elems spare, d = .slice elems spare ∧ elems.length = l.length) : l.length ≤ 140737488351232 := by
  rcases hdl with ⟨-, rfl⟩ | ⟨elems, spare, rfl, hl⟩
  · simp
  · have := sized_slice h ht hd hu
    rw [hb] at this
    simp only [reachBytes] at this
    omega
end

theorem gHalves : Tryd.prog.globalNamed "headrace/page.halves" = some 0 := by kernel_rfl
theorem tHalves : (Tryd.prog.globals[0]?).map (·.type) = some 103 := by kernel_rfl
def laidHalves {H : Type} : List (String × DataW H) := [("headrace/page.halves", Rows.laid_headrace_page_halves)]
theorem door_met (os : Os) (args : Array Value) : laidMetH Tryd.prog laidHalves ((World.doorLaid Tryd.prog 400 os).forCall (fun _ _ => 0) ⟨#[], args, []⟩).memory :=
  laidMetH_of_parts3 (fuel := 8) (laidMet_of_run' 8 (by kernel_rfl) (by kernel_rfl)) (by kernel_rfl) (by kernel_rfl)
theorem laid_parts (i : Nat) (hi : i < 16) : ∃ parts : List (DataW Unit), (Rows.laid_headrace_page_halves : DataW Unit) = .agg parts ∧ parts[i]? = some (.lit (.int .u32 (Pg.half i : Nat))) := by
  refine ⟨_, rfl, ?_⟩
  exact match i, hi with
  | 0, _ => rfl
  | 1, _ => rfl
  | 2, _ => rfl
  | 3, _ => rfl
  | 4, _ => rfl
  | 5, _ => rfl
  | 6, _ => rfl
  | 7, _ => rfl
  | 8, _ => rfl
  | 9, _ => rfl
  | 10, _ => rfl
  | 11, _ => rfl
  | 12, _ => rfl
  | 13, _ => rfl
  | 14, _ => rfl
  | 15, _ => rfl
  | n + 16, h => absurd h (by omega)
/-- What the condition gives the walks: the table's cells. -/
theorem of_laid {W : World} (h : laidMetH Tryd.prog laidHalves W) : HalvesAt W := by
  rw [MakeChecks.laidMetH_plain _ _ _ (by kernel_rfl)] at h
  obtain ⟨ps, ⟨g0, t0, cs0, f0, p0, q0, hg0, ht0, hv0, hd0, _, _⟩, _, _⟩ := h
  obtain rfl := Option.some.inj (gHalves.symm.trans hg0)
  obtain rfl := Option.some.inj (tHalves.symm.trans ht0)
  obtain ⟨xs, m1, rfl, hx1, hlen, hn3, hel⟩ := DataW.trod_array Tryd.underlying103 hd0
  have c3 : Tryd.prog.cellsOf 81 = 1 := by kernel_rfl
  intro i hi
  obtain ⟨parts, hp, hpi⟩ := laid_parts i hi
  rw [hp] at hx1
  simp only [Prod.mk.injEq, DataW.agg.injEq] at hx1
  have hxi : xs[i]? = some (xs[i]'(by omega)) := List.getElem?_eq_getElem (by omega)
  have hi1 := hel i hi
  rw [c3, Nat.mul_one, hxi] at hi1
  obtain ⟨k, e1, e2, _⟩ := DataW.trod_int Tryd.underlying81 hi1
  have hk : k = (Pg.half i : Nat) := by
    rw [hx1.1, List.getElem?_map, hxi] at hpi
    simp only [Option.map_some, Option.some.injEq] at hpi
    rw [e2] at hpi
    simpa using hpi
  subst hk
  have hc := World.var?_cell hg0 hv0 i
  rw [hc, ← Array.getElem?_toList]
  have h2 : (cs0.toList.drop i)[0]? = some (.int .u32 (Pg.half i : Nat)) := by
    have h3 : ((cs0.toList.drop i).take 1)[0]? = some (.int .u32 (Pg.half i : Nat)) := by rw [e1]; rfl
    rw [List.getElem?_take] at h3
    simpa using h3
  rw [List.getElem?_drop] at h2
  simpa using h2
end Go.Proofs.YtbimfopbilcdgaaDoor
