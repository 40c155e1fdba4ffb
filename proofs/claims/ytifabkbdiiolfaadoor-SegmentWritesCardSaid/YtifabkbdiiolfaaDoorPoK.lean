/-
  A slice of events that came in, opened: beside a tied card's frame. Made by gen_po.py out of event/XPk and event/XPe.
-/
import Derived.Test.YtifabkbdiiolfaaDoorTie
import Derived.Test.YtifabkbdiiolfaaDoorCards
import Derived.ProofKit
import Derived.Laws.Cover2
import Derived.WideKeyArgs
import Derived.Carry
import Derived.Deep.Slices
import Derived.LaidMore
import Derived.OpenShut
import Derived.Stop.Joined
import Derived.SevenTiedAt
import Derived.SizedLaws
import Derived.Test.YtifabkbdiiolfaaDoorByK
import Derived.Test.YtifabkbdiiolfaaDoorGrK
import Derived.Test.YtifabkbdiiolfaaDoorEjK
set_option linter.unusedSimpArgs false
set_option linter.unusedVariables false
set_option maxRecDepth 8000
namespace Go.Proofs.YtifabkbdiiolfaaDoor
open Go.ChangeShapes Go.WideShapes Go.ChangeAt Go.WideElems Go.RowKit
theorem Tryd.own : ownKnob Tryd.prog.godebug = none := by kernel_rfl
theorem Tryd.laidOut : laidOutB Tryd.prog = true := by kernel_rfl
section
variable {H : Type} {enc : TypeId × Value → H} {P : Program}
theorem trodAll_keep {W W' : World} {sp : Nat → Bool} (hl : laidOutB P = true) (hs : ∀ x : MemPlace, x.block < W.heap.size → W.sameAt W' x) : ∀ (ts : List TypeId) (vs : List Value) (ds : List (DataW H)) (ps : List MemPlace),
  (∀ t, t ∈ ts → P.readableRec t = true ∧ t < P.types.size) → DataW.TrodAll enc P W 0 (fun _ => true) true ts vs ds ps → (∀ x, x ∈ ps → x.block < W.heap.size) → (∀ x, x ∈ ps → sp x.block = true) →
  DataW.TrodAll enc P W' 0 sp true ts vs ds ps
 | [], [], [], _, _, h, _, _ => h
 | t :: ts, v :: vs, d :: ds, ps, hr, ⟨p, q, hd, hrest, he⟩, hlt, hsp => by
  subst he
  refine ⟨p, q, ?_, trodAll_keep hl hs ts vs ds q (fun t ht => hr t (by simp [ht])) hrest (fun x hx => hlt x (by simp [hx])) (fun x hx => hsp x (by simp [hx])), rfl⟩
  exact WideElems.Trod_stays hl (hr t (by simp)).1 (hr t (by simp)).2 hd (fun x hx => hs x (hlt x (by simp [hx]))) (fun x hx => hsp x (by simp [hx]))
 | [], [], _ :: _, _, _, h, _, _ => h.elim
 | [], _ :: _, _, _, _, h, _, _ => h.elim
 | _ :: _, [], _, _, _, h, _, _ => h.elim
 | _ :: _, _ :: _, [], _, _, h, _, _ => h.elim
theorem post_law {f : Func} {s : ChangeSpec} {W W' : World} {args : Array Value} {ds : List (DataW H)} {before : List MemPlace} {tb : TypeId} (hl : laidOutB P = true)
  (hv : s.vars = []) (hW : DataW.Whole enc P f.params.toList s.vars false W args.toList ds [] before)
  (hrec : ∀ t, t ∈ f.params.toList → P.readableRec t = true ∧ t < P.types.size)
  (hres : (s.fn H ds).results = [.lit (.bool true)]) (hargs : (s.fn H ds).args = ds) (hvs : (s.fn H ds).vars = [])
  (hrt : f.resultTypes = #[tb]) (htb : P.underlying tb = some .bool) (hb : Below W.heap.size W W') : s.post enc P f false true false false W args (.bool true) W' := by
 have hlt : ∀ x, x ∈ before → x.block < W.heap.size := fun x hx => hW.lt x hx
 have hW2 := hW
 obtain ⟨p, q, hA, hV, rfl, -, -⟩ := hW2
 have hq : q = [] := by rw [hv] at hV; exact hV
 subst hq
 refine ⟨ds, [], p ++ [], [], p, [], hW, ?_, ?_, ?_, hb.frame _, fun h => by cases h⟩
 ·rw [List.append_nil, hres, hrt]
  exact trodAll_mk1 (shut_bool htb true)
 ·rw [List.append_nil, hargs]
  exact trodAll_keep hl (fun x hx => hb.same hx) _ _ _ _ hrec hA (fun x hx => hlt x (by simp [hx])) (fun x hx => by simpa using hlt x (by simp [hx]))
 ·rw [List.append_nil, hv, hvs]; rfl
end
theorem gHalves : Tryd.prog.globalNamed "headrace/page.halves" = some 0 := by kernel_rfl
theorem tHalves : (Tryd.prog.globals[0]?).map (·.type) = some 97 := by kernel_rfl
def laidHalves {H : Type} : List (String × DataW H) := [("headrace/page.halves", Rows.laid_headrace_page_halves)]
theorem door_met (os : Os) (args : Array Value) : laidMetH Tryd.prog laidHalves ((World.doorLaid Tryd.prog 400 os).forCall (fun _ _ => 0) ⟨#[], args, []⟩).memory :=
 laidMetH_of_parts3 (fuel := 8) (laidMet_of_run' 8 (by kernel_rfl) (by kernel_rfl)) (by kernel_rfl) (by kernel_rfl)
theorem laid_parts (i : Nat) (hi : i < 16) : ∃ parts : List (DataW Unit), (Rows.laid_headrace_page_halves : DataW Unit) = .agg parts ∧ parts[i]? = some (.lit (.int .u32 (Pg.half i : Nat))) := by
 refine ⟨_, rfl, ?_⟩
 exact match i, hi with
 | 0, _ => rfl
 | 1, _ => rfl
 | 2, _ => rfl
 | 3, _ => rfl
 | 4, _ => rfl
 | 5, _ => rfl
 | 6, _ => rfl
 | 7, _ => rfl
 | 8, _ => rfl
 | 9, _ => rfl
 | 10, _ => rfl
 | 11, _ => rfl
 | 12, _ => rfl
 | 13, _ => rfl
 | 14, _ => rfl
 | 15, _ => rfl
 | n + 16, h => absurd h (by omega)
/-- What the condition gives the walks: the table's cells. -/
theorem of_laid {W : World} (h : laidMetH Tryd.prog laidHalves W) : HalvesAt W := by
 rw [MakeChecks.laidMetH_plain _ _ _ (by kernel_rfl)] at h
 obtain ⟨ps, ⟨g0, t0, cs0, f0, p0, q0, hg0, ht0, hv0, hd0, _, _⟩, _, _⟩ := h
 obtain rfl := Option.some.inj (gHalves.symm.trans hg0)
 obtain rfl := Option.some.inj (tHalves.symm.trans ht0)
 obtain ⟨xs, m1, rfl, hx1, hlen, hn3, hel⟩ := DataW.trod_array Tryd.underlying97 hd0
 have c3 : Tryd.prog.cellsOf 77 = 1 := by kernel_rfl
 intro i hi
 obtain ⟨parts, hp, hpi⟩ := laid_parts i hi
 rw [hp] at hx1
 simp only [Prod.mk.injEq, DataW.agg.injEq] at hx1
 have hxi : xs[i]? = some (xs[i]'(by omega)) := List.getElem?_eq_getElem (by omega)
 have hi1 := hel i hi
 rw [c3, Nat.mul_one, hxi] at hi1
 obtain ⟨k, e1, e2, _⟩ := DataW.trod_int Tryd.underlying77 hi1
 have hk : k = (Pg.half i : Nat) := by
  rw [hx1.1, List.getElem?_map, hxi] at hpi
  simp only [Option.map_some, Option.some.injEq] at hpi
  rw [e2] at hpi
  simpa using hpi
 subst hk
 have hc := World.var?_cell hg0 hv0 i
 rw [hc, ← Array.getElem?_toList]
 have h2 : (cs0.toList.drop i)[0]? = some (.int .u32 (Pg.half i : Nat)) := by
  have h3 : ((cs0.toList.drop i).take 1)[0]? = some (.int .u32 (Pg.half i : Nat)) := by rw [e1]; rfl
  rw [List.getElem?_take] at h3
  simpa using h3
 rw [List.getElem?_drop] at h2
 simpa using h2
end Go.Proofs.YtifabkbdiiolfaaDoor

namespace Go.Proofs.YtifabkbdiiolfaaDoor
open Go.ChangeShapes Go.WideShapes Go.ChangeAt Go.RowKit
section
variable {H : Type} {enc : TypeId × Value → H} {P : Program}
theorem trod_float' {w : World} {base : Nat} {spare : Nat → Bool} {held : Bool} {fuel : Nat} {cs : List Value} {x : DataW H × List MemPlace} {t : TypeId} (ht : P.underlying t = some (.float .f64)) (h : DataW.trod enc P w base spare held fuel t cs = some x) :
  ∃ b, cs = [.float .f64 b] ∧ (Lit.float .f64 b).wf = true := by
 cases fuel with
 | zero => simp [DataW.trod] at h
 | succ n =>
  unfold DataW.trod at h
  rw [ht] at h
  split at h <;> simp_all
end
section
variable {H : Type} {enc : TypeId × Value → H} {W : World} {base : Nat} {spare : Nat → Bool} {held : Bool}
/-- The cells of an event that came in. -/
theorem ev_cells {fuel : Nat} {cs : List Value} {y : DataW H × List MemPlace} (h : DataW.trod enc Tryd.prog W base spare held fuel 34 cs = some y) : ∃ x : Ev, cs = x.cells ∧ x.val < 18446744073709551616 := by
 obtain ⟨xs, n, -, -, hl, hxl, hg⟩ := DataW.trod_struct Tryd.underlying34 h
 have hC : Tryd.prog.cellsOf 34 = 5 := by kernel_rfl
 have hx5 : xs.length = 5 := hxl
 rw [hC] at hl
 have one : ∀ (i : Nat) (c : Value) (f : Field), cs[i]? = some c → i < 5 → f.offset = i → Tryd.prog.cellsOf f.type = 1 → DataW.trod enc Tryd.prog W base spare held n f.type ((cs.drop f.offset).take (Tryd.prog.cellsOf f.type)) = xs[i]? → ∃ y, DataW.trod enc Tryd.prog W base spare held n f.type [c] = some y := by
  intro i c f hc hi ho hk hf
  rw [ho, hk] at hf
  have e : (cs.drop i).take 1 = [c] := by
   obtain ⟨h1, h2⟩ := List.getElem?_eq_some_iff.1 hc
   rw [List.drop_eq_getElem_cons h1, h2]; rfl
  rw [e, List.getElem?_eq_getElem (by omega)] at hf
  exact ⟨_, hf⟩
 match cs, hl with
 | [c0, c1, c2, c3, c4], _ =>
  obtain ⟨y0, t0⟩ := one 0 c0 _ rfl (by decide) rfl (by kernel_rfl) (hg 0 _ rfl)
  obtain ⟨y1, t1⟩ := one 1 c1 _ rfl (by decide) rfl (by kernel_rfl) (hg 1 _ rfl)
  obtain ⟨y2, t2⟩ := one 2 c2 _ rfl (by decide) rfl (by kernel_rfl) (hg 2 _ rfl)
  obtain ⟨y3, t3⟩ := one 3 c3 _ rfl (by decide) rfl (by kernel_rfl) (hg 3 _ rfl)
  obtain ⟨y4, t4⟩ := one 4 c4 _ rfl (by decide) rfl (by kernel_rfl) (hg 4 _ rfl)
  obtain ⟨n0, e0, -, w0⟩ := DataW.trod_int (k := .u64) Tryd.underlying31 t0
  obtain ⟨n1, e1, -, -⟩ := DataW.trod_int (k := .i64) Tryd.underlying3 t1
  obtain ⟨n2, e2, -, -⟩ := DataW.trod_int (k := .i64) Tryd.underlying2 t2
  obtain ⟨s3, e3, -, -⟩ := DataW.trod_string Tryd.underlying9 t3
  obtain ⟨b4, e4, w4⟩ := trod_float' Tryd.underlying32 t4
  cases e0; cases e1; cases e2; cases e3; cases e4
  have h0 : 0 ≤ n0 := by
   have h : 0 ≤ n0 ∧ n0 ≤ 18446744073709551615 := by simpa [Lit.wf, IntKind.min, IntKind.max, IntKind.signed, IntKind.bits] using w0
   exact h.1
  refine ⟨⟨n0.toNat, n1, n2, s3, b4⟩, ?_, by simpa [Lit.wf] using w4⟩
  unfold Ev.cells
  rw [Int.toNat_of_nonneg h0]
end
section
variable {H : Type} {enc : TypeId × Value → H} {W : World}
theorem open_evs {b0 : Nat} {r : Reach} {v : Value} {d : DataW H} {ps : List MemPlace} (hok : Value.okWide Tryd.prog W r b0 22 v) (hd : DataW.Trod enc Tryd.prog W 0 (fun _ => true) true 22 v d ps) :
  ∃ (a : Option Addr) (l : List Ev) (cap : Nat), v = .slice a l.length cap ∧ l.length ≤ cap ∧ cap ≤ maxLen ∧ (a = none → l.length = 0 ∧ cap = 0) ∧ (∀ x, a = some x → x.spot = none) ∧ (∀ x ∈ l, x.val < 18446744073709551616) ∧ EvAt W a l := by
 have hu := Tryd.underlying22
 have hC : Tryd.prog.cellsOf 34 = 5 := by kernel_rfl
 obtain ⟨fuel, hf⟩ := hd
 obtain ⟨a, len, cap, rfl⟩ := okWide_slice hu hok
 rcases Deep.open_slice hu hf with ⟨hcs, -⟩ | ⟨a', len', cap', m, n, D, Pl, hcs, -, hl, hm, hmm, hx, hcell⟩
 ·simp [Value.cells] at hcs
  obtain ⟨rfl, rfl, rfl⟩ := hcs
  exact ⟨none, [], 0, rfl, Nat.le_refl _, by unfold maxLen; omega, fun _ => ⟨rfl, rfl⟩, fun x hx => (by cases hx), fun x hx => (by cases hx), fun k x hx => by simp [evs] at hx⟩
 ·simp [Value.cells] at hcs
  obtain ⟨rfl, rfl, rfl⟩ := hcs
  simp only [if_true] at hmm
  subst hmm
  have hspot : a'.spot = none := by
   simp only [Value.okWide, hu, Cell.okWide, Cell.ok] at hok
   exact hok.2.2.2.1
  obtain ⟨g, off, s⟩ := a'
  obtain rfl : s = none := hspot
  have hE : ∀ i, i < m → ∃ x : Ev, W.cells? 0 ((⟨g, off, none⟩ : Addr).add (i * 5)) 5 = some x.cells ∧ x.val < 18446744073709551616 := fun i hi => by
   obtain ⟨cs', h1, h2⟩ := hcell i hi
   rw [hC] at h1
   obtain ⟨x, rfl, hx⟩ := ev_cells h2
   exact ⟨x, h1, hx⟩
  obtain ⟨E, hE⟩ := Deep.choose_lt (α := Ev) (p := fun i x => W.cells? 0 ((⟨g, off, none⟩ : Addr).add (i * 5)) 5 = some x.cells ∧ x.val < 18446744073709551616) hE
  refine ⟨some ⟨g, off, none⟩, (List.range len).map E, m, by simp, by simpa using hl, hm, fun h => (by cases h), fun x hx => (by cases hx; rfl), fun x hx => ?_, fun k v hv => ?_⟩
  ·obtain ⟨i, hi, rfl⟩ := List.mem_map.1 hx
   exact (hE i (by have := List.mem_range.1 hi; omega)).2
  ·have hk : k < len * 5 := by
    have := (List.getElem?_eq_some_iff.1 hv).1
    rw [evs_length] at this; simpa using this
   have e := evs_get ((List.range len).map E) (k / 5) (k % 5) (by omega)
   rw [show k / 5 * 5 + k % 5 = k by omega, hv, List.getElem?_map, List.getElem?_range (by omega)] at e
   obtain ⟨h0, h1, h2⟩ := World.cells?_some (hE (k / 5) (by omega)).1
   have hg := World.cells?_block (hE (k / 5) (by omega)).1 (by decide)
   rw [Addr.add_lit] at hg
   refine ⟨g, off, rfl, hg, ?_⟩
   have h3 := h2 (k % 5) (by omega)
   rw [Addr.add_lit, Addr.add_lit, Nat.add_assoc, show k / 5 * 5 + k % 5 = k by omega] at h3
   rw [h3]; exact e.symm
end
end Go.Proofs.YtifabkbdiiolfaaDoor
