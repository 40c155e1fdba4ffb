/-
  A filter that came in, opened: beside a tied card's frame.
-/
import Derived.Test.YtenmjofbamihdaaGreatDoorTie
import Derived.Test.YtenmjofbamihdaaGreatDoorCards
import Derived.ProofKit
import Derived.Laws.Cover2
import Derived.WideKeyArgs
import Derived.Carry
import Derived.Deep.Slices
import Derived.LaidMore
import Derived.OpenShut
import Derived.Stop.Joined
import Derived.SevenTiedAt
import Derived.SizedLaws
import Derived.Test.YtenmjofbamihdaaGreatDoorByK
import Derived.Test.YtenmjofbamihdaaGreatDoorGrK
import Derived.Test.YtenmjofbamihdaaGreatDoorEjK
import Derived.Test.YtenmjofbamihdaaGreatDoorYwK
set_option linter.unusedSimpArgs false
set_option linter.unusedVariables false
set_option maxRecDepth 8000
namespace Go.Proofs.YtenmjofbamihdaaGreatDoor
open Go.ChangeShapes Go.WideShapes Go.ChangeAt Go.WideElems Go.RowKit

theorem Tryz.own : ownKnob Tryz.prog.godebug = none := by kernel_rfl
theorem Tryz.laidOut : laidOutB Tryz.prog = true := by kernel_rfl

section
variable {H : Type} {enc : TypeId × Value → H} {P : Program}

theorem trodAll_keep {W W' : World} {sp : Nat → Bool} (hl : laidOutB P = true) (hs : ∀ x : MemPlace, x.block < W.heap.size → W.sameAt W' x) : ∀ (ts : List TypeId) (vs : List Value) (ds : List (DataW H)) (ps : List MemPlace),
    (∀ t, t ∈ ts → P.readableRec t = true ∧ t < P.types.size) → DataW.TrodAll enc P W 0 (fun _ => true) true ts vs ds ps → (∀ x, x ∈ ps → x.block < W.heap.size) → (∀ x, x ∈ ps → sp x.block = true) →
    DataW.TrodAll enc P W' 0 sp true ts vs ds ps
  | [], [], [], _, _, h, _, _ => h
  | t :: ts, v :: vs, d :: ds, ps, hr, ⟨p, q, hd, hrest, he⟩, hlt, hsp => by
    subst he
    refine ⟨p, q, ?_, trodAll_keep hl hs ts vs ds q (fun t ht => hr t (by simp [ht])) hrest (fun x hx => hlt x (by simp [hx])) (fun x hx => hsp x (by simp [hx])), rfl⟩
    exact WideElems.Trod_stays hl (hr t (by simp)).1 (hr t (by simp)).2 hd (fun x hx => hs x (hlt x (by simp [hx]))) (fun x hx => hsp x (by simp [hx]))
  | [], [], _ :: _, _, _, h, _, _ => h.elim
  | [], _ :: _, _, _, _, h, _, _ => h.elim
  | _ :: _, [], _, _, _, h, _, _ => h.elim
  | _ :: _, _ :: _, [], _, _, h, _, _ => h.elim

theorem post_law {f : Func} {s : ChangeSpec} {W W' : World} {args : Array Value} {ds : List (DataW H)} {before : List MemPlace} {tb : TypeId} (hl : laidOutB P = true)
    (hv : s.vars = []) (hW : DataW.Whole enc P f.params.toList s.vars false W args.toList ds [] before)
    (hrec : ∀ t, t ∈ f.params.toList → P.readableRec t = true ∧ t < P.types.size)
    (hres : (s.fn H ds).results = [.lit (.bool true)]) (hargs : (s.fn H ds).args = ds) (hvs : (s.fn H ds).vars = [])
    (hrt : f.resultTypes = #[tb]) (htb : P.underlying tb = some .bool) (hb : Below W.heap.size W W') : s.post enc P f false true false false W args (.bool true) W' := by
  have hlt : ∀ x, x ∈ before → x.block < W.heap.size := fun x hx => hW.lt x hx
  have hW2 := hW
  obtain ⟨p, q, hA, hV, rfl, -, -⟩ := hW2
  have hq : q = [] := by rw [hv] at hV; exact hV
  subst hq
  refine ⟨ds, [], p ++ [], [], p, [], hW, ?_, ?_, ?_, hb.frame _, fun h => by cases h⟩
  · rw [List.append_nil, hres, hrt]
    exact trodAll_mk1 (shut_bool htb true)
  · rw [List.append_nil, hargs]
    exact trodAll_keep hl (fun x hx => hb.same hx) _ _ _ _ hrec hA (fun x hx => hlt x (by simp [hx])) (fun x hx => by simpa using hlt x (by simp [hx]))
  · rw [List.append_nil, hv, hvs]; rfl

end

theorem gHalves : Tryz.prog.globalNamed "headrace/page.halves" = some 0 := by kernel_rfl
theorem tHalves : (Tryz.prog.globals[0]?).map (·.type) = some 113 := by kernel_rfl
def laidHalves {H : Type} : List (String × DataW H) := [("headrace/page.halves", Rows.laid_headrace_page_halves)]
theorem door_met (os : Os) (args : Array Value) : laidMetH Tryz.prog laidHalves ((World.doorLaid Tryz.prog 400 os).forCall (fun _ _ => 0) ⟨#[], args, []⟩).memory :=
  laidMetH_of_parts3 (fuel := 8) (laidMet_of_run' 8 (by kernel_rfl) (by kernel_rfl)) (by kernel_rfl) (by kernel_rfl)
theorem laid_parts (i : Nat) (hi : i < 16) : ∃ parts : List (DataW Unit), (Rows.laid_headrace_page_halves : DataW Unit) = .agg parts ∧ parts[i]? = some (.lit (.int .u32 (Pg.half i : Nat))) := by
  refine ⟨_, rfl, ?_⟩
  exact match i, hi with
  | 0, _ => rfl
  | 1, _ => rfl
  | 2, _ => rfl
  | 3, _ => rfl
  | 4, _ => rfl
  | 5, _ => rfl
  | 6, _ => rfl
  | 7, _ => rfl
  | 8, _ => rfl
  | 9, _ => rfl
  | 10, _ => rfl
  | 11, _ => rfl
  | 12, _ => rfl
  | 13, _ => rfl
  | 14, _ => rfl
  | 15, _ => rfl
  | n + 16, h => absurd h (by omega)
/-- What the condition gives the walks: the table's cells. -/
theorem of_laid {W : World} (h : laidMetH Tryz.prog laidHalves W) : HalvesAt W := by
  rw [MakeChecks.laidMetH_plain _ _ _ (by kernel_rfl)] at h
  obtain ⟨ps, ⟨g0, t0, cs0, f0, p0, q0, hg0, ht0, hv0, hd0, _, _⟩, _, _⟩ := h
  obtain rfl := Option.some.inj (gHalves.symm.trans hg0)
  obtain rfl := Option.some.inj (tHalves.symm.trans ht0)
  obtain ⟨xs, m1, rfl, hx1, hlen, hn3, hel⟩ := DataW.trod_array Tryz.underlying113 hd0
  have c3 : Tryz.prog.cellsOf 23 = 1 := by kernel_rfl
  intro i hi
  obtain ⟨parts, hp, hpi⟩ := laid_parts i hi
  rw [hp] at hx1
  simp only [Prod.mk.injEq, DataW.agg.injEq] at hx1
  have hxi : xs[i]? = some (xs[i]'(by omega)) := List.getElem?_eq_getElem (by omega)
  have hi1 := hel i hi
  rw [c3, Nat.mul_one, hxi] at hi1
  obtain ⟨k, e1, e2, _⟩ := DataW.trod_int Tryz.underlying23 hi1
  have hk : k = (Pg.half i : Nat) := by
    rw [hx1.1, List.getElem?_map, hxi] at hpi
    simp only [Option.map_some, Option.some.injEq] at hpi
    rw [e2] at hpi
    simpa using hpi
  subst hk
  have hc := World.var?_cell hg0 hv0 i
  rw [hc, ← Array.getElem?_toList]
  have h2 : (cs0.toList.drop i)[0]? = some (.int .u32 (Pg.half i : Nat)) := by
    have h3 : ((cs0.toList.drop i).take 1)[0]? = some (.int .u32 (Pg.half i : Nat)) := by rw [e1]; rfl
    rw [List.getElem?_take] at h3
    simpa using h3
  rw [List.getElem?_drop] at h2
  simpa using h2
end Go.Proofs.YtenmjofbamihdaaGreatDoor

set_option linter.unusedSimpArgs false
set_option linter.unusedVariables false
set_option maxRecDepth 8000
namespace Go.Proofs.YtenmjofbamihdaaGreatDoor
open Go.ChangeShapes Go.WideShapes Go.ChangeAt Go.RowKit
section
variable {H : Type} {enc : TypeId × Value → H} {W : World} {base : Nat} {spare : Nat → Bool} {held : Bool}
theorem open_flt {r : Reach} {b0 : Nat} {v : Value} {d : DataW H} {p : List MemPlace} (hv : Value.okWide Tryz.prog W r b0 26 v) (h : DataW.Trod enc Tryz.prog W base spare held 26 v d p) :
    ∃ (a b : Nat) (x y : Int), v = .agg #[.int .u64 (a : Int), .int .u64 (b : Int), .int .i64 x, .int .i64 y] ∧ a < 18446744073709551616 ∧ b < 18446744073709551616 ∧ Wf64 x ∧ Wf64 y := by
  obtain ⟨cs0, rfl, -⟩ := okWide_struct Tryz.underlying26 hv
  obtain ⟨fuel, hf⟩ := h
  obtain ⟨l⟩ := cs0
  have hf : DataW.trod enc Tryz.prog W base spare held fuel 26 l = _ := hf
  obtain ⟨xs, n, -, -, hl, hxl, hg⟩ := DataW.trod_struct Tryz.underlying26 hf
  have hC : Tryz.prog.cellsOf 26 = 4 := by kernel_rfl
  have hx4 : xs.length = 4 := hxl
  rw [hC] at hl
  have one : ∀ (i : Nat) (c : Value) (f : Field), l[i]? = some c → i < 4 → f.offset = i → Tryz.prog.cellsOf f.type = 1 → DataW.trod enc Tryz.prog W base spare held n f.type ((l.drop f.offset).take (Tryz.prog.cellsOf f.type)) = xs[i]? → ∃ y, DataW.trod enc Tryz.prog W base spare held n f.type [c] = some y := by
    intro i c f hc hi ho hk hf
    rw [ho, hk] at hf
    have e : (l.drop i).take 1 = [c] := by
      obtain ⟨h1, h2⟩ := List.getElem?_eq_some_iff.1 hc
      rw [List.drop_eq_getElem_cons h1, h2]; rfl
    rw [e, List.getElem?_eq_getElem (by omega)] at hf
    exact ⟨_, hf⟩
  match l, hl with
  | [c0, c1, c2, c3], _ =>
    obtain ⟨y0, t0⟩ := one 0 c0 _ rfl (by decide) rfl (by kernel_rfl) (hg 0 _ rfl)
    obtain ⟨y1, t1⟩ := one 1 c1 _ rfl (by decide) rfl (by kernel_rfl) (hg 1 _ rfl)
    obtain ⟨y2, t2⟩ := one 2 c2 _ rfl (by decide) rfl (by kernel_rfl) (hg 2 _ rfl)
    obtain ⟨y3, t3⟩ := one 3 c3 _ rfl (by decide) rfl (by kernel_rfl) (hg 3 _ rfl)
    obtain ⟨n0, e0, -, w0⟩ := DataW.trod_int (k := .u64) Tryz.underlying24 t0
    obtain ⟨n1, e1, -, w1⟩ := DataW.trod_int (k := .u64) Tryz.underlying24 t1
    obtain ⟨n2, e2, -, w2⟩ := DataW.trod_int (k := .i64) Tryz.underlying2 t2
    obtain ⟨n3, e3, -, w3⟩ := DataW.trod_int (k := .i64) Tryz.underlying2 t3
    cases e0; cases e1; cases e2; cases e3
    have h0 : 0 ≤ n0 ∧ n0 ≤ 18446744073709551615 := by simpa [Lit.wf, IntKind.min, IntKind.max, IntKind.signed, IntKind.bits] using w0
    have h1 : 0 ≤ n1 ∧ n1 ≤ 18446744073709551615 := by simpa [Lit.wf, IntKind.min, IntKind.max, IntKind.signed, IntKind.bits] using w1
    have h2 : -9223372036854775808 ≤ n2 ∧ n2 ≤ 9223372036854775807 := by simpa [Lit.wf, IntKind.min, IntKind.max, IntKind.signed, IntKind.bits] using w2
    have h3 : -9223372036854775808 ≤ n3 ∧ n3 ≤ 9223372036854775807 := by simpa [Lit.wf, IntKind.min, IntKind.max, IntKind.signed, IntKind.bits] using w3
    refine ⟨n0.toNat, n1.toNat, n2, n3, ?_, by omega, by omega, by unfold Wf64; omega, by unfold Wf64; omega⟩
    rw [Int.toNat_of_nonneg h0.1, Int.toNat_of_nonneg h1.1]
end
end Go.Proofs.YtenmjofbamihdaaGreatDoor
