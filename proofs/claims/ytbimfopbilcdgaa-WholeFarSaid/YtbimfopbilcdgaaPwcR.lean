/-
  Layer whole: what came in as an argument: a config, whole numbers.
-/
import Derived.Test.YtbimfopbilcdgaaZyQ
import Derived.Test.YtbimfopbilcdgaaPyR
import Derived.Test.YtbimfopbilcdgaaZfbR
set_option linter.unusedSimpArgs false
set_option linter.unusedVariables false
set_option maxRecDepth 8000
namespace Go.Proofs.Ytbimfopbilcdgaa
open Go.ChangeShapes Go.WideShapes Go.ChangeAt Go.RowKit
section
variable {H : Type} {enc : TypeId × Value → H} {P : Program}
theorem open_is {W : World} {t e : TypeId} {v : Value} {d : DataW H} {ps : List MemPlace} (ht : P.underlying t = some (.slice e)) (he : P.underlying e = some (.int .i64)) (hc : P.cellsOf e = 1)
    {b0 : Nat} {r : Reach} (hok : Value.okWide P W r b0 t v) (hd : DataW.Trod enc P W 0 (fun _ => true) true t v d ps) (hlt : ∀ x, x ∈ ps → x.block < W.heap.size) :
    ∃ (a : Option Addr) (l : List Int) (cap : Nat), v = .slice a l.length cap ∧ l.length ≤ cap ∧ cap ≤ maxLen ∧ IsAt W a l := by
  obtain ⟨fuel, hf⟩ := hd
  obtain ⟨a, len, cap, rfl⟩ : ∃ a len cap, v = .slice a len cap := by
    simp only [Value.okWide, ht, Cell.okWide] at hok
    cases v <;> simp_all [Cell.ok]
  rcases Deep.open_slice1 ht hc hf with ⟨hcs, -⟩ | ⟨a', len', cap', m, n, V, D, Pl, hcs, -, hl, hm, hmm, hx, hcell⟩
  · simp [Value.cells] at hcs
    obtain ⟨rfl, rfl, rfl⟩ := hcs
    exact ⟨none, [], 0, rfl, Nat.le_refl _, by unfold maxLen; omega, fun k x hx => by simp at hx⟩
  · simp [Value.cells] at hcs
    obtain ⟨rfl, rfl, rfl⟩ := hcs
    simp only [if_true] at hmm
    subst hmm
    have hV : ∀ i, i < m → ∃ b : Int, V i = .int .i64 b ∧ Wf64 b := fun i hi => by
      obtain ⟨b, h1, _, h2⟩ := DataW.trod_int he (hcell i hi).2
      have h3 : -9223372036854775808 ≤ b ∧ b ≤ 9223372036854775807 := by simpa [Lit.wf, IntKind.min, IntKind.max, IntKind.signed, IntKind.bits] using h2
      exact ⟨b, by simpa using h1, h3⟩
    let B : Nat → Int := fun i => match V i with | .int _ b => b | _ => 0
    have hB : ∀ i, i < m → V i = .int .i64 (B i) ∧ Wf64 (B i) := fun i hi => by
      obtain ⟨b, h1, h2⟩ := hV i hi
      have : B i = b := by show (match V i with | .int _ b => b | _ => 0) = b; rw [h1]
      rw [this]; exact ⟨h1, h2⟩
    refine ⟨some a', (List.range len).map B, m, by simp, by simpa using hl, hm, fun k x hx2 => ?_⟩
    have hk : k < len := by
      rcases Nat.lt_or_ge k len with h | h
      · exact h
      · rw [List.getElem?_eq_none (by simpa using h)] at hx2; cases hx2
    have hx3 : x = B k := by simp [hk] at hx2; exact hx2.symm
    subst hx3
    obtain ⟨b, off, spot⟩ := a'
    have hspot : spot = none := by simpa [Addr.add] using World.cell?_spot (hcell 0 (by omega)).1
    subst hspot
    refine ⟨(hB k (by omega)).2, b, off, rfl, ?_, ?_⟩
    · have hcl := (hcell 0 (by omega)).1
      have := block_lt_of_cell hcl
      simpa [Addr.add] using this
    · have h := (hcell k (by omega)).1
      rw [(hB k (by omega)).1] at h
      rw [Addr.add_lit] at h
      exact h
end
section
variable {H : Type} {enc : TypeId × Value → H} {W : World} {base : Nat} {spare : Nat → Bool} {held : Bool}
theorem cfg_cells {fuel : Nat} {cs : List Value} {y : DataW H × List MemPlace} (h : DataW.trod enc Try.prog W base spare held fuel 64 cs = some y) : ∃ x : Cf, cs = [.int .u8 (x.kind : Int), .int .i64 x.size, .int .i64 x.step, .int .i64 x.late, .int .i64 x.skew, .int .i64 x.parts, .int .u64 (x.cut : Int)] ∧ x.In := by
  obtain ⟨xs, n, -, -, hl, hxl, hg⟩ := DataW.trod_struct Try.underlying64 h
  have hC : Try.prog.cellsOf 64 = 7 := by kernel_rfl
  have hx5 : xs.length = 7 := hxl
  rw [hC] at hl
  have one : ∀ (i : Nat) (c : Value) (f : Field), cs[i]? = some c → i < 7 → f.offset = i → Try.prog.cellsOf f.type = 1 → DataW.trod enc Try.prog W base spare held n f.type ((cs.drop f.offset).take (Try.prog.cellsOf f.type)) = xs[i]? → ∃ y, DataW.trod enc Try.prog W base spare held n f.type [c] = some y := by
    intro i c f hc hi ho hk hf
    rw [ho, hk] at hf
    have e : (cs.drop i).take 1 = [c] := by
      obtain ⟨h1, h2⟩ := List.getElem?_eq_some_iff.1 hc
      rw [List.drop_eq_getElem_cons h1, h2]; rfl
    rw [e, List.getElem?_eq_getElem (by omega)] at hf
    exact ⟨_, hf⟩
  match cs, hl with
  | [c0, c1, c2, c3, c4, c5, c6], _ =>
    obtain ⟨y0, t0⟩ := one 0 c0 _ rfl (by decide) rfl (by kernel_rfl) (hg 0 _ rfl)
    obtain ⟨y1, t1⟩ := one 1 c1 _ rfl (by decide) rfl (by kernel_rfl) (hg 1 _ rfl)
    obtain ⟨y2, t2⟩ := one 2 c2 _ rfl (by decide) rfl (by kernel_rfl) (hg 2 _ rfl)
    obtain ⟨y3, t3⟩ := one 3 c3 _ rfl (by decide) rfl (by kernel_rfl) (hg 3 _ rfl)
    obtain ⟨y4, t4⟩ := one 4 c4 _ rfl (by decide) rfl (by kernel_rfl) (hg 4 _ rfl)
    obtain ⟨y5, t5⟩ := one 5 c5 _ rfl (by decide) rfl (by kernel_rfl) (hg 5 _ rfl)
    obtain ⟨y6, t6⟩ := one 6 c6 _ rfl (by decide) rfl (by kernel_rfl) (hg 6 _ rfl)
    obtain ⟨n0, e0, -, w0⟩ := DataW.trod_int (k := .u8) Try.underlying5 t0
    obtain ⟨n1, e1, -, w1⟩ := DataW.trod_int (k := .i64) Try.underlying2 t1
    obtain ⟨n2, e2, -, w2⟩ := DataW.trod_int (k := .i64) Try.underlying2 t2
    obtain ⟨n3, e3, -, w3⟩ := DataW.trod_int (k := .i64) Try.underlying2 t3
    obtain ⟨n4, e4, -, w4⟩ := DataW.trod_int (k := .i64) Try.underlying2 t4
    obtain ⟨n5, e5, -, w5⟩ := DataW.trod_int (k := .i64) Try.underlying3 t5
    obtain ⟨n6, e6, -, w6⟩ := DataW.trod_int (k := .u64) Try.underlying62 t6
    cases e0; cases e1; cases e2; cases e3; cases e4; cases e5; cases e6
    have h0 : 0 ≤ n0 ∧ n0 ≤ 255 := by simpa [Lit.wf, IntKind.min, IntKind.max, IntKind.signed, IntKind.bits] using w0
    have h3 : -9223372036854775808 ≤ n3 ∧ n3 ≤ 9223372036854775807 := by simpa [Lit.wf, IntKind.min, IntKind.max, IntKind.signed, IntKind.bits] using w3
    have h6 : 0 ≤ n6 ∧ n6 ≤ 18446744073709551615 := by simpa [Lit.wf, IntKind.min, IntKind.max, IntKind.signed, IntKind.bits] using w6
    refine ⟨⟨n0.toNat, n1, n2, n3, n4, n5, n6.toNat⟩, ?_, ⟨by show n0.toNat < 256; omega, h3.1, by show n6.toNat < 18446744073709551616; omega⟩⟩
    show _ = [Value.int .u8 ((n0.toNat : Nat) : Int), .int .i64 n1, .int .i64 n2, .int .i64 n3, .int .i64 n4, .int .i64 n5, .int .u64 ((n6.toNat : Nat) : Int)]
    rw [Int.toNat_of_nonneg h0.1, Int.toNat_of_nonneg h6.1]
theorem open_cfg {r : Reach} {b0 : Nat} {v : Value} {d : DataW H} {p : List MemPlace} (hv : Value.okWide Try.prog W r b0 64 v) (h : DataW.Trod enc Try.prog W base spare held 64 v d p) : ∃ x : Cf, v = x.v ∧ x.In := by
  obtain ⟨cs, rfl, -⟩ := okWide_struct Try.underlying64 hv
  obtain ⟨fuel, hf⟩ := h
  obtain ⟨x, hx, hb⟩ := cfg_cells hf
  refine ⟨x, ?_, hb⟩
  obtain ⟨l⟩ := cs
  have e : l = [.int .u8 (x.kind : Int), .int .i64 x.size, .int .i64 x.step, .int .i64 x.late, .int .i64 x.skew, .int .i64 x.parts, .int .u64 (x.cut : Int)] := by simpa [Value.cells] using hx
  rw [e]
end
end Go.Proofs.Ytbimfopbilcdgaa
