/-
  Layer ledger: places, panes; a map of panes by places.
-/
import Derived.Lib.Hide
import Derived.DeepKeys4
import Derived.Maps.RangeWalk
import Derived.Maps.OwnSet
import Derived.Test.YtbimfopbilcdgaaDoorAaK
set_option linter.unusedSimpArgs false
set_option linter.unusedVariables false
set_option maxRecDepth 8000
namespace Go.Proofs.YtbimfopbilcdgaaDoor
open Go.RowKit Go.Maps

/-- A key's window. -/
structure Pl where
  key : ByteArray
  s : Int
  e : Int
noncomputable instance : DecidableEq Pl := fun a b => Classical.propDecidable (a = b)
/-- What came of a key's window: is it there, its revision, its telling. -/
structure Pn where
  th : Bool
  rev : Nat
  t : Tel
structure Pn.Ok (x : Pn) : Prop where
  rev : x.rev < 18446744073709551616
  t : x.t.Ok
structure Pl.Ok (p : Pl) : Prop where
  key : p.key.size ≤ maxLen
  s : (Lit.int .i64 p.s).wf = true
  e : (Lit.int .i64 p.e).wf = true
def p0 : Pn := ⟨false, 0, ⟨0, 0, false, 0, 0⟩⟩
theorem p0_ok : p0.Ok := ⟨by decide, ⟨by decide, by decide, by decide, by decide⟩⟩
def plV (p : Pl) : Value := .agg #[.string p.key, .int .i64 p.s, .int .i64 p.e]
def pnV (x : Pn) : Value := .agg #[.bool x.th, .int .u64 (x.rev : Int), .int .u64 (x.t.c : Int), .float .f64 x.t.s, .bool x.t.o, .float .f64 x.t.lo, .float .f64 x.t.hi]
theorem pnV_inj {x y : Pn} (h : pnV x = pnV y) : x = y := by
  obtain ⟨a, b, c, d, e, f, g⟩ := x
  obtain ⟨a', b', c', d', e', f', g'⟩ := y
  simp only [pnV, Value.agg.injEq, Array.mk.injEq, List.cons.injEq, Value.bool.injEq, Value.int.injEq, Value.float.injEq, Int.natCast_inj, and_true, true_and] at h
  obtain ⟨rfl, rfl, rfl, rfl, rfl, rfl, rfl⟩ := h
  rfl
theorem plV_inj {x y : Pl} (h : plV x = plV y) : x = y := by
  obtain ⟨a, b, c⟩ := x
  obtain ⟨a', b', c'⟩ := y
  simp only [plV, Value.agg.injEq, Array.mk.injEq, List.cons.injEq, Value.string.injEq, Value.int.injEq, and_true, true_and] at h
  obtain ⟨rfl, rfl, rfl⟩ := h
  rfl
def KLs (p : Pl) : List Lit := [.string p.key.data.toList, .int .i64 p.s, .int .i64 p.e]
def KL (p : Pl) : Lit := .string (keyBytes (KLs p))
theorem lawP : Keyed Tryd.prog 62 := Keyed.of_law (deep_law_laid (by kernel_rfl) (m := 3) (by omega) (of_decide_eq_true (by kernel_rfl)) (by kernel_rfl) (by rw [Tryd.underlying62]))
theorem typesP : ∃ m, Tryd.prog.types.size + 1 = m + 3 := ⟨Tryd.prog.types.size - 2, by kernel_rfl⟩
theorem cellsP : Tryd.prog.cellsOf 62 = 3 := by kernel_rfl
theorem cellsW : Tryd.prog.cellsOf 34 = 2 := by kernel_rfl
theorem cellsS : Tryd.prog.cellsOf 9 = 1 := by kernel_rfl
theorem cellsI : Tryd.prog.cellsOf 2 = 1 := by kernel_rfl
theorem keyTypeP : Tryd.prog.keyType 62 = true := by kernel_rfl
theorem keyOf_pl (p : Pl) (hp : p.Ok) : keyOf Tryd.prog 62 (plV p) = some (KL p) := by
  unfold keyOf
  simp only [Tryd.underlying62]
  rw [if_pos (by simp [keyTypeP, plV, Value.formed, Tryd.underlying62, cellsP])]
  obtain ⟨m, hm⟩ := typesP
  rw [hm]
  have h1 := hp.key; have h2 := hp.s; have h3 := hp.e
  simp [plV, Value.cells, Program.keyLits, Tryd.underlying62, Tryd.underlying34, Tryd.underlying9, Tryd.underlying2, cellsP, cellsW, cellsS, cellsI, h1, h2, h3]
  rfl
theorem lits_str {m : Nat} {a : Value} {L : List Lit} (h : Tryd.prog.keyLits (m + 1) 9 [a] = some L) : ∃ s : ByteArray, a = .string s ∧ s.size ≤ maxLen ∧ L = [.string s.data.toList] := by
  unfold Program.keyLits at h
  simp only [Tryd.underlying9] at h
  cases a <;> simp at h
  exact ⟨_, rfl, h.1, h.2.symm⟩
theorem lits_int {m : Nat} {a : Value} {L : List Lit} (h : Tryd.prog.keyLits (m + 1) 2 [a] = some L) : ∃ n : Int, a = .int .i64 n ∧ (Lit.int .i64 n).wf = true ∧ L = [.int .i64 n] := by
  unfold Program.keyLits at h
  simp only [Tryd.underlying2] at h
  cases a <;> simp at h
  obtain ⟨⟨rfl, h1⟩, h2⟩ := h
  exact ⟨_, rfl, h1, h2.symm⟩
theorem lits_win {m : Nat} {a b : Value} {L : List Lit} (h : Tryd.prog.keyLits (m + 2) 34 [a, b] = some L) : ∃ s e : Int, a = .int .i64 s ∧ b = .int .i64 e ∧ (Lit.int .i64 s).wf = true ∧ (Lit.int .i64 e).wf = true ∧ L = [.int .i64 s, .int .i64 e] := by
  unfold Program.keyLits at h
  simp only [Tryd.underlying34, cellsW] at h
  split at h
  · simp only [List.mapM_cons, List.mapM_nil, cellsI, List.drop_zero, List.take_succ_cons, List.take_zero, List.drop_succ_cons] at h
    rcases h1 : Tryd.prog.keyLits (m + 1) 2 [a] with _ | L1
    · rw [h1] at h; cases h
    · rcases h2 : Tryd.prog.keyLits (m + 1) 2 [b] with _ | L2
      · rw [h1, h2] at h; cases h
      · rw [h1, h2] at h
        obtain ⟨s, rfl, hs, rfl⟩ := lits_int h1
        obtain ⟨e, rfl, he, rfl⟩ := lits_int h2
        exact ⟨s, e, rfl, rfl, hs, he, by simpa using h.symm⟩
  · cases h
theorem keyOf_inv {v : Value} {l : Lit} (h : keyOf Tryd.prog 62 v = some l) : ∃ p : Pl, p.Ok ∧ v = plV p ∧ l = KL p := by
  obtain ⟨xs, L, rfl, hL, rfl⟩ := keyOf_top (by rw [Tryd.underlying62]) h
  obtain ⟨m, hm⟩ := typesP
  rw [hm] at hL
  obtain ⟨xs⟩ := xs
  unfold Program.keyLits at hL
  simp only [Tryd.underlying62, cellsP] at hL
  split at hL
  · rename_i hn
    have hn := hn.1
    rcases xs with _ | ⟨a, _ | ⟨b, _ | ⟨c, _ | ⟨d, r⟩⟩⟩⟩ <;> simp at hn
    simp only [List.mapM_cons, List.mapM_nil, cellsS, cellsW, List.drop_zero, List.take_succ_cons, List.take_zero, List.drop_succ_cons] at hL
    rcases h1 : Tryd.prog.keyLits (m + 2) 9 [a] with _ | L1
    · rw [h1] at hL; cases hL
    · rcases h2 : Tryd.prog.keyLits (m + 2) 34 [b, c] with _ | L2
      · rw [h1, h2] at hL; cases hL
      · rw [h1, h2] at hL
        obtain ⟨ka, rfl, hk, rfl⟩ := lits_str h1
        obtain ⟨s, e, rfl, rfl, hs, he, rfl⟩ := lits_win h2
        refine ⟨⟨ka, s, e⟩, ⟨hk, hs, he⟩, rfl, ?_⟩
        unfold KL KLs
        have e1 : L = [Lit.string ka.data.toList, .int .i64 s, .int .i64 e] := by simpa using hL.symm
        rw [e1]
  · cases hL
theorem KL_inj {p q : Pl} (hp : p.Ok) (hq : q.Ok) (h : KL p = KL q) : p = q := plV_inj (lawP.inj (h ▸ keyOf_pl p hp) (keyOf_pl q hq))
theorem KL_key {p : Pl} (hp : p.Ok) : WideAt.IsKeyLit (KL p) := lawP.key (keyOf_pl p hp)
theorem KL_same {p q : Pl} (hp : p.Ok) (hq : q.Ok) : (KL q).sameKey (KL p) = decide (q = p) := by
  by_cases h : q = p
  · subst h; rw [decide_eq_true rfl]; exact WideAt.sameKey_self (KL_key hq)
  · rw [decide_eq_false h]; exact Maps.sameKey_ne fun e => h (KL_inj hq hp e)
open Classical in
/-- How an element reads: as itself, where it is a pane. -/
noncomputable def RP (v : Value) : Option (DataW Value × List MemPlace) := if ∃ x : Pn, x.Ok ∧ v = pnV x then some (.held v, []) else none
theorem RP_mk (x : Pn) (hx : x.Ok) : RP (pnV x) = some (.held (pnV x), []) := if_pos ⟨x, hx, rfl⟩
theorem RP_inv {v : Value} {y : DataW Value × List MemPlace} (h : RP v = some y) : ∃ x : Pn, x.Ok ∧ v = pnV x ∧ y = (.held (pnV x), []) := by
  unfold RP at h
  split at h
  · rename_i hx
    obtain ⟨x, hx, rfl⟩ := hx
    cases h
    exact ⟨x, hx, rfl, rfl⟩
  · cases h
/-- A datum that is read, place by place. -/
def Reads (D : DataW Value) (F : Pl → Option Pn) : Prop := ∀ p : Pl, p.Ok → Maps.has D (KL p) = (F p).isSome ∧ ∀ x, F p = some x → x.Ok ∧ ∀ z, D.atKey (KL p) z = .held (pnV x)
/-- Block b is a map of at most n entries, F. -/
def MapOf (w : World) (b n : Nat) (F : Pl → Option Pn) : Prop := ∃ D : DataW Value, w.ownsMap Tryd.prog 62 RP b n D ∧ Reads D F
def Fn0 : Pl → Option Pn := fun _ => none
noncomputable def upd (F : Pl → Option Pn) (p : Pl) (x : Pn) : Pl → Option Pn := fun q => if q = p then some x else F q
theorem reads_nil : Reads (.map []) Fn0 := fun p hp => ⟨rfl, fun x hx => by cases hx⟩
theorem MapOf.made (w : World) : MapOf (w.alloc (.map #[] 0)) w.heap.size 0 Fn0 := ⟨_, World.ownsMap_made w _ _ _, reads_nil⟩
theorem MapOf.lt {w : World} {b n : Nat} {F : Pl → Option Pn} (h : MapOf w b n F) : b < w.heap.size := by obtain ⟨D, h1, h2⟩ := h; exact h1.lt
theorem MapOf.kept {w w' : World} {b n : Nat} {F : Pl → Option Pn} {row : Option Nat} (h : MapOf w b n F) (hg : w.grownBy w' row) (hne : some b ≠ row) : MapOf w' b n F := by obtain ⟨D, h1, h2⟩ := h; exact ⟨D, h1.kept hg hne, h2⟩
theorem MapOf.below {w w' : World} {b n B : Nat} {F : Pl → Option Pn} (h : MapOf w b n F) (hb : Below B w w') (hB : b < B) : MapOf w' b n F := by
  obtain ⟨D, ⟨es, clock, h1, h2⟩, h3⟩ := h
  exact ⟨D, ⟨es, clock, (hb.block b hB).trans h1, h2⟩, h3⟩
theorem MapOf.mono {w : World} {b n m : Nat} {F : Pl → Option Pn} (h : MapOf w b n F) (hn : n ≤ m) : MapOf w b m F := by obtain ⟨D, h1, h2⟩ := h; exact ⟨D, h1.mono hn, h2⟩
theorem reads_put {D : DataW Value} {F : Pl → Option Pn} (h : Reads D F) (hD : Maps.IsMap D) {p : Pl} (hp : p.Ok) {x : Pn} (hx : x.Ok) : Reads (D.put (KL p) (.held (pnV x))) (upd F p x) := by
  intro q hq
  unfold upd
  by_cases e : q = p
  · subst e
    rw [if_pos rfl]
    refine ⟨Maps.has_put_same hD (KL_key hq) _, fun y hy => ?_⟩
    cases hy
    exact ⟨hx, fun z => Maps.atKey_put_same hD (KL_key hq) _ z⟩
  · rw [if_neg e]
    have hk : KL q ≠ KL p := fun h => e (KL_inj hq hp h)
    rw [Maps.has_put_other hk]
    refine ⟨(h q hq).1, fun y hy => ⟨((h q hq).2 y hy).1, fun z => ?_⟩⟩
    rw [Maps.atKey_put_other hk]; exact ((h q hq).2 y hy).2 z
theorem zeroPn (w : World) : (zeroValue 64).run Tryd.prog w = .ok (pnV p0) w := by kernel_rfl
theorem look_at {D : DataW Value} {F : Pl → Option Pn} (h : Reads D F) {p : Pl} (hp : p.Ok) {v : Value} {ps : List MemPlace} (hv : RP v = some (D.atKey (KL p) (.held (pnV p0)), ps)) : v = pnV ((F p).getD p0) ∧ ((F p).getD p0).Ok := by
  obtain ⟨x, hx, rfl, e⟩ := RP_inv hv
  injection e with e1 e2
  rcases hF : F p with _ | y
  · have h1 := (h p hp).1
    rw [hF] at h1
    rw [Maps.atKey_of_not_has h1] at e1
    injection e1 with e1
    have := pnV_inj e1
    subst this
    exact ⟨rfl, hx⟩
  · have h2 := ((h p hp).2 y hF).2 (.held (pnV p0))
    rw [h2] at e1
    injection e1 with e1
    have := pnV_inj e1
    subst this
    exact ⟨rfl, hx⟩
/-- A map's value: nil, or a block. -/
def MapV (w : World) (v : Value) (n : Nat) (F : Pl → Option Pn) : Prop := (v = .map none ∧ F = Fn0) ∨ ∃ b, v = .map (some b) ∧ MapOf w b n F
theorem MapV.look {w : World} {v : Value} {n : Nat} {F : Pl → Option Pn} (h : MapV w v n F) {p : Pl} (hp : p.Ok) : (Instr.lookup 30 v (plV p) false).run Tryd.prog w = .ok (pnV ((F p).getD p0)) w ∧ ((F p).getD p0).Ok := by
  rcases h with ⟨rfl, rfl⟩ | ⟨b, rfl, D, h1, h2⟩
  · exact ⟨Maps.look_nil false lawP Tryd.underlying30 (zeroPn w) (keyOf_pl p hp), p0_ok⟩
  · obtain ⟨u, ps, hr, hu⟩ := h1.lookup lawP Tryd.underlying30 (zeroPn w) (RP_mk p0 p0_ok) (keyOf_pl p hp)
    obtain ⟨rfl, h4⟩ := look_at h2 hp hu
    exact ⟨hr, h4⟩
theorem MapOf.look_ok {w : World} {b n : Nat} {F : Pl → Option Pn} (h : MapOf w b n F) {p : Pl} (hp : p.Ok) : (Instr.lookup 30 (.map (some b)) (plV p) true).run Tryd.prog w = .ok (.tuple #[pnV ((F p).getD p0), .bool (F p).isSome]) w ∧ ((F p).getD p0).Ok := by
  obtain ⟨D, h1, h2⟩ := h
  obtain ⟨u, ps, hr, hu⟩ := h1.look_ok lawP Tryd.underlying30 (zeroPn w) (RP_mk p0 p0_ok) (keyOf_pl p hp)
  obtain ⟨rfl, h4⟩ := look_at h2 hp hu
  rw [(h2 p hp).1] at hr
  exact ⟨hr, h4⟩
theorem MapOf.put {w : World} {b n : Nat} {F : Pl → Option Pn} (h : MapOf w b n F) (hn : n < maxLen) {p : Pl} (hp : p.Ok) {x : Pn} (hx : x.Ok) : ∃ w', (Instr.mapUpdate 30 (.map (some b)) (plV p) (pnV x)).run Tryd.prog w = .ok () w' ∧ MapOf w' b (n + 1) (upd F p x) ∧ w.grownBy w' (some b) := by
  obtain ⟨D, h1, h2⟩ := h
  obtain ⟨w', hr, h3, h4⟩ := h1.update lawP Tryd.underlying30 hn (keyOf_pl p hp) (RP_mk x hx)
  exact ⟨w', hr, ⟨_, h3, reads_put h2 h1.isMap hp hx⟩, h4⟩
/-- A range over a map under way: lf tells which places are still to come. -/
def RangesOf (w : World) (b r n : Nat) (F : Pl → Option Pn) (lf : Pl → Bool) (cnt : Nat) : Prop := ∃ (D : DataW Value) (left : Lit → Bool), w.ranges Tryd.prog 62 RP b r n D left cnt ∧ Reads D F ∧ ∀ p : Pl, p.Ok → left (KL p) = lf p
theorem RangesOf.map {w : World} {b r n cnt : Nat} {F : Pl → Option Pn} {lf : Pl → Bool} (h : RangesOf w b r n F lf cnt) : MapOf w b n F := by obtain ⟨D, left, h1, h2, h3⟩ := h; exact ⟨D, h1.owns, h2⟩
theorem RangesOf.left_eq {w : World} {b r n cnt : Nat} {F : Pl → Option Pn} {lf : Pl → Bool} (h : RangesOf w b r n F lf cnt) : w.rangeLeft b r = cnt := by obtain ⟨D, left, h1, h2, h3⟩ := h; exact h1.left_eq
theorem RangesOf.kept {w w' : World} {b r n cnt : Nat} {F : Pl → Option Pn} {lf : Pl → Bool} {row : Option Nat} (h : RangesOf w b r n F lf cnt) (hg : w.grownBy w' row) (hb : some b ≠ row) (hr : some r ≠ row) : RangesOf w' b r n F lf cnt := by obtain ⟨D, left, h1, h2, h3⟩ := h; exact ⟨D, left, h1.kept hg hb hr, h2, h3⟩
theorem RangesOf.same {w w' : World} {b r n cnt : Nat} {F : Pl → Option Pn} {lf : Pl → Bool} (h : RangesOf w b r n F lf cnt) (hb : w'.heap[b]? = w.heap[b]?) (hr : w'.heap[r]? = w.heap[r]?) : RangesOf w' b r n F lf cnt := by
  obtain ⟨D, left, ⟨es, clock, since, seen, c0, h1, h2, h3, h4, h5, h6⟩, h7, h8⟩ := h
  exact ⟨D, left, ⟨es, clock, since, seen, c0, hb.trans h1, h2, h3, h4, hr.trans h5, h6⟩, h7, h8⟩
theorem MapOf.same {w w' : World} {b n : Nat} {F : Pl → Option Pn} (h : MapOf w b n F) (hb : w'.heap[b]? = w.heap[b]?) : MapOf w' b n F := by
  obtain ⟨D, ⟨es, clock, h1, h2⟩, h3⟩ := h
  exact ⟨D, ⟨es, clock, hb.trans h1, h2⟩, h3⟩
theorem MapOf.range {w : World} {b n : Nat} {F : Pl → Option Pn} (h : MapOf w b n F) : ∃ w' cnt, (Instr.range 30 (.map (some b))).run Tryd.prog w = .ok (.pointer (some ⟨w.heap.size, 0, none⟩)) w' ∧ RangesOf w' b w.heap.size n F (fun p => (F p).isSome) cnt ∧ cnt ≤ n ∧ w.grownBy w' none ∧ w'.heap.size = w.heap.size + 1 := by
  obtain ⟨D, h1, h2⟩ := h
  obtain ⟨w', hr, h3, h4, h5⟩ := h1.range lawP Tryd.underlying30
  exact ⟨w', _, hr, ⟨D, _, h3, h2, fun p hp => (h2 p hp).1⟩, h1.size_le, h4, h5⟩
theorem RangesOf.next {w : World} {b r n cnt : Nat} {F : Pl → Option Pn} {lf : Pl → Bool} (h : RangesOf w b r n F lf cnt) (ty : TypeId) :
    (cnt = 0 ∧ (∀ p : Pl, p.Ok → lf p = false) ∧ (Instr.next (.pointer (some ⟨r, 0, none⟩)) false ty).run Tryd.prog w = .ok (.tuple #[.bool false]) w) ∨
    ∃ (p : Pl) (x : Pn) (w' : World) (cnt' : Nat), p.Ok ∧ x.Ok ∧ F p = some x ∧ lf p = true ∧ (Instr.next (.pointer (some ⟨r, 0, none⟩)) false ty).run Tryd.prog w = .ok (.tuple #[.bool true, plV p, pnV x]) w' ∧
      RangesOf w' b r n F (fun q => lf q && !decide (q = p)) cnt' ∧ cnt' < cnt ∧ w.grownBy w' (some r) ∧ w'.heap.size = w.heap.size ∧ (Instr.entry (.pointer (some ⟨r, 0, none⟩))).run Tryd.prog w' = .ok (.tuple #[plV p, pnV x]) w' := by
  obtain ⟨D, left, h1, h2, h3⟩ := h
  rcases h1.next lawP ty with ⟨h0, hl, hr⟩ | ⟨key, v, kl, y, w', cnt', hkey, hlk, hv, hat, hrun, hrg, hlt, hgr, hsz, hen⟩
  · exact .inl ⟨h0, fun p hp => by rw [← h3 p hp]; exact hl _, hr⟩
  · obtain ⟨p, hp, rfl, rfl⟩ := keyOf_inv hkey
    obtain ⟨x, hx, rfl, rfl⟩ := RP_inv hv
    refine .inr ⟨p, x, w', cnt', hp, hx, ?_, by rw [← h3 p hp]; exact hlk, hrun, ⟨D, _, hrg, h2, fun q hq => by rw [h3 q hq, KL_same hp hq]⟩, hlt, hgr, hsz, hen⟩
    rcases hF : F p with _ | z
    · have h4 := (h2 p hp).1
      rw [hF] at h4
      have h5 := hat .nil
      rw [Maps.atKey_of_not_has h4] at h5
      cases h5
    · have h5 := ((h2 p hp).2 z hF).2 .nil
      rw [hat .nil] at h5
      injection h5 with h5
      rw [pnV_inj h5]
end Go.Proofs.YtbimfopbilcdgaaDoor
