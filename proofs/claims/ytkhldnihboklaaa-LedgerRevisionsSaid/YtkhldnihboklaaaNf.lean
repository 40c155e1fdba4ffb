/-
  Layer ledger: a map's panes laid into another one.
-/
import Derived.Test.YtkhldnihboklaaaNe
set_option linter.unusedSimpArgs false
set_option linter.unusedVariables false
set_option maxRecDepth 8000
namespace Go.Proofs.Ytkhldnihboklaaa
open Go.RowKit Go.Sort

section
variable {ops : Array Oper} {rest : List Oper} {o : Oper} {a : Act} {Q : Exit → Act → World → Prop} {w : World}
theorem wpList_rangeM (hg : o.guard = none) (m : Operand) (hop : o.op = Op.range 25 m) (b n : Nat) (F : Pl → Option Pn) (hm : a.eval m = .map (some b)) (hown : MapOf w b n F)
    (hK : ∀ w' cnt, RangesOf w' b w.heap.size n F (fun p => (F p).isSome) cnt → cnt ≤ n → w.grownBy w' none → w'.heap.size = w.heap.size + 1 → wpList Try.prog ops Q rest (a.put o.dst (.pointer (some ⟨w.heap.size, 0, none⟩))) w') : wpList Try.prog ops Q (o :: rest) a w := by
  refine wpList_plain hg fun K' hK' => ?_
  obtain ⟨w', cnt, hrun, r1, r2, r3, r4⟩ := hown.range
  unfold Oper.wp
  simp [execOp, hop, hm, hrun, Result.andThen]
  exact hK' _ _ (hK w' cnt r1 r2 r3 r4)
theorem wpList_nextM (hg : o.guard = none) (it : Operand) (hop : o.op = Op.next it false) (b r n : Nat) (F : Pl → Option Pn) (lf : Pl → Bool) (cnt : Nat) (hit : a.eval it = .pointer (some ⟨r, 0, none⟩)) (h : RangesOf w b r n F lf cnt)
    (hDone : cnt = 0 → (∀ p : Pl, p.Ok → lf p = false) → wpList Try.prog ops Q rest (a.put o.dst (.tuple #[.bool false])) w)
    (hMore : ∀ (p : Pl) (x : Pn) (w' : World) (cnt' : Nat), p.Ok → x.Ok → F p = some x → lf p = true → RangesOf w' b r n F (fun q => lf q && !decide (q = p)) cnt' → cnt' < cnt → w.grownBy w' (some r) → w'.heap.size = w.heap.size →
      (Instr.entry (.pointer (some ⟨r, 0, none⟩))).run Try.prog w' = .ok (.tuple #[.agg #[.string p.key, .int .i64 p.s, .int .i64 p.e], .agg #[.bool x.th, .int .u64 (x.rev : Int), .int .u64 (x.t.c : Int), .float .f64 x.t.s, .bool x.t.o, .float .f64 x.t.lo, .float .f64 x.t.hi]]) w' → wpList Try.prog ops Q rest (a.put o.dst (.tuple #[.bool true, .agg #[.string p.key, .int .i64 p.s, .int .i64 p.e], .agg #[.bool x.th, .int .u64 (x.rev : Int), .int .u64 (x.t.c : Int), .float .f64 x.t.s, .bool x.t.o, .float .f64 x.t.lo, .float .f64 x.t.hi]])) w') : wpList Try.prog ops Q (o :: rest) a w := by
  refine wpList_plain hg fun K' hK' => ?_
  unfold Oper.wp
  rcases h.next o.type with ⟨h0, hl, hrun⟩ | ⟨p, x, w', cnt', hp, hx, hF, hlp, hrun, hrg, hlt, hgr, hsz, hen⟩
  · simp [execOp, hop, hit, hrun, Result.andThen]
    exact hK' _ _ (hDone h0 hl)
  · simp [execOp, hop, hit, hrun, Result.andThen]
    exact hK' _ _ (hMore p x w' cnt' hp hx hF hlp hrg hlt hgr hsz hen)
theorem wpList_putM (hg : o.guard = none) (m x v : Operand) (hop : o.op = Op.mapUpdate 25 m x v) (b n : Nat) (F : Pl → Option Pn) (hm : a.eval m = .map (some b)) (hown : MapOf w b n F) (hn : n < maxLen) (p : Pl) (hp : p.Ok) (y : Pn) (hy : y.Ok)
    (hx : a.eval x = .agg #[.string p.key, .int .i64 p.s, .int .i64 p.e]) (hv : a.eval v = .agg #[.bool y.th, .int .u64 (y.rev : Int), .int .u64 (y.t.c : Int), .float .f64 y.t.s, .bool y.t.o, .float .f64 y.t.lo, .float .f64 y.t.hi])
    (hK : ∀ w', MapOf w' b (n + 1) (upd F p y) → w.grownBy w' (some b) → wpList Try.prog ops Q rest (a.put o.dst undef) w') : wpList Try.prog ops Q (o :: rest) a w := by
  refine wpList_plain hg fun K' hK' => ?_
  obtain ⟨w', hrun, r1, r2⟩ := hown.put hn hp hy
  unfold plV pnV at hrun
  unfold Oper.wp
  simp [execOp, hop, hm, hx, hv, hrun, Result.andThen]
  exact hK' _ _ (hK w' r1 r2)
theorem setRow_alloc_old (w : World) (o : Obj) (g : Nat) (cs : Array Value) (hg : g < w.heap.size) : (w.alloc o).setRow g cs = (w.setRow g cs).alloc o := by
  simp only [World.setRow, World.alloc]
  congr 1
  apply Array.ext_getElem?
  intro i
  rw [Array.getElem?_modify, Array.getElem?_push, Array.getElem?_push, Array.getElem?_modify]
  by_cases h : g = i
  · subst h
    have h1 : ¬ g = w.heap.size := by omega
    simp [h1]
  · simp [h]
theorem wpList_store_fresh2 {w0 : World} (hgd : o.guard = none) (ty : TypeId) (x y : Operand) (ho : o.op = .store ty x y)
    (g : Nat) (c c' : Array Value) (t : TypeId) (o2 : Obj) (hx : a.eval x = .pointer (some ⟨g, 0, none⟩)) (hgs : g = w0.heap.size) (hy : a.eval y = .agg c') (hi : (Try.prog.info? ty).map (·.size) = some c'.size) (hcc : c.size = c'.size) (h1 : c'.all (·.oneCell') = true)
    (h : wpList Try.prog ops Q rest (a.put o.dst undef) ((w0.alloc (.cells c' t)).alloc o2)) : wpList Try.prog ops Q (o :: rest) a ((w0.alloc (.cells c t)).alloc o2) := by
  subst hgs
  refine wpList_store_row hgd ty x y ho w0.heap.size c' hx hy t c (row_alloc' (heap_new w0 _) _) hi hcc h1 ?_
  rw [setRow_alloc_old _ _ _ _ (by simp), World.setRow_alloc_new]; exact h
end
theorem MapOf.congr {w : World} {b n : Nat} {F F' : Pl → Option Pn} (h : MapOf w b n F) (hF : ∀ p : Pl, p.Ok → F p = F' p) : MapOf w b n F' := by
  obtain ⟨D, h1, h2⟩ := h
  exact ⟨D, h1, fun p hp => by rw [← hF p hp]; exact h2 p hp⟩
theorem RangesOf.lt {w : World} {b r n cnt : Nat} {F : Pl → Option Pn} {lf : Pl → Bool} (h : RangesOf w b r n F lf cnt) : r < w.heap.size := by obtain ⟨D, left, h1, h2, h3⟩ := h; exact h1.lt
/-- The panes that have come. -/
def gone (G : Pl → Option Pn) (lf : Pl → Bool) : Pl → Option Pn := fun p => if lf p then none else G p
theorem gone_start (F G : Pl → Option Pn) : ov F (gone G (fun p => (G p).isSome)) = F := by
  funext p; unfold ov gone
  rcases h : G p with _ | y <;> simp [h]
theorem gone_step (F G : Pl → Option Pn) (lf : Pl → Bool) (p : Pl) (x : Pn) (hx : G p = some x) : ov F (gone G (fun q => lf q && !decide (q = p))) = upd (ov F (gone G lf)) p x := by
  funext q; unfold ov gone upd
  by_cases h : q = p
  · subst h; simp [hx]
  · simp [h]
theorem gone_end (F G : Pl → Option Pn) (lf : Pl → Bool) (h : ∀ p : Pl, p.Ok → lf p = false) (p : Pl) (hp : p.Ok) : ov F (gone G lf) p = ov F G p := by
  unfold ov gone; rw [h p hp]; rfl
theorem Kept.of_grown0 {S : Nat → Prop} {w w' : World} (h : w.grownBy w' none) : Kept S w w' := ⟨h.os, h.tape, h.output, h.size, fun k hk hs => h.block k hk (fun e => by cases e)⟩
/-- What the rounds of Copy hold. -/
def RCP (W : World) (db sb m1 m2 : Nat) (F G : Pl → Option Pn) (wr : World) : Prop := ∃ (lf : Pl → Bool) (cnt M : Nat), RangesOf wr sb W.heap.size m2 G lf cnt ∧ MapOf wr db M (ov F (gone G lf)) ∧ M + cnt ≤ m1 + m2 ∧ Kept (fun k => k = db) W wr
set_option maxHeartbeats 2000000 in
theorem copy_any (db sb m1 m2 : Nat) (F G : Pl → Option Pn) (hne : db ≠ sb) (hm : m1 + m2 ≤ 1000000) (W : World) (h1 : Hid (MapOf W db m1 F)) (h2 : Hid (MapOf W sb m2 G)) :
    Calls Try.prog 21 #[.map (some db), .map (some sb)] W fun e w' => e = .returned (.tuple #[]) ∧ MapOf w' db (m1 + m2) (ov F G) ∧ Kept (fun k => k = db) W w' := by
  have hdl := h1.out.lt
  have hsl := h2.out.lt
  go_enter Try.func21, Try.ntmps21
  go_wp2_with (first | (at_range; refine wpList_rangeM rfl _ rfl sb m2 G rfl h2.out ?_; intro w0 cnt0 hrg0 hcn0 hg0 hs0) | go_in)
  go_frame
  have HS0 := Lib.hid (show RCP W db sb m1 m2 F G w0 from ⟨_, cnt0, m1, hrg0, by rw [gone_start]; exact h1.out.kept hg0 (by simp), by omega, Kept.of_grown0 hg0⟩)
  clear hrg0 hcn0 hg0 hs0
  go_loopw [] (fun wr => RCP W db sb m1 m2 F G wr) (fun wr => wr.rangeLeft sb W.heap.size)
  case atStart => exact HS0.out
  case round =>
    obtain ⟨lf, cnt, M, hrg, hmo, hle, hk⟩ := hrel
    have HRG := Lib.hid hrg; have HMO := Lib.hid hmo; have HK := Lib.hid hk; have HLE := Lib.hid hle
    clear hrg hmo hk hle
    go_wp2_with (first
      | (at_next; refine wpList_nextM rfl _ rfl sb W.heap.size m2 G lf cnt rfl HRG.out ?_ ?_)
      | go_in)
    · intro hc0 hl0
      have HE := Lib.hid (hl0)
      clear hl0 hc0
      go_wp2
      go_end0
      exact ⟨rfl, (HMO.out.mono (by have := HLE.out; omega)).congr (gone_end F G lf HE.out), HK.out⟩
    · intro p x w1 cnt1 hp hx hGp hlp hrg1 hlt hg1 hs1 hen
      have HP := Lib.hid hp; have HX := Lib.hid hx
      have HST : Hid (ov F (gone G (fun q => lf q && !decide (q = p))) = upd (ov F (gone G lf)) p x) := Lib.hid (gone_step F G lf p x hGp)
      have HB2 := Lib.hid (((Below.refl w1.heap.size w1).alloc (Nat.le_refl _) (.cells #[.string p.key, .int .i64 p.s, .int .i64 p.e] 65)).alloc (by simp) (.cells #[.bool x.th, .int .u64 (x.rev : Int), .int .u64 (x.t.c : Int), .float .f64 x.t.s, .bool x.t.o, .float .f64 x.t.lo, .float .f64 x.t.hi] 67))
      have HM1 : Hid (MapOf w1 db M (ov F (gone G lf))) := Lib.hid (HMO.out.kept hg1 (by intro e; injection e with e; omega))
      have HM2 : Hid (MapOf ((w1.alloc (.cells #[.string p.key, .int .i64 p.s, .int .i64 p.e] 65)).alloc (.cells #[.bool x.th, .int .u64 (x.rev : Int), .int .u64 (x.t.c : Int), .float .f64 x.t.s, .bool x.t.o, .float .f64 x.t.lo, .float .f64 x.t.hi] 67)) db M (ov F (gone G lf))) := Lib.hid (HM1.out.below HB2.out HM1.out.lt)
      have HG1 := Lib.hid hg1; have HR1 := Lib.hid hrg1; have HS1 := Lib.hid hs1; have HLT := Lib.hid hlt
      clear hp hx hGp hlp hrg1 hlt hg1 hs1
      go_wp2_with (first
        | (refine wpList_store_fresh2 rfl 65 (.tmp 4) (.tmp 11) rfl _ _ _ _ _ rfl (by simp) rfl iPl rfl (onePl p) ?_)
        | (refine wpList_store_fresh rfl 67 (.tmp 5) (.tmp 12) rfl _ _ _ _ rfl (by simp) rfl iPn rfl (onePn x) ?_)
        | (at_mapUpdate; refine wpList_putM rfl _ _ _ rfl db M _ rfl HM2.out (by have := HLE.out; unfold maxLen; omega) p HP.out x HX.out rfl rfl ?_; intro w4 hm4 hg4; have HM4 := Lib.hid hm4; have HG4 := Lib.hid hg4; clear hm4 hg4))
      have HR4 : Hid (RangesOf w4 sb W.heap.size m2 G (fun q => lf q && !decide (q = p)) cnt1) := Lib.hid (by
        have h2 := HR1.out
        have h3 := h2.lt
        have h4 := h2.map.lt
        exact (h2.same (w' := w4) (by rw [HG4.out.block sb (Nat.lt_of_lt_of_le h4 HB2.out.size) (by intro e; injection e with e; exact hne e.symm)]; exact HB2.out.block sb h4) (by rw [HG4.out.block _ (Nat.lt_of_lt_of_le h3 HB2.out.size) (by intro e; injection e with e; omega)]; exact HB2.out.block _ h3)))
      go_roundw
      case rel =>
        refine ⟨_, _, _, _, _, _, _, _, _, _, ⟨_, cnt1, M + 1, HR4.out, by rw [HST.out]; exact HM4.out, by have := HLE.out; have := HLT.out; omega, ?_⟩, rfl⟩
        have k1 : Kept (fun k => k = db) W w1 := HK.out.trans' (S' := fun k => k = W.heap.size) ⟨HG1.out.os, HG1.out.tape, HG1.out.output, HG1.out.size, fun k hk hs => HG1.out.block k hk (fun e => hs (by injection e))⟩ (fun i hi => .inr (by omega))
        exact (k1.trans (Kept.of_below HB2.out)).trans (Kept.of_grown HG4.out)
      case measure => rw [HR4.out.left_eq, HRG.out.left_eq]; exact HLT.out
end Go.Proofs.Ytkhldnihboklaaa
