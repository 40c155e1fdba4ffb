/-
  Layer ledger: a map's panes laid into another one.
-/
import Derived.Test.YtbimfopbilcdgaaDoorNeK
set_option linter.unusedSimpArgs false
set_option linter.unusedVariables false
set_option maxRecDepth 8000
namespace Go.Proofs.YtbimfopbilcdgaaDoor
open Go.RowKit Go.Sort

section
variable {ops : Array Oper} {rest : List Oper} {o : Oper} {a : Act} {Q : Exit → Act → World → Prop} {w : World}
theorem wpList_rangeM (hg : o.guard = none) (m : Operand) (hop : o.op = Op.range 30 m) (b n : Nat) (F : Pl → Option Pn) (hm : a.eval m = .map (some b)) (hown : MapOf w b n F)
    (hK : ∀ w' cnt, RangesOf w' b w.heap.size n F (fun p => (F p).isSome) cnt → cnt ≤ n → w.grownBy w' none → w'.heap.size = w.heap.size + 1 → wpList Tryd.prog ops Q rest (a.put o.dst (.pointer (some ⟨w.heap.size, 0, none⟩))) w') : wpList Tryd.prog ops Q (o :: rest) a w := by
  refine wpList_plain hg fun K' hK' => ?_
  obtain ⟨w', cnt, hrun, r1, r2, r3, r4⟩ := hown.range
  unfold Oper.wp
  simp [execOp, hop, hm, hrun, Result.andThen]
  exact hK' _ _ (hK w' cnt r1 r2 r3 r4)
theorem wpList_nextM (hg : o.guard = none) (it : Operand) (hop : o.op = Op.next it false) (b r n : Nat) (F : Pl → Option Pn) (lf : Pl → Bool) (cnt : Nat) (hit : a.eval it = .pointer (some ⟨r, 0, none⟩)) (h : RangesOf w b r n F lf cnt)
    (hDone : cnt = 0 → (∀ p : Pl, p.Ok → lf p = false) → wpList Tryd.prog ops Q rest (a.put o.dst (.tuple #[.bool false])) w)
    (hMore : ∀ (p : Pl) (x : Pn) (w' : World) (cnt' : Nat), p.Ok → x.Ok → F p = some x → lf p = true → RangesOf w' b r n F (fun q => lf q && !decide (q = p)) cnt' → cnt' < cnt → w.grownBy w' (some r) → w'.heap.size = w.heap.size →
      (Instr.entry (.pointer (some ⟨r, 0, none⟩))).run Tryd.prog w' = .ok (.tuple #[.agg #[.string p.key, .int .i64 p.s, .int .i64 p.e], .agg #[.bool x.th, .int .u64 (x.rev : Int), .int .u64 (x.t.c : Int), .float .f64 x.t.s, .bool x.t.o, .float .f64 x.t.lo, .float .f64 x.t.hi]]) w' → wpList Tryd.prog ops Q rest (a.put o.dst (.tuple #[.bool true, .agg #[.string p.key, .int .i64 p.s, .int .i64 p.e], .agg #[.bool x.th, .int .u64 (x.rev : Int), .int .u64 (x.t.c : Int), .float .f64 x.t.s, .bool x.t.o, .float .f64 x.t.lo, .float .f64 x.t.hi]])) w') : wpList Tryd.prog ops Q (o :: rest) a w := by
  refine wpList_plain hg fun K' hK' => ?_
  unfold Oper.wp
  rcases h.next o.type with ⟨h0, hl, hrun⟩ | ⟨p, x, w', cnt', hp, hx, hF, hlp, hrun, hrg, hlt, hgr, hsz, hen⟩
  · simp [execOp, hop, hit, hrun, Result.andThen]
    exact hK' _ _ (hDone h0 hl)
  · simp [execOp, hop, hit, hrun, Result.andThen]
    exact hK' _ _ (hMore p x w' cnt' hp hx hF hlp hrg hlt hgr hsz hen)
theorem wpList_putM (hg : o.guard = none) (m x v : Operand) (hop : o.op = Op.mapUpdate 30 m x v) (b n : Nat) (F : Pl → Option Pn) (hm : a.eval m = .map (some b)) (hown : MapOf w b n F) (hn : n < maxLen) (p : Pl) (hp : p.Ok) (y : Pn) (hy : y.Ok)
    (hx : a.eval x = .agg #[.string p.key, .int .i64 p.s, .int .i64 p.e]) (hv : a.eval v = .agg #[.bool y.th, .int .u64 (y.rev : Int), .int .u64 (y.t.c : Int), .float .f64 y.t.s, .bool y.t.o, .float .f64 y.t.lo, .float .f64 y.t.hi])
    (hK : ∀ w', MapOf w' b (n + 1) (upd F p y) → w.grownBy w' (some b) → wpList Tryd.prog ops Q rest (a.put o.dst undef) w') : wpList Tryd.prog ops Q (o :: rest) a w := by
  refine wpList_plain hg fun K' hK' => ?_
  obtain ⟨w', hrun, r1, r2⟩ := hown.put hn hp hy
  unfold plV pnV at hrun
  unfold Oper.wp
  simp [execOp, hop, hm, hx, hv, hrun, Result.andThen]
  exact hK' _ _ (hK w' r1 r2)
theorem setRow_alloc_old (w : World) (o : Obj) (g : Nat) (cs : Array Value) (hg : g < w.heap.size) : (w.alloc o).setRow g cs = (w.setRow g cs).alloc o := by
  simp only [World.setRow, World.alloc]
  congr 1
  apply Array.ext_getElem?
  intro i
  rw [Array.getElem?_modify, Array.getElem?_push, Array.getElem?_push, Array.getElem?_modify]
  by_cases h : g = i
  · subst h
    have h1 : ¬ g = w.heap.size := by omega
    simp [h1]
  · simp [h]
theorem wpList_store_fresh2 {w0 : World} (hgd : o.guard = none) (ty : TypeId) (x y : Operand) (ho : o.op = .store ty x y)
    (g : Nat) (c c' : Array Value) (t : TypeId) (o2 : Obj) (hx : a.eval x = .pointer (some ⟨g, 0, none⟩)) (hgs : g = w0.heap.size) (hy : a.eval y = .agg c') (hi : (Tryd.prog.info? ty).map (·.size) = some c'.size) (hcc : c.size = c'.size) (h1 : c'.all (·.oneCell') = true)
    (h : wpList Tryd.prog ops Q rest (a.put o.dst undef) ((w0.alloc (.cells c' t)).alloc o2)) : wpList Tryd.prog ops Q (o :: rest) a ((w0.alloc (.cells c t)).alloc o2) := by
  subst hgs
  refine wpList_store_row hgd ty x y ho w0.heap.size c' hx hy t c (row_alloc' (heap_new w0 _) _) hi hcc h1 ?_
  rw [setRow_alloc_old _ _ _ _ (by simp), World.setRow_alloc_new]; exact h
end
theorem MapOf.congr {w : World} {b n : Nat} {F F' : Pl → Option Pn} (h : MapOf w b n F) (hF : ∀ p : Pl, p.Ok → F p = F' p) : MapOf w b n F' := by
  obtain ⟨D, h1, h2⟩ := h
  exact ⟨D, h1, fun p hp => by rw [← hF p hp]; exact h2 p hp⟩
theorem RangesOf.lt {w : World} {b r n cnt : Nat} {F : Pl → Option Pn} {lf : Pl → Bool} (h : RangesOf w b r n F lf cnt) : r < w.heap.size := by obtain ⟨D, left, h1, h2, h3⟩ := h; exact h1.lt
/-- The panes that have come. -/
def gone (G : Pl → Option Pn) (lf : Pl → Bool) : Pl → Option Pn := fun p => if lf p then none else G p
theorem gone_start (F G : Pl → Option Pn) : ov F (gone G (fun p => (G p).isSome)) = F := by
  funext p; unfold ov gone
  rcases h : G p with _ | y <;> simp [h]
theorem gone_step (F G : Pl → Option Pn) (lf : Pl → Bool) (p : Pl) (x : Pn) (hx : G p = some x) : ov F (gone G (fun q => lf q && !decide (q = p))) = upd (ov F (gone G lf)) p x := by
  funext q; unfold ov gone upd
  by_cases h : q = p
  · subst h; simp [hx]
  · simp [h]
theorem gone_end (F G : Pl → Option Pn) (lf : Pl → Bool) (h : ∀ p : Pl, p.Ok → lf p = false) (p : Pl) (hp : p.Ok) : ov F (gone G lf) p = ov F G p := by
  unfold ov gone; rw [h p hp]; rfl
theorem Kept.of_grown0 {S : Nat → Prop} {w w' : World} (h : w.grownBy w' none) : Kept S w w' := ⟨h.os, h.tape, h.output, h.size, fun k hk hs => h.block k hk (fun e => by cases e)⟩
/-- What the rounds of Copy hold. -/
def RCP (W : World) (db sb m1 m2 : Nat) (F G : Pl → Option Pn) (wr : World) : Prop := ∃ (lf : Pl → Bool) (cnt M : Nat), RangesOf wr sb W.heap.size m2 G lf cnt ∧ MapOf wr db M (ov F (gone G lf)) ∧ M + cnt ≤ m1 + m2 ∧ Kept (fun k => k = db) W wr
set_option maxHeartbeats 2000000 in
theorem copy_any (db sb m1 m2 : Nat) (F G : Pl → Option Pn) (hne : db ≠ sb) (hm : m1 + m2 ≤ 1000000) (W : World) (h1 : Hid (MapOf W db m1 F)) (h2 : Hid (MapOf W sb m2 G)) :
    Calls Tryd.prog 19 #[.map (some db), .map (some sb)] W fun e w' => e = .returned (.tuple #[]) ∧ MapOf w' db (m1 + m2) (ov F G) ∧ Kept (fun k => k = db) W w' := by
  have hdl := h1.out.lt
  have hsl := h2.out.lt
  go_enter Tryd.func19, Tryd.ntmps19
  go_wp2_with (first | (at_range; refine wpList_rangeM rfl _ rfl sb m2 G rfl h2.out ?_; intro w0 cnt0 hrg0 hcn0 hg0 hs0) | go_in)
  go_frame
  have HS0 := Lib.hid (show RCP W db sb m1 m2 F G w0 from ⟨_, cnt0, m1, hrg0, by rw [gone_start]; exact h1.out.kept hg0 (by simp), by omega, Kept.of_grown0 hg0⟩)
  clear hrg0 hcn0 hg0 hs0
  go_loopw [] (fun wr => RCP W db sb m1 m2 F G wr) (fun wr => wr.rangeLeft sb W.heap.size)
  case atStart => exact HS0.out
  case round =>
    obtain ⟨lf, cnt, M, hrg, hmo, hle, hk⟩ := hrel
    have HRG := Lib.hid hrg; have HMO := Lib.hid hmo; have HK := Lib.hid hk; have HLE := Lib.hid hle
    clear hrg hmo hk hle
    go_wp2_with (first
      | (at_next; refine wpList_nextM rfl _ rfl sb W.heap.size m2 G lf cnt rfl HRG.out ?_ ?_)
      | go_in)
    · intro hc0 hl0
      have HE := Lib.hid (hl0)
      clear hl0 hc0
      go_wp2
      go_end0
      exact ⟨rfl, (HMO.out.mono (by have := HLE.out; omega)).congr (gone_end F G lf HE.out), HK.out⟩
    · intro p x w1 cnt1 hp hx hGp hlp hrg1 hlt hg1 hs1 hen
      have HP := Lib.hid hp; have HX := Lib.hid hx
      have HST : Hid (ov F (gone G (fun q => lf q && !decide (q = p))) = upd (ov F (gone G lf)) p x) := Lib.hid (gone_step F G lf p x hGp)
      have HB2 := Lib.hid (((Below.refl w1.heap.size w1).alloc (Nat.le_refl _) (.cells #[.string p.key, .int .i64 p.s, .int .i64 p.e] 62)).alloc (by simp) (.cells #[.bool x.th, .int .u64 (x.rev : Int), .int .u64 (x.t.c : Int), .float .f64 x.t.s, .bool x.t.o, .float .f64 x.t.lo, .float .f64 x.t.hi] 64))
      have HM1 : Hid (MapOf w1 db M (ov F (gone G lf))) := Lib.hid (HMO.out.kept hg1 (by intro e; injection e with e; omega))
      have HM2 : Hid (MapOf ((w1.alloc (.cells #[.string p.key, .int .i64 p.s, .int .i64 p.e] 62)).alloc (.cells #[.bool x.th, .int .u64 (x.rev : Int), .int .u64 (x.t.c : Int), .float .f64 x.t.s, .bool x.t.o, .float .f64 x.t.lo, .float .f64 x.t.hi] 64)) db M (ov F (gone G lf))) := Lib.hid (HM1.out.below HB2.out HM1.out.lt)
      have HG1 := Lib.hid hg1; have HR1 := Lib.hid hrg1; have HS1 := Lib.hid hs1; have HLT := Lib.hid hlt
      clear hp hx hGp hlp hrg1 hlt hg1 hs1
      go_wp2_with (first
        | (refine wpList_store_fresh2 rfl 62 (.tmp 4) (.tmp 11) rfl _ _ _ _ _ rfl (by simp) rfl iPl rfl (onePl p) ?_)
        | (refine wpList_store_fresh rfl 64 (.tmp 5) (.tmp 12) rfl _ _ _ _ rfl (by simp) rfl iPn rfl (onePn x) ?_)
        | (at_mapUpdate; refine wpList_putM rfl _ _ _ rfl db M _ rfl HM2.out (by have := HLE.out; unfold maxLen; omega) p HP.out x HX.out rfl rfl ?_; intro w4 hm4 hg4; have HM4 := Lib.hid hm4; have HG4 := Lib.hid hg4; clear hm4 hg4))
      have HR4 : Hid (RangesOf w4 sb W.heap.size m2 G (fun q => lf q && !decide (q = p)) cnt1) := Lib.hid (by
        have h2 := HR1.out
        have h3 := h2.lt
        have h4 := h2.map.lt
        exact (h2.same (w' := w4) (by rw [HG4.out.block sb (Nat.lt_of_lt_of_le h4 HB2.out.size) (by intro e; injection e with e; exact hne e.symm)]; exact HB2.out.block sb h4) (by rw [HG4.out.block _ (Nat.lt_of_lt_of_le h3 HB2.out.size) (by intro e; injection e with e; omega)]; exact HB2.out.block _ h3)))
      go_roundw
      case rel =>
        refine ⟨_, _, _, _, _, _, _, _, _, _, ⟨_, cnt1, M + 1, HR4.out, by rw [HST.out]; exact HM4.out, by have := HLE.out; have := HLT.out; omega, ?_⟩, rfl⟩
        have k1 : Kept (fun k => k = db) W w1 := HK.out.trans' (S' := fun k => k = W.heap.size) ⟨HG1.out.os, HG1.out.tape, HG1.out.output, HG1.out.size, fun k hk hs => HG1.out.block k hk (fun e => hs (by injection e))⟩ (fun i hi => .inr (by omega))
        exact (k1.trans (Kept.of_below HB2.out)).trans (Kept.of_grown HG4.out)
      case measure => rw [HR4.out.left_eq, HRG.out.left_eq]; exact HLT.out
end Go.Proofs.YtbimfopbilcdgaaDoor

set_option linter.unusedSimpArgs false
set_option linter.unusedVariables false
set_option maxRecDepth 8000
namespace Go.Proofs.YtbimfopbilcdgaaDoor
open Go.RowKit Go.Sort

/-- A ledger that has some changes; all of it lies in the blocks S. -/
structure Led (S : Nat → Prop) (w : World) (g : Nat) (l : List Chg) (A : Option Addr) (n cap : Nat) (mv : Value) (M : Nat) : Prop where
  row : w.heap[g]? = some (.cells #[.slice A n cap, mv] 32 (0, 0))
  own : OwnCh w 0 A n cap l
  nc : n ≤ cap
  cm : cap ≤ maxLen
  nl : A = none → cap = 0
  sA : ∀ g' off, A = some ⟨g', off, none⟩ → S g'
  map : MapV w mv M (lastF l)
  sm : ∀ b, mv = .map (some b) → S b
  sg : S g
  lt : ∀ k, S k → k < w.heap.size
  ml : M ≤ l.length
  val : Val l
  ok : ∀ c ∈ l, c.Ok
def LedE (S : Nat → Prop) (w : World) (g : Nat) (l : List Chg) : Prop := ∃ A n cap mv M, Led S w g l A n cap mv M
theorem MapV.same {w w' : World} {mv : Value} {M : Nat} {F : Pl → Option Pn} (h : MapV w mv M F) (hk : ∀ b, mv = .map (some b) → w'.heap[b]? = w.heap[b]?) : MapV w' mv M F := by
  rcases h with h | ⟨b, rfl, hm⟩
  · exact .inl h
  · exact .inr ⟨b, rfl, hm.same (hk b rfl)⟩
theorem Led.same {S : Nat → Prop} {w w' : World} {g : Nat} {l : List Chg} {A : Option Addr} {n cap : Nat} {mv : Value} {M : Nat} (h : Led S w g l A n cap mv M) (hk : ∀ k, S k → w'.heap[k]? = w.heap[k]?) (hs : w.heap.size ≤ w'.heap.size) : Led S w' g l A n cap mv M :=
  ⟨(hk g h.sg).trans h.row, h.own.same (fun g' off e => hk g' (h.sA g' off e)), h.nc, h.cm, h.nl, h.sA, h.map.same (fun b e => hk b (h.sm b e)), h.sm, h.sg, fun k hS => Nat.lt_of_lt_of_le (h.lt k hS) hs, h.ml, h.val, h.ok⟩
theorem LedE.same {S : Nat → Prop} {w w' : World} {g : Nat} {l : List Chg} (h : LedE S w g l) (hk : ∀ k, S k → w'.heap[k]? = w.heap[k]?) (hs : w.heap.size ≤ w'.heap.size) : LedE S w' g l := by
  obtain ⟨A, n, cap, mv, M, h⟩ := h
  exact ⟨A, n, cap, mv, M, h.same hk hs⟩
theorem LedE.below {S : Nat → Prop} {w w' : World} {g : Nat} {l : List Chg} (h : LedE S w g l) (hb : Below w.heap.size w w') : LedE S w' g l := by
  obtain ⟨A, n, cap, mv, M, h⟩ := h
  exact ⟨A, n, cap, mv, M, h.same (fun k hS => hb.block k (h.lt k hS)) hb.size⟩
theorem LedE.lt {S : Nat → Prop} {w : World} {g : Nat} {l : List Chg} (h : LedE S w g l) (k : Nat) (hk : S k) : k < w.heap.size := by obtain ⟨A, n, cap, mv, M, h⟩ := h; exact h.lt k hk
theorem led_new (w : World) (cs : Array Value) (hc : cs = #[.slice none 0 0, .map none]) : LedE (fun k => k = w.heap.size) (w.alloc (.cells cs 32)) w.heap.size [] := by
  subst hc
  exact ⟨none, 0, 0, .map none, 0, heap_new w _, OwnCh.nil _ _, Nat.le_refl _, Nat.zero_le _, fun _ => rfl, fun _ _ e => (by cases e), .inl ⟨rfl, rfl⟩, fun b e => (by cases e), rfl, fun k hk => by subst hk; simp, Nat.le_refl _, rfl, fun c hc => (by cases hc)⟩
theorem OwnCh.notRow {w : World} {B n cap g : Nat} {A : Option Addr} {l : List Chg} (h : OwnCh w B A n cap l) {cs : Array Value} {fr : Nat × Nat} (hg : w.heap[g]? = some (.cells cs 32 fr)) : some g ≠ (Value.slice A n cap).ownBlock := by
  rcases h.2 with ⟨e0, -⟩ | ⟨g', cap', cur, e0, -, h2, -⟩
  · rw [e0]; intro e; cases e
  · rw [e0]; intro e
    have e : g = g' := by injection e
    subst e
    rw [hg] at h2
    injection h2 with h2; injection h2 with h2 h3
    exact absurd h3 (by decide)
theorem OwnCh.notMap {w : World} {B n cap b m : Nat} {A : Option Addr} {l : List Chg} {F : Pl → Option Pn} (h : OwnCh w B A n cap l) (hb : MapOf w b m F) : some b ≠ (Value.slice A n cap).ownBlock := by
  obtain ⟨D, ⟨es, clock, h1, -⟩, -⟩ := hb
  rcases h.2 with ⟨e0, -⟩ | ⟨g', cap', cur, e0, -, h2, -⟩
  · rw [e0]; intro e; cases e
  · rw [e0]; intro e
    have e : b = g' := by injection e
    subst e
    rw [h1] at h2
    injection h2 with h2; cases h2
theorem OwnCh.addr {w : World} {B n cap g : Nat} {A : Option Addr} {l : List Chg} (h : OwnCh w B A n cap l) (hg : some g ≠ (Value.slice A n cap).ownBlock) : ∀ g' off, A = some ⟨g', off, none⟩ → g' ≠ g := by
  intro g' off e e2
  subst e; subst e2
  exact hg rfl
theorem row_notMap {w : World} {g b m : Nat} {cs : Array Value} {T : TypeId} {fr : Nat × Nat} {F : Pl → Option Pn} (hg : w.heap[g]? = some (.cells cs T fr)) (hb : MapOf w b m F) : g ≠ b := by
  obtain ⟨D, ⟨es, clock, h1, -⟩, -⟩ := hb
  intro e
  subst e
  rw [hg] at h1; injection h1 with h1; cases h1
theorem OwnCh.keptM {w w' : World} {B n cap b m : Nat} {A : Option Addr} {l : List Chg} {F : Pl → Option Pn} (h : OwnCh w B A n cap l) (hb : MapOf w b m F) (hk : Kept (fun k => k = b) w w') : OwnCh w' B A n cap l :=
  h.same (fun g' off e => hk.block g' (h.lt g' off e).1 (fun e2 => h.notMap hb (by subst e; rw [e2]; rfl)))
theorem grown_or {w w' : World} {row : Option Nat} (h : w.grownBy w' row ∨ w' = w) : w'.os = w.os ∧ w'.tape = w.tape ∧ w'.output = w.output ∧ w.heap.size ≤ w'.heap.size ∧ ∀ k, k < w.heap.size → some k ≠ row → w'.heap[k]? = w.heap[k]? := by
  rcases h with h | rfl
  · exact ⟨h.os, h.tape, h.output, h.size, h.block⟩
  · exact ⟨rfl, rfl, rfl, Nat.le_refl _, fun _ _ _ => rfl⟩
/-- What stands when the map is there, ahead of Copy. -/
structure Pre (S : Nat → Prop) (W : World) (g : Nat) (l0 more : List Chg) (A : Option Addr) (nA capA : Nat) (A1 : Option Addr) (n cap1 : Nat) (db M b m : Nat) (G : Pl → Option Pn) (w : World) : Prop where
  row : w.heap[g]? = some (.cells #[.slice A nA capA, .map (some db)] 32 (0, 0))
  own : OwnCh w 0 A nA capA l0
  o1 : OwnCh w W.heap.size A1 n cap1 more
  mp : MapOf w db M (lastF l0)
  mg : MapOf w b m G
  ne : db ≠ b
  kept : Kept S W w
  hdb : S db ∨ W.heap.size ≤ db
  ml : M ≤ l0.length
  mm : m ≤ more.length
/-- .. and behind it. -/
structure Aft (S : Nat → Prop) (W : World) (g : Nat) (l0 more : List Chg) (A : Option Addr) (nA capA : Nat) (A1 : Option Addr) (n cap1 : Nat) (db M : Nat) (w : World) : Prop where
  row : w.heap[g]? = some (.cells #[.slice A nA capA, .map (some db)] 32 (0, 0))
  own : OwnCh w 0 A nA capA l0
  o1 : OwnCh w W.heap.size A1 n cap1 more
  mp : MapOf w db M (lastF (l0 ++ more))
  kept : Kept S W w
  hdb : S db ∨ W.heap.size ≤ db
  ml : M ≤ (l0 ++ more).length
theorem Pre.aft {S : Nat → Prop} {W : World} {g : Nat} {l0 more : List Chg} {A : Option Addr} {nA capA : Nat} {A1 : Option Addr} {n cap1 db M b m : Nat} {G : Pl → Option Pn} {w w' : World} (h : Pre S W g l0 more A nA capA A1 n cap1 db M b m G w)
    (hm : MapOf w' db (M + m) (ov (lastF l0) G)) (hk : Kept (fun k => k = db) w w') (hov : ov (lastF l0) G = lastF (l0 ++ more)) : Aft S W g l0 more A nA capA A1 n cap1 db (M + m) w' :=
  ⟨hk.heap h.row (row_notMap h.row h.mp), h.own.keptM h.mp hk, h.o1.keptM h.mp hk, hov ▸ hm, h.kept.trans' hk (fun i hi => by rw [hi]; exact h.hdb), h.hdb, by rw [List.length_append]; have := h.ml; have := h.mm; omega⟩
/-- .. and behind append. -/
structure Fin5 (S : Nat → Prop) (W : World) (g : Nat) (l0 more : List Chg) (A5 : Option Addr) (n5 cap5 : Nat) (A : Option Addr) (nA capA : Nat) (db M : Nat) (w : World) : Prop where
  row : w.heap[g]? = some (.cells #[.slice A nA capA, .map (some db)] 32 (0, 0))
  own : OwnCh w 0 A5 n5 cap5 (l0 ++ more)
  mp : MapOf w db M (lastF (l0 ++ more))
  kept : Kept S W w
  hdb : S db ∨ W.heap.size ≤ db
  ml : M ≤ (l0 ++ more).length
  nc : n5 ≤ cap5
  cm : cap5 ≤ maxLen
  nl : A5 = none → cap5 = 0
  sA : ∀ g' off, A5 = some ⟨g', off, none⟩ → S g' ∨ W.heap.size ≤ g'
theorem Aft.fin {S : Nat → Prop} {W : World} {g : Nat} {l0 more : List Chg} {A : Option Addr} {nA capA : Nat} {A1 : Option Addr} {n cap1 db M : Nat} {w w' : World} (h : Aft S W g l0 more A nA capA A1 n cap1 db M w) (hsA : ∀ g' off, A = some ⟨g', off, none⟩ → S g')
    {A5 : Option Addr} {n5 cap5 : Nat} (ho : OwnCh w' 0 A5 n5 cap5 (l0 ++ more)) (h1 : n5 ≤ cap5) (h2 : cap5 ≤ maxLen) (h3 : A5 = none → cap5 = 0) (hg : w.grownBy w' (Value.slice A nA capA).ownBlock ∨ w' = w) (hA : A5 = A ∨ ∃ g', A5 = some ⟨g', 0, none⟩ ∧ w.heap.size ≤ g') : Fin5 S W g l0 more A5 n5 cap5 A nA capA db M w' := by
  obtain ⟨e1, e2, e3, e4, e5⟩ := grown_or hg
  have hgl := (Array.getElem?_eq_some_iff.1 h.row).1
  refine ⟨(e5 g hgl (h.own.notRow h.row)).trans h.row, ho, h.mp.same (e5 db h.mp.lt (h.own.notMap h.mp)), ?_, h.hdb, h.ml, h1, h2, h3, ?_⟩
  · refine h.kept.trans' (S' := fun k => some k = (Value.slice A nA capA).ownBlock) ⟨e1, e2, e3, e4, fun k hk hs => e5 k hk hs⟩ (fun i hi => ?_)
    rcases ch_roaddr h.own with rfl | ⟨g', rfl⟩
    · cases hi
    · have : i = g' := by injection hi
      subst this; exact .inl (hsA _ _ rfl)
  · intro g' off e
    rcases hA with rfl | ⟨g2, e2, h5⟩
    · exact .inl (hsA _ _ e)
    · rw [e2] at e; injection e with e; injection e with e _; subst e
      exact .inr (Nat.le_trans h.kept.size h5)
theorem Fin5.led {S : Nat → Prop} {W : World} {g : Nat} {l0 more : List Chg} {A5 : Option Addr} {n5 cap5 : Nat} {A : Option Addr} {nA capA db M : Nat} {w : World} (h : Fin5 S W g l0 more A5 n5 cap5 A nA capA db M w) (hsg : S g) (hlt : ∀ k, S k → k < W.heap.size) (hv : Val (l0 ++ more)) (hok : ∀ c ∈ l0 ++ more, c.Ok) :
    Kept S W (w.setCell ⟨g, 0, none⟩ (.slice A5 n5 cap5)) ∧ LedE (fun k => S k ∨ (W.heap.size ≤ k ∧ k < (w.setCell ⟨g, 0, none⟩ (.slice A5 n5 cap5)).heap.size)) (w.setCell ⟨g, 0, none⟩ (.slice A5 n5 cap5)) g (l0 ++ more) := by
  have hsz : (w.setCell ⟨g, 0, none⟩ (.slice A5 n5 cap5)).heap.size = w.heap.size := by simp [World.setCell]
  refine ⟨h.kept.setCell _ _ (.inl hsg), A5, n5, cap5, .map (some db), M, ?_⟩
  refine ⟨heap_setCell_same w g 0 _ _ _ h.row, h.own.same (fun g' off e => Below.heap_setCell _ _ _ _ (h.own.addr (h.own.notRow h.row) g' off e)), h.nc, h.cm, h.nl, ?_, .inr ⟨db, rfl, h.mp.same (Below.heap_setCell _ _ _ _ (Ne.symm (row_notMap h.row h.mp)))⟩, ?_, .inl hsg, ?_, h.ml, hv, hok⟩
  · intro g' off e
    rcases h.sA g' off e with h1 | h1
    · exact .inl h1
    · exact .inr ⟨h1, by rw [hsz]; exact (h.own.lt g' off e).1⟩
  · intro b e
    injection e with e; injection e with e
    subst e
    rcases h.hdb with h1 | h1
    · exact .inl h1
    · exact .inr ⟨h1, by rw [hsz]; exact h.mp.lt⟩
  · intro k hk
    rcases hk with h1 | ⟨h1, h2⟩
    · rw [hsz]; exact Nat.lt_of_lt_of_le (hlt k h1) h.kept.size
    · exact h2
/-- What Add ends with. -/
def AddEnd (S : Nat → Prop) (W : World) (g : Nat) (l0 more : List Chg) (e : Ending) (w' : World) : Prop := Kept S W w' ∧ ((e = .returned (.int .i64 7) ∧ accB l0 more = false ∧ LedE S w' g l0) ∨ (e = .returned (.int .i64 0) ∧ accB l0 more = true ∧ LedE (fun k => S k ∨ (W.heap.size ≤ k ∧ k < w'.heap.size)) w' g (l0 ++ more)))
set_option maxHeartbeats 4000000 in
theorem add_any {S : Nat → Prop} (g : Nat) (l0 : List Chg) (a : Option Addr) (n c : Nat) (more : List Chg) (hn : n = more.length) (hlen : l0.length + n ≤ 900) (hs : SlC a n c) (hok : ∀ x ∈ more, x.Ok) (W : World) (H : Hid (ChAt W a more)) (hL : LedE S W g l0) :
    Calls Tryd.prog 7 #[.pointer (some ⟨g, 0, none⟩), .slice a n c] W (AddEnd S W g l0 more) := by
  obtain ⟨A, nA, capA, mv, M, hL⟩ := hL
  have HL := Lib.hid hL
  have HOW := Lib.hid (ownKeys_any a n c more hn (by omega) hs (fun x hx => (hok x hx).kb) W H)
  have HN := Lib.hid hn; have HOK := Lib.hid hok; have HLEN := Lib.hid hlen
  have hmm := @run_makeMap Tryd.prog
  clear hL hn hok hs hlen
  go_enter Tryd.func7, Tryd.ntmps7
  go_upto_region 4 with (go_at_call 17; refine HOW.out.mono ?_; rintro e w1 ⟨A1, cap1, rfl, ho1, hc1, hc2, hc3, hb1⟩; have HO1 := Lib.hid ho1; have HB1 := Lib.hid hb1; have HC3 := Lib.hid hc3; clear ho1 hb1 hc3)
  have HL1 : Hid (Led S w1 g l0 A nA capA mv M) := Lib.hid (HL.out.same (fun k hS => HB1.out.block k (HL.out.lt k hS)) HB1.out.size)
  have hch := changed_any g mv M l0 A1 n cap1 more HN.out (by have := HLEN.out; omega) (by have := HLEN.out; omega) HL.out.val HL.out.ok HOK.out w1 (Lib.hid HO1.out.at') (HL1.out.lt g HL1.out.sg) (cell_of_row w1 g 1 _ _ _ HL1.out.row) HL1.out.map (fun b e => HL1.out.lt b (HL1.out.sm b e))
  rcases hacc : accB l0 more with _ | _
  · have HCH : Hid (Calls Tryd.prog 18 #[.pointer (some ⟨g, 0, none⟩), .slice A1 n cap1] w1 fun e w' => e = .returned (.tuple #[.map none, .bool false]) ∧ Below w1.heap.size w1 w') := Lib.hid (hch.mono (by
      rintro e w' ⟨hb, ⟨rfl, -⟩ | ⟨b, m, G, -, h, -⟩⟩
      · exact ⟨rfl, hb⟩
      · rw [hacc] at h; cases h))
    clear hch
    have HAC := Lib.hid hacc
    clear hacc hmm
    go_wp2_with (go_at_call 18; refine HCH.out.mono ?_; rintro e w2 ⟨rfl, hb2⟩; have HB2 := Lib.hid hb2; clear hb2)
    go_ret
    exact ⟨Kept.of_below (bto HB1.out HB2.out), .inl ⟨rfl, HAC.out, _, _, _, _, _, HL1.out.same (fun k hS => HB2.out.block k (HL1.out.lt k hS)) HB2.out.size⟩⟩
  · have HCH : Hid (Calls Tryd.prog 18 #[.pointer (some ⟨g, 0, none⟩), .slice A1 n cap1] w1 fun e w' => ∃ (b m : Nat) (G : Pl → Option Pn), e = .returned (.tuple #[.map (some b), .bool true]) ∧ w1.heap.size ≤ b ∧ m ≤ more.length ∧ MapOf w' b m G ∧ ov (lastF l0) G = lastF (l0 ++ more) ∧ Below w1.heap.size w1 w') := Lib.hid (hch.mono (by
      rintro e w' ⟨hb, ⟨rfl, h⟩ | ⟨b, m, G, rfl, h, h1, h2, h3, h4⟩⟩
      · rw [hacc] at h; cases h
      · exact ⟨b, m, G, rfl, h1, h2, h3, h4, hb⟩))
    clear hch
    have HAC := Lib.hid hacc
    clear hacc
    go_upto_region 5 with (go_at_call 18; refine HCH.out.mono ?_; rintro e w2 ⟨b, m, G, rfl, hbb, hml, hmo, hov, hb2⟩; have HB2 := Lib.hid hb2; have HBB := Lib.hid hbb; have HML := Lib.hid hml; have HMO := Lib.hid hmo; have HOV := Lib.hid hov; clear hb2 hbb hml hmo hov)
    have HL2 : Hid (Led S w2 g l0 A nA capA mv M) := Lib.hid (HL1.out.same (fun k hS => HB2.out.block k (HL1.out.lt k hS)) HB2.out.size)
    have HO2 : Hid (OwnCh w2 W.heap.size A1 n cap1 more) := Lib.hid (HO1.out.below HB2.out (fun g' off e => (HO1.out.lt g' off e).1))
    have HK2 : Hid (Kept S W w2) := Lib.hid (Kept.of_below (bto HB1.out HB2.out))
    have hrow := HL2.out.row
    have hg2 := HL2.out.lt g HL2.out.sg
    have HG2 := Lib.hid hg2
    rcases HL2.out.map with ⟨rfl, hF⟩ | ⟨b0, rfl, hm0⟩
    · have HF := Lib.hid hF
      have hc0 : w2.cell? ⟨g, 1, none⟩ = some (.map none) := cell_of_row w2 g 1 _ _ _ hrow
      have hf0 : w2.frozen? ⟨g, 1, none⟩ = false := by simp [World.frozen?, hrow]
      have heq : ∀ w, (binOp .eql 30 (.map none) (.map none)).run Tryd.prog w = .ok (.bool true) w := fun w => by kernel_rfl
      have HROW := Lib.hid hrow
      clear hrow hF
      go_upto_region 9 with fail
      obtain ⟨w3, hw3⟩ : ∃ w3, w3 = (w2.setCell ⟨g, 1, none⟩ (.map (some w2.heap.size))).alloc (.map #[] 0) := ⟨_, rfl⟩
      rw [← hw3]
      have hsz : (w2.setCell ⟨g, 1, none⟩ (.map (some w2.heap.size))).heap.size = w2.heap.size := by simp [World.setCell]
      have HPRE : Hid (Pre S W g l0 more A nA capA A1 n cap1 w2.heap.size 0 b m G w3) := Lib.hid (by
        rw [hw3]
        refine ⟨row_alloc' (heap_setCell_same w2 g 1 _ _ _ HROW.out) _, ?_, ?_, ?_, ?_, ?_, ?_, .inr (bto HB1.out HB2.out).size, Nat.zero_le _, HML.out⟩
        · exact (HL2.out.own.same (fun g' off e => Below.heap_setCell _ _ _ _ (HL2.out.own.addr (HL2.out.own.notRow HROW.out) g' off e))).below ((Below.refl _ _).alloc (Nat.le_refl _) _) (fun g' off e => by rw [hsz]; exact (HL2.out.own.lt g' off e).1)
        · exact (HO2.out.same (fun g' off e => Below.heap_setCell _ _ _ _ (HO2.out.addr (HO2.out.notRow HROW.out) g' off e))).below ((Below.refl _ _).alloc (Nat.le_refl _) _) (fun g' off e => by rw [hsz]; exact (HO2.out.lt g' off e).1)
        · have h := MapOf.made (w2.setCell ⟨g, 1, none⟩ (.map (some w2.heap.size)))
          rw [hsz] at h; rw [HF.out]; exact h
        · exact (HMO.out.same (w' := w2.setCell ⟨g, 1, none⟩ (.map (some w2.heap.size))) (Below.heap_setCell _ _ _ _ (Ne.symm (row_notMap HROW.out HMO.out)))).kept (World.grownBy_alloc _ _ none) (by simp)
        · have := HMO.out.lt; omega
        · exact (HK2.out.setCell ⟨g, 1, none⟩ _ (.inl HL.out.sg)).alloc _)
      clear hw3 hc0 hf0 hsz
      have HCP := Lib.hid (copy_any w2.heap.size b 0 m (lastF l0) G HPRE.out.ne (by have := HPRE.out.ml; have := HPRE.out.mm; have := HLEN.out; have := HN.out; omega) w3 (Lib.hid HPRE.out.mp) (Lib.hid HPRE.out.mg))
      have hc31 : w3.cell? ⟨g, 1, none⟩ = some (.map (some w2.heap.size)) := cell_of_row w3 g 1 _ _ _ HPRE.out.row
      go_upto_region 10 with (go_at_call 19; refine HCP.out.mono ?_; rintro e w4 ⟨rfl, hm4, hk4⟩; have HA4 := Lib.hid (HPRE.out.aft hm4 hk4 HOV.out); clear hm4 hk4)
      have hc40 : w4.cell? ⟨g, 0, none⟩ = some (.slice A nA capA) := cell_of_row w4 g 0 _ _ _ HA4.out.row
      have HNA : Hid (nA = l0.length) := Lib.hid HA4.out.own.len
      go_wp2_with (at_builtin; refine wpList_append_ch rfl _ _ rfl 0 A nA capA l0 rfl HA4.out.own A1 n cap1 more rfl HN.out HA4.out.o1.at' HC3.out (nA + n) rfl (by have := HLEN.out; have := HNA.out; omega) (Nat.zero_le _) ?_; intro A5 c5 w5 ho5 hc5 hm5 hn5 hb5 hg5 ha5; have HF5 := Lib.hid (HA4.out.fin HL.out.sA ho5 hc5 hm5 hn5 hg5 ha5); have hc50 : w5.cell? ⟨g, 0, none⟩ = some (.slice A nA capA) := cell_of_row w5 g 0 _ _ _ HF5.out.row; have hf50 : w5.frozen? ⟨g, 0, none⟩ = false := (by have h := HF5.out.row; simp [World.frozen?, h]); clear ho5 hc5 hm5 hn5 hb5 hg5 ha5)
      go_ret
      have h9 := HF5.out.led HL.out.sg HL.out.lt (HL.out.val.more HAC.out) (fun c hc => by
        rcases List.mem_append.1 hc with h | h
        · exact HL.out.ok c h
        · exact HOK.out c h)
      exact ⟨h9.1, .inr ⟨rfl, HAC.out, h9.2⟩⟩
    · have hc0 : w2.cell? ⟨g, 1, none⟩ = some (.map (some b0)) := cell_of_row w2 g 1 _ _ _ hrow
      have heq : ∀ w, (binOp .eql 30 (.map (some b0)) (.map none)).run Tryd.prog w = .ok (.bool false) w := fun w => by kernel_rfl
      have HROW := Lib.hid hrow
      have HM0 := Lib.hid hm0
      clear hrow hm0
      go_upto_region 9 with fail
      obtain ⟨w3, hw3⟩ : ∃ w3, w3 = w2 := ⟨_, rfl⟩
      rw [← hw3]
      have HPRE : Hid (Pre S W g l0 more A nA capA A1 n cap1 b0 M b m G w3) := Lib.hid (by
        rw [hw3]
        exact ⟨HROW.out, HL2.out.own, HO2.out, HM0.out, HMO.out, (by have h1 := HL1.out.lt b0 (HL1.out.sm b0 rfl); have := HBB.out; omega), HK2.out, .inl (HL.out.sm b0 rfl), HL.out.ml, HML.out⟩)
      clear hw3 hc0
      have HCP := Lib.hid (copy_any b0 b M m (lastF l0) G HPRE.out.ne (by have := HPRE.out.ml; have := HPRE.out.mm; have := HLEN.out; have := HN.out; omega) w3 (Lib.hid HPRE.out.mp) (Lib.hid HPRE.out.mg))
      have hc31 : w3.cell? ⟨g, 1, none⟩ = some (.map (some b0)) := cell_of_row w3 g 1 _ _ _ HPRE.out.row
      go_upto_region 10 with (go_at_call 19; refine HCP.out.mono ?_; rintro e w4 ⟨rfl, hm4, hk4⟩; have HA4 := Lib.hid (HPRE.out.aft hm4 hk4 HOV.out); clear hm4 hk4)
      have hc40 : w4.cell? ⟨g, 0, none⟩ = some (.slice A nA capA) := cell_of_row w4 g 0 _ _ _ HA4.out.row
      have HNA : Hid (nA = l0.length) := Lib.hid HA4.out.own.len
      go_wp2_with (at_builtin; refine wpList_append_ch rfl _ _ rfl 0 A nA capA l0 rfl HA4.out.own A1 n cap1 more rfl HN.out HA4.out.o1.at' HC3.out (nA + n) rfl (by have := HLEN.out; have := HNA.out; omega) (Nat.zero_le _) ?_; intro A5 c5 w5 ho5 hc5 hm5 hn5 hb5 hg5 ha5; have HF5 := Lib.hid (HA4.out.fin HL.out.sA ho5 hc5 hm5 hn5 hg5 ha5); have hc50 : w5.cell? ⟨g, 0, none⟩ = some (.slice A nA capA) := cell_of_row w5 g 0 _ _ _ HF5.out.row; have hf50 : w5.frozen? ⟨g, 0, none⟩ = false := (by have h := HF5.out.row; simp [World.frozen?, h]); clear ho5 hc5 hm5 hn5 hb5 hg5 ha5)
      go_ret
      have h9 := HF5.out.led HL.out.sg HL.out.lt (HL.out.val.more HAC.out) (fun c hc => by
        rcases List.mem_append.1 hc with h | h
        · exact HL.out.ok c h
        · exact HOK.out c h)
      exact ⟨h9.1, .inr ⟨rfl, HAC.out, h9.2⟩⟩
end Go.Proofs.YtbimfopbilcdgaaDoor
