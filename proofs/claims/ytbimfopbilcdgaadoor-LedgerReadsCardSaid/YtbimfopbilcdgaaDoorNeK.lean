/-
  Layer ledger: changed: the panes that changes are of, as they are behind these.
-/
import Derived.BigRegion
import Derived.Deep.RegionHeld3
import Derived.Deep.Draws
import Derived.Test.YtbimfopbilcdgaaDoorNdK
import Derived.Test.YtbimfopbilcdgaaDoorKeK
set_option linter.unusedSimpArgs false
set_option linter.unusedVariables false
set_option maxRecDepth 8000
namespace Go.Proofs.YtbimfopbilcdgaaDoor
open Go.RowKit Go.Sort

/-- What came of each place. -/
noncomputable def lastF (l : List Chg) : Pl → Option Pn := l.foldl (fun F c => upd F c.p (stepA c)) Fn0
theorem lastF_snoc (l : List Chg) (c : Chg) : lastF (l ++ [c]) = upd (lastF l) c.p (stepA c) := by unfold lastF; rw [List.foldl_append]; rfl
/-- Is a change next? -/
noncomputable def okN (l : List Chg) (c : Chg) : Bool := mayB ((lastF l c.p).getD p0) c
noncomputable def accB (l0 : List Chg) : List Chg → Bool
  | [] => true
  | c :: r => okN l0 c && accB (l0 ++ [c]) r
theorem accB_append (l0 r s : List Chg) : accB l0 (r ++ s) = (accB l0 r && accB (l0 ++ r) s) := by
  induction r generalizing l0 with
  | nil => simp [accB]
  | cons c r ih =>
    rw [List.cons_append]
    show (okN l0 c && accB (l0 ++ [c]) (r ++ s)) = ((okN l0 c && accB (l0 ++ [c]) r) && accB (l0 ++ c :: r) s)
    rw [ih, Bool.and_assoc, List.append_assoc]; rfl
theorem accB_snoc (l0 r : List Chg) (c : Chg) : accB l0 (r ++ [c]) = (accB l0 r && okN (l0 ++ r) c) := by
  rw [accB_append]; simp [accB]
theorem accB_take (l0 more : List Chg) (k : Nat) (c : Chg) (hc : more[k]? = some c) : accB l0 (more.take (k + 1)) = (accB l0 (more.take k) && okN (l0 ++ more.take k) c) := by
  obtain ⟨hk, rfl⟩ := List.getElem?_eq_some_iff.1 hc
  rw [List.take_succ_eq_append_getElem hk, accB_snoc]
theorem accB_stop (l0 more : List Chg) (k : Nat) (h : accB l0 (more.take k) = false) : accB l0 more = false := by
  have e := accB_append l0 (more.take k) (more.drop k)
  rw [List.take_append_drop, h] at e
  simpa using e
def Val (l : List Chg) : Prop := accB [] l = true
theorem Val.more {l r : List Chg} (h : Val l) (hr : accB l r = true) : Val (l ++ r) := by unfold Val at *; rw [accB_append, h]; simpa using hr
theorem okN_rev {l : List Chg} {c : Chg} (h : okN l c = true) : c.rev = ((lastF l c.p).getD p0).rev := by
  unfold okN mayB at h
  simp only [Bool.and_eq_true, decide_eq_true_eq] at h
  exact h.1.2
theorem snoc_ind {α : Type} {P : List α → Prop} (h0 : P []) (h1 : ∀ l a, P l → P (l ++ [a])) : ∀ l, P l := by
  intro l
  have : ∀ (n : Nat) (l : List α), l.length = n → P l := by
    intro n
    induction n with
    | zero => intro l hl; rw [List.eq_nil_of_length_eq_zero hl]; exact h0
    | succ n ih =>
      intro l hl
      rcases snoc_cases l with rfl | ⟨r, e, rfl⟩
      · simp at hl
      · exact h1 _ _ (ih r (by simpa using hl))
  exact this _ l rfl
theorem last_rev (l : List Chg) (h : Val l) : ∀ p : Pl, ((lastF l p).getD p0).rev ≤ l.length := by
  revert h
  refine snoc_ind (P := fun l => Val l → ∀ p : Pl, ((lastF l p).getD p0).rev ≤ l.length) (fun _ p => Nat.le_refl _) (fun l c ih h p => ?_) l
  unfold Val at h
  rw [accB_append] at h
  simp only [Bool.and_eq_true, List.nil_append] at h
  have hc : okN l c = true := by have := h.2; simpa [accB] using this
  have h1 := ih h.1
  rw [lastF_snoc, List.length_append]
  unfold upd
  split
  · have h2 := okN_rev hc
    have h3 := h1 c.p
    show (stepA c).rev ≤ _
    unfold stepA
    split
    · show c.rev ≤ l.length + 1; omega
    · show c.rev + 1 ≤ l.length + 1; omega
  · have := h1 p; omega
theorem last_ok (l : List Chg) (h : Val l) (hl : l.length ≤ 100000) (hok : ∀ c ∈ l, c.Ok) : ∀ p : Pl, ((lastF l p).getD p0).Ok := by
  revert h hl hok
  refine snoc_ind (P := fun l => Val l → l.length ≤ 100000 → (∀ c ∈ l, c.Ok) → ∀ p : Pl, ((lastF l p).getD p0).Ok) (fun _ _ _ p => p0_ok) (fun l c ih h hl hok p => ?_) l
  unfold Val at h
  rw [accB_append] at h
  simp only [Bool.and_eq_true, List.nil_append] at h
  rw [List.length_append] at hl
  have hl' : l.length ≤ 100000 := by omega
  have hc : okN l c = true := by have := h.2; simpa [accB] using this
  have h1 := ih h.1 hl' (fun c hc => hok c (by simp [hc]))
  rw [lastF_snoc]
  unfold upd
  split
  · refine stepA_ok c (hok c (by simp)) ?_
    have h2 := okN_rev hc
    have h3 := last_rev l h.1 c.p
    omega
  · exact h1 p
/-- A map's panes ahead of another one's. -/
def ov (F G : Pl → Option Pn) : Pl → Option Pn := fun p => match G p with | some x => some x | none => F p
theorem ov_upd (F G : Pl → Option Pn) (p : Pl) (x : Pn) : ov F (upd G p x) = upd (ov F G) p x := by
  funext q; unfold ov upd; by_cases h : q = p <;> simp [h]

/-- 'v, ok := m[k]' where the pane's shape is written out. -/
theorem wpList_look_ok {ops : Array Oper} {rest : List Oper} {o : Oper} {a : Act} {Q : Exit → Act → World → Prop} {w : World} (hg : o.guard = none) (m x : Operand) (hop : o.op = Op.lookup 30 m x true)
    (b n : Nat) (F : Pl → Option Pn) (hm : a.eval m = .map (some b)) (hown : MapOf w b n F) (p : Pl) (hp : p.Ok) (hx : a.eval x = .agg #[.string p.key, .int .i64 p.s, .int .i64 p.e]) (q : Pn) (s : Bool) (hq : (F p).getD p0 = q) (hs : (F p).isSome = s)
    (hK : wpList Tryd.prog ops Q rest (a.put o.dst (.tuple #[.agg #[.bool q.th, .int .u64 (q.rev : Int), .int .u64 (q.t.c : Int), .float .f64 q.t.s, .bool q.t.o, .float .f64 q.t.lo, .float .f64 q.t.hi], .bool s])) w) : wpList Tryd.prog ops Q (o :: rest) a w := by
  refine wpList_plain hg fun K' hK' => ?_
  have h := (hown.look_ok hp).1
  rw [hq, hs] at h
  unfold plV pnV at h
  unfold Oper.wp
  simp [execOp, hop, hm, hx, h, Result.andThen]
  exact hK' _ _ hK
/-- A change, its place and its pane in boxes. -/
def zw (w : World) (c : Chg) (x : Pn) : World := ((w.alloc (.cells #[.bool c.put, .int .u64 (c.rev : Int), .string c.p.key, .int .i64 c.p.s, .int .i64 c.p.e, .int .u64 (c.t.c : Int), .float .f64 c.t.s, .bool c.t.o, .float .f64 c.t.lo, .float .f64 c.t.hi] 43)).alloc (.cells #[.string c.p.key, .int .i64 c.p.s, .int .i64 c.p.e] 62)).alloc (.cells #[.bool x.th, .int .u64 (x.rev : Int), .int .u64 (x.t.c : Int), .float .f64 x.t.s, .bool x.t.o, .float .f64 x.t.lo, .float .f64 x.t.hi] 64)
structure ZW (w : World) (c : Chg) (x : Pn) (q : Nat) : Prop where
  rc : w.heap[q]? = some (.cells #[.bool c.put, .int .u64 (c.rev : Int), .string c.p.key, .int .i64 c.p.s, .int .i64 c.p.e, .int .u64 (c.t.c : Int), .float .f64 c.t.s, .bool c.t.o, .float .f64 c.t.lo, .float .f64 c.t.hi] 43 (0, 0))
  rp : w.heap[q + 1]? = some (.cells #[.string c.p.key, .int .i64 c.p.s, .int .i64 c.p.e] 62 (0, 0))
  rx : w.heap[q + 1 + 1]? = some (.cells #[.bool x.th, .int .u64 (x.rev : Int), .int .u64 (x.t.c : Int), .float .f64 x.t.s, .bool x.t.o, .float .f64 x.t.lo, .float .f64 x.t.hi] 64 (0, 0))
  sz : q + 1 + 1 < w.heap.size
theorem zw_rows (w : World) (c : Chg) (x : Pn) : ZW (zw w c x) c x w.heap.size := by
  unfold zw
  refine ⟨?_, ?_, heap_new' _ _ _ (by simp), by simp⟩
  · exact row_alloc' (row_alloc' (heap_new' _ _ _ rfl) _) _
  · exact row_alloc' (heap_new' _ _ _ (by simp)) _
theorem zw_below (w : World) (c : Chg) (x : Pn) : Below w.heap.size w (zw w c x) := (((Below.refl w.heap.size w).alloc (Nat.le_refl _) _).alloc (by simp) _).alloc (by simp; omega) _
theorem ZW.below {w w' : World} {c : Chg} {x : Pn} {q : Nat} (h : ZW w c x q) (hb : Below w.heap.size w w') : ZW w' c x q := by
  have hs := h.sz
  exact ⟨(hb.block q (by omega)).trans h.rc, (hb.block (q + 1) (by omega)).trans h.rp, (hb.block (q + 1 + 1) hs).trans h.rx, Nat.lt_of_lt_of_le hs hb.size⟩
theorem ZW.kept {S : Nat → Prop} {w w' : World} {c : Chg} {x : Pn} {q : Nat} (h : ZW w c x q) (hb : Kept S w w') (h0 : ¬ S q) (h1 : ¬ S (q + 1)) (h2 : ¬ S (q + 1 + 1)) : ZW w' c x q :=
  ⟨hb.heap h.rc h0, hb.heap h.rp h1, hb.heap h.rx h2, Nat.lt_of_lt_of_le h.sz hb.size⟩
theorem ZW.put {w : World} {c : Chg} {x y : Pn} {q : Nat} (h : ZW w c x q) : ZW (w.setRow (q + 1 + 1) #[.bool y.th, .int .u64 (y.rev : Int), .int .u64 (y.t.c : Int), .float .f64 y.t.s, .bool y.t.o, .float .f64 y.t.lo, .float .f64 y.t.hi]) c y q :=
  ⟨by rw [setRow_other _ _ _ _ (by omega)]; exact h.rc, by rw [setRow_other _ _ _ _ (by omega)]; exact h.rp, setRow_heap _ _ _ _ _ _ h.rx, by have := h.sz; simpa using this⟩
/-- What changed ends with. -/
def ChgEnd (W : World) (l0 more : List Chg) (e : Ending) (w' : World) : Prop := Below W.heap.size W w' ∧ ((e = .returned (.tuple #[.map none, .bool false]) ∧ accB l0 more = false) ∨
  (∃ (b m : Nat) (G : Pl → Option Pn), e = .returned (.tuple #[.map (some b), .bool true]) ∧ accB l0 more = true ∧ W.heap.size ≤ b ∧ m ≤ more.length ∧ MapOf w' b m G ∧ ov (lastF l0) G = lastF (l0 ++ more)))
/-- What its rounds hold. -/
def RCG (W : World) (l0 more : List Chg) (v : Value) (wr : World) : Prop := ∃ (k m : Nat) (G : Pl → Option Pn), k ≤ more.length ∧ v = .int .i64 k ∧ m ≤ k ∧ MapOf wr W.heap.size m G ∧ accB l0 (more.take k) = true ∧ ov (lastF l0) G = lastF (l0 ++ more.take k) ∧ Below W.heap.size W wr
theorem yieldsIf_row {P : Program} {ops : Array Oper} {S : World → Prop} {op : Oper} {a : Act} (hw : Region.wanted op (yielded ops a.tmps) = true) (ty : TypeId) (x : Operand) (ho : op.op = .load ty x)
    (g : Nat) (hx : a.eval x = .pointer (some ⟨g, 0, none⟩)) (t : TypeId) (cs : Array Value) (fr : Nat × Nat) (d : TypeDesc) (hS : ∀ w, S w → w.heap[g]? = some (.cells cs t fr))
    (hu : P.underlying ty = some d) (hd : (match d with | .struct _ | .array _ _ => true | _ => false) = true) (hi : (P.info? ty).map (·.size) = some cs.size) : YieldsIf P ops S op (.agg cs) a :=
  .inl ⟨hw, fun w hw' => by
    unfold execOp
    simp only [ho, hx, Instr.loadAt, Instr.sureAddr, Sem.run_bind, Sem.run_pure, Result.andThen_ok, run_loadVar_row w g t ty cs fr d (hS w hw') hu hd hi]⟩
theorem Kept.setRow {S : Nat → Prop} {a w : World} (h : Kept S a w) (g : Nat) (cs : Array Value) (hg : S g ∨ a.heap.size ≤ g) : Kept S a (w.setRow g cs) :=
  ⟨h.os, h.tape, h.output, by simpa using h.size, fun k hk hn => by
    rw [setRow_other _ _ _ _ (fun e => by
      rcases hg with h1 | h1
      · exact hn (e ▸ h1)
      · omega)]; exact h.block k hk hn⟩
theorem Kept.of_grown {w w' : World} {b : Nat} (h : w.grownBy w' (some b)) : Kept (fun k => k = b) w w' := ⟨h.os, h.tape, h.output, h.size, fun k hk hs => h.block k hk (fun e => hs (by injection e))⟩
set_option maxHeartbeats 2000000 in
theorem changed_any (g : Nat) (mv : Value) (M : Nat) (l0 : List Chg) (a : Option Addr) (n c : Nat) (more : List Chg) (hn : n = more.length) (h1000 : n ≤ 1000) (hl0 : l0.length ≤ 1000) (hv : Val l0) (hok0 : ∀ c ∈ l0, c.Ok) (hok : ∀ c ∈ more, c.Ok) (W : World) (H : Hid (ChAt W a more))
    (hg : g < W.heap.size) (hc : W.cell? ⟨g, 1, none⟩ = some mv) (hM : MapV W mv M (lastF l0)) (hMb : ∀ b, mv = .map (some b) → b < W.heap.size) :
    Calls Tryd.prog 18 #[.pointer (some ⟨g, 0, none⟩), .slice a n c] W (ChgEnd W l0 more) := by
  have HNL := Lib.hid hn; have HV := Lib.hid hv; have HO0 := Lib.hid hok0; have HO := Lib.hid hok; have HM := Lib.hid hM; have HMb := Lib.hid hMb; have HC := Lib.hid hc; have HG := Lib.hid hg; have HL0 := Lib.hid hl0
  clear hn hv hok0 hok hM hMb hc hg hl0
  have hmm := @run_makeMap Tryd.prog
  go_enter Tryd.func18, Tryd.ntmps18
  go_wp2
  clear hmm
  go_loopw [15] (fun v wr => RCG W l0 more v wr) (fun v _ => n - (intOf v).toNat)
  case atStart => exact ⟨0, 0, Fn0, Nat.zero_le _, rfl, Nat.le_refl _, MapOf.made W, rfl, by rw [List.take_zero, List.append_nil]; rfl, (Below.refl _ _).alloc (Nat.le_refl _) _⟩
  case round =>
    obtain ⟨k, m, G, hkl, rfl, hmk, hmo, hacc, hov, hb⟩ := hrel
    have HKL0 := Lib.hid hkl; have HMK := Lib.hid hmk; have HMO := Lib.hid hmo; have HACC := Lib.hid hacc; have HOV := Lib.hid hov; have HB := Lib.hid hb
    clear hkl hmk hmo hacc hov hb
    by_cases hin : k < n
    · obtain ⟨c, hc⟩ : ∃ c, more[k]? = some c := ⟨more[k]'(by have := HNL.out; omega), List.getElem?_eq_getElem _⟩
      have hcok := HO.out c (List.mem_of_getElem? hc)
      obtain ⟨ga, off, rfl, hga, hr⟩ := chr (H.out.keep HB.out) k c hc
      obtain ⟨x, hx⟩ : ∃ x, x = (lastF (l0 ++ more.take k) c.p).getD p0 := ⟨_, rfl⟩
      have hval : Val (l0 ++ more.take k) := HV.out.more HACC.out
      have hlen : (l0 ++ more.take k).length ≤ 2000 := by rw [List.length_append, List.length_take]; have := HL0.out; omega
      have hxok : x.Ok := by
        rw [hx]
        exact last_ok _ hval (by omega) (fun d hd => by
          rcases List.mem_append.1 hd with h | h
          · exact HO0.out d h
          · exact HO.out d (List.mem_of_mem_take h)) _
      have HLS : Hid (lastF (l0 ++ more.take (k + 1)) = upd (lastF (l0 ++ more.take k)) c.p (stepA c)) := Lib.hid (by
        obtain ⟨hk1, rfl⟩ := List.getElem?_eq_some_iff.1 hc
        rw [List.take_succ_eq_append_getElem hk1, ← List.append_assoc, lastF_snoc])
      have HAC : Hid (accB l0 (more.take (k + 1)) = mayB x c) := Lib.hid (by rw [accB_take l0 more k c hc, HACC.out, hx]; rfl)
      have HKL : Hid (k < n ∧ n = more.length) := Lib.hid ⟨hin, HNL.out⟩
      have HQ : Hid (¬ (wr.heap.size = W.heap.size) ∧ ¬ (wr.heap.size + 1 = W.heap.size) ∧ ¬ (wr.heap.size + 1 + 1 = W.heap.size)) := Lib.hid (by have := HMO.out.lt; omega)
      have HP := Lib.hid hcok.p; have HCOK := Lib.hid hcok; have HXOK := Lib.hid hxok
      have HR := Lib.hid hr; have HGA := Lib.hid hga
      have HREV : Hid (mayB x c = true → c.rev < 9223372036854775807) := Lib.hid (fun h => by
        have h2 := okN_rev (l := l0 ++ more.take k) (c := c) (by unfold okN; rw [← hx]; exact h)
        have h3 := last_rev _ hval c.p
        omega)
      have HXO : Hid (ov (lastF l0) G c.p = lastF (l0 ++ more.take k) c.p) := Lib.hid (by rw [HOV.out])
      have HX := Lib.hid hx
      have HN : Hid (m < maxLen) := Lib.hid (by have := HMK.out; unfold maxLen; omega)
      clear hcok hx hval hlen hxok hr hga hc
      have hz : (k : Int) < (n : Int) := by omega
      rcases hG : G c.p with _ | y
      · have hlx : (lastF l0 c.p).getD p0 = x := by
          have h := HXO.out; unfold ov at h; rw [hG] at h; rw [HX.out, ← h]
        have HLX := Lib.hid hlx
        have HG1 : Hid ((G c.p).getD p0 = p0) := Lib.hid (by rw [hG]; rfl)
        have HG2 : Hid ((G c.p).isSome = false) := Lib.hid (by rw [hG]; rfl)
        clear hlx hG
        go_upto_region 8 with (first
          | (refine wpList_load_mid rfl 43 (.tmp 17) rfl ga (off + k * 10) rfl [.bool c.put, .int .u64 (c.rev : Int), .string c.p.key, .int .i64 c.p.s, .int .i64 c.p.e, .int .u64 (c.t.c : Int), .float .f64 c.t.s, .bool c.t.o, .float .f64 c.t.lo, .float .f64 c.t.hi] _ HR.out uCh rfl iCh ?_)
          | (refine wpList_store_fresh rfl 43 (.tmp 8) (.tmp 18) rfl _ _ _ _ rfl (by simp) rfl iCh rfl (oneCh c) ?_)
          | (at_lookup; refine wpList_look_ok rfl (.tmp 27) (.tmp 28) rfl W.heap.size m G rfl (HMO.out.below (((Below.refl _ _).alloc (Nat.le_refl _) _).alloc (by simp) _) HMO.out.lt) c.p HP.out rfl p0 false HG1.out HG2.out ?_)
          | (refine wpList_store_fresh rfl 64 (.tmp 10) (.tmp 30) rfl _ _ _ _ rfl (by simp) rfl iPn rfl (onePn p0) ?_))
        generalize hwz : ((wr.alloc (.cells #[.bool c.put, .int .u64 (c.rev : Int), .string c.p.key, .int .i64 c.p.s, .int .i64 c.p.e, .int .u64 (c.t.c : Int), .float .f64 c.t.s, .bool c.t.o, .float .f64 c.t.lo, .float .f64 c.t.hi] 43)).alloc (.cells #[.string c.p.key, .int .i64 c.p.s, .int .i64 c.p.e] 62)).alloc (.cells #[.bool p0.th, .int .u64 (p0.rev : Int), .int .u64 (p0.t.c : Int), .float .f64 p0.t.s, .bool p0.t.o, .float .f64 p0.t.lo, .float .f64 p0.t.hi] 64) = wz
        have HZ : Hid (ZW wz c p0 wr.heap.size) := Lib.hid (by rw [← hwz]; exact zw_rows wr c p0)
        have HBZ : Hid (Below W.heap.size W wz) := Lib.hid (by rw [← hwz]; exact bto HB.out (zw_below wr c p0))
        have HMZ : Hid (MapOf wz W.heap.size m G) := Lib.hid (by rw [← hwz]; exact HMO.out.below (zw_below wr c p0) HMO.out.lt)
        have HSZ : Hid (W.heap.size ≤ wr.heap.size) := Lib.hid HB.out.size
        clear hwz
        have HLK : Hid (∀ w, Kept (fun k => k = wr.heap.size + 1 + 1) wz w → (Instr.lookup 30 mv (.agg #[.string c.p.key, .int .i64 c.p.s, .int .i64 c.p.e]) false).run Tryd.prog w = .ok (.agg #[.bool x.th, .int .u64 (x.rev : Int), .int .u64 (x.t.c : Int), .float .f64 x.t.s, .bool x.t.o, .float .f64 x.t.lo, .float .f64 x.t.hi]) w) := Lib.hid (fun w hk => by
          have h1 : MapV w mv M (lastF l0) := by
            rcases HM.out with h | ⟨b, e, hm⟩
            · exact .inl h
            · have h3 := HMb.out b e
              have h4 := HBZ.out.size
              have h5 := HSZ.out
              exact .inr ⟨b, e, hm.same ((hk.block b (by omega) (by omega)).trans (HBZ.out.block b h3))⟩
          have h2 := (h1.look HP.out).1
          rw [HLX.out] at h2
          exact h2)
        have HCZ : Hid (∀ w, Kept (fun k => k = wr.heap.size + 1 + 1) wz w → w.cell? ⟨g, 1, none⟩ = some mv) := Lib.hid (fun w hk => by
          have h3 := HG.out
          have h4 := HBZ.out.size
          have h5 := HSZ.out
          exact (hk.cell (p := ⟨g, 1, none⟩) (by show g < _; omega) (by show ¬ (g = _); omega)).trans ((HBZ.out.cell (p := ⟨g, 1, none⟩) h3).trans HC.out))
        refine wp_region_held_drew (S := fun w => Kept (fun k => k = wr.heap.size + 1 + 1) wz w) (by kernel_rfl) ((Kept.refl _ wz).drew) (fun hHeld => ?_)
        refine wpAnyH_take (i := 0) (v := .pointer (some ⟨g, 0, none⟩)) rfl (by kernel_rfl) (by kernel_rfl) (by kernel_rfl) (fun _ _ _ h => h) (Or.inl ⟨by rfl, fun _ _ => rfl⟩) hHeld ?_
        try dsimp only
        try simp only [Act.put, List.getElem_toArray, List.getElem_cons_zero, List.getElem_cons_succ, List.setIfInBounds_toArray, List.set_cons_zero, List.set_cons_succ]
        refine wpAnyH_take (i := 1) (v := .pointer (some ⟨g, 0, none⟩)) rfl (by kernel_rfl) (by kernel_rfl) (by kernel_rfl) (fun _ _ _ h => h) (Or.inl ⟨by rfl, fun w _ => by go_simp⟩) hHeld ?_
        try dsimp only
        try simp only [Act.put, List.getElem_toArray, List.getElem_cons_zero, List.getElem_cons_succ, List.setIfInBounds_toArray, List.set_cons_zero, List.set_cons_succ]
        refine wpAnyH_take (i := 2) (v := .pointer (some ⟨g, 1, none⟩)) rfl (by kernel_rfl) (by kernel_rfl) (by kernel_rfl) (fun _ _ _ h => h) (Or.inl ⟨by rfl, fun w _ => by go_simp⟩) hHeld ?_
        try dsimp only
        try simp only [Act.put, List.getElem_toArray, List.getElem_cons_zero, List.getElem_cons_succ, List.setIfInBounds_toArray, List.set_cons_zero, List.set_cons_succ]
        refine wpAnyH_take (i := 3) (v := mv) rfl (by kernel_rfl) (by kernel_rfl) (by kernel_rfl) (fun _ _ _ h => h) (Or.inl ⟨by rfl, fun w hw => by have hc : w.cell? ⟨g, 1, none⟩ = some (mv) := HCZ.out w hw; go_simp⟩) hHeld ?_
        try dsimp only
        try simp only [Act.put, List.getElem_toArray, List.getElem_cons_zero, List.getElem_cons_succ, List.setIfInBounds_toArray, List.set_cons_zero, List.set_cons_succ]
        refine wpAnyH_take (i := 4) (v := .agg #[.string c.p.key, .int .i64 c.p.s, .int .i64 c.p.e]) rfl (by kernel_rfl) (by kernel_rfl) (by kernel_rfl) (fun _ _ _ h => h) (yieldsIf_row rfl 62 (.tmp 9) rfl (wr.heap.size + 1) rfl _ _ _ _ (fun w (hw : Kept (fun k => k = wr.heap.size + 1 + 1) wz w) => (hw.heap HZ.out.rp (by simp))) uPl rfl iPl) hHeld ?_
        try dsimp only
        try simp only [Act.put, List.getElem_toArray, List.getElem_cons_zero, List.getElem_cons_succ, List.setIfInBounds_toArray, List.set_cons_zero, List.set_cons_succ]
        refine wpAnyH_take (i := 5) (v := .agg #[.bool x.th, .int .u64 (x.rev : Int), .int .u64 (x.t.c : Int), .float .f64 x.t.s, .bool x.t.o, .float .f64 x.t.lo, .float .f64 x.t.hi]) rfl (by kernel_rfl) (by kernel_rfl) (by kernel_rfl) (fun _ _ _ h => h) (Or.inl ⟨by rfl, fun w hw => by have hlk := HLK.out w hw; go_simp⟩) hHeld ?_
        try dsimp only
        try simp only [Act.put, List.getElem_toArray, List.getElem_cons_zero, List.getElem_cons_succ, List.setIfInBounds_toArray, List.set_cons_zero, List.set_cons_succ]
        refine wpAnyH_ready (rs := [6]) (by kernel_rfl) (by simp) (AllReadyH.cons rfl (fun K hK => ?_) AllReadyH.nil)
        refine wp_store_row 64 (.tmp 10) (.tmp 39) rfl (wr.heap.size + 1 + 1) #[.bool x.th, .int .u64 (x.rev : Int), .int .u64 (x.t.c : Int), .float .f64 x.t.s, .bool x.t.o, .float .f64 x.t.lo, .float .f64 x.t.hi] rfl rfl _ _ HZ.out.rx iPn rfl (onePn x) ?_
        refine hK.out _ _ (((Kept.refl _ wz).drew).setRow _ _ (.inl rfl)) (fun hHeld => ?_)
        clear hK K hHeld
        refine wpAnyH_done (by kernel_rfl) ?_ _
        obtain ⟨wy, hwy⟩ : ∃ wy, wy = (World.drew wz).setRow (wr.heap.size + 1 + 1) #[.bool x.th, .int .u64 (x.rev : Int), .int .u64 (x.t.c : Int), .float .f64 x.t.s, .bool x.t.o, .float .f64 x.t.lo, .float .f64 x.t.hi] := ⟨_, rfl⟩
        rw [← hwy]
        have HZY : Hid (ZW wy c x wr.heap.size) := Lib.hid (by rw [hwy]; exact ZW.put (w := World.drew wz) ⟨HZ.out.rc, HZ.out.rp, HZ.out.rx, HZ.out.sz⟩)
        have HKY : Kept (fun k => k = wr.heap.size + 1 + 1) wz wy := by rw [hwy]; exact (Kept.refl _ wz).drew.setRow _ _ (.inl rfl)
        have HBY : Hid (Below W.heap.size W wy) := Lib.hid (HBZ.out.trans (HKY.below (by have := HBZ.out.size; omega) (fun k hk => by have := HSZ.out; omega)))
        have HMY : Hid (MapOf wy W.heap.size m G) := Lib.hid (HMZ.out.same (HKY.block _ HMZ.out.lt (fun h => HQ.out.2.2 h.symm)))
        clear HKY hwy HZ HBZ HMZ HLK HCZ HG1 HG2 HSZ
        rcases hmy : mayB x c with _ | _
        · have HMB : Hid (∀ w, Calls Tryd.prog 36 #[.agg #[.bool x.th, .int .u64 (x.rev : Int), .int .u64 (x.t.c : Int), .float .f64 x.t.s, .bool x.t.o, .float .f64 x.t.lo, .float .f64 x.t.hi], .agg #[.bool c.put, .int .u64 (c.rev : Int), .string c.p.key, .int .i64 c.p.s, .int .i64 c.p.e, .int .u64 (c.t.c : Int), .float .f64 c.t.s, .bool c.t.o, .float .f64 c.t.lo, .float .f64 c.t.hi]] w fun e w' => e = .returned (.bool false) ∧ Below w.heap.size w w') := Lib.hid (fun w => by have h := mayBe_any x c HXOK.out HCOK.out w; rw [hmy] at h; exact h)
          have HNO : Hid (accB l0 more = false) := Lib.hid (accB_stop l0 more (k + 1) (by rw [HAC.out]; exact hmy))
          clear hmy
          go_wp2_with (first
            | (refine wpList_load_row rfl 64 (.tmp 10) rfl _ rfl _ _ _ _ HZY.out.rx uPn rfl iPn ?_)
            | (refine wpList_load_row rfl 43 (.tmp 8) rfl _ rfl _ _ _ _ HZY.out.rc uCh rfl iCh ?_)
            | (go_at_call 36; with_reducible refine (HMB.out _).mono ?_; rintro e w2 ⟨rfl, hb2⟩; have HB2 := Lib.hid hb2; clear hb2))
          go_ret2
          exact ⟨bto HBY.out HB2.out, .inl ⟨rfl, HNO.out⟩⟩
        · have HMB : Hid (∀ w, Calls Tryd.prog 36 #[.agg #[.bool x.th, .int .u64 (x.rev : Int), .int .u64 (x.t.c : Int), .float .f64 x.t.s, .bool x.t.o, .float .f64 x.t.lo, .float .f64 x.t.hi], .agg #[.bool c.put, .int .u64 (c.rev : Int), .string c.p.key, .int .i64 c.p.s, .int .i64 c.p.e, .int .u64 (c.t.c : Int), .float .f64 c.t.s, .bool c.t.o, .float .f64 c.t.lo, .float .f64 c.t.hi]] w fun e w' => e = .returned (.bool true) ∧ Below w.heap.size w w') := Lib.hid (fun w => by have h := mayBe_any x c HXOK.out HCOK.out w; rw [hmy] at h; exact h)
          have HA2 : Hid (accB l0 (more.take (k + 1)) = true) := Lib.hid (by rw [HAC.out]; exact hmy)
          have hrev := HREV.out hmy
          have HBH := Lib.hid fun w => behind_any x c hrev w
          have HY := Lib.hid (stepA_ok c HCOK.out hrev)
          clear hmy hrev
          go_upto_region 11 with (first
            | (refine wpList_load_row rfl 64 (.tmp 10) rfl _ rfl _ _ _ _ HZY.out.rx uPn rfl iPn ?_)
            | (refine wpList_load_row rfl 43 (.tmp 8) rfl _ rfl _ _ _ _ HZY.out.rc uCh rfl iCh ?_)
            | (go_at_call 36; with_reducible refine (HMB.out _).mono ?_; rintro e w2 ⟨rfl, hb2⟩; have HB2 := Lib.hid hb2; clear hb2))
          have HZ2 : Hid (ZW w2 c x wr.heap.size) := Lib.hid (HZY.out.below HB2.out)
          have HM2 : Hid (MapOf w2 W.heap.size m G) := Lib.hid (MapOf.below HMY.out HB2.out HMY.out.lt)
          have HKW : Hid (∀ {w4 : World}, Kept (fun k => k = W.heap.size) w2 w4 → Below W.heap.size W w4) := Lib.hid (fun h => (bto HBY.out HB2.out).trans (h.below (by have := (bto HBY.out HB2.out).size; omega) (fun k hk => by omega)))
          refine wp_region_held_drew (S := fun w => Kept (fun k => k = W.heap.size) w2 w) (by kernel_rfl) ((Kept.refl _ w2).drew) (fun hHeld => ?_)
          refine wpAnyH_take (i := 0) (v := .map (some W.heap.size)) rfl (by kernel_rfl) (by kernel_rfl) (by kernel_rfl) (fun _ _ _ h => h) (Or.inl ⟨by rfl, fun _ _ => rfl⟩) hHeld ?_
          try dsimp only
          try simp only [Act.put, List.getElem_toArray, List.getElem_cons_zero, List.getElem_cons_succ, List.setIfInBounds_toArray, List.set_cons_zero, List.set_cons_succ]
          refine wpAnyH_take (i := 1) (v := .agg #[.string c.p.key, .int .i64 c.p.s, .int .i64 c.p.e]) rfl (by kernel_rfl) (by kernel_rfl) (by kernel_rfl) (fun _ _ _ h => h) (yieldsIf_row rfl 62 (.tmp 9) rfl (wr.heap.size + 1) rfl _ _ _ _ (fun w (hw : Kept (fun k => k = W.heap.size) w2 w) => (HZ2.out.kept hw HQ.out.1 HQ.out.2.1 HQ.out.2.2).rp) uPl rfl iPl) hHeld ?_
          try dsimp only
          try simp only [Act.put, List.getElem_toArray, List.getElem_cons_zero, List.getElem_cons_succ, List.setIfInBounds_toArray, List.set_cons_zero, List.set_cons_succ]
          refine wpAnyH_take (i := 2) (v := .agg #[.bool x.th, .int .u64 (x.rev : Int), .int .u64 (x.t.c : Int), .float .f64 x.t.s, .bool x.t.o, .float .f64 x.t.lo, .float .f64 x.t.hi]) rfl (by kernel_rfl) (by kernel_rfl) (by kernel_rfl) (fun _ _ _ h => h) (yieldsIf_row rfl 64 (.tmp 10) rfl (wr.heap.size + 1 + 1) rfl _ _ _ _ (fun w (hw : Kept (fun k => k = W.heap.size) w2 w) => (HZ2.out.kept hw HQ.out.1 HQ.out.2.1 HQ.out.2.2).rx) uPn rfl iPn) hHeld ?_
          try dsimp only
          try simp only [Act.put, List.getElem_toArray, List.getElem_cons_zero, List.getElem_cons_succ, List.setIfInBounds_toArray, List.set_cons_zero, List.set_cons_succ]
          refine wpAnyH_take (i := 3) (v := .agg #[.bool c.put, .int .u64 (c.rev : Int), .string c.p.key, .int .i64 c.p.s, .int .i64 c.p.e, .int .u64 (c.t.c : Int), .float .f64 c.t.s, .bool c.t.o, .float .f64 c.t.lo, .float .f64 c.t.hi]) rfl (by kernel_rfl) (by kernel_rfl) (by kernel_rfl) (fun _ _ _ h => h) (yieldsIf_row rfl 43 (.tmp 8) rfl wr.heap.size rfl _ _ _ _ (fun w (hw : Kept (fun k => k = W.heap.size) w2 w) => (HZ2.out.kept hw HQ.out.1 HQ.out.2.1 HQ.out.2.2).rc) uCh rfl iCh) hHeld ?_
          try dsimp only
          try simp only [Act.put, List.getElem_toArray, List.getElem_cons_zero, List.getElem_cons_succ, List.setIfInBounds_toArray, List.set_cons_zero, List.set_cons_succ]
          refine wpAnyH_ready (rs := [4]) (by kernel_rfl) (by simp) (AllReadyH.cons rfl (fun K hK => ?_) AllReadyH.nil)
          go_simp
          refine (HBH.out _).mono ?_
          rintro e w3 ⟨rfl, hb3⟩
          have HK3 : Hid (Kept (fun k => k = W.heap.size) w2 w3) := Lib.hid (hHeld.trans (Kept.of_below hb3))
          have HM3 : Hid (MapOf w3 W.heap.size m G) := Lib.hid (MapOf.below (B := w2.heap.size) HM2.out ⟨hb3.os, hb3.tape, hb3.output, hb3.size, hb3.block⟩ HM2.out.lt)
          clear hb3 hHeld
          refine hK.out _ _ HK3.out (fun hHeld => ?_)
          clear hK K hHeld
          try dsimp only
          try simp only [Act.put, List.getElem_toArray, List.getElem_cons_zero, List.getElem_cons_succ, List.setIfInBounds_toArray, List.set_cons_zero, List.set_cons_succ]
          obtain ⟨w4, hr4, hm4, hg4⟩ := HM3.out.put HN.out HP.out HY.out
          have HM4 := Lib.hid hm4; have HG4 := Lib.hid hg4; clear hm4 hg4
          unfold plV pnV at hr4
          refine wpAnyH_ready (rs := [5]) (by kernel_rfl) (by simp) (AllReadyH.cons rfl (fun K hK => ?_) AllReadyH.nil)
          go_simp
          have HK4 : Hid (Kept (fun k => k = W.heap.size) w2 w4) := Lib.hid (HK3.out.trans (Kept.of_grown HG4.out))
          refine hK.out _ _ HK4.out (fun hHeld => ?_)
          clear hK K hHeld
          refine wpAnyH_done (by kernel_rfl) ?_ _
          clear hr4
          go_wp2
          go_roundw
          case rel => exact ⟨k + 1, m + 1, upd G c.p (stepA c), by have := HKL.out; omega, by go_num, by have := HMK.out; omega, HM4.out, HA2.out, by rw [ov_upd, HOV.out, HLS.out], HKW.out HK4.out⟩
          case measure => (have := HKL.out; simp [intOf]; omega)
      · have hlx : y = x := by
          have h := HXO.out; unfold ov at h; rw [hG] at h; rw [HX.out, ← h]; rfl
        subst hlx
        have HG1 : Hid ((G c.p).getD p0 = y) := Lib.hid (by rw [hG]; rfl)
        have HG2 : Hid ((G c.p).isSome = true) := Lib.hid (by rw [hG]; rfl)
        clear hG
        go_upto_region 9 with (first
          | (refine wpList_load_mid rfl 43 (.tmp 17) rfl ga (off + k * 10) rfl [.bool c.put, .int .u64 (c.rev : Int), .string c.p.key, .int .i64 c.p.s, .int .i64 c.p.e, .int .u64 (c.t.c : Int), .float .f64 c.t.s, .bool c.t.o, .float .f64 c.t.lo, .float .f64 c.t.hi] _ HR.out uCh rfl iCh ?_)
          | (refine wpList_store_fresh rfl 43 (.tmp 8) (.tmp 18) rfl _ _ _ _ rfl (by simp) rfl iCh rfl (oneCh c) ?_)
          | (at_lookup; refine wpList_look_ok rfl (.tmp 27) (.tmp 28) rfl W.heap.size m G rfl (HMO.out.below (((Below.refl _ _).alloc (Nat.le_refl _) _).alloc (by simp) _) HMO.out.lt) c.p HP.out rfl y true HG1.out HG2.out ?_)
          | (refine wpList_store_fresh rfl 64 (.tmp 10) (.tmp 30) rfl _ _ _ _ rfl (by simp) rfl iPn rfl (onePn y) ?_))
        generalize hwz : ((wr.alloc (.cells #[.bool c.put, .int .u64 (c.rev : Int), .string c.p.key, .int .i64 c.p.s, .int .i64 c.p.e, .int .u64 (c.t.c : Int), .float .f64 c.t.s, .bool c.t.o, .float .f64 c.t.lo, .float .f64 c.t.hi] 43)).alloc (.cells #[.string c.p.key, .int .i64 c.p.s, .int .i64 c.p.e] 62)).alloc (.cells #[.bool y.th, .int .u64 (y.rev : Int), .int .u64 (y.t.c : Int), .float .f64 y.t.s, .bool y.t.o, .float .f64 y.t.lo, .float .f64 y.t.hi] 64) = wy
        have HZY : Hid (ZW wy c y wr.heap.size) := Lib.hid (by rw [← hwz]; exact zw_rows wr c y)
        have HBY : Hid (Below W.heap.size W wy) := Lib.hid (by rw [← hwz]; exact bto HB.out (zw_below wr c y))
        have HMY : Hid (MapOf wy W.heap.size m G) := Lib.hid (by rw [← hwz]; exact HMO.out.below (zw_below wr c y) HMO.out.lt)
        clear hwz HG1 HG2
        rcases hmy : mayB y c with _ | _
        · have HMB : Hid (∀ w, Calls Tryd.prog 36 #[.agg #[.bool y.th, .int .u64 (y.rev : Int), .int .u64 (y.t.c : Int), .float .f64 y.t.s, .bool y.t.o, .float .f64 y.t.lo, .float .f64 y.t.hi], .agg #[.bool c.put, .int .u64 (c.rev : Int), .string c.p.key, .int .i64 c.p.s, .int .i64 c.p.e, .int .u64 (c.t.c : Int), .float .f64 c.t.s, .bool c.t.o, .float .f64 c.t.lo, .float .f64 c.t.hi]] w fun e w' => e = .returned (.bool false) ∧ Below w.heap.size w w') := Lib.hid (fun w => by have h := mayBe_any y c HXOK.out HCOK.out w; rw [hmy] at h; exact h)
          have HNO : Hid (accB l0 more = false) := Lib.hid (accB_stop l0 more (k + 1) (by rw [HAC.out]; exact hmy))
          clear hmy
          go_wp2_with (first
            | (refine wpList_load_row rfl 64 (.tmp 10) rfl _ rfl _ _ _ _ HZY.out.rx uPn rfl iPn ?_)
            | (refine wpList_load_row rfl 43 (.tmp 8) rfl _ rfl _ _ _ _ HZY.out.rc uCh rfl iCh ?_)
            | (go_at_call 36; with_reducible refine (HMB.out _).mono ?_; rintro e w2 ⟨rfl, hb2⟩; have HB2 := Lib.hid hb2; clear hb2))
          go_ret2
          exact ⟨bto HBY.out HB2.out, .inl ⟨rfl, HNO.out⟩⟩
        · have HMB : Hid (∀ w, Calls Tryd.prog 36 #[.agg #[.bool y.th, .int .u64 (y.rev : Int), .int .u64 (y.t.c : Int), .float .f64 y.t.s, .bool y.t.o, .float .f64 y.t.lo, .float .f64 y.t.hi], .agg #[.bool c.put, .int .u64 (c.rev : Int), .string c.p.key, .int .i64 c.p.s, .int .i64 c.p.e, .int .u64 (c.t.c : Int), .float .f64 c.t.s, .bool c.t.o, .float .f64 c.t.lo, .float .f64 c.t.hi]] w fun e w' => e = .returned (.bool true) ∧ Below w.heap.size w w') := Lib.hid (fun w => by have h := mayBe_any y c HXOK.out HCOK.out w; rw [hmy] at h; exact h)
          have HA2 : Hid (accB l0 (more.take (k + 1)) = true) := Lib.hid (by rw [HAC.out]; exact hmy)
          have hrev := HREV.out hmy
          have HBH := Lib.hid fun w => behind_any y c hrev w
          have HY := Lib.hid (stepA_ok c HCOK.out hrev)
          clear hmy hrev
          go_upto_region 11 with (first
            | (refine wpList_load_row rfl 64 (.tmp 10) rfl _ rfl _ _ _ _ HZY.out.rx uPn rfl iPn ?_)
            | (refine wpList_load_row rfl 43 (.tmp 8) rfl _ rfl _ _ _ _ HZY.out.rc uCh rfl iCh ?_)
            | (go_at_call 36; with_reducible refine (HMB.out _).mono ?_; rintro e w2 ⟨rfl, hb2⟩; have HB2 := Lib.hid hb2; clear hb2))
          have HZ2 : Hid (ZW w2 c y wr.heap.size) := Lib.hid (HZY.out.below HB2.out)
          have HM2 : Hid (MapOf w2 W.heap.size m G) := Lib.hid (MapOf.below HMY.out HB2.out HMY.out.lt)
          have HKW : Hid (∀ {w4 : World}, Kept (fun k => k = W.heap.size) w2 w4 → Below W.heap.size W w4) := Lib.hid (fun h => (bto HBY.out HB2.out).trans (h.below (by have := (bto HBY.out HB2.out).size; omega) (fun k hk => by omega)))
          refine wp_region_held_drew (S := fun w => Kept (fun k => k = W.heap.size) w2 w) (by kernel_rfl) ((Kept.refl _ w2).drew) (fun hHeld => ?_)
          refine wpAnyH_take (i := 0) (v := .map (some W.heap.size)) rfl (by kernel_rfl) (by kernel_rfl) (by kernel_rfl) (fun _ _ _ h => h) (Or.inl ⟨by rfl, fun _ _ => rfl⟩) hHeld ?_
          try dsimp only
          try simp only [Act.put, List.getElem_toArray, List.getElem_cons_zero, List.getElem_cons_succ, List.setIfInBounds_toArray, List.set_cons_zero, List.set_cons_succ]
          refine wpAnyH_take (i := 1) (v := .agg #[.string c.p.key, .int .i64 c.p.s, .int .i64 c.p.e]) rfl (by kernel_rfl) (by kernel_rfl) (by kernel_rfl) (fun _ _ _ h => h) (yieldsIf_row rfl 62 (.tmp 9) rfl (wr.heap.size + 1) rfl _ _ _ _ (fun w (hw : Kept (fun k => k = W.heap.size) w2 w) => (HZ2.out.kept hw HQ.out.1 HQ.out.2.1 HQ.out.2.2).rp) uPl rfl iPl) hHeld ?_
          try dsimp only
          try simp only [Act.put, List.getElem_toArray, List.getElem_cons_zero, List.getElem_cons_succ, List.setIfInBounds_toArray, List.set_cons_zero, List.set_cons_succ]
          refine wpAnyH_take (i := 2) (v := .agg #[.bool y.th, .int .u64 (y.rev : Int), .int .u64 (y.t.c : Int), .float .f64 y.t.s, .bool y.t.o, .float .f64 y.t.lo, .float .f64 y.t.hi]) rfl (by kernel_rfl) (by kernel_rfl) (by kernel_rfl) (fun _ _ _ h => h) (yieldsIf_row rfl 64 (.tmp 10) rfl (wr.heap.size + 1 + 1) rfl _ _ _ _ (fun w (hw : Kept (fun k => k = W.heap.size) w2 w) => (HZ2.out.kept hw HQ.out.1 HQ.out.2.1 HQ.out.2.2).rx) uPn rfl iPn) hHeld ?_
          try dsimp only
          try simp only [Act.put, List.getElem_toArray, List.getElem_cons_zero, List.getElem_cons_succ, List.setIfInBounds_toArray, List.set_cons_zero, List.set_cons_succ]
          refine wpAnyH_take (i := 3) (v := .agg #[.bool c.put, .int .u64 (c.rev : Int), .string c.p.key, .int .i64 c.p.s, .int .i64 c.p.e, .int .u64 (c.t.c : Int), .float .f64 c.t.s, .bool c.t.o, .float .f64 c.t.lo, .float .f64 c.t.hi]) rfl (by kernel_rfl) (by kernel_rfl) (by kernel_rfl) (fun _ _ _ h => h) (yieldsIf_row rfl 43 (.tmp 8) rfl wr.heap.size rfl _ _ _ _ (fun w (hw : Kept (fun k => k = W.heap.size) w2 w) => (HZ2.out.kept hw HQ.out.1 HQ.out.2.1 HQ.out.2.2).rc) uCh rfl iCh) hHeld ?_
          try dsimp only
          try simp only [Act.put, List.getElem_toArray, List.getElem_cons_zero, List.getElem_cons_succ, List.setIfInBounds_toArray, List.set_cons_zero, List.set_cons_succ]
          refine wpAnyH_ready (rs := [4]) (by kernel_rfl) (by simp) (AllReadyH.cons rfl (fun K hK => ?_) AllReadyH.nil)
          go_simp
          refine (HBH.out _).mono ?_
          rintro e w3 ⟨rfl, hb3⟩
          have HK3 : Hid (Kept (fun k => k = W.heap.size) w2 w3) := Lib.hid (hHeld.trans (Kept.of_below hb3))
          have HM3 : Hid (MapOf w3 W.heap.size m G) := Lib.hid (MapOf.below (B := w2.heap.size) HM2.out ⟨hb3.os, hb3.tape, hb3.output, hb3.size, hb3.block⟩ HM2.out.lt)
          clear hb3 hHeld
          refine hK.out _ _ HK3.out (fun hHeld => ?_)
          clear hK K hHeld
          try dsimp only
          try simp only [Act.put, List.getElem_toArray, List.getElem_cons_zero, List.getElem_cons_succ, List.setIfInBounds_toArray, List.set_cons_zero, List.set_cons_succ]
          obtain ⟨w4, hr4, hm4, hg4⟩ := HM3.out.put HN.out HP.out HY.out
          have HM4 := Lib.hid hm4; have HG4 := Lib.hid hg4; clear hm4 hg4
          unfold plV pnV at hr4
          refine wpAnyH_ready (rs := [5]) (by kernel_rfl) (by simp) (AllReadyH.cons rfl (fun K hK => ?_) AllReadyH.nil)
          go_simp
          have HK4 : Hid (Kept (fun k => k = W.heap.size) w2 w4) := Lib.hid (HK3.out.trans (Kept.of_grown HG4.out))
          refine hK.out _ _ HK4.out (fun hHeld => ?_)
          clear hK K hHeld
          refine wpAnyH_done (by kernel_rfl) ?_ _
          clear hr4
          go_wp2
          go_roundw
          case rel => exact ⟨k + 1, m + 1, upd G c.p (stepA c), by have := HKL.out; omega, by go_num, by have := HMK.out; omega, HM4.out, HA2.out, by rw [ov_upd, HOV.out, HLS.out], HKW.out HK4.out⟩
          case measure => (have := HKL.out; simp [intOf]; omega)
    · have hz : ¬ ((k : Int) < (n : Int)) := by omega
      go_wp2
      go_ret2
      have hk : k = more.length := by have := HKL0.out; have := HNL.out; omega
      refine ⟨HB.out, .inr ⟨W.heap.size, m, G, rfl, ?_, Nat.le_refl _, by have := HMK.out; omega, HMO.out, ?_⟩⟩
      · have h := HACC.out; rw [hk, List.take_length] at h; exact h
      · have h := HOV.out; rw [hk, List.take_length] at h; exact h
end Go.Proofs.YtbimfopbilcdgaaDoor
