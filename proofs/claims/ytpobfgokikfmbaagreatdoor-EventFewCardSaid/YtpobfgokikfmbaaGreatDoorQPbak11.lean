/-
  Layer event: readEvents of events' columns.
-/
import Derived.Deep.DeepCutAuto
import Derived.Test.YtpobfgokikfmbaaGreatDoorQPbak10
import Derived.Test.YtpobfgokikfmbaaGreatDoorQPbak0
import Derived.Test.YtpobfgokikfmbaaGreatDoorQPbak9
import Derived.Laws.BytesArg
import Derived.Test.YtpobfgokikfmbaaGreatDoorQPbak1
set_option linter.unusedSimpArgs false
set_option linter.unusedVariables false
set_option maxRecDepth 8000
namespace Go.Proofs.YtpobfgokikfmbaaGreatDoor
open Go.RowKit Go.Sort Go.WideShapes Col
/-- An event as it is read back: what is no number has one form. -/
def canE (x : Ev) : Ev := ⟨x.off, x.part, x.time, x.key, Fl.canon x.val⟩
theorem kept_setCells (L : Nat) : ∀ (vs : List Value) (o : Nat) (w : World), Kept (fun j => j = L) w (w.setCells L o vs)
  | [], _, _ => Kept.refl _ _
  | v :: r, o, w => (kept_cellB w L o v).trans (kept_setCells L r (o + 1) _)
theorem row_setCells (L : Nat) (t : TypeId) (fr : Nat × Nat) : ∀ (vs : List Value) (o : Nat) (w : World) (cs : Array Value), w.heap[L]? = some (.cells cs t fr) → ∃ cs', (w.setCells L o vs).heap[L]? = some (.cells cs' t fr) ∧ cs'.size = cs.size
  | [], _, _, cs, h => ⟨cs, h, rfl⟩
  | v :: r, o, w, cs, h => by
    have h1 : (w.setCell ⟨L, o, none⟩ v).heap[L]? = some (.cells (cs.setIfInBounds o v) t fr) := by
      rw [World.setCell]
      simp [Array.getElem?_modify, h]
    obtain ⟨cs', h2, h3⟩ := row_setCells L t fr r (o + 1) _ _ h1
    exact ⟨cs', h2, by rw [h3]; simp⟩
/-- A row of n events of which the first are known. -/
structure RowE (w : World) (L n : Nat) (xs : List Ev) : Prop where
  row : ∃ cs, w.heap[L]? = some (.cells cs 38 (0, 0)) ∧ cs.size = n * 5
  at' : w.rangeAt L 0 (evs xs)
theorem RowE.lt {w : World} {L n : Nat} {xs : List Ev} (h : RowE w L n xs) : L < w.heap.size := by
  obtain ⟨cs, h1, -⟩ := h.row
  exact (Array.getElem?_eq_some_iff.1 h1).1
theorem RowE.keep {S : Nat → Prop} {w w' : World} {L n : Nat} {xs : List Ev} (h : RowE w L n xs) (hk : Kept S w w') (hS : ¬ S L) : RowE w' L n xs := by
  have hl := h.lt
  obtain ⟨cs, h1, h2⟩ := h.row
  exact ⟨⟨cs, hk.heap h1 hS, h2⟩, fun j v hv => (hk.cell (p := ⟨L, 0 + j, none⟩) hl hS).trans (h.at' j v hv)⟩
theorem RowE.there {w : World} {L n : Nat} {xs : List Ev} (h : RowE w L n xs) (hn : xs.length < n) (x : Ev) : w.there L (xs.length * 5) x.cells.toArray.size := by
  obtain ⟨cs, h1, h2⟩ := h.row
  intro j hj
  have hj : j < 5 := hj
  have hl : xs.length * 5 + j < cs.size := by omega
  refine ⟨?_, row_frozen h1 _⟩
  rw [cell_of_row _ _ _ _ _ _ h1, Array.getElem?_eq_getElem hl]
  rfl
theorem RowE.put {w : World} {L n : Nat} {xs : List Ev} (h : RowE w L n xs) (hn : xs.length < n) (x : Ev) : RowE (w.setCells L (xs.length * 5) x.cells) L n (xs ++ [x]) := by
  have ht := h.there hn x
  obtain ⟨cs, h1, h2⟩ := h.row
  obtain ⟨cs', h3, h4⟩ := row_setCells L _ _ x.cells (xs.length * 5) w cs h1
  refine ⟨⟨cs', h3, by omega⟩, fun j v hv => ?_⟩
  have he : evs (xs ++ [x]) = evs xs ++ x.cells := by unfold evs; simp
  have hl : (evs xs).length = xs.length * 5 := evs_length xs
  rw [he] at hv
  by_cases hj : j < (evs xs).length
  · rw [List.getElem?_append_left hj] at hv
    exact World.rangeAt_setCells_apart (h.at') L (xs.length * 5) x.cells (.inr (.inl (by omega))) j v hv
  · rw [List.getElem?_append_right (by omega)] at hv
    have := World.rangeAt_setCells_same w L (xs.length * 5) x.cells (by simpa using ht) (j - (evs xs).length) v hv
    rw [show xs.length * 5 + (j - (evs xs).length) = 0 + j by omega] at this
    exact this
theorem RowE.evAt {w : World} {L n : Nat} {xs : List Ev} (h : RowE w L n xs) : EvAt w (some ⟨L, 0, none⟩) xs := fun j v hv => ⟨L, 0, rfl, h.lt, h.at' j v hv⟩
theorem yb_cvY {ops : Array Oper} {S : World → Prop} {op : Oper} {a : Act} (hw : Region.wanted op (yielded ops a.tmps) = true) (t1 t2 : TypeId) (x : Operand) (ho : op.op = .convert t1 t2 x) (v u : Value) (hx : a.eval x = v)
    (h : ∀ w, S w → (convert t1 t2 v).run Tryz.prog w = .ok u w) : YieldsIf Tryz.prog ops S op u a :=
  .inl ⟨hw, fun w hw' => by
    unfold execOp
    simp only [ho, hx, Sem.run_bind, Sem.run_pure, h w hw', Result.andThen_ok]⟩
theorem yrowY {P : Program} {ops : Array Oper} {S : World → Prop} {op : Oper} {a : Act} (hw : Region.wanted op (yielded ops a.tmps) = true) (ty : TypeId) (x : Operand) (ho : op.op = .load ty x)
    (g : Nat) (hx : a.eval x = .pointer (some ⟨g, 0, none⟩)) (t : TypeId) (cs : Array Value) (fr : Nat × Nat) (d : TypeDesc) (hS : ∀ w, S w → w.heap[g]? = some (.cells cs t fr))
    (hu : P.underlying ty = some d) (hd : (match d with | .struct _ | .array _ _ => true | _ => false) = true) (hi : (P.info? ty).map (·.size) = some cs.size) : YieldsIf P ops S op (.agg cs) a :=
  .inl ⟨hw, fun w hw' => by
    unfold execOp
    simp only [ho, hx, Instr.loadAt, Instr.sureAddr, Sem.run_bind, Sem.run_pure, Result.andThen_ok, run_loadVar_row w g t ty cs fr d (hS w hw') hu hd hi]⟩
theorem below_setRowY {B : Nat} {a w : World} (h : Below B a w) {g : Nat} (hg : B ≤ g) (cs : Array Value) : Below B a (w.setRow g cs) :=
  h.trans ⟨rfl, rfl, rfl, by simp, fun k hk => setRow_other w g k cs (by omega)⟩
theorem c_iuY (x : Ev) (hx : x.off < 1099511627776) (w : World) : (convert 2 35 (.int .i64 (oI x))).run Tryz.prog w = .ok (.int .u64 (x.off : Int)) w := by
  have e : IntKind.u64.wrap (oI x) = (x.off : Int) := by unfold oI; rw [IntKind.wrap_u64]; omega
  go_simp
theorem b_eqI (z : Int) (w : World) : (binOp .eql 2 (.int .i64 z) (.int .i64 z)).run Tryz.prog w = .ok (.bool true) w := by
  go_simp
theorem iEvC (x : Ev) : (Tryz.prog.info? 38).map (·.size) = some x.cells.toArray.size := by rw [List.size_toArray]; exact iEvB x
/-- How readEvents ends. -/
def EvEnds (g : Nat) (l : List Ev) (p : Int) (w : World) (e : Ending) (w' : World) : Prop :=
  ((∀ x ∈ l, formB x p = true) ∧ ∃ L n, e = .returned (.slice (some ⟨L, 0, none⟩) n n) ∧ n = l.length ∧ EvAt w' (some ⟨L, 0, none⟩) (l.map canE) ∧ Rd w' g [] ∧ Kept (Only g) w w' ∧ w.heap.size ≤ L) ∨
  ((∃ x ∈ l, formB x p = false) ∧ e = .panicked [gu g] ∧ Gone w' g ∧ Kept (Only g) w w')
theorem evY_assoc (l : List Ev) : evY l = txL (intsL (l.map oI)) ++ (txL (intsL (l.map Ev.part)) ++ (txL (intsL (l.map Ev.time)) ++ (txL (textsL (l.map kL)) ++ (txL (intsL ((l.map Ev.val).map rwI)) ++ [])))) := by
  unfold evY; simp [List.append_assoc]
theorem form_canE (x : Ev) (p : Int) : formB (canE x) p = formB x p := rfl
theorem lblk {w : World} {b : Addr} {t : TypeId} (h : ∃ cs fr, w.heap[b.block]? = some (.cells cs t fr)) : b.block < w.heap.size := by
  obtain ⟨cs, fr, h⟩ := h
  exact (Array.getElem?_eq_some_iff.1 h).1

set_option maxHeartbeats 32000000 in
theorem readEv_core (g : Nat) (l : List Ev) (n : Nat) (hn : Hid (n = l.length)) (hn6 : n ≤ 60) (hfin : Hid (∀ x ∈ l, FineE x)) (p : Int) (D1 D2 D3 D4 D5 q2 q3 q4 q5 : List Nat) (w : World) (HR0 : Hid (Rd w g (D1 ++ q2)))
    (HC1 : Hid (∀ w', Rd w' g (D1 ++ q2) → Calls Tryz.prog 45 #[.pointer (some ⟨g, 0, none⟩), .func (.func 46) #[] #[]] w' (ColY (PI (l.map oI)) g q2 w')))
    (HC2 : Hid (∀ w', Rd w' g q2 → Calls Tryz.prog 45 #[.pointer (some ⟨g, 0, none⟩), .func (.func 46) #[] #[]] w' (ColY (PI (l.map Ev.part)) g q3 w')))
    (HC3 : Hid (∀ w', Rd w' g q3 → Calls Tryz.prog 45 #[.pointer (some ⟨g, 0, none⟩), .func (.func 46) #[] #[]] w' (ColY (PI (l.map Ev.time)) g q4 w')))
    (HC4 : Hid (∀ w', Rd w' g q4 → Calls Tryz.prog 47 #[.pointer (some ⟨g, 0, none⟩), .func (.func 48) #[] #[]] w' (ColY (PT (l.map kL)) g q5 w')))
    (HC5 : Hid (∀ w', Rd w' g q5 → Calls Tryz.prog 49 #[.pointer (some ⟨g, 0, none⟩), .func (.func 50) #[] #[]] w' (ColY (PF ((l.map Ev.val).map Fl.canon)) g [] w'))) :
    Calls Tryz.prog 21 #[.pointer (some ⟨g, 0, none⟩), .int .i64 p] w (EvEnds g l p w) := by
  obtain ⟨ie, hie, iez0, iez1, iez2⟩ := info_parts infoEv
  have ieb : ie.bytes * n ≤ 281474976710656 := by rw [iez2]; omega
  have hnm : n ≤ maxLen := by unfold maxLen; omega
  go_enter Tryz.func21, Tryz.ntmps21
  go_upto_region 6 with (first
    | (go_at_call 45; (with_reducible refine (HC1.out w HR0.out).mono ?_); rintro e w1 ⟨A1, n1, c1, rfl, hp, hr, hk⟩; have P1 := Lib.hid hp; have Rg1 := Lib.hid hr; have K1 := Lib.hid hk; clear hp hr hk)
    | (go_at_call 45; (with_reducible refine (HC2.out w1 Rg1.out).mono ?_); rintro e w2 ⟨A2, n2, c2, rfl, hp, hr, hk⟩; have P2 := Lib.hid hp; have Rg2 := Lib.hid hr; have K2 := Lib.hid hk; clear hp hr hk)
    | (go_at_call 45; (with_reducible refine (HC3.out w2 Rg2.out).mono ?_); rintro e w3 ⟨A3, n3, c3, rfl, hp, hr, hk⟩; have P3 := Lib.hid hp; have Rg3 := Lib.hid hr; have K3 := Lib.hid hk; clear hp hr hk)
    | (go_at_call 47; (with_reducible refine (HC4.out w3 Rg3.out).mono ?_); rintro e w4 ⟨A4, n4, c4, rfl, hp, hr, hk⟩; have P4 := Lib.hid hp; have Rg4 := Lib.hid hr; have K4 := Lib.hid hk; clear hp hr hk)
    | (go_at_call 49; (with_reducible refine (HC5.out w4 Rg4.out).mono ?_); rintro e w5 ⟨A5, n5, c5, rfl, hp, hr, hk⟩; have P5 := Lib.hid hp; have Rg5 := Lib.hid hr; have K5 := Lib.hid hk; clear hp hr hk))
  have P1_ := Lib.hid (P1.out.kept K2.out (fun b hb => P1.out.off Rg1.out b hb))
  have P1__ := Lib.hid (P1_.out.kept K3.out (fun b hb => P1_.out.off Rg2.out b hb))
  have P1___ := Lib.hid (P1__.out.kept K4.out (fun b hb => P1__.out.off Rg3.out b hb))
  have P1____ := Lib.hid (P1___.out.kept K5.out (fun b hb => P1___.out.off Rg4.out b hb))
  have Q1 := P1____
  have P2_ := Lib.hid (P2.out.kept K3.out (fun b hb => P2.out.off Rg2.out b hb))
  have P2__ := Lib.hid (P2_.out.kept K4.out (fun b hb => P2_.out.off Rg3.out b hb))
  have P2___ := Lib.hid (P2__.out.kept K5.out (fun b hb => P2__.out.off Rg4.out b hb))
  have Q2 := P2___
  have P3_ := Lib.hid (P3.out.kept K4.out (fun b hb => P3.out.off Rg3.out b hb))
  have P3__ := Lib.hid (P3_.out.kept K5.out (fun b hb => P3_.out.off Rg4.out b hb))
  have Q3 := P3__
  have P4_ := Lib.hid (P4.out.kept K5.out (fun b hb => P4.out.off Rg4.out b hb))
  have Q4 := P4_
  have Q5 := P5
  have e1 : n1 = n := by rw [Q1.out.1]; rw [List.length_map]; exact hn.out.symm
  have e2 : n2 = n := by rw [Q2.out.1]; rw [List.length_map]; exact hn.out.symm
  have e3 : n3 = n := by rw [Q3.out.1]; rw [List.length_map]; exact hn.out.symm
  have e4 : n4 = n := by rw [Q4.out.1]; rw [List.length_map]; exact hn.out.symm
  have e5 : n5 = n := by rw [Q5.out.1]; rw [List.length_map, List.length_map]; exact hn.out.symm
  have K := Lib.hid ((((K1.out.trans K2.out).trans K3.out).trans K4.out).trans K5.out)
  have HRd := Rg5
  clear P1 P2 P3 P4 P5 Rg1 Rg2 Rg3 Rg4 Rg5 K1 K2 K3 K4 K5 HC1 HC2 HC3 HC4 HC5 HR0
  obtain rfl : n1 = n := e1
  obtain rfl : n2 = n1 := e2
  obtain rfl : n3 = n2 := e3
  obtain rfl : n4 = n3 := e4
  obtain rfl : n5 = n4 := e5
  have hnn : ((n5 : Int) == (n5 : Int)) = true := by simp
  go_wp2_with (first
    | (refine wpList_make_full _ rfl (.tmp 24) (.tmp 24) 23 rfl w5.heap.size 38 ie (.agg #[Value.int .u64 0, .int .i64 0, .int .i64 0, .string ByteArray.empty, .float .f64 0]) 5 Tryz.underlying23 hie iez0 iez1 .i64 .i64 _ _ n5 rfl rfl rfl rfl ieb hnm (Nat.le_refl _) ?_; intro w6 own hgr; have HOW := Lib.hid own; have HG6 : Hid (Below w5.heap.size w5 w6) := Lib.hid ((Below.refl _ w5).grown hgr (Nat.le_refl _) (by intro k hk; cases hk)); clear own hgr)
    | (go_at_call 51; (with_reducible refine (check_true _ _).mono ?_); rintro e w9 ⟨rfl, rfl⟩))
  have HRE : Hid (RowE w6 w5.heap.size n5 []) := Lib.hid (by
    rcases HOW.out.2 with ⟨e0, h0⟩ | ⟨L', cap', cur, e0, hb, hrow, h1, h2, hs, ht⟩
    · cases e0
    · cases e0; exact ⟨⟨cur, hrow, hs⟩, fun j v hv => by simp [evs] at hv⟩)
  have KB : Kept (fun _ => False) w5 w6 := Kept.of_below HG6.out
  have l1 : Hid (∀ b, A1 = some b → b.block < w5.heap.size) := Lib.hid fun b hb => lblk (Q1.out.2.2.2.2 b hb)
  have l2 : Hid (∀ b, A2 = some b → b.block < w5.heap.size) := Lib.hid fun b hb => lblk (Q2.out.2.2.2.2 b hb)
  have l3 : Hid (∀ b, A3 = some b → b.block < w5.heap.size) := Lib.hid fun b hb => lblk (Q3.out.2.2.2.2 b hb)
  have l4 : Hid (∀ b, A4 = some b → b.block < w5.heap.size) := Lib.hid fun b hb => lblk (Q4.out.2.2.2 b hb)
  have l5 : Hid (∀ b, A5 = some b → b.block < w5.heap.size) := Lib.hid fun b hb => lblk (Q5.out.2.2.2 b hb)
  have V1 := Lib.hid (Q1.out.kept KB (fun _ _ h => h)); have V2 := Lib.hid (Q2.out.kept KB (fun _ _ h => h)); have V3 := Lib.hid (Q3.out.kept KB (fun _ _ h => h)); have V4 := Lib.hid (Q4.out.kept KB (fun _ _ h => h)); have V5 := Lib.hid (Q5.out.kept KB (fun _ _ h => h))
  have HR6 := Lib.hid (HRd.out.highY KB (fun _ h => h.elim))
  have HGL : Hid (g < w5.heap.size) := Lib.hid (by obtain ⟨A, C, h⟩ := HRd.out; exact h.lt)
  have KW := Lib.hid (K.out.trans (KB.mono fun k h => h.elim))
  have HWS : Hid (w.heap.size ≤ w5.heap.size) := Lib.hid K.out.size
  clear Q1 Q2 Q3 Q4 Q5 HRd KB K HOW HG6
  generalize w5.heap.size = L at *
  go_loopw [56] (fun v wr => ∃ i : Nat, i ≤ n5 ∧ v = .int .i64 (i : Int) ∧ RowE wr L n5 ((l.take i).map canE) ∧ Kept (fun j => j = L) w6 wr ∧ ∀ x ∈ l.take i, formB x p = true) (fun v _ => n5 - (intOf v).toNat)
  case atStart => exact ⟨0, Nat.zero_le _, rfl, by rw [List.take_zero]; exact HRE.out, Kept.refl _ _, fun x hx => by rw [List.take_zero] at hx; cases hx⟩
  case round =>
    obtain ⟨i, hi, rfl, hre, hk, hfo⟩ := hrel
    have HRR := Lib.hid hre; have HKK := Lib.hid hk; have HFF := Lib.hid hfo
    clear hre hk hfo HRE
    have KWr := Lib.hid (KW.out.trans' HKK.out (fun j hj => .inr (by have hj : j = L := hj; have := HWS.out; omega)))
    have HRr := Lib.hid (HR6.out.highY HKK.out (fun j hj => by have hj : j = L := hj; have := HGL.out; omega))
    by_cases hlt : i < n5
    · have hii : (i : Int) < (n5 : Int) := by omega
      have hil : i < l.length := by have := hn.out; omega
      obtain ⟨x, hx⟩ : ∃ x, l[i]? = some x := ⟨_, List.getElem?_eq_getElem hil⟩
      have HX := Lib.hid hx
      have HF := Lib.hid (hfin.out x (List.mem_of_getElem? hx))
      have u1 := V1.out.kept HKK.out (fun b hb e => by have e : b.block = L := e; have := l1.out b hb; omega)
      have u2 := V2.out.kept HKK.out (fun b hb e => by have e : b.block = L := e; have := l2.out b hb; omega)
      have u3 := V3.out.kept HKK.out (fun b hb e => by have e : b.block = L := e; have := l3.out b hb; omega)
      have u4 := V4.out.kept HKK.out (fun b hb e => by have e : b.block = L := e; have := l4.out b hb; omega)
      have u5 := V5.out.kept HKK.out (fun b hb e => by have e : b.block = L := e; have := l5.out b hb; omega)
      obtain ⟨-, b1, o1, hA1, hb1, hc1⟩ := u1.2.2.2.1 i (oI x) (by rw [List.getElem?_map, hx]; rfl)
      obtain ⟨-, b2, o2, hA2, hb2, hc2⟩ := u2.2.2.2.1 i x.part (by rw [List.getElem?_map, hx]; rfl)
      obtain ⟨-, b3, o3, hA3, hb3, hc3⟩ := u3.2.2.2.1 i x.time (by rw [List.getElem?_map, hx]; rfl)
      obtain ⟨-, b4, o4, hA4, hb4, hc4⟩ := u4.2.2.1 i (kL x) (by rw [List.getElem?_map, hx]; rfl)
      obtain ⟨-, b5, o5, hA5, hb5, hc5⟩ := u5.2.2.1 i (Fl.canon x.val) (by rw [List.getElem?_map, List.getElem?_map, hx]; rfl)
      subst hA1; subst hA2; subst hA3; subst hA4; subst hA5
      have HB2 := Lib.hid hb2; have HC2 := Lib.hid hc2
      clear u1 u2 u3 u4 u5 hx
      go_upto_region 11 with fail
      refine wp_region_held_drew (S := fun w' => Below wr.heap.size wr w') (by kernel_rfl) ((Below.refl _ _).drew) (fun hHeld => ?_)
      refine wpAnyH_take (i := 0) (v := .slice (some ⟨b1, o1, none⟩) n5 c1) rfl (by kernel_rfl) (by kernel_rfl) (by kernel_rfl) (fun _ _ _ h => h) (Or.inl ⟨by rfl, fun _ _ => rfl⟩) hHeld ?_
      try dsimp only
      try simp only [Act.put, List.getElem_toArray, List.getElem_cons_zero, List.getElem_cons_succ, List.setIfInBounds_toArray, List.set_cons_zero, List.set_cons_succ]
      refine wpAnyH_take (i := 1) (v := .int .i64 (i : Int)) rfl (by kernel_rfl) (by kernel_rfl) (by kernel_rfl) (fun _ _ _ h => h) (Or.inl ⟨by rfl, fun _ _ => rfl⟩) hHeld ?_
      try dsimp only
      try simp only [Act.put, List.getElem_toArray, List.getElem_cons_zero, List.getElem_cons_succ, List.setIfInBounds_toArray, List.set_cons_zero, List.set_cons_succ]
      refine wpAnyH_take (i := 2) (v := .pointer (some ⟨b1, o1 + i, none⟩)) rfl (by kernel_rfl) (by kernel_rfl) (by kernel_rfl) (fun _ _ _ h => h) (Or.inl ⟨by rfl, fun w _ => by go_simp⟩) hHeld ?_
      try dsimp only
      try simp only [Act.put, List.getElem_toArray, List.getElem_cons_zero, List.getElem_cons_succ, List.setIfInBounds_toArray, List.set_cons_zero, List.set_cons_succ]
      refine wpAnyH_take (i := 3) (v := .int .i64 (oI x)) rfl (by kernel_rfl) (by kernel_rfl) (by kernel_rfl) (fun _ _ _ h => h) (Or.inl ⟨by rfl, fun w hw => by have hc : w.cell? ⟨b1, o1 + i, none⟩ = some (.int .i64 (oI x)) := (hw.cell (p := ⟨b1, o1 + i, none⟩) hb1).trans hc1; go_simp⟩) hHeld ?_
      try dsimp only
      try simp only [Act.put, List.getElem_toArray, List.getElem_cons_zero, List.getElem_cons_succ, List.setIfInBounds_toArray, List.set_cons_zero, List.set_cons_succ]
      refine wpAnyH_take (i := 4) (v := .int .u64 (x.off : Int)) rfl (by kernel_rfl) (by kernel_rfl) (by kernel_rfl) (fun _ _ _ h => h) (yb_cv rfl 2 35 (.tmp 62) rfl _ _ rfl (fun w => c_iuY x HF.out.off w)) hHeld ?_
      try dsimp only
      try simp only [Act.put, List.getElem_toArray, List.getElem_cons_zero, List.getElem_cons_succ, List.setIfInBounds_toArray, List.set_cons_zero, List.set_cons_succ]
      refine wpAnyH_take (i := 5) (v := .slice (some ⟨b2, o2, none⟩) n5 c2) rfl (by kernel_rfl) (by kernel_rfl) (by kernel_rfl) (fun _ _ _ h => h) (Or.inl ⟨by rfl, fun _ _ => rfl⟩) hHeld ?_
      try dsimp only
      try simp only [Act.put, List.getElem_toArray, List.getElem_cons_zero, List.getElem_cons_succ, List.setIfInBounds_toArray, List.set_cons_zero, List.set_cons_succ]
      refine wpAnyH_take (i := 6) (v := .int .i64 (i : Int)) rfl (by kernel_rfl) (by kernel_rfl) (by kernel_rfl) (fun _ _ _ h => h) (Or.inl ⟨by rfl, fun _ _ => rfl⟩) hHeld ?_
      try dsimp only
      try simp only [Act.put, List.getElem_toArray, List.getElem_cons_zero, List.getElem_cons_succ, List.setIfInBounds_toArray, List.set_cons_zero, List.set_cons_succ]
      refine wpAnyH_take (i := 7) (v := .pointer (some ⟨b2, o2 + i, none⟩)) rfl (by kernel_rfl) (by kernel_rfl) (by kernel_rfl) (fun _ _ _ h => h) (Or.inl ⟨by rfl, fun w _ => by go_simp⟩) hHeld ?_
      try dsimp only
      try simp only [Act.put, List.getElem_toArray, List.getElem_cons_zero, List.getElem_cons_succ, List.setIfInBounds_toArray, List.set_cons_zero, List.set_cons_succ]
      refine wpAnyH_take (i := 8) (v := .int .i64 x.part) rfl (by kernel_rfl) (by kernel_rfl) (by kernel_rfl) (fun _ _ _ h => h) (Or.inl ⟨by rfl, fun w hw => by have hc : w.cell? ⟨b2, o2 + i, none⟩ = some (.int .i64 x.part) := (hw.cell (p := ⟨b2, o2 + i, none⟩) hb2).trans hc2; go_simp⟩) hHeld ?_
      try dsimp only
      try simp only [Act.put, List.getElem_toArray, List.getElem_cons_zero, List.getElem_cons_succ, List.setIfInBounds_toArray, List.set_cons_zero, List.set_cons_succ]
      refine wpAnyH_take (i := 9) (v := .slice (some ⟨b3, o3, none⟩) n5 c3) rfl (by kernel_rfl) (by kernel_rfl) (by kernel_rfl) (fun _ _ _ h => h) (Or.inl ⟨by rfl, fun _ _ => rfl⟩) hHeld ?_
      try dsimp only
      try simp only [Act.put, List.getElem_toArray, List.getElem_cons_zero, List.getElem_cons_succ, List.setIfInBounds_toArray, List.set_cons_zero, List.set_cons_succ]
      refine wpAnyH_take (i := 10) (v := .int .i64 (i : Int)) rfl (by kernel_rfl) (by kernel_rfl) (by kernel_rfl) (fun _ _ _ h => h) (Or.inl ⟨by rfl, fun _ _ => rfl⟩) hHeld ?_
      try dsimp only
      try simp only [Act.put, List.getElem_toArray, List.getElem_cons_zero, List.getElem_cons_succ, List.setIfInBounds_toArray, List.set_cons_zero, List.set_cons_succ]
      refine wpAnyH_take (i := 11) (v := .pointer (some ⟨b3, o3 + i, none⟩)) rfl (by kernel_rfl) (by kernel_rfl) (by kernel_rfl) (fun _ _ _ h => h) (Or.inl ⟨by rfl, fun w _ => by go_simp⟩) hHeld ?_
      try dsimp only
      try simp only [Act.put, List.getElem_toArray, List.getElem_cons_zero, List.getElem_cons_succ, List.setIfInBounds_toArray, List.set_cons_zero, List.set_cons_succ]
      refine wpAnyH_take (i := 12) (v := .int .i64 x.time) rfl (by kernel_rfl) (by kernel_rfl) (by kernel_rfl) (fun _ _ _ h => h) (Or.inl ⟨by rfl, fun w hw => by have hc : w.cell? ⟨b3, o3 + i, none⟩ = some (.int .i64 x.time) := (hw.cell (p := ⟨b3, o3 + i, none⟩) hb3).trans hc3; go_simp⟩) hHeld ?_
      try dsimp only
      try simp only [Act.put, List.getElem_toArray, List.getElem_cons_zero, List.getElem_cons_succ, List.setIfInBounds_toArray, List.set_cons_zero, List.set_cons_succ]
      refine wpAnyH_take (i := 13) (v := .slice (some ⟨b4, o4, none⟩) n5 c4) rfl (by kernel_rfl) (by kernel_rfl) (by kernel_rfl) (fun _ _ _ h => h) (Or.inl ⟨by rfl, fun _ _ => rfl⟩) hHeld ?_
      try dsimp only
      try simp only [Act.put, List.getElem_toArray, List.getElem_cons_zero, List.getElem_cons_succ, List.setIfInBounds_toArray, List.set_cons_zero, List.set_cons_succ]
      refine wpAnyH_take (i := 14) (v := .int .i64 (i : Int)) rfl (by kernel_rfl) (by kernel_rfl) (by kernel_rfl) (fun _ _ _ h => h) (Or.inl ⟨by rfl, fun _ _ => rfl⟩) hHeld ?_
      try dsimp only
      try simp only [Act.put, List.getElem_toArray, List.getElem_cons_zero, List.getElem_cons_succ, List.setIfInBounds_toArray, List.set_cons_zero, List.set_cons_succ]
      refine wpAnyH_take (i := 15) (v := .pointer (some ⟨b4, o4 + i, none⟩)) rfl (by kernel_rfl) (by kernel_rfl) (by kernel_rfl) (fun _ _ _ h => h) (Or.inl ⟨by rfl, fun w _ => by go_simp⟩) hHeld ?_
      try dsimp only
      try simp only [Act.put, List.getElem_toArray, List.getElem_cons_zero, List.getElem_cons_succ, List.setIfInBounds_toArray, List.set_cons_zero, List.set_cons_succ]
      refine wpAnyH_take (i := 16) (v := .string (strB (kL x))) rfl (by kernel_rfl) (by kernel_rfl) (by kernel_rfl) (fun _ _ _ h => h) (Or.inl ⟨by rfl, fun w hw => by have hc : w.cell? ⟨b4, o4 + i, none⟩ = some (.string (strB (kL x))) := (hw.cell (p := ⟨b4, o4 + i, none⟩) hb4).trans hc4; go_simp⟩) hHeld ?_
      try dsimp only
      try simp only [Act.put, List.getElem_toArray, List.getElem_cons_zero, List.getElem_cons_succ, List.setIfInBounds_toArray, List.set_cons_zero, List.set_cons_succ]
      refine wpAnyH_take (i := 17) (v := .slice (some ⟨b5, o5, none⟩) n5 c5) rfl (by kernel_rfl) (by kernel_rfl) (by kernel_rfl) (fun _ _ _ h => h) (Or.inl ⟨by rfl, fun _ _ => rfl⟩) hHeld ?_
      try dsimp only
      try simp only [Act.put, List.getElem_toArray, List.getElem_cons_zero, List.getElem_cons_succ, List.setIfInBounds_toArray, List.set_cons_zero, List.set_cons_succ]
      refine wpAnyH_take (i := 18) (v := .int .i64 (i : Int)) rfl (by kernel_rfl) (by kernel_rfl) (by kernel_rfl) (fun _ _ _ h => h) (Or.inl ⟨by rfl, fun _ _ => rfl⟩) hHeld ?_
      try dsimp only
      try simp only [Act.put, List.getElem_toArray, List.getElem_cons_zero, List.getElem_cons_succ, List.setIfInBounds_toArray, List.set_cons_zero, List.set_cons_succ]
      refine wpAnyH_take (i := 19) (v := .pointer (some ⟨b5, o5 + i, none⟩)) rfl (by kernel_rfl) (by kernel_rfl) (by kernel_rfl) (fun _ _ _ h => h) (Or.inl ⟨by rfl, fun w _ => by go_simp⟩) hHeld ?_
      try dsimp only
      try simp only [Act.put, List.getElem_toArray, List.getElem_cons_zero, List.getElem_cons_succ, List.setIfInBounds_toArray, List.set_cons_zero, List.set_cons_succ]
      refine wpAnyH_take (i := 20) (v := .float .f64 (Fl.canon x.val)) rfl (by kernel_rfl) (by kernel_rfl) (by kernel_rfl) (fun _ _ _ h => h) (Or.inl ⟨by rfl, fun w hw => by have hc : w.cell? ⟨b5, o5 + i, none⟩ = some (.float .f64 (Fl.canon x.val)) := (hw.cell (p := ⟨b5, o5 + i, none⟩) hb5).trans hc5; go_simp⟩) hHeld ?_
      try dsimp only
      try simp only [Act.put, List.getElem_toArray, List.getElem_cons_zero, List.getElem_cons_succ, List.setIfInBounds_toArray, List.set_cons_zero, List.set_cons_succ]
      refine wpAnyH_take (i := 21) (v := .agg #[.int .u64 (x.off : Int), .int .i64 x.part, .int .i64 x.time, .string (strB (kL x)), .float .f64 (Fl.canon x.val)]) rfl (by kernel_rfl) (by kernel_rfl) (by kernel_rfl) (fun _ _ _ h => h) (Or.inl ⟨by rfl, fun w _ => by go_simp⟩) hHeld ?_
      try dsimp only
      try simp only [Act.put, List.getElem_toArray, List.getElem_cons_zero, List.getElem_cons_succ, List.setIfInBounds_toArray, List.set_cons_zero, List.set_cons_succ]
      refine wpAnyH_ready (rs := [22]) (by kernel_rfl) (by simp) (AllReadyH.cons rfl (fun K hK => ?_) AllReadyH.nil)
      go_simp
      refine hK.out _ _ (hHeld.alloc ((Below.refl wr.heap.size wr).drew).size _) (fun _ => ?_)
      clear hK K
      try dsimp only
      try simp only [Act.put, List.getElem_toArray, List.getElem_cons_zero, List.getElem_cons_succ, List.setIfInBounds_toArray, List.set_cons_zero, List.set_cons_succ]
      refine wpAnyH_ready (rs := [23]) (by kernel_rfl) (by simp) (AllReadyH.cons rfl (fun K hK => ?_) AllReadyH.nil)
      rw [if_pos (by rfl)]
      refine wp_store_row 38 (.tmp 12) (.tmp 80) rfl _ #[.int .u64 (x.off : Int), .int .i64 x.part, .int .i64 x.time, .string (strB (kL x)), .float .f64 (Fl.canon x.val)] rfl rfl _ _ (heap_alloc_new' _ _) (iEvC (canE x)) rfl (by simp [Value.oneCell']) ?_
      refine hK.out _ _ (below_setRowY (((Below.refl wr.heap.size wr).alloc (Nat.le_refl _) _).drew) (Nat.le_refl _) _) (fun _ => ?_)
      clear hK K
      refine wpAnyH_done (by kernel_rfl) ?_ _
      have hcE : (canE x).cells.toArray = #[.int .u64 (x.off : Int), .int .i64 x.part, .int .i64 x.time, .string (strB (kL x)), .float .f64 (Fl.canon x.val)] := by rw [kL_strB]; rfl
      rw [← hcE]
      obtain ⟨w7, hw7⟩ : ∃ w7, w7 = ((wr.alloc (.cells #[.int .u64 0, .int .i64 0, .int .i64 0, .string { data := #[] }, .float .f64 0] 38)).drew).setRow wr.heap.size (canE x).cells.toArray := ⟨_, rfl⟩
      obtain ⟨bE, hbE⟩ : ∃ bE, bE = wr.heap.size := ⟨_, rfl⟩
      have hb7 : Below wr.heap.size wr w7 := by rw [hw7]; exact below_setRowY (((Below.refl wr.heap.size wr).alloc (Nat.le_refl _) _).drew) (Nat.le_refl _) _
      have HEV : Hid (w7.heap[bE]? = some (.cells (canE x).cells.toArray 38 (0, 0))) := Lib.hid (by rw [hw7, hbE]; exact setRow_heap _ _ _ _ _ _ (heap_alloc_new' wr (.cells #[.int .u64 0, .int .i64 0, .int .i64 0, .string { data := #[] }, .float .f64 0] 38)))
      have HBE : Hid (bE < w7.heap.size) := Lib.hid (Array.getElem?_eq_some_iff.1 HEV.out).1
      have HR7 := Lib.hid (HRr.out.highY (S := fun _ => False) (Kept.of_below hb7) (fun _ h => h.elim))
      have HK7 := Lib.hid (KWr.out.trans (Kept.of_below hb7))
      have HB7 := Lib.hid hb7
      have HB2' : Hid (b2 < w7.heap.size) := Lib.hid (Nat.lt_of_lt_of_le HB2.out hb7.size)
      have HC2' : Hid (w7.cell? ⟨b2, o2 + i, none⟩ = some (.int .i64 x.part)) := Lib.hid ((hb7.cell (p := ⟨b2, o2 + i, none⟩) HB2.out).trans HC2.out)
      have HLR : Hid (L < bE) := Lib.hid (by rw [hbE]; exact HRR.out.lt)
      have HW7 := Lib.hid hw7; have HBB := Lib.hid hbE
      clear hw7 hbE hb7 hHeld hb1 hb2 hb3 hb4 hb5 hc1 hc2 hc3 hc4 hc5 HB2 HC2 hcE
      rw [← HW7.out, ← HBB.out]
      have HB2 := HB2'; have HC2 := HC2'
      clear HB2' HC2'
      go_upto_region 12 with fail
      rcases hfx : formB x p with _ | _
      · have HFO : Hid (formB (canE x) p = false) := Lib.hid hfx
        have HFO0 := Lib.hid hfx
        clear hfx
        refine wp_region_held_drew (S := fun w' => Below w7.heap.size w7 w') (by kernel_rfl) ((Below.refl _ _).drew) (fun hHeld => ?_)
        refine wpAnyH_take (i := 0) (v := .pointer (some ⟨g, 0, none⟩)) rfl (by kernel_rfl) (by kernel_rfl) (by kernel_rfl) (fun _ _ _ h => h) (Or.inl ⟨by rfl, fun _ _ => rfl⟩) hHeld ?_
        try dsimp only
        try simp only [Act.put, List.getElem_toArray, List.getElem_cons_zero, List.getElem_cons_succ, List.setIfInBounds_toArray, List.set_cons_zero, List.set_cons_succ]
        refine wpAnyH_take (i := 1) (v := .agg (canE x).cells.toArray) rfl (by kernel_rfl) (by kernel_rfl) (by kernel_rfl) (fun _ _ _ h => h) (yrowY rfl 38 (.tmp 12) rfl bE rfl _ _ (0, 0) _ (fun w' hw => hw.block bE HBE.out |>.trans HEV.out) uEvB rfl (iEvC (canE x))) hHeld ?_
        try dsimp only
        try simp only [Act.put, List.getElem_toArray, List.getElem_cons_zero, List.getElem_cons_succ, List.setIfInBounds_toArray, List.set_cons_zero, List.set_cons_succ]
        refine wpAnyH_take (i := 2) (v := .int .i64 p) rfl (by kernel_rfl) (by kernel_rfl) (by kernel_rfl) (fun _ _ _ h => h) (Or.inl ⟨by rfl, fun _ _ => rfl⟩) hHeld ?_
        try dsimp only
        try simp only [Act.put, List.getElem_toArray, List.getElem_cons_zero, List.getElem_cons_succ, List.setIfInBounds_toArray, List.set_cons_zero, List.set_cons_succ]
        refine wpAnyH_ready (rs := [3]) (by kernel_rfl) (by simp) (AllReadyH.cons rfl (fun K hK => ?_) AllReadyH.nil)
        go_simp
        refine (form_any (canE x) p _).mono ?_
        rintro e v1 ⟨rfl, hb1⟩
        replace hHeld := below_to hHeld hb1
        rw [HFO.out]
        refine hK.out _ _ hHeld (fun hHeld => ?_)
        clear hK K
        try dsimp only
        try simp only [Act.put, List.getElem_toArray, List.getElem_cons_zero, List.getElem_cons_succ, List.setIfInBounds_toArray, List.set_cons_zero, List.set_cons_succ]
        refine wpAnyH_take (i := 4) (v := .bool false) rfl (by kernel_rfl) (by kernel_rfl) (by kernel_rfl) (fun _ _ _ h => h) (Or.inl ⟨by rfl, fun _ _ => rfl⟩) hHeld ?_
        try dsimp only
        try simp only [Act.put, List.getElem_toArray, List.getElem_cons_zero, List.getElem_cons_succ, List.setIfInBounds_toArray, List.set_cons_zero, List.set_cons_succ]
        refine wpAnyH_take (i := 5) (v := undef) rfl (by kernel_rfl) (by kernel_rfl) (by kernel_rfl) (fun _ _ _ h => h) (Or.inr ⟨by rfl, rfl⟩) hHeld ?_
        try dsimp only
        try simp only [Act.put, List.getElem_toArray, List.getElem_cons_zero, List.getElem_cons_succ, List.setIfInBounds_toArray, List.set_cons_zero, List.set_cons_succ]
        refine wpAnyH_take (i := 6) (v := undef) rfl (by kernel_rfl) (by kernel_rfl) (by kernel_rfl) (fun _ _ _ h => h) (Or.inr ⟨by rfl, rfl⟩) hHeld ?_
        try dsimp only
        try simp only [Act.put, List.getElem_toArray, List.getElem_cons_zero, List.getElem_cons_succ, List.setIfInBounds_toArray, List.set_cons_zero, List.set_cons_succ]
        refine wpAnyH_take (i := 7) (v := undef) rfl (by kernel_rfl) (by kernel_rfl) (by kernel_rfl) (fun _ _ _ h => h) (Or.inr ⟨by rfl, rfl⟩) hHeld ?_
        try dsimp only
        try simp only [Act.put, List.getElem_toArray, List.getElem_cons_zero, List.getElem_cons_succ, List.setIfInBounds_toArray, List.set_cons_zero, List.set_cons_succ]
        refine wpAnyH_take (i := 8) (v := undef) rfl (by kernel_rfl) (by kernel_rfl) (by kernel_rfl) (fun _ _ _ h => h) (Or.inr ⟨by rfl, rfl⟩) hHeld ?_
        try dsimp only
        try simp only [Act.put, List.getElem_toArray, List.getElem_cons_zero, List.getElem_cons_succ, List.setIfInBounds_toArray, List.set_cons_zero, List.set_cons_succ]
        refine wpAnyH_take (i := 9) (v := undef) rfl (by kernel_rfl) (by kernel_rfl) (by kernel_rfl) (fun _ _ _ h => h) (Or.inr ⟨by rfl, rfl⟩) hHeld ?_
        try dsimp only
        try simp only [Act.put, List.getElem_toArray, List.getElem_cons_zero, List.getElem_cons_succ, List.setIfInBounds_toArray, List.set_cons_zero, List.set_cons_succ]
        refine wpAnyH_take (i := 10) (v := undef) rfl (by kernel_rfl) (by kernel_rfl) (by kernel_rfl) (fun _ _ _ h => h) (Or.inr ⟨by rfl, rfl⟩) hHeld ?_
        try dsimp only
        try simp only [Act.put, List.getElem_toArray, List.getElem_cons_zero, List.getElem_cons_succ, List.setIfInBounds_toArray, List.set_cons_zero, List.set_cons_succ]
        refine wpAnyH_take (i := 11) (v := undef) rfl (by kernel_rfl) (by kernel_rfl) (by kernel_rfl) (fun _ _ _ h => h) (Or.inr ⟨by rfl, rfl⟩) hHeld ?_
        try dsimp only
        try simp only [Act.put, List.getElem_toArray, List.getElem_cons_zero, List.getElem_cons_succ, List.setIfInBounds_toArray, List.set_cons_zero, List.set_cons_succ]
        refine wpAnyH_take (i := 12) (v := .bool false) rfl (by kernel_rfl) (by kernel_rfl) (by kernel_rfl) (fun _ _ _ h => h) (yb_pick rfl (.tmp 85) (.tmp 92) (.const (.bool false)) rfl false _ rfl rfl) hHeld ?_
        try dsimp only
        try simp only [Act.put, List.getElem_toArray, List.getElem_cons_zero, List.getElem_cons_succ, List.setIfInBounds_toArray, List.set_cons_zero, List.set_cons_succ]
        refine wpAnyH_ready (rs := [13]) (by kernel_rfl) (by simp) (AllReadyH.cons rfl (fun K hK => ?_) AllReadyH.nil)
        go_simp
        obtain ⟨A9, C9, hRA⟩ := HR7.out.highY (S := fun _ => False) (Kept.of_below hHeld) (fun _ h => h.elim)
        refine (check_false g C9 A9 [] _ (Lib.hid hRA)).mono ?_
        rintro e v2 ⟨rfl, h1, h2⟩
        exact ⟨rfl, .inr ⟨⟨x, List.mem_of_getElem? HX.out, HFO0.out⟩, rfl, h1, (HK7.out.trans (Kept.of_below hHeld)).trans h2⟩⟩
      · have HFO : Hid (formB (canE x) p = true) := Lib.hid hfx
        have HFX := Lib.hid hfx
        clear hfx
        refine wp_region_held_drew (S := fun w' => Below w7.heap.size w7 w') (by kernel_rfl) ((Below.refl _ _).drew) (fun hHeld => ?_)
        refine wpAnyH_take (i := 0) (v := .pointer (some ⟨g, 0, none⟩)) rfl (by kernel_rfl) (by kernel_rfl) (by kernel_rfl) (fun _ _ _ h => h) (Or.inl ⟨by rfl, fun _ _ => rfl⟩) hHeld ?_
        try dsimp only
        try simp only [Act.put, List.getElem_toArray, List.getElem_cons_zero, List.getElem_cons_succ, List.setIfInBounds_toArray, List.set_cons_zero, List.set_cons_succ]
        refine wpAnyH_take (i := 1) (v := .agg (canE x).cells.toArray) rfl (by kernel_rfl) (by kernel_rfl) (by kernel_rfl) (fun _ _ _ h => h) (yrowY rfl 38 (.tmp 12) rfl bE rfl _ _ (0, 0) _ (fun w' hw => hw.block bE HBE.out |>.trans HEV.out) uEvB rfl (iEvC (canE x))) hHeld ?_
        try dsimp only
        try simp only [Act.put, List.getElem_toArray, List.getElem_cons_zero, List.getElem_cons_succ, List.setIfInBounds_toArray, List.set_cons_zero, List.set_cons_succ]
        refine wpAnyH_take (i := 2) (v := .int .i64 p) rfl (by kernel_rfl) (by kernel_rfl) (by kernel_rfl) (fun _ _ _ h => h) (Or.inl ⟨by rfl, fun _ _ => rfl⟩) hHeld ?_
        try dsimp only
        try simp only [Act.put, List.getElem_toArray, List.getElem_cons_zero, List.getElem_cons_succ, List.setIfInBounds_toArray, List.set_cons_zero, List.set_cons_succ]
        refine wpAnyH_ready (rs := [3]) (by kernel_rfl) (by simp) (AllReadyH.cons rfl (fun K hK => ?_) AllReadyH.nil)
        go_simp
        refine (form_any (canE x) p _).mono ?_
        rintro e v1 ⟨rfl, hb1⟩
        replace hHeld := below_to hHeld hb1
        rw [HFO.out]
        refine hK.out _ _ hHeld (fun hHeld => ?_)
        clear hK K
        try dsimp only
        try simp only [Act.put, List.getElem_toArray, List.getElem_cons_zero, List.getElem_cons_succ, List.setIfInBounds_toArray, List.set_cons_zero, List.set_cons_succ]
        refine wpAnyH_take (i := 4) (v := .bool true) rfl (by kernel_rfl) (by kernel_rfl) (by kernel_rfl) (fun _ _ _ h => h) (Or.inl ⟨by rfl, fun _ _ => rfl⟩) hHeld ?_
        try dsimp only
        try simp only [Act.put, List.getElem_toArray, List.getElem_cons_zero, List.getElem_cons_succ, List.setIfInBounds_toArray, List.set_cons_zero, List.set_cons_succ]
        refine wpAnyH_take (i := 5) (v := .pointer (some ⟨bE, 1, none⟩)) rfl (by kernel_rfl) (by kernel_rfl) (by kernel_rfl) (fun _ _ _ h => h) (Or.inl ⟨by rfl, fun w _ => by go_simp⟩) hHeld ?_
        try dsimp only
        try simp only [Act.put, List.getElem_toArray, List.getElem_cons_zero, List.getElem_cons_succ, List.setIfInBounds_toArray, List.set_cons_zero, List.set_cons_succ]
        refine wpAnyH_take (i := 6) (v := .int .i64 x.part) rfl (by kernel_rfl) (by kernel_rfl) (by kernel_rfl) (fun _ _ _ h => h) (Or.inl ⟨by rfl, fun w hw => by have hc : w.cell? ⟨bE, 1, none⟩ = some (.int .i64 x.part) := EvRow.c (x := canE x) ((hw.block bE HBE.out).trans HEV.out) 1 _ rfl; go_simp⟩) hHeld ?_
        try dsimp only
        try simp only [Act.put, List.getElem_toArray, List.getElem_cons_zero, List.getElem_cons_succ, List.setIfInBounds_toArray, List.set_cons_zero, List.set_cons_succ]
        refine wpAnyH_take (i := 7) (v := .slice (some ⟨b2, o2, none⟩) n5 c2) rfl (by kernel_rfl) (by kernel_rfl) (by kernel_rfl) (fun _ _ _ h => h) (Or.inl ⟨by rfl, fun _ _ => rfl⟩) hHeld ?_
        try dsimp only
        try simp only [Act.put, List.getElem_toArray, List.getElem_cons_zero, List.getElem_cons_succ, List.setIfInBounds_toArray, List.set_cons_zero, List.set_cons_succ]
        refine wpAnyH_take (i := 8) (v := .int .i64 (i : Int)) rfl (by kernel_rfl) (by kernel_rfl) (by kernel_rfl) (fun _ _ _ h => h) (Or.inl ⟨by rfl, fun _ _ => rfl⟩) hHeld ?_
        try dsimp only
        try simp only [Act.put, List.getElem_toArray, List.getElem_cons_zero, List.getElem_cons_succ, List.setIfInBounds_toArray, List.set_cons_zero, List.set_cons_succ]
        refine wpAnyH_take (i := 9) (v := .pointer (some ⟨b2, o2 + i, none⟩)) rfl (by kernel_rfl) (by kernel_rfl) (by kernel_rfl) (fun _ _ _ h => h) (Or.inl ⟨by rfl, fun w _ => by go_simp⟩) hHeld ?_
        try dsimp only
        try simp only [Act.put, List.getElem_toArray, List.getElem_cons_zero, List.getElem_cons_succ, List.setIfInBounds_toArray, List.set_cons_zero, List.set_cons_succ]
        refine wpAnyH_take (i := 10) (v := .int .i64 x.part) rfl (by kernel_rfl) (by kernel_rfl) (by kernel_rfl) (fun _ _ _ h => h) (Or.inl ⟨by rfl, fun w hw => by have hc : w.cell? ⟨b2, o2 + i, none⟩ = some (.int .i64 x.part) := (hw.cell (p := ⟨b2, o2 + i, none⟩) HB2.out).trans HC2.out; go_simp⟩) hHeld ?_
        try dsimp only
        try simp only [Act.put, List.getElem_toArray, List.getElem_cons_zero, List.getElem_cons_succ, List.setIfInBounds_toArray, List.set_cons_zero, List.set_cons_succ]
        refine wpAnyH_take (i := 11) (v := .bool true) rfl (by kernel_rfl) (by kernel_rfl) (by kernel_rfl) (fun _ _ _ h => h) (yb_bin rfl .eql 2 2 (.tmp 87) (.tmp 91) rfl _ _ _ rfl rfl (fun _ => rfl) (b_eqI _)) hHeld ?_
        try dsimp only
        try simp only [Act.put, List.getElem_toArray, List.getElem_cons_zero, List.getElem_cons_succ, List.setIfInBounds_toArray, List.set_cons_zero, List.set_cons_succ]
        refine wpAnyH_take (i := 12) (v := .bool true) rfl (by kernel_rfl) (by kernel_rfl) (by kernel_rfl) (fun _ _ _ h => h) (yb_pick rfl (.tmp 85) (.tmp 92) (.const (.bool false)) rfl true _ rfl rfl) hHeld ?_
        try dsimp only
        try simp only [Act.put, List.getElem_toArray, List.getElem_cons_zero, List.getElem_cons_succ, List.setIfInBounds_toArray, List.set_cons_zero, List.set_cons_succ]
        refine wpAnyH_ready (rs := [13]) (by kernel_rfl) (by simp) (AllReadyH.cons rfl (fun K hK => ?_) AllReadyH.nil)
        go_simp
        refine (check_true _ _).mono ?_
        rintro e v2 ⟨rfl, rfl⟩
        refine hK.out _ _ hHeld (fun hHeld => ?_)
        clear hK K
        refine wpAnyH_done (by kernel_rfl) ?_ _
        have HB8 := Lib.hid hHeld
        have HE8 := Lib.hid ((hHeld.block bE HBE.out).trans HEV.out)
        have HR8 : Hid (RowE v1 L n5 ((l.take i).map canE)) := Lib.hid ((HRR.out.keep (S := fun _ => False) (Kept.of_below HB7.out) (fun h => h)).keep (S := fun _ => False) (Kept.of_below hHeld) (fun h => h))
        have hmi : ((l.take i).map canE).length = i := by rw [List.length_map, List.length_take]; omega
        have hth := HR8.out.there (by omega) (canE x)
        have hpu := HR8.out.put (by omega) (canE x)
        rw [hmi] at hth hpu
        have HTH := Lib.hid hth
        have HPU : Hid (RowE (v1.setCells L (i * 5) (canE x).cells.toArray.toList) L n5 (((l.take i).map canE) ++ [canE x])) := Lib.hid hpu
        have HIC := Lib.hid (iEvC (canE x))
        have HON := Lib.hid (oneEvB (canE x))
        clear hHeld HEV HBE hth hpu HR8 hmi
        generalize (canE x).cells.toArray = CE at *
        go_wp2_with (first
          | (refine wpList_load_row rfl 38 (.tmp 12) rfl bE rfl _ CE (0, 0) _ HE8.out uEvB rfl HIC.out ?_)
          | (refine wpList_store_mid rfl 38 (.tmp 98) (.tmp 97) rfl L (i * 5) CE rfl rfl HTH.out HIC.out HON.out ?_))
        go_roundw
        case rel =>
          have htk : l.take (i + 1) = l.take i ++ [x] := by rw [List.take_add_one, HX.out]; rfl
          refine ⟨i + 1, by omega, by go_num, ?_, ?_, fun y hy => ?_⟩
          · rw [htk, List.map_append]; exact HPU.out
          · exact ((HKK.out.trans (Kept.of_below HB7.out)).trans (Kept.of_below HB8.out)).trans (kept_setCells L _ _ _)
          · rw [htk, List.mem_append] at hy
            rcases hy with h | h
            · exact HFF.out y h
            · rw [List.mem_singleton] at h; subst h; exact HFX.out
        case measure => simp [intOf]; omega
    · obtain rfl : i = n5 := by omega
      have hii : ¬ (i : Int) < (i : Int) := by omega
      have htk : l.take i = l := List.take_of_length_le (by have := hn.out; omega)
      rw [htk] at HRR HFF
      go_wp2
      go_ret
      exact .inl ⟨HFF.out, L, i, rfl, hn.out, HRR.out.evAt, HRr.out, KWr.out, HWS.out⟩
end Go.Proofs.YtpobfgokikfmbaaGreatDoor

set_option linter.unusedSimpArgs false
set_option linter.unusedVariables false
set_option maxRecDepth 8000
namespace Go.Proofs.YtpobfgokikfmbaaGreatDoor
open Go.RowKit

theorem drewN_halves {w : World} (h : Hid (HalvesAt w)) (n : Nat) : Hid (HalvesAt (w.drewN n)) := Lib.hid (h.out.keep (below_drewN (Below.refl _ _) n))

theorem tup4_eq {a a' : Int} {A : Option Addr} {n n' c : Nat} {i i' e e' : Int} (h1 : a = a') (h2 : n = n') (h3 : i = i') (h4 : e = e') :
    Ending.returned (.tuple #[.int .u8 a, .slice A n c, .int .i64 i, .int .i64 e]) = Ending.returned (.tuple #[.int .u8 a', .slice A n' c, .int .i64 i', .int .i64 e']) := by rw [h1, h2, h3, h4]

set_option maxHeartbeats 2000000 in
theorem read_sum (a : Option Addr) (l : List Nat) (len cap k : Nat) (hk : k ≤ len) (A : Option Addr) (n C : Nat) (q : List Nat) (w : World) (R : Hid (Rest w a l len cap k A n C q)) (hl : len ≤ maxLen) (HG : Hid (HalvesAt w))
    (N V S : Nat) (HN : Hid (N = Pg.sz q)) (h1 : N ≤ 1048576) (h2 : N + 9 ≤ n) (HV : Hid (Pg.val ((q.drop (5 + N)).take 4) = V)) (HS : Hid (Pg.sum (q.take (5 + N)) = S)) (hne : ((V : Int) != (S : Int)) = true) :
    Calls Tryz.prog 18 #[.slice a len cap, .int .i64 (k : Int)] w (RetQ w l k) := by
  have hc' := R.out.cap'
  have hcn := R.out.cap
  have he : Hid (Pg.errAt l k = 4) := Lib.hid (by
    have hq := R.out.len.out
    rw [R.out.err]; unfold Pg.errOf
    rw [if_neg (by omega), ← HN.out, if_neg (by omega), if_neg (by omega), if_neg]
    rw [HV.out, HS.out]; rw [bne_iff_ne] at hne; omega)
  have hr := R.out.run
  have HL := R.out.len
  have HQ := R.out.byAt
  obtain ⟨A1, C1, r1, d1, d2, d3⟩ := cut_from A n C (5 + N) (by omega) hcn
  obtain ⟨A2, r2, d4⟩ := cut_to A n C (5 + N) (by omega) hcn
  have r1 : ∀ w, (Instr.slice 22 (.slice A n C) (some (.int .i64 (5 + (N : Int)))) none none).run Tryz.prog w = .ok (.slice A1 (n - (5 + N)) C1) w := r1
  have r2 : ∀ w, (Instr.slice 22 (.slice A n C) none (some (.int .i64 (5 + (N : Int)))) none).run Tryz.prog w = .ok (.slice A2 (5 + N) C) w := r2
  have D3 := Lib.hid d3
  have D4 := Lib.hid d4
  have L1 : Hid (n - (5 + N) = (q.drop (5 + N)).length) := Lib.hid (by rw [List.length_drop, HL.out])
  have L2 : Hid (5 + N = (q.take (5 + N)).length) := Lib.hid (by rw [List.length_take, ← HL.out]; omega)
  clear d3 d4
  have g1 : ¬ (len : Int) < (k : Int) := by omega
  have g2 : 4 ≤ n - (5 + N) := by omega
  have g3 : n - (5 + N) ≤ maxLen := by omega
  have g4 : 5 + N ≤ maxLen := by unfold maxLen; omega
  unfold maxLen at hl hc'
  go_enter Tryz.func18, Tryz.ntmps18
  go_wp2_with (go_at_call 41; (refine (wordOf_at A q n C HL (by omega) (by unfold maxLen; omega) w HQ).mono ?_); rintro e w2 ⟨rfl, hb⟩; rw [← HN.out]; have HB := Lib.hid hb; clear hb; have HQ2 := ByAt.at HQ HB.out; have HG2 := HalvesAt.at HG HB.out)
  go_quiet ((first
    | (go_at_call 41; exact Calls.quiet_of (wordOf_q A1 _ V HV.out _ _ L1 g2 g3 _ (drewN_by (Lib.hid (D3.out _ _ HL.out HQ2.out)) _)))
    | (go_at_call 40; exact Calls.quiet_of_same (sum_q A2 _ S HS.out _ _ L2 g4 _ (drewN_by (Lib.hid (D4.out _ _ HL.out HQ2.out)) _) (drewN_halves HG2 _)))))
  go_wp2
  refine bodyPost_ret (results_tmp4 rfl _ _ _) rfl ?_
  exact RetQ.err 4 he.out (by decide) (below_drewN HB.out _)

set_option maxHeartbeats 2000000 in
theorem read_ok (a : Option Addr) (l : List Nat) (len cap k : Nat) (hk : k ≤ len) (A : Option Addr) (n C : Nat) (q : List Nat) (w : World) (R : Hid (Rest w a l len cap k A n C q)) (hl : len ≤ maxLen) (HG : Hid (HalvesAt w))
    (N V : Nat) (HN : Hid (N = Pg.sz q)) (h1 : N ≤ 1048576) (h2 : N + 9 ≤ n) (hkn : Hid (k + n = len)) (HV : Hid (Pg.val ((q.drop (5 + N)).take 4) = V)) (HS : Hid (Pg.sum (q.take (5 + N)) = V)) :
    Calls Tryz.prog 18 #[.slice a len cap, .int .i64 (k : Int)] w (RetQ w l k) := by
  have hc' := R.out.cap'
  have hcn := R.out.cap
  have he : Hid (Pg.errAt l k = 0) := Lib.hid (by
    have hq := R.out.len.out
    rw [R.out.err]; unfold Pg.errOf
    rw [if_neg (by omega), ← HN.out, if_neg (by omega), if_neg (by omega), if_pos]
    rw [HV.out, HS.out])
  have hr := R.out.run
  have HL := R.out.len
  have HQ := R.out.byAt
  have hb : Hid (Pg.bodyAt l k = (q.drop 5).take N) := Lib.hid (by unfold Pg.bodyAt; rw [if_pos he.out, R.out.drop, ← HN.out])
  have hE : Hid (Pg.endAt l k = (k : Int) + 9 + N) := Lib.hid (by unfold Pg.endAt; rw [if_pos he.out, R.out.drop, ← HN.out])
  obtain ⟨A1, C1, r1, d1, d2, d3⟩ := cut_from A n C (5 + N) (by omega) hcn
  obtain ⟨A2, r2, d4⟩ := cut_to A n C (5 + N) (by omega) hcn
  obtain ⟨A3, C3, r3, d5, d6, d7⟩ := cut_mid A n C 5 (5 + N) (by omega) (by omega) hcn
  have r1 : ∀ w, (Instr.slice 22 (.slice A n C) (some (.int .i64 (5 + (N : Int)))) none none).run Tryz.prog w = .ok (.slice A1 (n - (5 + N)) C1) w := r1
  have r2 : ∀ w, (Instr.slice 22 (.slice A n C) none (some (.int .i64 (5 + (N : Int)))) none).run Tryz.prog w = .ok (.slice A2 (5 + N) C) w := r2
  have r3 : ∀ w, (Instr.slice 22 (.slice A n C) (some (.int .i64 5)) (some (.int .i64 (5 + (N : Int)))) none).run Tryz.prog w = .ok (.slice A3 N C3) w := by rw [show 5 + N - 5 = N by omega] at r3; exact r3
  have D3 := Lib.hid d3
  have D4 := Lib.hid d4
  have D7 := Lib.hid d7
  have L1 : Hid (n - (5 + N) = (q.drop (5 + N)).length) := Lib.hid (by rw [List.length_drop, HL.out])
  have L2 : Hid (5 + N = (q.take (5 + N)).length) := Lib.hid (by rw [List.length_take, ← HL.out]; omega)
  have L3 : Hid (N = ((q.drop 5).take (5 + N - 5)).length) := Lib.hid (by rw [List.length_take, List.length_drop, ← HL.out]; omega)
  have h4 : 4 < q.length := by have := HL.out; omega
  have HK : Hid (Pg.kindAt l k = q[4]) := Lib.hid (by unfold Pg.kindAt; rw [if_pos he.out, R.out.drop, List.getD_eq_getElem?_getD, List.getElem?_eq_getElem h4]; rfl)
  have HC := Lib.hid (HQ.out 4 q[4] (List.getElem?_eq_getElem h4))
  generalize q[4] = κ at *
  obtain ⟨-, g, off, rfl, hg, hcell⟩ := HC.out
  have HC := Lib.hid hcell
  clear hcell d3 d4 d7 d5 d6
  have g1 : ¬ (len : Int) < (k : Int) := by omega
  have g2 : 4 ≤ n - (5 + N) := by omega
  have g3 : n - (5 + N) ≤ maxLen := by omega
  have g4 : 5 + N ≤ maxLen := by unfold maxLen; omega
  have g5 : (4 : Int) < (n : Int) := by omega
  have g6 : (k : Int) + (5 + N) + 4 ≤ len := by have := hkn.out; omega
  unfold maxLen at hl hc'
  go_enter Tryz.func18, Tryz.ntmps18
  go_wp2_with (go_at_call 41; (refine (wordOf_at (some ⟨g, off, none⟩) q n C HL (by omega) (by unfold maxLen; omega) w HQ).mono ?_); rintro e w2 ⟨rfl, hb⟩; rw [← HN.out]; have HB := Lib.hid hb; clear hb; have HQ2 := ByAt.at HQ HB.out; have HG2 := HalvesAt.at HG HB.out)
  go_quiet ((first
    | (go_at_call 41; exact Calls.quiet_of (wordOf_q A1 _ V HV.out _ _ L1 g2 g3 _ (drewN_by (Lib.hid (D3.out _ _ HL.out HQ2.out)) _)))
    | (go_at_call 40; exact Calls.quiet_of_same (sum_q A2 _ V HS.out _ _ L2 g4 _ (drewN_by (Lib.hid (D4.out _ _ HL.out HQ2.out)) _) (drewN_halves HG2 _)))))
  go_wp2
  have hcell : w2.cell? ⟨g, off + 4, none⟩ = some (.int .u8 (κ : Int)) := (HB.out.cell (p := ⟨g, off + 4, none⟩) hg).trans HC.out
  have hcell' : (w2.drewN nq).drew.cell? ⟨g, off + 4, none⟩ = some (.int .u8 (κ : Int)) := hcell
  have hg2 : g < w2.heap.size := Nat.lt_of_lt_of_le hg HB.out.size
  have hl3 : N ≤ 140737488355328 := by omega
  have HA3 : Hid (ByAt (w2.drewN nq).drew A3 ((q.drop 5).take (5 + N - 5))) := Lib.hid (D7.out _ _ HL.out HQ2.out)
  go_region_held3 (fun w' => w'.cell? ⟨g, off + 4, none⟩ = some (.int .u8 (κ : Int))) (first | exact hcell' | exact (hb3.cell (p := ⟨g, off + 4, none⟩) hg2).trans hcell' | go_keep)
    ((go_at_call 42; (refine (clone_any A3 _ N C3 L3 hl3 _ HA3).mono ?_); rintro e w3 ⟨A', cap', rfl, hO, hb3⟩))
  all_goals
    go_wp2
    refine bodyPost_ret (results_tmp4 rfl _ _ _) rfl ?_
    have e5 : (q.drop 5).take (5 + N - 5) = Pg.bodyAt l k := by rw [hb.out, show 5 + N - 5 = N by omega]
    rw [e5] at hO
    refine ⟨A', cap', ?_, hO.byAt, hO.caps.1, hO.caps.2, ?_⟩
    · have s1 : IntKind.i64.wrap ((k : Int) + (5 + (N : Int))) = (k : Int) + (5 + (N : Int)) := by rw [IntKind.wrap_i64]; omega
      have s2 : IntKind.i64.wrap ((k : Int) + (5 + (N : Int)) + 4) = (k : Int) + (5 + (N : Int)) + 4 := by rw [IntKind.wrap_i64]; omega
      exact tup4_eq (by rw [HK.out]) (by rw [hb.out, List.length_take, List.length_drop]) (by rw [hE.out, s1, s2]; omega) (by rw [he.out]; rfl)
    · exact (below_drewN HB.out nq).drew.trans (hb3.mono HB.out.size)

/-- Read: whatever the bytes and the place. -/
theorem read_any (a : Option Addr) (l : List Nat) (len cap : Nat) (i : Int) (hlen : Hid (len = l.length)) (hc : len ≤ cap) (hl : cap ≤ maxLen) (w : World) (HA : Hid (ByAt w a l)) (HG : Hid (HalvesAt w)) :
    Calls Tryz.prog 18 #[.slice a len cap, .int .i64 i] w (RetQ w l i) := by
  have hlm : len ≤ maxLen := by omega
  by_cases hi : i < 0 ∨ (len : Int) < i
  · exact read_arg a l len cap i hlen hlm hi w
  · obtain ⟨k, rfl⟩ : ∃ k : Nat, i = (k : Int) := ⟨i.toNat, by omega⟩
    have hk : k ≤ len := by omega
    obtain ⟨A, n, C, q, hR⟩ := rest_of a l len cap k hlen hk hc hl w HA
    have R := Lib.hid hR
    by_cases hn : n < 9
    · exact read_short a l len cap k hk A n C q w R hn hlm
    · have hql := hR.len.out
      have hkn : k + n = len := by
        have := congrArg List.length hR.drop
        rw [List.length_drop] at this
        have h2 := hlen.out
        omega
      have hqb := hR.byAt.out.lt
      have hz : Pg.sz q < 4294967296 := by
        have h := Pg.val_lt (q.take 4) (fun x hx => hqb x (List.mem_of_mem_take hx))
        rw [List.length_take, Nat.min_eq_left (by omega)] at h
        exact h
      by_cases hs : 1048576 < Pg.sz q ∨ n < Pg.sz q + 9
      · exact read_long a l len cap k hk A n C q w R hn hlm hs hz
      · by_cases hv : Pg.val ((q.drop (5 + Pg.sz q)).take 4) = Pg.sum (q.take (5 + Pg.sz q))
        · exact read_ok a l len cap k hk A n C q w R hlm HG (Pg.sz q) _ (Lib.hid rfl) (by omega) (by omega) (Lib.hid hkn) (Lib.hid rfl) (Lib.hid hv.symm)
        · exact read_sum a l len cap k hk A n C q w R hlm HG (Pg.sz q) _ _ (Lib.hid rfl) (by omega) (by omega) (Lib.hid rfl) (Lib.hid rfl) (by rw [bne_iff_ne]; omega)
end Go.Proofs.YtpobfgokikfmbaaGreatDoor

set_option linter.unusedSimpArgs false
set_option linter.unusedVariables false
set_option maxRecDepth 8000
namespace Go.Proofs.YtpobfgokikfmbaaGreatDoor
open Go.RowKit

/-- The document's size, from the highest byte on. -/
theorem size_loop (b0 b1 b2 b3 : Nat) (r : List Nat) : Pg.sz (b0 :: b1 :: b2 :: b3 :: r) = b0 + 256 * (b1 + 256 * (b2 + 256 * (b3 + 256 * 0))) := rfl

/-- The first four bytes, in the walk's words. -/
theorem first_four {w : World} {A : Option Addr} {q : List Nat} (h : ByAt w A q) (hn : 9 ≤ q.length) : ∃ g off b0 b1 b2 b3 r, A = some ⟨g, off, none⟩ ∧ q = b0 :: b1 :: b2 :: b3 :: r ∧ b0 < 256 ∧ b1 < 256 ∧ b2 < 256 ∧ b3 < 256 ∧ g < w.heap.size ∧
    w.cell? ⟨g, off, none⟩ = some (.int .u8 (b0 : Int)) ∧ w.cell? ⟨g, off + 1, none⟩ = some (.int .u8 (b1 : Int)) ∧ w.cell? ⟨g, off + 2, none⟩ = some (.int .u8 (b2 : Int)) ∧ w.cell? ⟨g, off + 3, none⟩ = some (.int .u8 (b3 : Int)) := by
  obtain ⟨b0, b1, b2, b3, r, rfl⟩ : ∃ b0 b1 b2 b3 r, q = b0 :: b1 :: b2 :: b3 :: r := by
    match q, hn with
    | b0 :: b1 :: b2 :: b3 :: r, _ => exact ⟨b0, b1, b2, b3, r, rfl⟩
    | [_, _, _], h => simp at h
    | [_, _], h => simp at h
    | [_], h => simp at h
    | [], h => simp at h
  obtain ⟨g, off, rfl, hg, hc⟩ := h.spot (by simp)
  exact ⟨g, off, b0, b1, b2, b3, r, rfl, rfl, h.lt b0 (by simp), h.lt b1 (by simp), h.lt b2 (by simp), h.lt b3 (by simp), hg, hc 0 b0 rfl, hc 1 b1 rfl, hc 2 b2 rfl, hc 3 b3 rfl⟩

def part (b0 b1 b2 b3 : Nat) : Nat → Nat
  | 0 => 0
  | 1 => b3
  | 2 => b3 * 256 + b2
  | 3 => (b3 * 256 + b2) * 256 + b1
  | _ => ((b3 * 256 + b2) * 256 + b1) * 256 + b0
end Go.Proofs.YtpobfgokikfmbaaGreatDoor

set_option linter.unusedSimpArgs false
set_option linter.unusedVariables false
set_option maxRecDepth 8000
namespace Go.Proofs.YtpobfgokikfmbaaGreatDoor
open Go.RowKit Go.WideShapes

end Go.Proofs.YtpobfgokikfmbaaGreatDoor

set_option linter.unusedSimpArgs false
set_option linter.unusedVariables false
set_option maxRecDepth 8000
namespace Go.Proofs.YtpobfgokikfmbaaGreatDoor
open Go.RowKit

namespace Pg
def oneErr (l : List Nat) (kind : Nat) : Nat := if errAt l 0 ≠ 0 then errAt l 0 else if kindAt l 0 = kind ∧ endAt l 0 = (l.length : Int) then 0 else 3
def oneBody (l : List Nat) (kind : Nat) : List Nat := if oneErr l kind = 0 then bodyAt l 0 else []
end Pg

/-- What One returns: a body, or an error. -/
def RetO (w : World) (l : List Nat) (kind : Nat) (e : Ending) (w' : World) : Prop := ∃ A cap, e = .returned (.tuple #[.slice A (Pg.oneBody l kind).length cap, .int .i64 (Pg.oneErr l kind : Nat)]) ∧
  ByAt w' A (Pg.oneBody l kind) ∧ (Pg.oneBody l kind).length ≤ cap ∧ cap ≤ maxLen ∧ Below w.heap.size w w'
theorem tup2_eq {A : Option Addr} {n n' c : Nat} {e e' : Int} (h2 : n = n') (h4 : e = e') : Ending.returned (.tuple #[.slice A n c, .int .i64 e]) = Ending.returned (.tuple #[.slice A n' c, .int .i64 e']) := by rw [h2, h4]
theorem RetO.err {w w' : World} {l : List Nat} {kind : Nat} {c : Int} (h : Pg.oneErr l kind ≠ 0) (hc : c = ((Pg.oneErr l kind : Nat) : Int)) (hb : Below w.heap.size w w') : RetO w l kind (.returned (.tuple #[.slice none 0 0, .int .i64 c])) w' := by
  have hb0 : Pg.oneBody l kind = [] := if_neg h
  exact ⟨none, 0, by rw [hb0, hc]; rfl, by rw [hb0]; exact ByAt.nil _ _, by rw [hb0]; exact Nat.le_refl _, Nat.zero_le _, hb⟩

end Go.Proofs.YtpobfgokikfmbaaGreatDoor

set_option linter.unusedSimpArgs false
set_option linter.unusedVariables false
set_option maxRecDepth 8000
namespace Go.Proofs.YtpobfgokikfmbaaGreatDoor
open Go.RowKit

end Go.Proofs.YtpobfgokikfmbaaGreatDoor

set_option linter.unusedSimpArgs false
set_option linter.unusedVariables false
set_option maxRecDepth 8000
namespace Go.Proofs.YtpobfgokikfmbaaGreatDoor
open Go.RowKit

namespace Pg
theorem lay_len (kind : Nat) (body : List Nat) : (lay kind body).length = 9 + body.length := by unfold lay four; rw [List.length_append, front_len]; simp; omega
theorem lay_lt (kind : Nat) (body : List Nat) (hk : kind < 256) (hb : ∀ x ∈ body, x < 256) : ∀ x ∈ lay kind body, x < 256 := fun x hx => (List.mem_append.1 hx).elim (front_lt kind body hk hb x) (four_lt _ x)
theorem front_four (kind : Nat) (body : List Nat) : front kind body = four body.length ++ kind :: body := rfl
theorem four_len (n : Nat) : (four n).length = 4 := rfl
/-- A page, where it stands. -/
theorem errOf_lay (kind : Nat) (body r : List Nat) (hk : kind < 256) (hb : ∀ x ∈ body, x < 256) (hm : body.length ≤ 1048576) : errOf (lay kind body ++ r) = 0 ∧ sz (lay kind body ++ r) = body.length ∧ (lay kind body ++ r).getD 4 0 = kind ∧ ((lay kind body ++ r).drop 5).take body.length = body := by
  have h1 : lay kind body ++ r = four body.length ++ (kind :: (body ++ (four (sum (front kind body)) ++ r))) := by unfold lay; rw [front_four]; simp
  have hs : sz (lay kind body ++ r) = body.length := by
    unfold sz
    rw [h1, List.take_append_of_le_length (by rw [four_len]; exact Nat.le_refl _), List.take_of_length_le (by rw [four_len]; exact Nat.le_refl _), val_four _ (by omega)]
  refine ⟨?_, hs, ?_, ?_⟩
  · unfold errOf
    have hl : (lay kind body ++ r).length = 9 + body.length + r.length := by rw [List.length_append, lay_len]
    rw [hs, if_neg (by omega), if_neg (by omega), if_neg (by omega), if_pos]
    have h2 : lay kind body ++ r = front kind body ++ (four (sum (front kind body)) ++ r) := by unfold lay; rw [List.append_assoc]
    have hf := front_len kind body
    rw [h2, ← hf, List.take_append_of_le_length (Nat.le_refl _), List.take_length, List.drop_append_of_le_length (Nat.le_refl _), List.drop_length, List.nil_append, List.take_append_of_le_length (by rw [four_len]; exact Nat.le_refl _), List.take_of_length_le (by rw [four_len]; exact Nat.le_refl _)]
    exact val_four _ (sum_lt (front_lt kind body hk hb))
  · rw [h1]; rfl
  · rw [h1, show (four body.length ++ (kind :: (body ++ (four (sum (front kind body)) ++ r)))).drop 5 = body ++ (four (sum (front kind body)) ++ r) from rfl, List.take_append_of_le_length (Nat.le_refl _), List.take_length]
theorem read_lay (l : List Nat) (kind : Nat) (body r : List Nat) (i : Int) (hi : i = (l.length : Int)) (hk : kind < 256) (hb : ∀ x ∈ body, x < 256) (hm : body.length ≤ 1048576) :
    errAt (l ++ (lay kind body ++ r)) i = 0 ∧ kindAt (l ++ (lay kind body ++ r)) i = kind ∧ bodyAt (l ++ (lay kind body ++ r)) i = body ∧ endAt (l ++ (lay kind body ++ r)) i = i + 9 + body.length := by
  obtain ⟨h1, h2, h3, h4⟩ := errOf_lay kind body r hk hb hm
  have hd : (l ++ (lay kind body ++ r)).drop i.toNat = lay kind body ++ r := by
    rw [hi, Int.toNat_natCast, List.drop_append_of_le_length (Nat.le_refl _), List.drop_length, List.nil_append]
  have he : errAt (l ++ (lay kind body ++ r)) i = 0 := by
    unfold errAt
    rw [if_neg (by rw [List.length_append, hi]; omega), hd, h1]
  refine ⟨he, ?_, ?_, ?_⟩
  · unfold kindAt; rw [if_pos he, hd, h3]
  · unfold bodyAt; rw [if_pos he, hd, h2, h4]
  · unfold endAt; rw [if_pos he, hd, h2]
/-- What says more than there is. -/
theorem err_more (q : List Nat) (h9 : 9 ≤ q.length) (h : q.length < sz q + 9) : errAt q 0 = 3 := by
  unfold errAt
  rw [if_neg (by omega)]
  show errOf q = 3
  unfold errOf
  rw [if_neg (by omega)]
  by_cases h2 : 1048576 < sz q
  · rw [if_pos h2]
  · rw [if_neg h2, if_pos h]
end Pg

theorem lay_at (kind : Nat) (body : List Nat) (i : Nat) (hi : i < 9) : ([] ++ Pg.lay kind body)[i]? = some (([] ++ Pg.lay kind body)[i]'(by rw [List.nil_append, Pg.lay_len]; omega)) := List.getElem?_eq_getElem _
theorem lengths_byte (n : Nat) : IntKind.u8.wrap (n : Int) = ((n % 256 : Nat) : Int) := by rw [IntKind.wrap_u8']; omega

def setCells4 (w : World) (g n : Nat) : World := ((((w.setCell ⟨g, 0, none⟩ (.int .u8 ((n : Int) % 256))).setCell ⟨g, 1, none⟩ (.int .u8 ((n : Int) / 256 % 256))).setCell ⟨g, 2, none⟩ (.int .u8 ((n : Int) / 65536 % 256))).setCell ⟨g, 3, none⟩ (.int .u8 ((n : Int) / 16777216)))
theorem Roomy.set4 {w : World} {B g k cap : Nat} {cs : List Value} {l : List Nat} (h : Roomy w B g k cap cs l) (n : Nat) (hn : n < 4294967296) (i0 i1 i2 i3 : Int) (h0 : i0 = ((n % 256 : Nat) : Int)) (h1 : i1 = ((n / 256 % 256 : Nat) : Int)) (h2 : i2 = ((n / 65536 % 256 : Nat) : Int)) (h3 : i3 = ((n / 16777216 % 256 : Nat) : Int))
    (hl : ∃ a b c d r, l = a :: b :: c :: d :: r) : Roomy ((((w.setCell ⟨g, 0, none⟩ (.int .u8 i0)).setCell ⟨g, 1, none⟩ (.int .u8 i1)).setCell ⟨g, 2, none⟩ (.int .u8 i2)).setCell ⟨g, 3, none⟩ (.int .u8 i3)) B g k cap ((((cs.set 0 (bv (n % 256))).set 1 (bv (n / 256 % 256))).set 2 (bv (n / 65536 % 256))).set 3 (bv (n / 16777216 % 256))) (Pg.four n ++ l.drop 4) := by
  obtain ⟨a, b, c, d, r, rfl⟩ := hl
  subst h0 h1 h2 h3
  exact (((h.set 0 (n % 256) (by omega)).set 1 (n / 256 % 256) (by omega)).set 2 (n / 65536 % 256) (by omega)).set 3 (n / 16777216 % 256) (by omega)
theorem Pg.lay_head (kind : Nat) (body : List Nat) : [] ++ Pg.lay kind body = body.length % 256 :: body.length / 256 % 256 :: body.length / 65536 % 256 :: body.length / 16777216 % 256 :: (kind :: body ++ Pg.four (Pg.sum (Pg.front kind body))) := rfl
end Go.Proofs.YtpobfgokikfmbaaGreatDoor

set_option linter.unusedSimpArgs false
set_option linter.unusedVariables false
set_option maxRecDepth 8000
namespace Go.Proofs.YtpobfgokikfmbaaGreatDoor
open Go.RowKit Go.WideShapes

theorem own_word (w : World) (n : Nat) : OwnS (w.alloc (.cells (fourC n) 5)) w.heap.size (some ⟨w.heap.size, 0, none⟩) 4 4 (Pg.four n) :=
  OwnS.of_row (cs := bys (Pg.four n)) (heap_alloc_new' w _) rfl (by unfold maxLen; omega) rfl rfl (Nat.le_refl _) (Pg.four_lt n)
theorem grown_below {B : Nat} {w0 w w' : World} {r : Option Nat} (h : Below B w0 w) (hg : w.grownBy w' r) (hB : B ≤ w.heap.size) (hr : ∀ k, r = some k → B ≤ k) : Below B w0 w' := h.grown hg hB hr
set_option maxHeartbeats 2000000 in
theorem refLay_any (kind : Nat) (b : Option Addr) (m c : Nat) (body : List Nat) (w : World) (hm : Hid (m = body.length)) (hsmall : m ≤ 10000) (hk : kind < 256) (HB : Hid (ByAt w b body)) :
    Calls Tryz.prog 26 #[.int .u8 (kind : Int), .slice b m c] w (RetL w w.heap.size (4 + 1 + m + 4) (Pg.lay kind body)) := by
  have hm32 : m < 4294967296 := by omega
  have hw32 : IntKind.u32.wrap (m : Int) = (m : Int) := by rw [IntKind.wrap_u32']; omega
  have hfl := Lib.hid (Pg.front_lt kind body hk HB.out.lt)
  have HO1 := Lib.hid ((own_word w m).keep (((Below.refl _ _).alloc (Nat.le_refl _) (.cells #[.int .u8 (kind : Int)] 5))))
  have HB1 : Hid (ByAt ((w.alloc (.cells (fourC m) 5)).alloc (.cells #[.int .u8 (kind : Int)] 5)) (some ⟨w.heap.size + 1, 0, none⟩) [kind]) := Lib.hid (by
    have h := by_one (w.alloc (.cells (fourC m) 5)) kind hk
    rwa [show (w.alloc (.cells (fourC m) 5)).heap.size = w.heap.size + 1 by simp] at h)
  have HZ1 : Hid (w.heap.size ≤ ((w.alloc (.cells (fourC m) 5)).alloc (.cells #[.int .u8 (kind : Int)] 5)).heap.size) := Lib.hid (by simp; omega)
  have HW1 : Hid (Below w.heap.size w ((w.alloc (.cells (fourC m) 5)).alloc (.cells #[.int .u8 (kind : Int)] 5))) := Lib.hid (((Below.refl _ _).alloc (Nat.le_refl _) _).alloc (by simp) _)
  have hs32 : Pg.sum (Pg.front kind body) < 4294967296 := Pg.sum_lt hfl.out
  have HF : Hid ((Pg.four m ++ [kind]) ++ body = Pg.front kind body) := Lib.hid (by rw [hm.out]; unfold Pg.front; simp)
  have HFL : Hid (4 + 1 + m = (Pg.front kind body).length) := Lib.hid (by rw [Pg.front_len, hm.out])
  go_enter Tryz.func26, Tryz.ntmps26
  go_wp2_with (first | ((go_at_call 56; (with_reducible refine (four_any m hm32 _).mono ?_); rintro e w6 ⟨rfl, rfl⟩)) | (at_builtin; refine wpList_append_by rfl (.tmp 10) (.tmp 12) rfl w.heap.size (some ⟨w.heap.size, 0, none⟩) 4 4 (Pg.four m) rfl HO1.out (some ⟨w.heap.size + 1, 0, none⟩) 1 1 [kind] rfl rfl HB1.out (by omega) HZ1.out ?_; intro A2 cap2 w2 hO hG hL; have HO2 := Lib.hid hO; have HW2 := Lib.hid (HW1.out.grown hG HZ1.out HO1.out.base); have HB2 := ByAt.at HB HW2.out; have HZ2 := Lib.hid HW2.out.size; clear hO hG hL) | (at_builtin; refine wpList_append_by rfl (.tmp 14) (.tmp 15) rfl w.heap.size A2 (4 + 1) cap2 (Pg.four m ++ [kind]) rfl HO2.out b m c body rfl hm.out HB2.out (by omega) HZ2.out ?_; intro A3 cap3 w3 hO hG hL; rw [HF.out] at hO; have HO3 := Lib.hid hO; have HW3 := Lib.hid (HW2.out.grown hG HZ2.out HO2.out.base); have HZ3 := Lib.hid HW3.out.size; have HA3 := Lib.hid hO.byAt; clear hO hG hL) | (go_at_call 57; refine (refSum_any A3 (Pg.front kind body) (4 + 1 + m) cap3 HFL (by unfold maxLen; omega) w3 HA3).mono ?_; rintro e w6 ⟨rfl, rfl⟩))
  go_wp2_with (first | (go_at_call 56; refine (four_any _ hs32 _).mono ?_; rintro e w6 ⟨rfl, rfl⟩) | (at_builtin; refine wpList_append_by rfl (.tmp 17) (.tmp 20) rfl w.heap.size A3 (4 + 1 + m) cap3 (Pg.front kind body) rfl (HO3.out.keep ((Below.refl _ _).alloc (Nat.le_refl _) _)) (some ⟨w3.heap.size, 0, none⟩) 4 4 (Pg.four (Pg.sum (Pg.front kind body))) rfl rfl (by_four _ _) (by omega) (by_size HZ3) ?_; intro A5 cap5 w5 hO hG hL))
  go_ret
  exact ⟨A5, cap5, ret_eqP rfl, hO, (HW3.out.alloc HZ3.out _).grown hG (by_size HZ3) HO3.out.base⟩

theorem page_cut (A : Option Addr) (l : List Nat) (N cap n m kind : Nat) (body : List Nat) (hn : n = l.length) (hm : m = body.length) (hc : n + 5 + m + 4 ≤ cap) :
    ∃ A5 C5, (∀ w, (Instr.slice 22 (.slice A (n + 5 + m + 4) cap) (some (.int .i64 (n : Int))) none none).run Tryz.prog w = .ok (.slice A5 (5 + m + 4) C5) w) ∧ 5 + m + 4 ≤ C5 ∧ C5 ≤ cap ∧ ∀ w, ByAt w A (l ++ Pg.lay kind body) → ByAt w A5 (Pg.lay kind body) := by
  obtain ⟨A5, C5, h1, h2, h3, h4⟩ := cut_from A (n + 5 + m + 4) cap n (by omega) hc
  rw [show n + 5 + m + 4 - n = 5 + m + 4 by omega] at h1 h2
  refine ⟨A5, C5, h1, h2, h3, fun w h => ?_⟩
  have h5 := h4 w _ (by rw [List.length_append, Pg.lay_len]; omega) h
  rwa [hn, List.drop_append_of_le_length (Nat.le_refl _), List.drop_length, List.nil_append] at h5
theorem page_facts (l : List Nat) (n m kind : Nat) (body : List Nat) (hn : n = l.length) (hm : m = body.length) (hk : kind < 256) (hb : ∀ x ∈ body, x < 256) (hs : m ≤ 1048576) :
    Pg.errAt (l ++ Pg.lay kind body) (n : Int) = 0 ∧ Pg.kindAt (l ++ Pg.lay kind body) (n : Int) = kind ∧ Pg.bodyAt (l ++ Pg.lay kind body) (n : Int) = body ∧ Pg.endAt (l ++ Pg.lay kind body) (n : Int) = (n : Int) + 5 + (m : Int) + 4 := by
  obtain ⟨h1, h2, h3, h4⟩ := Pg.read_lay l kind body [] (n : Int) (by rw [hn]) hk hb (by omega)
  rw [List.append_nil] at h1 h2 h3 h4
  exact ⟨h1, h2, h3, by rw [h4, ← hm]; omega⟩
theorem one_facts (kind : Nat) (body : List Nat) (hk : kind < 256) (hb : ∀ x ∈ body, x < 256) (hs : body.length ≤ 1048576) :
    Pg.oneBody (Pg.lay kind body) kind = body ∧ Pg.oneErr (Pg.lay kind body) kind = 0 ∧ Pg.oneErr (Pg.lay kind body) (kind ^^^ 1) = 3 ∧ Pg.oneBody (Pg.lay kind body) (kind ^^^ 1) = [] := by
  obtain ⟨h1, h2, h3, h4⟩ := Pg.read_lay [] kind body [] 0 rfl hk hb hs
  rw [List.append_nil, List.nil_append] at h1 h2 h3 h4
  have e1 : Pg.oneErr (Pg.lay kind body) kind = 0 := by
    unfold Pg.oneErr
    rw [if_neg (by rw [h1]; exact fun h => h rfl), if_pos ⟨h2, by rw [h4, Pg.lay_len]; omega⟩]
  have hne : kind ≠ kind ^^^ 1 := by
    intro h
    have h2 : kind ^^^ (kind ^^^ 1) = 0 := by rw [← h, Nat.xor_self]
    rw [← Nat.xor_assoc, Nat.xor_self, Nat.zero_xor] at h2
    cases h2
  have e2 : Pg.oneErr (Pg.lay kind body) (kind ^^^ 1) = 3 := by
    unfold Pg.oneErr
    rw [if_neg (by rw [h1]; exact fun h => h rfl), if_neg (fun h => hne (by rw [← h.1, h2]))]
  refine ⟨?_, e1, e2, ?_⟩
  · unfold Pg.oneBody; rw [if_pos e1, h3]
  · unfold Pg.oneBody; rw [if_neg (by rw [e2]; decide)]
end Go.Proofs.YtpobfgokikfmbaaGreatDoor

set_option linter.unusedSimpArgs false
set_option linter.unusedVariables false
set_option maxRecDepth 8000
namespace Go.Proofs.YtpobfgokikfmbaaGreatDoor
open Go.RowKit Go.Sort Go.WideShapes Col
theorem evY_le (l : List Ev) (hf : ∀ x ∈ l, FineE x) (hn : l.length ≤ 60) : (evY l).length ≤ 8702 := by
  have z1 := txL_le _ 1223 (by omega) (ints_60 (l.map oI) (oI_wf hf) (by rw [List.length_map]; omega))
  have z2 := txL_le _ 1223 (by omega) (ints_60 (l.map Ev.part) (part_wf hf) (by rw [List.length_map]; omega))
  have z3 := txL_le _ 1223 (by omega) (ints_60 (l.map Ev.time) (time_wf hf) (by rw [List.length_map]; omega))
  have z4 := txL_le _ 3760 (by omega) (texts_60 (l.map kL) (fun y hy => (kL_all hf y hy).1) (fun y hy => (kL_all hf y hy).2) (by rw [List.length_map]; omega))
  have z5 := txL_le _ 1223 (by omega) (ints_60 ((l.map Ev.val).map rwI) (fun y hy => by obtain ⟨u, -, rfl⟩ := List.mem_map.1 hy; exact rwI_wf u) (by rw [List.length_map, List.length_map]; omega))
  unfold evY
  rw [List.length_append, List.length_append, List.length_append, List.length_append]
  omega
theorem readEv_any (g : Nat) (l : List Ev) (hn6 : l.length ≤ 60) (hfin : Hid (∀ x ∈ l, FineE x)) (hw : ∀ x ∈ evY l, x < 256) (p : Int) (w : World) (H : Hid (Rd w g (evY l))) :
    Calls Tryz.prog 21 #[.pointer (some ⟨g, 0, none⟩), .int .i64 p] w (EvEnds g l p w) := by
  have hf := hfin.out
  have hle := evY_le l hf hn6
  have he := evY_assoc l
  have hl := congrArg List.length he
  simp only [List.length_append, List.length_nil] at hl
  have hsub : ∀ x ∈ txL (intsL (l.map oI)) ++ (txL (intsL (l.map Ev.part)) ++ (txL (intsL (l.map Ev.time)) ++ (txL (textsL (l.map kL)) ++ (txL (intsL ((l.map Ev.val).map rwI)) ++ [])))), x < 256 := by rw [← he]; exact hw
  have tl : ∀ D : List Nat, D.length ≤ (txL D).length := fun D => by unfold txL; rw [List.length_append]; omega
  have tm : ∀ (D : List Nat) (x : Nat), x ∈ D → x ∈ txL D := fun D x hx => by unfold txL; exact List.mem_append.2 (.inr hx)
  have d1 := tl (intsL (l.map oI)); have d2 := tl (intsL (l.map Ev.part)); have d3 := tl (intsL (l.map Ev.time)); have d4 := tl (textsL (l.map kL)); have d5 := tl (intsL ((l.map Ev.val).map rwI))
  have h0 := H.out
  rw [he] at h0
  refine readEv_core g l l.length (Lib.hid rfl) hn6 hfin p (txL (intsL (l.map oI))) [] [] [] [] (txL (intsL (l.map Ev.part)) ++ (txL (intsL (l.map Ev.time)) ++ (txL (textsL (l.map kL)) ++ (txL (intsL ((l.map Ev.val).map rwI)) ++ [])))) (txL (intsL (l.map Ev.time)) ++ (txL (textsL (l.map kL)) ++ (txL (intsL ((l.map Ev.val).map rwI)) ++ []))) (txL (textsL (l.map kL)) ++ (txL (intsL ((l.map Ev.val).map rwI)) ++ [])) (txL (intsL ((l.map Ev.val).map rwI)) ++ []) w (Lib.hid h0)
    (Lib.hid fun w' h => rcol_int64 _ (intsL (l.map oI)) (fun x hx => hsub x (List.mem_append.2 (.inl (tm _ x hx)))) (by omega) (Lib.hid fun A C w h1 h2 h3 => readI_yes (l.map oI) (oI_wf hf) (by rw [List.length_map]; exact hn6) A C w h1 h2 h3) g _ (by simp only [List.length_append, List.length_nil]; omega) w' (Lib.hid h))
    (Lib.hid fun w' h => rcol_int64 _ (intsL (l.map Ev.part)) (fun x hx => hsub x (List.mem_append.2 (.inr (List.mem_append.2 (.inl (tm _ x hx)))))) (by omega) (Lib.hid fun A C w h1 h2 h3 => readI_yes (l.map Ev.part) (part_wf hf) (by rw [List.length_map]; exact hn6) A C w h1 h2 h3) g _ (by simp only [List.length_append, List.length_nil]; omega) w' (Lib.hid h))
    (Lib.hid fun w' h => rcol_int64 _ (intsL (l.map Ev.time)) (fun x hx => hsub x (List.mem_append.2 (.inr (List.mem_append.2 (.inr (List.mem_append.2 (.inl (tm _ x hx)))))))) (by omega) (Lib.hid fun A C w h1 h2 h3 => readI_yes (l.map Ev.time) (time_wf hf) (by rw [List.length_map]; exact hn6) A C w h1 h2 h3) g _ (by simp only [List.length_append, List.length_nil]; omega) w' (Lib.hid h))
    (Lib.hid fun w' h => rcol_string _ (textsL (l.map kL)) (fun x hx => hsub x (List.mem_append.2 (.inr (List.mem_append.2 (.inr (List.mem_append.2 (.inr (List.mem_append.2 (.inl (tm _ x hx)))))))))) (by omega) (Lib.hid fun A C w h1 h2 h3 => readT_yes (l.map kL) (fun y hy => (kL_all hf y hy).1) (fun y hy => (kL_all hf y hy).2) (by rw [List.length_map]; exact hn6) A C w h1 h2 h3) g _ (by simp only [List.length_append, List.length_nil]; omega) w' (Lib.hid h))
    (Lib.hid fun w' h => rcol_float64 _ (intsL ((l.map Ev.val).map rwI)) (fun x hx => hsub x (List.mem_append.2 (.inr (List.mem_append.2 (.inr (List.mem_append.2 (.inr (List.mem_append.2 (.inr (List.mem_append.2 (.inl (tm _ x hx)))))))))))) (by omega) (Lib.hid fun A C w h1 h2 h3 => readF_yes (l.map Ev.val) (val_lt hf) (by rw [List.length_map]; exact hn6) A C w h1 h2 h3) g _ (by simp only [List.length_append, List.length_nil]; omega) w' (Lib.hid h))
theorem Rd.keptLowY {w w' : World} {g bl : Nat} (h : Rd w g []) (hk : Kept (fun k => k = bl) w w') (hg : bl < g) (_ : bl = g → False) : Rd w' g [] := by
  obtain ⟨A, C, h⟩ := h
  exact ⟨A, C, h.keep hk (fun e => by have e : g = bl := e; omega) (fun a ha h0 e => by simp at h0)⟩
theorem EvAt.keptY {S : Nat → Prop} {w w' : World} {a : Option Addr} {l : List Ev} (h : EvAt w a l) (hk : Kept S w w') (ho : ∀ b, a = some b → ¬ S b.block) : EvAt w' a l := fun j v hv => by
  obtain ⟨g, off, h2, h3, h4⟩ := h j v hv
  exact ⟨g, off, h2, Nat.lt_of_lt_of_le h3 hk.size, (hk.cell (p := ⟨g, off + j, none⟩) h3 (fun e => ho ⟨g, off, none⟩ h2 e)).trans h4⟩
/-- Where the events that were read lie. -/
def RER (l : List Ev) (p : Int) (bl : Nat) (X : Nat → Prop) (b : Bool) (w : World) : Prop :=
  ((∀ x ∈ l, formB x p = true) ∧ b = true ∧ ∃ L n, w.heap[bl]? = some (.cells #[.slice (some ⟨L, 0, none⟩) n n] 23 (0, 0)) ∧ n = l.length ∧ EvAt w (some ⟨L, 0, none⟩) (l.map canE) ∧ ¬ X L) ∨
  ((∃ x ∈ l, formB x p = false) ∧ b = false)
set_option maxHeartbeats 2000000 in
theorem evFn_any (g bp bl : Nat) (l : List Ev) (hn6 : l.length ≤ 60) (hfin : Hid (∀ x ∈ l, FineE x)) (hw : ∀ x ∈ evY l, x < 256) (p : Int) (w : World) (hbp : bp < g) (hbl : bl < g) (hne : bp ≠ bl)
    (HP : Hid (w.heap[bp]? = some (.cells #[.int .i64 p] 3 (0, 0)))) (HL : Hid (w.heap[bl]? = some (.cells #[.slice none 0 0] 23 (0, 0)))) (H : Hid (Rd w g (evY l))) :
    Calls Tryz.prog 20 #[.pointer (some ⟨g, 0, none⟩), .pointer (some ⟨bp, 0, none⟩), .pointer (some ⟨bl, 0, none⟩)] w (Tried g (fun k => k = bl) (RER l p bl (fun k => k = g)) w) := by
  have HRE := Lib.hid (readEv_any g l hn6 hfin hw p w H)
  have cp : w.cell? ⟨bp, 0, none⟩ = some (.int .i64 p) := by rw [cell_of_row _ _ _ _ _ _ HP.out]; rfl
  have hbw : bl < w.heap.size := (Array.getElem?_eq_some_iff.1 HL.out).1
  have hgw : g < w.heap.size := by obtain ⟨A, C, h⟩ := H.out; exact h.lt
  by_cases hall : ∀ x ∈ l, formB x p = true
  · have HRY : Hid (Calls Tryz.prog 21 #[.pointer (some ⟨g, 0, none⟩), .int .i64 p] w fun e w' => ∃ L n, e = .returned (.slice (some ⟨L, 0, none⟩) n n) ∧ n = l.length ∧ EvAt w' (some ⟨L, 0, none⟩) (l.map canE) ∧ Rd w' g [] ∧ Kept (Only g) w w' ∧ w.heap.size ≤ L) := Lib.hid (HRE.out.mono fun e w' h => by
      rcases h with ⟨-, h⟩ | ⟨⟨x, hx, hfx⟩, -⟩
      · exact h
      · rw [hall x hx] at hfx; cases hfx)
    clear HRE
    go_enter Tryz.func20, Tryz.ntmps20
    go_wp2_with (go_at_call 21; (with_reducible refine (HRY.out).mono ?_); rintro e w1 ⟨L, n, rfl, h1, h2, h3, h4, h5⟩; have HN := Lib.hid h1; have HE := Lib.hid h2; have HR := Lib.hid h3; have HK := Lib.hid h4; have HLL := Lib.hid h5; have HL1 := Lib.hid (h4.heap HL.out (fun e => by have e : bl = g := e; omega)); have cl : w1.cell? ⟨bl, 0, none⟩ = some (.slice none 0 0) := (by rw [cell_of_row _ _ _ _ _ _ HL1.out]; rfl); have fl := row_frozen HL1.out 0; clear h1 h2 h3 h4 h5)
    have hkc : Kept (fun k => k = bl) w1 (w1.setCell ⟨bl, 0, none⟩ (.slice (some ⟨L, 0, none⟩) n n)) := (Kept.refl _ _).setCell _ _ (.inl rfl)
    refine bodyPost_ret (results_none rfl _ _ _) rfl ⟨?_, .inl ⟨[], rfl, ?_, ?_⟩⟩
    · exact (HK.out.mono (S' := fun k => k = bl ∨ k = g) (fun k h => .inl (.inr h))).trans' hkc (fun i hi => .inl (.inl hi))
    · exact HR.out.keptLowY hkc (by omega) (fun e => by omega)
    · refine .inl ⟨hall, rfl, L, n, ?_, HN.out, HE.out.keptY hkc (fun b hb => by injection hb with hb; subst hb; intro e; have e : L = bl := e; have := HLL.out; omega), fun e => by have e : L = g := e; have := HLL.out; omega⟩
      rw [World.setCell]
      simp [Array.getElem?_modify, HL1.out]
  · have hbad : ∃ x ∈ l, formB x p = false := by
      rcases Classical.not_forall.1 hall with ⟨x, hx⟩
      rw [Classical.not_imp] at hx
      exact ⟨x, hx.1, by simpa using hx.2⟩
    have HRN : Hid (Calls Tryz.prog 21 #[.pointer (some ⟨g, 0, none⟩), .int .i64 p] w fun e w' => e = .panicked [gu g] ∧ Gone w' g ∧ Kept (Only g) w w') := Lib.hid (HRE.out.mono fun e w' h => by
      rcases h with ⟨h, -⟩ | ⟨-, h⟩
      · exact absurd h hall
      · exact h)
    clear HRE
    go_enter Tryz.func20, Tryz.ntmps20
    go_wp2_with (go_at_call 21; (with_reducible refine (HRN.out).mono ?_); rintro e w1 ⟨rfl, h1, h2⟩)
    exact ⟨rfl, h2.mono (fun k h => .inl (.inr h)), .inr ⟨rfl, h1, .inr ⟨hbad, rfl⟩⟩⟩
end Go.Proofs.YtpobfgokikfmbaaGreatDoor

set_option linter.unusedSimpArgs false
set_option linter.unusedVariables false
set_option maxRecDepth 8000
namespace Go.Proofs.YtpobfgokikfmbaaGreatDoor
open Go.RowKit Go.Sort Go.WideShapes Col
theorem results_tmp3Y {fn : Func} {t u v : Tmp} (h : fn.results = #[.tmp t, .tmp u, .tmp v]) (tmps : Array Value) (P : Program) (w : World) :
    (results fn tmps).run P w = .ok (.tuple #[tmps.getD t undef, tmps.getD u undef, tmps.getD v undef]) w := by simp [results, h]
theorem alloc_newY (w : World) (o : Obj) : (w.alloc o).heap[w.heap.size]? = some o := heap_alloc_new' w o
theorem rer_yes {l : List Ev} {p : Int} {bl : Nat} {X : Nat → Prop} {b : Bool} {w : World} (hall : ∀ x ∈ l, formB x p = true) (h : RER l p bl X b w) : b = true ∧ ∃ L, w.heap[bl]? = some (.cells #[.slice (some ⟨L, 0, none⟩) l.length l.length] 23 (0, 0)) ∧ EvAt w (some ⟨L, 0, none⟩) (l.map canE) := by
  rcases h with ⟨-, h, L, n, h1, h2, h3, -⟩ | ⟨⟨x, hx, hfx⟩, -⟩
  · exact ⟨h, L, h2 ▸ h1, h3⟩
  · rw [hall x hx] at hfx; cases hfx
theorem rer_no {l : List Ev} {p : Int} {bl : Nat} {X : Nat → Prop} {b : Bool} {w : World} (hbad : ∃ x ∈ l, formB x p = false) (h : RER l p bl X b w) : b = false := by
  rcases h with ⟨h, -⟩ | ⟨-, h⟩
  · obtain ⟨x, hx, hfx⟩ := hbad
    rw [h x hx] at hfx; cases hfx
  · exact h
theorem rer_keep {l : List Ev} {p : Int} {bl g : Nat} {b : Bool} {w w' : World} (h : RER l p bl (fun k => k = g) b w) (hk : Kept (Only g) w w') (hg : bl < g) : RER l p bl (fun _ => False) b w' := by
  rcases h with ⟨h1, h2, L, n, h3, h4, h5, h6⟩ | h
  · exact .inl ⟨h1, h2, L, n, hk.heap h3 (fun e => by have e : bl = g := e; omega), h4, h5.keptY hk (fun b hb => by injection hb with hb; subst hb; exact h6), fun h => h⟩
  · exact .inr h
set_option maxHeartbeats 8000000 in
theorem evRead_yes (A : Option Addr) (N cap np : Nat) (q : List Nat) (l : List Ev) (p : Int) (hn6 : l.length ≤ 60) (hfin : Hid (∀ x ∈ l, FineE x)) (hall : ∀ x ∈ l, formB x p = true) (hq : Hid (np = q.length)) (hw : ∀ x ∈ evY l, x < 256) (hN : Hid (N = (q ++ Pg.lay 101 (evY l)).length)) (hc : N ≤ cap) (hcm : cap ≤ maxLen) (w : World) (HA : Hid (ByAt w A (q ++ Pg.lay 101 (evY l)))) (HG : Hid (HalvesAt w)) :
    Calls Tryz.prog 8 #[.slice A N cap, .int .i64 (np : Int), .int .i64 p] w fun e w' => ∃ L, e = .returned (.tuple #[.slice (some ⟨L, 0, none⟩) l.length l.length, .int .i64 ((np : Int) + 5 + ((evY l).length : Int) + 4), .int .i64 0]) ∧ EvAt w' (some ⟨L, 0, none⟩) (l.map canE) ∧ Below w.heap.size w w' := by
  have hle := evY_le l hfin.out hn6
  obtain ⟨m, hm⟩ : ∃ m, m = (evY l).length := ⟨_, rfl⟩
  obtain ⟨f1, f2, f3, f4⟩ := page_facts q np m 101 (evY l) hq.out hm (by decide) hw (by omega)
  obtain ⟨E, hE⟩ : ∃ E : Int, E = (np : Int) + 5 + (m : Int) + 4 := ⟨_, rfl⟩
  have HPR : Hid (∀ w1, Below w.heap.size w w1 → Calls Tryz.prog 18 #[.slice A N cap, .int .i64 (np : Int)] w1 fun e w' => ∃ A6 C6, e = .returned (.tuple #[.int .u8 101, .slice A6 m C6, .int .i64 E, .int .i64 0]) ∧ ByAt w' A6 (evY l) ∧ m ≤ C6 ∧ C6 ≤ maxLen ∧ Below w1.heap.size w1 w') := Lib.hid fun w1 hb => by
    refine (read_any A _ N cap np hN hc hcm w1 (Lib.hid (HA.out.keep hb)) (Lib.hid (HG.out.keep hb))).mono fun e w' h => ?_
    obtain ⟨A6, C6, he, h1, h2, h3, h4⟩ := h
    rw [f3] at h1 h2 he
    rw [f1, f2, f4, ← hm, ← hE] at he
    exact ⟨A6, C6, he, h1, by omega, h3, h4⟩
  rw [← hm, ← hE]
  obtain ⟨w0, hw0⟩ : ∃ w0, w0 = w.alloc (.cells #[.int .i64 p] 3) := ⟨_, rfl⟩
  obtain ⟨bp, hbp⟩ : ∃ bp, bp = w.heap.size := ⟨_, rfl⟩
  have HB0 : Hid (Below w.heap.size w w0) := Lib.hid (by rw [hw0]; exact (Below.refl _ _).alloc (Nat.le_refl _) _)
  have HP0 : Hid (w0.heap[bp]? = some (.cells #[.int .i64 p] 3 (0, 0))) := Lib.hid (by rw [hw0, hbp]; exact alloc_newY w _)
  have HW0 := Lib.hid hw0; have HBP := Lib.hid hbp; have HM := Lib.hid hm
  clear f1 f2 f3 f4 hE hw0 hbp hm hle
  go_enter Tryz.func8, Tryz.ntmps8
  go_upto_region 1 with fail
  rw [← HW0.out, ← HBP.out]
  go_upto_region 5 with (go_at_call 18; (with_reducible refine (HPR.out w0 HB0.out).mono ?_); rintro e w1 ⟨A6, C6, rfl, h1, h2, h3, h4⟩; have HBY := Lib.hid h1; have hC6 := h2; have hM6 := h3; have HB1 := Lib.hid (below_to HB0.out h4); have HP1 : Hid (w1.heap[bp]? = some (.cells #[.int .i64 p] 3 (0, 0))) := Lib.hid ((h4.block bp (Array.getElem?_eq_some_iff.1 HP0.out).1).trans HP0.out); clear h1 h2 h3 h4)
  obtain ⟨w2, hw2⟩ : ∃ w2, w2 = w1.alloc (.cells #[.slice none 0 0] 23) := ⟨_, rfl⟩
  obtain ⟨bl, hbl⟩ : ∃ bl, bl = w1.heap.size := ⟨_, rfl⟩
  have hb2 : Below w1.heap.size w1 w2 := by rw [hw2]; exact (Below.refl _ _).alloc (Nat.le_refl _) _
  have HBW := Lib.hid (below_to HB1.out hb2)
  have HL2 : Hid (w2.heap[bl]? = some (.cells #[.slice none 0 0] 23 (0, 0))) := Lib.hid (by rw [hw2, hbl]; exact alloc_newY w1 _)
  have hbpl : bp < bl := by rw [hbl]; exact (Array.getElem?_eq_some_iff.1 HP1.out).1
  have HP2 : Hid (w2.heap[bp]? = some (.cells #[.int .i64 p] 3 (0, 0))) := Lib.hid ((hb2.block bp (by omega)).trans HP1.out)
  have hblw : bl < w2.heap.size := (Array.getElem?_eq_some_iff.1 HL2.out).1
  have HBL : Hid (w.heap.size ≤ bl) := Lib.hid (by rw [hbl]; exact HB1.out.size)
  have ht := try_any 20 #[] #[.pointer (some ⟨bp, 0, none⟩), .pointer (some ⟨bl, 0, none⟩)] A6 C6 (evY l) m HM hC6 hM6 w2 (Lib.hid (HBY.out.keep hb2)) (fun k => k = bl) (fun k hk => by omega)
    (fun g b w' => RER l p bl (fun k => k = g) b w') (fun b w' => RER l p bl (fun _ => False) b w')
    (fun g b v2 v3 hg h hk => rer_keep h hk (by omega))
    (fun g v2 hg hr hb => evFn_any g bp bl l hn6 hfin hw p v2 (by omega) (by omega) (by omega) (Lib.hid ((hb.block bp (by omega)).trans HP2.out)) (Lib.hid ((hb.block bl hblw).trans HL2.out)) (Lib.hid hr))
    (fun _ _ => by first | rfl | kernel_rfl)
  have HT := Lib.hid ht
  have HW2 := Lib.hid hw2; have HBLL := Lib.hid hbl
  have hmf : ∀ (fn : Fn) (first cap : Array Value) (w : World), (Instr.makeFunc fn first cap).run Tryz.prog w = .ok (.func fn first cap) w := fun _ _ _ _ => rfl
  clear ht hw2 hbl hb2 hblw hbpl HPR HB0 HP0 HW0 HBP HBY
  rw [← HW2.out, ← HBLL.out]
  go_wp2_with (go_at_call 19; (with_reducible refine (HT.out).mono ?_); rintro e w8 ⟨b, rfl, hr, hk⟩; have hr2 := rer_yes hall hr; obtain ⟨rfl, L, hrow, hev⟩ := hr2; have HE8 := Lib.hid hev; have HB8 := Lib.hid hk; have cl : w8.cell? ⟨bl, 0, none⟩ = some (.slice (some ⟨L, 0, none⟩) l.length l.length) := (by rw [cell_of_row _ _ _ _ _ _ hrow]; rfl); clear hr hrow hev hk)
  refine bodyPost_ret (results_tmp3Y rfl _ _ _) rfl ?_
  exact ⟨L, rfl, HE8.out, (HBW.out.trans (HB8.out.below HBW.out.size (fun k hk => by have hk : k = bl := hk; have := HBL.out; omega)))⟩
set_option maxHeartbeats 8000000 in
theorem evRead_no (A : Option Addr) (N cap np : Nat) (q : List Nat) (l : List Ev) (p : Int) (hn6 : l.length ≤ 60) (hfin : Hid (∀ x ∈ l, FineE x)) (hbad : ∃ x ∈ l, formB x p = false) (hq : Hid (np = q.length)) (hw : ∀ x ∈ evY l, x < 256) (hN : Hid (N = (q ++ Pg.lay 101 (evY l)).length)) (hc : N ≤ cap) (hcm : cap ≤ maxLen) (w : World) (HA : Hid (ByAt w A (q ++ Pg.lay 101 (evY l)))) (HG : Hid (HalvesAt w)) :
    Calls Tryz.prog 8 #[.slice A N cap, .int .i64 (np : Int), .int .i64 p] w fun e w' => e = .returned (.tuple #[.slice none 0 0, .int .i64 0, .int .i64 3]) ∧ Below w.heap.size w w' := by
  have hle := evY_le l hfin.out hn6
  obtain ⟨m, hm⟩ : ∃ m, m = (evY l).length := ⟨_, rfl⟩
  obtain ⟨f1, f2, f3, f4⟩ := page_facts q np m 101 (evY l) hq.out hm (by decide) hw (by omega)
  obtain ⟨E, hE⟩ : ∃ E : Int, E = (np : Int) + 5 + (m : Int) + 4 := ⟨_, rfl⟩
  have HPR : Hid (∀ w1, Below w.heap.size w w1 → Calls Tryz.prog 18 #[.slice A N cap, .int .i64 (np : Int)] w1 fun e w' => ∃ A6 C6, e = .returned (.tuple #[.int .u8 101, .slice A6 m C6, .int .i64 E, .int .i64 0]) ∧ ByAt w' A6 (evY l) ∧ m ≤ C6 ∧ C6 ≤ maxLen ∧ Below w1.heap.size w1 w') := Lib.hid fun w1 hb => by
    refine (read_any A _ N cap np hN hc hcm w1 (Lib.hid (HA.out.keep hb)) (Lib.hid (HG.out.keep hb))).mono fun e w' h => ?_
    obtain ⟨A6, C6, he, h1, h2, h3, h4⟩ := h
    rw [f3] at h1 h2 he
    rw [f1, f2, f4, ← hm, ← hE] at he
    exact ⟨A6, C6, he, h1, by omega, h3, h4⟩
  skip
  obtain ⟨w0, hw0⟩ : ∃ w0, w0 = w.alloc (.cells #[.int .i64 p] 3) := ⟨_, rfl⟩
  obtain ⟨bp, hbp⟩ : ∃ bp, bp = w.heap.size := ⟨_, rfl⟩
  have HB0 : Hid (Below w.heap.size w w0) := Lib.hid (by rw [hw0]; exact (Below.refl _ _).alloc (Nat.le_refl _) _)
  have HP0 : Hid (w0.heap[bp]? = some (.cells #[.int .i64 p] 3 (0, 0))) := Lib.hid (by rw [hw0, hbp]; exact alloc_newY w _)
  have HW0 := Lib.hid hw0; have HBP := Lib.hid hbp; have HM := Lib.hid hm
  clear f1 f2 f3 f4 hE hw0 hbp hm hle
  go_enter Tryz.func8, Tryz.ntmps8
  go_upto_region 1 with fail
  rw [← HW0.out, ← HBP.out]
  go_upto_region 5 with (go_at_call 18; (with_reducible refine (HPR.out w0 HB0.out).mono ?_); rintro e w1 ⟨A6, C6, rfl, h1, h2, h3, h4⟩; have HBY := Lib.hid h1; have hC6 := h2; have hM6 := h3; have HB1 := Lib.hid (below_to HB0.out h4); have HP1 : Hid (w1.heap[bp]? = some (.cells #[.int .i64 p] 3 (0, 0))) := Lib.hid ((h4.block bp (Array.getElem?_eq_some_iff.1 HP0.out).1).trans HP0.out); clear h1 h2 h3 h4)
  obtain ⟨w2, hw2⟩ : ∃ w2, w2 = w1.alloc (.cells #[.slice none 0 0] 23) := ⟨_, rfl⟩
  obtain ⟨bl, hbl⟩ : ∃ bl, bl = w1.heap.size := ⟨_, rfl⟩
  have hb2 : Below w1.heap.size w1 w2 := by rw [hw2]; exact (Below.refl _ _).alloc (Nat.le_refl _) _
  have HBW := Lib.hid (below_to HB1.out hb2)
  have HL2 : Hid (w2.heap[bl]? = some (.cells #[.slice none 0 0] 23 (0, 0))) := Lib.hid (by rw [hw2, hbl]; exact alloc_newY w1 _)
  have hbpl : bp < bl := by rw [hbl]; exact (Array.getElem?_eq_some_iff.1 HP1.out).1
  have HP2 : Hid (w2.heap[bp]? = some (.cells #[.int .i64 p] 3 (0, 0))) := Lib.hid ((hb2.block bp (by omega)).trans HP1.out)
  have hblw : bl < w2.heap.size := (Array.getElem?_eq_some_iff.1 HL2.out).1
  have HBL : Hid (w.heap.size ≤ bl) := Lib.hid (by rw [hbl]; exact HB1.out.size)
  have ht := try_any 20 #[] #[.pointer (some ⟨bp, 0, none⟩), .pointer (some ⟨bl, 0, none⟩)] A6 C6 (evY l) m HM hC6 hM6 w2 (Lib.hid (HBY.out.keep hb2)) (fun k => k = bl) (fun k hk => by omega)
    (fun g b w' => RER l p bl (fun k => k = g) b w') (fun b w' => RER l p bl (fun _ => False) b w')
    (fun g b v2 v3 hg h hk => rer_keep h hk (by omega))
    (fun g v2 hg hr hb => evFn_any g bp bl l hn6 hfin hw p v2 (by omega) (by omega) (by omega) (Lib.hid ((hb.block bp (by omega)).trans HP2.out)) (Lib.hid ((hb.block bl hblw).trans HL2.out)) (Lib.hid hr))
    (fun _ _ => by first | rfl | kernel_rfl)
  have HT := Lib.hid ht
  have HW2 := Lib.hid hw2; have HBLL := Lib.hid hbl
  have hmf : ∀ (fn : Fn) (first cap : Array Value) (w : World), (Instr.makeFunc fn first cap).run Tryz.prog w = .ok (.func fn first cap) w := fun _ _ _ _ => rfl
  clear ht hw2 hbl hb2 hblw hbpl HPR HB0 HP0 HW0 HBP HBY
  rw [← HW2.out, ← HBLL.out]
  go_wp2_with (go_at_call 19; (with_reducible refine (HT.out).mono ?_); rintro e w8 ⟨b, rfl, hr, hk⟩; obtain rfl := rer_no hbad hr; have HB8 := Lib.hid hk; clear hr hk)
  refine bodyPost_ret (results_tmp3Y rfl _ _ _) rfl ?_
  exact ⟨rfl, (HBW.out.trans (HB8.out.below HBW.out.size (fun k hk => by have hk : k = bl := hk; have := HBL.out; omega)))⟩
end Go.Proofs.YtpobfgokikfmbaaGreatDoor
