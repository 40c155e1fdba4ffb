/-
  Layer event: readEvents of events' columns.
-/
import Derived.Deep.DeepCutAuto
import Derived.Test.YtjldamkmdkaiiaaGreatDoorJbK
import Derived.Test.YtjldamkmdkaiiaaGreatDoorTkK
set_option linter.unusedSimpArgs false
set_option linter.unusedVariables false
set_option maxRecDepth 8000
namespace Go.Proofs.YtjldamkmdkaiiaaGreatDoor
open Go.RowKit Go.Sort Go.WideShapes Col
def canE (x : Ev) : Ev := ⟨x.off, x.part, x.time, x.key, Fl.canon x.val⟩
theorem kept_setCells (L : Nat) : ∀ (vs : List Value) (o : Nat) (w : World), Kept (fun j => j = L) w (w.setCells L o vs)
 | [], _, _ => Kept.refl _ _
 | v :: r, o, w => (kept_cellB w L o v).trans (kept_setCells L r (o + 1) _)
theorem row_setCells (L : Nat) (t : TypeId) (fr : Nat × Nat) : ∀ (vs : List Value) (o : Nat) (w : World) (cs : Array Value), w.heap[L]? = some (.cells cs t fr) → ∃ cs', (w.setCells L o vs).heap[L]? = some (.cells cs' t fr) ∧ cs'.size = cs.size
 | [], _, _, cs, h => ⟨cs, h, rfl⟩
 | v :: r, o, w, cs, h => by
  have h1 : (w.setCell ⟨L, o, none⟩ v).heap[L]? = some (.cells (cs.setIfInBounds o v) t fr) := by
   rw [World.setCell]
   simp [Array.getElem?_modify, h]
  obtain ⟨cs', h2, h3⟩ := row_setCells L t fr r (o + 1) _ _ h1
  exact ⟨cs', h2, by rw [h3]; simp⟩
structure RowEJ (w : World) (L n : Nat) (xs : List Ev) : Prop where
 row : ∃ cs, w.heap[L]? = some (.cells cs 51 (0, 0)) ∧ cs.size = n * 5
 at' : w.rangeAt L 0 (evs xs)
theorem RowEJ.lt {w : World} {L n : Nat} {xs : List Ev} (h : RowEJ w L n xs) : L < w.heap.size := by
 obtain ⟨cs, h1, -⟩ := h.row
 exact (Array.getElem?_eq_some_iff.1 h1).1
theorem RowEJ.keep {S : Nat → Prop} {w w' : World} {L n : Nat} {xs : List Ev} (h : RowEJ w L n xs) (hk : Kept S w w') (hS : ¬ S L) : RowEJ w' L n xs := by
 have hl := h.lt
 obtain ⟨cs, h1, h2⟩ := h.row
 exact ⟨⟨cs, hk.heap h1 hS, h2⟩, fun j v hv => (hk.cell (p := ⟨L, 0 + j, none⟩) hl hS).trans (h.at' j v hv)⟩
theorem RowEJ.there {w : World} {L n : Nat} {xs : List Ev} (h : RowEJ w L n xs) (hn : xs.length < n) (x : Ev) : w.there L (xs.length * 5) x.cells.toArray.size := by
 obtain ⟨cs, h1, h2⟩ := h.row
 intro j hj
 have hj : j < 5 := hj
 have hl : xs.length * 5 + j < cs.size := by omega
 refine ⟨?_, row_frozen h1 _⟩
 rw [cell_of_row _ _ _ _ _ _ h1, Array.getElem?_eq_getElem hl]
 rfl
theorem RowEJ.put {w : World} {L n : Nat} {xs : List Ev} (h : RowEJ w L n xs) (hn : xs.length < n) (x : Ev) : RowEJ (w.setCells L (xs.length * 5) x.cells) L n (xs ++ [x]) := by
 have ht := h.there hn x
 obtain ⟨cs, h1, h2⟩ := h.row
 obtain ⟨cs', h3, h4⟩ := row_setCells L _ _ x.cells (xs.length * 5) w cs h1
 refine ⟨⟨cs', h3, by omega⟩, fun j v hv => ?_⟩
 have he : evs (xs ++ [x]) = evs xs ++ x.cells := by unfold evs; simp
 have hl : (evs xs).length = xs.length * 5 := evs_length xs
 rw [he] at hv
 by_cases hj : j < (evs xs).length
 ·rw [List.getElem?_append_left hj] at hv
  exact World.rangeAt_setCells_apart (h.at') L (xs.length * 5) x.cells (.inr (.inl (by omega))) j v hv
 ·rw [List.getElem?_append_right (by omega)] at hv
  have := World.rangeAt_setCells_same w L (xs.length * 5) x.cells (by simpa using ht) (j - (evs xs).length) v hv
  rw [show xs.length * 5 + (j - (evs xs).length) = 0 + j by omega] at this
  exact this
theorem RowEJ.evAt {w : World} {L n : Nat} {xs : List Ev} (h : RowEJ w L n xs) : EvAt w (some ⟨L, 0, none⟩) xs := fun j v hv => ⟨L, 0, rfl, h.lt, h.at' j v hv⟩
theorem yrowY {P : Program} {ops : Array Oper} {S : World → Prop} {op : Oper} {a : Act} (hw : Region.wanted op (yielded ops a.tmps) = true) (ty : TypeId) (x : Operand) (ho : op.op = .load ty x)
  (g : Nat) (hx : a.eval x = .pointer (some ⟨g, 0, none⟩)) (t : TypeId) (cs : Array Value) (fr : Nat × Nat) (d : TypeDesc) (hS : ∀ w, S w → w.heap[g]? = some (.cells cs t fr))
  (hu : P.underlying ty = some d) (hd : (match d with | .struct _ | .array _ _ => true | _ => false) = true) (hi : (P.info? ty).map (·.size) = some cs.size) : YieldsIf P ops S op (.agg cs) a :=
 .inl ⟨hw, fun w hw' => by
  unfold execOp
  simp only [ho, hx, Instr.loadAt, Instr.sureAddr, Sem.run_bind, Sem.run_pure, Result.andThen_ok, run_loadVar_row w g t ty cs fr d (hS w hw') hu hd hi]⟩
theorem below_setRowY {B : Nat} {a w : World} (h : Below B a w) {g : Nat} (hg : B ≤ g) (cs : Array Value) : Below B a (w.setRow g cs) :=
 h.trans ⟨rfl, rfl, rfl, by simp, fun k hk => setRow_other w g k cs (by omega)⟩
theorem c_iuY (x : Ev) (hx : x.off < 1099511627776) (w : World) : (convert 2 48 (.int .i64 (oI x))).run Tryz.prog w = .ok (.int .u64 (x.off : Int)) w := by
 have e : IntKind.u64.wrap (oI x) = (x.off : Int) := by unfold oI; rw [IntKind.wrap_u64]; omega
 go_simp
theorem b_eqI (z : Int) (w : World) : (binOp .eql 2 (.int .i64 z) (.int .i64 z)).run Tryz.prog w = .ok (.bool true) w := by
 go_simp
theorem iEvC (x : Ev) : (Tryz.prog.info? 51).map (·.size) = some x.cells.toArray.size := by rw [List.size_toArray]; exact iEvB x
def EvEnds (g : Nat) (l : List Ev) (p : Int) (w : World) (e : Ending) (w' : World) : Prop :=
 ((∀ x ∈ l, formB x p = true) ∧ ∃ L n, e = .returned (.slice (some ⟨L, 0, none⟩) n n) ∧ n = l.length ∧ EvAt w' (some ⟨L, 0, none⟩) (l.map canE) ∧ Rd w' g [] ∧ Kept (Only g) w w' ∧ w.heap.size ≤ L) ∨
 ((∃ x ∈ l, formB x p = false) ∧ e = .panicked [gu g] ∧ Gone w' g ∧ Kept (Only g) w w')
theorem evY_assoc (l : List Ev) : evY l = txL (intsL (l.map oI)) ++ (txL (intsL (l.map Ev.part)) ++ (txL (intsL (l.map Ev.time)) ++ (txL (textsL (l.map kL)) ++ (txL (intsL ((l.map Ev.val).map rwI)) ++ [])))) := by
 unfold evY; simp [List.append_assoc]
theorem form_canE (x : Ev) (p : Int) : formB (canE x) p = formB x p := rfl
theorem lblk {w : World} {b : Addr} {t : TypeId} (h : ∃ cs fr, w.heap[b.block]? = some (.cells cs t fr)) : b.block < w.heap.size := by
 obtain ⟨cs, fr, h⟩ := h
 exact (Array.getElem?_eq_some_iff.1 h).1
set_option maxHeartbeats 32000000 in
theorem readEv_core (g : Nat) (l : List Ev) (n : Nat) (hn : Hid (n = l.length)) (hn6 : n ≤ 320) (hfin : Hid (∀ x ∈ l, FineE x)) (p : Int) (D1 D2 D3 D4 D5 q2 q3 q4 q5 : List Nat) (w : World) (HR0 : Hid (Rd w g (D1 ++ q2)))
  (HC1 : Hid (∀ w', Rd w' g (D1 ++ q2) → Calls Tryz.prog 115 #[.pointer (some ⟨g, 0, none⟩), .func (.func 116) #[] #[]] w' (ColY (PI (l.map oI)) g q2 w')))
  (HC2 : Hid (∀ w', Rd w' g q2 → Calls Tryz.prog 115 #[.pointer (some ⟨g, 0, none⟩), .func (.func 116) #[] #[]] w' (ColY (PI (l.map Ev.part)) g q3 w')))
  (HC3 : Hid (∀ w', Rd w' g q3 → Calls Tryz.prog 115 #[.pointer (some ⟨g, 0, none⟩), .func (.func 116) #[] #[]] w' (ColY (PI (l.map Ev.time)) g q4 w')))
  (HC4 : Hid (∀ w', Rd w' g q4 → Calls Tryz.prog 117 #[.pointer (some ⟨g, 0, none⟩), .func (.func 118) #[] #[]] w' (ColY (PT (l.map kL)) g q5 w')))
  (HC5 : Hid (∀ w', Rd w' g q5 → Calls Tryz.prog 119 #[.pointer (some ⟨g, 0, none⟩), .func (.func 120) #[] #[]] w' (ColY (PF ((l.map Ev.val).map Fl.canon)) g [] w'))) :
  Calls Tryz.prog 92 #[.pointer (some ⟨g, 0, none⟩), .int .i64 p] w (EvEnds g l p w) := by
 obtain ⟨ie, hie, iez0, iez1, iez2⟩ := info_parts infoEv
 have ieb : ie.bytes * n ≤ 281474976710656 := by rw [iez2]; omega
 have hnm : n ≤ maxLen := by unfold maxLen; omega
 go_enter Tryz.func92, Tryz.ntmps92
 go_upto_region 6 with (first
  | (go_at_call 115; (with_reducible refine (HC1.out w HR0.out).mono ?_); rintro e w1 ⟨A1, n1, c1, rfl, hp, hr, hk⟩; have P1 := Lib.hid hp; have Rg1 := Lib.hid hr; have K1 := Lib.hid hk; clear hp hr hk)
  | (go_at_call 115; (with_reducible refine (HC2.out w1 Rg1.out).mono ?_); rintro e w2 ⟨A2, n2, c2, rfl, hp, hr, hk⟩; have P2 := Lib.hid hp; have Rg2 := Lib.hid hr; have K2 := Lib.hid hk; clear hp hr hk)
  | (go_at_call 115; (with_reducible refine (HC3.out w2 Rg2.out).mono ?_); rintro e w3 ⟨A3, n3, c3, rfl, hp, hr, hk⟩; have P3 := Lib.hid hp; have Rg3 := Lib.hid hr; have K3 := Lib.hid hk; clear hp hr hk)
  | (go_at_call 117; (with_reducible refine (HC4.out w3 Rg3.out).mono ?_); rintro e w4 ⟨A4, n4, c4, rfl, hp, hr, hk⟩; have P4 := Lib.hid hp; have Rg4 := Lib.hid hr; have K4 := Lib.hid hk; clear hp hr hk)
  | (go_at_call 119; (with_reducible refine (HC5.out w4 Rg4.out).mono ?_); rintro e w5 ⟨A5, n5, c5, rfl, hp, hr, hk⟩; have P5 := Lib.hid hp; have Rg5 := Lib.hid hr; have K5 := Lib.hid hk; clear hp hr hk))
 have P1_ := Lib.hid (P1.out.kept K2.out (fun b hb => P1.out.off Rg1.out b hb))
 have P1__ := Lib.hid (P1_.out.kept K3.out (fun b hb => P1_.out.off Rg2.out b hb))
 have P1___ := Lib.hid (P1__.out.kept K4.out (fun b hb => P1__.out.off Rg3.out b hb))
 have P1____ := Lib.hid (P1___.out.kept K5.out (fun b hb => P1___.out.off Rg4.out b hb))
 have Q1 := P1____
 have P2_ := Lib.hid (P2.out.kept K3.out (fun b hb => P2.out.off Rg2.out b hb))
 have P2__ := Lib.hid (P2_.out.kept K4.out (fun b hb => P2_.out.off Rg3.out b hb))
 have P2___ := Lib.hid (P2__.out.kept K5.out (fun b hb => P2__.out.off Rg4.out b hb))
 have Q2 := P2___
 have P3_ := Lib.hid (P3.out.kept K4.out (fun b hb => P3.out.off Rg3.out b hb))
 have P3__ := Lib.hid (P3_.out.kept K5.out (fun b hb => P3_.out.off Rg4.out b hb))
 have Q3 := P3__
 have P4_ := Lib.hid (P4.out.kept K5.out (fun b hb => P4.out.off Rg4.out b hb))
 have Q4 := P4_
 have Q5 := P5
 have e1 : n1 = n := by rw [Q1.out.1]; rw [List.length_map]; exact hn.out.symm
 have e2 : n2 = n := by rw [Q2.out.1]; rw [List.length_map]; exact hn.out.symm
 have e3 : n3 = n := by rw [Q3.out.1]; rw [List.length_map]; exact hn.out.symm
 have e4 : n4 = n := by rw [Q4.out.1]; rw [List.length_map]; exact hn.out.symm
 have e5 : n5 = n := by rw [Q5.out.1]; rw [List.length_map, List.length_map]; exact hn.out.symm
 have K := Lib.hid ((((K1.out.trans K2.out).trans K3.out).trans K4.out).trans K5.out)
 have HRd := Rg5
 clear P1 P2 P3 P4 P5 Rg1 Rg2 Rg3 Rg4 Rg5 K1 K2 K3 K4 K5 HC1 HC2 HC3 HC4 HC5 HR0
 obtain rfl : n1 = n := e1
 obtain rfl : n2 = n1 := e2
 obtain rfl : n3 = n2 := e3
 obtain rfl : n4 = n3 := e4
 obtain rfl : n5 = n4 := e5
 have hnn : ((n5 : Int) == (n5 : Int)) = true := by simp
 go_wp2_with (first
  | (refine wpList_make_full _ rfl (.tmp 24) (.tmp 24) 22 rfl w5.heap.size 51 ie (.agg #[Value.int .u64 0, .int .i64 0, .int .i64 0, .string ByteArray.empty, .float .f64 0]) 5 Tryz.underlying22 hie iez0 iez1 .i64 .i64 _ _ n5 rfl rfl rfl rfl ieb hnm (Nat.le_refl _) ?_; intro w6 own hgr; have HOW := Lib.hid own; have HG6 : Hid (Below w5.heap.size w5 w6) := Lib.hid ((Below.refl _ w5).grown hgr (Nat.le_refl _) (by intro k hk; cases hk)); clear own hgr)
  | (go_at_call 121; (with_reducible refine (check_true _ _).mono ?_); rintro e w9 ⟨rfl, rfl⟩))
 have HRE : Hid (RowEJ w6 w5.heap.size n5 []) := Lib.hid (by
  rcases HOW.out.2 with ⟨e0, h0⟩ | ⟨L', cap', cur, e0, hb, hrow, h1, h2, hs, ht⟩
  ·cases e0
  ·cases e0; exact ⟨⟨cur, hrow, hs⟩, fun j v hv => by simp [evs] at hv⟩)
 have KB : Kept (fun _ => False) w5 w6 := Kept.of_below HG6.out
 have l1 : Hid (∀ b, A1 = some b → b.block < w5.heap.size) := Lib.hid fun b hb => lblk (Q1.out.2.2.2.2 b hb)
 have l2 : Hid (∀ b, A2 = some b → b.block < w5.heap.size) := Lib.hid fun b hb => lblk (Q2.out.2.2.2.2 b hb)
 have l3 : Hid (∀ b, A3 = some b → b.block < w5.heap.size) := Lib.hid fun b hb => lblk (Q3.out.2.2.2.2 b hb)
 have l4 : Hid (∀ b, A4 = some b → b.block < w5.heap.size) := Lib.hid fun b hb => lblk (Q4.out.2.2.2 b hb)
 have l5 : Hid (∀ b, A5 = some b → b.block < w5.heap.size) := Lib.hid fun b hb => lblk (Q5.out.2.2.2 b hb)
 have V1 := Lib.hid (Q1.out.kept KB (fun _ _ h => h)); have V2 := Lib.hid (Q2.out.kept KB (fun _ _ h => h)); have V3 := Lib.hid (Q3.out.kept KB (fun _ _ h => h)); have V4 := Lib.hid (Q4.out.kept KB (fun _ _ h => h)); have V5 := Lib.hid (Q5.out.kept KB (fun _ _ h => h))
 have HR6 := Lib.hid (HRd.out.highY KB (fun _ h => h.elim))
 have HGL : Hid (g < w5.heap.size) := Lib.hid (by obtain ⟨A, C, h⟩ := HRd.out; exact h.lt)
 have KW := Lib.hid (K.out.trans (KB.mono fun k h => h.elim))
 have HWS : Hid (w.heap.size ≤ w5.heap.size) := Lib.hid K.out.size
 clear Q1 Q2 Q3 Q4 Q5 HRd KB K HOW HG6
 generalize w5.heap.size = L at *
 go_loopw [56] (fun v wr => ∃ i : Nat, i ≤ n5 ∧ v = .int .i64 (i : Int) ∧ RowEJ wr L n5 ((l.take i).map canE) ∧ Kept (fun j => j = L) w6 wr ∧ ∀ x ∈ l.take i, formB x p = true) (fun v _ => n5 - (intOf v).toNat)
 case atStart => exact ⟨0, Nat.zero_le _, rfl, by rw [List.take_zero]; exact HRE.out, Kept.refl _ _, fun x hx => by rw [List.take_zero] at hx; cases hx⟩
 case round =>
  obtain ⟨i, hi, rfl, hre, hk, hfo⟩ := hrel
  have HRR := Lib.hid hre; have HKK := Lib.hid hk; have HFF := Lib.hid hfo
  clear hre hk hfo HRE
  have KWr := Lib.hid (KW.out.trans' HKK.out (fun j hj => .inr (by have hj : j = L := hj; have := HWS.out; omega)))
  have HRr := Lib.hid (HR6.out.highY HKK.out (fun j hj => by have hj : j = L := hj; have := HGL.out; omega))
  by_cases hlt : i < n5
  ·have hii : (i : Int) < (n5 : Int) := by omega
   have hil : i < l.length := by have := hn.out; omega
   obtain ⟨x, hx⟩ : ∃ x, l[i]? = some x := ⟨_, List.getElem?_eq_getElem hil⟩
   have HX := Lib.hid hx
   have HF := Lib.hid (hfin.out x (List.mem_of_getElem? hx))
   have u1 := V1.out.kept HKK.out (fun b hb e => by have e : b.block = L := e; have := l1.out b hb; omega)
   have u2 := V2.out.kept HKK.out (fun b hb e => by have e : b.block = L := e; have := l2.out b hb; omega)
   have u3 := V3.out.kept HKK.out (fun b hb e => by have e : b.block = L := e; have := l3.out b hb; omega)
   have u4 := V4.out.kept HKK.out (fun b hb e => by have e : b.block = L := e; have := l4.out b hb; omega)
   have u5 := V5.out.kept HKK.out (fun b hb e => by have e : b.block = L := e; have := l5.out b hb; omega)
   obtain ⟨-, b1, o1, hA1, hb1, hc1⟩ := u1.2.2.2.1 i (oI x) (by rw [List.getElem?_map, hx]; rfl)
   obtain ⟨-, b2, o2, hA2, hb2, hc2⟩ := u2.2.2.2.1 i x.part (by rw [List.getElem?_map, hx]; rfl)
   obtain ⟨-, b3, o3, hA3, hb3, hc3⟩ := u3.2.2.2.1 i x.time (by rw [List.getElem?_map, hx]; rfl)
   obtain ⟨-, b4, o4, hA4, hb4, hc4⟩ := u4.2.2.1 i (kL x) (by rw [List.getElem?_map, hx]; rfl)
   obtain ⟨-, b5, o5, hA5, hb5, hc5⟩ := u5.2.2.1 i (Fl.canon x.val) (by rw [List.getElem?_map, List.getElem?_map, hx]; rfl)
   subst hA1; subst hA2; subst hA3; subst hA4; subst hA5
   have HB2 := Lib.hid hb2; have HC2 := Lib.hid hc2
   clear u1 u2 u3 u4 u5 hx
   go_upto_region 11 with fail
   refine wp_region_held_drew (S := fun w' => Below wr.heap.size wr w') (by kernel_rfl) ((Below.refl _ _).drew) (fun hHeld => ?_)
   refine tkm 0 (.slice (some ⟨b1, o1, none⟩) n5 c1) rfl hHeld ?_
   try simp only [qz]
   refine tkm 1 (.int .i64 (i : Int)) rfl hHeld ?_
   try simp only [qz]
   refine tks 2 (.pointer (some ⟨b1, o1 + i, none⟩)) rfl hHeld ?_
   try simp only [qz]
   refine tk 3 (.int .i64 (oI x)) rfl (Or.inl ⟨by rfl, fun w hw => by have hc : w.cell? ⟨b1, o1 + i, none⟩ = some (.int .i64 (oI x)) := (hw.cell (p := ⟨b1, o1 + i, none⟩) hb1).trans hc1; go_simp⟩) hHeld ?_
   try simp only [qz]
   refine tk 4 (.int .u64 (x.off : Int)) rfl (yb_cv rfl 2 48 (.tmp 62) rfl _ _ rfl (fun w => c_iuY x HF.out.off w)) hHeld ?_
   try simp only [qz]
   refine tkm 5 (.slice (some ⟨b2, o2, none⟩) n5 c2) rfl hHeld ?_
   try simp only [qz]
   refine tkm 6 (.int .i64 (i : Int)) rfl hHeld ?_
   try simp only [qz]
   refine tks 7 (.pointer (some ⟨b2, o2 + i, none⟩)) rfl hHeld ?_
   try simp only [qz]
   refine tk 8 (.int .i64 x.part) rfl (Or.inl ⟨by rfl, fun w hw => by have hc : w.cell? ⟨b2, o2 + i, none⟩ = some (.int .i64 x.part) := (hw.cell (p := ⟨b2, o2 + i, none⟩) hb2).trans hc2; go_simp⟩) hHeld ?_
   try simp only [qz]
   refine tkm 9 (.slice (some ⟨b3, o3, none⟩) n5 c3) rfl hHeld ?_
   try simp only [qz]
   refine tkm 10 (.int .i64 (i : Int)) rfl hHeld ?_
   try simp only [qz]
   refine tks 11 (.pointer (some ⟨b3, o3 + i, none⟩)) rfl hHeld ?_
   try simp only [qz]
   refine tk 12 (.int .i64 x.time) rfl (Or.inl ⟨by rfl, fun w hw => by have hc : w.cell? ⟨b3, o3 + i, none⟩ = some (.int .i64 x.time) := (hw.cell (p := ⟨b3, o3 + i, none⟩) hb3).trans hc3; go_simp⟩) hHeld ?_
   try simp only [qz]
   refine tkm 13 (.slice (some ⟨b4, o4, none⟩) n5 c4) rfl hHeld ?_
   try simp only [qz]
   refine tkm 14 (.int .i64 (i : Int)) rfl hHeld ?_
   try simp only [qz]
   refine tks 15 (.pointer (some ⟨b4, o4 + i, none⟩)) rfl hHeld ?_
   try simp only [qz]
   refine tk 16 (.string (strB (kL x))) rfl (Or.inl ⟨by rfl, fun w hw => by have hc : w.cell? ⟨b4, o4 + i, none⟩ = some (.string (strB (kL x))) := (hw.cell (p := ⟨b4, o4 + i, none⟩) hb4).trans hc4; go_simp⟩) hHeld ?_
   try simp only [qz]
   refine tkm 17 (.slice (some ⟨b5, o5, none⟩) n5 c5) rfl hHeld ?_
   try simp only [qz]
   refine tkm 18 (.int .i64 (i : Int)) rfl hHeld ?_
   try simp only [qz]
   refine tks 19 (.pointer (some ⟨b5, o5 + i, none⟩)) rfl hHeld ?_
   try simp only [qz]
   refine tk 20 (.float .f64 (Fl.canon x.val)) rfl (Or.inl ⟨by rfl, fun w hw => by have hc : w.cell? ⟨b5, o5 + i, none⟩ = some (.float .f64 (Fl.canon x.val)) := (hw.cell (p := ⟨b5, o5 + i, none⟩) hb5).trans hc5; go_simp⟩) hHeld ?_
   try simp only [qz]
   refine tks 21 (.agg #[.int .u64 (x.off : Int), .int .i64 x.part, .int .i64 x.time, .string (strB (kL x)), .float .f64 (Fl.canon x.val)]) rfl hHeld ?_
   try simp only [qz]
   refine rd1 22 rfl (fun K hK => ?_)
   go_simp
   refine hK.out _ _ (hHeld.alloc ((Below.refl wr.heap.size wr).drew).size _) (fun _ => ?_)
   clear hK K
   try simp only [qz]
   refine rd1 23 rfl (fun K hK => ?_)
   rw [if_pos (by rfl)]
   refine wp_store_row 51 (.tmp 12) (.tmp 80) rfl _ #[.int .u64 (x.off : Int), .int .i64 x.part, .int .i64 x.time, .string (strB (kL x)), .float .f64 (Fl.canon x.val)] rfl rfl _ _ (heap_alloc_new' _ _) (iEvC (canE x)) rfl (by simp [Value.oneCell']) ?_
   refine hK.out _ _ (below_setRowY (((Below.refl wr.heap.size wr).alloc (Nat.le_refl _) _).drew) (Nat.le_refl _) _) (fun _ => ?_)
   clear hK K
   refine wpAnyH_done (by kernel_rfl) ?_ _
   have hcE : (canE x).cells.toArray = #[.int .u64 (x.off : Int), .int .i64 x.part, .int .i64 x.time, .string (strB (kL x)), .float .f64 (Fl.canon x.val)] := by rw [kL_strB]; rfl
   rw [← hcE]
   obtain ⟨w7, hw7⟩ : ∃ w7, w7 = ((wr.alloc (.cells #[.int .u64 0, .int .i64 0, .int .i64 0, .string { data := #[] }, .float .f64 0] 51)).drew).setRow wr.heap.size (canE x).cells.toArray := ⟨_, rfl⟩
   obtain ⟨bE, hbE⟩ : ∃ bE, bE = wr.heap.size := ⟨_, rfl⟩
   have hb7 : Below wr.heap.size wr w7 := by rw [hw7]; exact below_setRowY (((Below.refl wr.heap.size wr).alloc (Nat.le_refl _) _).drew) (Nat.le_refl _) _
   have HEV : Hid (w7.heap[bE]? = some (.cells (canE x).cells.toArray 51 (0, 0))) := Lib.hid (by rw [hw7, hbE]; exact setRow_heap _ _ _ _ _ _ (heap_alloc_new' wr (.cells #[.int .u64 0, .int .i64 0, .int .i64 0, .string { data := #[] }, .float .f64 0] 51)))
   have HBE : Hid (bE < w7.heap.size) := Lib.hid (Array.getElem?_eq_some_iff.1 HEV.out).1
   have HR7 := Lib.hid (HRr.out.highY (S := fun _ => False) (Kept.of_below hb7) (fun _ h => h.elim))
   have HK7 := Lib.hid (KWr.out.trans (Kept.of_below hb7))
   have HB7 := Lib.hid hb7
   have HB2' : Hid (b2 < w7.heap.size) := Lib.hid (Nat.lt_of_lt_of_le HB2.out hb7.size)
   have HC2' : Hid (w7.cell? ⟨b2, o2 + i, none⟩ = some (.int .i64 x.part)) := Lib.hid ((hb7.cell (p := ⟨b2, o2 + i, none⟩) HB2.out).trans HC2.out)
   have HLR : Hid (L < bE) := Lib.hid (by rw [hbE]; exact HRR.out.lt)
   have HW7 := Lib.hid hw7; have HBB := Lib.hid hbE
   clear hw7 hbE hb7 hHeld hb1 hb2 hb3 hb4 hb5 hc1 hc2 hc3 hc4 hc5 HB2 HC2 hcE
   rw [← HW7.out, ← HBB.out]
   have HB2 := HB2'; have HC2 := HC2'
   clear HB2' HC2'
   go_upto_region 12 with fail
   rcases hfx : formB x p with _ | _
   ·have HFO : Hid (formB (canE x) p = false) := Lib.hid hfx
    have HFO0 := Lib.hid hfx
    clear hfx
    refine wp_region_held_drew (S := fun w' => Below w7.heap.size w7 w') (by kernel_rfl) ((Below.refl _ _).drew) (fun hHeld => ?_)
    refine tkm 0 (.pointer (some ⟨g, 0, none⟩)) rfl hHeld ?_
    try simp only [qz]
    refine tk 1 (.agg (canE x).cells.toArray) rfl (yrowY rfl 51 (.tmp 12) rfl bE rfl _ _ (0, 0) _ (fun w' hw => hw.block bE HBE.out |>.trans HEV.out) uEvB rfl (iEvC (canE x))) hHeld ?_
    try simp only [qz]
    refine tkm 2 (.int .i64 p) rfl hHeld ?_
    try simp only [qz]
    refine rd1 3 rfl (fun K hK => ?_)
    go_simp
    refine (form_any (canE x) p _).mono ?_
    rintro e v1 ⟨rfl, hb1⟩
    replace hHeld := below_to hHeld hb1
    rw [HFO.out]
    refine hK.out _ _ hHeld (fun hHeld => ?_)
    clear hK K
    try simp only [qz]
    refine tkm 4 (.bool false) rfl hHeld ?_
    try simp only [qz]
    refine tk 5 undef rfl (Or.inr ⟨by rfl, rfl⟩) hHeld ?_
    try simp only [qz]
    refine tk 6 undef rfl (Or.inr ⟨by rfl, rfl⟩) hHeld ?_
    try simp only [qz]
    refine tk 7 undef rfl (Or.inr ⟨by rfl, rfl⟩) hHeld ?_
    try simp only [qz]
    refine tk 8 undef rfl (Or.inr ⟨by rfl, rfl⟩) hHeld ?_
    try simp only [qz]
    refine tk 9 undef rfl (Or.inr ⟨by rfl, rfl⟩) hHeld ?_
    try simp only [qz]
    refine tk 10 undef rfl (Or.inr ⟨by rfl, rfl⟩) hHeld ?_
    try simp only [qz]
    refine tk 11 undef rfl (Or.inr ⟨by rfl, rfl⟩) hHeld ?_
    try simp only [qz]
    refine tk 12 (.bool false) rfl (yb_pick rfl (.tmp 85) (.tmp 92) (.const (.bool false)) rfl false _ rfl rfl) hHeld ?_
    try simp only [qz]
    refine rd1 13 rfl (fun K hK => ?_)
    go_simp
    obtain ⟨A9, C9, hRA⟩ := HR7.out.highY (S := fun _ => False) (Kept.of_below hHeld) (fun _ h => h.elim)
    refine (check_false g C9 A9 [] _ (Lib.hid hRA)).mono ?_
    rintro e v2 ⟨rfl, h1, h2⟩
    exact ⟨rfl, .inr ⟨⟨x, List.mem_of_getElem? HX.out, HFO0.out⟩, rfl, h1, (HK7.out.trans (Kept.of_below hHeld)).trans h2⟩⟩
   ·have HFO : Hid (formB (canE x) p = true) := Lib.hid hfx
    have HFX := Lib.hid hfx
    clear hfx
    refine wp_region_held_drew (S := fun w' => Below w7.heap.size w7 w') (by kernel_rfl) ((Below.refl _ _).drew) (fun hHeld => ?_)
    refine tkm 0 (.pointer (some ⟨g, 0, none⟩)) rfl hHeld ?_
    try simp only [qz]
    refine tk 1 (.agg (canE x).cells.toArray) rfl (yrowY rfl 51 (.tmp 12) rfl bE rfl _ _ (0, 0) _ (fun w' hw => hw.block bE HBE.out |>.trans HEV.out) uEvB rfl (iEvC (canE x))) hHeld ?_
    try simp only [qz]
    refine tkm 2 (.int .i64 p) rfl hHeld ?_
    try simp only [qz]
    refine rd1 3 rfl (fun K hK => ?_)
    go_simp
    refine (form_any (canE x) p _).mono ?_
    rintro e v1 ⟨rfl, hb1⟩
    replace hHeld := below_to hHeld hb1
    rw [HFO.out]
    refine hK.out _ _ hHeld (fun hHeld => ?_)
    clear hK K
    try simp only [qz]
    refine tkm 4 (.bool true) rfl hHeld ?_
    try simp only [qz]
    refine tks 5 (.pointer (some ⟨bE, 1, none⟩)) rfl hHeld ?_
    try simp only [qz]
    refine tk 6 (.int .i64 x.part) rfl (Or.inl ⟨by rfl, fun w hw => by have hc : w.cell? ⟨bE, 1, none⟩ = some (.int .i64 x.part) := EvRow.c (x := canE x) ((hw.block bE HBE.out).trans HEV.out) 1 _ rfl; go_simp⟩) hHeld ?_
    try simp only [qz]
    refine tkm 7 (.slice (some ⟨b2, o2, none⟩) n5 c2) rfl hHeld ?_
    try simp only [qz]
    refine tkm 8 (.int .i64 (i : Int)) rfl hHeld ?_
    try simp only [qz]
    refine tks 9 (.pointer (some ⟨b2, o2 + i, none⟩)) rfl hHeld ?_
    try simp only [qz]
    refine tk 10 (.int .i64 x.part) rfl (Or.inl ⟨by rfl, fun w hw => by have hc : w.cell? ⟨b2, o2 + i, none⟩ = some (.int .i64 x.part) := (hw.cell (p := ⟨b2, o2 + i, none⟩) HB2.out).trans HC2.out; go_simp⟩) hHeld ?_
    try simp only [qz]
    refine tk 11 (.bool true) rfl (yb_bin rfl .eql 2 2 (.tmp 87) (.tmp 91) rfl _ _ _ rfl rfl (fun _ => rfl) (b_eqI _)) hHeld ?_
    try simp only [qz]
    refine tk 12 (.bool true) rfl (yb_pick rfl (.tmp 85) (.tmp 92) (.const (.bool false)) rfl true _ rfl rfl) hHeld ?_
    try simp only [qz]
    refine rd1 13 rfl (fun K hK => ?_)
    go_simp
    refine (check_true _ _).mono ?_
    rintro e v2 ⟨rfl, rfl⟩
    refine hK.out _ _ hHeld (fun hHeld => ?_)
    clear hK K
    refine wpAnyH_done (by kernel_rfl) ?_ _
    have HB8 := Lib.hid hHeld
    have HE8 := Lib.hid ((hHeld.block bE HBE.out).trans HEV.out)
    have HR8 : Hid (RowEJ v1 L n5 ((l.take i).map canE)) := Lib.hid ((HRR.out.keep (S := fun _ => False) (Kept.of_below HB7.out) (fun h => h)).keep (S := fun _ => False) (Kept.of_below hHeld) (fun h => h))
    have hmi : ((l.take i).map canE).length = i := by rw [List.length_map, List.length_take]; omega
    have hth := HR8.out.there (by omega) (canE x)
    have hpu := HR8.out.put (by omega) (canE x)
    rw [hmi] at hth hpu
    have HTH := Lib.hid hth
    have HPU : Hid (RowEJ (v1.setCells L (i * 5) (canE x).cells.toArray.toList) L n5 (((l.take i).map canE) ++ [canE x])) := Lib.hid hpu
    have HIC := Lib.hid (iEvC (canE x))
    have HON := Lib.hid (oneEvB (canE x))
    clear hHeld HEV HBE hth hpu HR8 hmi
    generalize (canE x).cells.toArray = CE at *
    go_wp2_with (first
     | (refine wpList_load_row rfl 51 (.tmp 12) rfl bE rfl _ CE (0, 0) _ HE8.out uEvB rfl HIC.out ?_)
     | (refine wpList_store_mid rfl 51 (.tmp 98) (.tmp 97) rfl L (i * 5) CE rfl rfl HTH.out HIC.out HON.out ?_))
    go_roundw
    case rel =>
     have htk : l.take (i + 1) = l.take i ++ [x] := by rw [List.take_add_one, HX.out]; rfl
     refine ⟨i + 1, by omega, by go_num, ?_, ?_, fun y hy => ?_⟩
     ·rw [htk, List.map_append]; exact HPU.out
     ·exact ((HKK.out.trans (Kept.of_below HB7.out)).trans (Kept.of_below HB8.out)).trans (kept_setCells L _ _ _)
     ·rw [htk, List.mem_append] at hy
      rcases hy with h | h
      ·exact HFF.out y h
      ·rw [List.mem_singleton] at h; subst h; exact HFX.out
    case measure => simp [intOf]; omega
  ·obtain rfl : i = n5 := by omega
   have hii : ¬ (i : Int) < (i : Int) := by omega
   have htk : l.take i = l := List.take_of_length_le (by have := hn.out; omega)
   rw [htk] at HRR HFF
   go_wp2
   go_ret
   exact .inl ⟨HFF.out, L, i, rfl, hn.out, HRR.out.evAt, HRr.out, KWr.out, HWS.out⟩
end Go.Proofs.YtjldamkmdkaiiaaGreatDoor
