/-
  Layer segment: a foot out of bytes: plain.
-/
import Derived.Test.YtifabkbdiiolfaaDoorJaK
import Derived.Test.YtifabkbdiiolfaaDoorUdK
import Derived.Test.YtifabkbdiiolfaaDoorYhK
import Derived.Test.YtifabkbdiiolfaaDoorRaK
import Derived.Deep.DeepCutAuto
import Derived.Test.YtifabkbdiiolfaaDoorCyK
import Derived.Test.YtifabkbdiiolfaaDoorGzK
import Derived.Test.YtifabkbdiiolfaaDoorGqK
set_option linter.unusedSimpArgs false
set_option linter.unusedVariables false
set_option maxRecDepth 8000
namespace Go.Proofs.YtifabkbdiiolfaaDoor
open Go.RowKit Go.Sort Go.WideShapes Col
theorem tP_backY {most : Nat} (s : List Nat) (h : s.length ≤ most) (hl : s.length < 18446744073709551616) (r : List Nat) : tP most (txL s ++ r) = some (s, r) := by
 unfold tP txL
 rw [List.append_assoc, uP_back h hl]
 simp
theorem IsAt.keptY {S : Nat → Prop} {w w' : World} {a : Option Addr} {l : List Int} (h : IsAt w a l) (hk : Kept S w w') (ho : ∀ b, a = some b → ¬ S b.block) : IsAt w' a l := h.kept hk ho
theorem TxAt.keptY {S : Nat → Prop} {w w' : World} {a : Option Addr} {l : List (List Nat)} (h : TxAt w a l) (hk : Kept S w w') (ho : ∀ b, a = some b → ¬ S b.block) : TxAt w' a l := fun k x hx => by
 obtain ⟨h1, g, off, h2, h3, h4⟩ := h k x hx
 exact ⟨h1, g, off, h2, Nat.lt_of_lt_of_le h3 hk.size, (hk.cell (p := ⟨g, off + k, none⟩) h3 (fun e => ho ⟨g, off, none⟩ h2 e)).trans h4⟩
theorem FlAt.keptY {S : Nat → Prop} {w w' : World} {a : Option Addr} {l : List Nat} (h : FlAt w a l) (hk : Kept S w w') (ho : ∀ b, a = some b → ¬ S b.block) : FlAt w' a l := fun k x hx => by
 obtain ⟨h1, g, off, h2, h3, h4⟩ := h k x hx
 exact ⟨h1, g, off, h2, Nat.lt_of_lt_of_le h3 hk.size, (hk.cell (p := ⟨g, off + k, none⟩) h3 (fun e => ho ⟨g, off, none⟩ h2 e)).trans h4⟩
/-- A row that is no reader's. -/
theorem no_rd {w : World} {g L : Nat} {q : List Nat} {cs : Array Value} {t : TypeId} {fr : Nat × Nat} (h : Rd w g q) (hr : w.heap[L]? = some (.cells cs t fr)) (ht : t ≠ 83) : L ≠ g := fun e => by
 obtain ⟨A, C, h⟩ := h
 have h1 := h.row
 rw [← e, hr] at h1
 injection h1 with h1
 injection h1 with h2 h3
 exact ht h3
/-- What was read of a column of whole numbers, and so on. -/
def PI (l : List Int) (A : Option Addr) (n c : Nat) (w : World) : Prop := n = l.length ∧ n ≤ c ∧ c ≤ maxLen ∧ IsAt w A l ∧ ∀ b, A = some b → ∃ cs fr, w.heap[b.block]? = some (.cells cs 2 fr)
def PT (l : List (List Nat)) (A : Option Addr) (n c : Nat) (w : World) : Prop := n = l.length ∧ n ≤ c ∧ TxAt w A l ∧ ∀ b, A = some b → ∃ cs fr, w.heap[b.block]? = some (.cells cs 9 fr)
def PF (l : List Nat) (A : Option Addr) (n c : Nat) (w : World) : Prop := n = l.length ∧ n ≤ c ∧ FlAt w A l ∧ ∀ b, A = some b → ∃ cs fr, w.heap[b.block]? = some (.cells cs 32 fr)
section
variable {S : Nat → Prop} {w w' : World} {A : Option Addr} {n c g : Nat} {q : List Nat}
theorem PI.off {l : List Int} (h : PI l A n c w) (hr : Rd w g q) : ∀ b, A = some b → b.block ≠ g := fun b hb => by
 obtain ⟨cs, fr, h1⟩ := h.2.2.2.2 b hb
 exact no_rd hr h1 (by decide)
theorem PT.off {l : List (List Nat)} (h : PT l A n c w) (hr : Rd w g q) : ∀ b, A = some b → b.block ≠ g := fun b hb => by
 obtain ⟨cs, fr, h1⟩ := h.2.2.2 b hb
 exact no_rd hr h1 (by decide)
theorem PF.off {l : List Nat} (h : PF l A n c w) (hr : Rd w g q) : ∀ b, A = some b → b.block ≠ g := fun b hb => by
 obtain ⟨cs, fr, h1⟩ := h.2.2.2 b hb
 exact no_rd hr h1 (by decide)
theorem PI.kept {l : List Int} (h : PI l A n c w) (hk : Kept S w w') (ho : ∀ b, A = some b → ¬ S b.block) : PI l A n c w' := ⟨h.1, h.2.1, h.2.2.1, h.2.2.2.1.keptY hk ho, fun b hb => by
 obtain ⟨cs, fr, h1⟩ := h.2.2.2.2 b hb
 exact ⟨cs, fr, hk.heap h1 (ho b hb)⟩⟩
theorem PT.kept {l : List (List Nat)} (h : PT l A n c w) (hk : Kept S w w') (ho : ∀ b, A = some b → ¬ S b.block) : PT l A n c w' := ⟨h.1, h.2.1, h.2.2.1.keptY hk ho, fun b hb => by
 obtain ⟨cs, fr, h1⟩ := h.2.2.2 b hb
 exact ⟨cs, fr, hk.heap h1 (ho b hb)⟩⟩
theorem PF.kept {l : List Nat} (h : PF l A n c w) (hk : Kept S w w') (ho : ∀ b, A = some b → ¬ S b.block) : PF l A n c w' := ⟨h.1, h.2.1, h.2.2.1.keptY hk ho, fun b hb => by
 obtain ⟨cs, fr, h1⟩ := h.2.2.2 b hb
 exact ⟨cs, fr, hk.heap h1 (ho b hb)⟩⟩
end
end Go.Proofs.YtifabkbdiiolfaaDoor

namespace Go.Proofs.YtifabkbdiiolfaaDoor
open Go.RowKit Go.WideShapes Col
/-- Is what is told of a chunk such, if its page is to stand below so many bytes? -/
def ckG (foot : Nat) (x : Ck) : Bool := decide (1 ≤ x.rows) && (decide (x.ob = x.oa + (x.rows - 1)) && decide (x.pl < foot))
def ck8 (foot rows pl oa ob : Nat) (ta tz : Int) (ka q : List Nat) : Option (Ck × List Nat) := (tP 32 q).bind fun y => if ckG foot ⟨rows, pl, oa, ob, ta, tz, strB ka, strB y.1⟩ = true then some (⟨rows, pl, oa, ob, ta, tz, strB ka, strB y.1⟩, y.2) else none
def ck7 (foot rows pl oa ob : Nat) (ta tz : Int) (q : List Nat) : Option (Ck × List Nat) := (tP 32 q).bind fun y => ck8 foot rows pl oa ob ta tz y.1 y.2
def ck6 (foot rows pl oa ob : Nat) (ta : Int) (q : List Nat) : Option (Ck × List Nat) := (zP q).bind fun y => ck7 foot rows pl oa ob ta y.1 y.2
def ck5 (foot rows pl oa ob : Nat) (q : List Nat) : Option (Ck × List Nat) := (zP q).bind fun y => ck6 foot rows pl oa ob y.1 y.2
def ck4 (foot rows pl oa : Nat) (q : List Nat) : Option (Ck × List Nat) := (uP 1099511627775 q).bind fun y => ck5 foot rows pl oa y.1 y.2
def ck3 (foot rows pl : Nat) (q : List Nat) : Option (Ck × List Nat) := (uP 1099511627775 q).bind fun y => ck4 foot rows pl y.1 y.2
def ck2 (foot rows : Nat) (q : List Nat) : Option (Ck × List Nat) := (uP foot q).bind fun y => ck3 foot rows y.1 y.2
/-- What is told of a chunk, out of bytes. -/
def ckP (foot : Nat) (q : List Nat) : Option (Ck × List Nat) := (uP 64 q).bind fun y => ck2 foot y.1 y.2
/-- Does a chunk stand behind those? -/
def flw (m : List Ck) (c : Ck) : Bool := match m.getLast? with
 | none => decide (c.pl = 0)
 | some a => decide (a.pl < c.pl) && decide (c.oa = a.ob + 1)
def cksP (foot : Nat) : Nat → List Ck → List Nat → Option (List Ck × List Nat)
 | 0, m, q => some (m, q)
 | n + 1, m, q => (ckP foot q).bind fun y => if flw m y.1 = true then cksP foot n (m ++ [y.1]) y.2 else none
theorem cksP_succ (foot n : Nat) (m : List Ck) (q : List Nat) : cksP foot (n + 1) m q = (ckP foot q).bind fun y => if flw m y.1 = true then cksP foot n (m ++ [y.1]) y.2 else none := rfl
def ft2 (foot p : Nat) (q : List Nat) : Option ((Nat × List Ck) × List Nat) := (uP 18446744073709551615 q).bind fun z => if 1 ≤ p ∧ 1 ≤ z.1 then (cksP foot z.1 [] z.2).map fun t => ((p, t.1), t.2) else none
/-- A foot out of bytes. -/
def footP (foot : Nat) (q : List Nat) : Option ((Nat × List Ck) × List Nat) := (uP 8 q).bind fun y => ft2 foot y.1 y.2
/-- Chunks that are as a foot is to tell them. -/
structure CkIn (foot : Nat) (x : Ck) : Prop where
 ok : CkOk x
 rows : x.rows ≤ 64
 pl : x.pl ≤ foot
 oa : x.oa < 1099511627776
 ob : x.ob < 1099511627776
 good : ckG foot x = true
theorem ckP_back {foot : Nat} {x : Ck} (h : CkIn foot x) (r : List Nat) : ckP foot (ckB x ++ r) = some (x, r) := by
 have e : ckB x ++ r = ub x.rows ++ (ub x.pl ++ (ub x.oa ++ (ub x.ob ++ (ub (zz x.ta) ++ (ub (zz x.tz) ++ (txL (kbS x.ka) ++ (txL (kbS x.kz) ++ r))))))) := by
  unfold ckB nums nsB
  simp [List.append_assoc]
 have h1 := h.rows; have h2 := h.ok.pl; have h3 := h.oa; have h4 := h.ob; have h5 := h.ok.ka; have h6 := h.ok.kz
 rw [e]
 unfold ckP
 rw [uP_back (by omega) (by omega)]
 show ck2 foot x.rows _ = _
 unfold ck2
 rw [uP_back h.pl (by omega)]
 show ck3 foot x.rows x.pl _ = _
 unfold ck3
 rw [uP_back (by omega) (by omega)]
 show ck4 foot x.rows x.pl x.oa _ = _
 unfold ck4
 rw [uP_back (by omega) (by omega)]
 show ck5 foot x.rows x.pl x.oa x.ob _ = _
 unfold ck5
 rw [zP_back h.ok.ta]
 show ck6 foot x.rows x.pl x.oa x.ob x.ta _ = _
 unfold ck6
 rw [zP_back h.ok.tz]
 show ck7 foot x.rows x.pl x.oa x.ob x.ta x.tz _ = _
 unfold ck7
 rw [tP_backY (kbS x.ka) (by rw [kbS_len]; omega) (by rw [kbS_len]; omega)]
 show ck8 foot x.rows x.pl x.oa x.ob x.ta x.tz _ _ = _
 unfold ck8
 rw [tP_backY (kbS x.kz) (by rw [kbS_len]; omega) (by rw [kbS_len]; omega)]
 show (if ckG foot ⟨x.rows, x.pl, x.oa, x.ob, x.ta, x.tz, strB (kbS x.ka), strB (kbS x.kz)⟩ = true then _ else none) = _
 rw [kbS_strB, kbS_strB, if_pos h.good]
/-- Do chunks stand one behind the other? -/
def Foll (m : List Ck) : List Ck → Prop
 | [] => True
 | c :: r => flw m c = true ∧ Foll (m ++ [c]) r
theorem cksP_back {foot : Nat} : ∀ (l m : List Ck) (r : List Nat), (∀ x ∈ l, CkIn foot x) → Foll m l → cksP foot l.length m (cksB l ++ r) = some (m ++ l, r)
 | [], m, r, _, _ => by show some (m, r) = _; rw [List.append_nil]
 | c :: l, m, r, h, hf => by
  have e : cksB (c :: l) ++ r = ckB c ++ (cksB l ++ r) := by unfold cksB; rw [List.flatMap_cons, List.append_assoc]
  rw [e, List.length_cons, cksP_succ, ckP_back (h c (by simp))]
  show (if flw m c = true then cksP foot l.length (m ++ [c]) (cksB l ++ r) else none) = _
  rw [if_pos hf.1, cksP_back l (m ++ [c]) r (fun x hx => h x (by simp [hx])) hf.2, List.append_assoc]; rfl
theorem footP_back {foot p : Nat} {l : List Ck} (hp : 1 ≤ p) (hp8 : p ≤ 8) (hl : 1 ≤ l.length) (hl2 : l.length < 1000000) (h : ∀ x ∈ l, CkIn foot x) (hf : Foll [] l) : footP foot (footB p l) = some ((p, l), []) := by
 have e : footB p l = ub p ++ (ub l.length ++ (cksB l ++ [])) := by unfold footB nsB; simp
 rw [e]
 unfold footP
 rw [uP_back hp8 (by omega)]
 show ft2 foot p _ = _
 unfold ft2
 rw [uP_back (by omega) (by omega)]
 show (if 1 ≤ p ∧ 1 ≤ l.length then (cksP foot l.length [] (cksB l ++ [])).map _ else none) = _
 rw [if_pos ⟨hp, hl⟩, cksP_back l [] [] h hf]; rfl
end Go.Proofs.YtifabkbdiiolfaaDoor

namespace Go.Proofs.YtifabkbdiiolfaaDoor
open Go.RowKit Go.Sort Go.WideShapes Col
theorem row_setCells (L : Nat) (t : TypeId) (fr : Nat × Nat) : ∀ (vs : List Value) (o : Nat) (w : World) (cs : Array Value), w.heap[L]? = some (.cells cs t fr) → ∃ cs', (w.setCells L o vs).heap[L]? = some (.cells cs' t fr) ∧ cs'.size = cs.size
 | [], _, _, cs, h => ⟨cs, h, rfl⟩
 | v :: r, o, w, cs, h => by
  have h1 : (w.setCell ⟨L, o, none⟩ v).heap[L]? = some (.cells (cs.setIfInBounds o v) t fr) := by
   rw [World.setCell]
   simp [Array.getElem?_modify, h]
  obtain ⟨cs', h2, h3⟩ := row_setCells L t fr r (o + 1) _ _ h1
  exact ⟨cs', h2, by rw [h3]; simp⟩
/-- A row of n events of which the first are known. -/
structure RowEJ (w : World) (L n : Nat) (xs : List Ev) : Prop where
 row : ∃ cs, w.heap[L]? = some (.cells cs 34 (0, 0)) ∧ cs.size = n * 5
 at' : w.rangeAt L 0 (evs xs)
theorem RowEJ.lt {w : World} {L n : Nat} {xs : List Ev} (h : RowEJ w L n xs) : L < w.heap.size := by
 obtain ⟨cs, h1, -⟩ := h.row
 exact (Array.getElem?_eq_some_iff.1 h1).1
theorem RowEJ.keep {S : Nat → Prop} {w w' : World} {L n : Nat} {xs : List Ev} (h : RowEJ w L n xs) (hk : Kept S w w') (hS : ¬ S L) : RowEJ w' L n xs := by
 have hl := h.lt
 obtain ⟨cs, h1, h2⟩ := h.row
 exact ⟨⟨cs, hk.heap h1 hS, h2⟩, fun j v hv => (hk.cell (p := ⟨L, 0 + j, none⟩) hl hS).trans (h.at' j v hv)⟩
theorem RowEJ.there {w : World} {L n : Nat} {xs : List Ev} (h : RowEJ w L n xs) (hn : xs.length < n) (x : Ev) : w.there L (xs.length * 5) x.cells.toArray.size := by
 obtain ⟨cs, h1, h2⟩ := h.row
 intro j hj
 have hj : j < 5 := hj
 have hl : xs.length * 5 + j < cs.size := by omega
 refine ⟨?_, row_frozen h1 _⟩
 rw [cell_of_row _ _ _ _ _ _ h1, Array.getElem?_eq_getElem hl]
 rfl
theorem RowEJ.put {w : World} {L n : Nat} {xs : List Ev} (h : RowEJ w L n xs) (hn : xs.length < n) (x : Ev) : RowEJ (w.setCells L (xs.length * 5) x.cells) L n (xs ++ [x]) := by
 have ht := h.there hn x
 obtain ⟨cs, h1, h2⟩ := h.row
 obtain ⟨cs', h3, h4⟩ := row_setCells L _ _ x.cells (xs.length * 5) w cs h1
 refine ⟨⟨cs', h3, by omega⟩, fun j v hv => ?_⟩
 have he : evs (xs ++ [x]) = evs xs ++ x.cells := by unfold evs; simp
 have hl : (evs xs).length = xs.length * 5 := evs_length xs
 rw [he] at hv
 by_cases hj : j < (evs xs).length
 ·rw [List.getElem?_append_left hj] at hv
  exact World.rangeAt_setCells_apart (h.at') L (xs.length * 5) x.cells (.inr (.inl (by omega))) j v hv
 ·rw [List.getElem?_append_right (by omega)] at hv
  have := World.rangeAt_setCells_same w L (xs.length * 5) x.cells (by simpa using ht) (j - (evs xs).length) v hv
  rw [show xs.length * 5 + (j - (evs xs).length) = 0 + j by omega] at this
  exact this
end Go.Proofs.YtifabkbdiiolfaaDoor

namespace Go.Proofs.YtifabkbdiiolfaaDoor
open Go.RowKit Go.Sort Go.WideShapes Col
theorem evY_le (l : List Ev) (hf : ∀ x ∈ l, FineE x) (hn : l.length ≤ 64) : (evY l).length ≤ 9272 := by
 have z1 := txL_le _ 1303 (by omega) (ints_60 (l.map oI) (oI_wf hf) (by rw [List.length_map]; omega))
 have z2 := txL_le _ 1303 (by omega) (ints_60 (l.map Ev.part) (part_wf hf) (by rw [List.length_map]; omega))
 have z3 := txL_le _ 1303 (by omega) (ints_60 (l.map Ev.time) (time_wf hf) (by rw [List.length_map]; omega))
 have z4 := txL_le _ 4010 (by omega) (texts_60 (l.map kL) (fun y hy => (kL_all hf y hy).1) (fun y hy => (kL_all hf y hy).2) (by rw [List.length_map]; omega))
 have z5 := txL_le _ 1303 (by omega) (ints_60 ((l.map Ev.val).map rwI) (fun y hy => by obtain ⟨u, -, rfl⟩ := List.mem_map.1 hy; exact rwI_wf u) (by rw [List.length_map, List.length_map]; omega))
 unfold evY
 rw [List.length_append, List.length_append, List.length_append, List.length_append]
 omega
theorem EvAt.keptY {S : Nat → Prop} {w w' : World} {a : Option Addr} {l : List Ev} (h : EvAt w a l) (hk : Kept S w w') (ho : ∀ b, a = some b → ¬ S b.block) : EvAt w' a l := fun j v hv => by
 obtain ⟨g, off, h2, h3, h4⟩ := h j v hv
 exact ⟨g, off, h2, Nat.lt_of_lt_of_le h3 hk.size, (hk.cell (p := ⟨g, off + j, none⟩) h3 (fun e => ho ⟨g, off, none⟩ h2 e)).trans h4⟩
end Go.Proofs.YtifabkbdiiolfaaDoor
