/-
  Layer column: Text appended.
-/
import Derived.Test.YtifabkbdiiolfaaDoorTeK
import Derived.Test.YtifabkbdiiolfaaDoorDaK
import Derived.Test.YtifabkbdiiolfaaDoorRaK
import Derived.Sort.Walk0
import Derived.Lib.ConvBytes
import Derived.Lib.AppendStr
set_option linter.unusedSimpArgs false
set_option linter.unusedVariables false
set_option maxRecDepth 8000
namespace Go.Proofs.YtifabkbdiiolfaaDoor
open Go.RowKit Go.WideShapes Col
namespace Col
/-- Does one text stand ahead of another? -/
def tls (s t : List Nat) : Bool := Op.bytesLess (strB s).toList (strB t).toList
/-- Texts that rise, the first k of them. -/
def rising : List (List Nat) → Bool
 | [] => true
 | [_] => true
 | s :: t :: r => tls s t && rising (t :: r)
/-- The texts that there are. -/
def rU (q : List Nat) : Option (List (List Nat) × List Nat) := (uP 4096 q).bind fun p => (runS (tP 32) p.1 p.2).bind fun r => if rising r.1 = true then some r else none
end Col
/-- What readUnlike's function stands on. -/
structure US (g bx : Nat) (q : List Nat) (w : World) : Prop where
 rd : RdM g q w
 box : w.heap[bx]? = some (.cells #[.pointer (some ⟨g, 0, none⟩)] 81 (0, 0))
 n2 : g < bx
theorem US.keep {g bx : Nat} {q : List Nat} {w w' : World} {S : Nat → Prop} (h : US g bx q w) (hk : Kept S w w') (hS : ∀ k, S k → w.heap.size ≤ k ∨ (g < k ∧ k ≠ bx)) : US g bx q w' := by
 have hg := h.rd.1.glt
 have hb := (Array.getElem?_eq_some_iff.1 h.box).1
 exact ⟨⟨h.rd.1.high hk fun k hs => by have := hS k hs; omega, h.rd.2⟩, hk.heap h.box fun e => by have := hS _ e; omega, h.n2⟩
theorem OwnX.more {w : World} {B n cap : Nat} {A : Option Addr} {l : List (List Nat)} {B' : Nat} (h : OwnX w B A n cap l) (hB : B' ≤ B) : OwnX w B' A n cap l := by
 refine ⟨⟨h.1.1, ?_⟩, h.2⟩
 rcases h.1.2 with h1 | ⟨g, cap', cur, h1, hb, h2⟩
 ·exact .inl h1
 ·exact .inr ⟨g, cap', cur, h1, Nat.le_trans hB hb, h2⟩
end Go.Proofs.YtifabkbdiiolfaaDoor

namespace Go.Proofs.YtifabkbdiiolfaaDoor
open Go.RowKit Go.WideShapes Col
theorem tls_dec (s t : List Nat) : tls s t = decide ((strB s).toList < (strB t).toList) := bytesLess_eq _ _
theorem tls_irr (s : List Nat) : tls s s = false := by rw [tls_dec, decide_eq_false_iff_not]; exact List.lt_irrefl _
theorem tls_tr {s t u : List Nat} (h1 : tls s t = true) (h2 : tls t u = true) : tls s u = true := by
 rw [tls_dec, decide_eq_true_eq] at h1 h2 ⊢
 exact List.lt_trans h1 h2
theorem tls_asy {s t : List Nat} (h : tls s t = true) : tls t s = false := by
 rcases h2 : tls t s with _ | _
 ·rfl
 ·have := tls_tr h h2; rw [tls_irr] at this; cases this
theorem tls_tot {s t : List Nat} (hs : WfT s) (ht : WfT t) (h1 : tls s t = false) (h2 : tls t s = false) : s = t := by
 rw [tls_dec, decide_eq_false_iff_not] at h1 h2
 have e : (strB s).toList = (strB t).toList := List.le_antisymm (List.not_lt.1 h2) (List.not_lt.1 h1)
 refine strB_inj hs ht ?_
 rw [Lib.toList_data, Lib.toList_data] at e
 exact ByteArray.ext (Array.ext' e)
/-- Texts that rise. -/
def Rise (l : List (List Nat)) : Prop := l.Pairwise fun s t => tls s t = true
theorem rise_ext {l m : List (List Nat)} (hl : Rise l) (hm : Rise m) (h : ∀ y, y ∈ l ↔ y ∈ m) : l = m := by
 induction l generalizing m with
 | nil =>
  rcases m with _ | ⟨b, m⟩
  ·rfl
  ·have := (h b).2 (by simp); cases this
 | cons a l ih =>
  rcases m with _ | ⟨b, m⟩
  ·have := (h a).1 (by simp); cases this
  ·rw [Rise, List.pairwise_cons] at hl hm
   have hab : a = b := by
    rcases List.mem_cons.1 ((h a).1 (by simp)) with e | e
    ·exact e
    ·rcases List.mem_cons.1 ((h b).2 (by simp)) with e2 | e2
     ·exact e2.symm
     ·have h1 := hm.1 a e; have h2 := hl.1 b e2
      have := tls_tr h1 h2; rw [tls_irr] at this; cases this
   subst hab
   rw [ih hl.2 hm.2 fun y => ?_]
   constructor
   ·intro hy
    rcases List.mem_cons.1 ((h y).1 (by simp [hy])) with e | e
    ·subst e; have := hl.1 y hy; rw [tls_irr] at this; cases this
    ·exact e
   ·intro hy
    rcases List.mem_cons.1 ((h y).2 (by simp [hy])) with e | e
    ·subst e; have := hm.1 y hy; rw [tls_irr] at this; cases this
    ·exact e
/-- A text put into its place among texts that rise. -/
def insU (x : List Nat) (all : List (List Nat)) : List (List Nat) := all.filter (fun a => tls a x) ++ x :: all.filter (fun a => tls x a)
theorem insU_rise {x : List Nat} {all : List (List Nat)} (h : Rise all) : Rise (insU x all) := by
 unfold insU
 refine List.pairwise_append.2 ⟨h.filter _, List.pairwise_cons.2 ⟨fun a ha => (List.mem_filter.1 ha).2, h.filter _⟩, fun a ha b hb => ?_⟩
 have h1 := (List.mem_filter.1 ha).2
 rcases List.mem_cons.1 hb with e | e
 ·subst e; exact h1
 ·exact tls_tr h1 (List.mem_filter.1 e).2
theorem insU_mem {x y : List Nat} {all : List (List Nat)} (hx : WfT x) (hw : ∀ a ∈ all, WfT a) : y ∈ insU x all ↔ y = x ∨ y ∈ all := by
 unfold insU
 rw [List.mem_append, List.mem_cons, List.mem_filter, List.mem_filter]
 constructor
 ·rintro (h | h | h)
  ·exact .inr h.1
  ·exact .inl h
  ·exact .inr h.1
 ·rintro (h | h)
  ·exact .inr (.inl h)
  ·rcases h1 : tls y x with _ | _
   ·rcases h2 : tls x y with _ | _
    ·exact .inr (.inl (tls_tot (hw y h) hx h1 h2))
    ·exact .inr (.inr ⟨h, rfl⟩)
   ·exact .inl ⟨h, rfl⟩
theorem snoc_ind {α : Type} {Q : List α → Prop} (nil : Q []) (append_singleton : ∀ (l : List α) (x : α), Q l → Q (l ++ [x])) (l : List α) : Q l := by
 have h : ∀ m : List α, Q m.reverse := by
  intro m
  induction m with
  | nil => exact nil
  | cons a r ih => rw [List.reverse_cons]; exact append_singleton _ a ih
 have := h l.reverse
 rwa [List.reverse_reverse] at this
/-- The texts that there are, rising, each once. -/
def uqL (l : List (List Nat)) : List (List Nat) := l.foldl (fun all x => insU x all) []
theorem uqL_snoc (l : List (List Nat)) (x : List Nat) : uqL (l ++ [x]) = insU x (uqL l) := by unfold uqL; rw [List.foldl_append]; rfl
theorem uqL_facts (l : List (List Nat)) (hw : ∀ x ∈ l, WfT x) : Rise (uqL l) ∧ (∀ y, y ∈ uqL l ↔ y ∈ l) := by
 induction l using snoc_ind with
 | nil => exact ⟨List.Pairwise.nil, fun y => Iff.rfl⟩
 | append_singleton l x ih =>
  obtain ⟨h1, h2⟩ := ih fun y hy => hw y (by simp [hy])
  rw [uqL_snoc]
  refine ⟨insU_rise h1, fun y => ?_⟩
  rw [insU_mem (hw x (by simp)) (fun a ha => hw a (by simp [(h2 a).1 ha])), List.mem_append, List.mem_singleton, h2]
  constructor <;> (rintro (h | h) <;> simp [h])
theorem uqL_wf {l : List (List Nat)} (hw : ∀ x ∈ l, WfT x) : ∀ x ∈ uqL l, WfT x := fun x hx => hw x (((uqL_facts l hw).2 x).1 hx)
theorem uqL_len (l : List (List Nat)) : (uqL l).length ≤ l.length := by
 induction l using snoc_ind with
 | nil => exact Nat.le_refl _
 | append_singleton l x ih =>
  rw [uqL_snoc, List.length_append, List.length_singleton]
  unfold insU
  rw [List.length_append, List.length_cons]
  have : ((uqL l).filter (fun a => tls a x)).length + ((uqL l).filter (fun a => tls x a)).length ≤ (uqL l).length := by
   generalize uqL l = m
   induction m with
   | nil => exact Nat.le_refl _
   | cons a m ih2 =>
    rw [List.filter_cons, List.filter_cons]
    rcases h1 : tls a x with _ | _
    ·rcases h2 : tls x a with _ | _ <;> simp <;> omega
    ·rw [tls_asy h1]; simp; omega
  omega
/-- How far the first k of the texts that rise have been gone through, to put one in. -/
def insK (x : List Nat) (all : List (List Nat)) (k : Nat) : List (List Nat) × Bool :=
 let m := all.take k
 let d := m.any fun a => !tls a x
 (m.filter (fun a => tls a x) ++ ((if d then [x] else []) ++ m.filter (fun a => tls x a)), d)
theorem insK_zero (x : List Nat) (all : List (List Nat)) : insK x all 0 = ([], false) := by unfold insK; simp
theorem insK_end (x : List Nat) (all : List (List Nat)) : (if (insK x all all.length).2 then (insK x all all.length).1 else (insK x all all.length).1 ++ [x]) = insU x all := by
 unfold insK insU
 rw [List.take_length]
 rcases h : all.any (fun a => !tls a x) with _ | _
 ·have h2 : all.filter (fun a => tls x a) = [] := by
   rw [List.filter_eq_nil_iff]
   intro a ha h3
   have h4 : (!tls a x) = false := by
    have := List.any_eq_false.1 h a ha; simpa using this
   rw [tls_asy h3] at h4; cases h4
  simp [h, h2]
 ·simp [h]
/-- One step of it. -/
theorem insK_step {x a : List Nat} {all : List (List Nat)} {k : Nat} (hr : Rise all) (hx : WfT x) (ha : WfT a) (hk : all[k]? = some a) :
  insK x all (k + 1) = (let p := insK x all k
   let q := if (!p.2 && !tls a x) = true then (p.1 ++ [x], true) else p
   if a = x then q else (q.1 ++ [a], q.2)) := by
 have hlow : ∀ b ∈ all.take k, tls b a = true := fun b hb => by
  obtain ⟨j, hj⟩ := List.getElem?_of_mem hb
  rw [List.getElem?_take] at hj
  split at hj
  ·rename_i hjk
   obtain ⟨hj1, hj2⟩ := List.getElem?_eq_some_iff.1 hj
   obtain ⟨hk1, hk2⟩ := List.getElem?_eq_some_iff.1 hk
   have := List.pairwise_iff_getElem.1 hr j k hj1 hk1 hjk
   rw [hj2, hk2] at this; exact this
  ·cases hj
 have e : all.take (k + 1) = all.take k ++ [a] := by rw [List.take_add_one, hk]; rfl
 unfold insK
 rw [e]
 generalize all.take k = m at hlow ⊢
 simp only [List.filter_append, List.any_append]
 by_cases hax : a = x
 ·subst hax
  have hd : m.any (fun b => !tls b a) = false := by
   rw [List.any_eq_false]; intro b hb; rw [hlow b hb]; decide
  have hg : m.filter (fun b => tls a b) = [] := by
   rw [List.filter_eq_nil_iff]; intro b hb; rw [tls_asy (hlow b hb)]; decide
  simp [hd, hg, tls_irr]
 ·rcases h1 : tls a x with _ | _
  ·have h2 : tls x a = true := by
    rcases h2 : tls x a with _ | _
    ·exact absurd (tls_tot ha hx h1 h2) hax
    ·rfl
   rcases hd : m.any (fun b => !tls b x) with _ | _
   ·have hg : m.filter (fun b => tls x b) = [] := by
     rw [List.filter_eq_nil_iff]
     intro b hb h3
     have h4 : (!tls b x) = false := by
      have := List.any_eq_false.1 hd b hb; simpa using this
     rw [tls_asy h3] at h4; cases h4
    simp [hd, hg, h1, h2, hax]
   ·simp [hd, h1, h2, hax]
  ·have h2 := tls_asy h1
   have hd : m.any (fun b => !tls b x) = false := by
    rw [List.any_eq_false]; intro b hb; rw [tls_tr (hlow b hb) h1]; decide
   have hg : m.filter (fun b => tls x b) = [] := by
    rw [List.filter_eq_nil_iff]; intro b hb; rw [tls_asy (tls_tr (hlow b hb) h1)]; decide
   simp [hd, hg, h1, h2, hax]
end Go.Proofs.YtifabkbdiiolfaaDoor

namespace Go.Proofs.YtifabkbdiiolfaaDoor
open Go.RowKit Go.WideShapes Col
def bvs (l : List Bool) : List Value := l.map Value.bool
theorem bvs_length (l : List Bool) : (bvs l).length = l.length := List.length_map ..
/-- A row of whole numbers that is all of a slice. -/
def RowBo (w : World) (g : Nat) (l : List Bool) : Prop := w.heap[g]? = some (.cells (bvs l).toArray 4 (0, 0))
section
variable {w : World} {g : Nat} {l : List Bool}
theorem RowBo.fr (h : RowBo w g l) (i : Nat) : w.frozen? ⟨g, i, none⟩ = false := row_frozen h i
theorem RowBo.at (h : RowBo w g l) (i : Nat) (hi : i < l.length) : ∃ u, w.cell? ⟨g, i, none⟩ = some u := by
 rw [cell_of_row _ _ _ _ _ _ h, List.getElem?_toArray]
 exact ⟨_, List.getElem?_eq_getElem (by rw [bvs_length]; exact hi)⟩
theorem RowBo.set (h : RowBo w g l) (i : Nat) (x : Bool) : RowBo (w.setCell ⟨g, i, none⟩ (.bool x)) g (l.set i x) := by
 unfold RowBo at *
 rw [World.setCell]
 simp only [Array.getElem?_modify, if_pos, h, Option.map_some]
 have e : (bvs l).toArray.setIfInBounds i (.bool x) = (bvs (l.set i x)).toArray := by
  unfold bvs; rw [List.map_set]; simp
 simp [e]
theorem RowBo.keep {S : Nat → Prop} {w' : World} (h : RowBo w g l) (hk : Kept S w w') (hg : ¬ S g) : RowBo w' g l := hk.heap h hg
end
theorem RowBo.cell {w : World} {g : Nat} {l : List Bool} (h : RowBo w g l) (i : Nat) (b : Bool) (hb : l[i]? = some b) : w.cell? ⟨g, i, none⟩ = some (.bool b) := by
 rw [cell_of_row _ _ _ _ _ _ h, List.getElem?_toArray]; unfold bvs; rw [List.getElem?_map, hb]; rfl
namespace Col
/-- Which places are told. -/
def usedL (n : Nat) (xs : List Int) : List Bool := (List.range n).map fun (i : Nat) => xs.contains (i : Int)
def pickT (ts : List (List Nat)) (x : Int) : List Nat := ts.getD x.toNat []
def okT (ts : List (List Nat)) (xs : List Int) : Bool := (xs.all fun x => decide (0 ≤ x) && decide (x < (ts.length : Int))) && !(usedL ts.length xs).contains false
def rT (q : List Nat) : Option (List (List Nat) × List Nat) := (rU q).bind fun u => (rI u.2).bind fun p => if okT u.1 p.1 = true then some (p.1.map (pickT u.1), p.2) else none
end Col
end Go.Proofs.YtifabkbdiiolfaaDoor

namespace Go.Proofs.YtifabkbdiiolfaaDoor
open Go.RowKit Go.WideShapes Col
namespace Col
/-- Numbers with a point that are all of some bytes. -/
def rTL (q : List Nat) : Option (List (List Nat)) := match rT q with
 | some (us, []) => some us
 | _ => none
end Col
/-- What the list's cell holds behind the reading. -/
def RdTA (q : List Nat) (cl B : Nat) (b : Bool) (w : World) : Prop := match b with
 | true => ∃ L n us, rTL q = some us ∧ n = us.length ∧ w.heap[cl]? = some (.cells #[.slice (some ⟨L, 0, none⟩) n n] 69 (0, 0)) ∧ RowT w L us ∧ B ≤ L
 | false => rTL q = none
theorem RdTA.keep {q : List Nat} {cl B B' g : Nat} {b : Bool} {w w' : World} (h : RdTA q cl B b w) (hk : Kept (Only g) w w') (h1 : cl ≠ g) (h2 : g < B) (hB : B' ≤ B) : RdTA q cl B' b w' := by
 cases b with
 | false => exact h
 | true =>
  obtain ⟨L, n, us, e1, e2, hrow, hrf, hl⟩ := h
  exact ⟨L, n, us, e1, e2, hk.heap hrow fun e => h1 e, hrf.keep hk (fun e => by have e : L = g := e; omega), by omega⟩
end Go.Proofs.YtifabkbdiiolfaaDoor

namespace Go.Proofs.YtifabkbdiiolfaaDoor
open Go.RowKit Go.WideShapes Col
theorem conv_sb (s : List Nat) (hs : WfT s) (n : Nat) (hn : n = s.length) (w : World) : ∃ (w' : World) (C : Nat), (convert 9 24 (.string (strB s))).run Tryd.prog w = .ok (.slice (some ⟨w.heap.size, 0, none⟩) n C) w' ∧ ByAt w' (some ⟨w.heap.size, 0, none⟩) s ∧ Below w.heap.size w w' := by
 have h := Go.Lib.run_convert_string_bytes w 9 24 5 (strB s) Tryd.underlying9 Tryd.underlying24 Tryd.underlying5
 rw [show (strB s).size = n by rw [strB_size, hn]] at h
 refine ⟨_, _, h, fun k x hx => ?_, ⟨rfl, rfl, rfl, by rw [Go.Lib.bytesWorld_size]; omega, fun k hk => Go.Lib.bytesWorld_at_old _ _ _ k hk⟩⟩
 ·have hx256 := hs x (List.mem_of_getElem? hx)
  refine ⟨hx256, _, 0, rfl, by rw [Go.Lib.bytesWorld_size]; omega, ?_⟩
  have hk := (List.getElem?_eq_some_iff.1 hx).1
  rw [Nat.zero_add, Go.Lib.bytesWorld_cell w _ (strB s) k (by rw [strB_size]; exact hk)]
  have e : (strB s).data.toList.getD k 0 = UInt8.ofNat x := by
   unfold strB; rw [strOfNums_data, List.getD_eq_getElem?_getD, List.getElem?_map, List.getElem?_map, hx]; rfl
  rw [e, UInt8.toNat_ofNat_of_lt' (by simpa using hx256)]
/-- A text as bytes. -/
def txL (s : List Nat) : List Nat := ub s.length ++ s
set_option maxHeartbeats 2000000 in
theorem refText_any (s : List Nat) (hs : WfT s) (hl : s.length ≤ 1000000) (w : World) : Calls Tryd.prog 19 #[.string (strB s)] w (Puts w.heap.size w (txL s)) := by
 obtain ⟨n, hn⟩ : ∃ n, n = s.length := ⟨_, rfl⟩
 have hsz : (strB s).size = n := by rw [strB_size, hn]
 have hnw : IntKind.u64.wrap (n : Int) = (n : Int) := by rw [IntKind.wrap_u64]; omega
 have HU := Lib.hid (refU_any n (by omega))
 have H10 : Hid ((ub n).length ≤ 10) := Lib.hid (ub10 (show n < 18446744073709551616 by omega))
 have HWS := Lib.hid hs
 have HN := Lib.hid hn
 have hnl : n ≤ 1000000 := by omega
 clear hs hn hl
 go_enter Tryd.func19, Tryd.ntmps19
 go_wp2_with (first
  | (go_at_call 17; refine (HU.out _).mono ?_; rintro e w2 hp; obtain ⟨A2, n2, c2, rfl, HO2, HB2, hn2⟩ := hp.at; obtain ⟨w3, C3, hcv, hby, hb3⟩ := conv_sb s HWS.out n HN.out w2; have HBY := Lib.hid hby; have HO3 := Lib.hid (HO2.out.keep hb3); have HB3 := Lib.hid (below_to HB2.out hb3); have hn10 : n2 ≤ 10 := (by have := H10.out; omega); clear hby hb3 hp hn2)
  | (refine wpList_append_by rfl (.tmp 8) (.tmp 10) rfl w.heap.size A2 n2 c2 (ub n) rfl HO3.out (some ⟨w2.heap.size, 0, none⟩) n C3 s rfl HN.out HBY.out (by omega) HB3.out.size ?_; intro A4 c4 w4 ho4 hg4 hr4; have HO4 := Lib.hid ho4; have HB4 := Lib.hid (HB3.out.grown hg4 HB3.out.size HO3.out.base); clear ho4 hg4 hr4))
 go_ret
 exact ⟨A4, _, c4, rfl, by unfold txL; rw [← HN.out]; exact HO4.out, HB4.out, HB4.out.size⟩
end Go.Proofs.YtifabkbdiiolfaaDoor

namespace Go.Proofs.YtifabkbdiiolfaaDoor
open Go.RowKit Go.WideShapes Col
theorem strCells_by (s : List Nat) (hs : WfT s) : Go.Lib.strCells (strB s) = bys s := by
 unfold Go.Lib.strCells strB bys
 rw [strOfNums_data, List.map_map, List.map_map]
 refine List.map_congr_left fun x hx => ?_
 show Value.int .u8 ((UInt8.ofNat (Int.ofNat x).toNat).toNat : Int) = .int .u8 (x : Int)
 rw [show (Int.ofNat x).toNat = x from rfl, UInt8.toNat_ofNat_of_lt' (by simpa using hs x hx)]
theorem ownStr {w : World} {B n : Nat} {v : Value} {l : List Value} (h : w.ownsRow B 5 1 v n l) : ∃ A cap, v = .slice A n cap := by
 rcases h.2 with ⟨e0, e1⟩ | ⟨g, cap', cur, e0, -⟩
 ·exact ⟨none, 0, by rw [e0, e1]⟩
 ·exact ⟨_, _, e0⟩
theorem ownB {w : World} {B n cap : Nat} {A : Option Addr} {l : List Nat} (h : OwnS w B A n cap l) : ∀ k, (Value.slice A n cap).ownBlock = some k → B ≤ k := fun k hk => by
 rcases A with _ | a
 ·cases hk
 ·exact h.base k (by simpa [Value.ownBlock] using hk)
set_option maxHeartbeats 2000000 in
theorem putT_any (B : Nat) (A : Option Addr) (n cap : Nat) (l s : List Nat) (hs : WfT s) (hl : s.length ≤ 1000000) (w : World) (H : Hid (OwnS w B A n cap l)) (hn : n ≤ 1099511627776) (hB : B ≤ w.heap.size) :
  Calls Tryd.prog 31 #[.slice A n cap, .string (strB s)] w (Puts B w (l ++ txL s)) := by
 obtain ⟨m, hm⟩ : ∃ m, m = s.length := ⟨_, rfl⟩
 have hsz : (strB s).size = m := by rw [strB_size, hm]
 have HSZ := Lib.hid hsz
 have hmw : IntKind.u64.wrap (m : Int) = (m : Int) := by rw [IntKind.wrap_u64]; omega
 have HU := Lib.hid (putU_any B A n cap l m (by omega) w H hn hB)
 have H10 : Hid ((ub m).length ≤ 10) := Lib.hid (ub10 (show m < 18446744073709551616 by omega))
 have HWS := Lib.hid hs
 have HM := Lib.hid hm
 have HLN : Hid (n = l.length) := Lib.hid H.out.len
 have hml : m ≤ 1000000 := by omega
 obtain ⟨i0, hi, hz0, hz1, hz2⟩ := info_parts infoU8
 have HI := Lib.hid (And.intro hi (And.intro hz0 (And.intro hz1 hz2)))
 clear hs hm hl hi hz0 hz1 hz2
 go_enter Tryd.func31, Tryd.ntmps31
 go_wp2_with (first
  | (go_at_call 52; (with_reducible refine (HU.out).mono ?_); rintro e w2 hp; obtain ⟨A2, n2, c2, rfl, HO2, HB2, hn2⟩ := hp.at; have HN2 := Lib.hid hn2; have hn10 : n2 ≤ n + 10 := (by have := H10.out; have := HLN.out; rw [hn2, List.length_append]; omega); have hB2 : B ≤ w2.heap.size := Nat.le_trans hB HB2.out.size; clear hp hn2)
  | (at_builtin; refine Go.Lib.wpList_append_own_string _ rfl (.tmp 9) (.tmp 10) 24 9 rfl B 5 i0 Tryd.underlying24 Tryd.underlying9 HI.out.1 HI.out.2.1 HI.out.2.2.1 HI.out.2.2.2 (.slice A2 n2 c2) n2 _ rfl HO2.out.1 (strB s) rfl (by rw [HSZ.out]; unfold maxLen; omega) (by rw [HSZ.out]; omega) hB2 ?_; intro v4 w4 ho4 hg4 hr4; rw [HSZ.out, strCells_by s HWS.out] at ho4; obtain ⟨A5, c5, hv4⟩ := ownStr ho4; subst hv4; have HO4 := Lib.hid ho4; have HB4 := Lib.hid (HB2.out.grown hg4 hB2 (ownB HO2.out)); clear ho4 hg4 hr4))
 have ho := HO4.out
 rw [show bys (l ++ ub m) ++ bys s = bys (l ++ txL s) by unfold txL bys; rw [← HM.out]; simp] at ho
 go_ret
 refine ⟨A5, _, c5, rfl, ⟨ho, fun x hx => ?_⟩, HB4.out, HB4.out.size⟩
 rcases List.mem_append.1 hx with h | h
 ·exact H.out.2 x h
 ·unfold txL at h
  rcases List.mem_append.1 h with h2 | h2
  ·exact HO2.out.2 x (List.mem_append.2 (.inr (by rw [HM.out]; exact h2)))
  ·exact HWS.out x h2
end Go.Proofs.YtifabkbdiiolfaaDoor
