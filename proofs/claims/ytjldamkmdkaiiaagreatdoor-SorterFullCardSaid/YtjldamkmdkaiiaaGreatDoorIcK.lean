/-
  Layer files: slices.Insert at any place; a file put into the row of a store: plain facts.
-/
import Derived.Test.YtjldamkmdkaiiaaGreatDoorHbK
import Derived.Test.YtjldamkmdkaiiaaGreatDoorHcK
import Derived.Test.YtjldamkmdkaiiaaGreatDoorIbK
import Derived.Test.YtjldamkmdkaiiaaGreatDoorIaK
set_option linter.unusedSimpArgs false
set_option linter.unusedVariables false
set_option maxRecDepth 8000
namespace Go.Proofs.YtjldamkmdkaiiaaGreatDoor
open Go.RowKit Go.WideShapes
theorem cb_self : ∀ a : List UInt8, Lib.compareBytes a a = 0
 | [] => rfl
 | x :: r => by unfold Lib.compareBytes; simp [UInt8.lt_irrefl, cb_self r]
theorem cb_neg : ∀ a b : List UInt8, Lib.compareBytes b a = - Lib.compareBytes a b
 | [], [] => rfl
 | [], _ :: _ => rfl
 | _ :: _, [] => rfl
 | x :: r, y :: s => by
  unfold Lib.compareBytes
  by_cases h1 : x < y
  ·have h2 : ¬ y < x := fun h => by rw [UInt8.lt_iff_toNat_lt] at *; omega
   simp [h1, h2]
  ·by_cases h2 : y < x
   ·simp [h1, h2]
   ·simp [h1, h2, cb_neg r s]
theorem cb_eq : ∀ a b : List UInt8, Lib.compareBytes a b = 0 → a = b
 | [], [], _ => rfl
 | [], _ :: _, h => by simp [Lib.compareBytes] at h
 | _ :: _, [], h => by simp [Lib.compareBytes] at h
 | x :: r, y :: s, h => by
  unfold Lib.compareBytes at h
  by_cases h1 : x < y
  ·simp [h1] at h
  ·by_cases h2 : y < x
   ·simp [h1, h2] at h
   ·simp [h1, h2] at h
    have e : x = y := by
     apply UInt8.toNat_inj.1
     rw [UInt8.lt_iff_toNat_lt] at h1 h2; omega
    rw [e, cb_eq r s h]
theorem cb_trans : ∀ a b c : List UInt8, Lib.compareBytes a b < 0 → Lib.compareBytes b c < 0 → Lib.compareBytes a c < 0
 | [], [], _, h, _ => by simp [Lib.compareBytes] at h
 | _ :: _, [], _, h, _ => by simp [Lib.compareBytes] at h
 | _, _ :: _, [], _, h => by simp [Lib.compareBytes] at h
 | [], _ :: _, _ :: _, _, _ => by simp [Lib.compareBytes]
 | x :: r, y :: s, z :: t, h1, h2 => by
  unfold Lib.compareBytes at h1 h2 ⊢
  have ih := cb_trans r s t
  simp only [UInt8.lt_iff_toNat_lt] at *
  by_cases a1 : x.toNat < y.toNat
  ·by_cases a2 : y.toNat < z.toNat
   ·simp [show x.toNat < z.toNat by omega]
   ·by_cases a3 : z.toNat < y.toNat
    ·simp [a2, a3] at h2
    ·simp [show x.toNat < z.toNat by omega]
  ·by_cases b1 : y.toNat < x.toNat
   ·simp [a1, b1] at h1
   ·simp only [a1, b1, if_false] at h1
    by_cases a2 : y.toNat < z.toNat
    ·simp [show x.toNat < z.toNat by omega]
    ·by_cases a3 : z.toNat < y.toNat
     ·simp [a2, a3] at h2
     ·simp only [a2, a3, if_false] at h2
      simp only [show ¬ x.toNat < z.toNat by omega, show ¬ z.toNat < x.toNat by omega, if_false]
      exact ih h1 h2
theorem ck_self (a : ByteArray) : cmpKF a a = 0 := cb_self _
theorem ck_neg (a b : ByteArray) : cmpKF b a = - cmpKF a b := cb_neg _ _
theorem ck_eq {a b : ByteArray} (h : cmpKF a b = 0) : a = b := by
 have := cb_eq _ _ h
 have h2 : a.data = b.data := by rw [← Array.toList_inj]; exact this
 cases a; cases b; simp at h2; rw [h2]
theorem ck_trans {a b c : ByteArray} (h1 : cmpKF a b < 0) (h2 : cmpKF b c < 0) : cmpKF a c < 0 := cb_trans _ _ _ h1 h2
def Rises (xs : List Fil) : Prop := ∀ (j k : Nat) (x y : Fil), j < k → xs[j]? = some x → xs[k]? = some y → cmpKF x.name y.name < 0
def placeOf (xs : List Fil) (t : ByteArray) : Nat := (xs.takeWhile fun x => decide (cmpKF x.name t < 0)).length
theorem placeOf_cons (x : Fil) (r : List Fil) (t : ByteArray) : placeOf (x :: r) t = if cmpKF x.name t < 0 then placeOf r t + 1 else 0 := by
 unfold placeOf; rw [List.takeWhile_cons]
 by_cases h : cmpKF x.name t < 0 <;> simp [h]
theorem Rises.tail {x : Fil} {r : List Fil} (h : Rises (x :: r)) : Rises r := fun j k a b hjk ha hb => h (j + 1) (k + 1) a b (by omega) (by simpa using ha) (by simpa using hb)
theorem Rises.place {xs : List Fil} (t : ByteArray) (h : Rises xs) : Place xs t (placeOf xs t) := by
 induction xs with
 | nil => exact ⟨Nat.zero_le _, fun k x hk => by simp [placeOf] at hk, fun k x _ hx => by simp at hx⟩
 | cons y r ih =>
  have ih := ih h.tail
  rw [placeOf_cons]
  by_cases hy : cmpKF y.name t < 0
  ·rw [if_pos hy]
   refine ⟨by have := ih.1; simp; omega, fun k x hk hx => ?_, fun k x hk hx => ?_⟩
   ·rcases k with _ | k
    ·simp at hx; subst hx; exact hy
    ·exact ih.2.1 k x (by omega) (by simpa using hx)
   ·rcases k with _ | k
    ·omega
    ·exact ih.2.2 k x (by omega) (by simpa using hx)
  ·rw [if_neg hy]
   refine ⟨Nat.zero_le _, fun k x hk => by omega, fun k x _ hx hn => ?_⟩
   rcases k with _ | k
   ·simp at hx; subst hx; exact hy hn
   ·exact hy (ck_trans (h 0 (k + 1) y x (by omega) rfl hx) hn)
theorem isAt_yes {xs : List Fil} {t : ByteArray} {lo : Nat} (h : isAt xs t lo = true) : ∃ x, xs[lo]? = some x ∧ cmpKF x.name t = 0 := by
 unfold isAt at h
 rcases hx : xs[lo]? with _ | x
 ·rw [hx] at h; cases h
 ·rw [hx] at h; exact ⟨x, rfl, by simpa using h⟩
theorem isAt_no {xs : List Fil} {t : ByteArray} {lo : Nat} (h : isAt xs t lo = false) (x : Fil) (hx : xs[lo]? = some x) : cmpKF x.name t ≠ 0 := by
 unfold isAt at h; rw [hx] at h; simpa using h
theorem behind_of {xs : List Fil} {t : ByteArray} {lo : Nat} (hr : Rises xs) (hp : Place xs t lo) (h : isAt xs t lo = false) (k : Nat) (x : Fil) (hk : lo ≤ k) (hx : xs[k]? = some x) : cmpKF t x.name < 0 := by
 have hlt := (List.getElem?_eq_some_iff.1 hx).1
 obtain ⟨y, hy⟩ : ∃ y, xs[lo]? = some y := ⟨xs[lo]'(by omega), List.getElem?_eq_getElem _⟩
 have h1 := isAt_no h y hy
 have h2 := hp.2.2 lo y (Nat.le_refl _) hy
 have h3 : cmpKF t y.name < 0 := by rw [ck_neg]; omega
 rcases Nat.lt_or_ge lo k with h4 | h4
 ·exact ck_trans h3 (hr lo k y x h4 hy hx)
 ·have : k = lo := by omega
  subst this
  rw [hy] at hx; injection hx with hx; subst hx; exact h3
def ins (xs : List Fil) (lo : Nat) (y : Fil) : List Fil := xs.take lo ++ y :: xs.drop lo
theorem ins_len (xs : List Fil) (lo : Nat) (y : Fil) : (ins xs lo y).length = xs.length + 1 := by
 unfold ins; rw [List.length_append, List.length_cons, List.length_take, List.length_drop]; omega
theorem ins_at {xs : List Fil} {lo : Nat} (h : lo ≤ xs.length) (y : Fil) : (ins xs lo y)[lo]? = some y := by
 unfold ins
 rw [List.getElem?_append_right (by rw [List.length_take]; omega), List.length_take, Nat.min_eq_left h, Nat.sub_self]; rfl
theorem ins_from {xs : List Fil} {lo j : Nat} {y z : Fil} (h : lo ≤ xs.length) (hz : (ins xs lo y)[j]? = some z) : (j = lo ∧ z = y) ∨ (j ≠ lo ∧ xs[if j < lo then j else j - 1]? = some z) := by
 have hl : (xs.take lo).length = lo := by rw [List.length_take]; omega
 rcases Nat.lt_trichotomy j lo with hj | hj | hj
 ·right; rw [if_pos hj]
  unfold ins at hz
  rw [List.getElem?_append_left (by omega), List.getElem?_take, if_pos hj] at hz
  exact ⟨by omega, hz⟩
 ·subst hj; rw [ins_at h] at hz; injection hz with hz; exact .inl ⟨rfl, hz.symm⟩
 ·right; rw [if_neg (by omega)]
  unfold ins at hz
  rw [List.getElem?_append_right (by omega), hl] at hz
  obtain ⟨d, hd⟩ : ∃ d, j = lo + 1 + d := ⟨j - lo - 1, by omega⟩
  subst hd
  rw [show lo + 1 + d - lo = d + 1 by omega, List.getElem?_cons_succ, List.getElem?_drop] at hz
  exact ⟨by omega, by rw [show lo + 1 + d - 1 = lo + d by omega]; exact hz⟩
theorem ins_set {xs : List Fil} {lo : Nat} (h : lo ≤ xs.length) (y z : Fil) : (ins xs lo y).set lo z = ins xs lo z := by
 have hl : (xs.take lo).length = lo := by rw [List.length_take]; omega
 unfold ins
 rw [List.set_append_right _ _ (by omega), hl, Nat.sub_self]; rfl
theorem flat_append (a b : List Fil) : flat (a ++ b) = flat a ++ flat b := by
 induction a with
 | nil => rfl
 | cons x r ih => simp only [List.cons_append, flat, ih, List.append_assoc]
theorem flat_take (xs : List Fil) (k : Nat) : (flat xs).take (k * 3) = flat (xs.take k) := by
 induction xs generalizing k with
 | nil => simp [flat]
 | cons x r ih =>
  rcases k with _ | k
  ·simp [flat]
  ·rw [flat, List.take_succ_cons, flat, List.take_append, show (flC3 x).length = 3 from rfl, show (k + 1) * 3 - 3 = k * 3 by omega, ih, List.take_of_length_le (by show 3 ≤ _; omega)]
theorem flat_drop (xs : List Fil) (k : Nat) : (flat xs).drop (k * 3) = flat (xs.drop k) := by
 induction xs generalizing k with
 | nil => simp [flat]
 | cons x r ih =>
  rcases k with _ | k
  ·simp [flat]
  ·rw [flat, List.drop_succ_cons, List.drop_append, show (flC3 x).length = 3 from rfl, show (k + 1) * 3 - 3 = k * 3 by omega, ih, List.drop_of_length_le (by show 3 ≤ _; omega), List.nil_append]
theorem flat_ins (xs : List Fil) (lo : Nat) (y : Fil) : flat (ins xs lo y) = (flat xs).take (lo * 3) ++ (flC3 y ++ (flat xs).drop (lo * 3)) := by
 unfold ins; rw [flat_append, flat, flat_take, flat_drop]
theorem sumN_ins (xs : List Fil) (lo : Nat) (y : Fil) : sumN (ins xs lo y) = sumN xs + y.l.length := by
 unfold ins
 have h := congrArg sumN (List.take_append_drop lo xs)
 rw [sumN_append] at h ⊢
 simp only [sumN]; omega
theorem Rises.ins {xs : List Fil} {t : ByteArray} {lo : Nat} (hr : Rises xs) (hp : Place xs t lo) (h : isAt xs t lo = false) (y : Fil) (hy : y.name = t) : Rises (ins xs lo y) := by
 intro j k a b hjk ha hb
 rcases ins_from hp.1 ha with ⟨rfl, rfl⟩ | ⟨hj, ha'⟩ <;> rcases ins_from hp.1 hb with ⟨rfl, rfl⟩ | ⟨hk, hb'⟩
 ·omega
 ·rw [if_neg (by omega)] at hb'; rw [hy]; exact behind_of hr hp h _ b (by omega) hb'
 ·rw [if_pos (by omega)] at ha'; rw [hy]; exact hp.2.1 _ a hjk ha'
 ·refine hr _ _ a b ?_ ha' hb'
  split <;> split <;> omega
theorem Rises.set {xs : List Fil} (hr : Rises xs) (q : Nat) (x y : Fil) (hx : xs[q]? = some x) (hy : y.name = x.name) : Rises (xs.set q y) := by
 have hc : ∀ (j : Nat) (z : Fil), (xs.set q y)[j]? = some z → ∃ u, xs[j]? = some u ∧ u.name = z.name := fun j z hz => by
  rw [List.getElem?_set] at hz
  by_cases e : q = j
  ·rw [if_pos e] at hz
   split at hz
   ·injection hz with hz; subst hz; subst e; exact ⟨x, hx, hy.symm⟩
   ·cases hz
  ·rw [if_neg e] at hz; exact ⟨z, hz, rfl⟩
 intro j k a b hjk ha hb
 obtain ⟨u, hu, e⟩ := hc j a ha
 obtain ⟨v, hv, e'⟩ := hc k b hb
 rw [← e, ← e']; exact hr j k u v hjk hu hv
theorem Rises.erase {xs : List Fil} (hr : Rises xs) (q : Nat) : Rises (xs.eraseIdx q) := by
 intro j k a b hjk ha hb
 rw [List.getElem?_eraseIdx] at ha hb
 refine hr (if j < q then j else j + 1) (if k < q then k else k + 1) a b (by split <;> split <;> omega) ?_ ?_
 ·split at ha <;> rename_i h <;> simp only [h] <;> exact ha
 ·split at hb <;> rename_i h <;> simp only [h] <;> exact hb
section
variable {W : Bs} {g f fcap : Nat} {room armed ops : Int} {off : Bool} {r : List Value} {xs : List Fil} {w w' : World}
theorem SN.cut (h : SN W g room off armed ops f fcap r xs w) (q : Nat) (x : Fil) (hx : xs[q]? = some x) (k : Nat) (hk : k ≤ x.l.length) : SN W g room off armed ops f fcap r (xs.set q { x with l := x.l.take k, du := k }) ((w.setCell ⟨f, q * 3 + 2, none⟩ (.int .i64 (k : Nat))).drew.setCell ⟨f, q * 3 + 1, none⟩ (.slice x.A k x.cap)) := by
 have h1 := (h.putDu q x hx k).drew
 have hql := (List.getElem?_eq_some_iff.1 hx).1
 have hxq : (xs.set q { x with du := k })[q]? = some { x with du := k } := by rw [List.getElem?_set_self hql]
 have hl : (x.l.take k).length = k := by rw [List.length_take]; omega
 have hcase : ∀ (j : Nat) (z : Fil), (xs.set q { x with l := x.l.take k, du := k })[j]? = some z → (j = q ∧ z = { x with l := x.l.take k, du := k }) ∨ (j ≠ q ∧ (xs.set q { x with du := k })[j]? = some z) := fun j z hz => by
  rcases set_cases hz with h2 | ⟨hj, hu⟩
  ·exact .inl h2
  ·exact .inr ⟨hj, by rw [List.getElem?_set_ne (Ne.symm hj)]; exact hu⟩
 have hA : ∀ (j : Nat) (z : Fil), (xs.set q { x with l := x.l.take k, du := k })[j]? = some z → ∃ u, (xs.set q { x with du := k })[j]? = some u ∧ z.A = u.A := fun j z hz => by
  rcases hcase j z hz with ⟨rfl, rfl⟩ | ⟨-, hu⟩
  ·exact ⟨_, hxq, rfl⟩
  ·exact ⟨z, hu, rfl⟩
 refine ⟨gb_set h1.below (.inr h1.fbase) (isT_fl h1.fl) _ _, h1.fbase, h1.ne, by have := row_far (i := q * 3 + 1) (u := .slice x.A k x.cap) (Ne.symm h1.ne) h1.st; rw [List.length_set] at this ⊢; exact this, ?_, by have := h1.fc; rw [List.length_set] at this ⊢; exact this, fun j z hz => ?_, fun j z hz => ?_, fun j z hz => ?_, fun i j y z hij hy hz => ?_⟩
 ·have e := flat_set (xs.set q { x with du := k }) r q { x with du := k } { x with l := x.l.take k, du := k } hxq 1 (by decide) (.slice x.A k x.cap) (by simp [flC3, hl])
  rw [List.set_set] at e
  rw [← e]; exact row_set h1.fl _ _
 ·rcases hcase j z hz with ⟨rfl, rfl⟩ | ⟨hj, hu⟩
  ·have o := own_far (i := j * 3 + 1) (u := .slice x.A k x.cap) ((h1.own j _ hxq).cut k hk) (h1.sf j _ hxq)
   show OwnS _ _ x.A (x.l.take k).length x.cap (x.l.take k)
   rw [hl]; exact o
  ·exact own_far (h1.own j z hu) (h1.sf j z hu)
 ·obtain ⟨u, hu, e⟩ := hA j z hz; rw [e]; exact h1.sg j u hu
 ·obtain ⟨u, hu, e⟩ := hA j z hz; rw [e]; exact h1.sf j u hu
 ·obtain ⟨u, hu, e⟩ := hA i y hy; obtain ⟨v, hv, e'⟩ := hA j z hz; rw [e, e']; exact h1.ap i j u v hij hu hv
end
theorem insert_any (B f k cap i h : Nat) (xs : List Value) (c0 c1 c2 : Value) (hi : i ≤ k) (hk : k ≤ 100000) (w : World) (hB : Hid (B ≤ w.heap.size)) (hown : Hid (OwnXF w B (some ⟨f, 0, none⟩) k cap xs)) (hx1 : Hid (∀ u ∈ xs, u.oneCell' = true)) (h1 : Hid (∀ u ∈ [c0, c1, c2], u.oneCell' = true))
  (hc : Hid (w.heap[h]? = some (.cells #[c0, c1, c2] 64 (0, 0)))) (hne : Hid (h ≠ f)) :
  Calls Tryz.prog 26 #[.slice (some ⟨f, 0, none⟩) k cap, .int .i64 i, .slice (some ⟨h, 0, none⟩) 1 1] w (InsM w B f k i xs [c0, c1, c2]) := by
 rcases Nat.lt_or_ge i k with hlt | hge
 ·rcases Nat.lt_or_ge k cap with hr | hr
  ·obtain ⟨cs, RX⟩ := hown.out.row
   exact insert_room B f k cap i h xs c0 c1 c2 hlt hk (Lib.hid hr) (Lib.hid RX.hcap) w hown hx1 h1 hc hne
  ·exact insert_full B f k cap i h xs c0 c1 c2 hlt hk (Lib.hid (by omega)) w hB hown hx1 h1 hc hne
 ·obtain rfl : i = k := by omega
  refine (insert_end B (some ⟨f, 0, none⟩) i cap h xs c0 c1 c2 hk w hown hB h1 (Lib.hid fun j u hu => ?_)).mono ?_
  ·rw [addr_add, Nat.zero_add, cell_of_row _ _ _ _ _ _ hc.out, ← hu]; simp
  ·rintro e w' ⟨F', cap', rfl, ho, hg, hb⟩
   have hl := hown.out.1
   refine ⟨F', cap', rfl, ?_, hg, hb⟩
   rw [List.take_of_length_le (by omega), List.drop_of_length_le (by omega), List.append_nil]; exact ho
structure Apart (W : Bs) (w : World) (g f : Nat) (xs : List Fil) (y : Fil) : Prop where
 own : OwnS w W.heap.size y.A y.l.length y.cap y.l
 sg : y.A.map (·.block) ≠ some g
 sf : y.A.map (·.block) ≠ some f
 ap : ∀ (k : Nat) (x : Fil), xs[k]? = some x → ∀ b, y.A.map (·.block) = some b → x.A.map (·.block) ≠ some b
theorem apart_empty (W : Bs) (w : World) (g f : Nat) (xs : List Fil) (t : ByteArray) : Apart W w g f xs (emptyF t) :=
 ⟨OwnS.nil _ _, (fun e => by cases e), (fun e => by cases e), (fun k x hx b e => by cases e)⟩
structure EI (W : Bs) (g : Nat) (room : Int) (off : Bool) (armed ops : Int) (f fcap : Nat) (r : List Value) (xs : List Fil) (Fo : Option Addr) (no co : Nat) (w : World) : Prop where
 below : W.grownBy w (some g)
 fbase : W.heap.size ≤ f
 ne : g ≠ f
 st : w.heap[g]? = some (.cells (stC room Fo no co off armed ops).toArray 58 (0, 0))
 fl : w.heap[f]? = some (.cells (flat xs ++ r).toArray 64 (0, 0))
 fc : r.length + xs.length * 3 = fcap * 3 ∧ fcap ≤ maxLen
 own : ∀ (k : Nat) (x : Fil), xs[k]? = some x → OwnS w W.heap.size x.A x.l.length x.cap x.l
 sg : ∀ (k : Nat) (x : Fil), xs[k]? = some x → x.A.map (·.block) ≠ some g
 sf : ∀ (k : Nat) (x : Fil), xs[k]? = some x → x.A.map (·.block) ≠ some f
 ap : ∀ (j k : Nat) (x y : Fil), j ≠ k → xs[j]? = some x → xs[k]? = some y → ∀ b, x.A.map (·.block) = some b → y.A.map (·.block) ≠ some b
section
variable {W : Bs} {g f fcap : Nat} {room armed ops : Int} {off : Bool} {r : List Value} {xs : List Fil} {w w' : World}
theorem EI.cg {Fo : Option Addr} {no co : Nat} (h : EI W g room off armed ops f fcap r xs Fo no co w) : w.cell? ⟨g, 1, none⟩ = some (.slice Fo no co) := row_cells h.st 1 _ rfl
theorem EI.kg {Fo : Option Addr} {no co : Nat} (h : EI W g room off armed ops f fcap r xs Fo no co w) : w.frozen? ⟨g, 1, none⟩ = false := row_frozen h.st 1
theorem EI.done {Fo : Option Addr} {no co : Nat} (h : EI W g room off armed ops f fcap r xs Fo no co w) : SN W g room off armed ops f fcap r xs (w.setCell ⟨g, 1, none⟩ (.slice (some ⟨f, 0, none⟩) xs.length fcap)) :=
 ⟨gb_set h.below (.inl rfl) (isT_st h.st) _ _, h.fbase, h.ne, row_set h.st 1 _, row_far h.ne h.fl, h.fc, fun k x hx => own_far (h.own k x hx) (h.sg k x hx), h.sg, h.sf, h.ap⟩
theorem ins_file {F : Option Addr} {cap lo : Nat} {y : Fil} (hlo : lo ≤ xs.length) (h : SN W g room off armed ops f fcap r xs w) (hy : Apart W w g f xs y) (hox : OwnXF w' W.heap.size F (xs.length + 1) cap ((flat xs).take (lo * 3) ++ (flC3 y ++ (flat xs).drop (lo * 3)))) (hgr : w.grownBy w' (some f)) (hblk : F.map (·.block) = some f ∨ F.map (·.block) = some w.heap.size) :
  ∃ f' r', F = some ⟨f', 0, none⟩ ∧ EI W g room off armed ops f' cap r' (ins xs lo y) (some ⟨f, 0, none⟩) xs.length fcap w' := by
 have hgl := (Array.getElem?_eq_some_iff.1 h.st).1
 rw [← flat_ins] at hox
 rcases hox.2 with ⟨h1, h2⟩ | ⟨f', cap', cur, h1, hb, hrow, -, hc, hs, ht⟩
 ·omega
 ·cases h1
  have hf : f' = f ∨ f' = w.heap.size := by
   rcases hblk with h | h
   ·exact .inl (by simpa using h)
   ·exact .inr (by simpa using h)
  have hlen := hox.1
  have hsf : ∀ (k : Nat) (x : Fil), xs[k]? = some x → x.A.map (·.block) ≠ some f' := fun k x hx e => by
   rcases hf with rfl | rfl
   ·exact h.sf k x hx e
   ·exact absurd ((h.own k x hx).lt _ e) (Nat.lt_irrefl _)
  have hyf : y.A.map (·.block) ≠ some f' := fun e => by
   rcases hf with rfl | rfl
   ·exact hy.sf e
   ·exact absurd (hy.own.lt _ e) (Nat.lt_irrefl _)
  refine ⟨f', cur.toList.drop ((xs.length + 1) * 3), rfl, ⟨gb_grown h.below hgr (fun k hk => by injection hk with hk; rw [← hk]; exact h.fbase) (fun k hk => by injection hk with hk; rw [← hk]; exact isT_fl h.fl), hb, ?_, (hgr.block g hgl (fun e => by injection e with e; exact h.ne e)).trans h.st, ?_, ⟨?_, hc⟩, fun j z hz => ?_, fun j z hz => ?_, fun j z hz => ?_, fun i j a z hij ha hz => ?_⟩⟩
  ·rcases hf with rfl | rfl
   ·exact h.ne
   ·omega
  ·rw [hrow]
   have e : cur = (flat (ins xs lo y) ++ cur.toList.drop ((xs.length + 1) * 3)).toArray := by
    rw [← ht, List.take_append_drop]
   rw [← e]
  ·have h4 : cur.toList.length = cap * 3 := by simpa using hs
   have h3 := congrArg List.length ht
   rw [List.length_take, hlen, h4] at h3
   rw [List.length_drop, ins_len, h4]; omega
  ·rcases ins_from hlo hz with ⟨-, rfl⟩ | ⟨-, hu⟩
   ·exact own_grown hy.own hgr (fun b hb e => hy.sf (by rw [hb]; exact e.symm))
   ·exact own_grown (h.own _ z hu) hgr (fun b hb e => h.sf _ z hu (by rw [hb]; exact e.symm))
  ·rcases ins_from hlo hz with ⟨-, rfl⟩ | ⟨-, hu⟩
   ·exact hy.sg
   ·exact h.sg _ z hu
  ·rcases ins_from hlo hz with ⟨-, rfl⟩ | ⟨-, hu⟩
   ·exact hyf
   ·exact hsf _ z hu
  ·rcases ins_from hlo ha with ⟨hi, rfl⟩ | ⟨hi, hu⟩ <;> rcases ins_from hlo hz with ⟨hj, rfl⟩ | ⟨hj, hu'⟩
   ·omega
   ·exact hy.ap _ z hu'
   ·exact fun b hb e => hy.ap _ a hu b e hb
   ·exact h.ap _ _ a z (by split <;> split <;> omega) hu hu'
theorem first_fileI (hz : S0 W g room off armed ops w) {F : Option Addr} {cap : Nat} {t : ByteArray} (hox : OwnXF w' W.heap.size F (0 + 1) cap ([] ++ [.string t, .slice none 0 0, .int .i64 0])) (hgr : w.grownBy w' (Option.map (·.block) (none : Option Addr))) (hblk : F.map (·.block) = Option.map (·.block) (none : Option Addr) ∨ F.map (·.block) = some w.heap.size) :
  ∃ f r', F = some ⟨f, 0, none⟩ ∧ EI W g room off armed ops f cap r' [emptyF t] none 0 0 w' := by
 have hgl := (Array.getElem?_eq_some_iff.1 hz.st).1
 have one : ∀ {k : Nat} {x : Fil}, [emptyF t][k]? = some x → k = 0 ∧ x = emptyF t := fun {k x} hx => by
  rcases k with _ | k
  ·exact ⟨rfl, by simpa using hx.symm⟩
  ·simp at hx
 rcases hox.2 with ⟨h1, h2⟩ | ⟨f, cap', cur, h1, hb, hrow, -, hc, hs, ht⟩
 ·omega
 ·cases h1
  have hf : f = w.heap.size := by
   rcases hblk with h | h
   ·cases h
   ·simpa using h
  have h3 : cur.toList.take 3 = flat [emptyF t] := by simpa [flat, flC3, emptyF] using ht
  refine ⟨f, cur.toList.drop 3, rfl, ⟨gb_grown hz.below hgr (fun k hk => by cases hk) (fun k hk => by cases hk), hb, by omega, (hgr.block g hgl (fun e => by cases e)).trans hz.st, ?_, ⟨?_, hc⟩, fun j z h => ?_, fun j z h => ?_, fun j z h => ?_, fun i j a z hij ha h => ?_⟩⟩
  ·rw [hrow]
   have e : cur = (flat [emptyF t] ++ cur.toList.drop 3).toArray := by rw [← h3, List.take_append_drop]
   rw [← e]
  ·have h4 := congrArg List.length h3
   rw [List.length_take, Array.length_toList] at h4
   have : (flat [emptyF t]).length = 3 := rfl
   rw [List.length_drop, Array.length_toList]; simp; omega
  ·obtain ⟨-, rfl⟩ := one h; exact OwnS.nil _ _
  ·obtain ⟨-, rfl⟩ := one h; exact fun e => by cases e
  ·obtain ⟨-, rfl⟩ := one h; exact fun e => by cases e
  ·exact absurd ((one ha).1.trans (one h).1.symm) hij
theorem boxed {cs : Array Value} {ty : TypeId} (w : World) : (w.alloc (.cells cs ty)).heap[w.heap.size]? = some (.cells cs ty (0, 0)) := heap_alloc_new' w _
theorem alloc_stepI (t : ByteArray) {p : Option Addr} {m : List Nat} (hz : Hid (SN W g room off armed ops f fcap r xs w)) (hp : Hid (ByAt w p m)) :
  Hid (SN W g room off armed ops f fcap r xs (w.alloc (.cells #[.string t, .slice none 0 0, .int .i64 0] 64))) ∧ Hid (ByAt (w.alloc (.cells #[.string t, .slice none 0 0, .int .i64 0] 64)) p m) ∧
  Hid ((w.alloc (.cells #[.string t, .slice none 0 0, .int .i64 0] 64)).heap[w.heap.size]? = some (.cells #[.string t, .slice none 0 0, .int .i64 0] 64 (0, 0))) ∧ Hid (w.heap.size ≠ f) :=
 have hb := (Below.refl w.heap.size w).alloc (Nat.le_refl _) (.cells #[.string t, .slice none 0 0, .int .i64 0] 64)
 ⟨Lib.hid (hz.out.next hb), Lib.hid (hp.out.keep hb), Lib.hid (boxed w), Lib.hid (by have := (Array.getElem?_eq_some_iff.1 hz.out.fl).1; omega)⟩
theorem alloc_stepZ (t : ByteArray) {p : Option Addr} {m : List Nat} (hz : Hid (S0 W g room off armed ops w)) (hp : Hid (ByAt w p m)) :
  Hid (S0 W g room off armed ops (w.alloc (.cells #[.string t, .slice none 0 0, .int .i64 0] 64))) ∧ Hid (ByAt (w.alloc (.cells #[.string t, .slice none 0 0, .int .i64 0] 64)) p m) ∧
  Hid (∀ (j : Nat) (u : Value), [Value.string t, .slice none 0 0, .int .i64 0][j]? = some u → (w.alloc (.cells #[.string t, .slice none 0 0, .int .i64 0] 64)).cell? ((⟨w.heap.size, 0, none⟩ : Addr).add j) = some u) :=
 have hb := (Below.refl w.heap.size w).alloc (Nat.le_refl _) (.cells #[.string t, .slice none 0 0, .int .i64 0] 64)
 ⟨Lib.hid (hz.out.next hb), Lib.hid (hp.out.keep hb), Lib.hid (new_cellsN t w _)⟩
theorem ByAt.grownI {p : Option Addr} {m : List Nat} (h : ByAt w p m) (hg : w.grownBy w' (some f)) (hp : ∀ (k x : Nat), m[k]? = some x → p.map (·.block) ≠ some f) : ByAt w' p m := fun k x hx => by
 obtain ⟨h1, b, off, h2, h3, h4⟩ := h k x hx
 exact ⟨h1, b, off, h2, Nat.lt_of_lt_of_le h3 hg.size, hg.cell h4 (fun e => hp k x hx (by rw [h2]; simpa using e))⟩
theorem ByAt.putI {p : Option Addr} {m : List Nat} {v : Value} {Fo : Option Addr} {n c : Nat} (h : ByAt w p m) (hs : w.heap[g]? = some (.cells (stC room Fo n c off armed ops).toArray 58 (0, 0))) : ByAt (w.setCell ⟨g, 1, none⟩ v) p m := ByAt.putG h hs
end
end Go.Proofs.YtjldamkmdkaiiaaGreatDoor
