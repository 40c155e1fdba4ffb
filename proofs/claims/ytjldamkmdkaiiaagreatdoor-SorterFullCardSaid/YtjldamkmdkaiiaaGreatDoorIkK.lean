/-
  Layer files: Append that finds no room; how many bytes the files of a name have: plain facts.
-/
import Derived.Test.YtjldamkmdkaiiaaGreatDoorIaK
import Derived.Test.YtjldamkmdkaiiaaGreatDoorIcK
import Derived.Test.YtjldamkmdkaiiaaGreatDoorIdK
import Derived.Test.YtjldamkmdkaiiaaGreatDoorIeK
import Derived.Test.YtjldamkmdkaiiaaGreatDoorTkK
set_option linter.unusedSimpArgs false
set_option linter.unusedVariables false
set_option maxRecDepth 8000
namespace Go.Proofs.YtjldamkmdkaiiaaGreatDoor
open Go.RowKit Go.WideShapes
structure SM (W : Bs) (g : Nat) (room : Int) (off : Bool) (armed ops : Int) (f fcap tb : Nat) (A : Option Addr) (cap : Nat) (l : List Nat) (du : Int) (w : World) : Prop where
 below : W.grownBy w (some g)
 st : w.heap[g]? = some (.cells (stC room (some ⟨f, 0, none⟩) 0 fcap off armed ops).toArray 58 (0, 0))
 ox : OwnXF w W.heap.size (some ⟨f, 0, none⟩) 0 fcap []
 tbr : w.heap[tb]? = some (.cells #[.string { data := #[97] }, .slice A l.length cap, .int .i64 du] 64 (0, 0))
 own : OwnS w W.heap.size A l.length cap l
 fb : W.heap.size ≤ f
 ne : g ≠ f
 sg : A.map (·.block) ≠ some g
 sf : A.map (·.block) ≠ some f
 tg : tb ≠ g
 tf : tb ≠ f
section
variable {W : Bs} {g f fcap cap : Nat} {room armed ops du : Int} {off : Bool} {r : List Value} {A : Option Addr} {l : List Nat} {tb : Nat} {w w' : World}
theorem SM.g1 (h : SM W g room off armed ops f fcap tb A cap l du w) : w.cell? ⟨g, 1, none⟩ = some (.slice (some ⟨f, 0, none⟩) 0 fcap) := row_cells h.st 1 _ rfl
theorem ownx_kept {B : Nat} {F : Option Addr} {k c : Nat} {xs : List Value} (h : OwnXF w B F k c xs) (hb : Below w.heap.size w w') : OwnXF w' B F k c xs := by
 refine ⟨h.1, ?_⟩
 rcases h.2 with h1 | ⟨a, cap', cur, h1, hB, hrow, hrest⟩
 ·exact .inl h1
 ·exact .inr ⟨a, cap', cur, h1, hB, row_kept hrow hb, hrest⟩
theorem SM.next (h : SM W g room off armed ops f fcap tb A cap l du w) (hb : Below w.heap.size w w') : SM W g room off armed ops f fcap tb A cap l du w' :=
 ⟨gb_below h.below hb, row_kept h.st hb, ownx_kept h.ox hb, row_kept h.tbr hb, h.own.keep hb, h.fb, h.ne, h.sg, h.sf, h.tg, h.tf⟩
structure SG (W : Bs) (g : Nat) (room : Int) (off : Bool) (armed ops : Int) (f fcap f' fcap' tb : Nat) (r : List Value) (A : Option Addr) (cap : Nat) (l : List Nat) (du : Int) (w : World) : Prop where
 below : W.grownBy w (some g)
 st : w.heap[g]? = some (.cells (stC room (some ⟨f, 0, none⟩) 0 fcap off armed ops).toArray 58 (0, 0))
 fl : w.heap[f']? = some (.cells (flC A l.length cap du ++ r).toArray 64 (0, 0))
 fc : r.length + 3 = fcap' * 3 ∧ fcap' ≤ maxLen
 tbr : w.heap[tb]? = some (.cells #[.string { data := #[97] }, .slice A l.length cap, .int .i64 du] 64 (0, 0))
 own : OwnS w W.heap.size A l.length cap l
 fb : W.heap.size ≤ f'
 ne : g ≠ f'
 sg : A.map (·.block) ≠ some g
 sf : A.map (·.block) ≠ some f'
 tg : tb ≠ g
theorem SG.cg {f' fcap' : Nat} (h : SG W g room off armed ops f fcap f' fcap' tb r A cap l du w) : w.cell? ⟨g, 1, none⟩ = some (.slice (some ⟨f, 0, none⟩) 0 fcap) := row_cells h.st 1 _ rfl
theorem SG.kg {f' fcap' : Nat} (h : SG W g room off armed ops f fcap f' fcap' tb r A cap l du w) : w.frozen? ⟨g, 1, none⟩ = false := row_frozen h.st 1
theorem SG.done {f' fcap' : Nat} (h : SG W g room off armed ops f fcap f' fcap' tb r A cap l du w) : S1F W g room off armed ops f' fcap' r A cap l du (w.setCell ⟨g, 1, none⟩ (.slice (some ⟨f', 0, none⟩) 1 fcap')) :=
 ⟨gb_set h.below (.inl rfl) (isT_st h.st) _ _, h.fb, h.ne, row_set h.st 1 _, row_far h.ne h.fl, h.fc, own_far h.own h.sg, h.sg, h.sf⟩
theorem S1F.ownX (h : S1F W g room off armed ops f fcap r A cap l du w) : OwnXF w W.heap.size (some ⟨f, 0, none⟩) 1 fcap (flC A l.length cap du) := by
 have hc := h.fc
 have hl : (flC A l.length cap du).length = 3 := rfl
 refine ⟨rfl, .inr ⟨f, fcap, _, rfl, h.fbase, h.fl, by omega, hc.2, by simp [hl]; omega, ?_⟩⟩
 simp [flC]
end
theorem flat_put (xs : List Fil) (r : List Value) (k : Nat) (y : Fil) (h : k < xs.length) : (flat xs ++ r).take (k * 3) ++ flC3 y ++ (flat xs ++ r).drop (k * 3 + 3) = flat (xs.set k y) ++ r := by
 have h1 : (flat xs).length = xs.length * 3 := flat_len xs
 rw [List.take_append_of_le_length (by omega), List.drop_append_of_le_length (by omega), flat_take, show k * 3 + 3 = (k + 1) * 3 by omega, flat_drop]
 have e : xs.set k y = xs.take k ++ y :: xs.drop (k + 1) := by rw [List.set_eq_take_append_cons_drop, if_pos h]
 rw [e, flat_append, flat]
 simp only [List.append_assoc]
section
variable {W : Bs} {g f fcap : Nat} {room armed ops : Int} {off : Bool} {r : List Value} {xs : List Fil} {w w' : World}
theorem Apart.next {y : Fil} (h : Apart W w g f xs y) (hb : Below w.heap.size w w') : Apart W w' g f xs y := ⟨h.own.keep hb, h.sg, h.sf, h.ap⟩
theorem gb_row2 {row : Array Value} (h : W.grownBy w (some g)) (hf : W.heap.size ≤ f) (ht : IsT w f) : W.grownBy (w.setRow f row) (some g) :=
 ⟨⟨h.gb.os, h.gb.tape, h.gb.output, by rw [srow_size]; exact h.gb.size, fun k hk hn => (setRow_other w f k _ (by have hf : W.b.heap.size ≤ f := hf; omega)).trans (h.gb.block k hk hn)⟩, h.kf.setRow ht (srow_size ..) (fun k hk => setRow_other w f k _ (by omega))⟩
theorem SN.put (h : SN W g room off armed ops f fcap r xs w) (q : Nat) (x0 : Fil) (hx : xs[q]? = some x0) (y : Fil) (hy : Apart W w g f xs y) :
  SN W g room off armed ops f fcap r (xs.set q y) (w.setRow f ((flat xs ++ r).take (q * 3) ++ flC3 y ++ (flat xs ++ r).drop (q * 3 + 3)).toArray) := by
 have hq := (List.getElem?_eq_some_iff.1 hx).1
 have hgr : w.grownBy (w.setRow f ((flat xs ++ r).take (q * 3) ++ flC3 y ++ (flat xs ++ r).drop (q * 3 + 3)).toArray) (some f) := gb_setRow (gb_refl _ _)
 refine ⟨gb_row2 h.below h.fbase (isT_fl h.fl), h.fbase, h.ne, by rw [List.length_set, setRow_other _ _ _ _ h.ne]; exact h.st, ?_, by rw [List.length_set]; exact h.fc, fun j z hz => ?_, fun j z hz => ?_, fun j z hz => ?_, fun i j a z hij ha hz => ?_⟩
 ·rw [flat_put xs r q y hq]; exact setRow_heap _ _ _ _ _ _ h.fl
 ·rcases set_cases hz with ⟨rfl, rfl⟩ | ⟨hj, hu⟩
  ·exact own_grown hy.own hgr (fun b hb e => hy.sf (by rw [hb]; exact e.symm))
  ·exact own_grown (h.own j z hu) hgr (fun b hb e => h.sf j z hu (by rw [hb]; exact e.symm))
 ·rcases set_cases hz with ⟨rfl, rfl⟩ | ⟨hj, hu⟩
  ·exact hy.sg
  ·exact h.sg j z hu
 ·rcases set_cases hz with ⟨rfl, rfl⟩ | ⟨hj, hu⟩
  ·exact hy.sf
  ·exact h.sf j z hu
 ·rcases set_cases ha with ⟨rfl, rfl⟩ | ⟨hi, hu⟩ <;> rcases set_cases hz with ⟨rfl, rfl⟩ | ⟨hj, hu'⟩
  ·exact absurd rfl hij
  ·exact hy.ap j z hu'
  ·exact fun b hb e => hy.ap i a hu b e hb
  ·exact h.ap i j a z hij hu hu'
structure CZ (W : Bs) (g : Nat) (room : Int) (off : Bool) (armed ops : Int) (f fcap : Nat) (r : List Value) (xs : List Fil) (tb : Nat) (y : Fil) (w : World) : Prop where
 sn : SN W g room off armed ops f fcap r xs w
 tbr : w.heap[tb]? = some (.cells #[.string y.name, .slice y.A y.l.length y.cap, .int .i64 (y.du : Nat)] 64 (0, 0))
 ap : Apart W w g f xs y
 tg : tb ≠ g
 tf : tb ≠ f
theorem CZ.next {tb : Nat} {y : Fil} (h : CZ W g room off armed ops f fcap r xs tb y w) (hb : Below w.heap.size w w') : CZ W g room off armed ops f fcap r xs tb y w' := ⟨h.sn.next hb, row_kept h.tbr hb, h.ap.next hb, h.tg, h.tf⟩
end
def SA (W : Bs) (g : Nat) (room : Int) (off : Bool) (armed ops : Int) (xs : List Fil) (w : World) : Prop := (xs = [] ∧ S0 W g room off armed ops w) ∨ ∃ f fcap r, SN W g room off armed ops f fcap r xs w
section
variable {W : Bs} {g : Nat} {room armed ops : Int} {off : Bool} {xs : List Fil} {w w' : World}
theorem SA.below (h : SA W g room off armed ops xs w) : W.grownBy w (some g) := by
 rcases h with ⟨-, h⟩ | ⟨f, fcap, r, h⟩ <;> exact h.below
theorem SA.next (h : SA W g room off armed ops xs w) (hb : Below w.heap.size w w') : SA W g room off armed ops xs w' := by
 rcases h with ⟨e, h⟩ | ⟨f, fcap, r, h⟩
 ·exact .inl ⟨e, h.next hb⟩
 ·exact .inr ⟨f, fcap, r, h.next hb⟩
theorem SA.g0 (h : SA W g room off armed ops xs w) : w.cell? ⟨g, 0, none⟩ = some (.int .i64 room) := by
 rcases h with ⟨e, h⟩ | ⟨f, fcap, r, h⟩ <;> exact h.g0
theorem SA.g2 (h : SA W g room off armed ops xs w) : w.cell? ⟨g, 2, none⟩ = some (.bool off) := by
 rcases h with ⟨e, h⟩ | ⟨f, fcap, r, h⟩ <;> exact h.g2
theorem SA.g3 (h : SA W g room off armed ops xs w) : w.cell? ⟨g, 3, none⟩ = some (.int .i64 armed) := by
 rcases h with ⟨e, h⟩ | ⟨f, fcap, r, h⟩ <;> exact h.g3
theorem SA.g4 (h : SA W g room off armed ops xs w) : w.cell? ⟨g, 4, none⟩ = some (.int .i64 ops) := by
 rcases h with ⟨e, h⟩ | ⟨f, fcap, r, h⟩ <;> exact h.g4
theorem SA.lt (h : SA W g room off armed ops xs w) : g < w.heap.size := by
 rcases h with ⟨e, h⟩ | ⟨f, fcap, r, h⟩ <;> exact (Array.getElem?_eq_some_iff.1 h.st).1
theorem find_A (t : ByteArray) (hn : xs.length ≤ 1000) (lo : Nat) (hlo : Hid (Place xs t lo)) (w : World) (hs : Hid (SA W g room off armed ops xs w)) :
  Calls Tryz.prog 25 #[.pointer (some ⟨g, 0, none⟩), .string t] w fun e w' => e = .returned (.tuple #[.int .i64 lo, .bool (isAt xs t lo)]) ∧ Below w.heap.size w w' := by
 rcases hs.out with ⟨rfl, h⟩ | ⟨f, fcap, r, h⟩
 ·refine (find_nil g none 0 t w h.g1).mono ?_
  rintro e w' ⟨rfl, rfl⟩
  have h0 : lo = 0 := by have := hlo.out.1; simp at this; exact this
  subst h0
  exact ⟨rfl, Below.refl _ _⟩
 ·exact find_any g f fcap xs t xs.length (Lib.hid rfl) hn lo hlo w h.g1 (Lib.hid h.files)
set_option maxHeartbeats 4000000 in
theorem place_A (t : ByteArray) (hn : xs.length ≤ 1000) (lo : Nat) (hlo : Hid (Place xs t lo)) (w : World) (hs : Hid (SA W g room off armed ops xs w)) :
  Calls Tryz.prog 50 #[.pointer (some ⟨g, 0, none⟩), .string t] w fun e w' => e = .returned (placeAt (formK t) off (isAt xs t lo) lo) ∧ Below w.heap.size w w' := by
 have hb := (Below.refl w.heap.size w).alloc (Nat.le_refl _) (.cells #[.string t] 9)
 have h' := hs.out.next hb
 have HR := Lib.hid (refuses_any1 g w.heap.size t off (w.alloc (.cells #[.string t] 9)) (by simp [World.cell?_alloc_new]) h'.g2)
 have HN := Lib.hid (find_A t hn lo hlo _ (Lib.hid h'))
 have HB := Lib.hid hb
 clear hb h' hlo hn hs
 generalize formK t = a at *
 generalize isAt xs t lo = b at *
 cases a <;> cases off <;> cases b
 all_goals
  go_enter Tryz.func50, Tryz.ntmps50
  go_wp2_with (first
   | (go_at_call 24; refine HR.out.mono ?_; rintro e w1 ⟨rfl, rfl⟩)
   | (go_at_call 25; refine HN.out.mono ?_; rintro e w2 ⟨rfl, hb⟩; have HB2 := Lib.hid hb; clear hb))
  go_ret2
  first
   | exact ⟨rfl, HB.out⟩
   | exact ⟨rfl, below_to HB.out HB2.out⟩
theorem used_A (hn : xs.length ≤ 1000) (hsum : sumN xs ≤ 1000000000) (w : World) (hs : Hid (SA W g room off armed ops xs w)) :
  Calls Tryz.prog 18 #[.pointer (some ⟨g, 0, none⟩)] w fun e w' => e = .returned (.int .i64 (sumN xs : Nat)) ∧ Below w.heap.size w w' := by
 rcases hs.out with ⟨rfl, h⟩ | ⟨f, fcap, r, h⟩
 ·refine (used_0 g none 0 w h.g1).mono ?_
  rintro e w' ⟨rfl, rfl⟩
  exact ⟨rfl, Below.refl _ _⟩
 ·exact used_any g f fcap xs xs.length (Lib.hid rfl) hn hsum w h.g1 (Lib.hid h.files)
def AppRel (xs : List Fil) (t : ByteArray) (m : List Nat) (ys : List Fil) : Prop :=
 (∃ lo x A' cap', There xs t lo x ∧ ys = xs.set lo { x with A := A', cap := cap', l := x.l ++ m }) ∨
 (∃ lo A' cap', Place xs t lo ∧ isAt xs t lo = false ∧ ys = ins xs lo ⟨t, A', cap', m, 0⟩)
theorem append_A {t : ByteArray} {e armed' : Int} {off' : Bool} (hts : t.size ≤ 281474976710656) (hform : formK t = true) (hr : Rises xs) (hn : xs.length < 500) (w : World) (hs : Hid (SA W g room false armed ops xs w)) (ho : Hid (Op1 armed e armed' off')) (h : Hid (0 ≤ ops ∧ ops < 1000000000)) (ha : Hid (armed < 1000000000))
  (p : Option Addr) (n c : Nat) (m : List Nat) (hm : Hid (n = m.length)) (hp : Hid (ByAt w p m)) (hpf : Hid (∀ f n c, w.cell? ⟨g, 1, none⟩ = some (.slice (some ⟨f, 0, none⟩) n c) → ∀ (k x : Nat), m[k]? = some x → p.map (·.block) ≠ some f)) (hroom : room ≤ 16777216) (hfit : (n : Int) ≤ room - (sumN xs : Nat)) (hr0 : 0 ≤ room) :
  Calls Tryz.prog 12 #[.pointer (some ⟨g, 0, none⟩), .string t, .slice p n c] w fun z w' => z = .returned (.int .i64 e) ∧ ∃ ys, AppRel xs t m ys ∧ SA W g room off' armed' (ops + 1) ys w' := by
 have hpl := hr.place t
 rcases hs.out with ⟨rfl, h0⟩ | ⟨f, fcap, r, hN⟩
 ·refine (append_first hts hform w (Lib.hid h0) ho h ha p n c m hm hp hroom (by simp [sumN] at hfit; exact hfit)).mono ?_
  rintro z w' ⟨rfl, f', fcap', r', A', cap', h⟩
  exact ⟨rfl, _, .inr ⟨0, A', cap', ⟨Nat.zero_le _, fun k x hk => by omega, fun k x _ hx => by simp at hx⟩, rfl, rfl⟩, .inr ⟨f', fcap', r', h⟩⟩
 ·rcases hb : isAt xs t (placeOf xs t) with _ | _
  ·refine (append_ins hts hform (Lib.hid hpl) (Lib.hid hb) hpl.1 hn (by omega) w (Lib.hid hN) ho h ha p n c m hm hp (Lib.hid (hpf.out f _ _ hN.g1)) hroom hfit hr0).mono ?_
   rintro z w' ⟨rfl, f', fcap', r', A', cap', h⟩
   exact ⟨rfl, _, .inr ⟨_, A', cap', hpl, hb, rfl⟩, .inr ⟨f', fcap', r', h⟩⟩
  ·obtain ⟨x, hx, hc⟩ := isAt_yes hb
   have hT : There xs t (placeOf xs t) x := ⟨by omega, hform, hpl, hx, hc⟩
   have hxl : x.l.length ≤ sumN xs := by
    have h1 := sumN_take xs _ x hx; have h2 := sumN_le xs (placeOf xs t + 1); omega
   refine (append_yes (by omega) (by omega) w (Lib.hid hN) (Lib.hid hT) ho h ha p n c m hm hp hroom hfit hr0 (by omega)).mono ?_
   rintro z w' ⟨rfl, A', cap', h⟩
   exact ⟨rfl, _, .inl ⟨_, x, A', cap', hT, rfl⟩, .inr ⟨f, fcap, r, h⟩⟩
theorem delete_A {t : ByteArray} {armed' : Int} (hn : xs.length ≤ 1000) (lo : Nat) (x : Fil) (w : World) (hs : Hid (SA W g room false armed ops xs w)) (ht : Hid (There xs t lo x)) (ho : Hid (Op1 armed 0 armed' false)) (h : Hid (0 ≤ ops ∧ ops < 1000000000)) (ha : Hid (armed < 1000000000)) :
  Calls Tryz.prog 36 #[.pointer (some ⟨g, 0, none⟩), .string t] w fun e w' => e = .returned (.int .i64 0) ∧ SA W g room false armed' (ops + 1) (xs.eraseIdx lo) w' := by
 rcases hs.out with ⟨rfl, h0⟩ | ⟨f, fcap, r, hN⟩
 ·have := ht.out.get; simp at this
 ·refine (delete_yes hn w (Lib.hid hN) ht ho h ha).mono ?_
  rintro e w' ⟨rfl, r', h⟩
  exact ⟨rfl, .inr ⟨f, fcap, r', h⟩⟩
end
def IntsOf (w : World) (p : Option Addr) (l : List Int) : Prop := ∀ (k : Nat) (v : Int), l[k]? = some v → ∃ b off, p = some ⟨b, off, none⟩ ∧ b < w.heap.size ∧ w.cell? ⟨b, off + k, none⟩ = some (.int .i64 v)
theorem IntsOf.keep {w w' : World} {p : Option Addr} {l : List Int} (h : IntsOf w p l) (hb : ∀ b, p.map (·.block) = some b → b < w.heap.size → w'.heap[b]? = w.heap[b]?) (hz : w.heap.size ≤ w'.heap.size) : IntsOf w' p l := fun k v hv => by
 obtain ⟨b, off, rfl, hl, hc⟩ := h k v hv
 refine ⟨b, off, rfl, Nat.lt_of_lt_of_le hl hz, ?_⟩
 rw [← hc]; unfold World.cell?; simp only; rw [hb b rfl hl]
section
variable {W : Bs} {g f fcap : Nat} {room armed ops : Int} {off : Bool} {r : List Value} {xs : List Fil} {w w' : World}
end
theorem fill_step {α : Type} (l : List α) (n k : Nat) (z x : α) (hl : l.length = n) (hk : k < n) (hx : l[k]? = some x) : (l.take k ++ List.replicate (n - k) z).set k x = l.take (k + 1) ++ List.replicate (n - (k + 1)) z := by
 obtain ⟨d, hd⟩ : ∃ d, n - k = d + 1 := ⟨n - k - 1, by omega⟩
 have ht : (l.take k).length = k := by rw [List.length_take]; omega
 rw [hd, List.replicate_succ, List.set_append_right _ _ (by omega), ht, Nat.sub_self, List.set_cons_zero, List.take_add_one, hx, show n - (k + 1) = d by omega, List.append_assoc]; rfl
def StrsAt (w : World) (p : Option Addr) (l : List ByteArray) : Prop := ∀ (k : Nat) (s : ByteArray), l[k]? = some s → ∃ b off, p = some ⟨b, off, none⟩ ∧ b < w.heap.size ∧ w.cell? ⟨b, off + k, none⟩ = some (.string s)
theorem infoStrF : (Tryz.prog.info? 9).map (fun i => (i.zero, i.size, i.bytes)) = some (some (.string ByteArray.empty), 1, 16) := by kernel_rfl
section
variable {W : Bs} {g f fcap : Nat} {room armed ops : Int} {off : Bool} {r : List Value} {xs : List Fil} {w w' : World}
set_option maxHeartbeats 4000000 in
theorem list_any (n : Nat) (hn : Hid (n = xs.length)) (hn1 : n ≤ 1000) (w : World) (hs : Hid (SN W g room off armed ops f fcap r xs w)) :
  Calls Tryz.prog 17 #[.pointer (some ⟨g, 0, none⟩)] w fun e w' => ∃ b, e = .returned (.slice (some ⟨b, 0, none⟩) n n) ∧ StrsAt w' (some ⟨b, 0, none⟩) (xs.map (·.name)) ∧ b < w'.heap.size ∧ w.heap.size ≤ b ∧ (∃ cur, w'.heap[b]? = some (.cells cur 9 (0, 0))) ∧ Below w.heap.size w w' := by
 obtain ⟨i0, hi, hz0, hz1, hz2⟩ := info_parts infoStrF
 have hz2' : i0.bytes * n ≤ 281474976710656 := by rw [hz2]; omega
 have hnm : n ≤ maxLen := by unfold maxLen; omega
 have g1 := hs.out.g1
 rw [← hn.out] at g1
 obtain ⟨L, hL⟩ : ∃ L : List Value, L = xs.map (fun x => .string x.name) := ⟨_, rfl⟩
 have HLL : Hid (L.length = n) := Lib.hid (by rw [hL, List.length_map]; exact hn.out.symm)
 have HLX : Hid (∀ (k : Nat) (x : Fil), xs[k]? = some x → L[k]? = some (.string x.name)) := Lib.hid fun k x hx => by rw [hL, List.getElem?_map, hx]; rfl
 obtain ⟨b, hb⟩ : ∃ b, b = w.heap.size := ⟨_, rfl⟩
 have HB := Lib.hid hb
 clear hb
 go_enter Tryz.func17, Tryz.ntmps17
 go_upto_region 4 with (refine wpList_make_full _ rfl (.tmp 12) (.tmp 12) 37 rfl w.heap.size 9 i0 (.string ByteArray.empty) 1 Tryz.underlying37 hi hz0 hz1 .i64 .i64 _ _ n rfl rfl rfl rfl hz2' hnm (Nat.le_refl _) ?_; intro w1 own hgr; rw [← HB.out] at own ⊢; have HO := Lib.hid own; have HG := Lib.hid hgr; clear own hgr)
 have HB1 : Hid (Below w.heap.size w w1) := Lib.hid ((Below.refl _ w).grown HG.out (Nat.le_refl _) (by intro k hk; cases hk))
 have HS1 := Lib.hid (hs.out.next HB1.out)
 have HO1 : Hid (w1.ownsRow w.heap.size 9 1 (.slice (some ⟨b, 0, none⟩) n n) n (L.take 0 ++ List.replicate (n - 0) (.string ByteArray.empty))) := Lib.hid (by
  have h := HO.out
  rw [Nat.mul_one, show (Value.string ByteArray.empty).cells = #[.string ByteArray.empty] from rfl, toList_madeCells_one] at h
  rw [List.take_zero, List.nil_append, Nat.sub_zero, HB.out]; rw [HB.out] at h; exact h)
 have c1 := HS1.out.g1
 rw [← hn.out] at c1
 clear HO g1 HG
 go_wp2
 clear c1
 go_loopw [19] (fun i wr => ∃ k : Nat, k ≤ n ∧ i = .int .i64 k ∧ wr.ownsRow w.heap.size 9 1 (.slice (some ⟨b, 0, none⟩) n n) n (L.take k ++ List.replicate (n - k) (.string ByteArray.empty)) ∧ Below w.heap.size w wr) (fun i _ => n - (intOf i).toNat)
 case atStart => exact ⟨0, Nat.zero_le _, rfl, HO1.out, HB1.out⟩
 case round =>
  obtain ⟨k, hk, rfl, hown, hbl⟩ := hrel
  have HOW := Lib.hid hown
  have HBL := Lib.hid hbl
  clear hown hbl HO1 HB1 HS1
  by_cases hkn : k < n
  ·have hkl : k < xs.length := by have := hn.out; omega
   obtain ⟨x, hxe⟩ : ∃ x, xs[k]? = some x := ⟨xs[k], List.getElem?_eq_getElem hkl⟩
   have HX := Lib.hid hxe
   obtain ⟨c0, c1, c2, c3⟩ := (hs.out.next HBL.out).files k x hxe
   have HOW2 := Lib.hid (HOW.out.alloc (.cells #[.string x.name, .slice x.A x.l.length x.cap, .int .i64 (x.du : Nat)] 64))
   have hcb : ∃ v, (wr.alloc (.cells #[.string x.name, .slice x.A x.l.length x.cap, .int .i64 (x.du : Nat)] 64)).cell? ⟨b, k, none⟩ = some v := by
    rw [HOW2.out.cellAt k (by omega)]
    have h1 := HOW.out.1
    exact ⟨_, List.getElem?_eq_getElem (by omega)⟩
   obtain ⟨v, hv⟩ := hcb
   have hfb := HOW2.out.frozenAt k
   have HF := Lib.hid (fill_step L n k (.string ByteArray.empty) (.string x.name) HLL.out hkn (HLX.out k x hxe))
   have HST := Lib.hid (HOW2.out.stored k (.string x.name))
   have HBS : Hid (b = w.heap.size) := HB
   clear hxe
   go_wp2
   go_roundw
   case rel => exact ⟨k + 1, by omega, by go_num, by rw [← HF.out]; exact HST.out.1, ((HBL.out.alloc (by have := HBL.out.size; omega) _).setCell (by rw [HBS.out]; exact Nat.le_refl _) _)⟩
   case measure => simp [intOf]; omega
  ·have hkn' : k = n := by omega
   subst hkn'
   go_wp2
   go_ret
   have hrow : ∃ cur, wr.heap[b]? = some (.cells cur 9 (0, 0)) := by
    rcases HOW.out.2 with ⟨h', _⟩ | ⟨g', cap', cur, h', _, hg, _⟩
    ·cases h'
    ·cases h'; exact ⟨cur, hg⟩
   obtain ⟨cur, hrow⟩ := hrow
   have hbs := (Array.getElem?_eq_some_iff.1 hrow).1
   refine ⟨b, rfl, fun j s hj => ⟨b, 0, rfl, hbs, ?_⟩, hbs, by rw [HB.out]; exact Nat.le_refl _, ⟨cur, hrow⟩, HBL.out⟩
   have hjl := (List.getElem?_eq_some_iff.1 hj).1
   rw [List.length_map, ← hn.out] at hjl
   rw [Nat.zero_add, HOW.out.cellAt j (by omega), Nat.sub_self, List.replicate_zero, List.append_nil, List.take_of_length_le (by rw [HLL.out]; exact Nat.le_refl _)]
   rw [List.getElem?_map] at hj
   rcases hx : xs[j]? with _ | x
   ·rw [hx] at hj; cases hj
   ·rw [hx] at hj; injection hj with hj; rw [HLX.out j x hx, ← hj]
set_option maxHeartbeats 4000000 in
theorem list_none (w : World) (hs : Hid (S0 W g room off armed ops w)) :
  Calls Tryz.prog 17 #[.pointer (some ⟨g, 0, none⟩)] w fun e w' => ∃ b, e = .returned (.slice (some ⟨b, 0, none⟩) 0 0) ∧ (∃ cur, w'.heap[b]? = some (.cells cur 9 (0, 0))) ∧ Below w.heap.size w w' := by
 have hmk : ∀ w : World, (Instr.makeSlice 37 (.int .i64 0) (.int .i64 0)).run Tryz.prog w = .ok (.slice (some ⟨w.heap.size, 0, none⟩) 0 0) (w.alloc (.cells #[] 9)) := fun _ => by kernel_rfl
 have hb := (Below.refl w.heap.size w).alloc (Nat.le_refl _) (.cells #[] 9)
 have hs1 := hs.out.next hb
 have g0 := hs.out.g1
 have g1 := hs1.g1
 clear hs1 hb
 go_enter Tryz.func17, Tryz.ntmps17
 go_wp2
 refine wp_loop_rounds 1 ?_
 rw [rounds_succ]
 go_wp2
 go_ret
 exact ⟨_, rfl, ⟨_, heap_alloc_new' _ _⟩, (Below.refl w.heap.size w).alloc (Nat.le_refl _) _⟩
theorem list_A (hn : xs.length ≤ 1000) (w : World) (hs : Hid (SA W g room off armed ops xs w)) :
  Calls Tryz.prog 17 #[.pointer (some ⟨g, 0, none⟩)] w fun e w' => ∃ b, e = .returned (.slice (some ⟨b, 0, none⟩) xs.length xs.length) ∧ StrsAt w' (some ⟨b, 0, none⟩) (xs.map (·.name)) ∧ (∃ cur, w'.heap[b]? = some (.cells cur 9 (0, 0))) ∧ Below w.heap.size w w' := by
 rcases hs.out with ⟨rfl, h⟩ | ⟨f, fcap, r, h⟩
 ·refine (list_none w (Lib.hid h)).mono ?_
  rintro e w' ⟨b, rfl, hr, hb⟩
  exact ⟨b, rfl, fun k s hk => by simp at hk, hr, hb⟩
 ·refine (list_any xs.length (Lib.hid rfl) hn w (Lib.hid h)).mono ?_
  rintro e w' ⟨b, rfl, h1, -, -, hr, hb⟩
  exact ⟨b, rfl, h1, hr, hb⟩
theorem read_A {t : ByteArray} {lo : Nat} {x : Fil} (hn : xs.length ≤ 1000) (w : World) (hl : x.l.length ≤ 100000000) (hs : Hid (SA W g room false armed ops xs w)) (ht : Hid (There xs t lo x)) :
  Calls Tryz.prog 61 #[.pointer (some ⟨g, 0, none⟩), .string t] w fun e w' => ∃ B c, e = .returned (.tuple #[.slice B x.l.length c, .int .i64 0]) ∧ OwnS w' w.heap.size B x.l.length c x.l ∧ Below w.heap.size w w' := by
 rcases hs.out with ⟨rfl, h0⟩ | ⟨f, fcap, r, hN⟩
 ·have := ht.out.get; simp at this
 ·exact read_yes hn w hl (Lib.hid hN) ht
end
section
variable {W : Bs} {g : Nat} {room armed ops : Int} {xs : List Fil} {w w' : World}
theorem SA.drew {off : Bool} (h : SA W g room off armed ops xs w) : SA W g room off armed ops xs w.drew := h.next (Below.refl _ _).drew
set_option maxHeartbeats 4000000 in
theorem append_full {t : ByteArray} (hts : t.size ≤ 281474976710656) (hform : formK t = true) (hn : xs.length ≤ 1000) (hs0 : sumN xs ≤ 16777216) (lo : Nat) (hlo : Hid (Place xs t lo)) (w : World) (hs : Hid (SA W g room false armed ops xs w))
  (p : Option Addr) (n c : Nat) (hroom : room ≤ 16777216) (hfit : room - (sumN xs : Nat) < (n : Int)) (hr0 : 0 ≤ room) :
  Calls Tryz.prog 12 #[.pointer (some ⟨g, 0, none⟩), .string t, .slice p n c] w fun z w' => z = .returned (.int .i64 10) ∧ Below w.heap.size w w' := by
 have hb := (Below.refl w.heap.size w).alloc (Nat.le_refl _) (.cells #[.string t] 9)
 have h' := hs.out.next hb
 have hR := refuses_any1 g w.heap.size t false (w.alloc (.cells #[.string t] 9)) (by simp [World.cell?_alloc_new]) h'.g2
 rw [hform] at hR
 change Calls _ _ _ _ (fun e w' => e = .returned (.int .i64 0) ∧ _) at hR
 have H := Lib.hid hR
 have HF := Lib.hid (find_A t hn lo hlo _ (Lib.hid h'))
 have HB0 := Lib.hid hb
 have HS := Lib.hid h'
 have HU : Hid (∀ w, Hid (SA W g room false armed ops xs w) → Calls Tryz.prog 18 #[.pointer (some ⟨g, 0, none⟩)] w fun e w' => e = .returned (.int .i64 (sumN xs : Nat)) ∧ Below w.heap.size w w') := Lib.hid fun w hs => used_A hn (by omega) w hs
 clear h' hb hs hR hlo
 generalize isAt xs t lo = bb at *
 generalize sumN xs = S at *
 have hwr : IntKind.i64.wrap (room - (S : Int)) = room - (S : Int) := IntWalk.i64_in _ (by omega)
 have hdec : decide (room - (S : Int) < (n : Int)) = true := by simp; omega
 go_enter Tryz.func12, Tryz.ntmps12
 go_upto_region 5 with (first
  | (go_at_call 24; refine H.out.mono ?_; rintro e w' ⟨rfl, rfl⟩)
  | (go_at_call 25; refine HF.out.mono ?_; rintro e w1 ⟨rfl, hb⟩; have HS1 := Lib.hid (HS.out.next hb); have HB1 := Lib.hid (below_to HB0.out hb); clear hb))
 have HB3 := Lib.hid (HB1.out.drew)
 have HS2 := Lib.hid HS1.out.drew
 clear HS HS1 HB0 HB1 H HF
 refine wp_region_held_drew (S := SA W g room false armed ops xs) (by kernel_rfl) HS2.out (fun hHeld => ?_)
 refine tkm 0 (.slice p n c) rfl hHeld ?_
 try simp only [qz]
 refine tks 1 (.int .i64 (n : Nat)) rfl hHeld ?_
 try simp only [qz]
 refine tkm 2 (.pointer (some ⟨g, 0, none⟩)) rfl hHeld ?_
 try simp only [qz]
 refine tks 3 (.pointer (some ⟨g, 0, none⟩)) rfl hHeld ?_
 try simp only [qz]
 refine tks 4 (.pointer (some ⟨g, 0, none⟩)) rfl hHeld ?_
 try simp only [qz]
 refine tk 5 (.int .i64 room) rfl (yl rfl 3 (.tmp 27) rfl g 0 rfl _ lv_int (fun w hw => hw.g0)) hHeld ?_
 try simp only [qz]
 refine tkm 6 (.pointer (some ⟨g, 0, none⟩)) rfl hHeld ?_
 try simp only [qz]
 refine rd1 7 rfl (fun K hK => ?_)
 go_simp
 refine (HU.out _ (Lib.hid hHeld)).mono ?_
 rintro e w2 ⟨rfl, hb⟩
 replace hHeld := hHeld.next hb
 have HB2 := Lib.hid hb
 clear hb
 refine hK.out _ _ hHeld (fun hHeld => ?_)
 clear hK K
 try simp only [qz]
 refine rd1 8 rfl (fun K hK => ?_)
 go_simp
 refine hK.out _ _ hHeld (fun hHeld => ?_)
 clear hK K
 try simp only [qz]
 refine rd1 9 rfl (fun K hK => ?_)
 go_simp
 refine hK.out _ _ hHeld (fun hHeld => ?_)
 clear hK K
 try simp only [qz]
 refine rd1 10 rfl (fun K hK => ?_)
 go_simp
 refine hK.out _ _ hHeld (fun hHeld => ?_)
 clear hK K
 try simp only [qz]
 refine tk 11 undef rfl (Or.inr ⟨by rfl, rfl⟩) hHeld ?_
 try simp only [qz]
 refine tk 12 undef rfl (Or.inr ⟨by rfl, rfl⟩) hHeld ?_
 try simp only [qz]
 refine tk 13 undef rfl (Or.inr ⟨by rfl, rfl⟩) hHeld ?_
 try simp only [qz]
 refine tk 14 undef rfl (Or.inr ⟨by rfl, rfl⟩) hHeld ?_
 try simp only [qz]
 refine tk 15 undef rfl (Or.inr ⟨by rfl, rfl⟩) hHeld ?_
 try simp only [qz]
 refine tk 16 undef rfl (Or.inr ⟨by rfl, rfl⟩) hHeld ?_
 try simp only [qz]
 refine tk 17 undef rfl (Or.inr ⟨by rfl, rfl⟩) hHeld ?_
 try simp only [qz]
 refine tk 18 undef rfl (Or.inr ⟨by rfl, rfl⟩) hHeld ?_
 try simp only [qz]
 refine tk 19 undef rfl (Or.inr ⟨by rfl, rfl⟩) hHeld ?_
 try simp only [qz]
 refine tk 20 undef rfl (Or.inr ⟨by rfl, rfl⟩) hHeld ?_
 try simp only [qz]
 refine tkm 21 (.bool true) rfl hHeld ?_
 try simp only [qz]
 refine wpAnyH_done (by kernel_rfl) ?_ _
 go_wp2
 go_ret
 exact ⟨rfl, below_to HB3.out HB2.out⟩
end
def lenOf (xs : List Fil) (t : ByteArray) : Nat := sumN (xs.filter fun x => cmpKF x.name t == 0)
theorem lenOf_append (a b : List Fil) (t : ByteArray) : lenOf (a ++ b) t = lenOf a t + lenOf b t := by unfold lenOf; rw [List.filter_append, sumN_append]
theorem lenOf_cons (x : Fil) (r : List Fil) (t : ByteArray) : lenOf (x :: r) t = (if cmpKF x.name t = 0 then x.l.length else 0) + lenOf r t := by
 unfold lenOf; rw [List.filter_cons]
 by_cases h : cmpKF x.name t = 0 <;> simp [h, sumN]
theorem split_at {xs : List Fil} {k : Nat} {x : Fil} (h : xs[k]? = some x) : xs = xs.take k ++ x :: xs.drop (k + 1) := by
 obtain ⟨h1, h2⟩ := List.getElem?_eq_some_iff.1 h
 conv => lhs; rw [← List.take_append_drop k xs, List.drop_eq_getElem_cons h1, h2]
theorem set_at {xs : List Fil} {k : Nat} {x : Fil} (h : xs[k]? = some x) (y : Fil) : xs.set k y = xs.take k ++ y :: xs.drop (k + 1) := by
 rw [List.set_eq_take_append_cons_drop, if_pos (List.getElem?_eq_some_iff.1 h).1]
theorem erase_at (xs : List Fil) (k : Nat) : xs.eraseIdx k = xs.take k ++ xs.drop (k + 1) := List.eraseIdx_eq_take_drop_succ xs k
theorem AppRel.facts {t : ByteArray} {m : List Nat} {xs ys : List Fil} (hr : Rises xs) (h : AppRel xs t m ys) :
  Rises ys ∧ sumN ys = sumN xs + m.length ∧ (∀ u, lenOf ys u = lenOf xs u + if cmpKF t u = 0 then m.length else 0) ∧ ys.length ≤ xs.length + 1 ∧ ∃ (lo : Nat) (x : Fil), ys[lo]? = some x ∧ x.name = t := by
 rcases h with ⟨lo, x, A', cap', hT, rfl⟩ | ⟨lo, A', cap', hp, hno, rfl⟩
 ·have hx := hT.get
  have hnm : x.name = t := ck_eq hT.eq
  refine ⟨hr.set lo x _ hx rfl, ?_, fun u => ?_, by simp, lo, { x with A := A', cap := cap', l := x.l ++ m }, by rw [List.getElem?_set_self (List.getElem?_eq_some_iff.1 hx).1], hnm⟩
  ·rw [set_at hx]; conv => rhs; rw [split_at hx]
   simp only [sumN_append, sumN, List.length_append]; omega
  ·rw [set_at hx]; conv => rhs; rw [split_at hx]
   simp only [lenOf_append, lenOf_cons, List.length_append, hnm]
   split <;> omega
 ·refine ⟨hr.ins hp hno _ rfl, by rw [sumN_ins], fun u => ?_, by rw [ins_len]; exact Nat.le_refl _, lo, _, ins_at hp.1 _, rfl⟩
  unfold ins
  conv => rhs; rw [← List.take_append_drop lo xs]
  simp only [lenOf_append, lenOf_cons]
  split <;> omega
theorem Rises.name_one {xs : List Fil} (hr : Rises xs) {j k : Nat} {x y : Fil} (hx : xs[j]? = some x) (hy : xs[k]? = some y) (h : cmpKF x.name y.name = 0) : j = k := by
 rcases Nat.lt_trichotomy j k with h1 | h1 | h1
 ·have := hr j k x y h1 hx hy; omega
 ·exact h1
 ·have := hr k j y x h1 hy hx; rw [ck_neg] at this; omega
theorem lenOf_zero (xs : List Fil) (t : ByteArray) (h : ∀ (k : Nat) (x : Fil), xs[k]? = some x → cmpKF x.name t ≠ 0) : lenOf xs t = 0 := by
 induction xs with
 | nil => rfl
 | cons x r ih => rw [lenOf_cons, if_neg (h 0 x rfl), ih (fun k y hy => h (k + 1) y hy)]
theorem erase_facts {xs : List Fil} (hr : Rises xs) {lo : Nat} {x : Fil} {t : ByteArray} (hT : There xs t lo x) :
  Rises (xs.eraseIdx lo) ∧ sumN xs = sumN (xs.eraseIdx lo) + lenOf xs t ∧ lenOf (xs.eraseIdx lo) t = 0 ∧ (∀ u, cmpKF t u ≠ 0 → lenOf (xs.eraseIdx lo) u = lenOf xs u) ∧ (xs.eraseIdx lo).length ≤ xs.length := by
 have hx := hT.get
 have hnm : x.name = t := ck_eq hT.eq
 have hz : lenOf (xs.eraseIdx lo) t = 0 := lenOf_zero _ _ fun k y hy => fun e => by
  have h1 := erase_from hy
  have h2 := hr.name_one h1 hx (by rw [hnm]; exact e)
  split at h2 <;> omega
 have hs : lenOf xs t = lenOf (xs.eraseIdx lo) t + x.l.length := by
  rw [erase_at]; conv => lhs; rw [split_at hx]
  simp only [lenOf_append, lenOf_cons, hnm, ck_self, if_true]; omega
 refine ⟨hr.erase lo, ?_, hz, fun u hu => ?_, by rw [List.length_eraseIdx]; split <;> omega⟩
 ·rw [hs, hz, erase_at]; conv => lhs; rw [split_at hx]
  simp only [sumN_append, sumN]; omega
 ·rw [erase_at]; conv => rhs; rw [split_at hx]
  simp only [lenOf_append, lenOf_cons, hnm, if_neg hu]; omega
theorem Rises.there {xs : List Fil} (hr : Rises xs) {k : Nat} {x : Fil} {t : ByteArray} (hx : xs[k]? = some x) (e : x.name = t) (hs : t.size ≤ 4611686018427387904) (hf : formK t = true) : There xs t k x := by
 subst e
 refine ⟨hs, hf, ⟨by have := (List.getElem?_eq_some_iff.1 hx).1; omega, fun j y hj hy => hr j k y x hj hy hx, fun j y hj hy hn => ?_⟩, hx, ck_self _⟩
 rcases Nat.lt_or_ge k j with h1 | h1
 ·have h2 := hr k j x y h1 hx hy; rw [ck_neg] at hn; omega
 ·have : j = k := by omega
  subst this
  rw [hy] at hx; injection hx with hx; rw [hx, ck_self] at hn; omega
end Go.Proofs.YtjldamkmdkaiiaaGreatDoor
