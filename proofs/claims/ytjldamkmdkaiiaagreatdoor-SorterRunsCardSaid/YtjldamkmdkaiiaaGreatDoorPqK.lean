/-
  The tables that the sorter's cards list: what their condition gives the walks.
-/
import Derived.Test.YtjldamkmdkaiiaaGreatDoorIiK
import Derived.Test.YtjldamkmdkaiiaaGreatDoorOeK
import Derived.Test.YtjldamkmdkaiiaaGreatDoorMsK
import Derived.Lib.LaidTab
import Derived.Lib.ItoaNum
import Derived.Test.YtjldamkmdkaiiaaGreatDoorTie
import Derived.Test.YtjldamkmdkaiiaaGreatDoorCards
import Derived.ProofKit
import Derived.Laws.Cover2
import Derived.WideKeyArgs
import Derived.Carry
import Derived.Deep.Slices
import Derived.LaidMore
import Derived.OpenShut
import Derived.Stop.Joined
import Derived.SevenTiedAt
import Derived.SizedLaws
import Derived.Test.YtjldamkmdkaiiaaGreatDoorGlK
import Derived.Stop.LaidErr
import Derived.Test.YtjldamkmdkaiiaaGreatDoorEfK
set_option linter.unusedSimpArgs false
set_option linter.unusedVariables false
set_option maxRecDepth 8000
namespace Go.Proofs.YtjldamkmdkaiiaaGreatDoor
open Go.RowKit Go.WideShapes Col
section
variable {W : Bs} {g f fcap : Nat} {room armed ops : Int} {off : Bool} {r : List Value} {xs : List Fil} {w w' : World}
theorem SN.seen (h : SN W g room off armed ops f fcap r xs w) (v : World) (hv : KF v w) : SN ⟨W.b, v⟩ g room off armed ops f fcap r xs w :=
 ⟨gb_seen h.below v hv, h.fbase, h.ne, h.st, h.fl, h.fc, h.own, h.sg, h.sf, h.ap⟩
theorem SA.seen (h : SA W g room off armed ops xs w) (v : World) (hv : KF v w) : SA ⟨W.b, v⟩ g room off armed ops xs w := by
 rcases h with ⟨e, h⟩ | ⟨f, fcap, r, h⟩
 ·exact .inl ⟨e, h.seen v hv⟩
 ·exact .inr ⟨f, fcap, r, h.seen v hv⟩
theorem SA.kf (h : SA W g room off armed ops xs w) : KF W.v w := h.below.kf
theorem SA.now (h : SA W g room off armed ops xs w) : SA ⟨W.b, w⟩ g room off armed ops xs w := h.seen w (KF.refl w)
theorem SA.off_row (h : SA W g room off armed ops xs w) {B n cap : Nat} {A : Option Addr} {l : List Nat} (ho : OwnS w B A n cap l) :
  ∀ f n c, w.cell? ⟨g, 1, none⟩ = some (.slice (some ⟨f, 0, none⟩) n c) → ∀ (k x : Nat), l[k]? = some x → A.map (·.block) ≠ some f := by
 intro f n c hc k x hk hA
 rcases h with ⟨-, h⟩ | ⟨f', fcap, r, h⟩
 ·rw [h.g1] at hc; cases hc
 ·rw [h.g1] at hc
  injection hc with hc; injection hc with e1 e2 e3
  injection e1 with e1; injection e1 with e1 _ _
  subst e1
  rcases ho.1.2 with ⟨h1, _⟩ | ⟨a, cap', cur, h1, hb, hrow, -⟩
  ·injection h1 with e1 e2 e3; rw [e1] at hA; cases hA
  ·injection h1 with e1 e2 e3
   rw [e1] at hA; simp at hA; subst hA
   have h2 := hrow.symm.trans h.fl
   injection h2 with h2; injection h2 with _ h2 _
   exact absurd h2 (by decide)
theorem append_K {t : ByteArray} {e armed' : Int} {off' : Bool} (hts : t.size ≤ 281474976710656) (hform : formK t = true) (hr : Rises xs) (hn : xs.length < 500) (w : World) (hs : Hid (SA W g room false armed ops xs w)) (ho : Hid (Op1 armed e armed' off')) (h : Hid (0 ≤ ops ∧ ops < 1000000000)) (ha : Hid (armed < 1000000000))
  (B : Nat) (p : Option Addr) (n c : Nat) (m : List Nat) (hp : Hid (OwnS w B p n c m)) (hroom : room ≤ 16777216) (hfit : (n : Int) ≤ room - (sumN xs : Nat)) (hr0 : 0 ≤ room) :
  Calls Tryz.prog 12 #[.pointer (some ⟨g, 0, none⟩), .string t, .slice p n c] w fun z w' => z = .returned (.int .i64 e) ∧ KF w w' ∧ ∃ ys, AppRel xs t m ys ∧ SA W g room off' armed' (ops + 1) ys w' := by
 refine (append_A hts hform hr hn w (Lib.hid hs.out.now) ho h ha p n c m (Lib.hid hp.out.len) (Lib.hid hp.out.byAt) (Lib.hid (hs.out.off_row hp.out)) hroom hfit hr0).mono ?_
 rintro z w' ⟨rfl, ys, h1, h2⟩
 have hk : KF w w' := h2.kf
 exact ⟨rfl, hk, ys, h1, h2.seen W.v (hs.out.kf.trans hk)⟩
theorem delete_K {t : ByteArray} {armed' : Int} (hn : xs.length ≤ 1000) (lo : Nat) (x : Fil) (w : World) (hs : Hid (SA W g room false armed ops xs w)) (ht : Hid (There xs t lo x)) (ho : Hid (Op1 armed 0 armed' false)) (h : Hid (0 ≤ ops ∧ ops < 1000000000)) (ha : Hid (armed < 1000000000)) :
  Calls Tryz.prog 36 #[.pointer (some ⟨g, 0, none⟩), .string t] w fun e w' => e = .returned (.int .i64 0) ∧ KF w w' ∧ SA W g room false armed' (ops + 1) (xs.eraseIdx lo) w' := by
 refine (delete_A hn lo x w (Lib.hid hs.out.now) ht ho h ha).mono ?_
 rintro z w' ⟨rfl, h2⟩
 have hk : KF w w' := h2.kf
 exact ⟨rfl, hk, h2.seen W.v (hs.out.kf.trans hk)⟩
end
end Go.Proofs.YtjldamkmdkaiiaaGreatDoor
namespace Go.Proofs.YtjldamkmdkaiiaaGreatDoor
open Go.RowKit Go.Sort
theorem wpList_append_evG {w : World} {ops : Array Oper} {rest : List Oper} {o : Oper} {ac : Act} {Q : Exit → Act → World → Prop} (hgd : o.guard = none) (s x : Operand)
  (ho : o.op = .call { callee := .builtin .append, args := #[s, x], argTypes := #[22, 22] })
  (B : Nat) (A : Option Addr) (n cap : Nat) (l : List Ev) (hs : ac.eval s = .slice A n cap) (hown : OwnE w B A n cap l) (a : Option Addr) (m c : Nat) (l2 : List Ev) (hx : ac.eval x = .slice a m c) (hm : m = l2.length) (h2 : EvAt w a l2) (hnil : a = none → c = 0)
  (N : Nat) (hN : N = n + m) (hbytes : n + m ≤ 1000) (hbase : B ≤ w.heap.size)
  (h : ∀ A' cap' w', OwnE w' B A' N cap' (l ++ l2) → N ≤ cap' → cap' ≤ maxLen → (A' = none → cap' = 0) → Below B w w' → w.grownBy w' ((Value.slice A n cap).ownBlock) → (∀ k, A'.map (·.block) = some k → A.map (·.block) = some k ∨ w.heap.size ≤ k) → wpList Tryz.prog ops Q rest (ac.put o.dst (.slice A' N cap')) w') : wpList Tryz.prog ops Q (o :: rest) ac w := by
 subst hN
 obtain ⟨i0, hi, hz0, hz1, hz2⟩ := info_parts infoEv
 rcases a with _ | ad
 ·obtain rfl := hnil rfl
  have hl2 : l2 = [] := by
   rcases l2 with _ | ⟨x, r⟩
   ·rfl
   ·obtain ⟨g, off, e, -⟩ := h2 0 (.int .u64 (x.off : Int)) rfl; cases e
  subst hl2
  have h0 : m = 0 := hm
  subst h0
  obtain ⟨A1, c1, e1, e2, e3, e4⟩ := ro_slice hown
  injection e1 with b1 b2 b3
  subst b1; subst b3
  refine wpList_append_own_none hgd s x 22 ho B 51 i0 5 Tryz.underlying22 hi (.slice A n cap) n (evs l) hs hown hx ?_
  exact h A cap w (by rw [List.append_nil]; exact hown) e2 e3 e4 (Below.refl _ _) (World.grownBy.refl _ _) (fun k hk => .inl hk)
 ·refine wpList_append_own_at w hgd s x 22 ho B 51 i0 _ 5 48 Tryz.underlying22 hi hz0 hz1 hz2 rfl (by decide) (.slice A n cap) n (evs l) hs hown ad m c (evs l2) hx (by rw [evs_length, hm]) (fun j u hu => by
   obtain ⟨g', off', e, -, hc⟩ := h2 j u hu
   injection e with e; subst e
   rw [Addr.add_lit]; exact hc) (evs_one l2) (by unfold maxLen; omega) (by omega) hbase ?_
  intro v' w2 hown2 hgr _ h6
  have e : evs l ++ evs l2 = evs (l ++ l2) := by unfold evs; rw [List.flatMap_append]
  rw [e] at hown2
  obtain ⟨A1, c1, rfl, e2, e3, e4⟩ := ro_slice hown2
  refine h A1 c1 w2 hown2 e2 e3 e4 ((Below.refl _ w).grown hgr hbase (ro_base hown)) hgr (fun k hk => ?_)
  rcases A1 with _ | a1
  ·cases hk
  ·have hk : a1.block = k := by simpa using hk
   subst hk
   rcases h6 with h6 | h6
   ·left
    rcases A with _ | a
    ·cases h6
    ·have h6 : a1.block = a.block := by simpa [Value.ownBlock] using h6
     rw [h6]; rfl
   ·right
    have h6 : a1.block = w.heap.size := by simpa [Value.ownBlock] using h6
    omega
theorem SlOwn.base {w : World} {B : Nat} {s : Sl} (h : SlOwn w B s) : ∀ k, s.A.map (·.block) = some k → B ≤ k ∧ k < w.heap.size ∧ ∃ cur, w.heap[k]? = some (.cells cur 51 (0, 0)) := fun k hk => by
 rcases h.own.2 with ⟨e0, e1⟩ | ⟨g, cap', cur, e0, hb, hrow, -⟩
 ·injection e0 with a1; rw [a1] at hk; cases hk
 ·injection e0 with a1; rw [a1] at hk
  have hk : g = k := by simpa using hk
  subst hk; exact ⟨hb, (Array.getElem?_eq_some_iff.1 hrow).1, cur, hrow⟩
structure MRS (B : Nat) (w : World) (As : Option Addr) (i cs : Nat) (SS : List Sl) (F : Sl) : Prop where
 rw : OwnR w B As i cs SS
 ow : ∀ s ∈ SS, SlOwn w B s
 fl : SlOwn w B F
 ap : ∀ s ∈ SS, ∀ k, s.A.map (·.block) = some k → F.A.map (·.block) ≠ some k
section
variable {B i cs : Nat} {w w' : World} {As : Option Addr} {SS : List Sl} {F : Sl}
theorem MRS.below (h : MRS B w As i cs SS F) (hb : Below w.heap.size w w') : MRS B w' As i cs SS F :=
 ⟨h.rw.below hb, fun s hs => (h.ow s hs).below hb, h.fl.below hb, h.ap⟩
end
def AtRow (w : World) (g n : Nat) (f : Nat → Nat) : Prop := ∃ cs : Array Value, w.heap[g]? = some (.cells cs 3 (0, 0)) ∧ ∀ j, j < n → cs[j]? = some (.int .i64 (f j : Int))
theorem AtRow.cell {w : World} {g n : Nat} {f : Nat → Nat} (h : AtRow w g n f) {j : Nat} (hj : j < n) : w.cell? ⟨g, j, none⟩ = some (.int .i64 (f j : Int)) := by
 obtain ⟨cs, h1, h2⟩ := h; rw [cell_of_row _ _ _ _ _ _ h1]; exact h2 j hj
theorem AtRow.fr {w : World} {g n : Nat} {f : Nat → Nat} (h : AtRow w g n f) (j : Nat) : w.frozen? ⟨g, j, none⟩ = false := by
 obtain ⟨cs, h1, -⟩ := h; exact frozen_of_row _ _ _ _ _ h1
theorem AtRow.lt {w : World} {g n : Nat} {f : Nat → Nat} (h : AtRow w g n f) : g < w.heap.size := by
 obtain ⟨cs, h1, -⟩ := h; exact (Array.getElem?_eq_some_iff.1 h1).1
theorem AtRow.of {w w' : World} {g n : Nat} {f : Nat → Nat} (h : AtRow w g n f) (hk : w'.heap[g]? = w.heap[g]?) : AtRow w' g n f := by
 obtain ⟨cs, h1, h2⟩ := h; exact ⟨cs, hk.trans h1, h2⟩
theorem AtRow.set {w : World} {g n : Nat} {f : Nat → Nat} (h : AtRow w g n f) (j x : Nat) (hj : j < n) (y : Int) (hy : y = (x : Int)) : AtRow (w.setCell ⟨g, j, none⟩ (.int .i64 y)) g n (fun i => if i = j then x else f i) := by
 subst hy
 obtain ⟨cs, h1, h2⟩ := h
 refine ⟨cs.setIfInBounds j (.int .i64 (x : Int)), heap_setCell_same w g j cs _ _ h1, fun i hi => ?_⟩
 by_cases e : i = j
 ·subst e; show _ = some (Value.int .i64 ((if i = i then x else f i : Nat) : Int)); rw [if_pos rfl, Array.getElem?_setIfInBounds_self_of_lt (Array.getElem?_eq_some_iff.1 (h2 i hi)).1]
 ·show _ = some (Value.int .i64 ((if i = j then x else f i : Nat) : Int)); rw [if_neg e, Array.getElem?_setIfInBounds_ne (fun h => e h.symm)]; exact h2 i hi
def Lefts (Rs0 Rs : List (List Ev)) (n : Nat) (f : Nat → Nat) : Prop := ∀ j, j < n → ∃ l, Rs0[j]? = some l ∧ f j ≤ l.length ∧ Rs[j]? = some (l.drop (f j))
theorem Lefts.set {Rs0 Rs : List (List Ev)} {n : Nat} {f : Nat → Nat} (h : Lefts Rs0 Rs n f) (k : Nat) (hk : k < n) (x : Ev) (xs : List Ev) (hx : Rs[k]? = some (x :: xs)) :
  Lefts Rs0 (Rs.set k xs) n (fun i => if i = k then f k + 1 else f i) ∧ ∃ l, Rs0[k]? = some l ∧ f k < l.length ∧ l[f k]? = some x := by
 obtain ⟨l, h1, h2, h3⟩ := h k hk
 rw [hx] at h3
 injection h3 with h3
 have hlt : f k < l.length := by
  rcases Nat.lt_or_ge (f k) l.length with h4 | h4
  ·exact h4
  ·rw [List.drop_eq_nil_of_le h4] at h3; cases h3
 rw [List.drop_eq_getElem_cons hlt] at h3
 injection h3 with h5 h6
 refine ⟨fun j hj => ?_, l, h1, hlt, by rw [List.getElem?_eq_getElem hlt, h5]⟩
 by_cases e : j = k
 ·subst e
  refine ⟨l, h1, by show (if j = j then f j + 1 else f j) ≤ _; rw [if_pos rfl]; omega, ?_⟩
  show _ = some (l.drop (if j = j then f j + 1 else f j))
  rw [if_pos rfl, List.getElem?_set, if_pos rfl, if_pos (List.getElem?_eq_some_iff.1 hx).1, h6]
 ·obtain ⟨l2, g1, g2, g3⟩ := h j hj
  exact ⟨l2, g1, by show (if j = k then f k + 1 else f j) ≤ _; rw [if_neg e]; exact g2, by show _ = some (l2.drop (if j = k then f k + 1 else f j)); rw [if_neg e, List.getElem?_set, if_neg (fun h => e h.symm)]; exact g3⟩
theorem Lefts.ahead {Rs0 Rs : List (List Ev)} {n : Nat} {f : Nat → Nat} (h : Lefts Rs0 Rs n f) (k win : Nat) (hk : k < win) (hw : win < n) (hb : ah ltM (rsF Rs) k win = false) (x : Ev) (xs : List Ev) (hx : rsF Rs win = x :: xs) :
  ∃ l, Rs0[k]? = some l ∧ f k ≤ l.length ∧ ∀ y, l[f k]? = some y → lessB x y = true := by
 obtain ⟨l, h1, h2, h3⟩ := h k (by omega)
 refine ⟨l, h1, h2, fun y hy => ?_⟩
 have hlt := (List.getElem?_eq_some_iff.1 hy).1
 have e : rsF Rs k = y :: l.drop (f k + 1) := by
  rw [rsF_some h3, List.drop_eq_getElem_cons hlt]
  rw [List.getElem?_eq_getElem hlt] at hy; injection hy with hy; rw [hy]
 have := (ah_cons hb e hx).2 hk
 rw [ltM_less] at this; exact this
end Go.Proofs.YtjldamkmdkaiiaaGreatDoor
namespace Go.Proofs.YtjldamkmdkaiiaaGreatDoor
open Go.RowKit Go.WideShapes Col
theorem results_tmp2O {fn : Func} {t u : Tmp} (h : fn.results = #[.tmp t, .tmp u]) (tmps : Array Value) (P : Program) (w : World) :
  (results fn tmps).run P w = .ok (.tuple #[tmps.getD t undef, tmps.getD u undef]) w := by simp [results, h]
theorem ownE_nilO (w : World) (B : Nat) : OwnE w B none 0 0 [] := w.ownsRow_nil B _ 5
def runB (l : List Ev) : List Nat := Pg.lay 101 (evY l)
theorem runB_len (l : List Ev) : (runB l).length = 9 + (evY l).length := Pg.lay_len _ _
theorem evY_low {l : List Ev} (h : ∀ x ∈ runB l, x < 256) : ∀ x ∈ evY l, x < 256 := fun x hx => h x (by
 unfold runB Pg.lay
 rw [Pg.front_four]
 exact List.mem_append_left _ (List.mem_append_right _ (List.mem_cons_of_mem _ hx)))
set_option maxHeartbeats 4000000 in
theorem readRun_any (A : Option Addr) (N cap : Nat) (l : List Ev) (p : Int) (h0 : 0 < l.length) (hn6 : l.length ≤ 320) (hfin : Hid (∀ x ∈ l, FineE x)) (hall : Hid (∀ x ∈ l, formB x p = true)) (hN : Hid (N = (runB l).length)) (hc : N ≤ cap) (hcm : cap ≤ maxLen) (w : World) (HA : Hid (ByAt w A (runB l))) (HG : Hid (HalvesAt w)) :
  Calls Tryz.prog 62 #[.slice A N cap, .int .i64 p] w fun e w' => ∃ L m c, e = .returned (.tuple #[.slice L m c, .int .i64 0]) ∧ m = l.length ∧ m ≤ c ∧ c ≤ maxLen ∧ OwnE w' w.heap.size L m c (l.map canE) ∧ Below w.heap.size w w' := by
 have hbl := runB_len l
 obtain ⟨E, hE⟩ : ∃ E, E = N := ⟨_, rfl⟩
 have HRD : Hid (∀ w1, Below w.heap.size w w1 → Calls Tryz.prog 75 #[.slice A N cap, .int .i64 0, .int .i64 p] w1 fun e w' => ∃ L m, e = .returned (.tuple #[.slice (some ⟨L, 0, none⟩) m m, .int .i64 (E : Int), .int .i64 0]) ∧ m = l.length ∧ EvAt w' (some ⟨L, 0, none⟩) (l.map canE) ∧ Below w1.heap.size w1 w') := Lib.hid fun w1 hb => by
  have hr : runB l = [] ++ (Pg.lay 101 (evY l) ++ []) := by unfold runB; simp
  have h := evRead_mid A N cap 0 [] [] l p hn6 hfin hall.out (Lib.hid rfl) (evY_low HA.out.lt) (Lib.hid (by rw [← hr]; exact hN.out)) hc hcm w1 (Lib.hid (by rw [← hr]; exact HA.out.keep hb)) (Lib.hid (HG.out.keep hb))
  refine (show Calls Tryz.prog 75 #[.slice A N cap, .int .i64 0, .int .i64 p] w1 _ from h).mono ?_
  rintro e w' ⟨L, rfl, h1, h2, -⟩
  refine ⟨L, l.length, ?_, rfl, h1, h2⟩
  have he : (E : Int) = ((0 : Nat) : Int) + 5 + ((evY l).length : Int) + 4 := by rw [hE, hN.out, hbl]; omega
  rw [he]
 have hNp : 0 < N := by rw [hN.out, hbl]; omega
 have hN0 : (0 : Int) < (N : Int) := by omega
 have HE := Lib.hid hE
 have HZ : Hid (E = N) := Lib.hid hE
 clear hE hbl
 go_enter Tryz.func62, Tryz.ntmps62
 go_wp2
 go_loopw [6, 7] (fun u i wr => (u = .slice none 0 0 ∧ i = .int .i64 0 ∧ wr = w) ∨ (∃ L m c, u = .slice L m c ∧ i = .int .i64 (E : Int) ∧ m = l.length ∧ m ≤ c ∧ c ≤ maxLen ∧ OwnE wr w.heap.size L m c (l.map canE) ∧ Below w.heap.size w wr)) (fun _ i _ => E - (intOf i).toNat)
 case atStart => exact .inl ⟨rfl, rfl, rfl⟩
 case round =>
  rcases hrel with ⟨rfl, rfl, hw⟩ | ⟨L, m, c, rfl, rfl, hm, hmc, hcm2, ho, hb⟩
  ·have hw := hw.symm
   subst hw
   go_wp2_with (first
    | (go_at_call 75; (with_reducible refine (HRD.out w (Below.refl _ _)).mono ?_); rintro e w2 ⟨L, m, rfl, h1, h2, h3⟩; have HM := Lib.hid h1; have HE2 := Lib.hid h2; have HB2 := Lib.hid h3; have hm6 : m ≤ 320 := (by omega); have hs2 := h3.size; clear h1 h2 h3)
    | (at_builtin; refine wpList_append_evG rfl _ _ rfl w.heap.size none 0 0 [] rfl (ownE_nilO _ _) (some ⟨L, 0, none⟩) m m (l.map canE) rfl (by rw [List.length_map]; exact HM.out) HE2.out (fun h => by cases h) m (Nat.zero_add m).symm (by omega) hs2 ?_; intro A3 c3 w3 ho3 h31 h32 h33 hb3 _ _; rw [List.nil_append] at ho3; have HO3 := Lib.hid ho3; have HC3 := Lib.hid (And.intro h31 h32); have HB3 := Lib.hid (HB2.out.trans hb3); clear ho3 h31 h32 h33 hb3))
   go_roundw
   case rel => exact .inr ⟨A3, m, c3, rfl, rfl, HM.out, HC3.out.1, HC3.out.2, HO3.out, HB3.out⟩
   case measure => have := HZ.out; simp [intOf]; omega
  ·have HM := Lib.hid hm; have HO := Lib.hid ho; have HB := Lib.hid hb; have HC := Lib.hid (And.intro hmc hcm2)
   have hEN : ¬ ((E : Int) < (N : Int)) := by have := HZ.out; omega
   clear hm ho hb hmc hcm2
   go_wp2
   exact bodyPost_ret (results_tmp2O rfl _ _ _) rfl ⟨L, m, c, rfl, HM.out, HC.out.1, HC.out.2, HO.out, HB.out⟩
def RunsAt9 (w : World) (b g : Nat) (parts : Int) (N : Option Addr) (n c : Nat) (laid : Nat) : Prop := w.heap[b]? = some (.cells #[.pointer (some ⟨g, 0, none⟩), .int .i64 parts, .slice N n c, .int .i64 (laid : Int)] 70 (0, 0))
theorem not_st {t : TypeId} (h1 : t ≠ 58) (h2 : t ≠ 64) (h3 : t ≠ 5) : ¬ StT t := fun h => h.elim h1 (fun h => h.elim h2 h3)
theorem KF.row {w w' : World} {k : Nat} {cs : Array Value} {t : TypeId} {fr : Nat × Nat} (h : KF w w') (hr : w.heap[k]? = some (.cells cs t fr)) (ht : ¬ StT t) : w'.heap[k]? = some (.cells cs t fr) :=
 h.kept k _ hr fun cs' t' fr' e => by injection e with _ e _; rw [← e]; exact ht
theorem RunsAt9.kf {w w' : World} {b g : Nat} {parts : Int} {N : Option Addr} {n c laid : Nat} (h : RunsAt9 w b g parts N n c laid) (hk : KF w w') : RunsAt9 w' b g parts N n c laid :=
 hk.row h (not_st (by decide) (by decide) (by decide))
theorem RunsAt9.keep {w w' : World} {b g : Nat} {parts : Int} {N : Option Addr} {n c laid : Nat} (h : RunsAt9 w b g parts N n c laid) (hb : Below w.heap.size w w') : RunsAt9 w' b g parts N n c laid := row_kept h hb
theorem ownE_kf {w w' : World} {B n cap : Nat} {A : Option Addr} {l : List Ev} (h : OwnE w B A n cap l) (hk : KF w w') : OwnE w' B A n cap l := by
 refine ⟨h.1, ?_⟩
 rcases h.2 with h1 | ⟨g, cap', cur, h1, hb, hrow, hrest⟩
 ·exact .inl h1
 ·exact .inr ⟨g, cap', cur, h1, hb, hk.row hrow (not_st (by decide) (by decide) (by decide)), hrest⟩
def PowAt (w : World) : Prop := Lib.TabIs Tryz.prog w "internal/strconv.uint64pow10" .u64 Lib.pow10Tab
theorem PowAt.keep {W w : World} (h : PowAt W) (hb : Below W.heap.size W w) : PowAt w := by
 unfold PowAt Lib.TabIs World.var? at *
 cases hg : Tryz.prog.globalNamed "internal/strconv.uint64pow10" with
 | none => simp [hg] at h
 | some g =>
  simp only [hg, Option.bind_some] at h ⊢
  have hlt : g < W.heap.size := by
   rcases Nat.lt_or_ge g W.heap.size with h' | h'
   ·exact h'
   ·rw [Array.getElem?_eq_none h'] at h; simp at h
  rw [hb.block g hlt]
  exact h
def TabsAt (w : World) : Prop := HalvesAt w ∧ PowAt w
theorem tabs_sa {W : Bs} {g : Nat} {room armed ops : Int} {off : Bool} {xs : List Fil} {w : World} (HG : TabsAt W.b) (hg : W.heap.size ≤ g) (h : SA W g room off armed ops xs w) : TabsAt w := ⟨HG.1.keep (gb_new h.below hg), HG.2.keep (gb_new h.below hg)⟩
theorem halves_sa {W : Bs} {g : Nat} {room armed ops : Int} {off : Bool} {xs : List Fil} {w : World} (HG : TabsAt W.b) (hg : W.heap.size ≤ g) (h : SA W g room off armed ops xs w) : HalvesAt w := (tabs_sa HG hg h).1
section
variable {W : Bs} {g : Nat} {room ops : Int} {xs : List Fil}
set_option maxHeartbeats 4000000 in
theorem take_any {t : ByteArray} (b : Nat) (parts : Int) (N : Option Addr) (nn cn laid : Nat) (l : List Ev) (h0 : 0 < l.length) (hn6 : l.length ≤ 320) (hfin : Hid (∀ x ∈ l, FineE x)) (hall : Hid (∀ x ∈ l, formB x parts = true)) (hn : xs.length ≤ 1000) (lo : Nat) (x : Fil) (w : World)
  (hs : Hid (SA W g room false 0 ops xs w)) (ht : Hid (There xs t lo x)) (hx : Hid (x.l = runB l)) (h : Hid (0 ≤ ops ∧ ops < 1000000000)) (HR : Hid (RunsAt9 w b g parts N nn cn laid)) (HG : Hid (TabsAt W.b)) (hg : W.heap.size ≤ g) :
  Calls Tryz.prog 47 #[.pointer (some ⟨b, 0, none⟩), .string t] w fun e w' => ∃ L m c, e = .returned (.tuple #[.slice L m c, .int .i64 0]) ∧ m = l.length ∧ m ≤ c ∧ c ≤ maxLen ∧ OwnE w' w.heap.size L m c (l.map canE) ∧ KF w w' ∧ SA W g room false 0 (ops + 1) (xs.eraseIdx lo) w' := by
 have hxl : x.l.length ≤ 50000 := by rw [hx.out, runB_len]; have := evY_le l hfin.out hn6; omega
 have HRD := Lib.hid (read_A hn w (by omega) hs ht)
 rw [hx.out] at HRD
 have cb0 : w.cell? ⟨b, 0, none⟩ = some (.pointer (some ⟨g, 0, none⟩)) := by rw [cell_of_row _ _ _ _ _ _ HR.out]; rfl
 obtain ⟨z, hz⟩ : ∃ z, z = (runB l).length := ⟨_, rfl⟩
 have HZ := Lib.hid hz
 rw [← hz] at HRD
 have HOP : Hid (Op1 0 0 0 false) := Lib.hid ⟨.inl ⟨rfl, rfl, rfl, rfl⟩⟩
 clear hxl hz
 go_enter Tryz.func47, Tryz.ntmps47
 go_upto_region 4 with (go_at_call 61; (with_reducible refine HRD.out.mono ?_); rintro e w2 ⟨B, c, rfl, h1, h2⟩; have HO2 := Lib.hid h1; have HB2 := Lib.hid h2; clear h1 h2)
 have HR2 := Lib.hid (HR.out.keep HB2.out)
 have HS2 := Lib.hid (hs.out.next HB2.out)
 have HG2 := Lib.hid (halves_sa HG.out hg HS2.out)
 have cb1 : w2.cell? ⟨b, 1, none⟩ = some (.int .i64 parts) := by rw [cell_of_row _ _ _ _ _ _ HR2.out]; rfl
 have HRR := Lib.hid (readRun_any B z c l parts h0 hn6 hfin hall HZ HO2.out.caps.1 HO2.out.caps.2 w2 (Lib.hid HO2.out.byAt) HG2)
 go_upto_region 7 with (go_at_call 62; (with_reducible refine HRR.out.mono ?_); rintro e w3 ⟨L, m, c3, rfl, h1, h2, h3, h4, h5⟩; have HM := Lib.hid h1; have HC3 := Lib.hid (And.intro h2 h3); have HO3 := Lib.hid h4; have HB3 := Lib.hid h5; clear h1 h2 h3 h4 h5)
 have HR3 := Lib.hid (HR2.out.keep HB3.out)
 have HS3 := Lib.hid (HS2.out.next HB3.out)
 have cb2 : w3.cell? ⟨b, 0, none⟩ = some (.pointer (some ⟨g, 0, none⟩)) := by rw [cell_of_row _ _ _ _ _ _ HR3.out]; rfl
 have HD := Lib.hid (delete_K (armed' := 0) hn lo x w3 HS3 ht HOP h (Lib.hid (by omega)))
 go_wp2_with (go_at_call 36; (with_reducible refine HD.out.mono ?_); rintro e w4 ⟨rfl, h1, h2⟩; have HK4 := Lib.hid h1; have HS4 := Lib.hid h2; clear h1 h2)
 exact bodyPost_ret (results_tmp2O rfl _ _ _) rfl ⟨L, m, c3, rfl, HM.out, HC3.out.1, HC3.out.2, ownE_kf (HO3.out.less HB2.out.size) HK4.out, (KF.of_below (below_to HB2.out HB3.out)).trans HK4.out, HS4.out⟩
end
end Go.Proofs.YtjldamkmdkaiiaaGreatDoor
namespace Go.Proofs.YtjldamkmdkaiiaaGreatDoor
open Go.ChangeShapes Go.WideShapes Go.ChangeAt Go.WideElems Go.RowKit
theorem Tryz.own : ownKnob Tryz.prog.godebug = none := by kernel_rfl
theorem Tryz.laidOut : laidOutB Tryz.prog = true := by kernel_rfl
section
variable {H : Type} {enc : TypeId × Value → H} {P : Program}
theorem trodAll_keep {W W' : World} {sp : Nat → Bool} (hl : laidOutB P = true) (hs : ∀ x : MemPlace, x.block < W.heap.size → W.sameAt W' x) : ∀ (ts : List TypeId) (vs : List Value) (ds : List (DataW H)) (ps : List MemPlace),
  (∀ t, t ∈ ts → P.readableRec t = true ∧ t < P.types.size) → DataW.TrodAll enc P W 0 (fun _ => true) true ts vs ds ps → (∀ x, x ∈ ps → x.block < W.heap.size) → (∀ x, x ∈ ps → sp x.block = true) →
  DataW.TrodAll enc P W' 0 sp true ts vs ds ps
 | [], [], [], _, _, h, _, _ => h
 | t :: ts, v :: vs, d :: ds, ps, hr, ⟨p, q, hd, hrest, he⟩, hlt, hsp => by
  subst he
  refine ⟨p, q, ?_, trodAll_keep hl hs ts vs ds q (fun t ht => hr t (by simp [ht])) hrest (fun x hx => hlt x (by simp [hx])) (fun x hx => hsp x (by simp [hx])), rfl⟩
  exact WideElems.Trod_stays hl (hr t (by simp)).1 (hr t (by simp)).2 hd (fun x hx => hs x (hlt x (by simp [hx]))) (fun x hx => hsp x (by simp [hx]))
 | [], [], _ :: _, _, _, h, _, _ => h.elim
 | [], _ :: _, _, _, _, h, _, _ => h.elim
 | _ :: _, [], _, _, _, h, _, _ => h.elim
 | _ :: _, _ :: _, [], _, _, h, _, _ => h.elim
theorem post_law {f : Func} {s : ChangeSpec} {W W' : World} {args : Array Value} {ds : List (DataW H)} {before : List MemPlace} {tb : TypeId} (hl : laidOutB P = true)
  (hv : s.vars = []) (hW : DataW.Whole enc P f.params.toList s.vars false W args.toList ds [] before)
  (hrec : ∀ t, t ∈ f.params.toList → P.readableRec t = true ∧ t < P.types.size)
  (hres : (s.fn H ds).results = [.lit (.bool true)]) (hargs : (s.fn H ds).args = ds) (hvs : (s.fn H ds).vars = [])
  (hrt : f.resultTypes = #[tb]) (htb : P.underlying tb = some .bool) (hb : Below W.heap.size W W') : s.post enc P f false true false false W args (.bool true) W' := by
 have hlt : ∀ x, x ∈ before → x.block < W.heap.size := fun x hx => hW.lt x hx
 have hW2 := hW
 obtain ⟨p, q, hA, hV, rfl, -, -⟩ := hW2
 have hq : q = [] := by rw [hv] at hV; exact hV
 subst hq
 refine ⟨ds, [], p ++ [], [], p, [], hW, ?_, ?_, ?_, hb.frame _, fun h => by cases h⟩
 ·rw [List.append_nil, hres, hrt]
  exact trodAll_mk1 (shut_bool htb true)
 ·rw [List.append_nil, hargs]
  exact trodAll_keep hl (fun x hx => hb.same hx) _ _ _ _ hrec hA (fun x hx => hlt x (by simp [hx])) (fun x hx => by simpa using hlt x (by simp [hx]))
 ·rw [List.append_nil, hv, hvs]; rfl
end
theorem gHalves : Tryz.prog.globalNamed "headrace/page.halves" = some 2 := by kernel_rfl
theorem tHalves : (Tryz.prog.globals[2]?).map (·.type) = some 173 := by kernel_rfl
def laidHalves {H : Type} : List (String × DataW H) := [("headrace/page.halves", Rows.laid_headrace_page_halves)]
theorem laid_parts (i : Nat) (hi : i < 16) : ∃ parts : List (DataW Unit), (Rows.laid_headrace_page_halves : DataW Unit) = .agg parts ∧ parts[i]? = some (.lit (.int .u32 (Pg.half i : Nat))) := by
 refine ⟨_, rfl, ?_⟩
 exact match i, hi with
 | 0, _ => rfl
 | 1, _ => rfl
 | 2, _ => rfl
 | 3, _ => rfl
 | 4, _ => rfl
 | 5, _ => rfl
 | 6, _ => rfl
 | 7, _ => rfl
 | 8, _ => rfl
 | 9, _ => rfl
 | 10, _ => rfl
 | 11, _ => rfl
 | 12, _ => rfl
 | 13, _ => rfl
 | 14, _ => rfl
 | 15, _ => rfl
 | n + 16, h => absurd h (by omega)
theorem of_laid {W : World} (h : laidMetH Tryz.prog laidHalves W) : HalvesAt W := by
 rw [MakeChecks.laidMetH_plain _ _ _ (by kernel_rfl)] at h
 obtain ⟨ps, ⟨g0, t0, cs0, f0, p0, q0, hg0, ht0, hv0, hd0, _, _⟩, _, _⟩ := h
 obtain rfl := Option.some.inj (gHalves.symm.trans hg0)
 obtain rfl := Option.some.inj (tHalves.symm.trans ht0)
 obtain ⟨xs, m1, rfl, hx1, hlen, hn3, hel⟩ := DataW.trod_array Tryz.underlying173 hd0
 have c3 : Tryz.prog.cellsOf 148 = 1 := by kernel_rfl
 intro i hi
 obtain ⟨parts, hp, hpi⟩ := laid_parts i hi
 rw [hp] at hx1
 simp only [Prod.mk.injEq, DataW.agg.injEq] at hx1
 have hxi : xs[i]? = some (xs[i]'(by omega)) := List.getElem?_eq_getElem (by omega)
 have hi1 := hel i hi
 rw [c3, Nat.mul_one, hxi] at hi1
 obtain ⟨k, e1, e2, _⟩ := DataW.trod_int Tryz.underlying148 hi1
 have hk : k = (Pg.half i : Nat) := by
  rw [hx1.1, List.getElem?_map, hxi] at hpi
  simp only [Option.map_some, Option.some.injEq] at hpi
  rw [e2] at hpi
  simpa using hpi
 subst hk
 have hc := World.var?_cell hg0 hv0 i
 rw [hc, ← Array.getElem?_toList]
 have h2 : (cs0.toList.drop i)[0]? = some (.int .u32 (Pg.half i : Nat)) := by
  have h3 : ((cs0.toList.drop i).take 1)[0]? = some (.int .u32 (Pg.half i : Nat)) := by rw [e1]; rfl
  rw [List.getElem?_take] at h3
  simpa using h3
 rw [List.getElem?_drop] at h2
 simpa using h2
end Go.Proofs.YtjldamkmdkaiiaaGreatDoor
namespace Go.Proofs.YtjldamkmdkaiiaaGreatDoor
open Go.ChangeShapes Go.WideShapes Go.ChangeAt Go.RowKit
def laidSrt {H : Type} : List (String × DataW H) := [("math/bits.deBruijn32tab", Rows.laid_math_bits_deBruijn32tab), ("math/bits.deBruijn64tab", Rows.laid_math_bits_deBruijn64tab), ("internal/strconv.uint64pow10", Rows.laid_internal_strconv_uint64pow10), ("headrace/page.halves", Rows.laid_headrace_page_halves)]
theorem door_metS (os : Os) (args : Array Value) : laidMetH Tryz.prog laidSrt ((World.doorLaid Tryz.prog 400 os).forCall (fun _ _ => 0) ⟨#[], args, []⟩).memory :=
 laidMetH_of_parts3 (fuel := 8) (laidMet_of_run' 8 (by kernel_rfl) (by kernel_rfl)) (by kernel_rfl) (by kernel_rfl)
theorem of_laidS {W : World} (h : laidMetH Tryz.prog laidSrt W) : TabsAt W := by
 rw [MakeChecks.laidMetH_plain _ _ _ (by kernel_rfl)] at h
 refine ⟨of_laid (by rw [MakeChecks.laidMetH_plain _ _ _ (by kernel_rfl)]; exact h.tail.tail.tail), ?_⟩
 exact Lib.tabIs_of_head (k := .u64) (zs := Lib.pow10Tab) (g := 3) (t := 206) (e := 48) (n := 20) (by kernel_rfl) (by kernel_rfl) Tryz.underlying206 Tryz.underlying48 (by kernel_rfl) (by kernel_rfl) h.tail.tail
end Go.Proofs.YtjldamkmdkaiiaaGreatDoor
