/-
  Layer event: the document's Lay of events.
-/
import Derived.Maps.AppendAt
import Derived.Test.YtifabkbdiiolfaaDoorJaK
import Derived.Test.YtifabkbdiiolfaaDoorTeK
import Derived.Test.YtifabkbdiiolfaaDoorUcK
import Derived.Test.YtifabkbdiiolfaaDoorGzK
set_option linter.unusedSimpArgs false
set_option linter.unusedVariables false
set_option maxRecDepth 8000
namespace Go.Proofs.YtifabkbdiiolfaaDoor
open Go.RowKit Go.Sort Go.WideShapes Col
def upd {α : Type} (f : Nat → α) (i : Nat) (x : α) : Nat → α := fun j => if j = i then x else f j
/-- The types of the five columns' elements. -/
def TY : Nat → TypeId
 | 3 => 9
 | 4 => 32
 | _ => 2
/-- Five slices that a call owns, in blocks of their own. -/
structure OL (W : World) (vs : Nat → Value) (ks : Nat → Nat) (cs : Nat → List Value) (w : World) : Prop where
 own : ∀ i, i < 5 → w.ownsRow W.heap.size (TY i) 1 (vs i) (ks i) (cs i)
 sep : ∀ i j, i < 5 → j < 5 → i ≠ j → (vs i).ownBlock = none ∨ (vs i).ownBlock ≠ (vs j).ownBlock
 below : Below W.heap.size W w
theorem owns_allocY {w : World} {B : Nat} {T : TypeId} {v : Value} {n : Nat} {xs : List Value} (h : w.ownsRow B T 1 v n xs) (o : Obj) : (w.alloc o).ownsRow B T 1 v n xs :=
 h.kept (row := none) ⟨rfl, rfl, rfl, by simp, fun k hk _ => Below.heap_alloc _ _ _ hk⟩ (by rcases v.ownBlock with _ | b <;> simp)
theorem OL.app {W w w' : World} {vs : Nat → Value} {ks : Nat → Nat} {cs : Nat → List Value} (H : OL W vs ks cs w) (i : Nat) (hi : i < 5) (o : Obj) {v' : Value} {n' : Nat} {xs' : List Value}
  (ho : w'.ownsRow W.heap.size (TY i) 1 v' n' xs') (hg : (w.alloc o).grownBy w' (vs i).ownBlock) (hd : v'.ownBlock = (vs i).ownBlock ∨ v'.ownBlock = some (w.alloc o).heap.size) :
  OL W (upd vs i v') (upd ks i n') (upd cs i xs') w' := by
 have hlt : ∀ j, j < 5 → ∀ k, (vs j).ownBlock = some k → W.heap.size ≤ k ∧ k < w.heap.size := fun j hj k hk => (H.own j hj).lt k hk
 have hsz : (w.alloc o).heap.size = w.heap.size + 1 := by simp
 refine ⟨fun j hj => ?_, fun a b ha hb hab => ?_, ?_⟩
 ·by_cases e : j = i
  ·subst e; unfold upd; simp only [if_pos]; exact ho
  ·unfold upd; simp only [if_neg e]
   exact (owns_allocY (H.own j hj) o).kept hg (H.sep j i hj hi e)
 ·by_cases e : a = i
  ·subst e
   have hba : b ≠ a := fun h => hab h.symm
   unfold upd; simp only [if_pos, if_neg hba]
   rcases hd with h | h
   ·rw [h]; exact H.sep a b ha hb hab
   ·right; rw [h]; intro h2
    have := (hlt b hb _ h2.symm).2
    omega
  ·by_cases e2 : b = i
   ·subst e2
    unfold upd; simp only [if_pos, if_neg e]
    rcases hd with h | h
    ·rw [h]; exact H.sep a b ha hb hab
    ·right; rw [h]; intro h2
     have := (hlt a ha _ h2).2
     omega
   ·unfold upd; simp only [if_neg e, if_neg e2]; exact H.sep a b ha hb hab
 ·exact ((H.below.alloc H.below.size o)).grown hg (Nat.le_trans H.below.size (by omega)) (fun k hk => (hlt i hi k hk).1)
theorem wpList_append_oneY {w : World} {ops : Array Oper} {rest : List Oper} {o : Oper} {a : Act} {Q : Exit → Act → World → Prop} (hgd : o.guard = none) (s x : Operand) (ST : TypeId)
  (ho : o.op = .call { callee := .builtin .append, args := #[s, x], argTypes := #[ST, ST] }) (T : TypeId) (i0 : TypeInfo) (z : Value) (bytes : Nat) (hu : Tryd.prog.underlying ST = some (.slice T)) (hi : Tryd.prog.info? T = some i0) (hz0 : i0.zero = some z) (hz1 : i0.size = 1) (hz2 : i0.bytes = bytes) (hzs : z.cells.size = 1) (hby : bytes ≤ 16)
  (B : Nat) (v : Value) (n : Nat) (xs : List Value) (hs : a.eval s = v) (hown : w.ownsRow B T 1 v n xs) (g : Nat) (hx : a.eval x = .slice (some ⟨g, 0, none⟩) 1 1) (u : Value) (hc : w.cell? ⟨g, 0, none⟩ = some u) (h1 : u.oneCell' = true) (hn : n ≤ 1000) (hbase : B ≤ w.heap.size)
  (h : ∀ v' w', w'.ownsRow B T 1 v' (n + 1) (xs ++ [u]) → w.grownBy w' v.ownBlock → (v'.ownBlock = v.ownBlock ∨ v'.ownBlock = some w.heap.size) → wpList Tryd.prog ops Q rest (a.put o.dst v') w') : wpList Tryd.prog ops Q (o :: rest) a w := by
 refine wpList_plain hgd fun K hK => ?_
 obtain ⟨v', w', hr, h3, h4, h5, h6⟩ := run_append_own_at (P := Tryd.prog) (w := w) B ST o.type T i0 z 1 bytes hu hi hz0 hz1 hz2 hzs (by decide) v n xs hown ⟨g, 0, none⟩ 1 1 [u] rfl (fun j y hj => by
  rcases j with _ | j
  ·simp at hj; subst hj; rw [Addr.add_lit]; exact hc
  ·simp at hj) (fun y hy => by rw [List.mem_singleton] at hy; subst hy; exact h1) (by unfold maxLen; omega) (by have : (n + 1) * bytes ≤ (n + 1) * 16 := Nat.mul_le_mul_left _ hby; omega) hbase
 unfold Oper.wp execOp
 simp only [ho, resolve, invoke, builtin, Sem.run_bind, Sem.run_pure, Result.andThen_ok, List.map_toArray, List.map_cons, List.map_nil, hs, hx, hr]
 exact hK _ _ (h v' w' h3 h4 h6)
/-- The columns' cells. -/
def CL (l : List Ev) : Nat → List Value
 | 0 => ivs (l.map oI)
 | 1 => ivs (l.map Ev.part)
 | 2 => ivs (l.map Ev.time)
 | 3 => tvs (l.map kL)
 | _ => fvs (l.map Ev.val)
theorem take_mapY {α : Type} (f : Ev → α) (c : α → Value) (l : List Ev) (k : Nat) (x : Ev) (h : l[k]? = some x) : ((l.map f).map c).take k ++ [c (f x)] = ((l.map f).map c).take (k + 1) := by
 rw [List.take_add_one, List.getElem?_map, List.getElem?_map, h]; rfl
theorem sliceY {w : World} {B : Nat} {T : TypeId} {v : Value} {n : Nat} {xs : List Value} (h : w.ownsRow B T 1 v n xs) : ∃ A c, v = .slice A n c ∧ n ≤ c ∧ c ≤ maxLen := by
 rcases h.2 with ⟨e, h0⟩ | ⟨g, cap, cur, e, -, -, h1, h2, -⟩
 ·exact ⟨none, 0, by rw [e, h0], by omega, Nat.zero_le _⟩
 ·exact ⟨_, cap, e, h1, h2⟩
set_option maxHeartbeats 16000000 in
theorem refEvLay_any (b : Option Addr) (n c : Nat) (l : List Ev) (hn : Hid (n = l.length)) (hn6 : n ≤ 64) (hfin : Hid (∀ x ∈ l, FineE x)) (W : World) (HE : Hid (EvAt W b l)) :
  Calls Tryd.prog 20 #[.slice b n c] W fun e w' => ∃ A N cap, e = .returned (.slice A N cap) ∧ ByAt w' A (Pg.lay 101 (evY l)) ∧ N = (Pg.lay 101 (evY l)).length ∧ Below W.heap.size W w' := by
 obtain ⟨iu, hiu, iuz0, iuz1, iuz2⟩ := info_parts infoI64'
 obtain ⟨js, hjs, jsz0, jsz1, jsz2⟩ := info_parts infoStr
 obtain ⟨jf, hjf, jfz0, jfz1, jfz2⟩ := info_parts infoF64
 have HO00 : Hid (OL W (fun _ => .slice none 0 0) (fun _ => 0) (fun q => (CL l q).take 0) W) := Lib.hid ⟨fun q hq => W.ownsRow_nil _ _ 1, fun q r _ _ _ => .inl rfl, Below.refl _ _⟩
 go_enter Tryd.func20, Tryd.ntmps20
 go_wp2
 go_loopw [3, 4, 5, 6, 7, 8] (fun u3 u4 u5 u6 u7 v wr => ∃ (i : Nat) (vs : Nat → Value), i ≤ n ∧ v = .int .i64 (i : Int) ∧ u3 = vs 0 ∧ u4 = vs 1 ∧ u5 = vs 2 ∧ u6 = vs 3 ∧ u7 = vs 4 ∧ OL W vs (fun _ => i) (fun q => (CL l q).take i) wr) (fun _ _ _ _ _ v _ => n - (intOf v).toNat)
 case atStart => exact ⟨0, fun _ => .slice none 0 0, Nat.zero_le _, rfl, rfl, rfl, rfl, rfl, rfl, HO00.out⟩
 case round =>
  obtain ⟨i, vs, hi, rfl, rfl, rfl, rfl, rfl, rfl, hol⟩ := hrel
  obtain ⟨x0, hx0⟩ : ∃ x0, x0 = wr := ⟨_, rfl⟩
  subst hx0
  have HO0 := Lib.hid hol
  clear hol HO00
  by_cases hlt : i < n
  ·have hii : (i : Int) < (n : Int) := by omega
   obtain ⟨x, hx⟩ : ∃ x, l[i]? = some x := ⟨_, List.getElem?_eq_getElem (by have := hn.out; omega)⟩
   have HX := Lib.hid hx
   have HF := Lib.hid (hfin.out x (List.mem_of_getElem? hx))
   obtain ⟨g, off, rfl, hg, hr⟩ := evrB HE.out i x hx
   have HC : Hid (∀ w', Below W.heap.size W w' → ∀ (j : Nat) (v : Value), x.cells[j]? = some v → w'.cell? ⟨g, off + i * 5 + j, none⟩ = some v) := Lib.hid fun w' hb j v hv => (hb.cell (p := ⟨g, off + i * 5 + j, none⟩) hg).trans (hr j v hv)
   have how : IntKind.i64.wrap (x.off : Int) = oI x := by rw [IntKind.wrap_i64]; have := HF.out.off; unfold oI; omega
   clear hx hr hg
   have ce : x0.cell? ⟨g, off + i * 5, none⟩ = some (.int .u64 (x.off : Int)) := HC.out x0 HO0.out.below 0 _ rfl
   have hbs : W.heap.size ≤ (x0.alloc (.cells #[.int .i64 (oI x)] 2)).heap.size := (HO0.out.below.alloc HO0.out.below.size _).size
   have hal : (x0.alloc (.cells #[.int .i64 (oI x)] 2)).cell? ⟨x0.heap.size, 0, none⟩ = some (.int .i64 (oI x)) := by rw [cell_of_row _ _ _ _ _ _ (heap_alloc_new' x0 _)]; rfl
   go_upto_region 8 with (refine wpList_append_oneY rfl (.tmp 16) (.tmp 23) 68 rfl 2 iu (.int .i64 0) 8 Tryd.underlying68 hiu iuz0 iuz1 iuz2 rfl (by decide) W.heap.size (vs 0) i _ rfl (owns_allocY (HO0.out.own 0 (by decide)) _) x0.heap.size rfl (.int .i64 (oI x)) hal rfl (by omega) hbs ?_; intro y0 x1 ho hg hd; have HO1 := Lib.hid (HO0.out.app 0 (by decide) _ ho hg hd); clear ho hg hd)
   clear ce hbs hal
   have ce : x1.cell? ⟨g, off + i * 5 + 1, none⟩ = some (.int .i64 x.part) := HC.out x1 HO1.out.below 1 _ rfl
   have hbs : W.heap.size ≤ (x1.alloc (.cells #[.int .i64 x.part] 2)).heap.size := (HO1.out.below.alloc HO1.out.below.size _).size
   have hal : (x1.alloc (.cells #[.int .i64 x.part] 2)).cell? ⟨x1.heap.size, 0, none⟩ = some (.int .i64 x.part) := by rw [cell_of_row _ _ _ _ _ _ (heap_alloc_new' x1 _)]; rfl
   go_upto_region 9 with (refine wpList_append_oneY rfl (.tmp 25) (.tmp 31) 68 rfl 2 iu (.int .i64 0) 8 Tryd.underlying68 hiu iuz0 iuz1 iuz2 rfl (by decide) W.heap.size (vs 1) i _ rfl (owns_allocY (HO1.out.own 1 (by decide)) _) x1.heap.size rfl (.int .i64 x.part) hal rfl (by omega) hbs ?_; intro y1 x2 ho hg hd; have HO2 := Lib.hid (HO1.out.app 1 (by decide) _ ho hg hd); clear ho hg hd)
   clear ce hbs hal
   have ce : x2.cell? ⟨g, off + i * 5 + 2, none⟩ = some (.int .i64 x.time) := HC.out x2 HO2.out.below 2 _ rfl
   have hbs : W.heap.size ≤ (x2.alloc (.cells #[.int .i64 x.time] 2)).heap.size := (HO2.out.below.alloc HO2.out.below.size _).size
   have hal : (x2.alloc (.cells #[.int .i64 x.time] 2)).cell? ⟨x2.heap.size, 0, none⟩ = some (.int .i64 x.time) := by rw [cell_of_row _ _ _ _ _ _ (heap_alloc_new' x2 _)]; rfl
   go_upto_region 10 with (refine wpList_append_oneY rfl (.tmp 33) (.tmp 39) 68 rfl 2 iu (.int .i64 0) 8 Tryd.underlying68 hiu iuz0 iuz1 iuz2 rfl (by decide) W.heap.size (vs 2) i _ rfl (owns_allocY (HO2.out.own 2 (by decide)) _) x2.heap.size rfl (.int .i64 x.time) hal rfl (by omega) hbs ?_; intro y2 x3 ho hg hd; have HO3 := Lib.hid (HO2.out.app 2 (by decide) _ ho hg hd); clear ho hg hd)
   clear ce hbs hal
   have ce : x3.cell? ⟨g, off + i * 5 + 3, none⟩ = some (.string x.key) := HC.out x3 HO3.out.below 3 _ rfl
   have hbs : W.heap.size ≤ (x3.alloc (.cells #[.string x.key] 9)).heap.size := (HO3.out.below.alloc HO3.out.below.size _).size
   have hal : (x3.alloc (.cells #[.string x.key] 9)).cell? ⟨x3.heap.size, 0, none⟩ = some (.string x.key) := by rw [cell_of_row _ _ _ _ _ _ (heap_alloc_new' x3 _)]; rfl
   go_upto_region 11 with (refine wpList_append_oneY rfl (.tmp 41) (.tmp 47) 69 rfl 9 js (.string { data := #[] }) 16 Tryd.underlying69 hjs jsz0 jsz1 jsz2 rfl (by decide) W.heap.size (vs 3) i _ rfl (owns_allocY (HO3.out.own 3 (by decide)) _) x3.heap.size rfl (.string x.key) hal rfl (by omega) hbs ?_; intro y3 x4 ho hg hd; have HO4 := Lib.hid (HO3.out.app 3 (by decide) _ ho hg hd); clear ho hg hd)
   clear ce hbs hal
   have ce : x4.cell? ⟨g, off + i * 5 + 4, none⟩ = some (.float .f64 x.val) := HC.out x4 HO4.out.below 4 _ rfl
   have hbs : W.heap.size ≤ (x4.alloc (.cells #[.float .f64 x.val] 32)).heap.size := (HO4.out.below.alloc HO4.out.below.size _).size
   have hal : (x4.alloc (.cells #[.float .f64 x.val] 32)).cell? ⟨x4.heap.size, 0, none⟩ = some (.float .f64 x.val) := by rw [cell_of_row _ _ _ _ _ _ (heap_alloc_new' x4 _)]; rfl
   go_wp2_with (refine wpList_append_oneY rfl (.tmp 49) (.tmp 55) 70 rfl 32 jf (.float .f64 0) 8 Tryd.underlying70 hjf jfz0 jfz1 jfz2 rfl (by decide) W.heap.size (vs 4) i _ rfl (owns_allocY (HO4.out.own 4 (by decide)) _) x4.heap.size rfl (.float .f64 x.val) hal rfl (by omega) hbs ?_; intro y4 x5 ho hg hd; have HO5 := Lib.hid (HO4.out.app 4 (by decide) _ ho hg hd); clear ho hg hd)
   clear ce hbs hal
   go_roundw
   case rel =>
    refine ⟨i + 1, upd (upd (upd (upd (upd vs 0 y0) 1 y1) 2 y2) 3 y3) 4 y4, by omega, by go_num, rfl, rfl, rfl, rfl, rfl, ?_⟩
    refine ⟨fun q hq => ?_, HO5.out.sep, HO5.out.below⟩
    have h := HO5.out.own q hq
    rcases (by omega : q = 0 ∨ q = 1 ∨ q = 2 ∨ q = 3 ∨ q = 4) with rfl | rfl | rfl | rfl | rfl
    ·exact (take_mapY oI iv l i x HX.out) ▸ h
    ·exact (take_mapY Ev.part iv l i x HX.out) ▸ h
    ·exact (take_mapY Ev.time iv l i x HX.out) ▸ h
    ·have e : tv (kL x) = .string x.key := by unfold tv; rw [kL_strB]
     exact (take_mapY kL tv l i x HX.out) ▸ (e ▸ h)
    ·exact (take_mapY Ev.val (fun x => .float .f64 x) l i x HX.out) ▸ h
   case measure => simp [intOf]; omega
  ·obtain rfl : i = n := by omega
   have hii : ¬ (i : Int) < (i : Int) := by omega
   have hlen : ∀ q, (CL l q).length = i := fun q => by
    have := hn.out
    unfold CL
    split <;> simp [ivs, tvs, fvs] <;> omega
   have own : ∀ q, q < 5 → x0.ownsRow W.heap.size (TY q) 1 (vs q) i (CL l q) := fun q hq => by
    have h := HO0.out.own q hq
    rwa [List.take_of_length_le (by rw [hlen q]; exact Nat.le_refl _)] at h
   obtain ⟨B0, d0, e0, p0, m0⟩ := sliceY (own 0 (by decide))
   obtain ⟨B1, d1, e1, p1, m1⟩ := sliceY (own 1 (by decide))
   obtain ⟨B2, d2, e2, p2, m2⟩ := sliceY (own 2 (by decide))
   obtain ⟨B3, d3, e3, p3, m3⟩ := sliceY (own 3 (by decide))
   obtain ⟨B4, d4, e4, p4, m4⟩ := sliceY (own 4 (by decide))
   have w0 := own 0 (by decide); have w1 := own 1 (by decide); have w2 := own 2 (by decide); have w3 := own 3 (by decide); have w4 := own 4 (by decide)
   rw [e0] at w0; rw [e1] at w1; rw [e2] at w2; rw [e3] at w3; rw [e4] at w4
   rw [e0, e1, e2, e3, e4]
   have HKW : Hid (∀ y ∈ l.map kL, WfT y ∧ y.length ≤ 32) := Lib.hid (kL_all hfin.out)
   have o0 : OwnI x0 W.heap.size B0 i d0 (l.map oI) := ⟨w0, oI_wf hfin.out⟩
   have o1 : OwnI x0 W.heap.size B1 i d1 (l.map Ev.part) := ⟨w1, part_wf hfin.out⟩
   have o2 : OwnI x0 W.heap.size B2 i d2 (l.map Ev.time) := ⟨w2, time_wf hfin.out⟩
   have o3 : OwnX x0 W.heap.size B3 i d3 (l.map kL) := ⟨w3, fun y hy => (HKW.out y hy).1⟩
   have o4 : OwnF x0 W.heap.size B4 i d4 (l.map Ev.val) := ⟨w4, val_lt hfin.out⟩
   have hml : ∀ {α : Type} (f : Ev → α), i = (l.map f).length := fun f => by rw [List.length_map]; exact hn.out
   have HI1 : Hid (∀ w', Below x0.heap.size x0 w' → Calls Tryd.prog 40 #[.slice B0 i d0] w' (Puts w'.heap.size w' (intsL (l.map oI)))) := Lib.hid fun w' hb => refInts_any B0 i d0 (l.map oI) (Lib.hid (hml oI)) p0 m0 (by omega) w' (Lib.hid (o0.isAt.keep hb))
   have HI2 : Hid (∀ w', Below x0.heap.size x0 w' → Calls Tryd.prog 40 #[.slice B1 i d1] w' (Puts w'.heap.size w' (intsL (l.map Ev.part)))) := Lib.hid fun w' hb => refInts_any B1 i d1 (l.map Ev.part) (Lib.hid (hml Ev.part)) p1 m1 (by omega) w' (Lib.hid (o1.isAt.keep hb))
   have HI3 : Hid (∀ w', Below x0.heap.size x0 w' → Calls Tryd.prog 40 #[.slice B2 i d2] w' (Puts w'.heap.size w' (intsL (l.map Ev.time)))) := Lib.hid fun w' hb => refInts_any B2 i d2 (l.map Ev.time) (Lib.hid (hml Ev.time)) p2 m2 (by omega) w' (Lib.hid (o2.isAt.keep hb))
   have HI4 : Hid (∀ w', Below x0.heap.size x0 w' → Calls Tryd.prog 41 #[.slice B3 i d3] w' (Puts w'.heap.size w' (textsL (l.map kL)))) := Lib.hid fun w' hb => refTexts_any B3 i d3 (l.map kL) (Lib.hid (hml kL)) p3 m3 (by omega) (Lib.hid fun y hy => Nat.le_trans (HKW.out y hy).2 (by decide)) w' (Lib.hid (o3.isAt.keep hb))
   have HI5 : Hid (∀ w', Below x0.heap.size x0 w' → Calls Tryd.prog 42 #[.slice B4 i d4] w' (Puts w'.heap.size w' (intsL ((l.map Ev.val).map rwI)))) := Lib.hid fun w' hb => refReals_any B4 i d4 (l.map Ev.val) (Lib.hid (hml Ev.val)) (by omega) w' (Lib.hid (o4.isAt.keep hb))
   have z1 := ints_60 (l.map oI) (oI_wf hfin.out) (by rw [← hml oI]; exact hn6)
   have z2 := ints_60 (l.map Ev.part) (part_wf hfin.out) (by rw [← hml Ev.part]; exact hn6)
   have z3 := ints_60 (l.map Ev.time) (time_wf hfin.out) (by rw [← hml Ev.time]; exact hn6)
   have z4 := texts_60 (l.map kL) (fun y hy => (HKW.out y hy).1) (fun y hy => (HKW.out y hy).2) (by rw [← hml kL]; exact hn6)
   have z5 := ints_60 ((l.map Ev.val).map rwI) (fun y hy => by obtain ⟨u, -, rfl⟩ := List.mem_map.1 hy; exact rwI_wf u) (by rw [List.length_map, ← hml Ev.val]; exact hn6)
   have HEV : Hid (evY l = (((txL (intsL (l.map oI)) ++ txL (intsL (l.map Ev.part))) ++ txL (intsL (l.map Ev.time))) ++ txL (textsL (l.map kL))) ++ txL (intsL ((l.map Ev.val).map rwI))) := Lib.hid rfl
   have HWW := Lib.hid HO0.out.below
   clear own hlen w0 w1 w2 w3 w4 o0 o1 o2 o3 o4 hml e0 e1 e2 e3 e4 HO0 HKW p0 p1 p2 p3 p4 m0 m1 m2 m3 m4
   generalize intsL (l.map oI) = D1 at *
   generalize intsL (l.map Ev.part) = D2 at *
   generalize intsL (l.map Ev.time) = D3 at *
   generalize textsL (l.map kL) = D4 at *
   generalize intsL ((l.map Ev.val).map rwI) = D5 at *
   have Z1 := Lib.hid (txL_le D1 1303 (by omega) z1); have Z2 := Lib.hid (txL_le D2 1303 (by omega) z2); have Z3 := Lib.hid (txL_le D3 1303 (by omega) z3); have Z4 := Lib.hid (txL_le D4 4010 (by omega) z4); have Z5 := Lib.hid (txL_le D5 1303 (by omega) z5)
   have Y1 := Lib.hid z1; have Y2 := Lib.hid z2; have Y3 := Lib.hid z3; have Y4 := Lib.hid z4; have Y5 := Lib.hid z5
   clear z1 z2 z3 z4 z5
   go_wp2_with (first
    | (go_at_call 40; (with_reducible refine (HI1.out x0 (Below.refl _ _)).mono ?_); rintro e a1 ⟨A1, n1, c1, rfl, h1, h2, h3⟩; have Ba1 : Hid (Below x0.heap.size x0 a1) := Lib.hid (below_to (Below.refl _ _) h2); have hcv := conv_by n1 c1 h1.byAt h1.len; have W1 : Hid (WfT D1) := Lib.hid h1.byAt.lt; clear h1 h2 h3)
    | (go_at_call 19; (with_reducible refine (refText_any D1 W1.out (by have := Y1.out; omega) a1).mono ?_); rintro e b1 ⟨E1, k1, r1, rfl, h1, h2, h3⟩; have P1 := Lib.hid h1; have hk1 : k1 ≤ 1313 := (by have := h1.len; have := Z1.out; omega); have Bb1 : Hid (Below x0.heap.size x0 b1) := Lib.hid (below_to Ba1.out h2); have hz1 : a1.heap.size ≤ b1.heap.size := h3; clear h1 h2 h3 hcv)
    | (go_at_call 40; (with_reducible refine (HI2.out b1 Bb1.out).mono ?_); rintro e a2 ⟨A2, n2, c2, rfl, h1, h2, h3⟩; have Ba2 : Hid (Below x0.heap.size x0 a2) := Lib.hid (below_to Bb1.out h2); have hcv := conv_by n2 c2 h1.byAt h1.len; have W2 : Hid (WfT D2) := Lib.hid h1.byAt.lt; have Pa2 := Lib.hid (P1.out.keep h2); have Ba2d : Hid (b1.heap.size ≤ a2.heap.size) := Lib.hid h3; clear h1 h2 h3)
    | (go_at_call 19; (with_reducible refine (refText_any D2 W2.out (by have := Y2.out; omega) a2).mono ?_); rintro e b2 ⟨E2, k2, r2, rfl, h1, h2, h3⟩; have Pb2 := Lib.hid (Pa2.out.keep h2); have Q2 := Lib.hid h1; have hk2 : k2 ≤ 1313 := (by have := h1.len; have := Z2.out; omega); have Bb2 : Hid (Below x0.heap.size x0 b2) := Lib.hid (below_to Ba2.out h2); have hy2 : a1.heap.size ≤ b2.heap.size := Nat.le_trans hz1 (Nat.le_trans (Nat.le_trans (Nat.le_refl _) Ba2d.out) h3); clear h1 h2 h3 hcv)
    | (refine wpList_append_by rfl (.tmp 61) (.tmp 65) rfl a1.heap.size E1 k1 r1 (txL D1) rfl Pb2.out E2 k2 r2 (txL D2) rfl Q2.out.len Q2.out.byAt (by omega) hy2 ?_; intro G2 s2 d2 ho hg hr9; obtain ⟨q2, hq2⟩ : ∃ q, q = k1 + k2 := ⟨_, rfl⟩; rw [← hq2] at ho ⊢; have P2 := Lib.hid ho; have Bd2 : Hid (Below x0.heap.size x0 d2) := Lib.hid (Bb2.out.grown hg (Nat.le_trans Ba1.out.size hy2) (fun k hk => Nat.le_trans Ba1.out.size (Pb2.out.base k hk))); have hz2 : a1.heap.size ≤ d2.heap.size := Nat.le_trans hy2 hg.size; have hlq2 : q2 ≤ 2626 := (by omega); clear ho hg hr9 hq2)
    | (go_at_call 40; (with_reducible refine (HI3.out d2 Bd2.out).mono ?_); rintro e a3 ⟨A3, n3, c3, rfl, h1, h2, h3⟩; have Ba3 : Hid (Below x0.heap.size x0 a3) := Lib.hid (below_to Bd2.out h2); have hcv := conv_by n3 c3 h1.byAt h1.len; have W3 : Hid (WfT D3) := Lib.hid h1.byAt.lt; have Pa3 := Lib.hid (P2.out.keep h2); have Ba3d : Hid (d2.heap.size ≤ a3.heap.size) := Lib.hid h3; clear h1 h2 h3)
    | (go_at_call 19; (with_reducible refine (refText_any D3 W3.out (by have := Y3.out; omega) a3).mono ?_); rintro e b3 ⟨E3, k3, r3, rfl, h1, h2, h3⟩; have Pb3 := Lib.hid (Pa3.out.keep h2); have Q3 := Lib.hid h1; have hk3 : k3 ≤ 1313 := (by have := h1.len; have := Z3.out; omega); have Bb3 : Hid (Below x0.heap.size x0 b3) := Lib.hid (below_to Ba3.out h2); have hy3 : a1.heap.size ≤ b3.heap.size := Nat.le_trans hz2 (Nat.le_trans (Nat.le_trans (Nat.le_refl _) Ba3d.out) h3); clear h1 h2 h3 hcv)
    | (refine wpList_append_by rfl (.tmp 67) (.tmp 71) rfl a1.heap.size G2 q2 s2 (txL D1 ++ txL D2) rfl Pb3.out E3 k3 r3 (txL D3) rfl Q3.out.len Q3.out.byAt (by omega) hy3 ?_; intro G3 s3 d3 ho hg hr9; obtain ⟨q3, hq3⟩ : ∃ q, q = q2 + k3 := ⟨_, rfl⟩; rw [← hq3] at ho ⊢; have P3 := Lib.hid ho; have Bd3 : Hid (Below x0.heap.size x0 d3) := Lib.hid (Bb3.out.grown hg (Nat.le_trans Ba1.out.size hy3) (fun k hk => Nat.le_trans Ba1.out.size (Pb3.out.base k hk))); have hz3 : a1.heap.size ≤ d3.heap.size := Nat.le_trans hy3 hg.size; have hlq3 : q3 ≤ 3939 := (by omega); clear ho hg hr9 hq3)
    | (go_at_call 41; (with_reducible refine (HI4.out d3 Bd3.out).mono ?_); rintro e a4 ⟨A4, n4, c4, rfl, h1, h2, h3⟩; have Ba4 : Hid (Below x0.heap.size x0 a4) := Lib.hid (below_to Bd3.out h2); have hcv := conv_by n4 c4 h1.byAt h1.len; have W4 : Hid (WfT D4) := Lib.hid h1.byAt.lt; have Pa4 := Lib.hid (P3.out.keep h2); have Ba4d : Hid (d3.heap.size ≤ a4.heap.size) := Lib.hid h3; clear h1 h2 h3)
    | (go_at_call 19; (with_reducible refine (refText_any D4 W4.out (by have := Y4.out; omega) a4).mono ?_); rintro e b4 ⟨E4, k4, r4, rfl, h1, h2, h3⟩; have Pb4 := Lib.hid (Pa4.out.keep h2); have Q4 := Lib.hid h1; have hk4 : k4 ≤ 4020 := (by have := h1.len; have := Z4.out; omega); have Bb4 : Hid (Below x0.heap.size x0 b4) := Lib.hid (below_to Ba4.out h2); have hy4 : a1.heap.size ≤ b4.heap.size := Nat.le_trans hz3 (Nat.le_trans (Nat.le_trans (Nat.le_refl _) Ba4d.out) h3); clear h1 h2 h3 hcv)
    | (refine wpList_append_by rfl (.tmp 73) (.tmp 77) rfl a1.heap.size G3 q3 s3 ((txL D1 ++ txL D2) ++ txL D3) rfl Pb4.out E4 k4 r4 (txL D4) rfl Q4.out.len Q4.out.byAt (by omega) hy4 ?_; intro G4 s4 d4 ho hg hr9; obtain ⟨q4, hq4⟩ : ∃ q, q = q3 + k4 := ⟨_, rfl⟩; rw [← hq4] at ho ⊢; have P4 := Lib.hid ho; have Bd4 : Hid (Below x0.heap.size x0 d4) := Lib.hid (Bb4.out.grown hg (Nat.le_trans Ba1.out.size hy4) (fun k hk => Nat.le_trans Ba1.out.size (Pb4.out.base k hk))); have hz4 : a1.heap.size ≤ d4.heap.size := Nat.le_trans hy4 hg.size; have hlq4 : q4 ≤ 7959 := (by omega); clear ho hg hr9 hq4)
    | (go_at_call 42; (with_reducible refine (HI5.out d4 Bd4.out).mono ?_); rintro e a5 ⟨A5, n5, c5, rfl, h1, h2, h3⟩; have Ba5 : Hid (Below x0.heap.size x0 a5) := Lib.hid (below_to Bd4.out h2); have hcv := conv_by n5 c5 h1.byAt h1.len; have W5 : Hid (WfT D5) := Lib.hid h1.byAt.lt; have Pa5 := Lib.hid (P4.out.keep h2); have Ba5d : Hid (d4.heap.size ≤ a5.heap.size) := Lib.hid h3; clear h1 h2 h3)
    | (go_at_call 19; (with_reducible refine (refText_any D5 W5.out (by have := Y5.out; omega) a5).mono ?_); rintro e b5 ⟨E5, k5, r5, rfl, h1, h2, h3⟩; have Pb5 := Lib.hid (Pa5.out.keep h2); have Q5 := Lib.hid h1; have hk5 : k5 ≤ 1313 := (by have := h1.len; have := Z5.out; omega); have Bb5 : Hid (Below x0.heap.size x0 b5) := Lib.hid (below_to Ba5.out h2); have hy5 : a1.heap.size ≤ b5.heap.size := Nat.le_trans hz4 (Nat.le_trans (Nat.le_trans (Nat.le_refl _) Ba5d.out) h3); clear h1 h2 h3 hcv)
    | (refine wpList_append_by rfl (.tmp 79) (.tmp 83) rfl a1.heap.size G4 q4 s4 (((txL D1 ++ txL D2) ++ txL D3) ++ txL D4) rfl Pb5.out E5 k5 r5 (txL D5) rfl Q5.out.len Q5.out.byAt (by omega) hy5 ?_; intro G5 s5 d5 ho hg hr9; obtain ⟨q5, hq5⟩ : ∃ q, q = q4 + k5 := ⟨_, rfl⟩; rw [← hq5] at ho ⊢; have P5 := Lib.hid ho; have Bd5 : Hid (Below x0.heap.size x0 d5) := Lib.hid (Bb5.out.grown hg (Nat.le_trans Ba1.out.size hy5) (fun k hk => Nat.le_trans Ba1.out.size (Pb5.out.base k hk))); have hz5 : a1.heap.size ≤ d5.heap.size := Nat.le_trans hy5 hg.size; have hlq5 : q5 ≤ 9272 := (by omega); clear ho hg hr9 hq5)
    | (go_at_call 21; have hly := refLay_any 101 G5 q5 s5 _ d5 (Lib.hid P5.out.len) (by omega) (by decide) (Lib.hid P5.out.byAt); rw [show ((101 : Nat) : Int) = 101 from rfl] at hly; (with_reducible refine hly.mono ?_); rintro e vz ⟨Az, cz, rfl, ho, hb⟩; have HOz := Lib.hid ho; have HBz := Lib.hid (below_to (below_to HWW.out Bd5.out) hb); clear ho hb hly))
   go_ret
   have hz := HOz.out
   rw [← HEV.out] at hz
   exact ⟨Az, _, cz, rfl, hz.byAt, hz.len, HBz.out⟩
end Go.Proofs.YtifabkbdiiolfaaDoor
