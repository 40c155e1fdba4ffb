/-
  Layer segment: a chunk's numbers out of any bytes.
-/
import Derived.Laws.CopyRow
import Derived.BigRegion
import Derived.Deep.CutBlock
import Derived.Deep.DeepCutAuto
import Derived.Test.YtifabkbdiiolfaaDoorYoK
import Derived.Test.YtifabkbdiiolfaaDoorYlK
open List renaming getElem_toArray → qz0, getElem_cons_zero → qz1, getElem_cons_succ → qz2, setIfInBounds_toArray → qz3, set_cons_zero → qz4, set_cons_succ → qz5
set_option linter.unusedSimpArgs false
set_option linter.unusedVariables false
set_option maxRecDepth 8000
namespace Go.Proofs.YtifabkbdiiolfaaDoor
open Go.RowKit Go.WideShapes Col
theorem grp_canonS (q : List Nat) : ∀ k n r, (∀ x ∈ q, x < 256) → grp k q = some (n, r) → (0 < k → 0 < n) ∧ q = ub n ++ r := by
 induction q with
 | nil => intro k n r _ h; cases h
 | cons b q ih =>
  intro k n r hq h
  have hb := hq b (by simp)
  rw [grp] at h
  split at h
  ·cases h
  split at h
  ·split at h
   ·cases h
   ·injection h with h; injection h with h2 h3; subst h2; subst h3
    rename_i h4 h5
    exact ⟨fun hk => by omega, by rw [ub_lt h4]; rfl⟩
  ·rcases hg : grp (k + 1) q with _ | ⟨n', r'⟩
   ·rw [hg] at h; cases h
   ·rw [hg] at h
    injection h with h; injection h with h2 h3; subst h3
    obtain ⟨i1, i2⟩ := ih (k + 1) n' r' (fun x hx => hq x (by simp [hx])) hg
    have i1 := i1 (by omega)
    have h2 : b % 128 + 128 * n' = n := h2
    refine ⟨fun _ => by omega, ?_⟩
    rw [ub_ge (by omega), i2, ← h2]
    have e1 : (b % 128 + 128 * n') % 128 + 128 = b := by omega
    have e2 : (b % 128 + 128 * n') / 128 = n' := by omega
    rw [e1, e2]; rfl
theorem zz_uzS (n : Nat) : zz (uz n) = n := by
 unfold zz uz
 split <;> split <;> omega
theorem uP_canonS {m n : Nat} {q r : List Nat} (hq : ∀ x ∈ q, x < 256) (h : uP m q = some (n, r)) : q = ub n ++ r ∧ n ≤ m := ⟨(grp_canonS q 0 n r hq (uP_some h).1).2, (uP_some h).2⟩
theorem zP_canonS {x : Int} {q r : List Nat} (hq : ∀ x ∈ q, x < 256) (h : zP q = some (x, r)) : q = ub (zz x) ++ r ∧ Wf64 x := by
 obtain ⟨n, h1, rfl⟩ := zP_some h
 refine ⟨by rw [zz_uzS]; exact (grp_canonS q 0 n r hq h1).2, ?_⟩
 have := grp_u64 h1 hq
 unfold Wf64 uz
 split <;> omega
/-- A number's bits out of bytes: only such as a number has. -/
theorem tP_canonS {m : Nat} {q s r : List Nat} (hq : ∀ x ∈ q, x < 256) (h : tP m q = some (s, r)) : q = ub s.length ++ (s ++ r) ∧ s.length ≤ m := by
 unfold tP at h
 rcases hu : uP m q with _ | ⟨n, p⟩
 ·rw [hu] at h; cases h
 rw [hu] at h
 have h : (if n ≤ p.length then some (p.take n, p.drop n) else none) = some (s, r) := h
 split at h
 ·rename_i hn
  injection h with h; injection h with h1 h2
  subst h1; subst h2
  obtain ⟨e1, e2⟩ := uP_canonS hq hu
  rw [List.length_take, Nat.min_eq_left hn, List.take_append_drop]
  exact ⟨e1, e2⟩
 ·cases h
theorem Rd.highS {w w' : World} {g : Nat} {q : List Nat} {S : Nat → Prop} (h : Rd w g q) (hk : Kept S w w') (hS : ∀ k, S k → g < k) : Rd w' g q := by
 obtain ⟨A, C, h⟩ := h
 exact ⟨A, C, h.keep hk (fun e => by have := hS g e; omega) fun a ha h0 hs => by have := h.low a ha h0; have := hS _ hs; omega⟩
theorem Rd.gltS {w : World} {g : Nat} {q : List Nat} (h : Rd w g q) : g < w.heap.size := by obtain ⟨A, C, h⟩ := h; exact h.lt
theorem lv_intS (w : World) (g j : Nat) (v : Value) (h : w.cell? ⟨g, j, none⟩ = some v) : (loadVar 3 ⟨g, j, none⟩).run Tryd.prog w = .ok v w := by
 go_simp
theorem ylS {T : TypeId} (hlv : ∀ (w : World) (g j : Nat) (v : Value), w.cell? ⟨g, j, none⟩ = some v → (loadVar T ⟨g, j, none⟩).run Tryd.prog w = .ok v w) {ops : Array Oper} {S : World → Prop} {op : Oper} {a : Act} (hw : Region.wanted op (yielded ops a.tmps) = true) (x : Operand) (ho : op.op = .load T x) (g j : Nat) (hx : a.eval x = .pointer (some ⟨g, j, none⟩)) (v : Value)
  (hc : ∀ w, S w → w.cell? ⟨g, j, none⟩ = some v) : YieldsIf Tryd.prog ops S op v a :=
 .inl ⟨hw, fun w hw' => by
  unfold execOp
  simp only [ho, hx, Instr.loadAt, Instr.sureAddr, Sem.run_bind, Sem.run_pure, Result.andThen_ok, hlv w g j v (hc w hw')]⟩
/-- While a chunk is read: the reader, the result's own block, the segment. -/
structure RK (w : World) (g bs : Nat) (vb : Value) (p : Nat) (vc : Value) (foot : Nat) (q : List Nat) (wr : World) : Prop where
 rd : Rd wr g q
 res : wr.heap[w.heap.size]? = some (.cells #[.int .i64 0, .int .i64 0, .int .u64 0, .int .u64 0, .int .i64 0, .int .i64 0, .string { data := #[] }, .string { data := #[] }] 41 (0, 0))
 seg : wr.heap[bs]? = some (.cells #[vb, .int .i64 (p : Int), vc, .int .i64 (foot : Int)] 60 (0, 0))
 kept : Kept (fun k => k = g ∨ w.heap.size ≤ k) w wr
 lt : g < w.heap.size
 ne : bs ≠ g
section
variable {w wr w2 : World} {g bs p foot : Nat} {vb vc : Value} {q r : List Nat}
theorem RK.read (H : RK w g bs vb p vc foot q wr) (hr : Rd w2 g r) (hk : Kept (Only g) wr w2) : RK w g bs vb p vc foot r w2 :=
 ⟨hr, hk.heap H.res (fun h => by have h : w.heap.size = g := h; have := H.lt; omega), hk.heap H.seg (fun h => H.ne h), H.kept.trans (hk.mono fun k h => .inl (.inl h)), H.lt, H.ne⟩
theorem RK.next (H : RK w g bs vb p vc foot q wr) (hb : Below wr.heap.size wr w2) : RK w g bs vb p vc foot q w2 :=
 have K : Kept (fun _ => False) wr w2 := Kept.of_below hb
 ⟨H.rd.highS K (fun _ h => h.elim), K.heap H.res (fun h => h), K.heap H.seg (fun h => h), H.kept.trans (K.mono fun k h => h.elim), H.lt, H.ne⟩
theorem RK.drew (H : RK w g bs vb p vc foot q wr) : RK w g bs vb p vc foot q wr.drew := H.next (Below.refl _ _).drew
end
theorem RK.start {w : World} {g bs p foot : Nat} {vb vc : Value} {q : List Nat} (H : Rd w g q) (hs : w.heap[bs]? = some (.cells #[vb, .int .i64 (p : Int), vc, .int .i64 (foot : Int)] 60 (0, 0))) (hne : bs ≠ g) : RK w g bs vb p vc foot q (w.alloc (.cells #[.int .i64 0, .int .i64 0, .int .u64 0, .int .u64 0, .int .i64 0, .int .i64 0, .string { data := #[] }, .string { data := #[] }] 41)) :=
 ⟨H.highS (S := fun _ => False) ((Kept.refl _ _).alloc _) (fun _ h => h.elim), heap_alloc_new' w _, (Below.heap_alloc w _ bs (Array.getElem?_eq_some_iff.1 hs).1).trans hs, (Kept.refl _ _).alloc _, H.gltS, hne⟩
structure RKW (w : World) (g bs : Nat) (vb : Value) (p : Nat) (vc : Value) (foot : Nat) (q : List Nat) (wr : World) : Prop where
 base : RK w g bs vb p vc foot q wr
/-- The chunk's own box, too. -/
structure RKB (w : World) (g bs : Nat) (vb : Value) (p : Nat) (vc : Value) (foot : Nat) (q : List Nat) (b5 : Nat) (cs : Array Value) (wr : World) : Prop where
 base : RK w g bs vb p vc foot q wr
 row : wr.heap[b5]? = some (.cells cs 41 (0, 0)) ∧ w.heap.size < b5 ∧ bs ≠ b5
section
variable {w wr w2 : World} {g bs p foot b5 : Nat} {vb vc : Value} {q r : List Nat} {cs : Array Value}
theorem RKW.read (H : RKW w g bs vb p vc foot q wr) (hr : Rd w2 g r) (hk : Kept (Only g) wr w2) : RKW w g bs vb p vc foot r w2 := ⟨H.base.read hr hk⟩
theorem RKW.next (H : RKW w g bs vb p vc foot q wr) (hb : Below wr.heap.size wr w2) : RKW w g bs vb p vc foot q w2 := ⟨H.base.next hb⟩
theorem RKB.read (H : RKB w g bs vb p vc foot q b5 cs wr) (hr : Rd w2 g r) (hk : Kept (Only g) wr w2) : RKB w g bs vb p vc foot r b5 cs w2 :=
 ⟨H.base.read hr hk, hk.heap H.row.1 (fun h => by have h : b5 = g := h; have := H.base.lt; have := H.row.2.1; omega), H.row.2⟩
theorem RK.alloc (H : RK w g bs vb p vc foot q wr) : RKB w g bs vb p vc foot q wr.heap.size #[.int .i64 0, .int .i64 0, .int .u64 0, .int .u64 0, .int .i64 0, .int .i64 0, .string { data := #[] }, .string { data := #[] }] (wr.alloc (.cells #[.int .i64 0, .int .i64 0, .int .u64 0, .int .u64 0, .int .i64 0, .int .i64 0, .string { data := #[] }, .string { data := #[] }] 41)) :=
 ⟨H.next ((Below.refl _ _).alloc (Nat.le_refl _) _), heap_alloc_new' _ _, (Array.getElem?_eq_some_iff.1 H.res).1, fun e => by have h := (Array.getElem?_eq_some_iff.1 H.seg).1; omega⟩
theorem RKB.put (H : RKB w g bs vb p vc foot q b5 cs wr) (c2 : Array Value) : RKB w g bs vb p vc foot q b5 c2 (wr.setRow b5 c2) := by
 have hk : Kept (fun k => k = b5) wr (wr.setRow b5 c2) := kept_setRow (S := fun k => k = b5) (Kept.refl _ _) (.inl rfl) _
 have h1 := H.row.2.1
 have h2 := H.base.lt
 exact ⟨⟨H.base.rd.highS hk (fun k h => by have h : k = b5 := h; omega), hk.heap H.base.res (fun h => by have h : w.heap.size = b5 := h; omega), hk.heap H.base.seg (fun h => H.row.2.2 h), H.base.kept.trans (hk.mono fun k h => .inl (.inr (by have h : k = b5 := h; omega))), H.base.lt, H.base.ne⟩, setRow_heap _ _ _ _ _ _ H.row.1, H.row.2⟩
end
/-- What was read, its numbers not yet held against one another. -/
structure RKF (w : World) (g bs : Nat) (vb : Value) (p : Nat) (vc : Value) (foot : Nat) (Q : List Nat) (b5 : Nat) (wr : World) : Prop where
 ex : ∃ (rows pl oa ob : Nat) (ta tz : Int) (ka kz q8 : List Nat), RKB w g bs vb p vc foot q8 b5 #[.int .i64 (rows : Int), .int .i64 (pl : Int), .int .u64 (oa : Int), .int .u64 (ob : Int), .int .i64 ta, .int .i64 tz, .string (strB ka), .string (strB kz)] wr ∧ ckP foot Q = (if ckG foot (⟨rows, pl, oa, ob, ta, tz, strB ka, strB kz⟩ : Ck) = true then some ((⟨rows, pl, oa, ob, ta, tz, strB ka, strB kz⟩ : Ck), q8) else none) ∧ rows ≤ 64 ∧ oa ≤ 1099511627775 ∧ (q8.length ≤ 1000000 ∧ q8.length + 8 ≤ Q.length)
/-- How a reading of a chunk ends. -/
def KEnds (g : Nat) (w : World) (o : Option (Ck × List Nat)) (e : Ending) (w' : World) : Prop := match o with
 | some (x, r) => e = .returned (.agg #[.int .i64 (x.rows : Int), .int .i64 (x.pl : Int), .int .u64 (x.oa : Int), .int .u64 (x.ob : Int), .int .i64 x.ta, .int .i64 x.tz, .string x.ka, .string x.kz]) ∧ Rd w' g r ∧ Kept (fun k => k = g ∨ w.heap.size ≤ k) w w'
 | none => e = .panicked [gu g] ∧ Gone w' g ∧ Kept (fun k => k = g ∨ w.heap.size ≤ k) w w'
set_option maxHeartbeats 16000000 in
theorem readChunk_all (g bs p foot : Nat) (vb vc : Value) (hft : Hid (foot < 9223372036854775808)) (q : List Nat) (hql : q.length ≤ 1000000) (hne : bs ≠ g) (w : World) (HSG : Hid (w.heap[bs]? = some (.cells #[vb, .int .i64 (p : Int), vc, .int .i64 (foot : Int)] 60 (0, 0)))) (H : Hid (Rd w g q)) :
  Calls Tryd.prog 50 #[.pointer (some ⟨bs, 0, none⟩), .pointer (some ⟨g, 0, none⟩)] w (KEnds g w (ckP foot q)) := by
 have HX : Hid (RKW w g bs vb p vc foot q _) := Lib.hid ⟨RK.start H.out HSG.out hne⟩
 have HWF : Hid (IntKind.u64.wrap (foot : Int) = (foot : Int)) := Lib.hid (by have := hft.out; rw [IntKind.wrap_u64]; omega)
 obtain ⟨Q, hQ⟩ : ∃ Q, Q = q := ⟨_, rfl⟩
 rw [← hQ]
 have HV : Hid (ckP foot Q = (uP 64 q).bind fun y => ck2 foot y.1 y.2) := Lib.hid (by rw [hQ]; rfl)
 have HL : Hid (q.length ≤ 1000000 ∧ q.length + 0 ≤ Q.length) := Lib.hid (by rw [hQ]; omega)
 clear hQ hql
 go_enter Tryd.func50, Tryd.ntmps50
 go_upto_region 1 with fail
 go_cut [5] (fun s5 wx => ∃ b5, s5 = .pointer (some ⟨b5, 0, none⟩) ∧ Hid (RKF w g bs vb p vc foot Q b5 wx))
 case first =>
  refine wp_region_held_drew (S := fun w => w.heap[bs]? = some (.cells #[vb, .int .i64 (p : Int), vc, .int .i64 (foot : Int)] 60 (0, 0))) (by kernel_rfl) HX.out.base.seg (fun hHeld => ?_)
  replace HX := Lib.hid (HX.out.next (Below.refl _ _).drew)
  obtain ⟨v0, hv0⟩ : ∃ v0, v0 = (w.alloc (.cells #[.int .i64 0, .int .i64 0, .int .u64 0, .int .u64 0, .int .i64 0, .int .i64 0, .string { data := #[] }, .string { data := #[] }] 41)).drew := ⟨_, rfl⟩
  rw [← hv0] at HX hHeld ⊢
  clear hv0
  refine wpAnyH_take (i := 0) (v := .pointer (some ⟨g, 0, none⟩)) rfl (by kernel_rfl) (by kernel_rfl) (by kernel_rfl) (fun _ _ _ h => h) (Or.inl ⟨by rfl, fun _ _ => rfl⟩) hHeld ?_
  try dsimp only
  try simp only [Act.put, qz0, qz1, qz2, qz3, qz4, qz5]
  refine wpAnyH_take (i := 3) (v := .pointer (some ⟨g, 0, none⟩)) rfl (by kernel_rfl) (by kernel_rfl) (by kernel_rfl) (fun _ _ _ h => h) (Or.inl ⟨by rfl, fun _ _ => rfl⟩) hHeld ?_
  try dsimp only
  try simp only [Act.put, qz0, qz1, qz2, qz3, qz4, qz5]
  refine wpAnyH_take (i := 4) (v := .pointer (some ⟨bs, 0, none⟩)) rfl (by kernel_rfl) (by kernel_rfl) (by kernel_rfl) (fun _ _ _ h => h) (Or.inl ⟨by rfl, fun _ _ => rfl⟩) hHeld ?_
  try dsimp only
  try simp only [Act.put, qz0, qz1, qz2, qz3, qz4, qz5]
  refine wpAnyH_take (i := 5) (v := .pointer (some ⟨bs, 0, none⟩)) rfl (by kernel_rfl) (by kernel_rfl) (by kernel_rfl) (fun _ _ _ h => h) (Or.inl ⟨by rfl, fun w _ => by go_simp⟩) hHeld ?_
  try dsimp only
  try simp only [Act.put, qz0, qz1, qz2, qz3, qz4, qz5]
  refine wpAnyH_take (i := 6) (v := .pointer (some ⟨bs, 3, none⟩)) rfl (by kernel_rfl) (by kernel_rfl) (by kernel_rfl) (fun _ _ _ h => h) (Or.inl ⟨by rfl, fun w _ => by go_simp⟩) hHeld ?_
  try dsimp only
  try simp only [Act.put, qz0, qz1, qz2, qz3, qz4, qz5]
  refine wpAnyH_take (i := 7) (v := .int .i64 (foot : Int)) rfl (by kernel_rfl) (by kernel_rfl) (by kernel_rfl) (fun _ _ _ h => h) (ylS lv_intS rfl (.tmp 12) rfl bs 3 rfl _ (fun w hw => by rw [cell_of_row _ _ _ _ _ _ hw]; rfl)) hHeld ?_
  try dsimp only
  try simp only [Act.put, qz0, qz1, qz2, qz3, qz4, qz5]
  refine wpAnyH_take (i := 8) (v := .int .u64 (foot : Int)) rfl (by kernel_rfl) (by kernel_rfl) (by kernel_rfl) (fun _ _ _ h => h) (Or.inl ⟨by rfl, fun w _ => by have h9 := HWF.out; go_simp⟩) hHeld ?_
  try dsimp only
  try simp only [Act.put, qz0, qz1, qz2, qz3, qz4, qz5]
  refine wpAnyH_take (i := 11) (v := .pointer (some ⟨g, 0, none⟩)) rfl (by kernel_rfl) (by kernel_rfl) (by kernel_rfl) (fun _ _ _ h => h) (Or.inl ⟨by rfl, fun _ _ => rfl⟩) hHeld ?_
  try dsimp only
  try simp only [Act.put, qz0, qz1, qz2, qz3, qz4, qz5]
  refine wpAnyH_take (i := 13) (v := .pointer (some ⟨g, 0, none⟩)) rfl (by kernel_rfl) (by kernel_rfl) (by kernel_rfl) (fun _ _ _ h => h) (Or.inl ⟨by rfl, fun _ _ => rfl⟩) hHeld ?_
  try dsimp only
  try simp only [Act.put, qz0, qz1, qz2, qz3, qz4, qz5]
  refine wpAnyH_take (i := 15) (v := .pointer (some ⟨g, 0, none⟩)) rfl (by kernel_rfl) (by kernel_rfl) (by kernel_rfl) (fun _ _ _ h => h) (Or.inl ⟨by rfl, fun _ _ => rfl⟩) hHeld ?_
  try dsimp only
  try simp only [Act.put, qz0, qz1, qz2, qz3, qz4, qz5]
  refine wpAnyH_take (i := 17) (v := .pointer (some ⟨g, 0, none⟩)) rfl (by kernel_rfl) (by kernel_rfl) (by kernel_rfl) (fun _ _ _ h => h) (Or.inl ⟨by rfl, fun _ _ => rfl⟩) hHeld ?_
  try dsimp only
  try simp only [Act.put, qz0, qz1, qz2, qz3, qz4, qz5]
  refine wpAnyH_take (i := 19) (v := .pointer (some ⟨g, 0, none⟩)) rfl (by kernel_rfl) (by kernel_rfl) (by kernel_rfl) (fun _ _ _ h => h) (Or.inl ⟨by rfl, fun _ _ => rfl⟩) hHeld ?_
  try dsimp only
  try simp only [Act.put, qz0, qz1, qz2, qz3, qz4, qz5]
  refine wpAnyH_take (i := 21) (v := .pointer (some ⟨g, 0, none⟩)) rfl (by kernel_rfl) (by kernel_rfl) (by kernel_rfl) (fun _ _ _ h => h) (Or.inl ⟨by rfl, fun _ _ => rfl⟩) hHeld ?_
  try dsimp only
  try simp only [Act.put, qz0, qz1, qz2, qz3, qz4, qz5]
  refine wpAnyH_ready (rs := [1, 24]) (by kernel_rfl) (by simp) (AllReadyH.cons rfl (fun K hK => ?_) (AllReadyH.cons rfl (fun K hK => ?_) AllReadyH.nil))
  ·skip
   go_simp
   rcases hu : uP 64 q with _ | ⟨rows, q1⟩
   ·have HVN : Hid (ckP foot Q = none) := Lib.hid (by rw [HV.out]; rw [hu]; rfl)
    refine (uint_no g 64 q (Lib.hid hu) q.length (Lib.hid rfl) (by have := HL.out; omega) _ (Lib.hid HX.out.base.rd)).mono ?_
    rintro e w1 ⟨rfl, h1, h2⟩
    refine ⟨rfl, ?_⟩
    rw [HVN.out]
    exact ⟨rfl, h1, HX.out.base.kept.trans (h2.mono fun k h => .inl (.inl h))⟩
   replace HV : Hid (ckP foot Q = ck2 foot rows q1) := Lib.hid (by rw [HV.out]; rw [hu]; rfl)
   have hcn := uP_canonS HX.out.base.rd.lt hu
   have HR64 : Hid (rows ≤ 64) := Lib.hid hcn.2
   have HW1 : Hid (IntKind.i64.wrap (rows : Int) = (rows : Int)) := Lib.hid (by have := HR64.out; rw [IntKind.wrap_i64]; omega)
   have HUY := Lib.hid fun w H => uint_yes g 64 rows q q1 (Lib.hid hu) (by have := HL.out; omega) w H
   replace HL : Hid (q1.length ≤ 1000000 ∧ q1.length + 1 ≤ Q.length) := Lib.hid (by have := HL.out; have h9 := congrArg List.length hcn.1; simp only [List.length_append] at h9; have hp := ub_pos rows; omega)
   clear hu hcn
   refine (HUY.out _ (Lib.hid HX.out.base.rd)).mono ?_
   rintro e v1 hy
   obtain ⟨rfl, HR, HK⟩ := Yes.rd hy
   replace HX := Lib.hid (HX.out.read HR.out HK.out)
   clear hy HR HK HUY
   refine hK.out _ _ HX.out.base.seg (fun hHeld => ?_)
   clear hK K
   try dsimp only
   try simp only [Act.put, qz0, qz1, qz2, qz3, qz4, qz5]
   refine wpAnyH_take (i := 2) (v := .int .i64 (rows : Int)) rfl (by kernel_rfl) (by kernel_rfl) (by kernel_rfl) (fun _ _ _ h => h) (Or.inl ⟨by rfl, fun w _ => by have h9 := HW1.out; go_simp⟩) hHeld ?_
   try dsimp only
   try simp only [Act.put, qz0, qz1, qz2, qz3, qz4, qz5]
   refine wpAnyH_ready (rs := [9, 24]) (by kernel_rfl) (by simp) (AllReadyH.cons rfl (fun K hK => ?_) (AllReadyH.cons rfl (fun K hK => ?_) AllReadyH.nil))
   ·skip
    go_simp
    rcases hu : uP foot q1 with _ | ⟨pl, q2⟩
    ·have HVN : Hid (ckP foot Q = none) := Lib.hid (by rw [HV.out]; unfold ck2; rw [hu]; rfl)
     refine (uint_no g foot q1 (Lib.hid hu) q1.length (Lib.hid rfl) (by have := HL.out; omega) _ (Lib.hid HX.out.base.rd)).mono ?_
     rintro e w1 ⟨rfl, h1, h2⟩
     refine ⟨rfl, ?_⟩
     rw [HVN.out]
     exact ⟨rfl, h1, HX.out.base.kept.trans (h2.mono fun k h => .inl (.inl h))⟩
    replace HV : Hid (ckP foot Q = ck3 foot rows pl q2) := Lib.hid (by rw [HV.out]; unfold ck2; rw [hu]; rfl)
    have hcn := uP_canonS HX.out.base.rd.lt hu
    have HPF : Hid (pl ≤ foot) := Lib.hid hcn.2
    have HW2 : Hid (IntKind.i64.wrap (pl : Int) = (pl : Int)) := Lib.hid (by have := HPF.out; have := hft.out; rw [IntKind.wrap_i64]; omega)
    have HUY := Lib.hid fun w H => uint_yes g foot pl q1 q2 (Lib.hid hu) (by have := HL.out; omega) w H
    replace HL : Hid (q2.length ≤ 1000000 ∧ q2.length + 2 ≤ Q.length) := Lib.hid (by have := HL.out; have h9 := congrArg List.length hcn.1; simp only [List.length_append] at h9; have hp := ub_pos pl; omega)
    clear hu hcn
    refine (HUY.out _ (Lib.hid HX.out.base.rd)).mono ?_
    rintro e v9 hy
    obtain ⟨rfl, HR, HK⟩ := Yes.rd hy
    replace HX := Lib.hid (HX.out.read HR.out HK.out)
    clear hy HR HK HUY
    refine hK.out _ _ HX.out.base.seg (fun hHeld => ?_)
    clear hK K
    try dsimp only
    try simp only [Act.put, qz0, qz1, qz2, qz3, qz4, qz5]
    refine wpAnyH_take (i := 10) (v := .int .i64 (pl : Int)) rfl (by kernel_rfl) (by kernel_rfl) (by kernel_rfl) (fun _ _ _ h => h) (Or.inl ⟨by rfl, fun w _ => by have h9 := HW2.out; go_simp⟩) hHeld ?_
    try dsimp only
    try simp only [Act.put, qz0, qz1, qz2, qz3, qz4, qz5]
    refine wpAnyH_ready (rs := [12, 24]) (by kernel_rfl) (by simp) (AllReadyH.cons rfl (fun K hK => ?_) (AllReadyH.cons rfl (fun K hK => ?_) AllReadyH.nil))
    ·skip
     go_simp
     rcases hu : uP 1099511627775 q2 with _ | ⟨oa, q3⟩
     ·have HVN : Hid (ckP foot Q = none) := Lib.hid (by rw [HV.out]; unfold ck3; rw [hu]; rfl)
      refine (uint_no g 1099511627775 q2 (Lib.hid hu) q2.length (Lib.hid rfl) (by have := HL.out; omega) _ (Lib.hid HX.out.base.rd)).mono ?_
      rintro e w1 ⟨rfl, h1, h2⟩
      refine ⟨rfl, ?_⟩
      rw [HVN.out]
      exact ⟨rfl, h1, HX.out.base.kept.trans (h2.mono fun k h => .inl (.inl h))⟩
     replace HV : Hid (ckP foot Q = ck4 foot rows pl oa q3) := Lib.hid (by rw [HV.out]; unfold ck3; rw [hu]; rfl)
     have hcn := uP_canonS HX.out.base.rd.lt hu
     have HOA : Hid (oa ≤ 1099511627775) := Lib.hid hcn.2
     have HUY := Lib.hid fun w H => uint_yes g 1099511627775 oa q2 q3 (Lib.hid hu) (by have := HL.out; omega) w H
     replace HL : Hid (q3.length ≤ 1000000 ∧ q3.length + 3 ≤ Q.length) := Lib.hid (by have := HL.out; have h9 := congrArg List.length hcn.1; simp only [List.length_append] at h9; have hp := ub_pos oa; omega)
     clear hu hcn
     refine (HUY.out _ (Lib.hid HX.out.base.rd)).mono ?_
     rintro e v12 hy
     obtain ⟨rfl, HR, HK⟩ := Yes.rd hy
     replace HX := Lib.hid (HX.out.read HR.out HK.out)
     clear hy HR HK HUY
     refine hK.out _ _ HX.out.base.seg (fun hHeld => ?_)
     clear hK K
     try dsimp only
     try simp only [Act.put, qz0, qz1, qz2, qz3, qz4, qz5]
     refine wpAnyH_ready (rs := [14, 24]) (by kernel_rfl) (by simp) (AllReadyH.cons rfl (fun K hK => ?_) (AllReadyH.cons rfl (fun K hK => ?_) AllReadyH.nil))
     ·skip
      go_simp
      rcases hu : uP 1099511627775 q3 with _ | ⟨ob, q4⟩
      ·have HVN : Hid (ckP foot Q = none) := Lib.hid (by rw [HV.out]; unfold ck4; rw [hu]; rfl)
       refine (uint_no g 1099511627775 q3 (Lib.hid hu) q3.length (Lib.hid rfl) (by have := HL.out; omega) _ (Lib.hid HX.out.base.rd)).mono ?_
       rintro e w1 ⟨rfl, h1, h2⟩
       refine ⟨rfl, ?_⟩
       rw [HVN.out]
       exact ⟨rfl, h1, HX.out.base.kept.trans (h2.mono fun k h => .inl (.inl h))⟩
      replace HV : Hid (ckP foot Q = ck5 foot rows pl oa ob q4) := Lib.hid (by rw [HV.out]; unfold ck4; rw [hu]; rfl)
      have hcn := uP_canonS HX.out.base.rd.lt hu
      have HOB : Hid (ob ≤ 1099511627775) := Lib.hid hcn.2
      have HUY := Lib.hid fun w H => uint_yes g 1099511627775 ob q3 q4 (Lib.hid hu) (by have := HL.out; omega) w H
      replace HL : Hid (q4.length ≤ 1000000 ∧ q4.length + 4 ≤ Q.length) := Lib.hid (by have := HL.out; have h9 := congrArg List.length hcn.1; simp only [List.length_append] at h9; have hp := ub_pos ob; omega)
      clear hu hcn
      refine (HUY.out _ (Lib.hid HX.out.base.rd)).mono ?_
      rintro e v14 hy
      obtain ⟨rfl, HR, HK⟩ := Yes.rd hy
      replace HX := Lib.hid (HX.out.read HR.out HK.out)
      clear hy HR HK HUY
      refine hK.out _ _ HX.out.base.seg (fun hHeld => ?_)
      clear hK K
      try dsimp only
      try simp only [Act.put, qz0, qz1, qz2, qz3, qz4, qz5]
      refine wpAnyH_ready (rs := [16, 24]) (by kernel_rfl) (by simp) (AllReadyH.cons rfl (fun K hK => ?_) (AllReadyH.cons rfl (fun K hK => ?_) AllReadyH.nil))
      ·skip
       go_simp
       rcases hu : zP q4 with _ | ⟨ta, q5⟩
       ·have HVN : Hid (ckP foot Q = none) := Lib.hid (by rw [HV.out]; unfold ck5; rw [hu]; rfl)
        refine (int_no g q4 (Lib.hid hu) q4.length (Lib.hid rfl) (by have := HL.out; omega) _ (Lib.hid HX.out.base.rd)).mono ?_
        rintro e w1 ⟨rfl, h1, h2⟩
        refine ⟨rfl, ?_⟩
        rw [HVN.out]
        exact ⟨rfl, h1, HX.out.base.kept.trans (h2.mono fun k h => .inl (.inl h))⟩
       replace HV : Hid (ckP foot Q = ck6 foot rows pl oa ob ta q5) := Lib.hid (by rw [HV.out]; unfold ck5; rw [hu]; rfl)
       have hcn := zP_canonS HX.out.base.rd.lt hu
       have HWta : Hid (Wf64 ta) := Lib.hid hcn.2
       have HUY := Lib.hid fun w H => int_yes g ta q4 q5 (Lib.hid hu) (by have := HL.out; omega) w H
       replace HL : Hid (q5.length ≤ 1000000 ∧ q5.length + 5 ≤ Q.length) := Lib.hid (by have := HL.out; have h9 := congrArg List.length hcn.1; simp only [List.length_append] at h9; have hp := ub_pos (zz ta); omega)
       clear hu hcn
       refine (HUY.out _ (Lib.hid HX.out.base.rd)).mono ?_
       rintro e v16 hy
       obtain ⟨rfl, HR, HK⟩ := Yes.rd hy
       replace HX := Lib.hid (HX.out.read HR.out HK.out)
       clear hy HR HK HUY
       refine hK.out _ _ HX.out.base.seg (fun hHeld => ?_)
       clear hK K
       try dsimp only
       try simp only [Act.put, qz0, qz1, qz2, qz3, qz4, qz5]
       refine wpAnyH_ready (rs := [18, 24]) (by kernel_rfl) (by simp) (AllReadyH.cons rfl (fun K hK => ?_) (AllReadyH.cons rfl (fun K hK => ?_) AllReadyH.nil))
       ·skip
        go_simp
        rcases hu : zP q5 with _ | ⟨tz, q6⟩
        ·have HVN : Hid (ckP foot Q = none) := Lib.hid (by rw [HV.out]; unfold ck6; rw [hu]; rfl)
         refine (int_no g q5 (Lib.hid hu) q5.length (Lib.hid rfl) (by have := HL.out; omega) _ (Lib.hid HX.out.base.rd)).mono ?_
         rintro e w1 ⟨rfl, h1, h2⟩
         refine ⟨rfl, ?_⟩
         rw [HVN.out]
         exact ⟨rfl, h1, HX.out.base.kept.trans (h2.mono fun k h => .inl (.inl h))⟩
        replace HV : Hid (ckP foot Q = ck7 foot rows pl oa ob ta tz q6) := Lib.hid (by rw [HV.out]; unfold ck6; rw [hu]; rfl)
        have hcn := zP_canonS HX.out.base.rd.lt hu
        have HWtz : Hid (Wf64 tz) := Lib.hid hcn.2
        have HUY := Lib.hid fun w H => int_yes g tz q5 q6 (Lib.hid hu) (by have := HL.out; omega) w H
        replace HL : Hid (q6.length ≤ 1000000 ∧ q6.length + 6 ≤ Q.length) := Lib.hid (by have := HL.out; have h9 := congrArg List.length hcn.1; simp only [List.length_append] at h9; have hp := ub_pos (zz tz); omega)
        clear hu hcn
        refine (HUY.out _ (Lib.hid HX.out.base.rd)).mono ?_
        rintro e v18 hy
        obtain ⟨rfl, HR, HK⟩ := Yes.rd hy
        replace HX := Lib.hid (HX.out.read HR.out HK.out)
        clear hy HR HK HUY
        refine hK.out _ _ HX.out.base.seg (fun hHeld => ?_)
        clear hK K
        try dsimp only
        try simp only [Act.put, qz0, qz1, qz2, qz3, qz4, qz5]
        refine wpAnyH_ready (rs := [20, 24]) (by kernel_rfl) (by simp) (AllReadyH.cons rfl (fun K hK => ?_) (AllReadyH.cons rfl (fun K hK => ?_) AllReadyH.nil))
        ·skip
         go_simp
         rcases hu : tP 32 q6 with _ | ⟨ka, q7⟩
         ·have HVN : Hid (ckP foot Q = none) := Lib.hid (by rw [HV.out]; unfold ck7; rw [hu]; rfl)
          refine (text_no g 32 (by omega) q6 (Lib.hid hu) q6.length (Lib.hid rfl) (by have := HL.out; omega) _ (Lib.hid HX.out.base.rd)).mono ?_
          rintro e w1 ⟨rfl, h1, h2⟩
          refine ⟨rfl, ?_⟩
          rw [HVN.out]
          exact ⟨rfl, h1, HX.out.base.kept.trans (h2.mono fun k h => .inl (.inl h))⟩
         replace HV : Hid (ckP foot Q = ck8 foot rows pl oa ob ta tz ka q7) := Lib.hid (by rw [HV.out]; unfold ck7; rw [hu]; rfl)
         have hcn := tP_canonS HX.out.base.rd.lt hu
         have HTka : Hid (ka.length ≤ 32) := Lib.hid hcn.2
         have HUY := Lib.hid fun w H => text_yes g 32 (by omega) q6 ka q7 (Lib.hid hu) (by have := HL.out; omega) w H
         replace HL : Hid (q7.length ≤ 1000000 ∧ q7.length + 7 ≤ Q.length) := Lib.hid (by have := HL.out; have h9 := congrArg List.length hcn.1; simp only [List.length_append] at h9; have hp := ub_pos ka.length; omega)
         clear hu hcn
         refine (HUY.out _ (Lib.hid HX.out.base.rd)).mono ?_
         rintro e v20 hy
         obtain ⟨rfl, HR, HK⟩ := Yes.rd hy
         replace HX := Lib.hid (HX.out.read HR.out HK.out)
         clear hy HR HK HUY
         refine hK.out _ _ HX.out.base.seg (fun hHeld => ?_)
         clear hK K
         try dsimp only
         try simp only [Act.put, qz0, qz1, qz2, qz3, qz4, qz5]
         refine wpAnyH_ready (rs := [22, 24]) (by kernel_rfl) (by simp) (AllReadyH.cons rfl (fun K hK => ?_) (AllReadyH.cons rfl (fun K hK => ?_) AllReadyH.nil))
         ·skip
          go_simp
          rcases hu : tP 32 q7 with _ | ⟨kz, q8⟩
          ·have HVN : Hid (ckP foot Q = none) := Lib.hid (by rw [HV.out]; unfold ck8; rw [hu]; rfl)
           refine (text_no g 32 (by omega) q7 (Lib.hid hu) q7.length (Lib.hid rfl) (by have := HL.out; omega) _ (Lib.hid HX.out.base.rd)).mono ?_
           rintro e w1 ⟨rfl, h1, h2⟩
           refine ⟨rfl, ?_⟩
           rw [HVN.out]
           exact ⟨rfl, h1, HX.out.base.kept.trans (h2.mono fun k h => .inl (.inl h))⟩
          replace HV : Hid (ckP foot Q = if ckG foot (⟨rows, pl, oa, ob, ta, tz, strB ka, strB kz⟩ : Ck) = true then some ((⟨rows, pl, oa, ob, ta, tz, strB ka, strB kz⟩ : Ck), q8) else none) := Lib.hid (by rw [HV.out]; unfold ck8; rw [hu]; rfl)
          have hcn := tP_canonS HX.out.base.rd.lt hu
          have HTkz : Hid (kz.length ≤ 32) := Lib.hid hcn.2
          have HUY := Lib.hid fun w H => text_yes g 32 (by omega) q7 kz q8 (Lib.hid hu) (by have := HL.out; omega) w H
          replace HL : Hid (q8.length ≤ 1000000 ∧ q8.length + 8 ≤ Q.length) := Lib.hid (by have := HL.out; have h9 := congrArg List.length hcn.1; simp only [List.length_append] at h9; have hp := ub_pos kz.length; omega)
          clear hu hcn
          refine (HUY.out _ (Lib.hid HX.out.base.rd)).mono ?_
          rintro e v22 hy
          obtain ⟨rfl, HR, HK⟩ := Yes.rd hy
          replace HX := Lib.hid (HX.out.read HR.out HK.out)
          clear hy HR HK HUY
          refine hK.out _ _ HX.out.base.seg (fun hHeld => ?_)
          clear hK K
          try dsimp only
          try simp only [Act.put, qz0, qz1, qz2, qz3, qz4, qz5]
          refine wpAnyH_take (i := 23) (v := .agg #[.int .i64 (rows : Int), .int .i64 (pl : Int), .int .u64 (oa : Int), .int .u64 (ob : Int), .int .i64 ta, .int .i64 tz, .string (strB ka), .string (strB kz)]) rfl (by kernel_rfl) (by kernel_rfl) (by kernel_rfl) (fun _ _ _ h => h) (Or.inl ⟨by rfl, fun w _ => by go_simp⟩) hHeld ?_
          try dsimp only
          try simp only [Act.put, qz0, qz1, qz2, qz3, qz4, qz5]
          refine wpAnyH_ready (rs := [24]) (by kernel_rfl) (by simp) (AllReadyH.cons rfl (fun K hK => ?_) AllReadyH.nil)
          go_simp
          have HY := Lib.hid (HX.out.base.alloc)
          obtain ⟨b5, hb5⟩ : ∃ b5, b5 = v22.heap.size := ⟨_, rfl⟩
          have hv5 := HY.out.base.seg
          rw [← hb5] at HY ⊢
          generalize v22.alloc (.cells #[.int .i64 0, .int .i64 0, .int .u64 0, .int .u64 0, .int .i64 0, .int .i64 0, .string { data := #[] }, .string { data := #[] }] 41) = va at *
          clear HX hb5
          have HX := HY
          clear HY
          refine hK.out _ _ hv5 (fun hHeld => ?_)
          clear hK K
          try dsimp only
          try simp only [Act.put, qz0, qz1, qz2, qz3, qz4, qz5]
          refine wpAnyH_ready (rs := [25]) (by kernel_rfl) (by simp) (AllReadyH.cons rfl (fun K hK => ?_) AllReadyH.nil)
          rw [if_pos (by rfl)]
          refine wp_store_row 41 (.tmp 5) (.tmp 29) rfl b5 #[.int .i64 (rows : Int), .int .i64 (pl : Int), .int .u64 (oa : Int), .int .u64 (ob : Int), .int .i64 ta, .int .i64 tz, .string (strB ka), .string (strB kz)] rfl rfl _ _ HX.out.row.1 (iCkS (⟨rows, pl, oa, ob, ta, tz, strB ka, strB kz⟩ : Ck)) (sizeCkS (⟨rows, pl, oa, ob, ta, tz, strB ka, strB kz⟩ : Ck)) (oneCkS (⟨rows, pl, oa, ob, ta, tz, strB ka, strB kz⟩ : Ck)) ?_
          have HX3 := Lib.hid (HX.out.put #[.int .i64 (rows : Int), .int .i64 (pl : Int), .int .u64 (oa : Int), .int .u64 (ob : Int), .int .i64 ta, .int .i64 tz, .string (strB ka), .string (strB kz)])
          refine hK.out _ _ HX3.out.base.seg (fun hHeld => ?_)
          clear hK K
          refine wpAnyH_done (by kernel_rfl) ?_ _
          clear hHeld HX
          go_wp2_with fail
          go_meet
          case rel => exact ⟨b5, rfl, Lib.hid ⟨⟨rows, pl, oa, ob, ta, tz, ka, kz, q8, HX3.out, HV.out, HR64.out, HOA.out, HL.out⟩⟩⟩
         ·skip
          go_simp
          have HY := Lib.hid (HX.out.base.alloc)
          obtain ⟨b5, hb5⟩ : ∃ b5, b5 = v20.heap.size := ⟨_, rfl⟩
          have hv5 := HY.out.base.seg
          rw [← hb5] at HY ⊢
          generalize v20.alloc (.cells #[.int .i64 0, .int .i64 0, .int .u64 0, .int .u64 0, .int .i64 0, .int .i64 0, .string { data := #[] }, .string { data := #[] }] 41) = va at *
          clear HX hb5
          have HX := HY
          clear HY
          refine hK.out _ _ hv5 (fun hHeld => ?_)
          clear hK K
          try dsimp only
          try simp only [Act.put, qz0, qz1, qz2, qz3, qz4, qz5]
          refine wpAnyH_ready (rs := [22]) (by kernel_rfl) (by simp) (AllReadyH.cons rfl (fun K hK => ?_) AllReadyH.nil)
          go_simp
          rcases hu : tP 32 q7 with _ | ⟨kz, q8⟩
          ·have HVN : Hid (ckP foot Q = none) := Lib.hid (by rw [HV.out]; unfold ck8; rw [hu]; rfl)
           refine (text_no g 32 (by omega) q7 (Lib.hid hu) q7.length (Lib.hid rfl) (by have := HL.out; omega) _ (Lib.hid HX.out.base.rd)).mono ?_
           rintro e w1 ⟨rfl, h1, h2⟩
           refine ⟨rfl, ?_⟩
           rw [HVN.out]
           exact ⟨rfl, h1, HX.out.base.kept.trans (h2.mono fun k h => .inl (.inl h))⟩
          replace HV : Hid (ckP foot Q = if ckG foot (⟨rows, pl, oa, ob, ta, tz, strB ka, strB kz⟩ : Ck) = true then some ((⟨rows, pl, oa, ob, ta, tz, strB ka, strB kz⟩ : Ck), q8) else none) := Lib.hid (by rw [HV.out]; unfold ck8; rw [hu]; rfl)
          have hcn := tP_canonS HX.out.base.rd.lt hu
          have HTkz : Hid (kz.length ≤ 32) := Lib.hid hcn.2
          have HUY := Lib.hid fun w H => text_yes g 32 (by omega) q7 kz q8 (Lib.hid hu) (by have := HL.out; omega) w H
          replace HL : Hid (q8.length ≤ 1000000 ∧ q8.length + 8 ≤ Q.length) := Lib.hid (by have := HL.out; have h9 := congrArg List.length hcn.1; simp only [List.length_append] at h9; have hp := ub_pos kz.length; omega)
          clear hu hcn
          refine (HUY.out _ (Lib.hid HX.out.base.rd)).mono ?_
          rintro e v22 hy
          obtain ⟨rfl, HR, HK⟩ := Yes.rd hy
          replace HX := Lib.hid (HX.out.read HR.out HK.out)
          clear hy HR HK HUY
          refine hK.out _ _ HX.out.base.seg (fun hHeld => ?_)
          clear hK K
          try dsimp only
          try simp only [Act.put, qz0, qz1, qz2, qz3, qz4, qz5]
          refine wpAnyH_take (i := 23) (v := .agg #[.int .i64 (rows : Int), .int .i64 (pl : Int), .int .u64 (oa : Int), .int .u64 (ob : Int), .int .i64 ta, .int .i64 tz, .string (strB ka), .string (strB kz)]) rfl (by kernel_rfl) (by kernel_rfl) (by kernel_rfl) (fun _ _ _ h => h) (Or.inl ⟨by rfl, fun w _ => by go_simp⟩) hHeld ?_
          try dsimp only
          try simp only [Act.put, qz0, qz1, qz2, qz3, qz4, qz5]
          refine wpAnyH_ready (rs := [25]) (by kernel_rfl) (by simp) (AllReadyH.cons rfl (fun K hK => ?_) AllReadyH.nil)
          rw [if_pos (by rfl)]
          refine wp_store_row 41 (.tmp 5) (.tmp 29) rfl b5 #[.int .i64 (rows : Int), .int .i64 (pl : Int), .int .u64 (oa : Int), .int .u64 (ob : Int), .int .i64 ta, .int .i64 tz, .string (strB ka), .string (strB kz)] rfl rfl _ _ HX.out.row.1 (iCkS (⟨rows, pl, oa, ob, ta, tz, strB ka, strB kz⟩ : Ck)) (sizeCkS (⟨rows, pl, oa, ob, ta, tz, strB ka, strB kz⟩ : Ck)) (oneCkS (⟨rows, pl, oa, ob, ta, tz, strB ka, strB kz⟩ : Ck)) ?_
          have HX3 := Lib.hid (HX.out.put #[.int .i64 (rows : Int), .int .i64 (pl : Int), .int .u64 (oa : Int), .int .u64 (ob : Int), .int .i64 ta, .int .i64 tz, .string (strB ka), .string (strB kz)])
          refine hK.out _ _ HX3.out.base.seg (fun hHeld => ?_)
          clear hK K
          refine wpAnyH_done (by kernel_rfl) ?_ _
          clear hHeld HX
          go_wp2_with fail
          go_meet
          case rel => exact ⟨b5, rfl, Lib.hid ⟨⟨rows, pl, oa, ob, ta, tz, ka, kz, q8, HX3.out, HV.out, HR64.out, HOA.out, HL.out⟩⟩⟩
        ·skip
         go_simp
         have HY := Lib.hid (HX.out.base.alloc)
         obtain ⟨b5, hb5⟩ : ∃ b5, b5 = v18.heap.size := ⟨_, rfl⟩
         have hv5 := HY.out.base.seg
         rw [← hb5] at HY ⊢
         generalize v18.alloc (.cells #[.int .i64 0, .int .i64 0, .int .u64 0, .int .u64 0, .int .i64 0, .int .i64 0, .string { data := #[] }, .string { data := #[] }] 41) = va at *
         clear HX hb5
         have HX := HY
         clear HY
         refine hK.out _ _ hv5 (fun hHeld => ?_)
         clear hK K
         try dsimp only
         try simp only [Act.put, qz0, qz1, qz2, qz3, qz4, qz5]
         refine wpAnyH_ready (rs := [20]) (by kernel_rfl) (by simp) (AllReadyH.cons rfl (fun K hK => ?_) AllReadyH.nil)
         go_simp
         rcases hu : tP 32 q6 with _ | ⟨ka, q7⟩
         ·have HVN : Hid (ckP foot Q = none) := Lib.hid (by rw [HV.out]; unfold ck7; rw [hu]; rfl)
          refine (text_no g 32 (by omega) q6 (Lib.hid hu) q6.length (Lib.hid rfl) (by have := HL.out; omega) _ (Lib.hid HX.out.base.rd)).mono ?_
          rintro e w1 ⟨rfl, h1, h2⟩
          refine ⟨rfl, ?_⟩
          rw [HVN.out]
          exact ⟨rfl, h1, HX.out.base.kept.trans (h2.mono fun k h => .inl (.inl h))⟩
         replace HV : Hid (ckP foot Q = ck8 foot rows pl oa ob ta tz ka q7) := Lib.hid (by rw [HV.out]; unfold ck7; rw [hu]; rfl)
         have hcn := tP_canonS HX.out.base.rd.lt hu
         have HTka : Hid (ka.length ≤ 32) := Lib.hid hcn.2
         have HUY := Lib.hid fun w H => text_yes g 32 (by omega) q6 ka q7 (Lib.hid hu) (by have := HL.out; omega) w H
         replace HL : Hid (q7.length ≤ 1000000 ∧ q7.length + 7 ≤ Q.length) := Lib.hid (by have := HL.out; have h9 := congrArg List.length hcn.1; simp only [List.length_append] at h9; have hp := ub_pos ka.length; omega)
         clear hu hcn
         refine (HUY.out _ (Lib.hid HX.out.base.rd)).mono ?_
         rintro e v20 hy
         obtain ⟨rfl, HR, HK⟩ := Yes.rd hy
         replace HX := Lib.hid (HX.out.read HR.out HK.out)
         clear hy HR HK HUY
         refine hK.out _ _ HX.out.base.seg (fun hHeld => ?_)
         clear hK K
         try dsimp only
         try simp only [Act.put, qz0, qz1, qz2, qz3, qz4, qz5]
         refine wpAnyH_ready (rs := [22]) (by kernel_rfl) (by simp) (AllReadyH.cons rfl (fun K hK => ?_) AllReadyH.nil)
         go_simp
         rcases hu : tP 32 q7 with _ | ⟨kz, q8⟩
         ·have HVN : Hid (ckP foot Q = none) := Lib.hid (by rw [HV.out]; unfold ck8; rw [hu]; rfl)
          refine (text_no g 32 (by omega) q7 (Lib.hid hu) q7.length (Lib.hid rfl) (by have := HL.out; omega) _ (Lib.hid HX.out.base.rd)).mono ?_
          rintro e w1 ⟨rfl, h1, h2⟩
          refine ⟨rfl, ?_⟩
          rw [HVN.out]
          exact ⟨rfl, h1, HX.out.base.kept.trans (h2.mono fun k h => .inl (.inl h))⟩
         replace HV : Hid (ckP foot Q = if ckG foot (⟨rows, pl, oa, ob, ta, tz, strB ka, strB kz⟩ : Ck) = true then some ((⟨rows, pl, oa, ob, ta, tz, strB ka, strB kz⟩ : Ck), q8) else none) := Lib.hid (by rw [HV.out]; unfold ck8; rw [hu]; rfl)
         have hcn := tP_canonS HX.out.base.rd.lt hu
         have HTkz : Hid (kz.length ≤ 32) := Lib.hid hcn.2
         have HUY := Lib.hid fun w H => text_yes g 32 (by omega) q7 kz q8 (Lib.hid hu) (by have := HL.out; omega) w H
         replace HL : Hid (q8.length ≤ 1000000 ∧ q8.length + 8 ≤ Q.length) := Lib.hid (by have := HL.out; have h9 := congrArg List.length hcn.1; simp only [List.length_append] at h9; have hp := ub_pos kz.length; omega)
         clear hu hcn
         refine (HUY.out _ (Lib.hid HX.out.base.rd)).mono ?_
         rintro e v22 hy
         obtain ⟨rfl, HR, HK⟩ := Yes.rd hy
         replace HX := Lib.hid (HX.out.read HR.out HK.out)
         clear hy HR HK HUY
         refine hK.out _ _ HX.out.base.seg (fun hHeld => ?_)
         clear hK K
         try dsimp only
         try simp only [Act.put, qz0, qz1, qz2, qz3, qz4, qz5]
         refine wpAnyH_take (i := 23) (v := .agg #[.int .i64 (rows : Int), .int .i64 (pl : Int), .int .u64 (oa : Int), .int .u64 (ob : Int), .int .i64 ta, .int .i64 tz, .string (strB ka), .string (strB kz)]) rfl (by kernel_rfl) (by kernel_rfl) (by kernel_rfl) (fun _ _ _ h => h) (Or.inl ⟨by rfl, fun w _ => by go_simp⟩) hHeld ?_
         try dsimp only
         try simp only [Act.put, qz0, qz1, qz2, qz3, qz4, qz5]
         refine wpAnyH_ready (rs := [25]) (by kernel_rfl) (by simp) (AllReadyH.cons rfl (fun K hK => ?_) AllReadyH.nil)
         rw [if_pos (by rfl)]
         refine wp_store_row 41 (.tmp 5) (.tmp 29) rfl b5 #[.int .i64 (rows : Int), .int .i64 (pl : Int), .int .u64 (oa : Int), .int .u64 (ob : Int), .int .i64 ta, .int .i64 tz, .string (strB ka), .string (strB kz)] rfl rfl _ _ HX.out.row.1 (iCkS (⟨rows, pl, oa, ob, ta, tz, strB ka, strB kz⟩ : Ck)) (sizeCkS (⟨rows, pl, oa, ob, ta, tz, strB ka, strB kz⟩ : Ck)) (oneCkS (⟨rows, pl, oa, ob, ta, tz, strB ka, strB kz⟩ : Ck)) ?_
         have HX3 := Lib.hid (HX.out.put #[.int .i64 (rows : Int), .int .i64 (pl : Int), .int .u64 (oa : Int), .int .u64 (ob : Int), .int .i64 ta, .int .i64 tz, .string (strB ka), .string (strB kz)])
         refine hK.out _ _ HX3.out.base.seg (fun hHeld => ?_)
         clear hK K
         refine wpAnyH_done (by kernel_rfl) ?_ _
         clear hHeld HX
         go_wp2_with fail
         go_meet
         case rel => exact ⟨b5, rfl, Lib.hid ⟨⟨rows, pl, oa, ob, ta, tz, ka, kz, q8, HX3.out, HV.out, HR64.out, HOA.out, HL.out⟩⟩⟩
       ·skip
        go_simp
        have HY := Lib.hid (HX.out.base.alloc)
        obtain ⟨b5, hb5⟩ : ∃ b5, b5 = v16.heap.size := ⟨_, rfl⟩
        have hv5 := HY.out.base.seg
        rw [← hb5] at HY ⊢
        generalize v16.alloc (.cells #[.int .i64 0, .int .i64 0, .int .u64 0, .int .u64 0, .int .i64 0, .int .i64 0, .string { data := #[] }, .string { data := #[] }] 41) = va at *
        clear HX hb5
        have HX := HY
        clear HY
        refine hK.out _ _ hv5 (fun hHeld => ?_)
        clear hK K
        try dsimp only
        try simp only [Act.put, qz0, qz1, qz2, qz3, qz4, qz5]
        refine wpAnyH_ready (rs := [18]) (by kernel_rfl) (by simp) (AllReadyH.cons rfl (fun K hK => ?_) AllReadyH.nil)
        go_simp
        rcases hu : zP q5 with _ | ⟨tz, q6⟩
        ·have HVN : Hid (ckP foot Q = none) := Lib.hid (by rw [HV.out]; unfold ck6; rw [hu]; rfl)
         refine (int_no g q5 (Lib.hid hu) q5.length (Lib.hid rfl) (by have := HL.out; omega) _ (Lib.hid HX.out.base.rd)).mono ?_
         rintro e w1 ⟨rfl, h1, h2⟩
         refine ⟨rfl, ?_⟩
         rw [HVN.out]
         exact ⟨rfl, h1, HX.out.base.kept.trans (h2.mono fun k h => .inl (.inl h))⟩
        replace HV : Hid (ckP foot Q = ck7 foot rows pl oa ob ta tz q6) := Lib.hid (by rw [HV.out]; unfold ck6; rw [hu]; rfl)
        have hcn := zP_canonS HX.out.base.rd.lt hu
        have HWtz : Hid (Wf64 tz) := Lib.hid hcn.2
        have HUY := Lib.hid fun w H => int_yes g tz q5 q6 (Lib.hid hu) (by have := HL.out; omega) w H
        replace HL : Hid (q6.length ≤ 1000000 ∧ q6.length + 6 ≤ Q.length) := Lib.hid (by have := HL.out; have h9 := congrArg List.length hcn.1; simp only [List.length_append] at h9; have hp := ub_pos (zz tz); omega)
        clear hu hcn
        refine (HUY.out _ (Lib.hid HX.out.base.rd)).mono ?_
        rintro e v18 hy
        obtain ⟨rfl, HR, HK⟩ := Yes.rd hy
        replace HX := Lib.hid (HX.out.read HR.out HK.out)
        clear hy HR HK HUY
        refine hK.out _ _ HX.out.base.seg (fun hHeld => ?_)
        clear hK K
        try dsimp only
        try simp only [Act.put, qz0, qz1, qz2, qz3, qz4, qz5]
        refine wpAnyH_ready (rs := [20]) (by kernel_rfl) (by simp) (AllReadyH.cons rfl (fun K hK => ?_) AllReadyH.nil)
        go_simp
        rcases hu : tP 32 q6 with _ | ⟨ka, q7⟩
        ·have HVN : Hid (ckP foot Q = none) := Lib.hid (by rw [HV.out]; unfold ck7; rw [hu]; rfl)
         refine (text_no g 32 (by omega) q6 (Lib.hid hu) q6.length (Lib.hid rfl) (by have := HL.out; omega) _ (Lib.hid HX.out.base.rd)).mono ?_
         rintro e w1 ⟨rfl, h1, h2⟩
         refine ⟨rfl, ?_⟩
         rw [HVN.out]
         exact ⟨rfl, h1, HX.out.base.kept.trans (h2.mono fun k h => .inl (.inl h))⟩
        replace HV : Hid (ckP foot Q = ck8 foot rows pl oa ob ta tz ka q7) := Lib.hid (by rw [HV.out]; unfold ck7; rw [hu]; rfl)
        have hcn := tP_canonS HX.out.base.rd.lt hu
        have HTka : Hid (ka.length ≤ 32) := Lib.hid hcn.2
        have HUY := Lib.hid fun w H => text_yes g 32 (by omega) q6 ka q7 (Lib.hid hu) (by have := HL.out; omega) w H
        replace HL : Hid (q7.length ≤ 1000000 ∧ q7.length + 7 ≤ Q.length) := Lib.hid (by have := HL.out; have h9 := congrArg List.length hcn.1; simp only [List.length_append] at h9; have hp := ub_pos ka.length; omega)
        clear hu hcn
        refine (HUY.out _ (Lib.hid HX.out.base.rd)).mono ?_
        rintro e v20 hy
        obtain ⟨rfl, HR, HK⟩ := Yes.rd hy
        replace HX := Lib.hid (HX.out.read HR.out HK.out)
        clear hy HR HK HUY
        refine hK.out _ _ HX.out.base.seg (fun hHeld => ?_)
        clear hK K
        try dsimp only
        try simp only [Act.put, qz0, qz1, qz2, qz3, qz4, qz5]
        refine wpAnyH_ready (rs := [22]) (by kernel_rfl) (by simp) (AllReadyH.cons rfl (fun K hK => ?_) AllReadyH.nil)
        go_simp
        rcases hu : tP 32 q7 with _ | ⟨kz, q8⟩
        ·have HVN : Hid (ckP foot Q = none) := Lib.hid (by rw [HV.out]; unfold ck8; rw [hu]; rfl)
         refine (text_no g 32 (by omega) q7 (Lib.hid hu) q7.length (Lib.hid rfl) (by have := HL.out; omega) _ (Lib.hid HX.out.base.rd)).mono ?_
         rintro e w1 ⟨rfl, h1, h2⟩
         refine ⟨rfl, ?_⟩
         rw [HVN.out]
         exact ⟨rfl, h1, HX.out.base.kept.trans (h2.mono fun k h => .inl (.inl h))⟩
        replace HV : Hid (ckP foot Q = if ckG foot (⟨rows, pl, oa, ob, ta, tz, strB ka, strB kz⟩ : Ck) = true then some ((⟨rows, pl, oa, ob, ta, tz, strB ka, strB kz⟩ : Ck), q8) else none) := Lib.hid (by rw [HV.out]; unfold ck8; rw [hu]; rfl)
        have hcn := tP_canonS HX.out.base.rd.lt hu
        have HTkz : Hid (kz.length ≤ 32) := Lib.hid hcn.2
        have HUY := Lib.hid fun w H => text_yes g 32 (by omega) q7 kz q8 (Lib.hid hu) (by have := HL.out; omega) w H
        replace HL : Hid (q8.length ≤ 1000000 ∧ q8.length + 8 ≤ Q.length) := Lib.hid (by have := HL.out; have h9 := congrArg List.length hcn.1; simp only [List.length_append] at h9; have hp := ub_pos kz.length; omega)
        clear hu hcn
        refine (HUY.out _ (Lib.hid HX.out.base.rd)).mono ?_
        rintro e v22 hy
        obtain ⟨rfl, HR, HK⟩ := Yes.rd hy
        replace HX := Lib.hid (HX.out.read HR.out HK.out)
        clear hy HR HK HUY
        refine hK.out _ _ HX.out.base.seg (fun hHeld => ?_)
        clear hK K
        try dsimp only
        try simp only [Act.put, qz0, qz1, qz2, qz3, qz4, qz5]
        refine wpAnyH_take (i := 23) (v := .agg #[.int .i64 (rows : Int), .int .i64 (pl : Int), .int .u64 (oa : Int), .int .u64 (ob : Int), .int .i64 ta, .int .i64 tz, .string (strB ka), .string (strB kz)]) rfl (by kernel_rfl) (by kernel_rfl) (by kernel_rfl) (fun _ _ _ h => h) (Or.inl ⟨by rfl, fun w _ => by go_simp⟩) hHeld ?_
        try dsimp only
        try simp only [Act.put, qz0, qz1, qz2, qz3, qz4, qz5]
        refine wpAnyH_ready (rs := [25]) (by kernel_rfl) (by simp) (AllReadyH.cons rfl (fun K hK => ?_) AllReadyH.nil)
        rw [if_pos (by rfl)]
        refine wp_store_row 41 (.tmp 5) (.tmp 29) rfl b5 #[.int .i64 (rows : Int), .int .i64 (pl : Int), .int .u64 (oa : Int), .int .u64 (ob : Int), .int .i64 ta, .int .i64 tz, .string (strB ka), .string (strB kz)] rfl rfl _ _ HX.out.row.1 (iCkS (⟨rows, pl, oa, ob, ta, tz, strB ka, strB kz⟩ : Ck)) (sizeCkS (⟨rows, pl, oa, ob, ta, tz, strB ka, strB kz⟩ : Ck)) (oneCkS (⟨rows, pl, oa, ob, ta, tz, strB ka, strB kz⟩ : Ck)) ?_
        have HX3 := Lib.hid (HX.out.put #[.int .i64 (rows : Int), .int .i64 (pl : Int), .int .u64 (oa : Int), .int .u64 (ob : Int), .int .i64 ta, .int .i64 tz, .string (strB ka), .string (strB kz)])
        refine hK.out _ _ HX3.out.base.seg (fun hHeld => ?_)
        clear hK K
        refine wpAnyH_done (by kernel_rfl) ?_ _
        clear hHeld HX
        go_wp2_with fail
        go_meet
        case rel => exact ⟨b5, rfl, Lib.hid ⟨⟨rows, pl, oa, ob, ta, tz, ka, kz, q8, HX3.out, HV.out, HR64.out, HOA.out, HL.out⟩⟩⟩
      ·skip
       go_simp
       have HY := Lib.hid (HX.out.base.alloc)
       obtain ⟨b5, hb5⟩ : ∃ b5, b5 = v14.heap.size := ⟨_, rfl⟩
       have hv5 := HY.out.base.seg
       rw [← hb5] at HY ⊢
       generalize v14.alloc (.cells #[.int .i64 0, .int .i64 0, .int .u64 0, .int .u64 0, .int .i64 0, .int .i64 0, .string { data := #[] }, .string { data := #[] }] 41) = va at *
       clear HX hb5
       have HX := HY
       clear HY
       refine hK.out _ _ hv5 (fun hHeld => ?_)
       clear hK K
       try dsimp only
       try simp only [Act.put, qz0, qz1, qz2, qz3, qz4, qz5]
       refine wpAnyH_ready (rs := [16]) (by kernel_rfl) (by simp) (AllReadyH.cons rfl (fun K hK => ?_) AllReadyH.nil)
       go_simp
       rcases hu : zP q4 with _ | ⟨ta, q5⟩
       ·have HVN : Hid (ckP foot Q = none) := Lib.hid (by rw [HV.out]; unfold ck5; rw [hu]; rfl)
        refine (int_no g q4 (Lib.hid hu) q4.length (Lib.hid rfl) (by have := HL.out; omega) _ (Lib.hid HX.out.base.rd)).mono ?_
        rintro e w1 ⟨rfl, h1, h2⟩
        refine ⟨rfl, ?_⟩
        rw [HVN.out]
        exact ⟨rfl, h1, HX.out.base.kept.trans (h2.mono fun k h => .inl (.inl h))⟩
       replace HV : Hid (ckP foot Q = ck6 foot rows pl oa ob ta q5) := Lib.hid (by rw [HV.out]; unfold ck5; rw [hu]; rfl)
       have hcn := zP_canonS HX.out.base.rd.lt hu
       have HWta : Hid (Wf64 ta) := Lib.hid hcn.2
       have HUY := Lib.hid fun w H => int_yes g ta q4 q5 (Lib.hid hu) (by have := HL.out; omega) w H
       replace HL : Hid (q5.length ≤ 1000000 ∧ q5.length + 5 ≤ Q.length) := Lib.hid (by have := HL.out; have h9 := congrArg List.length hcn.1; simp only [List.length_append] at h9; have hp := ub_pos (zz ta); omega)
       clear hu hcn
       refine (HUY.out _ (Lib.hid HX.out.base.rd)).mono ?_
       rintro e v16 hy
       obtain ⟨rfl, HR, HK⟩ := Yes.rd hy
       replace HX := Lib.hid (HX.out.read HR.out HK.out)
       clear hy HR HK HUY
       refine hK.out _ _ HX.out.base.seg (fun hHeld => ?_)
       clear hK K
       try dsimp only
       try simp only [Act.put, qz0, qz1, qz2, qz3, qz4, qz5]
       refine wpAnyH_ready (rs := [18]) (by kernel_rfl) (by simp) (AllReadyH.cons rfl (fun K hK => ?_) AllReadyH.nil)
       go_simp
       rcases hu : zP q5 with _ | ⟨tz, q6⟩
       ·have HVN : Hid (ckP foot Q = none) := Lib.hid (by rw [HV.out]; unfold ck6; rw [hu]; rfl)
        refine (int_no g q5 (Lib.hid hu) q5.length (Lib.hid rfl) (by have := HL.out; omega) _ (Lib.hid HX.out.base.rd)).mono ?_
        rintro e w1 ⟨rfl, h1, h2⟩
        refine ⟨rfl, ?_⟩
        rw [HVN.out]
        exact ⟨rfl, h1, HX.out.base.kept.trans (h2.mono fun k h => .inl (.inl h))⟩
       replace HV : Hid (ckP foot Q = ck7 foot rows pl oa ob ta tz q6) := Lib.hid (by rw [HV.out]; unfold ck6; rw [hu]; rfl)
       have hcn := zP_canonS HX.out.base.rd.lt hu
       have HWtz : Hid (Wf64 tz) := Lib.hid hcn.2
       have HUY := Lib.hid fun w H => int_yes g tz q5 q6 (Lib.hid hu) (by have := HL.out; omega) w H
       replace HL : Hid (q6.length ≤ 1000000 ∧ q6.length + 6 ≤ Q.length) := Lib.hid (by have := HL.out; have h9 := congrArg List.length hcn.1; simp only [List.length_append] at h9; have hp := ub_pos (zz tz); omega)
       clear hu hcn
       refine (HUY.out _ (Lib.hid HX.out.base.rd)).mono ?_
       rintro e v18 hy
       obtain ⟨rfl, HR, HK⟩ := Yes.rd hy
       replace HX := Lib.hid (HX.out.read HR.out HK.out)
       clear hy HR HK HUY
       refine hK.out _ _ HX.out.base.seg (fun hHeld => ?_)
       clear hK K
       try dsimp only
       try simp only [Act.put, qz0, qz1, qz2, qz3, qz4, qz5]
       refine wpAnyH_ready (rs := [20]) (by kernel_rfl) (by simp) (AllReadyH.cons rfl (fun K hK => ?_) AllReadyH.nil)
       go_simp
       rcases hu : tP 32 q6 with _ | ⟨ka, q7⟩
       ·have HVN : Hid (ckP foot Q = none) := Lib.hid (by rw [HV.out]; unfold ck7; rw [hu]; rfl)
        refine (text_no g 32 (by omega) q6 (Lib.hid hu) q6.length (Lib.hid rfl) (by have := HL.out; omega) _ (Lib.hid HX.out.base.rd)).mono ?_
        rintro e w1 ⟨rfl, h1, h2⟩
        refine ⟨rfl, ?_⟩
        rw [HVN.out]
        exact ⟨rfl, h1, HX.out.base.kept.trans (h2.mono fun k h => .inl (.inl h))⟩
       replace HV : Hid (ckP foot Q = ck8 foot rows pl oa ob ta tz ka q7) := Lib.hid (by rw [HV.out]; unfold ck7; rw [hu]; rfl)
       have hcn := tP_canonS HX.out.base.rd.lt hu
       have HTka : Hid (ka.length ≤ 32) := Lib.hid hcn.2
       have HUY := Lib.hid fun w H => text_yes g 32 (by omega) q6 ka q7 (Lib.hid hu) (by have := HL.out; omega) w H
       replace HL : Hid (q7.length ≤ 1000000 ∧ q7.length + 7 ≤ Q.length) := Lib.hid (by have := HL.out; have h9 := congrArg List.length hcn.1; simp only [List.length_append] at h9; have hp := ub_pos ka.length; omega)
       clear hu hcn
       refine (HUY.out _ (Lib.hid HX.out.base.rd)).mono ?_
       rintro e v20 hy
       obtain ⟨rfl, HR, HK⟩ := Yes.rd hy
       replace HX := Lib.hid (HX.out.read HR.out HK.out)
       clear hy HR HK HUY
       refine hK.out _ _ HX.out.base.seg (fun hHeld => ?_)
       clear hK K
       try dsimp only
       try simp only [Act.put, qz0, qz1, qz2, qz3, qz4, qz5]
       refine wpAnyH_ready (rs := [22]) (by kernel_rfl) (by simp) (AllReadyH.cons rfl (fun K hK => ?_) AllReadyH.nil)
       go_simp
       rcases hu : tP 32 q7 with _ | ⟨kz, q8⟩
       ·have HVN : Hid (ckP foot Q = none) := Lib.hid (by rw [HV.out]; unfold ck8; rw [hu]; rfl)
        refine (text_no g 32 (by omega) q7 (Lib.hid hu) q7.length (Lib.hid rfl) (by have := HL.out; omega) _ (Lib.hid HX.out.base.rd)).mono ?_
        rintro e w1 ⟨rfl, h1, h2⟩
        refine ⟨rfl, ?_⟩
        rw [HVN.out]
        exact ⟨rfl, h1, HX.out.base.kept.trans (h2.mono fun k h => .inl (.inl h))⟩
       replace HV : Hid (ckP foot Q = if ckG foot (⟨rows, pl, oa, ob, ta, tz, strB ka, strB kz⟩ : Ck) = true then some ((⟨rows, pl, oa, ob, ta, tz, strB ka, strB kz⟩ : Ck), q8) else none) := Lib.hid (by rw [HV.out]; unfold ck8; rw [hu]; rfl)
       have hcn := tP_canonS HX.out.base.rd.lt hu
       have HTkz : Hid (kz.length ≤ 32) := Lib.hid hcn.2
       have HUY := Lib.hid fun w H => text_yes g 32 (by omega) q7 kz q8 (Lib.hid hu) (by have := HL.out; omega) w H
       replace HL : Hid (q8.length ≤ 1000000 ∧ q8.length + 8 ≤ Q.length) := Lib.hid (by have := HL.out; have h9 := congrArg List.length hcn.1; simp only [List.length_append] at h9; have hp := ub_pos kz.length; omega)
       clear hu hcn
       refine (HUY.out _ (Lib.hid HX.out.base.rd)).mono ?_
       rintro e v22 hy
       obtain ⟨rfl, HR, HK⟩ := Yes.rd hy
       replace HX := Lib.hid (HX.out.read HR.out HK.out)
       clear hy HR HK HUY
       refine hK.out _ _ HX.out.base.seg (fun hHeld => ?_)
       clear hK K
       try dsimp only
       try simp only [Act.put, qz0, qz1, qz2, qz3, qz4, qz5]
       refine wpAnyH_take (i := 23) (v := .agg #[.int .i64 (rows : Int), .int .i64 (pl : Int), .int .u64 (oa : Int), .int .u64 (ob : Int), .int .i64 ta, .int .i64 tz, .string (strB ka), .string (strB kz)]) rfl (by kernel_rfl) (by kernel_rfl) (by kernel_rfl) (fun _ _ _ h => h) (Or.inl ⟨by rfl, fun w _ => by go_simp⟩) hHeld ?_
       try dsimp only
       try simp only [Act.put, qz0, qz1, qz2, qz3, qz4, qz5]
       refine wpAnyH_ready (rs := [25]) (by kernel_rfl) (by simp) (AllReadyH.cons rfl (fun K hK => ?_) AllReadyH.nil)
       rw [if_pos (by rfl)]
       refine wp_store_row 41 (.tmp 5) (.tmp 29) rfl b5 #[.int .i64 (rows : Int), .int .i64 (pl : Int), .int .u64 (oa : Int), .int .u64 (ob : Int), .int .i64 ta, .int .i64 tz, .string (strB ka), .string (strB kz)] rfl rfl _ _ HX.out.row.1 (iCkS (⟨rows, pl, oa, ob, ta, tz, strB ka, strB kz⟩ : Ck)) (sizeCkS (⟨rows, pl, oa, ob, ta, tz, strB ka, strB kz⟩ : Ck)) (oneCkS (⟨rows, pl, oa, ob, ta, tz, strB ka, strB kz⟩ : Ck)) ?_
       have HX3 := Lib.hid (HX.out.put #[.int .i64 (rows : Int), .int .i64 (pl : Int), .int .u64 (oa : Int), .int .u64 (ob : Int), .int .i64 ta, .int .i64 tz, .string (strB ka), .string (strB kz)])
       refine hK.out _ _ HX3.out.base.seg (fun hHeld => ?_)
       clear hK K
       refine wpAnyH_done (by kernel_rfl) ?_ _
       clear hHeld HX
       go_wp2_with fail
       go_meet
       case rel => exact ⟨b5, rfl, Lib.hid ⟨⟨rows, pl, oa, ob, ta, tz, ka, kz, q8, HX3.out, HV.out, HR64.out, HOA.out, HL.out⟩⟩⟩
     ·skip
      go_simp
      have HY := Lib.hid (HX.out.base.alloc)
      obtain ⟨b5, hb5⟩ : ∃ b5, b5 = v12.heap.size := ⟨_, rfl⟩
      have hv5 := HY.out.base.seg
      rw [← hb5] at HY ⊢
      generalize v12.alloc (.cells #[.int .i64 0, .int .i64 0, .int .u64 0, .int .u64 0, .int .i64 0, .int .i64 0, .string { data := #[] }, .string { data := #[] }] 41) = va at *
      clear HX hb5
      have HX := HY
      clear HY
      refine hK.out _ _ hv5 (fun hHeld => ?_)
      clear hK K
      try dsimp only
      try simp only [Act.put, qz0, qz1, qz2, qz3, qz4, qz5]
      refine wpAnyH_ready (rs := [14]) (by kernel_rfl) (by simp) (AllReadyH.cons rfl (fun K hK => ?_) AllReadyH.nil)
      go_simp
      rcases hu : uP 1099511627775 q3 with _ | ⟨ob, q4⟩
      ·have HVN : Hid (ckP foot Q = none) := Lib.hid (by rw [HV.out]; unfold ck4; rw [hu]; rfl)
       refine (uint_no g 1099511627775 q3 (Lib.hid hu) q3.length (Lib.hid rfl) (by have := HL.out; omega) _ (Lib.hid HX.out.base.rd)).mono ?_
       rintro e w1 ⟨rfl, h1, h2⟩
       refine ⟨rfl, ?_⟩
       rw [HVN.out]
       exact ⟨rfl, h1, HX.out.base.kept.trans (h2.mono fun k h => .inl (.inl h))⟩
      replace HV : Hid (ckP foot Q = ck5 foot rows pl oa ob q4) := Lib.hid (by rw [HV.out]; unfold ck4; rw [hu]; rfl)
      have hcn := uP_canonS HX.out.base.rd.lt hu
      have HOB : Hid (ob ≤ 1099511627775) := Lib.hid hcn.2
      have HUY := Lib.hid fun w H => uint_yes g 1099511627775 ob q3 q4 (Lib.hid hu) (by have := HL.out; omega) w H
      replace HL : Hid (q4.length ≤ 1000000 ∧ q4.length + 4 ≤ Q.length) := Lib.hid (by have := HL.out; have h9 := congrArg List.length hcn.1; simp only [List.length_append] at h9; have hp := ub_pos ob; omega)
      clear hu hcn
      refine (HUY.out _ (Lib.hid HX.out.base.rd)).mono ?_
      rintro e v14 hy
      obtain ⟨rfl, HR, HK⟩ := Yes.rd hy
      replace HX := Lib.hid (HX.out.read HR.out HK.out)
      clear hy HR HK HUY
      refine hK.out _ _ HX.out.base.seg (fun hHeld => ?_)
      clear hK K
      try dsimp only
      try simp only [Act.put, qz0, qz1, qz2, qz3, qz4, qz5]
      refine wpAnyH_ready (rs := [16]) (by kernel_rfl) (by simp) (AllReadyH.cons rfl (fun K hK => ?_) AllReadyH.nil)
      go_simp
      rcases hu : zP q4 with _ | ⟨ta, q5⟩
      ·have HVN : Hid (ckP foot Q = none) := Lib.hid (by rw [HV.out]; unfold ck5; rw [hu]; rfl)
       refine (int_no g q4 (Lib.hid hu) q4.length (Lib.hid rfl) (by have := HL.out; omega) _ (Lib.hid HX.out.base.rd)).mono ?_
       rintro e w1 ⟨rfl, h1, h2⟩
       refine ⟨rfl, ?_⟩
       rw [HVN.out]
       exact ⟨rfl, h1, HX.out.base.kept.trans (h2.mono fun k h => .inl (.inl h))⟩
      replace HV : Hid (ckP foot Q = ck6 foot rows pl oa ob ta q5) := Lib.hid (by rw [HV.out]; unfold ck5; rw [hu]; rfl)
      have hcn := zP_canonS HX.out.base.rd.lt hu
      have HWta : Hid (Wf64 ta) := Lib.hid hcn.2
      have HUY := Lib.hid fun w H => int_yes g ta q4 q5 (Lib.hid hu) (by have := HL.out; omega) w H
      replace HL : Hid (q5.length ≤ 1000000 ∧ q5.length + 5 ≤ Q.length) := Lib.hid (by have := HL.out; have h9 := congrArg List.length hcn.1; simp only [List.length_append] at h9; have hp := ub_pos (zz ta); omega)
      clear hu hcn
      refine (HUY.out _ (Lib.hid HX.out.base.rd)).mono ?_
      rintro e v16 hy
      obtain ⟨rfl, HR, HK⟩ := Yes.rd hy
      replace HX := Lib.hid (HX.out.read HR.out HK.out)
      clear hy HR HK HUY
      refine hK.out _ _ HX.out.base.seg (fun hHeld => ?_)
      clear hK K
      try dsimp only
      try simp only [Act.put, qz0, qz1, qz2, qz3, qz4, qz5]
      refine wpAnyH_ready (rs := [18]) (by kernel_rfl) (by simp) (AllReadyH.cons rfl (fun K hK => ?_) AllReadyH.nil)
      go_simp
      rcases hu : zP q5 with _ | ⟨tz, q6⟩
      ·have HVN : Hid (ckP foot Q = none) := Lib.hid (by rw [HV.out]; unfold ck6; rw [hu]; rfl)
       refine (int_no g q5 (Lib.hid hu) q5.length (Lib.hid rfl) (by have := HL.out; omega) _ (Lib.hid HX.out.base.rd)).mono ?_
       rintro e w1 ⟨rfl, h1, h2⟩
       refine ⟨rfl, ?_⟩
       rw [HVN.out]
       exact ⟨rfl, h1, HX.out.base.kept.trans (h2.mono fun k h => .inl (.inl h))⟩
      replace HV : Hid (ckP foot Q = ck7 foot rows pl oa ob ta tz q6) := Lib.hid (by rw [HV.out]; unfold ck6; rw [hu]; rfl)
      have hcn := zP_canonS HX.out.base.rd.lt hu
      have HWtz : Hid (Wf64 tz) := Lib.hid hcn.2
      have HUY := Lib.hid fun w H => int_yes g tz q5 q6 (Lib.hid hu) (by have := HL.out; omega) w H
      replace HL : Hid (q6.length ≤ 1000000 ∧ q6.length + 6 ≤ Q.length) := Lib.hid (by have := HL.out; have h9 := congrArg List.length hcn.1; simp only [List.length_append] at h9; have hp := ub_pos (zz tz); omega)
      clear hu hcn
      refine (HUY.out _ (Lib.hid HX.out.base.rd)).mono ?_
      rintro e v18 hy
      obtain ⟨rfl, HR, HK⟩ := Yes.rd hy
      replace HX := Lib.hid (HX.out.read HR.out HK.out)
      clear hy HR HK HUY
      refine hK.out _ _ HX.out.base.seg (fun hHeld => ?_)
      clear hK K
      try dsimp only
      try simp only [Act.put, qz0, qz1, qz2, qz3, qz4, qz5]
      refine wpAnyH_ready (rs := [20]) (by kernel_rfl) (by simp) (AllReadyH.cons rfl (fun K hK => ?_) AllReadyH.nil)
      go_simp
      rcases hu : tP 32 q6 with _ | ⟨ka, q7⟩
      ·have HVN : Hid (ckP foot Q = none) := Lib.hid (by rw [HV.out]; unfold ck7; rw [hu]; rfl)
       refine (text_no g 32 (by omega) q6 (Lib.hid hu) q6.length (Lib.hid rfl) (by have := HL.out; omega) _ (Lib.hid HX.out.base.rd)).mono ?_
       rintro e w1 ⟨rfl, h1, h2⟩
       refine ⟨rfl, ?_⟩
       rw [HVN.out]
       exact ⟨rfl, h1, HX.out.base.kept.trans (h2.mono fun k h => .inl (.inl h))⟩
      replace HV : Hid (ckP foot Q = ck8 foot rows pl oa ob ta tz ka q7) := Lib.hid (by rw [HV.out]; unfold ck7; rw [hu]; rfl)
      have hcn := tP_canonS HX.out.base.rd.lt hu
      have HTka : Hid (ka.length ≤ 32) := Lib.hid hcn.2
      have HUY := Lib.hid fun w H => text_yes g 32 (by omega) q6 ka q7 (Lib.hid hu) (by have := HL.out; omega) w H
      replace HL : Hid (q7.length ≤ 1000000 ∧ q7.length + 7 ≤ Q.length) := Lib.hid (by have := HL.out; have h9 := congrArg List.length hcn.1; simp only [List.length_append] at h9; have hp := ub_pos ka.length; omega)
      clear hu hcn
      refine (HUY.out _ (Lib.hid HX.out.base.rd)).mono ?_
      rintro e v20 hy
      obtain ⟨rfl, HR, HK⟩ := Yes.rd hy
      replace HX := Lib.hid (HX.out.read HR.out HK.out)
      clear hy HR HK HUY
      refine hK.out _ _ HX.out.base.seg (fun hHeld => ?_)
      clear hK K
      try dsimp only
      try simp only [Act.put, qz0, qz1, qz2, qz3, qz4, qz5]
      refine wpAnyH_ready (rs := [22]) (by kernel_rfl) (by simp) (AllReadyH.cons rfl (fun K hK => ?_) AllReadyH.nil)
      go_simp
      rcases hu : tP 32 q7 with _ | ⟨kz, q8⟩
      ·have HVN : Hid (ckP foot Q = none) := Lib.hid (by rw [HV.out]; unfold ck8; rw [hu]; rfl)
       refine (text_no g 32 (by omega) q7 (Lib.hid hu) q7.length (Lib.hid rfl) (by have := HL.out; omega) _ (Lib.hid HX.out.base.rd)).mono ?_
       rintro e w1 ⟨rfl, h1, h2⟩
       refine ⟨rfl, ?_⟩
       rw [HVN.out]
       exact ⟨rfl, h1, HX.out.base.kept.trans (h2.mono fun k h => .inl (.inl h))⟩
      replace HV : Hid (ckP foot Q = if ckG foot (⟨rows, pl, oa, ob, ta, tz, strB ka, strB kz⟩ : Ck) = true then some ((⟨rows, pl, oa, ob, ta, tz, strB ka, strB kz⟩ : Ck), q8) else none) := Lib.hid (by rw [HV.out]; unfold ck8; rw [hu]; rfl)
      have hcn := tP_canonS HX.out.base.rd.lt hu
      have HTkz : Hid (kz.length ≤ 32) := Lib.hid hcn.2
      have HUY := Lib.hid fun w H => text_yes g 32 (by omega) q7 kz q8 (Lib.hid hu) (by have := HL.out; omega) w H
      replace HL : Hid (q8.length ≤ 1000000 ∧ q8.length + 8 ≤ Q.length) := Lib.hid (by have := HL.out; have h9 := congrArg List.length hcn.1; simp only [List.length_append] at h9; have hp := ub_pos kz.length; omega)
      clear hu hcn
      refine (HUY.out _ (Lib.hid HX.out.base.rd)).mono ?_
      rintro e v22 hy
      obtain ⟨rfl, HR, HK⟩ := Yes.rd hy
      replace HX := Lib.hid (HX.out.read HR.out HK.out)
      clear hy HR HK HUY
      refine hK.out _ _ HX.out.base.seg (fun hHeld => ?_)
      clear hK K
      try dsimp only
      try simp only [Act.put, qz0, qz1, qz2, qz3, qz4, qz5]
      refine wpAnyH_take (i := 23) (v := .agg #[.int .i64 (rows : Int), .int .i64 (pl : Int), .int .u64 (oa : Int), .int .u64 (ob : Int), .int .i64 ta, .int .i64 tz, .string (strB ka), .string (strB kz)]) rfl (by kernel_rfl) (by kernel_rfl) (by kernel_rfl) (fun _ _ _ h => h) (Or.inl ⟨by rfl, fun w _ => by go_simp⟩) hHeld ?_
      try dsimp only
      try simp only [Act.put, qz0, qz1, qz2, qz3, qz4, qz5]
      refine wpAnyH_ready (rs := [25]) (by kernel_rfl) (by simp) (AllReadyH.cons rfl (fun K hK => ?_) AllReadyH.nil)
      rw [if_pos (by rfl)]
      refine wp_store_row 41 (.tmp 5) (.tmp 29) rfl b5 #[.int .i64 (rows : Int), .int .i64 (pl : Int), .int .u64 (oa : Int), .int .u64 (ob : Int), .int .i64 ta, .int .i64 tz, .string (strB ka), .string (strB kz)] rfl rfl _ _ HX.out.row.1 (iCkS (⟨rows, pl, oa, ob, ta, tz, strB ka, strB kz⟩ : Ck)) (sizeCkS (⟨rows, pl, oa, ob, ta, tz, strB ka, strB kz⟩ : Ck)) (oneCkS (⟨rows, pl, oa, ob, ta, tz, strB ka, strB kz⟩ : Ck)) ?_
      have HX3 := Lib.hid (HX.out.put #[.int .i64 (rows : Int), .int .i64 (pl : Int), .int .u64 (oa : Int), .int .u64 (ob : Int), .int .i64 ta, .int .i64 tz, .string (strB ka), .string (strB kz)])
      refine hK.out _ _ HX3.out.base.seg (fun hHeld => ?_)
      clear hK K
      refine wpAnyH_done (by kernel_rfl) ?_ _
      clear hHeld HX
      go_wp2_with fail
      go_meet
      case rel => exact ⟨b5, rfl, Lib.hid ⟨⟨rows, pl, oa, ob, ta, tz, ka, kz, q8, HX3.out, HV.out, HR64.out, HOA.out, HL.out⟩⟩⟩
    ·skip
     go_simp
     have HY := Lib.hid (HX.out.base.alloc)
     obtain ⟨b5, hb5⟩ : ∃ b5, b5 = v9.heap.size := ⟨_, rfl⟩
     have hv5 := HY.out.base.seg
     rw [← hb5] at HY ⊢
     generalize v9.alloc (.cells #[.int .i64 0, .int .i64 0, .int .u64 0, .int .u64 0, .int .i64 0, .int .i64 0, .string { data := #[] }, .string { data := #[] }] 41) = va at *
     clear HX hb5
     have HX := HY
     clear HY
     refine hK.out _ _ hv5 (fun hHeld => ?_)
     clear hK K
     try dsimp only
     try simp only [Act.put, qz0, qz1, qz2, qz3, qz4, qz5]
     refine wpAnyH_ready (rs := [12]) (by kernel_rfl) (by simp) (AllReadyH.cons rfl (fun K hK => ?_) AllReadyH.nil)
     go_simp
     rcases hu : uP 1099511627775 q2 with _ | ⟨oa, q3⟩
     ·have HVN : Hid (ckP foot Q = none) := Lib.hid (by rw [HV.out]; unfold ck3; rw [hu]; rfl)
      refine (uint_no g 1099511627775 q2 (Lib.hid hu) q2.length (Lib.hid rfl) (by have := HL.out; omega) _ (Lib.hid HX.out.base.rd)).mono ?_
      rintro e w1 ⟨rfl, h1, h2⟩
      refine ⟨rfl, ?_⟩
      rw [HVN.out]
      exact ⟨rfl, h1, HX.out.base.kept.trans (h2.mono fun k h => .inl (.inl h))⟩
     replace HV : Hid (ckP foot Q = ck4 foot rows pl oa q3) := Lib.hid (by rw [HV.out]; unfold ck3; rw [hu]; rfl)
     have hcn := uP_canonS HX.out.base.rd.lt hu
     have HOA : Hid (oa ≤ 1099511627775) := Lib.hid hcn.2
     have HUY := Lib.hid fun w H => uint_yes g 1099511627775 oa q2 q3 (Lib.hid hu) (by have := HL.out; omega) w H
     replace HL : Hid (q3.length ≤ 1000000 ∧ q3.length + 3 ≤ Q.length) := Lib.hid (by have := HL.out; have h9 := congrArg List.length hcn.1; simp only [List.length_append] at h9; have hp := ub_pos oa; omega)
     clear hu hcn
     refine (HUY.out _ (Lib.hid HX.out.base.rd)).mono ?_
     rintro e v12 hy
     obtain ⟨rfl, HR, HK⟩ := Yes.rd hy
     replace HX := Lib.hid (HX.out.read HR.out HK.out)
     clear hy HR HK HUY
     refine hK.out _ _ HX.out.base.seg (fun hHeld => ?_)
     clear hK K
     try dsimp only
     try simp only [Act.put, qz0, qz1, qz2, qz3, qz4, qz5]
     refine wpAnyH_ready (rs := [14]) (by kernel_rfl) (by simp) (AllReadyH.cons rfl (fun K hK => ?_) AllReadyH.nil)
     go_simp
     rcases hu : uP 1099511627775 q3 with _ | ⟨ob, q4⟩
     ·have HVN : Hid (ckP foot Q = none) := Lib.hid (by rw [HV.out]; unfold ck4; rw [hu]; rfl)
      refine (uint_no g 1099511627775 q3 (Lib.hid hu) q3.length (Lib.hid rfl) (by have := HL.out; omega) _ (Lib.hid HX.out.base.rd)).mono ?_
      rintro e w1 ⟨rfl, h1, h2⟩
      refine ⟨rfl, ?_⟩
      rw [HVN.out]
      exact ⟨rfl, h1, HX.out.base.kept.trans (h2.mono fun k h => .inl (.inl h))⟩
     replace HV : Hid (ckP foot Q = ck5 foot rows pl oa ob q4) := Lib.hid (by rw [HV.out]; unfold ck4; rw [hu]; rfl)
     have hcn := uP_canonS HX.out.base.rd.lt hu
     have HOB : Hid (ob ≤ 1099511627775) := Lib.hid hcn.2
     have HUY := Lib.hid fun w H => uint_yes g 1099511627775 ob q3 q4 (Lib.hid hu) (by have := HL.out; omega) w H
     replace HL : Hid (q4.length ≤ 1000000 ∧ q4.length + 4 ≤ Q.length) := Lib.hid (by have := HL.out; have h9 := congrArg List.length hcn.1; simp only [List.length_append] at h9; have hp := ub_pos ob; omega)
     clear hu hcn
     refine (HUY.out _ (Lib.hid HX.out.base.rd)).mono ?_
     rintro e v14 hy
     obtain ⟨rfl, HR, HK⟩ := Yes.rd hy
     replace HX := Lib.hid (HX.out.read HR.out HK.out)
     clear hy HR HK HUY
     refine hK.out _ _ HX.out.base.seg (fun hHeld => ?_)
     clear hK K
     try dsimp only
     try simp only [Act.put, qz0, qz1, qz2, qz3, qz4, qz5]
     refine wpAnyH_ready (rs := [16]) (by kernel_rfl) (by simp) (AllReadyH.cons rfl (fun K hK => ?_) AllReadyH.nil)
     go_simp
     rcases hu : zP q4 with _ | ⟨ta, q5⟩
     ·have HVN : Hid (ckP foot Q = none) := Lib.hid (by rw [HV.out]; unfold ck5; rw [hu]; rfl)
      refine (int_no g q4 (Lib.hid hu) q4.length (Lib.hid rfl) (by have := HL.out; omega) _ (Lib.hid HX.out.base.rd)).mono ?_
      rintro e w1 ⟨rfl, h1, h2⟩
      refine ⟨rfl, ?_⟩
      rw [HVN.out]
      exact ⟨rfl, h1, HX.out.base.kept.trans (h2.mono fun k h => .inl (.inl h))⟩
     replace HV : Hid (ckP foot Q = ck6 foot rows pl oa ob ta q5) := Lib.hid (by rw [HV.out]; unfold ck5; rw [hu]; rfl)
     have hcn := zP_canonS HX.out.base.rd.lt hu
     have HWta : Hid (Wf64 ta) := Lib.hid hcn.2
     have HUY := Lib.hid fun w H => int_yes g ta q4 q5 (Lib.hid hu) (by have := HL.out; omega) w H
     replace HL : Hid (q5.length ≤ 1000000 ∧ q5.length + 5 ≤ Q.length) := Lib.hid (by have := HL.out; have h9 := congrArg List.length hcn.1; simp only [List.length_append] at h9; have hp := ub_pos (zz ta); omega)
     clear hu hcn
     refine (HUY.out _ (Lib.hid HX.out.base.rd)).mono ?_
     rintro e v16 hy
     obtain ⟨rfl, HR, HK⟩ := Yes.rd hy
     replace HX := Lib.hid (HX.out.read HR.out HK.out)
     clear hy HR HK HUY
     refine hK.out _ _ HX.out.base.seg (fun hHeld => ?_)
     clear hK K
     try dsimp only
     try simp only [Act.put, qz0, qz1, qz2, qz3, qz4, qz5]
     refine wpAnyH_ready (rs := [18]) (by kernel_rfl) (by simp) (AllReadyH.cons rfl (fun K hK => ?_) AllReadyH.nil)
     go_simp
     rcases hu : zP q5 with _ | ⟨tz, q6⟩
     ·have HVN : Hid (ckP foot Q = none) := Lib.hid (by rw [HV.out]; unfold ck6; rw [hu]; rfl)
      refine (int_no g q5 (Lib.hid hu) q5.length (Lib.hid rfl) (by have := HL.out; omega) _ (Lib.hid HX.out.base.rd)).mono ?_
      rintro e w1 ⟨rfl, h1, h2⟩
      refine ⟨rfl, ?_⟩
      rw [HVN.out]
      exact ⟨rfl, h1, HX.out.base.kept.trans (h2.mono fun k h => .inl (.inl h))⟩
     replace HV : Hid (ckP foot Q = ck7 foot rows pl oa ob ta tz q6) := Lib.hid (by rw [HV.out]; unfold ck6; rw [hu]; rfl)
     have hcn := zP_canonS HX.out.base.rd.lt hu
     have HWtz : Hid (Wf64 tz) := Lib.hid hcn.2
     have HUY := Lib.hid fun w H => int_yes g tz q5 q6 (Lib.hid hu) (by have := HL.out; omega) w H
     replace HL : Hid (q6.length ≤ 1000000 ∧ q6.length + 6 ≤ Q.length) := Lib.hid (by have := HL.out; have h9 := congrArg List.length hcn.1; simp only [List.length_append] at h9; have hp := ub_pos (zz tz); omega)
     clear hu hcn
     refine (HUY.out _ (Lib.hid HX.out.base.rd)).mono ?_
     rintro e v18 hy
     obtain ⟨rfl, HR, HK⟩ := Yes.rd hy
     replace HX := Lib.hid (HX.out.read HR.out HK.out)
     clear hy HR HK HUY
     refine hK.out _ _ HX.out.base.seg (fun hHeld => ?_)
     clear hK K
     try dsimp only
     try simp only [Act.put, qz0, qz1, qz2, qz3, qz4, qz5]
     refine wpAnyH_ready (rs := [20]) (by kernel_rfl) (by simp) (AllReadyH.cons rfl (fun K hK => ?_) AllReadyH.nil)
     go_simp
     rcases hu : tP 32 q6 with _ | ⟨ka, q7⟩
     ·have HVN : Hid (ckP foot Q = none) := Lib.hid (by rw [HV.out]; unfold ck7; rw [hu]; rfl)
      refine (text_no g 32 (by omega) q6 (Lib.hid hu) q6.length (Lib.hid rfl) (by have := HL.out; omega) _ (Lib.hid HX.out.base.rd)).mono ?_
      rintro e w1 ⟨rfl, h1, h2⟩
      refine ⟨rfl, ?_⟩
      rw [HVN.out]
      exact ⟨rfl, h1, HX.out.base.kept.trans (h2.mono fun k h => .inl (.inl h))⟩
     replace HV : Hid (ckP foot Q = ck8 foot rows pl oa ob ta tz ka q7) := Lib.hid (by rw [HV.out]; unfold ck7; rw [hu]; rfl)
     have hcn := tP_canonS HX.out.base.rd.lt hu
     have HTka : Hid (ka.length ≤ 32) := Lib.hid hcn.2
     have HUY := Lib.hid fun w H => text_yes g 32 (by omega) q6 ka q7 (Lib.hid hu) (by have := HL.out; omega) w H
     replace HL : Hid (q7.length ≤ 1000000 ∧ q7.length + 7 ≤ Q.length) := Lib.hid (by have := HL.out; have h9 := congrArg List.length hcn.1; simp only [List.length_append] at h9; have hp := ub_pos ka.length; omega)
     clear hu hcn
     refine (HUY.out _ (Lib.hid HX.out.base.rd)).mono ?_
     rintro e v20 hy
     obtain ⟨rfl, HR, HK⟩ := Yes.rd hy
     replace HX := Lib.hid (HX.out.read HR.out HK.out)
     clear hy HR HK HUY
     refine hK.out _ _ HX.out.base.seg (fun hHeld => ?_)
     clear hK K
     try dsimp only
     try simp only [Act.put, qz0, qz1, qz2, qz3, qz4, qz5]
     refine wpAnyH_ready (rs := [22]) (by kernel_rfl) (by simp) (AllReadyH.cons rfl (fun K hK => ?_) AllReadyH.nil)
     go_simp
     rcases hu : tP 32 q7 with _ | ⟨kz, q8⟩
     ·have HVN : Hid (ckP foot Q = none) := Lib.hid (by rw [HV.out]; unfold ck8; rw [hu]; rfl)
      refine (text_no g 32 (by omega) q7 (Lib.hid hu) q7.length (Lib.hid rfl) (by have := HL.out; omega) _ (Lib.hid HX.out.base.rd)).mono ?_
      rintro e w1 ⟨rfl, h1, h2⟩
      refine ⟨rfl, ?_⟩
      rw [HVN.out]
      exact ⟨rfl, h1, HX.out.base.kept.trans (h2.mono fun k h => .inl (.inl h))⟩
     replace HV : Hid (ckP foot Q = if ckG foot (⟨rows, pl, oa, ob, ta, tz, strB ka, strB kz⟩ : Ck) = true then some ((⟨rows, pl, oa, ob, ta, tz, strB ka, strB kz⟩ : Ck), q8) else none) := Lib.hid (by rw [HV.out]; unfold ck8; rw [hu]; rfl)
     have hcn := tP_canonS HX.out.base.rd.lt hu
     have HTkz : Hid (kz.length ≤ 32) := Lib.hid hcn.2
     have HUY := Lib.hid fun w H => text_yes g 32 (by omega) q7 kz q8 (Lib.hid hu) (by have := HL.out; omega) w H
     replace HL : Hid (q8.length ≤ 1000000 ∧ q8.length + 8 ≤ Q.length) := Lib.hid (by have := HL.out; have h9 := congrArg List.length hcn.1; simp only [List.length_append] at h9; have hp := ub_pos kz.length; omega)
     clear hu hcn
     refine (HUY.out _ (Lib.hid HX.out.base.rd)).mono ?_
     rintro e v22 hy
     obtain ⟨rfl, HR, HK⟩ := Yes.rd hy
     replace HX := Lib.hid (HX.out.read HR.out HK.out)
     clear hy HR HK HUY
     refine hK.out _ _ HX.out.base.seg (fun hHeld => ?_)
     clear hK K
     try dsimp only
     try simp only [Act.put, qz0, qz1, qz2, qz3, qz4, qz5]
     refine wpAnyH_take (i := 23) (v := .agg #[.int .i64 (rows : Int), .int .i64 (pl : Int), .int .u64 (oa : Int), .int .u64 (ob : Int), .int .i64 ta, .int .i64 tz, .string (strB ka), .string (strB kz)]) rfl (by kernel_rfl) (by kernel_rfl) (by kernel_rfl) (fun _ _ _ h => h) (Or.inl ⟨by rfl, fun w _ => by go_simp⟩) hHeld ?_
     try dsimp only
     try simp only [Act.put, qz0, qz1, qz2, qz3, qz4, qz5]
     refine wpAnyH_ready (rs := [25]) (by kernel_rfl) (by simp) (AllReadyH.cons rfl (fun K hK => ?_) AllReadyH.nil)
     rw [if_pos (by rfl)]
     refine wp_store_row 41 (.tmp 5) (.tmp 29) rfl b5 #[.int .i64 (rows : Int), .int .i64 (pl : Int), .int .u64 (oa : Int), .int .u64 (ob : Int), .int .i64 ta, .int .i64 tz, .string (strB ka), .string (strB kz)] rfl rfl _ _ HX.out.row.1 (iCkS (⟨rows, pl, oa, ob, ta, tz, strB ka, strB kz⟩ : Ck)) (sizeCkS (⟨rows, pl, oa, ob, ta, tz, strB ka, strB kz⟩ : Ck)) (oneCkS (⟨rows, pl, oa, ob, ta, tz, strB ka, strB kz⟩ : Ck)) ?_
     have HX3 := Lib.hid (HX.out.put #[.int .i64 (rows : Int), .int .i64 (pl : Int), .int .u64 (oa : Int), .int .u64 (ob : Int), .int .i64 ta, .int .i64 tz, .string (strB ka), .string (strB kz)])
     refine hK.out _ _ HX3.out.base.seg (fun hHeld => ?_)
     clear hK K
     refine wpAnyH_done (by kernel_rfl) ?_ _
     clear hHeld HX
     go_wp2_with fail
     go_meet
     case rel => exact ⟨b5, rfl, Lib.hid ⟨⟨rows, pl, oa, ob, ta, tz, ka, kz, q8, HX3.out, HV.out, HR64.out, HOA.out, HL.out⟩⟩⟩
   ·skip
    go_simp
    have HY := Lib.hid (HX.out.base.alloc)
    obtain ⟨b5, hb5⟩ : ∃ b5, b5 = v1.heap.size := ⟨_, rfl⟩
    have hv5 := HY.out.base.seg
    rw [← hb5] at HY ⊢
    generalize v1.alloc (.cells #[.int .i64 0, .int .i64 0, .int .u64 0, .int .u64 0, .int .i64 0, .int .i64 0, .string { data := #[] }, .string { data := #[] }] 41) = va at *
    clear HX hb5
    have HX := HY
    clear HY
    refine hK.out _ _ hv5 (fun hHeld => ?_)
    clear hK K
    try dsimp only
    try simp only [Act.put, qz0, qz1, qz2, qz3, qz4, qz5]
    refine wpAnyH_ready (rs := [9]) (by kernel_rfl) (by simp) (AllReadyH.cons rfl (fun K hK => ?_) AllReadyH.nil)
    go_simp
    rcases hu : uP foot q1 with _ | ⟨pl, q2⟩
    ·have HVN : Hid (ckP foot Q = none) := Lib.hid (by rw [HV.out]; unfold ck2; rw [hu]; rfl)
     refine (uint_no g foot q1 (Lib.hid hu) q1.length (Lib.hid rfl) (by have := HL.out; omega) _ (Lib.hid HX.out.base.rd)).mono ?_
     rintro e w1 ⟨rfl, h1, h2⟩
     refine ⟨rfl, ?_⟩
     rw [HVN.out]
     exact ⟨rfl, h1, HX.out.base.kept.trans (h2.mono fun k h => .inl (.inl h))⟩
    replace HV : Hid (ckP foot Q = ck3 foot rows pl q2) := Lib.hid (by rw [HV.out]; unfold ck2; rw [hu]; rfl)
    have hcn := uP_canonS HX.out.base.rd.lt hu
    have HPF : Hid (pl ≤ foot) := Lib.hid hcn.2
    have HW2 : Hid (IntKind.i64.wrap (pl : Int) = (pl : Int)) := Lib.hid (by have := HPF.out; have := hft.out; rw [IntKind.wrap_i64]; omega)
    have HUY := Lib.hid fun w H => uint_yes g foot pl q1 q2 (Lib.hid hu) (by have := HL.out; omega) w H
    replace HL : Hid (q2.length ≤ 1000000 ∧ q2.length + 2 ≤ Q.length) := Lib.hid (by have := HL.out; have h9 := congrArg List.length hcn.1; simp only [List.length_append] at h9; have hp := ub_pos pl; omega)
    clear hu hcn
    refine (HUY.out _ (Lib.hid HX.out.base.rd)).mono ?_
    rintro e v9 hy
    obtain ⟨rfl, HR, HK⟩ := Yes.rd hy
    replace HX := Lib.hid (HX.out.read HR.out HK.out)
    clear hy HR HK HUY
    refine hK.out _ _ HX.out.base.seg (fun hHeld => ?_)
    clear hK K
    try dsimp only
    try simp only [Act.put, qz0, qz1, qz2, qz3, qz4, qz5]
    refine wpAnyH_take (i := 10) (v := .int .i64 (pl : Int)) rfl (by kernel_rfl) (by kernel_rfl) (by kernel_rfl) (fun _ _ _ h => h) (Or.inl ⟨by rfl, fun w _ => by have h9 := HW2.out; go_simp⟩) hHeld ?_
    try dsimp only
    try simp only [Act.put, qz0, qz1, qz2, qz3, qz4, qz5]
    refine wpAnyH_ready (rs := [12]) (by kernel_rfl) (by simp) (AllReadyH.cons rfl (fun K hK => ?_) AllReadyH.nil)
    go_simp
    rcases hu : uP 1099511627775 q2 with _ | ⟨oa, q3⟩
    ·have HVN : Hid (ckP foot Q = none) := Lib.hid (by rw [HV.out]; unfold ck3; rw [hu]; rfl)
     refine (uint_no g 1099511627775 q2 (Lib.hid hu) q2.length (Lib.hid rfl) (by have := HL.out; omega) _ (Lib.hid HX.out.base.rd)).mono ?_
     rintro e w1 ⟨rfl, h1, h2⟩
     refine ⟨rfl, ?_⟩
     rw [HVN.out]
     exact ⟨rfl, h1, HX.out.base.kept.trans (h2.mono fun k h => .inl (.inl h))⟩
    replace HV : Hid (ckP foot Q = ck4 foot rows pl oa q3) := Lib.hid (by rw [HV.out]; unfold ck3; rw [hu]; rfl)
    have hcn := uP_canonS HX.out.base.rd.lt hu
    have HOA : Hid (oa ≤ 1099511627775) := Lib.hid hcn.2
    have HUY := Lib.hid fun w H => uint_yes g 1099511627775 oa q2 q3 (Lib.hid hu) (by have := HL.out; omega) w H
    replace HL : Hid (q3.length ≤ 1000000 ∧ q3.length + 3 ≤ Q.length) := Lib.hid (by have := HL.out; have h9 := congrArg List.length hcn.1; simp only [List.length_append] at h9; have hp := ub_pos oa; omega)
    clear hu hcn
    refine (HUY.out _ (Lib.hid HX.out.base.rd)).mono ?_
    rintro e v12 hy
    obtain ⟨rfl, HR, HK⟩ := Yes.rd hy
    replace HX := Lib.hid (HX.out.read HR.out HK.out)
    clear hy HR HK HUY
    refine hK.out _ _ HX.out.base.seg (fun hHeld => ?_)
    clear hK K
    try dsimp only
    try simp only [Act.put, qz0, qz1, qz2, qz3, qz4, qz5]
    refine wpAnyH_ready (rs := [14]) (by kernel_rfl) (by simp) (AllReadyH.cons rfl (fun K hK => ?_) AllReadyH.nil)
    go_simp
    rcases hu : uP 1099511627775 q3 with _ | ⟨ob, q4⟩
    ·have HVN : Hid (ckP foot Q = none) := Lib.hid (by rw [HV.out]; unfold ck4; rw [hu]; rfl)
     refine (uint_no g 1099511627775 q3 (Lib.hid hu) q3.length (Lib.hid rfl) (by have := HL.out; omega) _ (Lib.hid HX.out.base.rd)).mono ?_
     rintro e w1 ⟨rfl, h1, h2⟩
     refine ⟨rfl, ?_⟩
     rw [HVN.out]
     exact ⟨rfl, h1, HX.out.base.kept.trans (h2.mono fun k h => .inl (.inl h))⟩
    replace HV : Hid (ckP foot Q = ck5 foot rows pl oa ob q4) := Lib.hid (by rw [HV.out]; unfold ck4; rw [hu]; rfl)
    have hcn := uP_canonS HX.out.base.rd.lt hu
    have HOB : Hid (ob ≤ 1099511627775) := Lib.hid hcn.2
    have HUY := Lib.hid fun w H => uint_yes g 1099511627775 ob q3 q4 (Lib.hid hu) (by have := HL.out; omega) w H
    replace HL : Hid (q4.length ≤ 1000000 ∧ q4.length + 4 ≤ Q.length) := Lib.hid (by have := HL.out; have h9 := congrArg List.length hcn.1; simp only [List.length_append] at h9; have hp := ub_pos ob; omega)
    clear hu hcn
    refine (HUY.out _ (Lib.hid HX.out.base.rd)).mono ?_
    rintro e v14 hy
    obtain ⟨rfl, HR, HK⟩ := Yes.rd hy
    replace HX := Lib.hid (HX.out.read HR.out HK.out)
    clear hy HR HK HUY
    refine hK.out _ _ HX.out.base.seg (fun hHeld => ?_)
    clear hK K
    try dsimp only
    try simp only [Act.put, qz0, qz1, qz2, qz3, qz4, qz5]
    refine wpAnyH_ready (rs := [16]) (by kernel_rfl) (by simp) (AllReadyH.cons rfl (fun K hK => ?_) AllReadyH.nil)
    go_simp
    rcases hu : zP q4 with _ | ⟨ta, q5⟩
    ·have HVN : Hid (ckP foot Q = none) := Lib.hid (by rw [HV.out]; unfold ck5; rw [hu]; rfl)
     refine (int_no g q4 (Lib.hid hu) q4.length (Lib.hid rfl) (by have := HL.out; omega) _ (Lib.hid HX.out.base.rd)).mono ?_
     rintro e w1 ⟨rfl, h1, h2⟩
     refine ⟨rfl, ?_⟩
     rw [HVN.out]
     exact ⟨rfl, h1, HX.out.base.kept.trans (h2.mono fun k h => .inl (.inl h))⟩
    replace HV : Hid (ckP foot Q = ck6 foot rows pl oa ob ta q5) := Lib.hid (by rw [HV.out]; unfold ck5; rw [hu]; rfl)
    have hcn := zP_canonS HX.out.base.rd.lt hu
    have HWta : Hid (Wf64 ta) := Lib.hid hcn.2
    have HUY := Lib.hid fun w H => int_yes g ta q4 q5 (Lib.hid hu) (by have := HL.out; omega) w H
    replace HL : Hid (q5.length ≤ 1000000 ∧ q5.length + 5 ≤ Q.length) := Lib.hid (by have := HL.out; have h9 := congrArg List.length hcn.1; simp only [List.length_append] at h9; have hp := ub_pos (zz ta); omega)
    clear hu hcn
    refine (HUY.out _ (Lib.hid HX.out.base.rd)).mono ?_
    rintro e v16 hy
    obtain ⟨rfl, HR, HK⟩ := Yes.rd hy
    replace HX := Lib.hid (HX.out.read HR.out HK.out)
    clear hy HR HK HUY
    refine hK.out _ _ HX.out.base.seg (fun hHeld => ?_)
    clear hK K
    try dsimp only
    try simp only [Act.put, qz0, qz1, qz2, qz3, qz4, qz5]
    refine wpAnyH_ready (rs := [18]) (by kernel_rfl) (by simp) (AllReadyH.cons rfl (fun K hK => ?_) AllReadyH.nil)
    go_simp
    rcases hu : zP q5 with _ | ⟨tz, q6⟩
    ·have HVN : Hid (ckP foot Q = none) := Lib.hid (by rw [HV.out]; unfold ck6; rw [hu]; rfl)
     refine (int_no g q5 (Lib.hid hu) q5.length (Lib.hid rfl) (by have := HL.out; omega) _ (Lib.hid HX.out.base.rd)).mono ?_
     rintro e w1 ⟨rfl, h1, h2⟩
     refine ⟨rfl, ?_⟩
     rw [HVN.out]
     exact ⟨rfl, h1, HX.out.base.kept.trans (h2.mono fun k h => .inl (.inl h))⟩
    replace HV : Hid (ckP foot Q = ck7 foot rows pl oa ob ta tz q6) := Lib.hid (by rw [HV.out]; unfold ck6; rw [hu]; rfl)
    have hcn := zP_canonS HX.out.base.rd.lt hu
    have HWtz : Hid (Wf64 tz) := Lib.hid hcn.2
    have HUY := Lib.hid fun w H => int_yes g tz q5 q6 (Lib.hid hu) (by have := HL.out; omega) w H
    replace HL : Hid (q6.length ≤ 1000000 ∧ q6.length + 6 ≤ Q.length) := Lib.hid (by have := HL.out; have h9 := congrArg List.length hcn.1; simp only [List.length_append] at h9; have hp := ub_pos (zz tz); omega)
    clear hu hcn
    refine (HUY.out _ (Lib.hid HX.out.base.rd)).mono ?_
    rintro e v18 hy
    obtain ⟨rfl, HR, HK⟩ := Yes.rd hy
    replace HX := Lib.hid (HX.out.read HR.out HK.out)
    clear hy HR HK HUY
    refine hK.out _ _ HX.out.base.seg (fun hHeld => ?_)
    clear hK K
    try dsimp only
    try simp only [Act.put, qz0, qz1, qz2, qz3, qz4, qz5]
    refine wpAnyH_ready (rs := [20]) (by kernel_rfl) (by simp) (AllReadyH.cons rfl (fun K hK => ?_) AllReadyH.nil)
    go_simp
    rcases hu : tP 32 q6 with _ | ⟨ka, q7⟩
    ·have HVN : Hid (ckP foot Q = none) := Lib.hid (by rw [HV.out]; unfold ck7; rw [hu]; rfl)
     refine (text_no g 32 (by omega) q6 (Lib.hid hu) q6.length (Lib.hid rfl) (by have := HL.out; omega) _ (Lib.hid HX.out.base.rd)).mono ?_
     rintro e w1 ⟨rfl, h1, h2⟩
     refine ⟨rfl, ?_⟩
     rw [HVN.out]
     exact ⟨rfl, h1, HX.out.base.kept.trans (h2.mono fun k h => .inl (.inl h))⟩
    replace HV : Hid (ckP foot Q = ck8 foot rows pl oa ob ta tz ka q7) := Lib.hid (by rw [HV.out]; unfold ck7; rw [hu]; rfl)
    have hcn := tP_canonS HX.out.base.rd.lt hu
    have HTka : Hid (ka.length ≤ 32) := Lib.hid hcn.2
    have HUY := Lib.hid fun w H => text_yes g 32 (by omega) q6 ka q7 (Lib.hid hu) (by have := HL.out; omega) w H
    replace HL : Hid (q7.length ≤ 1000000 ∧ q7.length + 7 ≤ Q.length) := Lib.hid (by have := HL.out; have h9 := congrArg List.length hcn.1; simp only [List.length_append] at h9; have hp := ub_pos ka.length; omega)
    clear hu hcn
    refine (HUY.out _ (Lib.hid HX.out.base.rd)).mono ?_
    rintro e v20 hy
    obtain ⟨rfl, HR, HK⟩ := Yes.rd hy
    replace HX := Lib.hid (HX.out.read HR.out HK.out)
    clear hy HR HK HUY
    refine hK.out _ _ HX.out.base.seg (fun hHeld => ?_)
    clear hK K
    try dsimp only
    try simp only [Act.put, qz0, qz1, qz2, qz3, qz4, qz5]
    refine wpAnyH_ready (rs := [22]) (by kernel_rfl) (by simp) (AllReadyH.cons rfl (fun K hK => ?_) AllReadyH.nil)
    go_simp
    rcases hu : tP 32 q7 with _ | ⟨kz, q8⟩
    ·have HVN : Hid (ckP foot Q = none) := Lib.hid (by rw [HV.out]; unfold ck8; rw [hu]; rfl)
     refine (text_no g 32 (by omega) q7 (Lib.hid hu) q7.length (Lib.hid rfl) (by have := HL.out; omega) _ (Lib.hid HX.out.base.rd)).mono ?_
     rintro e w1 ⟨rfl, h1, h2⟩
     refine ⟨rfl, ?_⟩
     rw [HVN.out]
     exact ⟨rfl, h1, HX.out.base.kept.trans (h2.mono fun k h => .inl (.inl h))⟩
    replace HV : Hid (ckP foot Q = if ckG foot (⟨rows, pl, oa, ob, ta, tz, strB ka, strB kz⟩ : Ck) = true then some ((⟨rows, pl, oa, ob, ta, tz, strB ka, strB kz⟩ : Ck), q8) else none) := Lib.hid (by rw [HV.out]; unfold ck8; rw [hu]; rfl)
    have hcn := tP_canonS HX.out.base.rd.lt hu
    have HTkz : Hid (kz.length ≤ 32) := Lib.hid hcn.2
    have HUY := Lib.hid fun w H => text_yes g 32 (by omega) q7 kz q8 (Lib.hid hu) (by have := HL.out; omega) w H
    replace HL : Hid (q8.length ≤ 1000000 ∧ q8.length + 8 ≤ Q.length) := Lib.hid (by have := HL.out; have h9 := congrArg List.length hcn.1; simp only [List.length_append] at h9; have hp := ub_pos kz.length; omega)
    clear hu hcn
    refine (HUY.out _ (Lib.hid HX.out.base.rd)).mono ?_
    rintro e v22 hy
    obtain ⟨rfl, HR, HK⟩ := Yes.rd hy
    replace HX := Lib.hid (HX.out.read HR.out HK.out)
    clear hy HR HK HUY
    refine hK.out _ _ HX.out.base.seg (fun hHeld => ?_)
    clear hK K
    try dsimp only
    try simp only [Act.put, qz0, qz1, qz2, qz3, qz4, qz5]
    refine wpAnyH_take (i := 23) (v := .agg #[.int .i64 (rows : Int), .int .i64 (pl : Int), .int .u64 (oa : Int), .int .u64 (ob : Int), .int .i64 ta, .int .i64 tz, .string (strB ka), .string (strB kz)]) rfl (by kernel_rfl) (by kernel_rfl) (by kernel_rfl) (fun _ _ _ h => h) (Or.inl ⟨by rfl, fun w _ => by go_simp⟩) hHeld ?_
    try dsimp only
    try simp only [Act.put, qz0, qz1, qz2, qz3, qz4, qz5]
    refine wpAnyH_ready (rs := [25]) (by kernel_rfl) (by simp) (AllReadyH.cons rfl (fun K hK => ?_) AllReadyH.nil)
    rw [if_pos (by rfl)]
    refine wp_store_row 41 (.tmp 5) (.tmp 29) rfl b5 #[.int .i64 (rows : Int), .int .i64 (pl : Int), .int .u64 (oa : Int), .int .u64 (ob : Int), .int .i64 ta, .int .i64 tz, .string (strB ka), .string (strB kz)] rfl rfl _ _ HX.out.row.1 (iCkS (⟨rows, pl, oa, ob, ta, tz, strB ka, strB kz⟩ : Ck)) (sizeCkS (⟨rows, pl, oa, ob, ta, tz, strB ka, strB kz⟩ : Ck)) (oneCkS (⟨rows, pl, oa, ob, ta, tz, strB ka, strB kz⟩ : Ck)) ?_
    have HX3 := Lib.hid (HX.out.put #[.int .i64 (rows : Int), .int .i64 (pl : Int), .int .u64 (oa : Int), .int .u64 (ob : Int), .int .i64 ta, .int .i64 tz, .string (strB ka), .string (strB kz)])
    refine hK.out _ _ HX3.out.base.seg (fun hHeld => ?_)
    clear hK K
    refine wpAnyH_done (by kernel_rfl) ?_ _
    clear hHeld HX
    go_wp2_with fail
    go_meet
    case rel => exact ⟨b5, rfl, Lib.hid ⟨⟨rows, pl, oa, ob, ta, tz, ka, kz, q8, HX3.out, HV.out, HR64.out, HOA.out, HL.out⟩⟩⟩
  ·skip
   go_simp
   have HY := Lib.hid (HX.out.base.alloc)
   obtain ⟨b5, hb5⟩ : ∃ b5, b5 = v0.heap.size := ⟨_, rfl⟩
   have hv5 := HY.out.base.seg
   rw [← hb5] at HY ⊢
   generalize v0.alloc (.cells #[.int .i64 0, .int .i64 0, .int .u64 0, .int .u64 0, .int .i64 0, .int .i64 0, .string { data := #[] }, .string { data := #[] }] 41) = va at *
   clear HX hb5
   have HX := HY
   clear HY
   refine hK.out _ _ hv5 (fun hHeld => ?_)
   clear hK K
   try dsimp only
   try simp only [Act.put, qz0, qz1, qz2, qz3, qz4, qz5]
   refine wpAnyH_ready (rs := [1]) (by kernel_rfl) (by simp) (AllReadyH.cons rfl (fun K hK => ?_) AllReadyH.nil)
   go_simp
   rcases hu : uP 64 q with _ | ⟨rows, q1⟩
   ·have HVN : Hid (ckP foot Q = none) := Lib.hid (by rw [HV.out]; rw [hu]; rfl)
    refine (uint_no g 64 q (Lib.hid hu) q.length (Lib.hid rfl) (by have := HL.out; omega) _ (Lib.hid HX.out.base.rd)).mono ?_
    rintro e w1 ⟨rfl, h1, h2⟩
    refine ⟨rfl, ?_⟩
    rw [HVN.out]
    exact ⟨rfl, h1, HX.out.base.kept.trans (h2.mono fun k h => .inl (.inl h))⟩
   replace HV : Hid (ckP foot Q = ck2 foot rows q1) := Lib.hid (by rw [HV.out]; rw [hu]; rfl)
   have hcn := uP_canonS HX.out.base.rd.lt hu
   have HR64 : Hid (rows ≤ 64) := Lib.hid hcn.2
   have HW1 : Hid (IntKind.i64.wrap (rows : Int) = (rows : Int)) := Lib.hid (by have := HR64.out; rw [IntKind.wrap_i64]; omega)
   have HUY := Lib.hid fun w H => uint_yes g 64 rows q q1 (Lib.hid hu) (by have := HL.out; omega) w H
   replace HL : Hid (q1.length ≤ 1000000 ∧ q1.length + 1 ≤ Q.length) := Lib.hid (by have := HL.out; have h9 := congrArg List.length hcn.1; simp only [List.length_append] at h9; have hp := ub_pos rows; omega)
   clear hu hcn
   refine (HUY.out _ (Lib.hid HX.out.base.rd)).mono ?_
   rintro e v1 hy
   obtain ⟨rfl, HR, HK⟩ := Yes.rd hy
   replace HX := Lib.hid (HX.out.read HR.out HK.out)
   clear hy HR HK HUY
   refine hK.out _ _ HX.out.base.seg (fun hHeld => ?_)
   clear hK K
   try dsimp only
   try simp only [Act.put, qz0, qz1, qz2, qz3, qz4, qz5]
   refine wpAnyH_take (i := 2) (v := .int .i64 (rows : Int)) rfl (by kernel_rfl) (by kernel_rfl) (by kernel_rfl) (fun _ _ _ h => h) (Or.inl ⟨by rfl, fun w _ => by have h9 := HW1.out; go_simp⟩) hHeld ?_
   try dsimp only
   try simp only [Act.put, qz0, qz1, qz2, qz3, qz4, qz5]
   refine wpAnyH_ready (rs := [9]) (by kernel_rfl) (by simp) (AllReadyH.cons rfl (fun K hK => ?_) AllReadyH.nil)
   go_simp
   rcases hu : uP foot q1 with _ | ⟨pl, q2⟩
   ·have HVN : Hid (ckP foot Q = none) := Lib.hid (by rw [HV.out]; unfold ck2; rw [hu]; rfl)
    refine (uint_no g foot q1 (Lib.hid hu) q1.length (Lib.hid rfl) (by have := HL.out; omega) _ (Lib.hid HX.out.base.rd)).mono ?_
    rintro e w1 ⟨rfl, h1, h2⟩
    refine ⟨rfl, ?_⟩
    rw [HVN.out]
    exact ⟨rfl, h1, HX.out.base.kept.trans (h2.mono fun k h => .inl (.inl h))⟩
   replace HV : Hid (ckP foot Q = ck3 foot rows pl q2) := Lib.hid (by rw [HV.out]; unfold ck2; rw [hu]; rfl)
   have hcn := uP_canonS HX.out.base.rd.lt hu
   have HPF : Hid (pl ≤ foot) := Lib.hid hcn.2
   have HW2 : Hid (IntKind.i64.wrap (pl : Int) = (pl : Int)) := Lib.hid (by have := HPF.out; have := hft.out; rw [IntKind.wrap_i64]; omega)
   have HUY := Lib.hid fun w H => uint_yes g foot pl q1 q2 (Lib.hid hu) (by have := HL.out; omega) w H
   replace HL : Hid (q2.length ≤ 1000000 ∧ q2.length + 2 ≤ Q.length) := Lib.hid (by have := HL.out; have h9 := congrArg List.length hcn.1; simp only [List.length_append] at h9; have hp := ub_pos pl; omega)
   clear hu hcn
   refine (HUY.out _ (Lib.hid HX.out.base.rd)).mono ?_
   rintro e v9 hy
   obtain ⟨rfl, HR, HK⟩ := Yes.rd hy
   replace HX := Lib.hid (HX.out.read HR.out HK.out)
   clear hy HR HK HUY
   refine hK.out _ _ HX.out.base.seg (fun hHeld => ?_)
   clear hK K
   try dsimp only
   try simp only [Act.put, qz0, qz1, qz2, qz3, qz4, qz5]
   refine wpAnyH_take (i := 10) (v := .int .i64 (pl : Int)) rfl (by kernel_rfl) (by kernel_rfl) (by kernel_rfl) (fun _ _ _ h => h) (Or.inl ⟨by rfl, fun w _ => by have h9 := HW2.out; go_simp⟩) hHeld ?_
   try dsimp only
   try simp only [Act.put, qz0, qz1, qz2, qz3, qz4, qz5]
   refine wpAnyH_ready (rs := [12]) (by kernel_rfl) (by simp) (AllReadyH.cons rfl (fun K hK => ?_) AllReadyH.nil)
   go_simp
   rcases hu : uP 1099511627775 q2 with _ | ⟨oa, q3⟩
   ·have HVN : Hid (ckP foot Q = none) := Lib.hid (by rw [HV.out]; unfold ck3; rw [hu]; rfl)
    refine (uint_no g 1099511627775 q2 (Lib.hid hu) q2.length (Lib.hid rfl) (by have := HL.out; omega) _ (Lib.hid HX.out.base.rd)).mono ?_
    rintro e w1 ⟨rfl, h1, h2⟩
    refine ⟨rfl, ?_⟩
    rw [HVN.out]
    exact ⟨rfl, h1, HX.out.base.kept.trans (h2.mono fun k h => .inl (.inl h))⟩
   replace HV : Hid (ckP foot Q = ck4 foot rows pl oa q3) := Lib.hid (by rw [HV.out]; unfold ck3; rw [hu]; rfl)
   have hcn := uP_canonS HX.out.base.rd.lt hu
   have HOA : Hid (oa ≤ 1099511627775) := Lib.hid hcn.2
   have HUY := Lib.hid fun w H => uint_yes g 1099511627775 oa q2 q3 (Lib.hid hu) (by have := HL.out; omega) w H
   replace HL : Hid (q3.length ≤ 1000000 ∧ q3.length + 3 ≤ Q.length) := Lib.hid (by have := HL.out; have h9 := congrArg List.length hcn.1; simp only [List.length_append] at h9; have hp := ub_pos oa; omega)
   clear hu hcn
   refine (HUY.out _ (Lib.hid HX.out.base.rd)).mono ?_
   rintro e v12 hy
   obtain ⟨rfl, HR, HK⟩ := Yes.rd hy
   replace HX := Lib.hid (HX.out.read HR.out HK.out)
   clear hy HR HK HUY
   refine hK.out _ _ HX.out.base.seg (fun hHeld => ?_)
   clear hK K
   try dsimp only
   try simp only [Act.put, qz0, qz1, qz2, qz3, qz4, qz5]
   refine wpAnyH_ready (rs := [14]) (by kernel_rfl) (by simp) (AllReadyH.cons rfl (fun K hK => ?_) AllReadyH.nil)
   go_simp
   rcases hu : uP 1099511627775 q3 with _ | ⟨ob, q4⟩
   ·have HVN : Hid (ckP foot Q = none) := Lib.hid (by rw [HV.out]; unfold ck4; rw [hu]; rfl)
    refine (uint_no g 1099511627775 q3 (Lib.hid hu) q3.length (Lib.hid rfl) (by have := HL.out; omega) _ (Lib.hid HX.out.base.rd)).mono ?_
    rintro e w1 ⟨rfl, h1, h2⟩
    refine ⟨rfl, ?_⟩
    rw [HVN.out]
    exact ⟨rfl, h1, HX.out.base.kept.trans (h2.mono fun k h => .inl (.inl h))⟩
   replace HV : Hid (ckP foot Q = ck5 foot rows pl oa ob q4) := Lib.hid (by rw [HV.out]; unfold ck4; rw [hu]; rfl)
   have hcn := uP_canonS HX.out.base.rd.lt hu
   have HOB : Hid (ob ≤ 1099511627775) := Lib.hid hcn.2
   have HUY := Lib.hid fun w H => uint_yes g 1099511627775 ob q3 q4 (Lib.hid hu) (by have := HL.out; omega) w H
   replace HL : Hid (q4.length ≤ 1000000 ∧ q4.length + 4 ≤ Q.length) := Lib.hid (by have := HL.out; have h9 := congrArg List.length hcn.1; simp only [List.length_append] at h9; have hp := ub_pos ob; omega)
   clear hu hcn
   refine (HUY.out _ (Lib.hid HX.out.base.rd)).mono ?_
   rintro e v14 hy
   obtain ⟨rfl, HR, HK⟩ := Yes.rd hy
   replace HX := Lib.hid (HX.out.read HR.out HK.out)
   clear hy HR HK HUY
   refine hK.out _ _ HX.out.base.seg (fun hHeld => ?_)
   clear hK K
   try dsimp only
   try simp only [Act.put, qz0, qz1, qz2, qz3, qz4, qz5]
   refine wpAnyH_ready (rs := [16]) (by kernel_rfl) (by simp) (AllReadyH.cons rfl (fun K hK => ?_) AllReadyH.nil)
   go_simp
   rcases hu : zP q4 with _ | ⟨ta, q5⟩
   ·have HVN : Hid (ckP foot Q = none) := Lib.hid (by rw [HV.out]; unfold ck5; rw [hu]; rfl)
    refine (int_no g q4 (Lib.hid hu) q4.length (Lib.hid rfl) (by have := HL.out; omega) _ (Lib.hid HX.out.base.rd)).mono ?_
    rintro e w1 ⟨rfl, h1, h2⟩
    refine ⟨rfl, ?_⟩
    rw [HVN.out]
    exact ⟨rfl, h1, HX.out.base.kept.trans (h2.mono fun k h => .inl (.inl h))⟩
   replace HV : Hid (ckP foot Q = ck6 foot rows pl oa ob ta q5) := Lib.hid (by rw [HV.out]; unfold ck5; rw [hu]; rfl)
   have hcn := zP_canonS HX.out.base.rd.lt hu
   have HWta : Hid (Wf64 ta) := Lib.hid hcn.2
   have HUY := Lib.hid fun w H => int_yes g ta q4 q5 (Lib.hid hu) (by have := HL.out; omega) w H
   replace HL : Hid (q5.length ≤ 1000000 ∧ q5.length + 5 ≤ Q.length) := Lib.hid (by have := HL.out; have h9 := congrArg List.length hcn.1; simp only [List.length_append] at h9; have hp := ub_pos (zz ta); omega)
   clear hu hcn
   refine (HUY.out _ (Lib.hid HX.out.base.rd)).mono ?_
   rintro e v16 hy
   obtain ⟨rfl, HR, HK⟩ := Yes.rd hy
   replace HX := Lib.hid (HX.out.read HR.out HK.out)
   clear hy HR HK HUY
   refine hK.out _ _ HX.out.base.seg (fun hHeld => ?_)
   clear hK K
   try dsimp only
   try simp only [Act.put, qz0, qz1, qz2, qz3, qz4, qz5]
   refine wpAnyH_ready (rs := [18]) (by kernel_rfl) (by simp) (AllReadyH.cons rfl (fun K hK => ?_) AllReadyH.nil)
   go_simp
   rcases hu : zP q5 with _ | ⟨tz, q6⟩
   ·have HVN : Hid (ckP foot Q = none) := Lib.hid (by rw [HV.out]; unfold ck6; rw [hu]; rfl)
    refine (int_no g q5 (Lib.hid hu) q5.length (Lib.hid rfl) (by have := HL.out; omega) _ (Lib.hid HX.out.base.rd)).mono ?_
    rintro e w1 ⟨rfl, h1, h2⟩
    refine ⟨rfl, ?_⟩
    rw [HVN.out]
    exact ⟨rfl, h1, HX.out.base.kept.trans (h2.mono fun k h => .inl (.inl h))⟩
   replace HV : Hid (ckP foot Q = ck7 foot rows pl oa ob ta tz q6) := Lib.hid (by rw [HV.out]; unfold ck6; rw [hu]; rfl)
   have hcn := zP_canonS HX.out.base.rd.lt hu
   have HWtz : Hid (Wf64 tz) := Lib.hid hcn.2
   have HUY := Lib.hid fun w H => int_yes g tz q5 q6 (Lib.hid hu) (by have := HL.out; omega) w H
   replace HL : Hid (q6.length ≤ 1000000 ∧ q6.length + 6 ≤ Q.length) := Lib.hid (by have := HL.out; have h9 := congrArg List.length hcn.1; simp only [List.length_append] at h9; have hp := ub_pos (zz tz); omega)
   clear hu hcn
   refine (HUY.out _ (Lib.hid HX.out.base.rd)).mono ?_
   rintro e v18 hy
   obtain ⟨rfl, HR, HK⟩ := Yes.rd hy
   replace HX := Lib.hid (HX.out.read HR.out HK.out)
   clear hy HR HK HUY
   refine hK.out _ _ HX.out.base.seg (fun hHeld => ?_)
   clear hK K
   try dsimp only
   try simp only [Act.put, qz0, qz1, qz2, qz3, qz4, qz5]
   refine wpAnyH_ready (rs := [20]) (by kernel_rfl) (by simp) (AllReadyH.cons rfl (fun K hK => ?_) AllReadyH.nil)
   go_simp
   rcases hu : tP 32 q6 with _ | ⟨ka, q7⟩
   ·have HVN : Hid (ckP foot Q = none) := Lib.hid (by rw [HV.out]; unfold ck7; rw [hu]; rfl)
    refine (text_no g 32 (by omega) q6 (Lib.hid hu) q6.length (Lib.hid rfl) (by have := HL.out; omega) _ (Lib.hid HX.out.base.rd)).mono ?_
    rintro e w1 ⟨rfl, h1, h2⟩
    refine ⟨rfl, ?_⟩
    rw [HVN.out]
    exact ⟨rfl, h1, HX.out.base.kept.trans (h2.mono fun k h => .inl (.inl h))⟩
   replace HV : Hid (ckP foot Q = ck8 foot rows pl oa ob ta tz ka q7) := Lib.hid (by rw [HV.out]; unfold ck7; rw [hu]; rfl)
   have hcn := tP_canonS HX.out.base.rd.lt hu
   have HTka : Hid (ka.length ≤ 32) := Lib.hid hcn.2
   have HUY := Lib.hid fun w H => text_yes g 32 (by omega) q6 ka q7 (Lib.hid hu) (by have := HL.out; omega) w H
   replace HL : Hid (q7.length ≤ 1000000 ∧ q7.length + 7 ≤ Q.length) := Lib.hid (by have := HL.out; have h9 := congrArg List.length hcn.1; simp only [List.length_append] at h9; have hp := ub_pos ka.length; omega)
   clear hu hcn
   refine (HUY.out _ (Lib.hid HX.out.base.rd)).mono ?_
   rintro e v20 hy
   obtain ⟨rfl, HR, HK⟩ := Yes.rd hy
   replace HX := Lib.hid (HX.out.read HR.out HK.out)
   clear hy HR HK HUY
   refine hK.out _ _ HX.out.base.seg (fun hHeld => ?_)
   clear hK K
   try dsimp only
   try simp only [Act.put, qz0, qz1, qz2, qz3, qz4, qz5]
   refine wpAnyH_ready (rs := [22]) (by kernel_rfl) (by simp) (AllReadyH.cons rfl (fun K hK => ?_) AllReadyH.nil)
   go_simp
   rcases hu : tP 32 q7 with _ | ⟨kz, q8⟩
   ·have HVN : Hid (ckP foot Q = none) := Lib.hid (by rw [HV.out]; unfold ck8; rw [hu]; rfl)
    refine (text_no g 32 (by omega) q7 (Lib.hid hu) q7.length (Lib.hid rfl) (by have := HL.out; omega) _ (Lib.hid HX.out.base.rd)).mono ?_
    rintro e w1 ⟨rfl, h1, h2⟩
    refine ⟨rfl, ?_⟩
    rw [HVN.out]
    exact ⟨rfl, h1, HX.out.base.kept.trans (h2.mono fun k h => .inl (.inl h))⟩
   replace HV : Hid (ckP foot Q = if ckG foot (⟨rows, pl, oa, ob, ta, tz, strB ka, strB kz⟩ : Ck) = true then some ((⟨rows, pl, oa, ob, ta, tz, strB ka, strB kz⟩ : Ck), q8) else none) := Lib.hid (by rw [HV.out]; unfold ck8; rw [hu]; rfl)
   have hcn := tP_canonS HX.out.base.rd.lt hu
   have HTkz : Hid (kz.length ≤ 32) := Lib.hid hcn.2
   have HUY := Lib.hid fun w H => text_yes g 32 (by omega) q7 kz q8 (Lib.hid hu) (by have := HL.out; omega) w H
   replace HL : Hid (q8.length ≤ 1000000 ∧ q8.length + 8 ≤ Q.length) := Lib.hid (by have := HL.out; have h9 := congrArg List.length hcn.1; simp only [List.length_append] at h9; have hp := ub_pos kz.length; omega)
   clear hu hcn
   refine (HUY.out _ (Lib.hid HX.out.base.rd)).mono ?_
   rintro e v22 hy
   obtain ⟨rfl, HR, HK⟩ := Yes.rd hy
   replace HX := Lib.hid (HX.out.read HR.out HK.out)
   clear hy HR HK HUY
   refine hK.out _ _ HX.out.base.seg (fun hHeld => ?_)
   clear hK K
   try dsimp only
   try simp only [Act.put, qz0, qz1, qz2, qz3, qz4, qz5]
   refine wpAnyH_take (i := 23) (v := .agg #[.int .i64 (rows : Int), .int .i64 (pl : Int), .int .u64 (oa : Int), .int .u64 (ob : Int), .int .i64 ta, .int .i64 tz, .string (strB ka), .string (strB kz)]) rfl (by kernel_rfl) (by kernel_rfl) (by kernel_rfl) (fun _ _ _ h => h) (Or.inl ⟨by rfl, fun w _ => by go_simp⟩) hHeld ?_
   try dsimp only
   try simp only [Act.put, qz0, qz1, qz2, qz3, qz4, qz5]
   refine wpAnyH_ready (rs := [25]) (by kernel_rfl) (by simp) (AllReadyH.cons rfl (fun K hK => ?_) AllReadyH.nil)
   rw [if_pos (by rfl)]
   refine wp_store_row 41 (.tmp 5) (.tmp 29) rfl b5 #[.int .i64 (rows : Int), .int .i64 (pl : Int), .int .u64 (oa : Int), .int .u64 (ob : Int), .int .i64 ta, .int .i64 tz, .string (strB ka), .string (strB kz)] rfl rfl _ _ HX.out.row.1 (iCkS (⟨rows, pl, oa, ob, ta, tz, strB ka, strB kz⟩ : Ck)) (sizeCkS (⟨rows, pl, oa, ob, ta, tz, strB ka, strB kz⟩ : Ck)) (oneCkS (⟨rows, pl, oa, ob, ta, tz, strB ka, strB kz⟩ : Ck)) ?_
   have HX3 := Lib.hid (HX.out.put #[.int .i64 (rows : Int), .int .i64 (pl : Int), .int .u64 (oa : Int), .int .u64 (ob : Int), .int .i64 ta, .int .i64 tz, .string (strB ka), .string (strB kz)])
   refine hK.out _ _ HX3.out.base.seg (fun hHeld => ?_)
   clear hK K
   refine wpAnyH_done (by kernel_rfl) ?_ _
   clear hHeld HX
   go_wp2_with fail
   go_meet
   case rel => exact ⟨b5, rfl, Lib.hid ⟨⟨rows, pl, oa, ob, ta, tz, ka, kz, q8, HX3.out, HV.out, HR64.out, HOA.out, HL.out⟩⟩⟩
 case rest =>
 obtain ⟨b5, rfl, HF⟩ := hcut
 clear HV HL HX
 obtain ⟨rows, pl, oa, ob, ta, tz, ka, kz, q8, hB, hV, h64, hoa, hl⟩ := HF.out.ex
 have HX3 := Lib.hid hB.base
 have HC5 := Lib.hid hB.row.1
 have HV := Lib.hid hV
 have HR64 := Lib.hid h64
 have HOA := Lib.hid hoa
 clear hB hV h64 hoa hl HF
 by_cases h1 : 1 ≤ rows
 ·have H1 : Hid ((1 : Int) ≤ (rows : Int)) := Lib.hid (by omega)
  obtain ⟨rm, hrm⟩ : ∃ rm, rows = rm + 1 := ⟨rows - 1, by omega⟩
  have HS0 : Hid (IntKind.i64.wrap (rm : Int) = (rm : Int)) := Lib.hid (by have := HR64.out; rw [IntKind.wrap_i64]; omega)
  have HS1 : Hid ((rows : Int) - 1 = (rm : Int)) := Lib.hid (by omega)
  have HS2 : Hid (IntKind.u64.wrap (rm : Int) = (rm : Int)) := Lib.hid (by have := HR64.out; rw [IntKind.wrap_u64]; omega)
  obtain ⟨sm, hsm⟩ : ∃ sm, sm = oa + rm := ⟨_, rfl⟩
  have HS3 : Hid (IntKind.u64.wrap ((oa : Int) + (rm : Int)) = (sm : Int)) := Lib.hid (by have := HR64.out; have := HOA.out; rw [IntKind.wrap_u64]; omega)
  have HG0 : Hid (ckG foot (⟨rows, pl, oa, ob, ta, tz, strB ka, strB kz⟩ : Ck) = (decide (ob = sm) && decide (pl < foot))) := Lib.hid (by unfold ckG; show (decide (1 ≤ rows) && (decide (ob = oa + (rows - 1)) && decide (pl < foot))) = _; rw [show oa + (rows - 1) = sm by omega]; simp [h1])
  clear hrm hsm h1
  by_cases h2 : ob = sm
  ·have H2 : Hid ((ob : Int) = (sm : Int)) := Lib.hid (by omega)
   by_cases h3 : pl < foot
   ·have H3 : Hid ((pl : Int) < (foot : Int)) := Lib.hid (by omega)
    have HNG : Hid (ckG foot (⟨rows, pl, oa, ob, ta, tz, strB ka, strB kz⟩ : Ck) = true) := Lib.hid (by rw [HG0.out]; simp [h2, h3])
    clear h2 h3
    go_upto_region 2 with fail
    refine wp_region_held_drew (S := fun w => w.heap[b5]? = some (.cells #[.int .i64 (rows : Int), .int .i64 (pl : Int), .int .u64 (oa : Int), .int .u64 (ob : Int), .int .i64 ta, .int .i64 tz, .string (strB ka), .string (strB kz)] 41 (0, 0)) ∧ w.heap[bs]? = some (.cells #[vb, .int .i64 (p : Int), vc, .int .i64 (foot : Int)] 60 (0, 0))) (by kernel_rfl) ⟨HC5.out, HX3.out.seg⟩ (fun hHeld => ?_)
    refine wpAnyH_take (i := 0) (v := .pointer (some ⟨g, 0, none⟩)) rfl (by kernel_rfl) (by kernel_rfl) (by kernel_rfl) (fun _ _ _ h => h) (Or.inl ⟨by rfl, fun _ _ => rfl⟩) hHeld ?_
    try dsimp only
    try simp only [Act.put, qz0, qz1, qz2, qz3, qz4, qz5]
    refine wpAnyH_take (i := 1) (v := .pointer (some ⟨b5, 0, none⟩)) rfl (by kernel_rfl) (by kernel_rfl) (by kernel_rfl) (fun _ _ _ h => h) (Or.inl ⟨by rfl, fun w _ => by go_simp⟩) hHeld ?_
    try dsimp only
    try simp only [Act.put, qz0, qz1, qz2, qz3, qz4, qz5]
    refine wpAnyH_take (i := 2) (v := .int .i64 (rows : Int)) rfl (by kernel_rfl) (by kernel_rfl) (by kernel_rfl) (fun _ _ _ h => h) (ylS lv_intS rfl (.tmp 31) rfl b5 0 rfl _ (fun w hw => by rw [cell_of_row _ _ _ _ _ _ hw.1]; rfl)) hHeld ?_
    try dsimp only
    try simp only [Act.put, qz0, qz1, qz2, qz3, qz4, qz5]
    refine wpAnyH_take (i := 3) (v := .bool true) rfl (by kernel_rfl) (by kernel_rfl) (by kernel_rfl) (fun _ _ _ h => h) (Or.inl ⟨by rfl, fun w _ => by have h9 := H1.out; go_simp⟩) hHeld ?_
    try dsimp only
    try simp only [Act.put, qz0, qz1, qz2, qz3, qz4, qz5]
    refine wpAnyH_take (i := 4) (v := .bool true) rfl (by kernel_rfl) (by kernel_rfl) (by kernel_rfl) (fun _ _ _ h => h) (Or.inl ⟨by rfl, fun _ _ => rfl⟩) hHeld ?_
    try dsimp only
    try simp only [Act.put, qz0, qz1, qz2, qz3, qz4, qz5]
    refine wpAnyH_take (i := 5) (v := .pointer (some ⟨b5, 3, none⟩)) rfl (by kernel_rfl) (by kernel_rfl) (by kernel_rfl) (fun _ _ _ h => h) (Or.inl ⟨by rfl, fun w _ => by go_simp⟩) hHeld ?_
    try dsimp only
    try simp only [Act.put, qz0, qz1, qz2, qz3, qz4, qz5]
    refine wpAnyH_take (i := 6) (v := .int .u64 (ob : Int)) rfl (by kernel_rfl) (by kernel_rfl) (by kernel_rfl) (fun _ _ _ h => h) (ylS lv_u64S rfl (.tmp 35) rfl b5 3 rfl _ (fun w hw => by rw [cell_of_row _ _ _ _ _ _ hw.1]; rfl)) hHeld ?_
    try dsimp only
    try simp only [Act.put, qz0, qz1, qz2, qz3, qz4, qz5]
    refine wpAnyH_take (i := 7) (v := .pointer (some ⟨b5, 2, none⟩)) rfl (by kernel_rfl) (by kernel_rfl) (by kernel_rfl) (fun _ _ _ h => h) (Or.inl ⟨by rfl, fun w _ => by go_simp⟩) hHeld ?_
    try dsimp only
    try simp only [Act.put, qz0, qz1, qz2, qz3, qz4, qz5]
    refine wpAnyH_take (i := 8) (v := .int .u64 (oa : Int)) rfl (by kernel_rfl) (by kernel_rfl) (by kernel_rfl) (fun _ _ _ h => h) (ylS lv_u64S rfl (.tmp 37) rfl b5 2 rfl _ (fun w hw => by rw [cell_of_row _ _ _ _ _ _ hw.1]; rfl)) hHeld ?_
    try dsimp only
    try simp only [Act.put, qz0, qz1, qz2, qz3, qz4, qz5]
    refine wpAnyH_take (i := 9) (v := .pointer (some ⟨b5, 0, none⟩)) rfl (by kernel_rfl) (by kernel_rfl) (by kernel_rfl) (fun _ _ _ h => h) (Or.inl ⟨by rfl, fun w _ => by go_simp⟩) hHeld ?_
    try dsimp only
    try simp only [Act.put, qz0, qz1, qz2, qz3, qz4, qz5]
    refine wpAnyH_take (i := 10) (v := .int .i64 (rows : Int)) rfl (by kernel_rfl) (by kernel_rfl) (by kernel_rfl) (fun _ _ _ h => h) (ylS lv_intS rfl (.tmp 39) rfl b5 0 rfl _ (fun w hw => by rw [cell_of_row _ _ _ _ _ _ hw.1]; rfl)) hHeld ?_
    try dsimp only
    try simp only [Act.put, qz0, qz1, qz2, qz3, qz4, qz5]
    refine wpAnyH_take (i := 11) (v := .int .i64 (rm : Int)) rfl (by kernel_rfl) (by kernel_rfl) (by kernel_rfl) (fun _ _ _ h => h) (Or.inl ⟨by rfl, fun w _ => by have h9 := HS1.out; have h8 := HS0.out; go_simp⟩) hHeld ?_
    try dsimp only
    try simp only [Act.put, qz0, qz1, qz2, qz3, qz4, qz5]
    refine wpAnyH_take (i := 12) (v := .int .u64 (rm : Int)) rfl (by kernel_rfl) (by kernel_rfl) (by kernel_rfl) (fun _ _ _ h => h) (Or.inl ⟨by rfl, fun w _ => by have h9 := HS2.out; go_simp⟩) hHeld ?_
    try dsimp only
    try simp only [Act.put, qz0, qz1, qz2, qz3, qz4, qz5]
    refine wpAnyH_take (i := 13) (v := .int .u64 (sm : Int)) rfl (by kernel_rfl) (by kernel_rfl) (by kernel_rfl) (fun _ _ _ h => h) (Or.inl ⟨by rfl, fun w _ => by have h9 := HS3.out; go_simp⟩) hHeld ?_
    try dsimp only
    try simp only [Act.put, qz0, qz1, qz2, qz3, qz4, qz5]
    refine wpAnyH_take (i := 14) (v := .bool true) rfl (by kernel_rfl) (by kernel_rfl) (by kernel_rfl) (fun _ _ _ h => h) (Or.inl ⟨by rfl, fun w _ => by have h9 := H2.out; go_simp⟩) hHeld ?_
    try dsimp only
    try simp only [Act.put, qz0, qz1, qz2, qz3, qz4, qz5]
    refine wpAnyH_take (i := 15) (v := .bool true) rfl (by kernel_rfl) (by kernel_rfl) (by kernel_rfl) (fun _ _ _ h => h) (Or.inl ⟨by rfl, fun w _ => by go_simp⟩) hHeld ?_
    try dsimp only
    try simp only [Act.put, qz0, qz1, qz2, qz3, qz4, qz5]
    refine wpAnyH_take (i := 16) (v := .bool true) rfl (by kernel_rfl) (by kernel_rfl) (by kernel_rfl) (fun _ _ _ h => h) (Or.inl ⟨by rfl, fun _ _ => rfl⟩) hHeld ?_
    try dsimp only
    try simp only [Act.put, qz0, qz1, qz2, qz3, qz4, qz5]
    refine wpAnyH_take (i := 17) (v := .pointer (some ⟨b5, 1, none⟩)) rfl (by kernel_rfl) (by kernel_rfl) (by kernel_rfl) (fun _ _ _ h => h) (Or.inl ⟨by rfl, fun w _ => by go_simp⟩) hHeld ?_
    try dsimp only
    try simp only [Act.put, qz0, qz1, qz2, qz3, qz4, qz5]
    refine wpAnyH_take (i := 18) (v := .int .i64 (pl : Int)) rfl (by kernel_rfl) (by kernel_rfl) (by kernel_rfl) (fun _ _ _ h => h) (ylS lv_intS rfl (.tmp 47) rfl b5 1 rfl _ (fun w hw => by rw [cell_of_row _ _ _ _ _ _ hw.1]; rfl)) hHeld ?_
    try dsimp only
    try simp only [Act.put, qz0, qz1, qz2, qz3, qz4, qz5]
    refine wpAnyH_take (i := 19) (v := .pointer (some ⟨bs, 0, none⟩)) rfl (by kernel_rfl) (by kernel_rfl) (by kernel_rfl) (fun _ _ _ h => h) (Or.inl ⟨by rfl, fun _ _ => rfl⟩) hHeld ?_
    try dsimp only
    try simp only [Act.put, qz0, qz1, qz2, qz3, qz4, qz5]
    refine wpAnyH_take (i := 20) (v := .pointer (some ⟨bs, 0, none⟩)) rfl (by kernel_rfl) (by kernel_rfl) (by kernel_rfl) (fun _ _ _ h => h) (Or.inl ⟨by rfl, fun w _ => by go_simp⟩) hHeld ?_
    try dsimp only
    try simp only [Act.put, qz0, qz1, qz2, qz3, qz4, qz5]
    refine wpAnyH_take (i := 21) (v := .pointer (some ⟨bs, 3, none⟩)) rfl (by kernel_rfl) (by kernel_rfl) (by kernel_rfl) (fun _ _ _ h => h) (Or.inl ⟨by rfl, fun w _ => by go_simp⟩) hHeld ?_
    try dsimp only
    try simp only [Act.put, qz0, qz1, qz2, qz3, qz4, qz5]
    refine wpAnyH_take (i := 22) (v := .int .i64 (foot : Int)) rfl (by kernel_rfl) (by kernel_rfl) (by kernel_rfl) (fun _ _ _ h => h) (ylS lv_intS rfl (.tmp 51) rfl bs 3 rfl _ (fun w hw => by rw [cell_of_row _ _ _ _ _ _ hw.2]; rfl)) hHeld ?_
    try dsimp only
    try simp only [Act.put, qz0, qz1, qz2, qz3, qz4, qz5]
    refine wpAnyH_take (i := 23) (v := .bool true) rfl (by kernel_rfl) (by kernel_rfl) (by kernel_rfl) (fun _ _ _ h => h) (Or.inl ⟨by rfl, fun w _ => by have h9 := H3.out; go_simp⟩) hHeld ?_
    try dsimp only
    try simp only [Act.put, qz0, qz1, qz2, qz3, qz4, qz5]
    refine wpAnyH_take (i := 24) (v := .bool true) rfl (by kernel_rfl) (by kernel_rfl) (by kernel_rfl) (fun _ _ _ h => h) (Or.inl ⟨by rfl, fun w _ => by go_simp⟩) hHeld ?_
    try dsimp only
    try simp only [Act.put, qz0, qz1, qz2, qz3, qz4, qz5]
    refine wpAnyH_ready (rs := [25]) (by kernel_rfl) (by simp) (AllReadyH.cons rfl (fun K hK => ?_) AllReadyH.nil)
    go_simp
    refine (check_true _ _).mono ?_
    rintro e w1 ⟨rfl, rfl⟩
    refine hK.out _ _ ⟨HC5.out, HX3.out.seg⟩ (fun hHeld => ?_)
    clear hK K
    refine wpAnyH_done (by kernel_rfl) ?_ _
    clear hHeld
    rw [if_pos HNG.out] at HV
    have HX4 : Hid (RK w g bs vb p vc foot q8 wc.drew) := Lib.hid HX3.out.drew
    have HC6 : Hid (wc.drew.heap[b5]? = some (.cells #[.int .i64 (rows : Int), .int .i64 (pl : Int), .int .u64 (oa : Int), .int .u64 (ob : Int), .int .i64 ta, .int .i64 tz, .string (strB ka), .string (strB kz)] 41 (0, 0))) := HC5
    generalize wc.drew = x6 at *
    go_wp2_with (first | (refine wpList_load_row rfl 41 (.tmp 5) rfl b5 rfl _ #[.int .i64 (rows : Int), .int .i64 (pl : Int), .int .u64 (oa : Int), .int .u64 (ob : Int), .int .i64 ta, .int .i64 tz, .string (strB ka), .string (strB kz)] (0, 0) _ HC6.out uCk rfl (by kernel_rfl) ?_) | (refine wpList_store_row rfl 41 (.tmp 4) (.tmp 56) rfl w.heap.size #[.int .i64 (rows : Int), .int .i64 (pl : Int), .int .u64 (oa : Int), .int .u64 (ob : Int), .int .i64 ta, .int .i64 tz, .string (strB ka), .string (strB kz)] rfl rfl _ _ HX4.out.res (iCkS (⟨rows, pl, oa, ob, ta, tz, strB ka, strB kz⟩ : Ck)) (sizeCkS (⟨rows, pl, oa, ob, ta, tz, strB ka, strB kz⟩ : Ck)) (oneCkS (⟨rows, pl, oa, ob, ta, tz, strB ka, strB kz⟩ : Ck)) ?_))
    have hk := HX4.out.kept
    have hrs := HX4.out.res
    have hlt := HX4.out.lt
    have hrd := HX4.out.rd
    have hkr : Kept (fun k => k = w.heap.size) x6 (x6.setRow w.heap.size #[.int .i64 (rows : Int), .int .i64 (pl : Int), .int .u64 (oa : Int), .int .u64 (ob : Int), .int .i64 ta, .int .i64 tz, .string (strB ka), .string (strB kz)]) := kept_setRow (S := fun k => k = w.heap.size) (Kept.refl _ _) (.inl rfl) _
    rw [HV.out]
    exact post_rowS 4 41 Tryd.results50 rfl w.heap.size 41 _ (0, 0) _ rfl (setRow_heap _ _ _ _ _ _ hrs) uCk rfl (iCkS (⟨rows, pl, oa, ob, ta, tz, strB ka, strB kz⟩ : Ck)) ⟨rfl, hrd.highS hkr (fun k hk => by have hk : k = w.heap.size := hk; omega), hk.trans (hkr.mono fun k h => .inl (.inr (by have h : k = w.heap.size := h; omega)))⟩
   ·have H3 : Hid (¬ ((pl : Int) < (foot : Int))) := Lib.hid (by omega)
    have HNG : Hid (ckG foot (⟨rows, pl, oa, ob, ta, tz, strB ka, strB kz⟩ : Ck) = false) := Lib.hid (by rw [HG0.out]; simp [h2, h3])
    clear h2 h3
    go_upto_region 2 with fail
    refine wp_region_held_drew (S := fun w => w.heap[b5]? = some (.cells #[.int .i64 (rows : Int), .int .i64 (pl : Int), .int .u64 (oa : Int), .int .u64 (ob : Int), .int .i64 ta, .int .i64 tz, .string (strB ka), .string (strB kz)] 41 (0, 0)) ∧ w.heap[bs]? = some (.cells #[vb, .int .i64 (p : Int), vc, .int .i64 (foot : Int)] 60 (0, 0))) (by kernel_rfl) ⟨HC5.out, HX3.out.seg⟩ (fun hHeld => ?_)
    refine wpAnyH_take (i := 0) (v := .pointer (some ⟨g, 0, none⟩)) rfl (by kernel_rfl) (by kernel_rfl) (by kernel_rfl) (fun _ _ _ h => h) (Or.inl ⟨by rfl, fun _ _ => rfl⟩) hHeld ?_
    try dsimp only
    try simp only [Act.put, qz0, qz1, qz2, qz3, qz4, qz5]
    refine wpAnyH_take (i := 1) (v := .pointer (some ⟨b5, 0, none⟩)) rfl (by kernel_rfl) (by kernel_rfl) (by kernel_rfl) (fun _ _ _ h => h) (Or.inl ⟨by rfl, fun w _ => by go_simp⟩) hHeld ?_
    try dsimp only
    try simp only [Act.put, qz0, qz1, qz2, qz3, qz4, qz5]
    refine wpAnyH_take (i := 2) (v := .int .i64 (rows : Int)) rfl (by kernel_rfl) (by kernel_rfl) (by kernel_rfl) (fun _ _ _ h => h) (ylS lv_intS rfl (.tmp 31) rfl b5 0 rfl _ (fun w hw => by rw [cell_of_row _ _ _ _ _ _ hw.1]; rfl)) hHeld ?_
    try dsimp only
    try simp only [Act.put, qz0, qz1, qz2, qz3, qz4, qz5]
    refine wpAnyH_take (i := 3) (v := .bool true) rfl (by kernel_rfl) (by kernel_rfl) (by kernel_rfl) (fun _ _ _ h => h) (Or.inl ⟨by rfl, fun w _ => by have h9 := H1.out; go_simp⟩) hHeld ?_
    try dsimp only
    try simp only [Act.put, qz0, qz1, qz2, qz3, qz4, qz5]
    refine wpAnyH_take (i := 4) (v := .bool true) rfl (by kernel_rfl) (by kernel_rfl) (by kernel_rfl) (fun _ _ _ h => h) (Or.inl ⟨by rfl, fun _ _ => rfl⟩) hHeld ?_
    try dsimp only
    try simp only [Act.put, qz0, qz1, qz2, qz3, qz4, qz5]
    refine wpAnyH_take (i := 5) (v := .pointer (some ⟨b5, 3, none⟩)) rfl (by kernel_rfl) (by kernel_rfl) (by kernel_rfl) (fun _ _ _ h => h) (Or.inl ⟨by rfl, fun w _ => by go_simp⟩) hHeld ?_
    try dsimp only
    try simp only [Act.put, qz0, qz1, qz2, qz3, qz4, qz5]
    refine wpAnyH_take (i := 6) (v := .int .u64 (ob : Int)) rfl (by kernel_rfl) (by kernel_rfl) (by kernel_rfl) (fun _ _ _ h => h) (ylS lv_u64S rfl (.tmp 35) rfl b5 3 rfl _ (fun w hw => by rw [cell_of_row _ _ _ _ _ _ hw.1]; rfl)) hHeld ?_
    try dsimp only
    try simp only [Act.put, qz0, qz1, qz2, qz3, qz4, qz5]
    refine wpAnyH_take (i := 7) (v := .pointer (some ⟨b5, 2, none⟩)) rfl (by kernel_rfl) (by kernel_rfl) (by kernel_rfl) (fun _ _ _ h => h) (Or.inl ⟨by rfl, fun w _ => by go_simp⟩) hHeld ?_
    try dsimp only
    try simp only [Act.put, qz0, qz1, qz2, qz3, qz4, qz5]
    refine wpAnyH_take (i := 8) (v := .int .u64 (oa : Int)) rfl (by kernel_rfl) (by kernel_rfl) (by kernel_rfl) (fun _ _ _ h => h) (ylS lv_u64S rfl (.tmp 37) rfl b5 2 rfl _ (fun w hw => by rw [cell_of_row _ _ _ _ _ _ hw.1]; rfl)) hHeld ?_
    try dsimp only
    try simp only [Act.put, qz0, qz1, qz2, qz3, qz4, qz5]
    refine wpAnyH_take (i := 9) (v := .pointer (some ⟨b5, 0, none⟩)) rfl (by kernel_rfl) (by kernel_rfl) (by kernel_rfl) (fun _ _ _ h => h) (Or.inl ⟨by rfl, fun w _ => by go_simp⟩) hHeld ?_
    try dsimp only
    try simp only [Act.put, qz0, qz1, qz2, qz3, qz4, qz5]
    refine wpAnyH_take (i := 10) (v := .int .i64 (rows : Int)) rfl (by kernel_rfl) (by kernel_rfl) (by kernel_rfl) (fun _ _ _ h => h) (ylS lv_intS rfl (.tmp 39) rfl b5 0 rfl _ (fun w hw => by rw [cell_of_row _ _ _ _ _ _ hw.1]; rfl)) hHeld ?_
    try dsimp only
    try simp only [Act.put, qz0, qz1, qz2, qz3, qz4, qz5]
    refine wpAnyH_take (i := 11) (v := .int .i64 (rm : Int)) rfl (by kernel_rfl) (by kernel_rfl) (by kernel_rfl) (fun _ _ _ h => h) (Or.inl ⟨by rfl, fun w _ => by have h9 := HS1.out; have h8 := HS0.out; go_simp⟩) hHeld ?_
    try dsimp only
    try simp only [Act.put, qz0, qz1, qz2, qz3, qz4, qz5]
    refine wpAnyH_take (i := 12) (v := .int .u64 (rm : Int)) rfl (by kernel_rfl) (by kernel_rfl) (by kernel_rfl) (fun _ _ _ h => h) (Or.inl ⟨by rfl, fun w _ => by have h9 := HS2.out; go_simp⟩) hHeld ?_
    try dsimp only
    try simp only [Act.put, qz0, qz1, qz2, qz3, qz4, qz5]
    refine wpAnyH_take (i := 13) (v := .int .u64 (sm : Int)) rfl (by kernel_rfl) (by kernel_rfl) (by kernel_rfl) (fun _ _ _ h => h) (Or.inl ⟨by rfl, fun w _ => by have h9 := HS3.out; go_simp⟩) hHeld ?_
    try dsimp only
    try simp only [Act.put, qz0, qz1, qz2, qz3, qz4, qz5]
    refine wpAnyH_take (i := 14) (v := .bool true) rfl (by kernel_rfl) (by kernel_rfl) (by kernel_rfl) (fun _ _ _ h => h) (Or.inl ⟨by rfl, fun w _ => by have h9 := H2.out; go_simp⟩) hHeld ?_
    try dsimp only
    try simp only [Act.put, qz0, qz1, qz2, qz3, qz4, qz5]
    refine wpAnyH_take (i := 15) (v := .bool true) rfl (by kernel_rfl) (by kernel_rfl) (by kernel_rfl) (fun _ _ _ h => h) (Or.inl ⟨by rfl, fun w _ => by go_simp⟩) hHeld ?_
    try dsimp only
    try simp only [Act.put, qz0, qz1, qz2, qz3, qz4, qz5]
    refine wpAnyH_take (i := 16) (v := .bool true) rfl (by kernel_rfl) (by kernel_rfl) (by kernel_rfl) (fun _ _ _ h => h) (Or.inl ⟨by rfl, fun _ _ => rfl⟩) hHeld ?_
    try dsimp only
    try simp only [Act.put, qz0, qz1, qz2, qz3, qz4, qz5]
    refine wpAnyH_take (i := 17) (v := .pointer (some ⟨b5, 1, none⟩)) rfl (by kernel_rfl) (by kernel_rfl) (by kernel_rfl) (fun _ _ _ h => h) (Or.inl ⟨by rfl, fun w _ => by go_simp⟩) hHeld ?_
    try dsimp only
    try simp only [Act.put, qz0, qz1, qz2, qz3, qz4, qz5]
    refine wpAnyH_take (i := 18) (v := .int .i64 (pl : Int)) rfl (by kernel_rfl) (by kernel_rfl) (by kernel_rfl) (fun _ _ _ h => h) (ylS lv_intS rfl (.tmp 47) rfl b5 1 rfl _ (fun w hw => by rw [cell_of_row _ _ _ _ _ _ hw.1]; rfl)) hHeld ?_
    try dsimp only
    try simp only [Act.put, qz0, qz1, qz2, qz3, qz4, qz5]
    refine wpAnyH_take (i := 19) (v := .pointer (some ⟨bs, 0, none⟩)) rfl (by kernel_rfl) (by kernel_rfl) (by kernel_rfl) (fun _ _ _ h => h) (Or.inl ⟨by rfl, fun _ _ => rfl⟩) hHeld ?_
    try dsimp only
    try simp only [Act.put, qz0, qz1, qz2, qz3, qz4, qz5]
    refine wpAnyH_take (i := 20) (v := .pointer (some ⟨bs, 0, none⟩)) rfl (by kernel_rfl) (by kernel_rfl) (by kernel_rfl) (fun _ _ _ h => h) (Or.inl ⟨by rfl, fun w _ => by go_simp⟩) hHeld ?_
    try dsimp only
    try simp only [Act.put, qz0, qz1, qz2, qz3, qz4, qz5]
    refine wpAnyH_take (i := 21) (v := .pointer (some ⟨bs, 3, none⟩)) rfl (by kernel_rfl) (by kernel_rfl) (by kernel_rfl) (fun _ _ _ h => h) (Or.inl ⟨by rfl, fun w _ => by go_simp⟩) hHeld ?_
    try dsimp only
    try simp only [Act.put, qz0, qz1, qz2, qz3, qz4, qz5]
    refine wpAnyH_take (i := 22) (v := .int .i64 (foot : Int)) rfl (by kernel_rfl) (by kernel_rfl) (by kernel_rfl) (fun _ _ _ h => h) (ylS lv_intS rfl (.tmp 51) rfl bs 3 rfl _ (fun w hw => by rw [cell_of_row _ _ _ _ _ _ hw.2]; rfl)) hHeld ?_
    try dsimp only
    try simp only [Act.put, qz0, qz1, qz2, qz3, qz4, qz5]
    refine wpAnyH_take (i := 23) (v := .bool false) rfl (by kernel_rfl) (by kernel_rfl) (by kernel_rfl) (fun _ _ _ h => h) (Or.inl ⟨by rfl, fun w _ => by have h9 := H3.out; go_simp⟩) hHeld ?_
    try dsimp only
    try simp only [Act.put, qz0, qz1, qz2, qz3, qz4, qz5]
    refine wpAnyH_take (i := 24) (v := .bool false) rfl (by kernel_rfl) (by kernel_rfl) (by kernel_rfl) (fun _ _ _ h => h) (Or.inl ⟨by rfl, fun w _ => by go_simp⟩) hHeld ?_
    try dsimp only
    try simp only [Act.put, qz0, qz1, qz2, qz3, qz4, qz5]
    refine wpAnyH_ready (rs := [25]) (by kernel_rfl) (by simp) (AllReadyH.cons rfl (fun K hK => ?_) AllReadyH.nil)
    go_simp
    rw [if_neg (by rw [HNG.out]; simp)] at HV
    rw [HV.out]
    obtain ⟨A9, C9, hrd9⟩ := HX3.out.rd
    refine (check_false g C9 A9 q8 _ (Lib.hid (hrd9.keep (S := fun _ => False) ((Kept.refl _ _).drew) (fun h => h) (fun _ _ _ h => h)))).mono ?_
    rintro e w1 ⟨rfl, h1, h2⟩
    exact ⟨rfl, rfl, h1, (HX3.out.kept.drew).trans (h2.mono fun k h => .inl (.inl h))⟩
  ·have H2 : Hid (¬ ((ob : Int) = (sm : Int))) := Lib.hid (by omega)
   have HNG : Hid (ckG foot (⟨rows, pl, oa, ob, ta, tz, strB ka, strB kz⟩ : Ck) = false) := Lib.hid (by rw [HG0.out]; simp [h2])
   clear h2
   go_upto_region 2 with fail
   refine wp_region_held_drew (S := fun w => w.heap[b5]? = some (.cells #[.int .i64 (rows : Int), .int .i64 (pl : Int), .int .u64 (oa : Int), .int .u64 (ob : Int), .int .i64 ta, .int .i64 tz, .string (strB ka), .string (strB kz)] 41 (0, 0)) ∧ w.heap[bs]? = some (.cells #[vb, .int .i64 (p : Int), vc, .int .i64 (foot : Int)] 60 (0, 0))) (by kernel_rfl) ⟨HC5.out, HX3.out.seg⟩ (fun hHeld => ?_)
   refine wpAnyH_take (i := 0) (v := .pointer (some ⟨g, 0, none⟩)) rfl (by kernel_rfl) (by kernel_rfl) (by kernel_rfl) (fun _ _ _ h => h) (Or.inl ⟨by rfl, fun _ _ => rfl⟩) hHeld ?_
   try dsimp only
   try simp only [Act.put, qz0, qz1, qz2, qz3, qz4, qz5]
   refine wpAnyH_take (i := 1) (v := .pointer (some ⟨b5, 0, none⟩)) rfl (by kernel_rfl) (by kernel_rfl) (by kernel_rfl) (fun _ _ _ h => h) (Or.inl ⟨by rfl, fun w _ => by go_simp⟩) hHeld ?_
   try dsimp only
   try simp only [Act.put, qz0, qz1, qz2, qz3, qz4, qz5]
   refine wpAnyH_take (i := 2) (v := .int .i64 (rows : Int)) rfl (by kernel_rfl) (by kernel_rfl) (by kernel_rfl) (fun _ _ _ h => h) (ylS lv_intS rfl (.tmp 31) rfl b5 0 rfl _ (fun w hw => by rw [cell_of_row _ _ _ _ _ _ hw.1]; rfl)) hHeld ?_
   try dsimp only
   try simp only [Act.put, qz0, qz1, qz2, qz3, qz4, qz5]
   refine wpAnyH_take (i := 3) (v := .bool true) rfl (by kernel_rfl) (by kernel_rfl) (by kernel_rfl) (fun _ _ _ h => h) (Or.inl ⟨by rfl, fun w _ => by have h9 := H1.out; go_simp⟩) hHeld ?_
   try dsimp only
   try simp only [Act.put, qz0, qz1, qz2, qz3, qz4, qz5]
   refine wpAnyH_take (i := 4) (v := .bool true) rfl (by kernel_rfl) (by kernel_rfl) (by kernel_rfl) (fun _ _ _ h => h) (Or.inl ⟨by rfl, fun _ _ => rfl⟩) hHeld ?_
   try dsimp only
   try simp only [Act.put, qz0, qz1, qz2, qz3, qz4, qz5]
   refine wpAnyH_take (i := 5) (v := .pointer (some ⟨b5, 3, none⟩)) rfl (by kernel_rfl) (by kernel_rfl) (by kernel_rfl) (fun _ _ _ h => h) (Or.inl ⟨by rfl, fun w _ => by go_simp⟩) hHeld ?_
   try dsimp only
   try simp only [Act.put, qz0, qz1, qz2, qz3, qz4, qz5]
   refine wpAnyH_take (i := 6) (v := .int .u64 (ob : Int)) rfl (by kernel_rfl) (by kernel_rfl) (by kernel_rfl) (fun _ _ _ h => h) (ylS lv_u64S rfl (.tmp 35) rfl b5 3 rfl _ (fun w hw => by rw [cell_of_row _ _ _ _ _ _ hw.1]; rfl)) hHeld ?_
   try dsimp only
   try simp only [Act.put, qz0, qz1, qz2, qz3, qz4, qz5]
   refine wpAnyH_take (i := 7) (v := .pointer (some ⟨b5, 2, none⟩)) rfl (by kernel_rfl) (by kernel_rfl) (by kernel_rfl) (fun _ _ _ h => h) (Or.inl ⟨by rfl, fun w _ => by go_simp⟩) hHeld ?_
   try dsimp only
   try simp only [Act.put, qz0, qz1, qz2, qz3, qz4, qz5]
   refine wpAnyH_take (i := 8) (v := .int .u64 (oa : Int)) rfl (by kernel_rfl) (by kernel_rfl) (by kernel_rfl) (fun _ _ _ h => h) (ylS lv_u64S rfl (.tmp 37) rfl b5 2 rfl _ (fun w hw => by rw [cell_of_row _ _ _ _ _ _ hw.1]; rfl)) hHeld ?_
   try dsimp only
   try simp only [Act.put, qz0, qz1, qz2, qz3, qz4, qz5]
   refine wpAnyH_take (i := 9) (v := .pointer (some ⟨b5, 0, none⟩)) rfl (by kernel_rfl) (by kernel_rfl) (by kernel_rfl) (fun _ _ _ h => h) (Or.inl ⟨by rfl, fun w _ => by go_simp⟩) hHeld ?_
   try dsimp only
   try simp only [Act.put, qz0, qz1, qz2, qz3, qz4, qz5]
   refine wpAnyH_take (i := 10) (v := .int .i64 (rows : Int)) rfl (by kernel_rfl) (by kernel_rfl) (by kernel_rfl) (fun _ _ _ h => h) (ylS lv_intS rfl (.tmp 39) rfl b5 0 rfl _ (fun w hw => by rw [cell_of_row _ _ _ _ _ _ hw.1]; rfl)) hHeld ?_
   try dsimp only
   try simp only [Act.put, qz0, qz1, qz2, qz3, qz4, qz5]
   refine wpAnyH_take (i := 11) (v := .int .i64 (rm : Int)) rfl (by kernel_rfl) (by kernel_rfl) (by kernel_rfl) (fun _ _ _ h => h) (Or.inl ⟨by rfl, fun w _ => by have h9 := HS1.out; have h8 := HS0.out; go_simp⟩) hHeld ?_
   try dsimp only
   try simp only [Act.put, qz0, qz1, qz2, qz3, qz4, qz5]
   refine wpAnyH_take (i := 12) (v := .int .u64 (rm : Int)) rfl (by kernel_rfl) (by kernel_rfl) (by kernel_rfl) (fun _ _ _ h => h) (Or.inl ⟨by rfl, fun w _ => by have h9 := HS2.out; go_simp⟩) hHeld ?_
   try dsimp only
   try simp only [Act.put, qz0, qz1, qz2, qz3, qz4, qz5]
   refine wpAnyH_take (i := 13) (v := .int .u64 (sm : Int)) rfl (by kernel_rfl) (by kernel_rfl) (by kernel_rfl) (fun _ _ _ h => h) (Or.inl ⟨by rfl, fun w _ => by have h9 := HS3.out; go_simp⟩) hHeld ?_
   try dsimp only
   try simp only [Act.put, qz0, qz1, qz2, qz3, qz4, qz5]
   refine wpAnyH_take (i := 14) (v := .bool false) rfl (by kernel_rfl) (by kernel_rfl) (by kernel_rfl) (fun _ _ _ h => h) (Or.inl ⟨by rfl, fun w _ => by have h9 := H2.out; go_simp⟩) hHeld ?_
   try dsimp only
   try simp only [Act.put, qz0, qz1, qz2, qz3, qz4, qz5]
   refine wpAnyH_take (i := 15) (v := .bool false) rfl (by kernel_rfl) (by kernel_rfl) (by kernel_rfl) (fun _ _ _ h => h) (Or.inl ⟨by rfl, fun w _ => by go_simp⟩) hHeld ?_
   try dsimp only
   try simp only [Act.put, qz0, qz1, qz2, qz3, qz4, qz5]
   refine wpAnyH_take (i := 16) (v := .bool false) rfl (by kernel_rfl) (by kernel_rfl) (by kernel_rfl) (fun _ _ _ h => h) (Or.inl ⟨by rfl, fun _ _ => rfl⟩) hHeld ?_
   try dsimp only
   try simp only [Act.put, qz0, qz1, qz2, qz3, qz4, qz5]
   refine wpAnyH_take (i := 17) (v := undef) rfl (by kernel_rfl) (by kernel_rfl) (by kernel_rfl) (fun _ _ _ h => h) (Or.inr ⟨by rfl, rfl⟩) hHeld ?_
   try dsimp only
   try simp only [Act.put, qz0, qz1, qz2, qz3, qz4, qz5]
   refine wpAnyH_take (i := 18) (v := undef) rfl (by kernel_rfl) (by kernel_rfl) (by kernel_rfl) (fun _ _ _ h => h) (Or.inr ⟨by rfl, rfl⟩) hHeld ?_
   try dsimp only
   try simp only [Act.put, qz0, qz1, qz2, qz3, qz4, qz5]
   refine wpAnyH_take (i := 19) (v := undef) rfl (by kernel_rfl) (by kernel_rfl) (by kernel_rfl) (fun _ _ _ h => h) (Or.inr ⟨by rfl, rfl⟩) hHeld ?_
   try dsimp only
   try simp only [Act.put, qz0, qz1, qz2, qz3, qz4, qz5]
   refine wpAnyH_take (i := 20) (v := undef) rfl (by kernel_rfl) (by kernel_rfl) (by kernel_rfl) (fun _ _ _ h => h) (Or.inr ⟨by rfl, rfl⟩) hHeld ?_
   try dsimp only
   try simp only [Act.put, qz0, qz1, qz2, qz3, qz4, qz5]
   refine wpAnyH_take (i := 21) (v := undef) rfl (by kernel_rfl) (by kernel_rfl) (by kernel_rfl) (fun _ _ _ h => h) (Or.inr ⟨by rfl, rfl⟩) hHeld ?_
   try dsimp only
   try simp only [Act.put, qz0, qz1, qz2, qz3, qz4, qz5]
   refine wpAnyH_take (i := 22) (v := undef) rfl (by kernel_rfl) (by kernel_rfl) (by kernel_rfl) (fun _ _ _ h => h) (Or.inr ⟨by rfl, rfl⟩) hHeld ?_
   try dsimp only
   try simp only [Act.put, qz0, qz1, qz2, qz3, qz4, qz5]
   refine wpAnyH_take (i := 23) (v := undef) rfl (by kernel_rfl) (by kernel_rfl) (by kernel_rfl) (fun _ _ _ h => h) (Or.inr ⟨by rfl, rfl⟩) hHeld ?_
   try dsimp only
   try simp only [Act.put, qz0, qz1, qz2, qz3, qz4, qz5]
   refine wpAnyH_take (i := 24) (v := .bool false) rfl (by kernel_rfl) (by kernel_rfl) (by kernel_rfl) (fun _ _ _ h => h) (Or.inl ⟨by rfl, fun w _ => by go_simp⟩) hHeld ?_
   try dsimp only
   try simp only [Act.put, qz0, qz1, qz2, qz3, qz4, qz5]
   refine wpAnyH_ready (rs := [25]) (by kernel_rfl) (by simp) (AllReadyH.cons rfl (fun K hK => ?_) AllReadyH.nil)
   go_simp
   rw [if_neg (by rw [HNG.out]; simp)] at HV
   rw [HV.out]
   obtain ⟨A9, C9, hrd9⟩ := HX3.out.rd
   refine (check_false g C9 A9 q8 _ (Lib.hid (hrd9.keep (S := fun _ => False) ((Kept.refl _ _).drew) (fun h => h) (fun _ _ _ h => h)))).mono ?_
   rintro e w1 ⟨rfl, h1, h2⟩
   exact ⟨rfl, rfl, h1, (HX3.out.kept.drew).trans (h2.mono fun k h => .inl (.inl h))⟩
 ·have H1 : Hid (¬ ((1 : Int) ≤ (rows : Int))) := Lib.hid (by omega)
  have HNG : Hid (ckG foot (⟨rows, pl, oa, ob, ta, tz, strB ka, strB kz⟩ : Ck) = false) := Lib.hid (by unfold ckG; simp [h1])
  clear h1
  go_upto_region 2 with fail
  refine wp_region_held_drew (S := fun w => w.heap[b5]? = some (.cells #[.int .i64 (rows : Int), .int .i64 (pl : Int), .int .u64 (oa : Int), .int .u64 (ob : Int), .int .i64 ta, .int .i64 tz, .string (strB ka), .string (strB kz)] 41 (0, 0)) ∧ w.heap[bs]? = some (.cells #[vb, .int .i64 (p : Int), vc, .int .i64 (foot : Int)] 60 (0, 0))) (by kernel_rfl) ⟨HC5.out, HX3.out.seg⟩ (fun hHeld => ?_)
  refine wpAnyH_take (i := 0) (v := .pointer (some ⟨g, 0, none⟩)) rfl (by kernel_rfl) (by kernel_rfl) (by kernel_rfl) (fun _ _ _ h => h) (Or.inl ⟨by rfl, fun _ _ => rfl⟩) hHeld ?_
  try dsimp only
  try simp only [Act.put, qz0, qz1, qz2, qz3, qz4, qz5]
  refine wpAnyH_take (i := 1) (v := .pointer (some ⟨b5, 0, none⟩)) rfl (by kernel_rfl) (by kernel_rfl) (by kernel_rfl) (fun _ _ _ h => h) (Or.inl ⟨by rfl, fun w _ => by go_simp⟩) hHeld ?_
  try dsimp only
  try simp only [Act.put, qz0, qz1, qz2, qz3, qz4, qz5]
  refine wpAnyH_take (i := 2) (v := .int .i64 (rows : Int)) rfl (by kernel_rfl) (by kernel_rfl) (by kernel_rfl) (fun _ _ _ h => h) (ylS lv_intS rfl (.tmp 31) rfl b5 0 rfl _ (fun w hw => by rw [cell_of_row _ _ _ _ _ _ hw.1]; rfl)) hHeld ?_
  try dsimp only
  try simp only [Act.put, qz0, qz1, qz2, qz3, qz4, qz5]
  refine wpAnyH_take (i := 3) (v := .bool false) rfl (by kernel_rfl) (by kernel_rfl) (by kernel_rfl) (fun _ _ _ h => h) (Or.inl ⟨by rfl, fun w _ => by have h9 := H1.out; go_simp⟩) hHeld ?_
  try dsimp only
  try simp only [Act.put, qz0, qz1, qz2, qz3, qz4, qz5]
  refine wpAnyH_take (i := 4) (v := .bool false) rfl (by kernel_rfl) (by kernel_rfl) (by kernel_rfl) (fun _ _ _ h => h) (Or.inl ⟨by rfl, fun _ _ => rfl⟩) hHeld ?_
  try dsimp only
  try simp only [Act.put, qz0, qz1, qz2, qz3, qz4, qz5]
  refine wpAnyH_take (i := 5) (v := undef) rfl (by kernel_rfl) (by kernel_rfl) (by kernel_rfl) (fun _ _ _ h => h) (Or.inr ⟨by rfl, rfl⟩) hHeld ?_
  try dsimp only
  try simp only [Act.put, qz0, qz1, qz2, qz3, qz4, qz5]
  refine wpAnyH_take (i := 6) (v := undef) rfl (by kernel_rfl) (by kernel_rfl) (by kernel_rfl) (fun _ _ _ h => h) (Or.inr ⟨by rfl, rfl⟩) hHeld ?_
  try dsimp only
  try simp only [Act.put, qz0, qz1, qz2, qz3, qz4, qz5]
  refine wpAnyH_take (i := 7) (v := undef) rfl (by kernel_rfl) (by kernel_rfl) (by kernel_rfl) (fun _ _ _ h => h) (Or.inr ⟨by rfl, rfl⟩) hHeld ?_
  try dsimp only
  try simp only [Act.put, qz0, qz1, qz2, qz3, qz4, qz5]
  refine wpAnyH_take (i := 8) (v := undef) rfl (by kernel_rfl) (by kernel_rfl) (by kernel_rfl) (fun _ _ _ h => h) (Or.inr ⟨by rfl, rfl⟩) hHeld ?_
  try dsimp only
  try simp only [Act.put, qz0, qz1, qz2, qz3, qz4, qz5]
  refine wpAnyH_take (i := 9) (v := undef) rfl (by kernel_rfl) (by kernel_rfl) (by kernel_rfl) (fun _ _ _ h => h) (Or.inr ⟨by rfl, rfl⟩) hHeld ?_
  try dsimp only
  try simp only [Act.put, qz0, qz1, qz2, qz3, qz4, qz5]
  refine wpAnyH_take (i := 10) (v := undef) rfl (by kernel_rfl) (by kernel_rfl) (by kernel_rfl) (fun _ _ _ h => h) (Or.inr ⟨by rfl, rfl⟩) hHeld ?_
  try dsimp only
  try simp only [Act.put, qz0, qz1, qz2, qz3, qz4, qz5]
  refine wpAnyH_take (i := 11) (v := undef) rfl (by kernel_rfl) (by kernel_rfl) (by kernel_rfl) (fun _ _ _ h => h) (Or.inr ⟨by rfl, rfl⟩) hHeld ?_
  try dsimp only
  try simp only [Act.put, qz0, qz1, qz2, qz3, qz4, qz5]
  refine wpAnyH_take (i := 12) (v := undef) rfl (by kernel_rfl) (by kernel_rfl) (by kernel_rfl) (fun _ _ _ h => h) (Or.inr ⟨by rfl, rfl⟩) hHeld ?_
  try dsimp only
  try simp only [Act.put, qz0, qz1, qz2, qz3, qz4, qz5]
  refine wpAnyH_take (i := 13) (v := undef) rfl (by kernel_rfl) (by kernel_rfl) (by kernel_rfl) (fun _ _ _ h => h) (Or.inr ⟨by rfl, rfl⟩) hHeld ?_
  try dsimp only
  try simp only [Act.put, qz0, qz1, qz2, qz3, qz4, qz5]
  refine wpAnyH_take (i := 14) (v := undef) rfl (by kernel_rfl) (by kernel_rfl) (by kernel_rfl) (fun _ _ _ h => h) (Or.inr ⟨by rfl, rfl⟩) hHeld ?_
  try dsimp only
  try simp only [Act.put, qz0, qz1, qz2, qz3, qz4, qz5]
  refine wpAnyH_take (i := 15) (v := .bool false) rfl (by kernel_rfl) (by kernel_rfl) (by kernel_rfl) (fun _ _ _ h => h) (Or.inl ⟨by rfl, fun w _ => by go_simp⟩) hHeld ?_
  try dsimp only
  try simp only [Act.put, qz0, qz1, qz2, qz3, qz4, qz5]
  refine wpAnyH_take (i := 16) (v := .bool false) rfl (by kernel_rfl) (by kernel_rfl) (by kernel_rfl) (fun _ _ _ h => h) (Or.inl ⟨by rfl, fun _ _ => rfl⟩) hHeld ?_
  try dsimp only
  try simp only [Act.put, qz0, qz1, qz2, qz3, qz4, qz5]
  refine wpAnyH_take (i := 17) (v := undef) rfl (by kernel_rfl) (by kernel_rfl) (by kernel_rfl) (fun _ _ _ h => h) (Or.inr ⟨by rfl, rfl⟩) hHeld ?_
  try dsimp only
  try simp only [Act.put, qz0, qz1, qz2, qz3, qz4, qz5]
  refine wpAnyH_take (i := 18) (v := undef) rfl (by kernel_rfl) (by kernel_rfl) (by kernel_rfl) (fun _ _ _ h => h) (Or.inr ⟨by rfl, rfl⟩) hHeld ?_
  try dsimp only
  try simp only [Act.put, qz0, qz1, qz2, qz3, qz4, qz5]
  refine wpAnyH_take (i := 19) (v := undef) rfl (by kernel_rfl) (by kernel_rfl) (by kernel_rfl) (fun _ _ _ h => h) (Or.inr ⟨by rfl, rfl⟩) hHeld ?_
  try dsimp only
  try simp only [Act.put, qz0, qz1, qz2, qz3, qz4, qz5]
  refine wpAnyH_take (i := 20) (v := undef) rfl (by kernel_rfl) (by kernel_rfl) (by kernel_rfl) (fun _ _ _ h => h) (Or.inr ⟨by rfl, rfl⟩) hHeld ?_
  try dsimp only
  try simp only [Act.put, qz0, qz1, qz2, qz3, qz4, qz5]
  refine wpAnyH_take (i := 21) (v := undef) rfl (by kernel_rfl) (by kernel_rfl) (by kernel_rfl) (fun _ _ _ h => h) (Or.inr ⟨by rfl, rfl⟩) hHeld ?_
  try dsimp only
  try simp only [Act.put, qz0, qz1, qz2, qz3, qz4, qz5]
  refine wpAnyH_take (i := 22) (v := undef) rfl (by kernel_rfl) (by kernel_rfl) (by kernel_rfl) (fun _ _ _ h => h) (Or.inr ⟨by rfl, rfl⟩) hHeld ?_
  try dsimp only
  try simp only [Act.put, qz0, qz1, qz2, qz3, qz4, qz5]
  refine wpAnyH_take (i := 23) (v := undef) rfl (by kernel_rfl) (by kernel_rfl) (by kernel_rfl) (fun _ _ _ h => h) (Or.inr ⟨by rfl, rfl⟩) hHeld ?_
  try dsimp only
  try simp only [Act.put, qz0, qz1, qz2, qz3, qz4, qz5]
  refine wpAnyH_take (i := 24) (v := .bool false) rfl (by kernel_rfl) (by kernel_rfl) (by kernel_rfl) (fun _ _ _ h => h) (Or.inl ⟨by rfl, fun w _ => by go_simp⟩) hHeld ?_
  try dsimp only
  try simp only [Act.put, qz0, qz1, qz2, qz3, qz4, qz5]
  refine wpAnyH_ready (rs := [25]) (by kernel_rfl) (by simp) (AllReadyH.cons rfl (fun K hK => ?_) AllReadyH.nil)
  go_simp
  rw [if_neg (by rw [HNG.out]; simp)] at HV
  rw [HV.out]
  obtain ⟨A9, C9, hrd9⟩ := HX3.out.rd
  refine (check_false g C9 A9 q8 _ (Lib.hid (hrd9.keep (S := fun _ => False) ((Kept.refl _ _).drew) (fun h => h) (fun _ _ _ h => h)))).mono ?_
  rintro e w1 ⟨rfl, h1, h2⟩
  exact ⟨rfl, rfl, h1, (HX3.out.kept.drew).trans (h2.mono fun k h => .inl (.inl h))⟩
end Go.Proofs.YtifabkbdiiolfaaDoor
