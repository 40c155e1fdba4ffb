/-
  Layer segment: a foot out of any bytes: (*Segment).readFoot.
-/
import Derived.Test.YtifabkbdiiolfaaDoorYrK
open List renaming getElem_toArray → qz0, getElem_cons_zero → qz1, getElem_cons_succ → qz2, setIfInBounds_toArray → qz3, set_cons_zero → qz4, set_cons_succ → qz5
set_option linter.unusedSimpArgs false
set_option linter.unusedVariables false
set_option maxRecDepth 8000
namespace Go.Proofs.YtifabkbdiiolfaaDoor
open Go.RowKit Go.WideShapes Col
theorem yieldsIf_rowS {P : Program} {ops : Array Oper} {S : World → Prop} {op : Oper} {a : Act} (hw : Region.wanted op (yielded ops a.tmps) = true) (ty : TypeId) (x : Operand) (ho : op.op = .load ty x)
  (g : Nat) (hx : a.eval x = .pointer (some ⟨g, 0, none⟩)) (t : TypeId) (cs : Array Value) (fr : Nat × Nat) (d : TypeDesc) (hS : ∀ w, S w → w.heap[g]? = some (.cells cs t fr))
  (hu : P.underlying ty = some d) (hd : (match d with | .struct _ | .array _ _ => true | _ => false) = true) (hi : (P.info? ty).map (·.size) = some cs.size) : YieldsIf P ops S op (.agg cs) a :=
 .inl ⟨hw, fun w hw' => by
  unfold execOp
  simp only [ho, hx, Instr.loadAt, Instr.sureAddr, Sem.run_bind, Sem.run_pure, Result.andThen_ok, run_loadVar_row w g t ty cs fr d (hS w hw') hu hd hi]⟩
/-- What was read of a chunk. -/
theorem ckP_some {foot : Nat} {q r : List Nat} {x : Ck} (hq : ∀ y ∈ q, y < 256) (h : ckP foot q = some (x, r)) : x.ob ≤ 1099511627775 ∧ r.length + 8 ≤ q.length := by
 have sub : ∀ (a b c : List Nat), a = b ++ c → (∀ y ∈ a, y < 256) → ∀ y ∈ c, y < 256 := fun a b c e ha y hy => ha y (by rw [e]; exact List.mem_append_right _ hy)
 unfold ckP at h
 rcases h1 : uP 64 q with _ | ⟨rows, q1⟩
 ·rw [h1] at h; cases h
 rw [h1] at h
 replace h : ck2 foot rows q1 = some (x, r) := h
 have c1 := uP_canonS hq h1
 have l1 := congrArg List.length c1.1
 have p1 := ub_pos rows
 have hq1 := sub _ _ _ c1.1 hq
 unfold ck2 at h
 rcases h2 : uP foot q1 with _ | ⟨pl, q2⟩
 ·rw [h2] at h; cases h
 rw [h2] at h
 replace h : ck3 foot rows pl q2 = some (x, r) := h
 have c2 := uP_canonS hq1 h2
 have l2 := congrArg List.length c2.1
 have p2 := ub_pos pl
 have hq2 := sub _ _ _ c2.1 hq1
 unfold ck3 at h
 rcases h3 : uP 1099511627775 q2 with _ | ⟨oa, q3⟩
 ·rw [h3] at h; cases h
 rw [h3] at h
 replace h : ck4 foot rows pl oa q3 = some (x, r) := h
 have c3 := uP_canonS hq2 h3
 have l3 := congrArg List.length c3.1
 have p3 := ub_pos oa
 have hq3 := sub _ _ _ c3.1 hq2
 unfold ck4 at h
 rcases h4 : uP 1099511627775 q3 with _ | ⟨ob, q4⟩
 ·rw [h4] at h; cases h
 rw [h4] at h
 replace h : ck5 foot rows pl oa ob q4 = some (x, r) := h
 have c4 := uP_canonS hq3 h4
 have l4 := congrArg List.length c4.1
 have p4 := ub_pos ob
 have hq4 := sub _ _ _ c4.1 hq3
 unfold ck5 at h
 rcases h5 : zP q4 with _ | ⟨ta, q5⟩
 ·rw [h5] at h; cases h
 rw [h5] at h
 replace h : ck6 foot rows pl oa ob ta q5 = some (x, r) := h
 have c5 := zP_canonS hq4 h5
 have l5 := congrArg List.length c5.1
 have p5 := ub_pos (zz ta)
 have hq5 := sub _ _ _ c5.1 hq4
 unfold ck6 at h
 rcases h6 : zP q5 with _ | ⟨tz, q6⟩
 ·rw [h6] at h; cases h
 rw [h6] at h
 replace h : ck7 foot rows pl oa ob ta tz q6 = some (x, r) := h
 have c6 := zP_canonS hq5 h6
 have l6 := congrArg List.length c6.1
 have p6 := ub_pos (zz tz)
 have hq6 := sub _ _ _ c6.1 hq5
 unfold ck7 at h
 rcases h7 : tP 32 q6 with _ | ⟨ka, q7⟩
 ·rw [h7] at h; cases h
 rw [h7] at h
 replace h : ck8 foot rows pl oa ob ta tz ka q7 = some (x, r) := h
 have c7 := tP_canonS hq6 h7
 have l7 := congrArg List.length c7.1
 have p7 := ub_pos ka.length
 have hq7 : ∀ y ∈ q7, y < 256 := sub _ (ub ka.length ++ ka) _ (by rw [c7.1, List.append_assoc]) hq6
 unfold ck8 at h
 rcases h8 : tP 32 q7 with _ | ⟨kz, q8⟩
 ·rw [h8] at h; cases h
 rw [h8] at h
 replace h : (if ckG foot ⟨rows, pl, oa, ob, ta, tz, strB ka, strB kz⟩ = true then some ((⟨rows, pl, oa, ob, ta, tz, strB ka, strB kz⟩ : Ck), q8) else none) = some (x, r) := h
 have c8 := tP_canonS hq7 h8
 have l8 := congrArg List.length c8.1
 have p8 := ub_pos kz.length
 split at h
 ·injection h with h
  injection h with h9 h10
  subst h9; subst h10
  simp only [List.length_append] at l1 l2 l3 l4 l5 l6 l7 l8
  exact ⟨c4.2, by omega⟩
 ·cases h
theorem OwnC.capsC {w : World} {B n cap : Nat} {A : Option Addr} {l : List Ck} (h : OwnC w B A n cap l) : n ≤ cap ∧ cap ≤ maxLen := by
 obtain ⟨A1, c1, e, h1, h2, -⟩ := rc_slice h
 injection e with _ _ e3
 subst e3
 exact ⟨h1, h2⟩
theorem ownC_own {n cap j : Nat} {A : Option Addr} (h : MineK A j) : (Value.slice A n cap).ownBlock = some j := by rw [own_blockS]; exact h
/-- A store into the segment leaves the reader. -/
theorem rd_segS {w : World} {g bs j : Nat} {r : List Nat} {p foot : Int} {c : Value} (h : Rd w g r) (hrow : w.heap[bs]? = some (.cells #[.slice none 0 0, .int .i64 p, c, .int .i64 foot] 60 (0, 0))) (hc : ∀ x, c ≠ .int .u8 x) (hg : bs ≠ g) (v : Value) : Rd (w.setCell ⟨bs, j, none⟩ v) g r := by
 obtain ⟨A, C, h⟩ := h
 have hk : Kept (fun k => k = bs) w (w.setCell ⟨bs, j, none⟩ v) := (Kept.refl _ _).setCell _ _ (.inl rfl)
 refine ⟨A, C, h.keep hk (fun e => by have e : g = bs := e; omega) (fun a ha h0 e => ?_)⟩
 have e : a.block = bs := e
 obtain ⟨b, off, h2, h3, hc2⟩ := h.bytes.spot h0
 rw [h2] at ha; injection ha with ha; subst ha
 have e : b = bs := e
 subst e
 have hc0 := hc2 0 r[0] (List.getElem?_eq_getElem h0)
 rw [cell_of_row _ _ _ _ _ _ hrow] at hc0
 have hj : off + 0 < 4 := (Array.getElem?_eq_some_iff.1 hc0).1
 rcases (by omega : off + 0 = 0 ∨ off + 0 = 1 ∨ off + 0 = 2 ∨ off + 0 = 3) with h1 | h1 | h1 | h1
 ·rw [h1] at hc0; simp at hc0
 ·rw [h1] at hc0; simp at hc0
 ·rw [h1] at hc0
  have hc1 : some c = some (Value.int .u8 (r[0] : Int)) := hc0
  injection hc1 with hc1
  exact hc _ hc1
 ·rw [h1] at hc0; simp at hc0
/-- What is read of a foot, and what is left. -/
structure RFt (w : World) (g bs foot : Nat) (Q : List Nat) (n p k : Nat) (A : Option Addr) (cap : Nat) (m : List Ck) (r : List Nat) (wr : World) : Prop where
 rd : Rd wr g r
 seg : wr.heap[bs]? = some (.cells #[.slice none 0 0, .int .i64 (p : Int), .slice A k cap, .int .i64 (foot : Int)] 60 (0, 0))
 own : OwnC wr w.heap.size A k cap m
 kept : Kept (fun j => j = g ∨ j = bs ∨ w.heap.size ≤ j) w wr
 eq : footP foot Q = (cksP foot (n - k) m r).map fun t => ((p, t.1), t.2)
 few : 8 * k + r.length ≤ Q.length
 ob : ∀ x ∈ m, x.ob ≤ 1099511627775
theorem rft_next {w x6 v3 : World} {g bs foot n p k cap cap3 : Nat} {A A3 : Option Addr} {m : List Ck} {c : Ck} {Q r2 : List Nat}
  (HRD6 : Hid (Rd x6 g r2)) (HK3 : Hid (Kept (MineK A) x6 v3)) (HNA : Hid (∀ j, MineK A j → w.heap.size ≤ j)) (HSG6 : Hid (x6.heap[bs]? = some (.cells #[.slice none 0 0, .int .i64 (p : Int), .slice A k cap, .int .i64 (foot : Int)] 60 (0, 0))))
  (HLT : Hid ((bs ≠ g ∧ g < w.heap.size) ∧ bs < w.heap.size)) (HO3 : Hid (OwnC v3 w.heap.size A3 (k + 1) cap3 (m ++ [c]))) (HKP6 : Hid (Kept (fun j => j = g ∨ j = bs ∨ w.heap.size ≤ j) w x6))
  (HE2 : Hid (footP foot Q = (cksP foot (n - (k + 1)) (m ++ [c]) r2).map fun t => ((p, t.1), t.2))) (HF2 : Hid (8 * (k + 1) + r2.length ≤ Q.length)) (HOB2 : Hid (∀ x ∈ m ++ [c], x.ob ≤ 1099511627775)) :
  RFt w g bs foot Q n p (k + 1) A3 cap3 (m ++ [c]) r2 (v3.setCell ⟨bs, 2, none⟩ (.slice A3 (k + 1) cap3)) := by
 have hne := HLT.out.1.1
 have hg := HLT.out.1.2
 have hbs := HLT.out.2
 have RW3 : v3.heap[bs]? = some (.cells [.slice none 0 0, .int .i64 (p : Int), .slice A k cap, .int .i64 (foot : Int)].toArray 60 (0, 0)) := HK3.out.heap HSG6.out (fun e => by have := HNA.out _ e; omega)
 have KS : Kept (fun j => j = bs) v3 (v3.setCell ⟨bs, 2, none⟩ (.slice A3 (k + 1) cap3)) := (Kept.refl _ _).setCell _ _ (.inl rfl)
 refine ⟨?_, row_set RW3 2 _, ?_, ?_, HE2.out, HF2.out, HOB2.out⟩
 ·exact rd_segS (HRD6.out.highS HK3.out (fun j hj => by have := HNA.out j hj; omega)) RW3 (fun x h => by cases h) hne _
 ·exact HO3.out.keptW KS fun j hj e => by obtain ⟨_, _, _, _, h1⟩ := ownC_cells HO3.out hj; have e : j = bs := e; omega
 ·exact (HKP6.out.trans' HK3.out (fun j hj => .inl (.inr (.inr (HNA.out j hj))))).setCell _ _ (.inl (.inr (.inl rfl)))
/-- What is read of a foot. -/
def RSg (o : Option ((Nat × List Ck) × List Nat)) (bs foot : Nat) (X : Nat → Prop) (b : Bool) (w : World) : Prop := match o with
 | some t => b = decide (t.2 = []) ∧ ∃ A n cap, w.heap[bs]? = some (.cells #[.slice none 0 0, .int .i64 (t.1.1 : Int), .slice A n cap, .int .i64 (foot : Int)] 60 (0, 0)) ∧ OwnC w 0 A n cap t.1.2 ∧ (∀ j, MineK A j → ¬ X j)
 | none => b = false
set_option maxHeartbeats 16000000 in
theorem readFoot_all (g bs foot : Nat) (hft : Hid (foot < 9223372036854775808)) (q : List Nat) (hql : q.length ≤ 1000000) (w : World) (hne : bs < g) (HSG : Hid (w.heap[bs]? = some (.cells #[.slice none 0 0, .int .i64 0, .slice none 0 0, .int .i64 (foot : Int)] 60 (0, 0)))) (H : Hid (Rd w g q)) :
  Calls Tryd.prog 26 #[.pointer (some ⟨bs, 0, none⟩), .pointer (some ⟨g, 0, none⟩)] w (Tried g (fun k => k = bs) (RSg (footP foot q) bs foot (fun k => k = g)) w) := by
 have HLT : Hid ((bs ≠ g ∧ g < w.heap.size) ∧ bs < w.heap.size) := Lib.hid ⟨⟨by omega, H.out.gltS⟩, (Array.getElem?_eq_some_iff.1 HSG.out).1⟩
 obtain ⟨Q, hQ⟩ : ∃ Q, Q = q := ⟨_, rfl⟩
 rw [← hQ]
 have HV : Hid (footP foot Q = (uP 8 q).bind fun y => ft2 foot y.1 y.2) := Lib.hid (by rw [hQ]; rfl)
 have HQL : Hid (Q.length = q.length ∧ Q.length ≤ 1000000) := Lib.hid (by rw [hQ]; omega)
 clear hQ
 have HNO : Hid (∀ w1 : World, Gone w1 g → Kept (fun j => j = g ∨ j = bs ∨ w.heap.size ≤ j) w w1 → footP foot Q = none → Tried g (fun k => k = bs) (RSg (footP foot Q) bs foot (fun k => k = g)) w (.panicked [gu g]) w1) := Lib.hid fun w1 h1 h2 h3 =>
  ⟨h2.mono (fun k h => h.elim (fun h => .inl (.inr h)) (fun h => h.elim (fun h => .inl (.inl h)) .inr)), .inr ⟨rfl, h1, by rw [h3]; rfl⟩⟩
 go_enter Tryd.func26, Tryd.ntmps26
 go_wp2_with fail
 rcases hu : uP 8 q with _ | ⟨p, q1⟩
 ·refine (uint_no g 8 q (Lib.hid hu) q.length (Lib.hid rfl) (by omega) _ H).mono ?_
  rintro e w1 ⟨rfl, h1, h2⟩
  exact ⟨rfl, HNO.out w1 h1 (h2.mono fun k h => .inl (.inl h)) (by rw [HV.out, hu]; rfl)⟩
 replace HV : Hid (footP foot Q = ft2 foot p q1) := Lib.hid (by rw [HV.out, hu]; rfl)
 have hcn := uP_canonS H.out.lt hu
 have HP8 : Hid (p ≤ 8) := Lib.hid hcn.2
 have HW1 : Hid (IntKind.i64.wrap (p : Int) = (p : Int)) := Lib.hid (by have := hcn.2; rw [IntKind.wrap_i64]; omega)
 have HL1 : Hid (q1.length ≤ q.length) := Lib.hid (by have h9 := congrArg List.length hcn.1; rw [List.length_append] at h9; omega)
 refine (uint_yes g 8 p q q1 (Lib.hid hu) (by omega) _ H).mono ?_
 rintro e w1 hy
 obtain ⟨rfl, HR, HK⟩ := Yes.rd hy
 have HS1 : Hid (w1.heap[bs]? = some (.cells [.slice none 0 0, .int .i64 0, .slice none 0 0, .int .i64 (foot : Int)].toArray 60 (0, 0))) := Lib.hid (HK.out.heap HSG.out (fun e => by have e : bs = g := e; omega))
 clear hy hu hcn
 have c1 : w1.cell? ⟨bs, 1, none⟩ = some (.int .i64 0) := by rw [cell_of_row _ _ _ _ _ _ HS1.out]; rfl
 have f1 : w1.frozen? ⟨bs, 1, none⟩ = false := row_frozen HS1.out 1
 have h91 := HW1.out
 have HS2 : Hid ((w1.setCell ⟨bs, 1, none⟩ (.int .i64 (p : Int))).heap[bs]? = some (.cells #[.slice none 0 0, .int .i64 (p : Int), .slice none 0 0, .int .i64 (foot : Int)] 60 (0, 0))) := Lib.hid (row_set HS1.out 1 _)
 have HR2 : Hid (Rd (w1.setCell ⟨bs, 1, none⟩ (.int .i64 (p : Int))) g q1) := Lib.hid (rd_segS HR.out HS1.out (fun x h => by cases h) (by omega) _)
 have HK2 : Hid (Kept (fun j => j = g ∨ j = bs ∨ w.heap.size ≤ j) w (w1.setCell ⟨bs, 1, none⟩ (.int .i64 (p : Int)))) := Lib.hid ((HK.out.mono fun k h => .inl (.inl h)).setCell _ _ (.inl (.inr (.inl rfl))))
 go_wp2_with fail
 clear c1 f1 h91 HS1 HR HK
 generalize w1.setCell _ _ = w2 at *
 rcases hu : uP 18446744073709551615 q1 with _ | ⟨n, q2⟩
 ·refine (uint_no g 18446744073709551615 q1 (Lib.hid hu) q1.length (Lib.hid rfl) (by have := HL1.out; omega) _ HR2).mono ?_
  rintro e w3 ⟨rfl, h1, h2⟩
  exact ⟨rfl, HNO.out w3 h1 (HK2.out.trans (h2.mono fun k h => .inl (.inl h))) (by rw [HV.out]; unfold ft2; rw [hu]; rfl)⟩
 replace HV : Hid (footP foot Q = if 1 ≤ p ∧ 1 ≤ n then (cksP foot n [] q2).map (fun t => ((p, t.1), t.2)) else none) := Lib.hid (by rw [HV.out]; unfold ft2; rw [hu]; rfl)
 have hcn := uP_canonS HR2.out.lt hu
 have HN9 : Hid (n ≤ 18446744073709551615) := Lib.hid hcn.2
 have HL2 : Hid (q2.length ≤ q1.length) := Lib.hid (by have h9 := congrArg List.length hcn.1; rw [List.length_append] at h9; omega)
 refine (uint_yes g 18446744073709551615 n q1 q2 (Lib.hid hu) (by have := HL1.out; omega) _ HR2).mono ?_
 rintro e w3 hy
 obtain ⟨rfl, HR3, HK⟩ := Yes.rd hy
 have HS3 : Hid (w3.heap[bs]? = some (.cells #[.slice none 0 0, .int .i64 (p : Int), .slice none 0 0, .int .i64 (foot : Int)] 60 (0, 0))) := Lib.hid (HK.out.heap HS2.out (fun e => by have e : bs = g := e; omega))
 have HK3 : Hid (Kept (fun j => j = g ∨ j = bs ∨ w.heap.size ≤ j) w w3) := Lib.hid (HK2.out.trans (HK.out.mono fun k h => .inl (.inl h)))
 clear hy hu hcn HS2 HR2 HK2 HK
 have c31 : w3.cell? ⟨bs, 1, none⟩ = some (.int .i64 (p : Int)) := by rw [cell_of_row _ _ _ _ _ _ HS3.out]; rfl
 obtain ⟨A0, C0, hrd3⟩ := HR3.out
 have HRA := Lib.hid hrd3
 clear hrd3
 by_cases hpn : 1 ≤ p ∧ 1 ≤ n
 ·have hp1 : (1 : Int) ≤ (p : Int) := by omega
  have hn1 : (1 : Int) ≤ (n : Int) := by omega
  replace HV : Hid (footP foot Q = (cksP foot n [] q2).map (fun t => ((p, t.1), t.2))) := Lib.hid (by rw [HV.out, if_pos hpn])
  clear hpn
  go_wp2_with (go_at_call 49; (with_reducible refine (check_true _ _).mono ?_); rintro e w4 ⟨rfl, rfl⟩)
  clear hp1 hn1 c31
  go_loopw [26] (fun i wr => ∃ (k : Nat) (A : Option Addr) (cap : Nat) (m : List Ck) (r : List Nat), k ≤ n ∧ i = .int .u64 (k : Int) ∧ RFt w g bs foot Q n p k A cap m r wr) (fun i _ => n - (intOf i).toNat)
  case atStart => exact ⟨0, none, 0, [], q2, Nat.zero_le _, rfl, ⟨HR3.out, HS3.out, OwnC.nil _ _, HK3.out, HV.out, by have := HL2.out; have := HL1.out; have := HQL.out; omega, fun x hx => by cases hx⟩⟩
  case round =>
   obtain ⟨k, A, cap, m, r, hk, rfl, hR⟩ := hrel
   have HRC := Lib.hid hR
   have hk6 : k ≤ 200000 := by have := hR.few; have := HQL.out; omega
   have HRL : Hid (r.length ≤ 1000000) := Lib.hid (by have := hR.few; have := HQL.out; omega)
   clear hR HR3 HS3 HK3 HV HRA
   by_cases hkn : k < n
   ·have hkI : (k : Int) < (n : Int) := by omega
    have HKn := Lib.hid hkn
    have HS : Hid (cksP foot (n - k) m r = (ckP foot r).bind fun y => if flw m y.1 = true then cksP foot (n - (k + 1)) (m ++ [y.1]) y.2 else none) := Lib.hid (by rw [show n - k = (n - (k + 1)) + 1 by omega, cksP_succ])
    have HCA := Lib.hid (readChunk_all g bs p foot (.slice none 0 0) (.slice A k cap) hft r HRL.out HLT.out.1.1 wr (Lib.hid HRC.out.seg) (Lib.hid HRC.out.rd))
    clear hkn
    go_wp2_with fail
    rcases hc : ckP foot r with _ | ⟨c, r2⟩
    ·rw [hc] at HCA
     refine HCA.out.mono ?_
     rintro e w5 ⟨rfl, h1, h2⟩
     exact ⟨rfl, HNO.out w5 h1 (HRC.out.kept.trans' h2 (fun k h => h.elim (fun h => .inl (.inl h)) (fun h => .inl (.inr (.inr (Nat.le_trans HRC.out.kept.size h)))))) (by rw [HRC.out.eq, HS.out, hc]; rfl)⟩
    ·rw [hc] at HCA
     replace HS : Hid (cksP foot (n - k) m r = if flw m c = true then cksP foot (n - (k + 1)) (m ++ [c]) r2 else none) := Lib.hid (by rw [HS.out, hc]; rfl)
     have hsm := ckP_some HRC.out.rd.lt hc
     have HF2 : Hid (8 * (k + 1) + r2.length ≤ Q.length) := Lib.hid (by have := HRC.out.few; omega)
     have HOB2 : Hid (∀ x ∈ m ++ [c], x.ob ≤ 1099511627775) := Lib.hid fun x hx => by
      rcases List.mem_append.1 hx with h | h
      ·exact HRC.out.ob x h
      ·rw [List.mem_singleton] at h; subst h; exact hsm.1
     clear hc hsm
     refine HCA.out.mono ?_
     rintro e w5 ⟨rfl, hr5, hk5⟩
     have HRD4 := Lib.hid hr5
     have HSG4 : Hid (w5.heap[bs]? = some (.cells #[.slice none 0 0, .int .i64 (p : Int), .slice A k cap, .int .i64 (foot : Int)] 60 (0, 0))) := Lib.hid (hk5.heap HRC.out.seg (fun h => by have := HLT.out; have h8 := (Array.getElem?_eq_some_iff.1 HRC.out.seg).1; omega))
     have HOC4 : Hid (OwnC w5 w.heap.size A k cap m) := Lib.hid (HRC.out.own.keptW hk5 fun j hj e => by
      obtain ⟨_, _, _, h0, h1⟩ := ownC_cells HRC.out.own hj
      have := HLT.out
      have h8 := (Array.getElem?_eq_some_iff.1 h0).1
      omega)
     have HKP4 : Hid (Kept (fun j => j = g ∨ j = bs ∨ w.heap.size ≤ j) w w5) := Lib.hid (HRC.out.kept.trans' hk5 (fun k h => h.elim (fun h => .inl (.inl h)) (fun h => .inl (.inr (.inr (Nat.le_trans HRC.out.kept.size h))))))
     have HEQ := Lib.hid HRC.out.eq
     have HOBM := Lib.hid HRC.out.ob
     clear hr5 hk5 HCA HRL HRC
     obtain ⟨x5, hx5⟩ : ∃ x5, x5 = w5.alloc (.cells #[.int .i64 (c.rows : Int), .int .i64 (c.pl : Int), .int .u64 (c.oa : Int), .int .u64 (c.ob : Int), .int .i64 c.ta, .int .i64 c.tz, .string c.ka, .string c.kz] 41) := ⟨_, rfl⟩
     have hb5 : Below w5.heap.size w5 x5 := by rw [hx5]; exact (Below.refl _ _).alloc (Nat.le_refl _) _
     have HX5 := Lib.hid hx5
     obtain ⟨b5, hb5e⟩ : ∃ b5, b5 = w5.heap.size := ⟨_, rfl⟩
     have HBE := Lib.hid hb5e
     have HB5 : Hid (x5.heap[b5]? = some (.cells #[.int .i64 (c.rows : Int), .int .i64 (c.pl : Int), .int .u64 (c.oa : Int), .int .u64 (c.ob : Int), .int .i64 c.ta, .int .i64 c.tz, .string c.ka, .string c.kz] 41 (0, 0))) := Lib.hid (by rw [hx5, hb5e]; exact heap_alloc_new' w5 _)
     have HWB : Hid (w.heap.size ≤ b5) := Lib.hid (by rw [hb5e]; exact HKP4.out.size)
     have HNB : Hid (¬ ((Value.slice A k cap).ownBlock = some b5)) := Lib.hid fun e => by
      rw [own_blockS] at e
      obtain ⟨_, _, _, h0, _⟩ := ownC_cells HOC4.out (show MineK A b5 from e)
      have := (Array.getElem?_eq_some_iff.1 h0).1
      omega
     have HRD5 : Hid (Rd x5 g r2) := Lib.hid (HRD4.out.highS (S := fun _ => False) (Kept.of_below hb5) (fun _ h => h.elim))
     have HSG5 : Hid (x5.heap[bs]? = some (.cells #[.slice none 0 0, .int .i64 (p : Int), .slice A k cap, .int .i64 (foot : Int)] 60 (0, 0))) := Lib.hid (row_keepS HSG4.out hb5)
     have HOC5 : Hid (OwnC x5 w.heap.size A k cap m) := Lib.hid (HOC4.out.keep hb5)
     have HKP5 : Hid (Kept (fun j => j = g ∨ j = bs ∨ w.heap.size ≤ j) w x5) := Lib.hid (HKP4.out.trans (Kept.of_below hb5))
     have hkl : k = m.length := by have h4 := HOC4.out.1; rw [cks_length] at h4; omega
     obtain ⟨hkc, hcm⟩ := HOC4.out.capsC
     have HFO := Lib.hid (follows_any bs p foot (.slice none 0 0) A k cap m (Lib.hid hkl) (by omega) hkc hcm c HOBM x5 HSG5 (Lib.hid HOC5.out.at'))
     clear hx5 hb5 hb5e hkl hkc hcm HRD4 HSG4 HOC4 HKP4
     rcases hfl : flw m c with _ | _
     ·rw [hfl] at HFO
      have HVN : Hid (footP foot Q = none) := Lib.hid (by rw [HEQ.out, HS.out, if_neg (by rw [hfl]; simp)]; rfl)
      clear hfl
      go_wp2_with (first
       | (refine wpList_store_row rfl 41 (.tmp 5) (.tmp 30) rfl w5.heap.size #[.int .i64 (c.rows : Int), .int .i64 (c.pl : Int), .int .u64 (c.oa : Int), .int .u64 (c.ob : Int), .int .i64 c.ta, .int .i64 c.tz, .string c.ka, .string c.kz] rfl rfl _ _ (heap_alloc_new' _ _) (iCkS c) (sizeCkS c) (oneCkS c) ?_; rw [World.setRow_alloc_new, ← HX5.out, ← HBE.out])
       | (refine wpList_load_row rfl 41 (.tmp 5) rfl b5 rfl _ #[.int .i64 (c.rows : Int), .int .i64 (c.pl : Int), .int .u64 (c.oa : Int), .int .u64 (c.ob : Int), .int .i64 c.ta, .int .i64 c.tz, .string c.ka, .string c.kz] (0, 0) _ HB5.out uCk rfl (by kernel_rfl) ?_)
       | (go_at_call 51; (with_reducible refine (HFO.out).mono ?_); rintro e w6 ⟨rfl, h1⟩; have HB6 := Lib.hid h1; clear h1; obtain ⟨A9, C9, hrd9⟩ := HRD5.out.highS (S := fun _ => False) (Kept.of_below HB6.out) (fun _ h => h.elim); have HR9 := Lib.hid hrd9; clear hrd9)
       | (go_at_call 49; refine (check_false g C9 A9 r2 _ HR9).mono ?_; rintro e w7 ⟨rfl, h1, h2⟩; have HG7 := Lib.hid h1; have HK7 := Lib.hid h2; clear h1 h2))
      exact ⟨rfl, HNO.out _ HG7.out ((HKP5.out.trans (Kept.of_below HB6.out)).trans (HK7.out.mono fun k h => .inl (.inl h))) HVN.out⟩
     ·rw [hfl] at HFO
      have HE2 : Hid (footP foot Q = (cksP foot (n - (k + 1)) (m ++ [c]) r2).map fun t => ((p, t.1), t.2)) := Lib.hid (by rw [HEQ.out, HS.out, if_pos hfl])
      clear hfl HS HEQ
      go_upto_region 7 with (first
       | (refine wpList_store_row rfl 41 (.tmp 5) (.tmp 30) rfl w5.heap.size #[.int .i64 (c.rows : Int), .int .i64 (c.pl : Int), .int .u64 (c.oa : Int), .int .u64 (c.ob : Int), .int .i64 c.ta, .int .i64 c.tz, .string c.ka, .string c.kz] rfl rfl _ _ (heap_alloc_new' _ _) (iCkS c) (sizeCkS c) (oneCkS c) ?_; rw [World.setRow_alloc_new, ← HX5.out, ← HBE.out])
       | (refine wpList_load_row rfl 41 (.tmp 5) rfl b5 rfl _ #[.int .i64 (c.rows : Int), .int .i64 (c.pl : Int), .int .u64 (c.oa : Int), .int .u64 (c.ob : Int), .int .i64 c.ta, .int .i64 c.tz, .string c.ka, .string c.kz] (0, 0) _ HB5.out uCk rfl (by kernel_rfl) ?_)
       | (go_at_call 51; (with_reducible refine (HFO.out).mono ?_); rintro e w6 ⟨rfl, h1⟩; have HB6 := Lib.hid h1; clear h1)
       | (go_at_call 49; (with_reducible refine (check_true _ _).mono ?_); rintro e w7 ⟨rfl, rfl⟩))
      replace HRD5 : Hid (Rd w6 g r2) := Lib.hid (HRD5.out.highS (S := fun _ => False) (Kept.of_below HB6.out) (fun _ h => h.elim))
      replace HSG5 : Hid (w6.heap[bs]? = some (.cells #[.slice none 0 0, .int .i64 (p : Int), .slice A k cap, .int .i64 (foot : Int)] 60 (0, 0))) := Lib.hid (row_keepS HSG5.out HB6.out)
      replace HB5 : Hid (w6.heap[b5]? = some (.cells #[.int .i64 (c.rows : Int), .int .i64 (c.pl : Int), .int .u64 (c.oa : Int), .int .u64 (c.ob : Int), .int .i64 c.ta, .int .i64 c.tz, .string c.ka, .string c.kz] 41 (0, 0))) := Lib.hid (row_keepS HB5.out HB6.out)
      replace HOC5 : Hid (OwnC w6 w.heap.size A k cap m) := Lib.hid (HOC5.out.keep HB6.out)
      replace HKP5 : Hid (Kept (fun j => j = g ∨ j = bs ∨ w.heap.size ≤ j) w w6) := Lib.hid (HKP5.out.trans (Kept.of_below HB6.out))
      clear HX5 HBE HB6 HFO
      generalize w6 = x5 at *
      refine wp_region_held_drew (S := fun w => w.heap[b5]? = some (.cells #[.int .i64 (c.rows : Int), .int .i64 (c.pl : Int), .int .u64 (c.oa : Int), .int .u64 (c.ob : Int), .int .i64 c.ta, .int .i64 c.tz, .string c.ka, .string c.kz] 41 (0, 0))) (by kernel_rfl) HB5.out (fun hHeld => ?_)
      obtain ⟨x6, hx6⟩ : ∃ x6, x6 = x5.drew := ⟨_, rfl⟩
      rw [← hx6] at hHeld ⊢
      have HRD6 : Hid (Rd x6 g r2) := Lib.hid (by rw [hx6]; exact HRD5.out.highS (S := fun _ => False) (Kept.refl _ _).drew (fun _ h => h.elim))
      have HSG6 : Hid (x6.heap[bs]? = some (.cells #[.slice none 0 0, .int .i64 (p : Int), .slice A k cap, .int .i64 (foot : Int)] 60 (0, 0))) := Lib.hid (by rw [hx6]; exact HSG5.out)
      replace HB5 : Hid (x6.heap[b5]? = some (.cells #[.int .i64 (c.rows : Int), .int .i64 (c.pl : Int), .int .u64 (c.oa : Int), .int .u64 (c.ob : Int), .int .i64 c.ta, .int .i64 c.tz, .string c.ka, .string c.kz] 41 (0, 0))) := Lib.hid (by rw [hx6]; exact HB5.out)
      have HOC6 : Hid (OwnC x6 w.heap.size A k cap m) := Lib.hid (by rw [hx6]; exact HOC5.out.keep (Below.refl _ _).drew)
      have HKP6 : Hid (Kept (fun j => j = g ∨ j = bs ∨ w.heap.size ≤ j) w x6) := Lib.hid (by rw [hx6]; exact HKP5.out.drew)
      have HSW6 : Hid (w.heap.size ≤ x6.heap.size) := Lib.hid HKP6.out.size
      clear hx6 HRD5 HSG5 HOC5 HKP5
      refine wpAnyH_take (i := 0) (v := .pointer (some ⟨bs, 0, none⟩)) rfl (by kernel_rfl) (by kernel_rfl) (by kernel_rfl) (fun _ _ _ h => h) (Or.inl ⟨by rfl, fun _ _ => rfl⟩) hHeld ?_
      try dsimp only
      try simp only [Act.put, qz0, qz1, qz2, qz3, qz4, qz5]
      refine wpAnyH_take (i := 1) (v := .pointer (some ⟨bs, 0, none⟩)) rfl (by kernel_rfl) (by kernel_rfl) (by kernel_rfl) (fun _ _ _ h => h) (Or.inl ⟨by rfl, fun _ _ => rfl⟩) hHeld ?_
      try dsimp only
      try simp only [Act.put, qz0, qz1, qz2, qz3, qz4, qz5]
      refine wpAnyH_take (i := 2) (v := .pointer (some ⟨bs, 0, none⟩)) rfl (by kernel_rfl) (by kernel_rfl) (by kernel_rfl) (fun _ _ _ h => h) (Or.inl ⟨by rfl, fun w _ => by go_simp⟩) hHeld ?_
      try dsimp only
      try simp only [Act.put, qz0, qz1, qz2, qz3, qz4, qz5]
      refine wpAnyH_take (i := 3) (v := .pointer (some ⟨bs, 2, none⟩)) rfl (by kernel_rfl) (by kernel_rfl) (by kernel_rfl) (fun _ _ _ h => h) (Or.inl ⟨by rfl, fun w _ => by go_simp⟩) hHeld ?_
      try dsimp only
      try simp only [Act.put, qz0, qz1, qz2, qz3, qz4, qz5]
      refine wpAnyH_take (i := 5) (v := .agg #[.int .i64 (c.rows : Int), .int .i64 (c.pl : Int), .int .u64 (c.oa : Int), .int .u64 (c.ob : Int), .int .i64 c.ta, .int .i64 c.tz, .string c.ka, .string c.kz]) rfl (by kernel_rfl) (by kernel_rfl) (by kernel_rfl) (fun _ _ _ h => h) (yieldsIf_rowS rfl 41 (.tmp 5) rfl b5 rfl _ _ _ _ (fun w hw => hw) uCk rfl (by kernel_rfl)) hHeld ?_
      try dsimp only
      try simp only [Act.put, qz0, qz1, qz2, qz3, qz4, qz5]
      refine wpAnyH_ready (rs := [4, 6]) (by kernel_rfl) (by simp) (AllReadyH.cons rfl (fun K hK => ?_) (AllReadyH.cons rfl (fun K hK => ?_) AllReadyH.nil))
      ·skip
       rw [if_pos (by rfl)]
       refine wp_ld_cksS (.tmp 39) rfl bs 2 rfl (.slice A k cap) (by rw [cell_of_row _ _ _ _ _ _ HSG6.out]; rfl) ?_
       refine hK.out _ _ (by first | exact HB5.out | exact hHeld) (fun hHeld => ?_)
       clear hK K
       try dsimp only
       try simp only [Act.put, qz0, qz1, qz2, qz3, qz4, qz5]
       refine wpAnyH_ready (rs := [6]) (by kernel_rfl) (by simp) (AllReadyH.cons rfl (fun K hK => ?_) AllReadyH.nil)
       go_simp
       refine hK.out _ _ ((Below.heap_alloc x6 _ b5 (Array.getElem?_eq_some_iff.1 HB5.out).1).trans HB5.out) (fun hHeld => ?_)
       clear hK K
       try dsimp only
       try simp only [Act.put, qz0, qz1, qz2, qz3, qz4, qz5]
       refine wpAnyH_ready (rs := [7]) (by kernel_rfl) (by simp) (AllReadyH.cons rfl (fun K hK => ?_) AllReadyH.nil)
       rw [if_pos (by rfl)]
       have HBA : Hid (Below x6.heap.size x6 (x6.alloc (.cells #[.int .i64 (c.rows : Int), .int .i64 (c.pl : Int), .int .u64 (c.oa : Int), .int .u64 (c.ob : Int), .int .i64 c.ta, .int .i64 c.tz, .string c.ka, .string c.kz] 41))) := Lib.hid ((Below.refl _ _).alloc (Nat.le_refl _) _)
       refine wp_append_ck (.tmp 40) (.tmp 42) rfl w.heap.size A k cap m rfl (HOC6.out.keep HBA.out) ⟨x6.heap.size, 0, none⟩ 1 1 [c] rfl rfl (ckAt_new x6 [c] _ rfl _) (by omega) (Nat.le_trans HSW6.out HBA.out.size) (k + 1) rfl ?_
       intro A3 cap3 v3 ho3 hg3 hr3
       have HO3 := Lib.hid ho3
       have HK3 : Hid (Kept (MineK A) x6 v3) := Lib.hid ((Kept.of_below HBA.out).trans ⟨hg3.os, hg3.tape, hg3.output, hg3.size, fun k hk hn => hg3.block k hk (fun e => hn e.symm)⟩)
       have HNA : Hid (∀ j, MineK A j → w.heap.size ≤ j) := Lib.hid fun j hj => by obtain ⟨_, _, _, _, h1⟩ := ownC_cells HOC6.out hj; exact h1
       have HB53 : v3.heap[b5]? = some (.cells #[.int .i64 (c.rows : Int), .int .i64 (c.pl : Int), .int .u64 (c.oa : Int), .int .u64 (c.ob : Int), .int .i64 c.ta, .int .i64 c.tz, .string c.ka, .string c.kz] 41 (0, 0)) := HK3.out.heap HB5.out (fun e => HNB.out (ownC_own e))
       clear ho3 hg3 hr3
       refine hK.out _ _ HB53 (fun hHeld => ?_)
       clear hK K
       try dsimp only
       try simp only [Act.put, qz0, qz1, qz2, qz3, qz4, qz5]
       refine wpAnyH_take (i := 8) (v := .pointer (some ⟨bs, 0, none⟩)) rfl (by kernel_rfl) (by kernel_rfl) (by kernel_rfl) (fun _ _ _ h => h) (Or.inl ⟨by rfl, fun w _ => by go_simp⟩) hHeld ?_
       try dsimp only
       try simp only [Act.put, qz0, qz1, qz2, qz3, qz4, qz5]
       refine wpAnyH_take (i := 9) (v := .pointer (some ⟨bs, 2, none⟩)) rfl (by kernel_rfl) (by kernel_rfl) (by kernel_rfl) (fun _ _ _ h => h) (Or.inl ⟨by rfl, fun w _ => by go_simp⟩) hHeld ?_
       try dsimp only
       try simp only [Act.put, qz0, qz1, qz2, qz3, qz4, qz5]
       refine wpAnyH_ready (rs := [10]) (by kernel_rfl) (by simp) (AllReadyH.cons rfl (fun K hK => ?_) AllReadyH.nil)
       rw [if_pos (by rfl)]
       have RW3 : v3.heap[bs]? = some (.cells [.slice none 0 0, .int .i64 (p : Int), .slice A k cap, .int .i64 (foot : Int)].toArray 60 (0, 0)) := HK3.out.heap HSG6.out (fun e => by have := HNA.out _ e; have := HLT.out.2; omega)
       refine wp_st_cksS (.tmp 45) (.tmp 43) rfl bs 2 rfl A3 (k + 1) cap3 rfl (u := .slice A k cap) (by rw [cell_of_row _ _ _ _ _ _ RW3]; rfl) (row_frozen RW3 2) ?_
       have HN4 : Hid (RFt w g bs foot Q n p (k + 1) A3 cap3 (m ++ [c]) r2 (v3.setCell ⟨bs, 2, none⟩ (.slice A3 (k + 1) cap3))) := Lib.hid (rft_next HRD6 HK3 HNA HSG6 HLT HO3 HKP6 HE2 HF2 HOB2)
       have hb54 : (v3.setCell ⟨bs, 2, none⟩ (.slice A3 (k + 1) cap3)).heap[b5]? = some (.cells #[.int .i64 (c.rows : Int), .int .i64 (c.pl : Int), .int .u64 (c.oa : Int), .int .u64 (c.ob : Int), .int .i64 c.ta, .int .i64 c.tz, .string c.ka, .string c.kz] 41 (0, 0)) := (Below.heap_setCell _ _ _ _ (fun e => by have e : b5 = bs := e; have := HLT.out.2; have := HWB.out; omega)).trans HB53
       refine hK.out _ _ hb54 (fun hHeld => ?_)
       clear hK K
       refine wpAnyH_done (by kernel_rfl) ?_ _
       clear hHeld
       have HKN : Hid (k < n) := HKn
       clear RW3 HB53 hb54
       generalize v3.setCell _ _ = v4 at *
       have hw1 : IntKind.u64.wrap ((k : Int) + 1) = (k : Int) + 1 := by have := HN9.out; have := HKn.out; rw [IntKind.wrap_u64]; omega
       go_wp2
       go_roundw
       case rel => exact ⟨k + 1, A3, cap3, m ++ [c], r2, by have := HKn.out; omega, by go_num, HN4.out⟩
       case measure => have := HKn.out; simp [intOf]; omega
      ·skip
       go_simp
       refine hK.out _ _ ((Below.heap_alloc x6 _ b5 (Array.getElem?_eq_some_iff.1 HB5.out).1).trans HB5.out) (fun hHeld => ?_)
       clear hK K
       try dsimp only
       try simp only [Act.put, qz0, qz1, qz2, qz3, qz4, qz5]
       refine wpAnyH_ready (rs := [4]) (by kernel_rfl) (by simp) (AllReadyH.cons rfl (fun K hK => ?_) AllReadyH.nil)
       rw [if_pos (by rfl)]
       refine wp_ld_cksS (.tmp 39) rfl bs 2 rfl (.slice A k cap) (by rw [cell_of_row _ _ _ _ _ _ ((Below.heap_alloc x6 _ bs (Array.getElem?_eq_some_iff.1 HSG6.out).1).trans HSG6.out)]; rfl) ?_
       refine hK.out _ _ (by first | exact HB5.out | exact hHeld) (fun hHeld => ?_)
       clear hK K
       try dsimp only
       try simp only [Act.put, qz0, qz1, qz2, qz3, qz4, qz5]
       refine wpAnyH_ready (rs := [7]) (by kernel_rfl) (by simp) (AllReadyH.cons rfl (fun K hK => ?_) AllReadyH.nil)
       rw [if_pos (by rfl)]
       have HBA : Hid (Below x6.heap.size x6 (x6.alloc (.cells #[.int .i64 (c.rows : Int), .int .i64 (c.pl : Int), .int .u64 (c.oa : Int), .int .u64 (c.ob : Int), .int .i64 c.ta, .int .i64 c.tz, .string c.ka, .string c.kz] 41))) := Lib.hid ((Below.refl _ _).alloc (Nat.le_refl _) _)
       refine wp_append_ck (.tmp 40) (.tmp 42) rfl w.heap.size A k cap m rfl (HOC6.out.keep HBA.out) ⟨x6.heap.size, 0, none⟩ 1 1 [c] rfl rfl (ckAt_new x6 [c] _ rfl _) (by omega) (Nat.le_trans HSW6.out HBA.out.size) (k + 1) rfl ?_
       intro A3 cap3 v3 ho3 hg3 hr3
       have HO3 := Lib.hid ho3
       have HK3 : Hid (Kept (MineK A) x6 v3) := Lib.hid ((Kept.of_below HBA.out).trans ⟨hg3.os, hg3.tape, hg3.output, hg3.size, fun k hk hn => hg3.block k hk (fun e => hn e.symm)⟩)
       have HNA : Hid (∀ j, MineK A j → w.heap.size ≤ j) := Lib.hid fun j hj => by obtain ⟨_, _, _, _, h1⟩ := ownC_cells HOC6.out hj; exact h1
       have HB53 : v3.heap[b5]? = some (.cells #[.int .i64 (c.rows : Int), .int .i64 (c.pl : Int), .int .u64 (c.oa : Int), .int .u64 (c.ob : Int), .int .i64 c.ta, .int .i64 c.tz, .string c.ka, .string c.kz] 41 (0, 0)) := HK3.out.heap HB5.out (fun e => HNB.out (ownC_own e))
       clear ho3 hg3 hr3
       refine hK.out _ _ HB53 (fun hHeld => ?_)
       clear hK K
       try dsimp only
       try simp only [Act.put, qz0, qz1, qz2, qz3, qz4, qz5]
       refine wpAnyH_take (i := 8) (v := .pointer (some ⟨bs, 0, none⟩)) rfl (by kernel_rfl) (by kernel_rfl) (by kernel_rfl) (fun _ _ _ h => h) (Or.inl ⟨by rfl, fun w _ => by go_simp⟩) hHeld ?_
       try dsimp only
       try simp only [Act.put, qz0, qz1, qz2, qz3, qz4, qz5]
       refine wpAnyH_take (i := 9) (v := .pointer (some ⟨bs, 2, none⟩)) rfl (by kernel_rfl) (by kernel_rfl) (by kernel_rfl) (fun _ _ _ h => h) (Or.inl ⟨by rfl, fun w _ => by go_simp⟩) hHeld ?_
       try dsimp only
       try simp only [Act.put, qz0, qz1, qz2, qz3, qz4, qz5]
       refine wpAnyH_ready (rs := [10]) (by kernel_rfl) (by simp) (AllReadyH.cons rfl (fun K hK => ?_) AllReadyH.nil)
       rw [if_pos (by rfl)]
       have RW3 : v3.heap[bs]? = some (.cells [.slice none 0 0, .int .i64 (p : Int), .slice A k cap, .int .i64 (foot : Int)].toArray 60 (0, 0)) := HK3.out.heap HSG6.out (fun e => by have := HNA.out _ e; have := HLT.out.2; omega)
       refine wp_st_cksS (.tmp 45) (.tmp 43) rfl bs 2 rfl A3 (k + 1) cap3 rfl (u := .slice A k cap) (by rw [cell_of_row _ _ _ _ _ _ RW3]; rfl) (row_frozen RW3 2) ?_
       have HN4 : Hid (RFt w g bs foot Q n p (k + 1) A3 cap3 (m ++ [c]) r2 (v3.setCell ⟨bs, 2, none⟩ (.slice A3 (k + 1) cap3))) := Lib.hid (rft_next HRD6 HK3 HNA HSG6 HLT HO3 HKP6 HE2 HF2 HOB2)
       have hb54 : (v3.setCell ⟨bs, 2, none⟩ (.slice A3 (k + 1) cap3)).heap[b5]? = some (.cells #[.int .i64 (c.rows : Int), .int .i64 (c.pl : Int), .int .u64 (c.oa : Int), .int .u64 (c.ob : Int), .int .i64 c.ta, .int .i64 c.tz, .string c.ka, .string c.kz] 41 (0, 0)) := (Below.heap_setCell _ _ _ _ (fun e => by have e : b5 = bs := e; have := HLT.out.2; have := HWB.out; omega)).trans HB53
       refine hK.out _ _ hb54 (fun hHeld => ?_)
       clear hK K
       refine wpAnyH_done (by kernel_rfl) ?_ _
       clear hHeld
       have HKN : Hid (k < n) := HKn
       clear RW3 HB53 hb54
       generalize v3.setCell _ _ = v4 at *
       have hw1 : IntKind.u64.wrap ((k : Int) + 1) = (k : Int) + 1 := by have := HN9.out; have := HKn.out; rw [IntKind.wrap_u64]; omega
       go_wp2
       go_roundw
       case rel => exact ⟨k + 1, A3, cap3, m ++ [c], r2, by have := HKn.out; omega, by go_num, HN4.out⟩
       case measure => have := HKn.out; simp [intOf]; omega
   ·have hkI : ¬ ((k : Int) < (n : Int)) := by omega
    have HE : Hid (footP foot Q = some ((p, m), r)) := Lib.hid (by rw [HRC.out.eq, show n - k = 0 by omega]; rfl)
    go_wp2_with fail
    have HOW : Hid (OwnC wr 0 A k cap m) := Lib.hid (HRC.out.own.less (Nat.zero_le _))
    refine bodyPost_ret (results_none rfl _ _ _) rfl ⟨?_, .inl ⟨r, rfl, HRC.out.rd, ?_⟩⟩
    ·exact HRC.out.kept.mono (fun k h => h.elim (fun h => .inl (.inr h)) (fun h => h.elim (fun h => .inl (.inl h)) .inr))
    ·rw [HE.out]
     exact ⟨rfl, A, k, cap, by rw [show k = k from rfl]; exact HRC.out.seg, HOW.out, fun j hj e => by
      obtain ⟨_, _, _, _, h1⟩ := ownC_cells HRC.out.own hj
      have := HLT.out
      omega⟩
 ·replace HV : Hid (footP foot Q = none) := Lib.hid (by rw [HV.out, if_neg hpn])
  have HCF := Lib.hid (check_false g C0 A0 q2 w3 HRA)
  by_cases hp : 1 ≤ p
  ·have hp1 : (1 : Int) ≤ (p : Int) := by omega
   have hn1 : decide ((1 : Int) ≤ (n : Int)) = false := by rw [decide_eq_false_iff_not]; omega
   clear hpn hp
   go_wp2_with (go_at_call 49; (with_reducible refine (HCF.out).mono ?_); rintro e w4 ⟨rfl, h1, h2⟩; have HG4 := Lib.hid h1; have HK4 := Lib.hid h2; clear h1 h2)
   exact ⟨rfl, HNO.out _ HG4.out (HK3.out.trans (HK4.out.mono fun k h => .inl (.inl h))) HV.out⟩
  ·have hp1 : decide ((1 : Int) ≤ (p : Int)) = false := by rw [decide_eq_false_iff_not]; omega
   clear hpn hp
   go_wp2_with (go_at_call 49; (with_reducible refine (HCF.out).mono ?_); rintro e w4 ⟨rfl, h1, h2⟩; have HG4 := Lib.hid h1; have HK4 := Lib.hid h2; clear h1 h2)
   exact ⟨rfl, HNO.out _ HG4.out (HK3.out.trans (HK4.out.mono fun k h => .inl (.inl h))) HV.out⟩
end Go.Proofs.YtifabkbdiiolfaaDoor
