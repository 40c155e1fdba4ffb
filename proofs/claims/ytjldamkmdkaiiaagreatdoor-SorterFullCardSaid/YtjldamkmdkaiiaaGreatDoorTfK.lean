/-
  Layer column: the program's readUnlike, of any bytes.
-/
import Derived.Test.YtjldamkmdkaiiaaGreatDoorTeK
import Derived.Test.YtjldamkmdkaiiaaGreatDoorDaK
import Derived.Test.YtjldamkmdkaiiaaGreatDoorTkK
set_option linter.unusedSimpArgs false
set_option linter.unusedVariables false
set_option maxRecDepth 8000
namespace Go.Proofs.YtjldamkmdkaiiaaGreatDoor
open Go.RowKit Go.WideShapes Col
namespace Col
def tls (s t : List Nat) : Bool := Op.bytesLess (strB s).toList (strB t).toList
def rising : List (List Nat) → Bool
 | [] => true
 | [_] => true
 | s :: t :: r => tls s t && rising (t :: r)
theorem rising_get {l : List (List Nat)} (h : rising l = true) : ∀ (i : Nat) (s t : List Nat), l[i]? = some s → l[i + 1]? = some t → tls s t = true := by
 induction l with
 | nil => intro i s t h1; simp at h1
 | cons a r ih =>
  intro i s t h1 h2
  rcases r with _ | ⟨b, r⟩
  ·simp at h2
  ·rw [rising, Bool.and_eq_true] at h
   rcases i with _ | i
   ·simp at h1 h2; subst h1; subst h2; exact h.1
   ·exact ih h.2 i s t (by simpa using h1) (by simpa using h2)
theorem rising_of {l : List (List Nat)} (h : ∀ (i : Nat) (s t : List Nat), l[i]? = some s → l[i + 1]? = some t → tls s t = true) : rising l = true := by
 induction l with
 | nil => rfl
 | cons a r ih =>
  rcases r with _ | ⟨b, r⟩
  ·rfl
  ·rw [rising, Bool.and_eq_true]
   exact ⟨h 0 a b rfl rfl, ih fun i s t h1 h2 => h (i + 1) s t (by simpa using h1) (by simpa using h2)⟩
def rU (q : List Nat) : Option (List (List Nat) × List Nat) := (uP 4096 q).bind fun p => (runS (tP 32) p.1 p.2).bind fun r => if rising r.1 = true then some r else none
theorem rU_no1 {q : List Nat} (h : uP 4096 q = none) : rU q = none := by unfold rU; rw [h]; rfl
theorem rU_no2 {q r : List Nat} {n : Nat} (h : uP 4096 q = some (n, r)) (h2 : runS (tP 32) n r = none) : rU q = none := by unfold rU; rw [h]; simp [h2]
theorem rU_no3 {q r r2 : List Nat} {n : Nat} {ts : List (List Nat)} (h : uP 4096 q = some (n, r)) (h2 : runS (tP 32) n r = some (ts, r2)) (h3 : rising ts = false) : rU q = none := by unfold rU; rw [h]; simp [h2, h3]
theorem rU_yes {q r r2 : List Nat} {n : Nat} {ts : List (List Nat)} (h : uP 4096 q = some (n, r)) (h2 : runS (tP 32) n r = some (ts, r2)) (h3 : rising ts = true) : rU q = some (ts, r2) := by unfold rU; rw [h]; simp [h2, h3]
theorem tP_left {most : Nat} {q s r : List Nat} (h : tP most q = some (s, r)) : r.length ≤ q.length ∧ (∀ x ∈ s, x ∈ q) ∧ s.length ≤ most := by
 obtain ⟨n, q', h1, h2, rfl, rfl⟩ := tP_some h
 obtain ⟨-, -, m, -, hm, -⟩ := grp_lt _ _ _ _ (uP_some h1).1
 subst hm
 refine ⟨by rw [List.length_drop, List.length_drop]; omega, fun x hx => List.mem_of_mem_drop (List.mem_of_mem_take hx), by have := (uP_some h1).2; rw [List.length_take]; omega⟩
end Col
theorem lss_t (s t : List Nat) (b : Bool) (h : tls s t = b) (w : World) : (binOp .lss 9 (.string (strB s)) (.string (strB t))).run Tryz.prog w = .ok (.bool b) w := by
 subst h; rw [binOp_string_lss]; rfl
theorem ix_str (g off m c k : Nat) (h : k < m) (w : World) : (Instr.indexAt 37 (.slice (some ⟨g, off, none⟩) m c) (.int .i64 (k : Int))).run Tryz.prog w = .ok (.pointer (some ⟨g, off + k, none⟩)) w := by
 have h1 : (k : Int) < (m : Int) := by omega
 first | (go_simp; done) | (go_simp; intro h; exfalso; omega)
theorem yb_ixt {ops : Array Oper} {S : World → Prop} {op : Oper} {a : Act} (hw : Region.wanted op (yielded ops a.tmps) = true) (x y : Operand) (ho : op.op = .indexAddr 37 x y) (g off m c k : Nat) (hx : a.eval x = .slice (some ⟨g, off, none⟩) m c) (hy : a.eval y = .int .i64 (k : Int)) (h : k < m) : YieldsIf Tryz.prog ops S op (.pointer (some ⟨g, off + k, none⟩)) a :=
 .inl ⟨hw, fun w _ => by
  unfold execOp
  simp only [ho, hx, hy, Sem.run_bind, Sem.run_pure, Result.andThen_ok, ix_str g off m c k h w]⟩
theorem lv_t (w : World) (g j : Nat) (v : Value) (h : w.cell? ⟨g, j, none⟩ = some v) : (loadVar 9 ⟨g, j, none⟩).run Tryz.prog w = .ok v w := by
 go_simp
theorem yb_ldt {ops : Array Oper} {S : World → Prop} {op : Oper} {a : Act} (hw : Region.wanted op (yielded ops a.tmps) = true) (x : Operand) (ho : op.op = .load 9 x) (g j : Nat) (hx : a.eval x = .pointer (some ⟨g, j, none⟩)) (v : Value)
  (hS : ∀ w, S w → w.cell? ⟨g, j, none⟩ = some v) : YieldsIf Tryz.prog ops S op v a :=
 .inl ⟨hw, fun w hw' => by
  unfold execOp
  simp only [ho, hx, Instr.loadAt, Instr.sureAddr, Sem.run_bind, Sem.run_pure, Result.andThen_ok, lv_t w g j v (hS w hw')]⟩
structure US (g bx : Nat) (q : List Nat) (w : World) : Prop where
 rd : RdM g q w
 box : w.heap[bx]? = some (.cells #[.pointer (some ⟨g, 0, none⟩)] 138 (0, 0))
 n2 : g < bx
theorem US.keep {g bx : Nat} {q : List Nat} {w w' : World} {S : Nat → Prop} (h : US g bx q w) (hk : Kept S w w') (hS : ∀ k, S k → w.heap.size ≤ k ∨ (g < k ∧ k ≠ bx)) : US g bx q w' := by
 have hg := h.rd.1.glt
 have hb := (Array.getElem?_eq_some_iff.1 h.box).1
 exact ⟨⟨h.rd.1.high hk fun k hs => by have := hS k hs; omega, h.rd.2⟩, hk.heap h.box fun e => by have := hS _ e; omega, h.n2⟩
theorem US.cb {g bx : Nat} {q : List Nat} {w : World} (h : US g bx q w) : w.cell? ⟨bx, 0, none⟩ = some (.pointer (some ⟨g, 0, none⟩)) := by rw [cell_of_row _ _ _ _ _ _ h.box]; rfl
theorem US.blt {g bx : Nat} {q : List Nat} {w : World} (h : US g bx q w) : bx < w.heap.size := (Array.getElem?_eq_some_iff.1 h.box).1
set_option maxHeartbeats 1000000 in
theorem unlike_step (g bx : Nat) (q : List Nat) (w : World) (H : Hid (US g bx q w)) :
  Calls Tryz.prog 195 #[.pointer (some ⟨bx, 0, none⟩)] w (StepEndsT g (Only g) (US g bx) (tP 32 q) w) := by
 have cb := H.out.cb
 rcases hz : tP 32 q with _ | ⟨s, r⟩
 ·have HT : Hid (Calls Tryz.prog 138 #[.pointer (some ⟨g, 0, none⟩), .int .i64 32] w (No g w)) := Lib.hid (text_no g 32 (by decide) q (Lib.hid hz) q.length (Lib.hid rfl) H.out.rd.2 w (Lib.hid H.out.rd.1))
  go_enter Tryz.func195, Tryz.ntmps195
  go_wp2_with (go_at_call 138; (with_reducible refine (HT.out).mono ?_); rintro e w2 ⟨rfl, h1, h2⟩)
  exact ⟨rfl, rfl, h1, h2⟩
 ·have HT : Hid (Calls Tryz.prog 138 #[.pointer (some ⟨g, 0, none⟩), .int .i64 32] w (Yes g w (.string (strB s)) r)) := Lib.hid (text_yes g 32 (by decide) q s r (Lib.hid hz) (by have := H.out.rd.2; omega) w (Lib.hid H.out.rd.1))
  have HW : Hid (WfT s) := Lib.hid fun c hc => H.out.rd.1.lt c ((tP_left hz).2.1 c hc)
  have HL := Lib.hid (Nat.le_trans (tP_left hz).1 H.out.rd.2)
  have HNB : Hid (¬ Only g bx) := Lib.hid (fun e => by have e : bx = g := e; have := H.out.n2; omega)
  clear hz
  go_enter Tryz.func195, Tryz.ntmps195
  go_wp2_with (go_at_call 138; (with_reducible refine (HT.out).mono ?_); rintro e w2 hy; obtain ⟨rfl, HR2, HK2⟩ := Yes.rd hy; clear hy)
  go_ret
  exact ⟨rfl, HW.out, ⟨⟨HR2.out, HL.out⟩, HK2.out.heap H.out.box HNB.out, H.out.n2⟩, HK2.out⟩
def RUl (g bx n : Nat) (A : Option Addr) (cap : Nat) (l : List (List Nat)) (r : List Nat) (w : World) (v : Value) (wr : World) : Prop :=
 ∃ i : Nat, 1 ≤ i ∧ (i ≤ n ∨ i = 1) ∧ v = .int .i64 (i : Int) ∧ (∀ (j : Nat) (s t : List Nat), j + 1 < i → l[j]? = some s → l[j + 1]? = some t → tls s t = true) ∧ US g bx r wr ∧ OwnX wr w.heap.size A n cap l ∧ Kept (Only g) w wr
theorem OwnX.more {w : World} {B n cap : Nat} {A : Option Addr} {l : List (List Nat)} {B' : Nat} (h : OwnX w B A n cap l) (hB : B' ≤ B) : OwnX w B' A n cap l := by
 refine ⟨⟨h.1.1, ?_⟩, h.2⟩
 rcases h.1.2 with h1 | ⟨g, cap', cur, h1, hb, h2⟩
 ·exact .inl h1
 ·exact .inr ⟨g, cap', cur, h1, Nat.le_trans hB hb, h2⟩
def UnlEnds (g : Nat) (o : Option (List (List Nat) × List Nat)) (w : World) (e : Ending) (w' : World) : Prop := match o with
 | some p => (∃ A n cap, e = .returned (.slice A n cap) ∧ OwnX w' w.heap.size A n cap p.1) ∧ RdM g p.2 w' ∧ Kept (Only g) w w'
 | none => e = .panicked [gu g] ∧ Gone w' g ∧ Kept (Only g) w w'
set_option maxHeartbeats 4000000 in
theorem readUnlike_any (g : Nat) (q : List Nat) (w : World) (H : Hid (RdM g q w)) :
  Calls Tryz.prog 179 #[.pointer (some ⟨g, 0, none⟩)] w (UnlEnds g (rU q) w) := by
 obtain ⟨bx, w1, hbx, hw1, hrow1, hb1, hbx1⟩ := alloc_pt w (.pointer (some ⟨g, 0, none⟩)) 138
 have HU1 : Hid (US g bx q w1) := Lib.hid ⟨⟨H.out.1.high (S := fun _ => False) (Kept.of_below hb1) fun k hk => hk.elim, H.out.2⟩, hrow1, by rw [hbx]; exact H.out.1.glt⟩
 have HK1 : Hid (Kept (Only g) w w1) := Lib.hid (Kept.of_below hb1)
 have HBX := Lib.hid hbx
 have hc1 := HU1.out.cb
 rcases hu : uP 4096 q with _ | ⟨n, r⟩
 ·have HN := Lib.hid (rU_no1 hu)
  have HU : Hid (Calls Tryz.prog 170 #[.pointer (some ⟨g, 0, none⟩), .int .u64 4096] w1 (No g w1)) := Lib.hid (uint_no g 4096 q (Lib.hid hu) q.length (Lib.hid rfl) H.out.2 w1 (Lib.hid HU1.out.rd.1))
  rw [HN.out]
  clear hu
  go_enter Tryz.func179, Tryz.ntmps179
  go_upto_region 1 with fail
  rw [← hw1, ← hbx]
  clear hw1 hbx hrow1 hb1 hbx1
  go_wp2_with (go_at_call 170; (with_reducible refine (HU.out).mono ?_); rintro e w2 ⟨rfl, h1, h2⟩)
  exact ⟨rfl, rfl, h1, HK1.out.trans h2⟩
 ·have HU : Hid (Calls Tryz.prog 170 #[.pointer (some ⟨g, 0, none⟩), .int .u64 4096] w1 (Yes g w1 (.int .u64 (n : Int)) r)) := Lib.hid (uint_yes g 4096 n q r (Lib.hid hu) (by have := H.out.2; omega) w1 (Lib.hid HU1.out.rd.1))
  have hn : n ≤ 4096 := (uP_some hu).2
  have hni : IntKind.i64.wrap (n : Int) = (n : Int) := by rw [IntKind.wrap_i64]; omega
  have HUP := Lib.hid hu
  have HRL : Hid (r.length ≤ 1099511627776) := Lib.hid (by
   obtain ⟨-, -, m, -, hm, -⟩ := grp_lt _ _ _ _ (uP_some hu).1
   have := H.out.2; rw [hm, List.length_drop]; omega)
  clear hu
  go_enter Tryz.func179, Tryz.ntmps179
  go_upto_region 1 with fail
  rw [← hw1, ← hbx]
  clear hw1 hbx hrow1 hb1 hbx1
  go_upto_region 2 with (go_at_call 170; (with_reducible refine (HU.out).mono ?_); rintro e w2 hy; obtain ⟨rfl, HR2, HK2⟩ := Yes.rd hy; clear hy)
  have HNB : Hid (¬ Only g bx) := Lib.hid (fun e => by have e : bx = g := e; have := HU1.out.n2; omega)
  have HU2 : Hid (US g bx r w2) := Lib.hid ⟨⟨HR2.out, HRL.out⟩, HK2.out.heap HU1.out.box HNB.out, HU1.out.n2⟩
  have ht := timesT_any (tP 32) 195 #[] #[.pointer (some ⟨bx, 0, none⟩)] (fun _ _ => by first | rfl | kernel_rfl) n hn g (Only g) (US g bx) w2
   (Lib.hid fun k hk => by have hk : k = g := hk; subst hk; exact HU2.out.rd.1.glt)
   (Lib.hid fun s w1 w3 h hk => by
    refine h.keep hk fun k hk => ?_
    have := HU2.out.blt; have := HU2.out.n2
    omega)
   r (Lib.hid fun k xs s w1 _ _ h _ => unlike_step g bx s w1 (Lib.hid h)) HU2
  have HT := Lib.hid ht
  have HKA := Lib.hid (HK1.out.trans HK2.out)
  clear ht hc1
  rcases hr : runS (tP 32) n r with _ | ⟨l, r2⟩
  ·have HN := Lib.hid (rU_no2 HUP.out hr)
   rw [hr] at HT
   rw [HN.out]
   clear hr
   go_wp2_with (go_at_call 194; (with_reducible refine (HT.out).mono ?_); rintro e w3 ⟨rfl, h1, h2⟩)
   exact ⟨rfl, rfl, h1, HKA.out.trans h2⟩
  ·have HRUN := Lib.hid hr
   have HLN := Lib.hid (runS_len hr)
   rw [hr] at HT
   clear hr
   go_upto_region 3 with (go_at_call 194; (with_reducible refine (HT.out).mono ?_); rintro e w3 ⟨⟨A, m, cap, rfl, ho⟩, h1, h2⟩; obtain rfl : m = n := (by have h9 : m = l.length := ho.len; have := HLN.out; omega); have HOW := Lib.hid (ho.more (B' := w.heap.size) HKA.out.size); have HUS := Lib.hid h1; have HK3 := Lib.hid (HKA.out.trans h2); clear ho h1 h2)
   have HST : Hid (RUl g bx m A cap l r2 w (.int .i64 1) w3) := Lib.hid ⟨1, Nat.le_refl _, .inr rfl, rfl, fun j s t h => by omega, HUS.out, HOW.out, HK3.out⟩
   obtain ⟨n, hnm⟩ : ∃ n, n = m := ⟨_, rfl⟩
   subst hnm
   clear HOW HUS HK3
   go_wp2
   go_loopw [5] (fun v wr => RUl g bx n A cap l r2 w v wr) (fun v _ => n - (intOf v).toNat)
   case atStart => exact HST.out
   case round =>
    obtain ⟨i, hi1, hi2, rfl, hris, hus, how, hk⟩ := hrel
    have HU3 := Lib.hid hus; have HOW := Lib.hid how; have HK4 := Lib.hid hk; have HRIS := Lib.hid hris
    clear hus how hk hris HST
    by_cases hin : i < n
    ·obtain ⟨j, hj⟩ : ∃ j, i = j + 1 := ⟨i - 1, by omega⟩
     have hll : l.length = n := HLN.out
     obtain ⟨s, hs⟩ : ∃ s, l[j]? = some s := ⟨_, List.getElem?_eq_getElem (by omega)⟩
     obtain ⟨t, ht⟩ : ∃ t, l[i]? = some t := ⟨_, List.getElem?_eq_getElem (by omega)⟩
     obtain ⟨g2, off, rfl, hg2, hcell⟩ := HOW.out.isAt.spot (by omega)
     have HCS := Lib.hid (hcell j s hs); have HCT := Lib.hid (hcell i t ht); have HG2 := Lib.hid hg2
     have HS := Lib.hid hs; have HTT := Lib.hid ht; have HJ := Lib.hid hj
     have HJN : Hid (j < n) := Lib.hid (by omega)
     have HSUB : Hid (∀ w9 : World, (binOp .sub 3 (.int .i64 (i : Int)) (.int .i64 1)).run Tryz.prog w9 = .ok (.int .i64 (j : Int)) w9) := Lib.hid fun w9 => by
      have := b_subN i 1 (by omega) (by omega) w9
      rw [show i - 1 = j by omega] at this; exact this
     clear hs ht hcell hg2 hj hll
     rcases hls : tls s t with _ | _
     ·have HLS := Lib.hid hls
      have HN : Hid (rU q = none) := Lib.hid (rU_no3 HUP.out HRUN.out (by
       rcases hr : rising l with _ | _
       ·rfl
       ·have := rising_get hr j s t HS.out (HJ.out ▸ HTT.out)
        rw [HLS.out] at this; cases this))
      rw [HN.out]
      clear hls
      go_upto_region 6 with fail
      have hh0 : Below wr.heap.size wr wr.drew := (Below.refl _ _).drew
      refine wp_region_held_drew (S := fun w2 => Below wr.heap.size wr w2) (by kernel_rfl) hh0 (fun hHeld => ?_)
      refine tk 0 (.pointer (some ⟨g, 0, none⟩)) rfl (Or.inl ⟨by rfl, fun w hw => by have hc : w.cell? ⟨bx, 0, none⟩ = some (.pointer (some ⟨g, 0, none⟩)) := (hw.cell (p := ⟨bx, 0, none⟩) HU3.out.blt).trans HU3.out.cb; go_simp⟩) hHeld ?_
      try simp only [qz]
      refine tkm 1 (.slice (some ⟨g2, off, none⟩) n cap) rfl hHeld ?_
      try simp only [qz]
      refine tkm 2 (.int .i64 (i : Int)) rfl hHeld ?_
      try simp only [qz]
      refine tk 3 (.int .i64 (j : Int)) rfl (yb_bin rfl .sub 3 3 (.tmp 19) (.const (.int .i64 1)) rfl _ _ _ rfl rfl (fun _ => rfl) HSUB.out) hHeld ?_
      try simp only [qz]
      refine tk 4 (.pointer (some ⟨g2, off + j, none⟩)) rfl (yb_ixt rfl (.tmp 18) (.tmp 20) rfl g2 off n cap j rfl rfl HJN.out) hHeld ?_
      try simp only [qz]
      refine tk 5 (.string (strB s)) rfl (yb_ldt rfl (.tmp 21) rfl g2 (off + j) rfl _ (fun w hw => (hw.cell (p := ⟨g2, off + j, none⟩) HG2.out).trans HCS.out)) hHeld ?_
      try simp only [qz]
      refine tkm 6 (.slice (some ⟨g2, off, none⟩) n cap) rfl hHeld ?_
      try simp only [qz]
      refine tkm 7 (.int .i64 (i : Int)) rfl hHeld ?_
      try simp only [qz]
      refine tk 8 (.pointer (some ⟨g2, off + i, none⟩)) rfl (yb_ixt rfl (.tmp 23) (.tmp 24) rfl g2 off n cap i rfl rfl hin) hHeld ?_
      try simp only [qz]
      refine tk 9 (.string (strB t)) rfl (yb_ldt rfl (.tmp 25) rfl g2 (off + i) rfl _ (fun w hw => (hw.cell (p := ⟨g2, off + i, none⟩) HG2.out).trans HCT.out)) hHeld ?_
      try simp only [qz]
      refine tk 10 (.bool false) rfl (yb_bin rfl .lss 9 9 (.tmp 22) (.tmp 26) rfl _ _ _ rfl rfl (fun _ => rfl) (lss_t s t false HLS.out)) hHeld ?_
      try simp only [qz]
      refine rd1 11 rfl (fun K hK => ?_)
      go_simp
      obtain ⟨A9, C9, hRA⟩ := HU3.out.rd.1
      refine (check_false g C9 A9 r2 _ (Lib.hid (hRA.drewN 1))).mono ?_
      rintro e w5 ⟨rfl, h1, h2⟩
      exact ⟨rfl, rfl, h1, HK4.out.drew.trans h2⟩
     ·have HLS := Lib.hid hls
      clear hls
      go_upto_region 6 with fail
      have hh0 : Below wr.heap.size wr wr.drew := (Below.refl _ _).drew
      refine wp_region_held_drew (S := fun w2 => Below wr.heap.size wr w2) (by kernel_rfl) hh0 (fun hHeld => ?_)
      refine tk 0 (.pointer (some ⟨g, 0, none⟩)) rfl (Or.inl ⟨by rfl, fun w hw => by have hc : w.cell? ⟨bx, 0, none⟩ = some (.pointer (some ⟨g, 0, none⟩)) := (hw.cell (p := ⟨bx, 0, none⟩) HU3.out.blt).trans HU3.out.cb; go_simp⟩) hHeld ?_
      try simp only [qz]
      refine tkm 1 (.slice (some ⟨g2, off, none⟩) n cap) rfl hHeld ?_
      try simp only [qz]
      refine tkm 2 (.int .i64 (i : Int)) rfl hHeld ?_
      try simp only [qz]
      refine tk 3 (.int .i64 (j : Int)) rfl (yb_bin rfl .sub 3 3 (.tmp 19) (.const (.int .i64 1)) rfl _ _ _ rfl rfl (fun _ => rfl) HSUB.out) hHeld ?_
      try simp only [qz]
      refine tk 4 (.pointer (some ⟨g2, off + j, none⟩)) rfl (yb_ixt rfl (.tmp 18) (.tmp 20) rfl g2 off n cap j rfl rfl HJN.out) hHeld ?_
      try simp only [qz]
      refine tk 5 (.string (strB s)) rfl (yb_ldt rfl (.tmp 21) rfl g2 (off + j) rfl _ (fun w hw => (hw.cell (p := ⟨g2, off + j, none⟩) HG2.out).trans HCS.out)) hHeld ?_
      try simp only [qz]
      refine tkm 6 (.slice (some ⟨g2, off, none⟩) n cap) rfl hHeld ?_
      try simp only [qz]
      refine tkm 7 (.int .i64 (i : Int)) rfl hHeld ?_
      try simp only [qz]
      refine tk 8 (.pointer (some ⟨g2, off + i, none⟩)) rfl (yb_ixt rfl (.tmp 23) (.tmp 24) rfl g2 off n cap i rfl rfl hin) hHeld ?_
      try simp only [qz]
      refine tk 9 (.string (strB t)) rfl (yb_ldt rfl (.tmp 25) rfl g2 (off + i) rfl _ (fun w hw => (hw.cell (p := ⟨g2, off + i, none⟩) HG2.out).trans HCT.out)) hHeld ?_
      try simp only [qz]
      refine tk 10 (.bool true) rfl (yb_bin rfl .lss 9 9 (.tmp 22) (.tmp 26) rfl _ _ _ rfl rfl (fun _ => rfl) (lss_t s t true HLS.out)) hHeld ?_
      try simp only [qz]
      refine rd1 11 rfl (fun K hK => ?_)
      go_simp
      refine (check_true _ _).mono ?_
      rintro e w5 ⟨rfl, rfl⟩
      refine hK.out _ _ hHeld (fun hHeld => ?_)
      clear hK K
      refine wpAnyH_done (by kernel_rfl) ?_ _
      clear hHeld hh0
      have HU4 : Hid (US g bx r2 wr.drew) := Lib.hid (HU3.out.keep (S := fun _ => False) ((Kept.refl _ _).drew) fun k hk => hk.elim)
      have HOW4 := Lib.hid (HOW.out.keep ((Below.refl wr.heap.size wr).drew))
      go_wp2
      go_roundw
      case rel => exact ⟨i + 1, by omega, .inl (by omega), by go_num, fun j2 s2 t2 h1 h2 h3 => by
       by_cases e : j2 + 1 = i
       ·have e2 : j2 = j := by have := HJ.out; omega
        subst e2
        rw [HS.out] at h2; injection h2 with h2; subst h2
        rw [e, HTT.out] at h3; injection h3 with h3; subst h3
        exact HLS.out
       ·exact HRIS.out j2 s2 t2 (by omega) h2 h3, HU4.out, HOW4.out, HK4.out.drew⟩
      case measure => simp [intOf]; omega
    ·have HN : Hid (rU q = some (l, r2)) := Lib.hid (rU_yes HUP.out HRUN.out (rising_of fun j s t h1 h2 => HRIS.out j s t (by
      have h3 := (List.getElem?_eq_some_iff.1 h2).1
      have := HLN.out; omega) h1 h2))
     go_wp2
     go_ret
     rw [HN.out]
     exact ⟨⟨A, n, cap, rfl, HOW.out⟩, HU3.out.rd, HK4.out⟩
end Go.Proofs.YtjldamkmdkaiiaaGreatDoor
