/-
  Layer column: the program's readUnlike, of any bytes.
-/
import Derived.Test.YtpobfgokikfmbaaDoorQPrds7
import Derived.Test.YtpobfgokikfmbaaDoorQPrds5
import Derived.Test.YtpobfgokikfmbaaDoorQPrds3
import Derived.Sort.Walk0
import Derived.Lib.ConvBytes
import Derived.Shelf.SlicesE.Clone
import Derived.Shelf.Slices.In.SortAlone
import Derived.Shelf.Slices.In.CompactS
import Derived.Shelf.Slices.In.SortNone
import Derived.Sort.OwnSorted
import Derived.Sort.EveryDepth
import Derived.Lib.OwnBridge
import Derived.Lib.RowBridge
import Derived.Shelf.Spec.SearchS
import Derived.Lib.AppendStr
import Derived.Test.YtpobfgokikfmbaaDoorQPrds2
set_option linter.unusedSimpArgs false
set_option linter.unusedVariables false
set_option maxRecDepth 8000
namespace Go.Proofs.YtpobfgokikfmbaaDoor
open Go.RowKit Go.WideShapes Col
namespace Col
/-- Does one text stand ahead of another? -/
def tls (s t : List Nat) : Bool := Op.bytesLess (strB s).toList (strB t).toList
/-- Texts that rise, the first k of them. -/
def rising : List (List Nat) → Bool
  | [] => true
  | [_] => true
  | s :: t :: r => tls s t && rising (t :: r)
theorem rising_get {l : List (List Nat)} (h : rising l = true) : ∀ (i : Nat) (s t : List Nat), l[i]? = some s → l[i + 1]? = some t → tls s t = true := by
  induction l with
  | nil => intro i s t h1; simp at h1
  | cons a r ih =>
    intro i s t h1 h2
    rcases r with _ | ⟨b, r⟩
    · simp at h2
    · rw [rising, Bool.and_eq_true] at h
      rcases i with _ | i
      · simp at h1 h2; subst h1; subst h2; exact h.1
      · exact ih h.2 i s t (by simpa using h1) (by simpa using h2)
theorem rising_of {l : List (List Nat)} (h : ∀ (i : Nat) (s t : List Nat), l[i]? = some s → l[i + 1]? = some t → tls s t = true) : rising l = true := by
  induction l with
  | nil => rfl
  | cons a r ih =>
    rcases r with _ | ⟨b, r⟩
    · rfl
    · rw [rising, Bool.and_eq_true]
      exact ⟨h 0 a b rfl rfl, ih fun i s t h1 h2 => h (i + 1) s t (by simpa using h1) (by simpa using h2)⟩
/-- The texts that there are. -/
def rU (q : List Nat) : Option (List (List Nat) × List Nat) := (uP 4096 q).bind fun p => (runS (tP 32) p.1 p.2).bind fun r => if rising r.1 = true then some r else none
theorem rU_no1 {q : List Nat} (h : uP 4096 q = none) : rU q = none := by unfold rU; rw [h]; rfl
theorem rU_no2 {q r : List Nat} {n : Nat} (h : uP 4096 q = some (n, r)) (h2 : runS (tP 32) n r = none) : rU q = none := by unfold rU; rw [h]; simp [h2]
theorem rU_no3 {q r r2 : List Nat} {n : Nat} {ts : List (List Nat)} (h : uP 4096 q = some (n, r)) (h2 : runS (tP 32) n r = some (ts, r2)) (h3 : rising ts = false) : rU q = none := by unfold rU; rw [h]; simp [h2, h3]
theorem rU_yes {q r r2 : List Nat} {n : Nat} {ts : List (List Nat)} (h : uP 4096 q = some (n, r)) (h2 : runS (tP 32) n r = some (ts, r2)) (h3 : rising ts = true) : rU q = some (ts, r2) := by unfold rU; rw [h]; simp [h2, h3]
theorem tP_left {most : Nat} {q s r : List Nat} (h : tP most q = some (s, r)) : r.length ≤ q.length ∧ (∀ x ∈ s, x ∈ q) ∧ s.length ≤ most := by
  obtain ⟨n, q', h1, h2, rfl, rfl⟩ := tP_some h
  obtain ⟨-, -, m, -, hm, -⟩ := grp_lt _ _ _ _ (uP_some h1).1
  subst hm
  refine ⟨by rw [List.length_drop, List.length_drop]; omega, fun x hx => List.mem_of_mem_drop (List.mem_of_mem_take hx), by have := (uP_some h1).2; rw [List.length_take]; omega⟩
end Col
theorem lss_t (s t : List Nat) (b : Bool) (h : tls s t = b) (w : World) : (binOp .lss 9 (.string (strB s)) (.string (strB t))).run Tryd.prog w = .ok (.bool b) w := by
  subst h; rw [binOp_string_lss]; rfl
theorem ix_str (g off m c k : Nat) (h : k < m) (w : World) : (Instr.indexAt 48 (.slice (some ⟨g, off, none⟩) m c) (.int .i64 (k : Int))).run Tryd.prog w = .ok (.pointer (some ⟨g, off + k, none⟩)) w := by
  have h1 : (k : Int) < (m : Int) := by omega
  first | (go_simp; done) | (go_simp; intro h; exfalso; omega)
theorem yb_ixt {ops : Array Oper} {S : World → Prop} {op : Oper} {a : Act} (hw : Region.wanted op (yielded ops a.tmps) = true) (x y : Operand) (ho : op.op = .indexAddr 48 x y) (g off m c k : Nat) (hx : a.eval x = .slice (some ⟨g, off, none⟩) m c) (hy : a.eval y = .int .i64 (k : Int)) (h : k < m) : YieldsIf Tryd.prog ops S op (.pointer (some ⟨g, off + k, none⟩)) a :=
  .inl ⟨hw, fun w _ => by
    unfold execOp
    simp only [ho, hx, hy, Sem.run_bind, Sem.run_pure, Result.andThen_ok, ix_str g off m c k h w]⟩
theorem lv_t (w : World) (g j : Nat) (v : Value) (h : w.cell? ⟨g, j, none⟩ = some v) : (loadVar 9 ⟨g, j, none⟩).run Tryd.prog w = .ok v w := by
  go_simp
theorem yb_ldt {ops : Array Oper} {S : World → Prop} {op : Oper} {a : Act} (hw : Region.wanted op (yielded ops a.tmps) = true) (x : Operand) (ho : op.op = .load 9 x) (g j : Nat) (hx : a.eval x = .pointer (some ⟨g, j, none⟩)) (v : Value)
    (hS : ∀ w, S w → w.cell? ⟨g, j, none⟩ = some v) : YieldsIf Tryd.prog ops S op v a :=
  .inl ⟨hw, fun w hw' => by
    unfold execOp
    simp only [ho, hx, Instr.loadAt, Instr.sureAddr, Sem.run_bind, Sem.run_pure, Result.andThen_ok, lv_t w g j v (hS w hw')]⟩
/-- What readUnlike's function stands on. -/
structure US (g bx : Nat) (q : List Nat) (w : World) : Prop where
  rd : RdM g q w
  box : w.heap[bx]? = some (.cells #[.pointer (some ⟨g, 0, none⟩)] 40 (0, 0))
  n2 : g < bx
theorem US.keep {g bx : Nat} {q : List Nat} {w w' : World} {S : Nat → Prop} (h : US g bx q w) (hk : Kept S w w') (hS : ∀ k, S k → w.heap.size ≤ k ∨ (g < k ∧ k ≠ bx)) : US g bx q w' := by
  have hg := h.rd.1.glt
  have hb := (Array.getElem?_eq_some_iff.1 h.box).1
  exact ⟨⟨h.rd.1.high hk fun k hs => by have := hS k hs; omega, h.rd.2⟩, hk.heap h.box fun e => by have := hS _ e; omega, h.n2⟩
theorem US.cb {g bx : Nat} {q : List Nat} {w : World} (h : US g bx q w) : w.cell? ⟨bx, 0, none⟩ = some (.pointer (some ⟨g, 0, none⟩)) := by rw [cell_of_row _ _ _ _ _ _ h.box]; rfl
theorem US.blt {g bx : Nat} {q : List Nat} {w : World} (h : US g bx q w) : bx < w.heap.size := (Array.getElem?_eq_some_iff.1 h.box).1
set_option maxHeartbeats 1000000 in
theorem unlike_step (g bx : Nat) (q : List Nat) (w : World) (H : Hid (US g bx q w)) :
    Calls Tryd.prog 88 #[.pointer (some ⟨bx, 0, none⟩)] w (StepEndsT g (Only g) (US g bx) (tP 32 q) w) := by
  have cb := H.out.cb
  rcases hz : tP 32 q with _ | ⟨s, r⟩
  · have HT : Hid (Calls Tryd.prog 48 #[.pointer (some ⟨g, 0, none⟩), .int .i64 32] w (No g w)) := Lib.hid (text_no g 32 (by decide) q (Lib.hid hz) q.length (Lib.hid rfl) H.out.rd.2 w (Lib.hid H.out.rd.1))
    go_enter Tryd.func88, Tryd.ntmps88
    go_wp2_with (go_at_call 48; (with_reducible refine (HT.out).mono ?_); rintro e w2 ⟨rfl, h1, h2⟩)
    exact ⟨rfl, rfl, h1, h2⟩
  · have HT : Hid (Calls Tryd.prog 48 #[.pointer (some ⟨g, 0, none⟩), .int .i64 32] w (Yes g w (.string (strB s)) r)) := Lib.hid (text_yes g 32 (by decide) q s r (Lib.hid hz) (by have := H.out.rd.2; omega) w (Lib.hid H.out.rd.1))
    have HW : Hid (WfT s) := Lib.hid fun c hc => H.out.rd.1.lt c ((tP_left hz).2.1 c hc)
    have HL := Lib.hid (Nat.le_trans (tP_left hz).1 H.out.rd.2)
    have HNB : Hid (¬ Only g bx) := Lib.hid (fun e => by have e : bx = g := e; have := H.out.n2; omega)
    clear hz
    go_enter Tryd.func88, Tryd.ntmps88
    go_wp2_with (go_at_call 48; (with_reducible refine (HT.out).mono ?_); rintro e w2 hy; obtain ⟨rfl, HR2, HK2⟩ := Yes.rd hy; clear hy)
    go_ret
    exact ⟨rfl, HW.out, ⟨⟨HR2.out, HL.out⟩, HK2.out.heap H.out.box HNB.out, H.out.n2⟩, HK2.out⟩
def RUl (g bx n : Nat) (A : Option Addr) (cap : Nat) (l : List (List Nat)) (r : List Nat) (w : World) (v : Value) (wr : World) : Prop :=
  ∃ i : Nat, 1 ≤ i ∧ (i ≤ n ∨ i = 1) ∧ v = .int .i64 (i : Int) ∧ (∀ (j : Nat) (s t : List Nat), j + 1 < i → l[j]? = some s → l[j + 1]? = some t → tls s t = true) ∧ US g bx r wr ∧ OwnX wr w.heap.size A n cap l ∧ Kept (Only g) w wr
theorem OwnX.more {w : World} {B n cap : Nat} {A : Option Addr} {l : List (List Nat)} {B' : Nat} (h : OwnX w B A n cap l) (hB : B' ≤ B) : OwnX w B' A n cap l := by
  refine ⟨⟨h.1.1, ?_⟩, h.2⟩
  rcases h.1.2 with h1 | ⟨g, cap', cur, h1, hb, h2⟩
  · exact .inl h1
  · exact .inr ⟨g, cap', cur, h1, Nat.le_trans hB hb, h2⟩
theorem check_any (g C : Nat) (A : Option Addr) (q : List Nat) (b : Bool) (w : World) (H : Hid (RdA w g A C q)) :
    Calls Tryd.prog 34 #[.pointer (some ⟨g, 0, none⟩), .bool b] w fun e w' => if b = true then e = .returned (.tuple #[]) ∧ w = w' else e = .panicked [gu g] ∧ Gone w' g ∧ Kept (Only g) w w' := by
  cases b
  · exact check_false g C A q w H
  · exact check_true _ w
/-- How readUnlike ends. -/
def UnlEnds (g : Nat) (o : Option (List (List Nat) × List Nat)) (w : World) (e : Ending) (w' : World) : Prop := match o with
  | some p => (∃ A n cap, e = .returned (.slice A n cap) ∧ OwnX w' w.heap.size A n cap p.1) ∧ RdM g p.2 w' ∧ Kept (Only g) w w'
  | none => e = .panicked [gu g] ∧ Gone w' g ∧ Kept (Only g) w w'
set_option maxHeartbeats 4000000 in
theorem readUnlike_any (g : Nat) (q : List Nat) (w : World) (H : Hid (RdM g q w)) :
    Calls Tryd.prog 75 #[.pointer (some ⟨g, 0, none⟩)] w (UnlEnds g (rU q) w) := by
  obtain ⟨bx, w1, hbx, hw1, hrow1, hb1, hbx1⟩ := alloc_pt w (.pointer (some ⟨g, 0, none⟩)) 40
  have HU1 : Hid (US g bx q w1) := Lib.hid ⟨⟨H.out.1.high (S := fun _ => False) (Kept.of_below hb1) fun k hk => hk.elim, H.out.2⟩, hrow1, by rw [hbx]; exact H.out.1.glt⟩
  have HK1 : Hid (Kept (Only g) w w1) := Lib.hid (Kept.of_below hb1)
  have HBX := Lib.hid hbx
  have hc1 := HU1.out.cb
  rcases hu : uP 4096 q with _ | ⟨n, r⟩
  · have HN := Lib.hid (rU_no1 hu)
    have HU : Hid (Calls Tryd.prog 66 #[.pointer (some ⟨g, 0, none⟩), .int .u64 4096] w1 (No g w1)) := Lib.hid (uint_no g 4096 q (Lib.hid hu) q.length (Lib.hid rfl) H.out.2 w1 (Lib.hid HU1.out.rd.1))
    rw [HN.out]
    clear hu
    go_enter Tryd.func75, Tryd.ntmps75
    go_upto_region 1 with fail
    rw [← hw1, ← hbx]
    clear hw1 hbx hrow1 hb1 hbx1
    go_wp2_with (go_at_call 66; (with_reducible refine (HU.out).mono ?_); rintro e w2 ⟨rfl, h1, h2⟩)
    exact ⟨rfl, rfl, h1, HK1.out.trans h2⟩
  · have HU : Hid (Calls Tryd.prog 66 #[.pointer (some ⟨g, 0, none⟩), .int .u64 4096] w1 (Yes g w1 (.int .u64 (n : Int)) r)) := Lib.hid (uint_yes g 4096 n q r (Lib.hid hu) (by have := H.out.2; omega) w1 (Lib.hid HU1.out.rd.1))
    have hn : n ≤ 4096 := (uP_some hu).2
    have hni : IntKind.i64.wrap (n : Int) = (n : Int) := by rw [IntKind.wrap_i64]; omega
    have HUP := Lib.hid hu
    have HRL : Hid (r.length ≤ 1099511627776) := Lib.hid (by
      obtain ⟨-, -, m, -, hm, -⟩ := grp_lt _ _ _ _ (uP_some hu).1
      have := H.out.2; rw [hm, List.length_drop]; omega)
    clear hu
    go_enter Tryd.func75, Tryd.ntmps75
    go_upto_region 1 with fail
    rw [← hw1, ← hbx]
    clear hw1 hbx hrow1 hb1 hbx1
    go_upto_region 2 with (go_at_call 66; (with_reducible refine (HU.out).mono ?_); rintro e w2 hy; obtain ⟨rfl, HR2, HK2⟩ := Yes.rd hy; clear hy)
    have HNB : Hid (¬ Only g bx) := Lib.hid (fun e => by have e : bx = g := e; have := HU1.out.n2; omega)
    have HU2 : Hid (US g bx r w2) := Lib.hid ⟨⟨HR2.out, HRL.out⟩, HK2.out.heap HU1.out.box HNB.out, HU1.out.n2⟩
    have ht := timesT_any (tP 32) 88 #[] #[.pointer (some ⟨bx, 0, none⟩)] (fun _ _ => by first | rfl | kernel_rfl) n hn g (Only g) (US g bx) w2
      (Lib.hid fun k hk => by have hk : k = g := hk; subst hk; exact HU2.out.rd.1.glt)
      (Lib.hid fun s w1 w3 h hk => by
        refine h.keep hk fun k hk => ?_
        have := HU2.out.blt; have := HU2.out.n2
        omega)
      r (Lib.hid fun k xs s w1 _ _ h _ => unlike_step g bx s w1 (Lib.hid h)) HU2
    have HT := Lib.hid ht
    have HKA := Lib.hid (HK1.out.trans HK2.out)
    clear ht hc1
    rcases hr : runS (tP 32) n r with _ | ⟨l, r2⟩
    · have HN := Lib.hid (rU_no2 HUP.out hr)
      rw [hr] at HT
      rw [HN.out]
      clear hr
      go_wp2_with (go_at_call 87; (with_reducible refine (HT.out).mono ?_); rintro e w3 ⟨rfl, h1, h2⟩)
      exact ⟨rfl, rfl, h1, HKA.out.trans h2⟩
    · have HRUN := Lib.hid hr
      have HLN := Lib.hid (runS_len hr)
      rw [hr] at HT
      clear hr
      go_upto_region 3 with (go_at_call 87; (with_reducible refine (HT.out).mono ?_); rintro e w3 ⟨⟨A, m, cap, rfl, ho⟩, h1, h2⟩; obtain rfl : m = n := (by have h9 : m = l.length := ho.len; have := HLN.out; omega); have HOW := Lib.hid (ho.more (B' := w.heap.size) HKA.out.size); have HUS := Lib.hid h1; have HK3 := Lib.hid (HKA.out.trans h2); clear ho h1 h2)
      have HST : Hid (RUl g bx m A cap l r2 w (.int .i64 1) w3) := Lib.hid ⟨1, Nat.le_refl _, .inr rfl, rfl, fun j s t h => by omega, HUS.out, HOW.out, HK3.out⟩
      obtain ⟨n, hnm⟩ : ∃ n, n = m := ⟨_, rfl⟩
      subst hnm
      clear HOW HUS HK3
      go_wp2
      go_loopw [5] (fun v wr => RUl g bx n A cap l r2 w v wr) (fun v _ => n - (intOf v).toNat)
      case atStart => exact HST.out
      case round =>
        obtain ⟨i, hi1, hi2, rfl, hris, hus, how, hk⟩ := hrel
        have HU3 := Lib.hid hus; have HOW := Lib.hid how; have HK4 := Lib.hid hk; have HRIS := Lib.hid hris
        clear hus how hk hris HST
        by_cases hin : i < n
        · obtain ⟨j, hj⟩ : ∃ j, i = j + 1 := ⟨i - 1, by omega⟩
          have hll : l.length = n := HLN.out
          obtain ⟨s, hs⟩ : ∃ s, l[j]? = some s := ⟨_, List.getElem?_eq_getElem (by omega)⟩
          obtain ⟨t, ht⟩ : ∃ t, l[i]? = some t := ⟨_, List.getElem?_eq_getElem (by omega)⟩
          obtain ⟨g2, off, rfl, hg2, hcell⟩ := HOW.out.isAt.spot (by omega)
          have HCS := Lib.hid (hcell j s hs); have HCT := Lib.hid (hcell i t ht); have HG2 := Lib.hid hg2
          have HS := Lib.hid hs; have HTT := Lib.hid ht; have HJ := Lib.hid hj
          have HJN : Hid (j < n) := Lib.hid (by omega)
          have HSUB : Hid (∀ w9 : World, (binOp .sub 3 (.int .i64 (i : Int)) (.int .i64 1)).run Tryd.prog w9 = .ok (.int .i64 (j : Int)) w9) := Lib.hid fun w9 => by
            have := b_subN i 1 (by omega) (by omega) w9
            rw [show i - 1 = j by omega] at this; exact this
          clear hs ht hcell hg2 hj hll
          rcases hls : tls s t with _ | _
          · have HLS := Lib.hid hls
            have HN : Hid (rU q = none) := Lib.hid (rU_no3 HUP.out HRUN.out (by
              rcases hr : rising l with _ | _
              · rfl
              · have := rising_get hr j s t HS.out (HJ.out ▸ HTT.out)
                rw [HLS.out] at this; cases this))
            rw [HN.out]
            clear hls
            go_upto_region 6 with fail
            have hh0 : Below wr.heap.size wr wr.drew := (Below.refl _ _).drew
            refine wp_region_held_drew (S := fun w2 => Below wr.heap.size wr w2) (by kernel_rfl) hh0 (fun hHeld => ?_)
            refine wpAnyH_take (i := 0) (v := .pointer (some ⟨g, 0, none⟩)) rfl (by kernel_rfl) (by kernel_rfl) (by kernel_rfl) (fun _ _ _ h => h) (Or.inl ⟨by rfl, fun w hw => by have hc : w.cell? ⟨bx, 0, none⟩ = some (.pointer (some ⟨g, 0, none⟩)) := (hw.cell (p := ⟨bx, 0, none⟩) HU3.out.blt).trans HU3.out.cb; go_simp⟩) hHeld ?_
            try dsimp only
            try simp only [Act.put, List.getElem_toArray, List.getElem_cons_zero, List.getElem_cons_succ, List.setIfInBounds_toArray, List.set_cons_zero, List.set_cons_succ]
            refine wpAnyH_take (i := 1) (v := .slice (some ⟨g2, off, none⟩) n cap) rfl (by kernel_rfl) (by kernel_rfl) (by kernel_rfl) (fun _ _ _ h => h) (Or.inl ⟨by rfl, fun _ _ => rfl⟩) hHeld ?_
            try dsimp only
            try simp only [Act.put, List.getElem_toArray, List.getElem_cons_zero, List.getElem_cons_succ, List.setIfInBounds_toArray, List.set_cons_zero, List.set_cons_succ]
            refine wpAnyH_take (i := 2) (v := .int .i64 (i : Int)) rfl (by kernel_rfl) (by kernel_rfl) (by kernel_rfl) (fun _ _ _ h => h) (Or.inl ⟨by rfl, fun _ _ => rfl⟩) hHeld ?_
            try dsimp only
            try simp only [Act.put, List.getElem_toArray, List.getElem_cons_zero, List.getElem_cons_succ, List.setIfInBounds_toArray, List.set_cons_zero, List.set_cons_succ]
            refine wpAnyH_take (i := 3) (v := .int .i64 (j : Int)) rfl (by kernel_rfl) (by kernel_rfl) (by kernel_rfl) (fun _ _ _ h => h) (yb_bin rfl .sub 3 3 (.tmp 19) (.const (.int .i64 1)) rfl _ _ _ rfl rfl (fun _ => rfl) HSUB.out) hHeld ?_
            try dsimp only
            try simp only [Act.put, List.getElem_toArray, List.getElem_cons_zero, List.getElem_cons_succ, List.setIfInBounds_toArray, List.set_cons_zero, List.set_cons_succ]
            refine wpAnyH_take (i := 4) (v := .pointer (some ⟨g2, off + j, none⟩)) rfl (by kernel_rfl) (by kernel_rfl) (by kernel_rfl) (fun _ _ _ h => h) (yb_ixt rfl (.tmp 18) (.tmp 20) rfl g2 off n cap j rfl rfl HJN.out) hHeld ?_
            try dsimp only
            try simp only [Act.put, List.getElem_toArray, List.getElem_cons_zero, List.getElem_cons_succ, List.setIfInBounds_toArray, List.set_cons_zero, List.set_cons_succ]
            refine wpAnyH_take (i := 5) (v := .string (strB s)) rfl (by kernel_rfl) (by kernel_rfl) (by kernel_rfl) (fun _ _ _ h => h) (yb_ldt rfl (.tmp 21) rfl g2 (off + j) rfl _ (fun w hw => (hw.cell (p := ⟨g2, off + j, none⟩) HG2.out).trans HCS.out)) hHeld ?_
            try dsimp only
            try simp only [Act.put, List.getElem_toArray, List.getElem_cons_zero, List.getElem_cons_succ, List.setIfInBounds_toArray, List.set_cons_zero, List.set_cons_succ]
            refine wpAnyH_take (i := 6) (v := .slice (some ⟨g2, off, none⟩) n cap) rfl (by kernel_rfl) (by kernel_rfl) (by kernel_rfl) (fun _ _ _ h => h) (Or.inl ⟨by rfl, fun _ _ => rfl⟩) hHeld ?_
            try dsimp only
            try simp only [Act.put, List.getElem_toArray, List.getElem_cons_zero, List.getElem_cons_succ, List.setIfInBounds_toArray, List.set_cons_zero, List.set_cons_succ]
            refine wpAnyH_take (i := 7) (v := .int .i64 (i : Int)) rfl (by kernel_rfl) (by kernel_rfl) (by kernel_rfl) (fun _ _ _ h => h) (Or.inl ⟨by rfl, fun _ _ => rfl⟩) hHeld ?_
            try dsimp only
            try simp only [Act.put, List.getElem_toArray, List.getElem_cons_zero, List.getElem_cons_succ, List.setIfInBounds_toArray, List.set_cons_zero, List.set_cons_succ]
            refine wpAnyH_take (i := 8) (v := .pointer (some ⟨g2, off + i, none⟩)) rfl (by kernel_rfl) (by kernel_rfl) (by kernel_rfl) (fun _ _ _ h => h) (yb_ixt rfl (.tmp 23) (.tmp 24) rfl g2 off n cap i rfl rfl hin) hHeld ?_
            try dsimp only
            try simp only [Act.put, List.getElem_toArray, List.getElem_cons_zero, List.getElem_cons_succ, List.setIfInBounds_toArray, List.set_cons_zero, List.set_cons_succ]
            refine wpAnyH_take (i := 9) (v := .string (strB t)) rfl (by kernel_rfl) (by kernel_rfl) (by kernel_rfl) (fun _ _ _ h => h) (yb_ldt rfl (.tmp 25) rfl g2 (off + i) rfl _ (fun w hw => (hw.cell (p := ⟨g2, off + i, none⟩) HG2.out).trans HCT.out)) hHeld ?_
            try dsimp only
            try simp only [Act.put, List.getElem_toArray, List.getElem_cons_zero, List.getElem_cons_succ, List.setIfInBounds_toArray, List.set_cons_zero, List.set_cons_succ]
            refine wpAnyH_take (i := 10) (v := .bool false) rfl (by kernel_rfl) (by kernel_rfl) (by kernel_rfl) (fun _ _ _ h => h) (yb_bin rfl .lss 9 9 (.tmp 22) (.tmp 26) rfl _ _ _ rfl rfl (fun _ => rfl) (lss_t s t false HLS.out)) hHeld ?_
            try dsimp only
            try simp only [Act.put, List.getElem_toArray, List.getElem_cons_zero, List.getElem_cons_succ, List.setIfInBounds_toArray, List.set_cons_zero, List.set_cons_succ]
            refine wpAnyH_ready (rs := [11]) (by kernel_rfl) (by simp) (AllReadyH.cons rfl (fun K hK => ?_) AllReadyH.nil)
            go_simp
            obtain ⟨A9, C9, hRA⟩ := HU3.out.rd.1
            refine (check_false g C9 A9 r2 _ (Lib.hid (hRA.drewN 1))).mono ?_
            rintro e w5 ⟨rfl, h1, h2⟩
            exact ⟨rfl, rfl, h1, HK4.out.drew.trans h2⟩
          · have HLS := Lib.hid hls
            clear hls
            go_upto_region 6 with fail
            have hh0 : Below wr.heap.size wr wr.drew := (Below.refl _ _).drew
            refine wp_region_held_drew (S := fun w2 => Below wr.heap.size wr w2) (by kernel_rfl) hh0 (fun hHeld => ?_)
            refine wpAnyH_take (i := 0) (v := .pointer (some ⟨g, 0, none⟩)) rfl (by kernel_rfl) (by kernel_rfl) (by kernel_rfl) (fun _ _ _ h => h) (Or.inl ⟨by rfl, fun w hw => by have hc : w.cell? ⟨bx, 0, none⟩ = some (.pointer (some ⟨g, 0, none⟩)) := (hw.cell (p := ⟨bx, 0, none⟩) HU3.out.blt).trans HU3.out.cb; go_simp⟩) hHeld ?_
            try dsimp only
            try simp only [Act.put, List.getElem_toArray, List.getElem_cons_zero, List.getElem_cons_succ, List.setIfInBounds_toArray, List.set_cons_zero, List.set_cons_succ]
            refine wpAnyH_take (i := 1) (v := .slice (some ⟨g2, off, none⟩) n cap) rfl (by kernel_rfl) (by kernel_rfl) (by kernel_rfl) (fun _ _ _ h => h) (Or.inl ⟨by rfl, fun _ _ => rfl⟩) hHeld ?_
            try dsimp only
            try simp only [Act.put, List.getElem_toArray, List.getElem_cons_zero, List.getElem_cons_succ, List.setIfInBounds_toArray, List.set_cons_zero, List.set_cons_succ]
            refine wpAnyH_take (i := 2) (v := .int .i64 (i : Int)) rfl (by kernel_rfl) (by kernel_rfl) (by kernel_rfl) (fun _ _ _ h => h) (Or.inl ⟨by rfl, fun _ _ => rfl⟩) hHeld ?_
            try dsimp only
            try simp only [Act.put, List.getElem_toArray, List.getElem_cons_zero, List.getElem_cons_succ, List.setIfInBounds_toArray, List.set_cons_zero, List.set_cons_succ]
            refine wpAnyH_take (i := 3) (v := .int .i64 (j : Int)) rfl (by kernel_rfl) (by kernel_rfl) (by kernel_rfl) (fun _ _ _ h => h) (yb_bin rfl .sub 3 3 (.tmp 19) (.const (.int .i64 1)) rfl _ _ _ rfl rfl (fun _ => rfl) HSUB.out) hHeld ?_
            try dsimp only
            try simp only [Act.put, List.getElem_toArray, List.getElem_cons_zero, List.getElem_cons_succ, List.setIfInBounds_toArray, List.set_cons_zero, List.set_cons_succ]
            refine wpAnyH_take (i := 4) (v := .pointer (some ⟨g2, off + j, none⟩)) rfl (by kernel_rfl) (by kernel_rfl) (by kernel_rfl) (fun _ _ _ h => h) (yb_ixt rfl (.tmp 18) (.tmp 20) rfl g2 off n cap j rfl rfl HJN.out) hHeld ?_
            try dsimp only
            try simp only [Act.put, List.getElem_toArray, List.getElem_cons_zero, List.getElem_cons_succ, List.setIfInBounds_toArray, List.set_cons_zero, List.set_cons_succ]
            refine wpAnyH_take (i := 5) (v := .string (strB s)) rfl (by kernel_rfl) (by kernel_rfl) (by kernel_rfl) (fun _ _ _ h => h) (yb_ldt rfl (.tmp 21) rfl g2 (off + j) rfl _ (fun w hw => (hw.cell (p := ⟨g2, off + j, none⟩) HG2.out).trans HCS.out)) hHeld ?_
            try dsimp only
            try simp only [Act.put, List.getElem_toArray, List.getElem_cons_zero, List.getElem_cons_succ, List.setIfInBounds_toArray, List.set_cons_zero, List.set_cons_succ]
            refine wpAnyH_take (i := 6) (v := .slice (some ⟨g2, off, none⟩) n cap) rfl (by kernel_rfl) (by kernel_rfl) (by kernel_rfl) (fun _ _ _ h => h) (Or.inl ⟨by rfl, fun _ _ => rfl⟩) hHeld ?_
            try dsimp only
            try simp only [Act.put, List.getElem_toArray, List.getElem_cons_zero, List.getElem_cons_succ, List.setIfInBounds_toArray, List.set_cons_zero, List.set_cons_succ]
            refine wpAnyH_take (i := 7) (v := .int .i64 (i : Int)) rfl (by kernel_rfl) (by kernel_rfl) (by kernel_rfl) (fun _ _ _ h => h) (Or.inl ⟨by rfl, fun _ _ => rfl⟩) hHeld ?_
            try dsimp only
            try simp only [Act.put, List.getElem_toArray, List.getElem_cons_zero, List.getElem_cons_succ, List.setIfInBounds_toArray, List.set_cons_zero, List.set_cons_succ]
            refine wpAnyH_take (i := 8) (v := .pointer (some ⟨g2, off + i, none⟩)) rfl (by kernel_rfl) (by kernel_rfl) (by kernel_rfl) (fun _ _ _ h => h) (yb_ixt rfl (.tmp 23) (.tmp 24) rfl g2 off n cap i rfl rfl hin) hHeld ?_
            try dsimp only
            try simp only [Act.put, List.getElem_toArray, List.getElem_cons_zero, List.getElem_cons_succ, List.setIfInBounds_toArray, List.set_cons_zero, List.set_cons_succ]
            refine wpAnyH_take (i := 9) (v := .string (strB t)) rfl (by kernel_rfl) (by kernel_rfl) (by kernel_rfl) (fun _ _ _ h => h) (yb_ldt rfl (.tmp 25) rfl g2 (off + i) rfl _ (fun w hw => (hw.cell (p := ⟨g2, off + i, none⟩) HG2.out).trans HCT.out)) hHeld ?_
            try dsimp only
            try simp only [Act.put, List.getElem_toArray, List.getElem_cons_zero, List.getElem_cons_succ, List.setIfInBounds_toArray, List.set_cons_zero, List.set_cons_succ]
            refine wpAnyH_take (i := 10) (v := .bool true) rfl (by kernel_rfl) (by kernel_rfl) (by kernel_rfl) (fun _ _ _ h => h) (yb_bin rfl .lss 9 9 (.tmp 22) (.tmp 26) rfl _ _ _ rfl rfl (fun _ => rfl) (lss_t s t true HLS.out)) hHeld ?_
            try dsimp only
            try simp only [Act.put, List.getElem_toArray, List.getElem_cons_zero, List.getElem_cons_succ, List.setIfInBounds_toArray, List.set_cons_zero, List.set_cons_succ]
            refine wpAnyH_ready (rs := [11]) (by kernel_rfl) (by simp) (AllReadyH.cons rfl (fun K hK => ?_) AllReadyH.nil)
            go_simp
            refine (check_true _ _).mono ?_
            rintro e w5 ⟨rfl, rfl⟩
            refine hK.out _ _ hHeld (fun hHeld => ?_)
            clear hK K
            refine wpAnyH_done (by kernel_rfl) ?_ _
            clear hHeld hh0
            have HU4 : Hid (US g bx r2 wr.drew) := Lib.hid (HU3.out.keep (S := fun _ => False) ((Kept.refl _ _).drew) fun k hk => hk.elim)
            have HOW4 := Lib.hid (HOW.out.keep ((Below.refl wr.heap.size wr).drew))
            go_wp2
            go_roundw
            case rel => exact ⟨i + 1, by omega, .inl (by omega), by go_num, fun j2 s2 t2 h1 h2 h3 => by
              by_cases e : j2 + 1 = i
              · have e2 : j2 = j := by have := HJ.out; omega
                subst e2
                rw [HS.out] at h2; injection h2 with h2; subst h2
                rw [e, HTT.out] at h3; injection h3 with h3; subst h3
                exact HLS.out
              · exact HRIS.out j2 s2 t2 (by omega) h2 h3, HU4.out, HOW4.out, HK4.out.drew⟩
            case measure => simp [intOf]; omega
        · have HN : Hid (rU q = some (l, r2)) := Lib.hid (rU_yes HUP.out HRUN.out (rising_of fun j s t h1 h2 => HRIS.out j s t (by
            have h3 := (List.getElem?_eq_some_iff.1 h2).1
            have := HLN.out; omega) h1 h2))
          go_wp2
          go_ret
          rw [HN.out]
          exact ⟨⟨A, n, cap, rfl, HOW.out⟩, HU3.out.rd, HK4.out⟩
end Go.Proofs.YtpobfgokikfmbaaDoor

set_option linter.unusedSimpArgs false
set_option linter.unusedVariables false
set_option maxRecDepth 8000
namespace Go.Proofs.YtpobfgokikfmbaaDoor
open Go.RowKit Go.WideShapes Col

theorem tls_dec (s t : List Nat) : tls s t = decide ((strB s).toList < (strB t).toList) := bytesLess_eq _ _
theorem tls_irr (s : List Nat) : tls s s = false := by rw [tls_dec, decide_eq_false_iff_not]; exact List.lt_irrefl _
theorem tls_tr {s t u : List Nat} (h1 : tls s t = true) (h2 : tls t u = true) : tls s u = true := by
  rw [tls_dec, decide_eq_true_eq] at h1 h2 ⊢
  exact List.lt_trans h1 h2
theorem tls_asy {s t : List Nat} (h : tls s t = true) : tls t s = false := by
  rcases h2 : tls t s with _ | _
  · rfl
  · have := tls_tr h h2; rw [tls_irr] at this; cases this
theorem tls_tot {s t : List Nat} (hs : WfT s) (ht : WfT t) (h1 : tls s t = false) (h2 : tls t s = false) : s = t := by
  rw [tls_dec, decide_eq_false_iff_not] at h1 h2
  have e : (strB s).toList = (strB t).toList := List.le_antisymm (List.not_lt.1 h2) (List.not_lt.1 h1)
  refine strB_inj hs ht ?_
  rw [Lib.toList_data, Lib.toList_data] at e
  exact ByteArray.ext (Array.ext' e)
/-- Texts that rise. -/
def Rise (l : List (List Nat)) : Prop := l.Pairwise fun s t => tls s t = true
theorem rise_ext {l m : List (List Nat)} (hl : Rise l) (hm : Rise m) (h : ∀ y, y ∈ l ↔ y ∈ m) : l = m := by
  induction l generalizing m with
  | nil =>
    rcases m with _ | ⟨b, m⟩
    · rfl
    · have := (h b).2 (by simp); cases this
  | cons a l ih =>
    rcases m with _ | ⟨b, m⟩
    · have := (h a).1 (by simp); cases this
    · rw [Rise, List.pairwise_cons] at hl hm
      have hab : a = b := by
        rcases List.mem_cons.1 ((h a).1 (by simp)) with e | e
        · exact e
        · rcases List.mem_cons.1 ((h b).2 (by simp)) with e2 | e2
          · exact e2.symm
          · have h1 := hm.1 a e; have h2 := hl.1 b e2
            have := tls_tr h1 h2; rw [tls_irr] at this; cases this
      subst hab
      rw [ih hl.2 hm.2 fun y => ?_]
      constructor
      · intro hy
        rcases List.mem_cons.1 ((h y).1 (by simp [hy])) with e | e
        · subst e; have := hl.1 y hy; rw [tls_irr] at this; cases this
        · exact e
      · intro hy
        rcases List.mem_cons.1 ((h y).2 (by simp [hy])) with e | e
        · subst e; have := hm.1 y hy; rw [tls_irr] at this; cases this
        · exact e
/-- A text put into its place among texts that rise. -/
def insU (x : List Nat) (all : List (List Nat)) : List (List Nat) := all.filter (fun a => tls a x) ++ x :: all.filter (fun a => tls x a)
theorem insU_rise {x : List Nat} {all : List (List Nat)} (h : Rise all) : Rise (insU x all) := by
  unfold insU
  refine List.pairwise_append.2 ⟨h.filter _, List.pairwise_cons.2 ⟨fun a ha => (List.mem_filter.1 ha).2, h.filter _⟩, fun a ha b hb => ?_⟩
  have h1 := (List.mem_filter.1 ha).2
  rcases List.mem_cons.1 hb with e | e
  · subst e; exact h1
  · exact tls_tr h1 (List.mem_filter.1 e).2
theorem insU_mem {x y : List Nat} {all : List (List Nat)} (hx : WfT x) (hw : ∀ a ∈ all, WfT a) : y ∈ insU x all ↔ y = x ∨ y ∈ all := by
  unfold insU
  rw [List.mem_append, List.mem_cons, List.mem_filter, List.mem_filter]
  constructor
  · rintro (h | h | h)
    · exact .inr h.1
    · exact .inl h
    · exact .inr h.1
  · rintro (h | h)
    · exact .inr (.inl h)
    · rcases h1 : tls y x with _ | _
      · rcases h2 : tls x y with _ | _
        · exact .inr (.inl (tls_tot (hw y h) hx h1 h2))
        · exact .inr (.inr ⟨h, rfl⟩)
      · exact .inl ⟨h, rfl⟩
theorem snoc_ind {α : Type} {Q : List α → Prop} (nil : Q []) (append_singleton : ∀ (l : List α) (x : α), Q l → Q (l ++ [x])) (l : List α) : Q l := by
  have h : ∀ m : List α, Q m.reverse := by
    intro m
    induction m with
    | nil => exact nil
    | cons a r ih => rw [List.reverse_cons]; exact append_singleton _ a ih
  have := h l.reverse
  rwa [List.reverse_reverse] at this
/-- The texts that there are, rising, each once. -/
def uqL (l : List (List Nat)) : List (List Nat) := l.foldl (fun all x => insU x all) []
theorem uqL_snoc (l : List (List Nat)) (x : List Nat) : uqL (l ++ [x]) = insU x (uqL l) := by unfold uqL; rw [List.foldl_append]; rfl
theorem uqL_facts (l : List (List Nat)) (hw : ∀ x ∈ l, WfT x) : Rise (uqL l) ∧ (∀ y, y ∈ uqL l ↔ y ∈ l) := by
  induction l using snoc_ind with
  | nil => exact ⟨List.Pairwise.nil, fun y => Iff.rfl⟩
  | append_singleton l x ih =>
    obtain ⟨h1, h2⟩ := ih fun y hy => hw y (by simp [hy])
    rw [uqL_snoc]
    refine ⟨insU_rise h1, fun y => ?_⟩
    rw [insU_mem (hw x (by simp)) (fun a ha => hw a (by simp [(h2 a).1 ha])), List.mem_append, List.mem_singleton, h2]
    constructor <;> (rintro (h | h) <;> simp [h])
theorem uqL_wf {l : List (List Nat)} (hw : ∀ x ∈ l, WfT x) : ∀ x ∈ uqL l, WfT x := fun x hx => hw x (((uqL_facts l hw).2 x).1 hx)
theorem uqL_len (l : List (List Nat)) : (uqL l).length ≤ l.length := by
  induction l using snoc_ind with
  | nil => exact Nat.le_refl _
  | append_singleton l x ih =>
    rw [uqL_snoc, List.length_append, List.length_singleton]
    unfold insU
    rw [List.length_append, List.length_cons]
    have : ((uqL l).filter (fun a => tls a x)).length + ((uqL l).filter (fun a => tls x a)).length ≤ (uqL l).length := by
      generalize uqL l = m
      induction m with
      | nil => exact Nat.le_refl _
      | cons a m ih2 =>
        rw [List.filter_cons, List.filter_cons]
        rcases h1 : tls a x with _ | _
        · rcases h2 : tls x a with _ | _ <;> simp <;> omega
        · rw [tls_asy h1]; simp; omega
    omega
/-- How far the first k of the texts that rise have been gone through, to put one in. -/
def insK (x : List Nat) (all : List (List Nat)) (k : Nat) : List (List Nat) × Bool :=
  let m := all.take k
  let d := m.any fun a => !tls a x
  (m.filter (fun a => tls a x) ++ ((if d then [x] else []) ++ m.filter (fun a => tls x a)), d)
theorem insK_zero (x : List Nat) (all : List (List Nat)) : insK x all 0 = ([], false) := by unfold insK; simp
theorem insK_end (x : List Nat) (all : List (List Nat)) : (if (insK x all all.length).2 then (insK x all all.length).1 else (insK x all all.length).1 ++ [x]) = insU x all := by
  unfold insK insU
  rw [List.take_length]
  rcases h : all.any (fun a => !tls a x) with _ | _
  · have h2 : all.filter (fun a => tls x a) = [] := by
      rw [List.filter_eq_nil_iff]
      intro a ha h3
      have h4 : (!tls a x) = false := by
        have := List.any_eq_false.1 h a ha; simpa using this
      rw [tls_asy h3] at h4; cases h4
    simp [h, h2]
  · simp [h]
/-- One step of it. -/
theorem insK_step {x a : List Nat} {all : List (List Nat)} {k : Nat} (hr : Rise all) (hx : WfT x) (ha : WfT a) (hk : all[k]? = some a) :
    insK x all (k + 1) = (let p := insK x all k
      let q := if (!p.2 && !tls a x) = true then (p.1 ++ [x], true) else p
      if a = x then q else (q.1 ++ [a], q.2)) := by
  have hlow : ∀ b ∈ all.take k, tls b a = true := fun b hb => by
    obtain ⟨j, hj⟩ := List.getElem?_of_mem hb
    rw [List.getElem?_take] at hj
    split at hj
    · rename_i hjk
      obtain ⟨hj1, hj2⟩ := List.getElem?_eq_some_iff.1 hj
      obtain ⟨hk1, hk2⟩ := List.getElem?_eq_some_iff.1 hk
      have := List.pairwise_iff_getElem.1 hr j k hj1 hk1 hjk
      rw [hj2, hk2] at this; exact this
    · cases hj
  have e : all.take (k + 1) = all.take k ++ [a] := by rw [List.take_add_one, hk]; rfl
  unfold insK
  rw [e]
  generalize all.take k = m at hlow ⊢
  simp only [List.filter_append, List.any_append]
  by_cases hax : a = x
  · subst hax
    have hd : m.any (fun b => !tls b a) = false := by
      rw [List.any_eq_false]; intro b hb; rw [hlow b hb]; decide
    have hg : m.filter (fun b => tls a b) = [] := by
      rw [List.filter_eq_nil_iff]; intro b hb; rw [tls_asy (hlow b hb)]; decide
    simp [hd, hg, tls_irr]
  · rcases h1 : tls a x with _ | _
    · have h2 : tls x a = true := by
        rcases h2 : tls x a with _ | _
        · exact absurd (tls_tot ha hx h1 h2) hax
        · rfl
      rcases hd : m.any (fun b => !tls b x) with _ | _
      · have hg : m.filter (fun b => tls x b) = [] := by
          rw [List.filter_eq_nil_iff]
          intro b hb h3
          have h4 : (!tls b x) = false := by
            have := List.any_eq_false.1 hd b hb; simpa using this
          rw [tls_asy h3] at h4; cases h4
        simp [hd, hg, h1, h2, hax]
      · simp [hd, h1, h2, hax]
    · have h2 := tls_asy h1
      have hd : m.any (fun b => !tls b x) = false := by
        rw [List.any_eq_false]; intro b hb; rw [tls_tr (hlow b hb) h1]; decide
      have hg : m.filter (fun b => tls x b) = [] := by
        rw [List.filter_eq_nil_iff]; intro b hb; rw [tls_asy (tls_tr (hlow b hb) h1)]; decide
      simp [hd, hg, h1, h2, hax]
end Go.Proofs.YtpobfgokikfmbaaDoor

set_option linter.unusedSimpArgs false
set_option linter.unusedVariables false
set_option maxRecDepth 8000
namespace Go.Proofs.YtpobfgokikfmbaaDoor
open Go.RowKit Go.WideShapes Col
def bvs (l : List Bool) : List Value := l.map Value.bool
theorem bvs_length (l : List Bool) : (bvs l).length = l.length := List.length_map ..
/-- A row of whole numbers that is all of a slice. -/
def RowBo (w : World) (g : Nat) (l : List Bool) : Prop := w.heap[g]? = some (.cells (bvs l).toArray 4 (0, 0))
section
variable {w : World} {g : Nat} {l : List Bool}
theorem RowBo.fr (h : RowBo w g l) (i : Nat) : w.frozen? ⟨g, i, none⟩ = false := row_frozen h i
theorem RowBo.at (h : RowBo w g l) (i : Nat) (hi : i < l.length) : ∃ u, w.cell? ⟨g, i, none⟩ = some u := by
  rw [cell_of_row _ _ _ _ _ _ h, List.getElem?_toArray]
  exact ⟨_, List.getElem?_eq_getElem (by rw [bvs_length]; exact hi)⟩
theorem RowBo.set (h : RowBo w g l) (i : Nat) (x : Bool) : RowBo (w.setCell ⟨g, i, none⟩ (.bool x)) g (l.set i x) := by
  unfold RowBo at *
  rw [World.setCell]
  simp only [Array.getElem?_modify, if_pos, h, Option.map_some]
  have e : (bvs l).toArray.setIfInBounds i (.bool x) = (bvs (l.set i x)).toArray := by
    unfold bvs; rw [List.map_set]; simp
  simp [e]
theorem RowBo.keep {S : Nat → Prop} {w' : World} (h : RowBo w g l) (hk : Kept S w w') (hg : ¬ S g) : RowBo w' g l := hk.heap h hg
end
theorem rowBo_zeros {w : World} {B g q : Nat} (h : w.ownsRow B 4 1 (.slice (some ⟨g, 0, none⟩) q q) q (madeCells (Value.bool false).cells (q * 1)).toList) : RowBo w g (List.replicate q false) := by
  have e : bvs (List.replicate q false) = List.replicate q (.bool false) := by unfold bvs; rw [List.map_replicate]
  rw [Nat.mul_one, show (Value.bool false).cells = #[.bool false] from rfl, toList_madeCells_one, ← e] at h
  rcases h.2 with ⟨h1, h2⟩ | ⟨g', cap', cur, h1, hb, hrow, -, -, hs, ht⟩
  · cases h1
  · cases h1
    unfold RowBo
    rw [hrow]
    have hc : cur = (bvs (List.replicate q false)).toArray := by
      apply Array.ext'
      rw [← ht, Nat.mul_one, List.take_of_length_le (by rw [Array.length_toList, hs]; omega)]
    rw [hc]
theorem RowBo.cell {w : World} {g : Nat} {l : List Bool} (h : RowBo w g l) (i : Nat) (b : Bool) (hb : l[i]? = some b) : w.cell? ⟨g, i, none⟩ = some (.bool b) := by
  rw [cell_of_row _ _ _ _ _ _ h, List.getElem?_toArray]; unfold bvs; rw [List.getElem?_map, hb]; rfl
theorem infoBool : (Tryd.prog.info? 4).map (fun i => (i.zero, i.size, i.bytes)) = some (some (.bool false), 1, 1) := by kernel_rfl
def IdxP (bs : List Bool) (z : Int) : Prop := decide (0 ≤ z) = bs.contains false
set_option maxHeartbeats 1000000 in
theorem indexB_any (g n c : Nat) (bs : List Bool) (hn : Hid (n = bs.length)) (hn1 : n ≤ 1000000) (w : World) (H : Hid (RowBo w g bs)) :
    Calls Tryd.prog 89 #[.slice (some ⟨g, 0, none⟩) n c, .bool false] w fun e w' => (∃ z : Int, e = .returned (.int .i64 z) ∧ IdxP bs z) ∧ w = w' := by
  go_enter Tryd.func89, Tryd.ntmps89
  go_wp2
  go_loop [8] (fun v => ∃ k : Nat, k ≤ n ∧ v = .int .i64 (k : Int) ∧ ∀ j, j < k → bs[j]? = some true) (fun v => n - (intOf v).toNat)
  case atStart => exact ⟨0, Nat.zero_le _, rfl, fun j h => by omega⟩
  case round =>
    obtain ⟨k, hk, rfl, hall⟩ := hrel
    have HALL := Lib.hid hall
    clear hall
    by_cases hlt : k < n
    · obtain ⟨b, hb⟩ : ∃ b, bs[k]? = some b := ⟨_, List.getElem?_eq_getElem (by have := hn.out; omega)⟩
      have HB := Lib.hid hb
      have hcell := H.out.cell k b hb
      clear hb
      cases b
      · have HM : Hid (bs.contains false = true) := Lib.hid (by simpa using List.mem_of_getElem? HB.out)
        go_wp2
        go_ret
        exact ⟨⟨(k : Int), rfl, by unfold IdxP; rw [HM.out]; simp⟩, rfl⟩
      · go_wp2
        go_round
        case rel => exact ⟨k + 1, by omega, by go_num, fun j hj => by
          by_cases e : j = k
          · subst e; exact HB.out
          · exact HALL.out j (by omega)⟩
        case measure => simp [intOf]; omega
    · obtain rfl : k = n := by omega
      go_wp2
      go_ret
      refine ⟨⟨-1, rfl, ?_⟩, rfl⟩
      have : bs.contains false = false := by
        rw [List.contains_eq_any_beq, List.any_eq_false]
        intro x hx
        obtain ⟨j, hj⟩ := List.getElem?_of_mem hx
        have := HALL.out j (by rw [hn.out]; exact (List.getElem?_eq_some_iff.1 hj).1)
        rw [hj] at this; injection this with this; subst this; simp
      unfold IdxP; rw [this]; rfl
set_option maxHeartbeats 1000000 in
theorem containsB_any (g n c : Nat) (bs : List Bool) (hn : Hid (n = bs.length)) (hn1 : n ≤ 1000000) (w : World) (H : Hid (RowBo w g bs)) :
    Calls Tryd.prog 76 #[.slice (some ⟨g, 0, none⟩) n c, .bool false] w fun e w' => e = .returned (.bool (bs.contains false)) ∧ w = w' := by
  have HI := Lib.hid (indexB_any g n c bs hn hn1 w H)
  go_enter Tryd.func76, Tryd.ntmps76
  go_wp2_with (go_at_call 89; (with_reducible refine (HI.out).mono ?_); rintro e w2 ⟨⟨z, rfl, hz⟩, rfl⟩; have HZ := Lib.hid hz; clear hz)
  go_ret
  exact ⟨ret_eq (congrArg Value.bool HZ.out), rfl⟩
theorem OwnX.keptGX {w w' : World} {B n cap g : Nat} {A : Option Addr} {l : List (List Nat)} (h : OwnX w B A n cap l) (hk : Kept (Only g) w w') (hne : g < B) : OwnX w' B A n cap l :=
  ⟨h.1.kept (row := some g) ⟨hk.os, hk.tape, hk.output, hk.size, fun k hk1 hn => hk.block k hk1 fun e => hn (by rw [show k = g from e])⟩ (by
    have hb := h.base
    rcases A with _ | a
    · simp [Value.ownBlock]
    · have := hb a.block rfl
      simp [Value.ownBlock]; omega), h.2⟩
theorem OwnX.ltX {w : World} {B n cap : Nat} {A : Option Addr} {l : List (List Nat)} (h : OwnX w B A n cap l) (k : Nat) (hk : A.map (·.block) = some k) : k < w.heap.size := by
  rcases h.1.2 with ⟨h1, h2⟩ | ⟨g, cap', cur, h1, hb, hrow, _⟩
  · cases h1; cases hk
  · cases h1; simp at hk; subst hk; exact (Array.getElem?_eq_some_iff.1 hrow).1
theorem OwnX.keptS {S : Nat → Prop} {w w' : World} {B n cap : Nat} {A : Option Addr} {l : List (List Nat)} (h : OwnX w B A n cap l) (hk : Kept S w w') (hS : ∀ b, A.map (·.block) = some b → ¬ S b) : OwnX w' B A n cap l := by
  refine ⟨⟨h.1.1, ?_⟩, h.2⟩
  rcases h.1.2 with h1 | ⟨g, cap', cur, h1, hb, hrow, h2⟩
  · exact .inl h1
  · injection h1 with h3 h4 h5
    exact .inr ⟨g, cap', cur, by rw [h3, h5], hb, hk.heap hrow (hS g (by rw [h3]; rfl)), h2⟩
theorem OwnI.keptSI {S : Nat → Prop} {w w' : World} {B n cap : Nat} {A : Option Addr} {l : List Int} (h : OwnI w B A n cap l) (hk : Kept S w w') (hS : ∀ b, A.map (·.block) = some b → ¬ S b) : OwnI w' B A n cap l := by
  refine ⟨⟨h.1.1, ?_⟩, h.2⟩
  rcases h.1.2 with h1 | ⟨g, cap', cur, h1, hb, hrow, h2⟩
  · exact .inl h1
  · injection h1 with h3 h4 h5
    exact .inr ⟨g, cap', cur, by rw [h3, h5], hb, hk.heap hrow (hS g (by rw [h3]; rfl)), h2⟩
namespace Col
theorem rU_few {q r : List Nat} {ts : List (List Nat)} (h : rU q = some (ts, r)) : ts.length ≤ 4096 := by
  unfold rU at h
  rcases hu : uP 4096 q with _ | ⟨n, r1⟩
  · rw [hu] at h; cases h
  · rw [hu] at h
    simp only [Option.bind_some] at h
    rcases hr : runS (tP 32) n r1 with _ | ⟨l, r2⟩
    · rw [hr] at h; cases h
    · rw [hr] at h
      simp only [Option.bind_some] at h
      split at h
      · injection h with h; injection h with h1 h2
        rw [← h1, runS_len hr]; exact (uP_some hu).2
      · cases h
/-- Which places are told. -/
def usedL (n : Nat) (xs : List Int) : List Bool := (List.range n).map fun (i : Nat) => xs.contains (i : Int)
theorem usedL_len (n : Nat) (xs : List Int) : (usedL n xs).length = n := by unfold usedL; simp
theorem usedL_nil (n : Nat) : usedL n [] = List.replicate n false := by
  unfold usedL
  apply List.ext_getElem
  · simp
  · intro i h1 h2; simp
theorem usedL_snoc (n : Nat) (xs : List Int) (i : Nat) : usedL n (xs ++ [(i : Int)]) = (usedL n xs).set i true := by
  unfold usedL
  apply List.ext_getElem
  · simp
  · intro j h1 h2
    rw [List.getElem_set]
    simp only [List.getElem_map, List.getElem_range]
    by_cases e : i = j
    · subst e; rw [if_pos rfl]; simp
    · rw [if_neg e]
      rw [Bool.eq_iff_iff]
      simp only [List.contains_eq_mem, List.mem_append, List.mem_singleton, decide_eq_true_eq]
      constructor
      · rintro (h | h)
        · exact h
        · exact (e (by omega)).elim
      · exact .inl
def pickT (ts : List (List Nat)) (x : Int) : List Nat := ts.getD x.toNat []
def okT (ts : List (List Nat)) (xs : List Int) : Bool := (xs.all fun x => decide (0 ≤ x) && decide (x < (ts.length : Int))) && !(usedL ts.length xs).contains false
def rT (q : List Nat) : Option (List (List Nat) × List Nat) := (rU q).bind fun u => (rI u.2).bind fun p => if okT u.1 p.1 = true then some (p.1.map (pickT u.1), p.2) else none
theorem rT_no1 {q : List Nat} (h : rU q = none) : rT q = none := by unfold rT; rw [h]; rfl
theorem rT_no2 {q r : List Nat} {ts : List (List Nat)} (h : rU q = some (ts, r)) (h2 : rI r = none) : rT q = none := by unfold rT; rw [h]; simp [h2]
theorem rT_no3 {q r r2 : List Nat} {ts : List (List Nat)} {xs : List Int} (h : rU q = some (ts, r)) (h2 : rI r = some (xs, r2)) (h3 : okT ts xs = false) : rT q = none := by unfold rT; rw [h]; simp [h2, h3]
theorem rT_yes {q r r2 : List Nat} {ts : List (List Nat)} {xs : List Int} (h : rU q = some (ts, r)) (h2 : rI r = some (xs, r2)) (h3 : okT ts xs = true) : rT q = some (xs.map (pickT ts), r2) := by unfold rT; rw [h]; simp [h2, h3]
theorem okT_bad {ts : List (List Nat)} {xs : List Int} {k : Nat} {x : Int} (h : xs[k]? = some x) (hx : ¬ (0 ≤ x ∧ x < (ts.length : Int))) : okT ts xs = false := by
  unfold okT
  rw [Bool.and_eq_false_iff]; left
  rw [List.all_eq_false]
  refine ⟨x, List.mem_of_getElem? h, ?_⟩
  simpa using hx
theorem okT_end {ts : List (List Nat)} {xs : List Int} (h : ∀ (k : Nat) (x : Int), xs[k]? = some x → 0 ≤ x ∧ x < (ts.length : Int)) : okT ts xs = !(usedL ts.length xs).contains false := by
  unfold okT
  have : (xs.all fun x => decide (0 ≤ x) && decide (x < (ts.length : Int))) = true := by
    rw [List.all_eq_true]
    intro x hx
    obtain ⟨k, hk⟩ := List.getElem?_of_mem hx
    simpa using h k x hk
  rw [this, Bool.true_and]
theorem pickT_at {ts : List (List Nat)} {i : Nat} {t : List Nat} (h : ts[i]? = some t) : pickT ts (i : Int) = t := by unfold pickT; rw [List.getD_eq_getElem?_getD]; simp [h]
end Col
/-- How readTexts ends. -/
def TEnds (g : Nat) (o : Option (List (List Nat) × List Nat)) (w : World) (e : Ending) (w' : World) : Prop := match o with
  | some p => ∃ L n, e = .returned (.slice (some ⟨L, 0, none⟩) n n) ∧ n = p.1.length ∧ w.heap.size ≤ L ∧ RowT w' L p.1 ∧ RdM g p.2 w' ∧ Kept (Only g) w w' ∧ (∀ t ∈ p.1, WfT t)
  | none => e = .panicked [gu g] ∧ Gone w' g ∧ Kept (Only g) w w'
structure RTx (g : Nat) (w : World) (A1 : Option Addr) (n1 c1 : Nat) (ts : List (List Nat)) (A2 : Option Addr) (n2 c2 : Nat) (xs : List Int) (ub lb : Nat) (r : List Nat) (k : Nat) (wr : World) : Prop where
  own1 : OwnX wr w.heap.size A1 n1 c1 ts
  own2 : OwnI wr w.heap.size A2 n2 c2 xs
  off1 : ∀ b, A1.map (·.block) = some b → b < ub ∧ b < lb
  off2 : ∀ b, A2.map (·.block) = some b → b < ub ∧ b < lb
  hub : w.heap.size ≤ ub
  hlb : w.heap.size ≤ lb
  ne : ub ≠ lb
  used : RowBo wr ub (usedL n1 (xs.take k))
  row : RowT wr lb ((xs.take k).map (pickT ts) ++ List.replicate (n2 - k) [])
  rd : RdM g r wr
  kept : Kept (Only g) w wr
  ok : ∀ (j : Nat) (x : Int), j < k → xs[j]? = some x → 0 ≤ x ∧ x < (n1 : Int)
set_option maxHeartbeats 8000000 in
theorem readTexts_any (g : Nat) (q : List Nat) (w : World) (H : Hid (RdM g q w)) :
    Calls Tryd.prog 52 #[.pointer (some ⟨g, 0, none⟩)] w (TEnds g (rT q) w) := by
  obtain ⟨ib, hib, hb0, hb1, hb2⟩ := info_parts infoBool
  obtain ⟨is, his, hs0, hs1, hs2⟩ := info_parts infoStr'
  have HU := Lib.hid (readUnlike_any g q w H)
  rcases hu : rU q with _ | ⟨ts, r⟩
  · have HN := Lib.hid (rT_no1 hu)
    rw [hu] at HU
    rw [HN.out]
    clear hu
    go_enter Tryd.func52, Tryd.ntmps52
    go_wp2_with (go_at_call 75; (with_reducible refine (HU.out).mono ?_); rintro e w2 ⟨rfl, h1, h2⟩)
    exact ⟨rfl, rfl, h1, h2⟩
  · have HUU := Lib.hid hu
    rw [hu] at HU
    clear hu
    have HRI := Lib.hid fun w2 (h : Hid (RdM g r w2)) => readInts_any g r w2 h
    rcases hi : rI r with _ | ⟨xs, r2⟩
    · have HN := Lib.hid (rT_no2 HUU.out hi)
      rw [hi] at HRI
      rw [HN.out]
      clear hi
      go_enter Tryd.func52, Tryd.ntmps52
      go_wp2_with (first
        | (go_at_call 75; (with_reducible refine (HU.out).mono ?_); rintro e w2 ⟨⟨A1, n1, c1, rfl, ho⟩, h1, h2⟩; have HRD := Lib.hid h1; have HK := Lib.hid h2; clear ho h1 h2)
        | (go_at_call 50; refine (HRI.out _ HRD).mono ?_; rintro e w3 ⟨rfl, h1, h2⟩))
      exact ⟨rfl, rfl, h1, HK.out.trans h2⟩
    · have HII := Lib.hid hi
      have hxl := rI_len hi
      rw [hi] at HRI
      clear hi
      have HGB := Lib.hid H.out.1.glt
      go_enter Tryd.func52, Tryd.ntmps52
      go_upto_region 3 with (first
        | (go_at_call 75; (with_reducible refine (HU.out).mono ?_); rintro e w2 ⟨⟨A1, n1, c1, rfl, ho⟩, h1, h2⟩; have HO1 := Lib.hid ho; have HRD := Lib.hid h1; have HK := Lib.hid h2; clear ho h1 h2)
        | (go_at_call 50; refine (HRI.out _ HRD).mono ?_; rintro e w3 ⟨⟨A2, n2, c2, rfl, ho⟩, h1, h2⟩; have HO2 := Lib.hid ho; have HRD3 := Lib.hid h1; have HK3 := Lib.hid h2; clear ho h1 h2))
      have hn1 : n1 ≤ 4096 := by
        have h1 : n1 = ts.length := HO1.out.len
        have h2 := rU_few HUU.out
        omega
      have hn2 : n2 ≤ 4096 := by have h1 : n2 = xs.length := HO2.out.len; omega
      have hzb1 : ib.bytes * n1 ≤ 281474976710656 := by rw [hb2]; omega
      have hzb2 : is.bytes * n2 ≤ 281474976710656 := by rw [hs2]; omega
      have hnm1 : n1 ≤ maxLen := by unfold maxLen; omega
      have hnm2 : n2 ≤ maxLen := by unfold maxLen; omega
      have HN1 : Hid (n1 = ts.length) := Lib.hid HO1.out.len
      have HN2 : Hid (n2 = xs.length) := Lib.hid HO2.out.len
      have HO13 : Hid (OwnX w3 w.heap.size A1 n1 c1 ts) := Lib.hid (HO1.out.keptGX HK3.out HGB.out)
      have HO23 : Hid (OwnI w3 w.heap.size A2 n2 c2 xs) := Lib.hid (HO2.out.more HK.out.size)
      have HKA := Lib.hid (HK.out.trans HK3.out)
      obtain ⟨ub, hub⟩ : ∃ ub, ub = w3.heap.size := ⟨_, rfl⟩
      go_upto_region 4 with (refine wpList_make_full _ rfl (.tmp 14) (.tmp 14) 78 rfl w3.heap.size 4 ib (.bool false) 1 Tryd.underlying78 hib hb0 hb1 .i64 .i64 _ _ n1 rfl rfl rfl rfl hzb1 hnm1 (Nat.le_refl _) ?_; intro w4 own hgr; have HRB := Lib.hid (rowBo_zeros own); have HB4 : Hid (Below w3.heap.size w3 w4) := Lib.hid ((Below.refl _ w3).grown hgr (Nat.le_refl _) (by intro k hk; cases hk)); clear own hgr)
      obtain ⟨lb, hlb⟩ : ∃ lb, lb = w4.heap.size := ⟨_, rfl⟩
      go_upto_region 5 with (refine wpList_make_full _ rfl (.tmp 17) (.tmp 17) 48 rfl w4.heap.size 9 is (.string { data := #[] }) 1 Tryd.underlying48 his hs0 hs1 .i64 .i64 _ _ n2 rfl rfl rfl rfl hzb2 hnm2 (Nat.le_refl _) ?_; intro w5 own hgr; have HRS := Lib.hid (rowT_zeros own); have HB5 : Hid (Below w4.heap.size w4 w5) := Lib.hid ((Below.refl _ w4).grown hgr (Nat.le_refl _) (by intro k hk; cases hk)); clear own hgr)
      rw [← hub, ← hlb]
      have HST : Hid (RTx g w A1 n1 c1 ts A2 n2 c2 xs ub lb r2 0 w5) := Lib.hid (by
        have h4 : ub < w4.heap.size := by rw [hub]; exact (Array.getElem?_eq_some_iff.1 HRB.out).1
        refine ⟨(HO13.out.keep HB4.out).keep HB5.out, (HO23.out.keep HB4.out).keep HB5.out, fun b hb => ?_, fun b hb => ?_, ?_, ?_, by omega, ?_, ?_, ?_, (HKA.out.trans (Kept.of_below HB4.out)).trans (Kept.of_below HB5.out), fun j x h => by omega⟩
        · have h5 := HO13.out.ltX b hb; omega
        · have h5 := HO23.out.ltI b hb; omega
        · rw [hub]; exact HKA.out.size
        · have := HKA.out.size; omega
        · rw [List.take_zero, usedL_nil, hub]; exact HRB.out.keep (Kept.of_below (S := fun _ => False) HB5.out) fun e => e
        · rw [List.take_zero, hlb]; simpa using HRS.out
        · exact ⟨(HRD3.out.1.high (S := fun _ => False) (Kept.of_below HB4.out) fun k hk => hk.elim).high (S := fun _ => False) (Kept.of_below HB5.out) fun k hk => hk.elim, HRD3.out.2⟩)
      clear HU HRI HO1 HO2 HRD HK HRD3 HK3 HO13 HO23 HKA HRB HRS HB4 HB5 hub hlb hzb1 hzb2 hnm1 hnm2
      go_wp2
      go_loopw [21] (fun v wr => ∃ k : Nat, k ≤ n2 ∧ v = .int .i64 (k : Int) ∧ RTx g w A1 n1 c1 ts A2 n2 c2 xs ub lb r2 k wr) (fun v _ => n2 - (intOf v).toNat)
      case atStart => exact ⟨0, Nat.zero_le _, rfl, HST.out⟩
      case round =>
        obtain ⟨k, hk, rfl, hrx⟩ := hrel
        have HX := Lib.hid hrx
        clear hrx HST
        obtain ⟨A9, C9, hRA⟩ := HX.out.rd.1
        have HRA := Lib.hid hRA
        clear hRA
        by_cases hlt : k < n2
        · obtain ⟨x, hx⟩ : ∃ x, xs[k]? = some x := ⟨_, List.getElem?_eq_getElem (by have := HN2.out; omega)⟩
          obtain ⟨g3, o3, rfl, hg3, hcx⟩ := HX.out.own2.isAt.spot (by have := HN2.out; omega)
          have hc3 := hcx k x hx
          have HXK := Lib.hid hx
          clear hx hcx
          by_cases hok : 0 ≤ x ∧ x < (n1 : Int)
          · obtain ⟨i, hi⟩ : ∃ i : Nat, x = (i : Int) := ⟨x.toNat, by omega⟩
            subst hi
            obtain ⟨hx0, hxn⟩ := hok
            have hin : i < n1 := by omega
            obtain ⟨t, ht⟩ : ∃ t, ts[i]? = some t := ⟨_, List.getElem?_eq_getElem (by have := HN1.out; omega)⟩
            obtain ⟨g1, o1, rfl, hg1, hct⟩ := HX.out.own1.isAt.spot (by have := HN1.out; omega)
            have hc1 := hct i t ht
            have hoff := HX.out.off1 g1 rfl
            have hne1 : ¬ ub = g1 := by omega
            have hne1' : ¬ g1 = ub := by omega
            have hne2 : ¬ ub = lb := HX.out.ne
            have hne2' : ¬ lb = ub := fun e => HX.out.ne e.symm
            have HPT := Lib.hid (pickT_at ht)
            have fu := HX.out.used.fr i
            obtain ⟨u1, cu⟩ := HX.out.used.at i (by rw [usedL_len]; exact hin)
            have fl := HX.out.row.fr k
            obtain ⟨u2, cl⟩ := HX.out.row.at k (by rw [List.length_append, List.length_map, List.length_replicate, List.length_take]; have := HN2.out; omega)
            have HSET := Lib.hid (fill_setT ((xs.take k).map (pickT ts)) n2 k (by rw [List.length_map, List.length_take]; have := HN2.out; omega) hlt t)
            have HTK : Hid (xs.take (k + 1) = xs.take k ++ [(i : Int)]) := Lib.hid (by rw [List.take_add_one, HXK.out]; rfl)
            clear ht hct hoff
            go_wp2_with (go_at_call 34; (with_reducible refine (check_true _ _).mono ?_); rintro e w6 ⟨rfl, rfl⟩)
            go_roundw
            case rel =>
              refine ⟨k + 1, by omega, by go_num, ?_⟩
              have hk1 : Kept (fun k => k = ub ∨ k = lb) wr ((wr.setCell ⟨ub, i, none⟩ (.bool true)).setCell ⟨lb, k, none⟩ (.string (strB t))) := ((Kept.refl _ _).setCell _ _ (.inl (.inl rfl))).setCell _ _ (.inl (.inr rfl))
              have X := HX.out
              have hgl := HGB.out
              have hu1 := X.hub
              have hl1 := X.hlb
              refine ⟨X.own1.keptS hk1 (fun b hb => by have := X.off1 b hb; omega), X.own2.keptSI hk1 (fun b hb => by have := X.off2 b hb; omega), X.off1, X.off2, X.hub, X.hlb, X.ne, ?_, ?_, ⟨X.rd.1.high hk1 fun k hk => by omega, X.rd.2⟩, X.kept.trans' hk1 fun i hi => by right; omega, ?_⟩
              · rw [HTK.out, usedL_snoc]
                exact (X.used.set i true).keep (S := fun k => k = lb) ((Kept.refl _ _).setCell _ _ (.inl rfl)) hne2
              · rw [HTK.out, List.map_append, List.map_cons, List.map_nil, HPT.out, ← HSET.out]
                exact (X.row.keep (S := fun k => k = ub) ((Kept.refl _ _).setCell _ _ (.inl rfl)) hne2').set k t
              · intro j y hj hy
                by_cases e : j = k
                · subst e; rw [HXK.out] at hy; injection hy with hy; subst hy; exact ⟨hx0, hxn⟩
                · exact X.ok j y (by omega) hy
            case measure => simp [intOf]; omega
          · have HN := Lib.hid (rT_no3 HUU.out HII.out (okT_bad HXK.out (by rw [← HN1.out]; exact hok)))
            rw [HN.out]
            by_cases hx0 : 0 ≤ x
            · have hxn : ¬ x < (n1 : Int) := fun h => hok ⟨hx0, h⟩
              clear hok
              go_wp2_with (go_at_call 34; (with_reducible refine (check_false g C9 A9 r2 _ HRA).mono ?_); rintro e w6 ⟨rfl, h1, h2⟩)
              exact ⟨rfl, rfl, h1, HX.out.kept.trans h2⟩
            · clear hok
              go_wp2_with (go_at_call 34; (with_reducible refine (check_false g C9 A9 r2 _ HRA).mono ?_); rintro e w6 ⟨rfl, h1, h2⟩)
              exact ⟨rfl, rfl, h1, HX.out.kept.trans h2⟩
        · obtain rfl : k = n2 := by omega
          have hall : xs.take k = xs := List.take_of_length_le (by have := HN2.out; omega)
          have HRU : Hid (RowBo wr ub (usedL n1 xs)) := Lib.hid (by have := HX.out.used; rwa [hall] at this)
          have HRW : Hid (RowT wr lb (xs.map (pickT ts))) := Lib.hid (by have := HX.out.row; rw [hall, Nat.sub_self, List.replicate_zero, List.append_nil] at this; exact this)
          have HOK : Hid (okT ts xs = !(usedL n1 xs).contains false) := Lib.hid (by
            rw [HN1.out]
            exact okT_end fun j x hj => by
              have h9 := HX.out.ok j x (by have := (List.getElem?_eq_some_iff.1 hj).1; have := HN2.out; omega) hj
              rw [HN1.out] at h9; exact h9)
          have HC := Lib.hid (containsB_any ub n1 n1 (usedL n1 xs) (Lib.hid (usedL_len _ _).symm) (by omega) wr HRU)
          rcases hb : (usedL n1 xs).contains false with _ | _
          · rw [hb] at HOK HC
            have HN := Lib.hid (rT_yes HUU.out HII.out HOK.out)
            rw [HN.out]
            clear hb hall
            go_wp2_with (first
              | (go_at_call 76; (with_reducible refine (HC.out).mono ?_); rintro e w6 ⟨rfl, rfl⟩)
              | (go_at_call 34; (with_reducible refine (check_true _ _).mono ?_); rintro e w7 ⟨rfl, rfl⟩))
            go_ret
            show TEnds g (rT q) w _ _
            rw [HN.out]
            refine ⟨lb, k, rfl, by rw [List.length_map]; exact HN2.out, HX.out.hlb, HRW.out, HX.out.rd, HX.out.kept, fun t ht => ?_⟩
            obtain ⟨x, hx, rfl⟩ := List.mem_map.1 ht
            obtain ⟨j, hj⟩ := List.getElem?_of_mem hx
            have h9 := HX.out.ok j x (by have := (List.getElem?_eq_some_iff.1 hj).1; have := HN2.out; omega) hj
            obtain ⟨i, rfl⟩ : ∃ i : Nat, x = (i : Int) := ⟨x.toNat, by omega⟩
            obtain ⟨t, ht⟩ : ∃ t, ts[i]? = some t := ⟨_, List.getElem?_eq_getElem (by have := HN1.out; omega)⟩
            rw [pickT_at ht]
            exact HX.out.own1.2 t (List.mem_of_getElem? ht)
          · rw [hb] at HOK HC
            have HN := Lib.hid (rT_no3 HUU.out HII.out HOK.out)
            rw [HN.out]
            clear hb hall
            go_wp2_with (first
              | (go_at_call 76; (with_reducible refine (HC.out).mono ?_); rintro e w6 ⟨rfl, rfl⟩)
              | (go_at_call 34; (with_reducible refine (check_false g C9 A9 r2 _ HRA).mono ?_); rintro e w7 ⟨rfl, h1, h2⟩))
            refine ⟨rfl, ?_⟩
            show TEnds g (rT q) w _ _
            rw [HN.out]
            exact ⟨rfl, h1, HX.out.kept.trans h2⟩
end Go.Proofs.YtpobfgokikfmbaaDoor

set_option linter.unusedSimpArgs false
set_option linter.unusedVariables false
set_option maxRecDepth 8000
namespace Go.Proofs.YtpobfgokikfmbaaDoor
open Go.RowKit Go.WideShapes Col
namespace Col
/-- Numbers with a point that are all of some bytes. -/
def rTL (q : List Nat) : Option (List (List Nat)) := match rT q with
  | some (us, []) => some us
  | _ => none
theorem rTL_some {q : List Nat} {us : List (List Nat)} (h : rT q = some (us, [])) : rTL q = some us := by unfold rTL; rw [h]
theorem rTL_none {q : List Nat} (h : rT q = none) : rTL q = none := by unfold rTL; rw [h]
theorem rTL_left {q r : List Nat} {us : List (List Nat)} (h : rT q = some (us, r)) (hr : r ≠ []) : rTL q = none := by
  unfold rTL; rw [h]
  rcases r with _ | ⟨x, r⟩
  · exact (hr rfl).elim
  · rfl
end Col
/-- What the list's cell holds behind the reading. -/
def RdTA (q : List Nat) (cl B : Nat) (b : Bool) (w : World) : Prop := match b with
  | true => ∃ L n us, rTL q = some us ∧ n = us.length ∧ w.heap[cl]? = some (.cells #[.slice (some ⟨L, 0, none⟩) n n] 48 (0, 0)) ∧ RowT w L us ∧ B ≤ L
  | false => rTL q = none
theorem RdTA.keep {q : List Nat} {cl B B' g : Nat} {b : Bool} {w w' : World} (h : RdTA q cl B b w) (hk : Kept (Only g) w w') (h1 : cl ≠ g) (h2 : g < B) (hB : B' ≤ B) : RdTA q cl B' b w' := by
  cases b with
  | false => exact h
  | true =>
    obtain ⟨L, n, us, e1, e2, hrow, hrf, hl⟩ := h
    exact ⟨L, n, us, e1, e2, hk.heap hrow fun e => h1 e, hrf.keep hk (fun e => by have e : L = g := e; omega), by omega⟩
theorem rdta_no {q : List Nat} {cl B : Nat} {b : Bool} {w : World} (h : rTL q = none) (hr : RdTA q cl B b w) : b = false := by
  rcases b with _ | _
  · rfl
  · obtain ⟨L, n, us, e1, -⟩ := hr
    rw [h] at e1; cases e1
theorem rdta_yes {q : List Nat} {us : List (List Nat)} {cl B : Nat} {b : Bool} {w : World} (h : rTL q = some us) (hr : RdTA q cl B b w) : b = true := by
  rcases b with _ | _
  · have hr : rTL q = none := hr
    rw [h] at hr; cases hr
  · rfl
set_option maxHeartbeats 2000000 in
theorem listFnT_any (g bf cl : Nat) (q : List Nat) (hql : q.length ≤ 1099511627776) (w : World) (HR : Hid (Rd w g q)) (Hf : Hid (w.heap[bf]? = some (.cells #[.func (.func 52) #[] #[]] 97 (0, 0)))) (Hc : Hid (w.heap[cl]? = some (.cells #[.slice none 0 0] 48 (0, 0)))) (h1 : cl < g) (h2 : bf < g) :
    Calls Tryd.prog 74 #[.pointer (some ⟨g, 0, none⟩), .pointer (some ⟨bf, 0, none⟩), .pointer (some ⟨cl, 0, none⟩)] w (Tried g (fun k => k = cl) (RdTA q cl (g + 1)) w) := by
  have hc : w.cell? ⟨bf, 0, none⟩ = some (.func (.func 52) #[] #[]) := by rw [cell_of_row _ _ _ _ _ _ Hf.out]; rfl
  have HI := Lib.hid (readTexts_any g q w (Lib.hid ⟨HR.out, hql⟩))
  have hgl := HR.out.glt
  rcases ho : rT q with _ | ⟨us, r⟩
  · have HO := Lib.hid ho
    clear ho
    go_enter Tryd.func74, Tryd.ntmps74
    go_wp2_with (go_at_call 52; refine (HI.out).mono ?_; intro e w3 h8; rw [HO.out] at h8; obtain ⟨rfl, h1, h2⟩ := h8)
    exact ⟨rfl, h2.mono fun k hk => .inl (.inr hk), .inr ⟨rfl, h1, rTL_none HO.out⟩⟩
  · have HO := Lib.hid ho
    clear ho
    go_enter Tryd.func74, Tryd.ntmps74
    go_wp2_with (go_at_call 52; refine (HI.out).mono ?_; intro e w3 h8; rw [HO.out] at h8; obtain ⟨L, n, rfl, hn, hL, hrf, hrd, hk, -⟩ := h8; have HN := Lib.hid hn; have HL := Lib.hid hL; have HRF := Lib.hid hrf; have HRD := Lib.hid hrd; have HK := Lib.hid hk; have hrow := hk.heap Hc.out (fun e => by have e : cl = g := e; omega); have c3 : w3.cell? ⟨cl, 0, none⟩ = some (.slice none 0 0) := (by rw [cell_of_row _ _ _ _ _ _ hrow]; rfl); have f3 : w3.frozen? ⟨cl, 0, none⟩ = false := row_frozen hrow 0; have HROW := Lib.hid hrow; clear hn hL hrf hrd hk hrow)
    have hk : Kept (fun k => k = cl) w3 (w3.setCell ⟨cl, 0, none⟩ (.slice (some ⟨L, 0, none⟩) n n)) := (Kept.refl _ _).setCell _ _ (.inl rfl)
    have hrow2 : (w3.setCell ⟨cl, 0, none⟩ (.slice (some ⟨L, 0, none⟩) n n)).heap[cl]? = some (.cells #[.slice (some ⟨L, 0, none⟩) n n] 48 (0, 0)) := by
      have := HROW.out; rw [World.setCell]; simp [Array.getElem?_modify, this]
    have hkk : Kept (fun k => k = cl ∨ k = g) w (w3.setCell ⟨cl, 0, none⟩ (.slice (some ⟨L, 0, none⟩) n n)) := (HK.out.mono fun k hk => .inl (.inr hk)).setCell _ _ (.inl (.inl rfl))
    have hL := HL.out
    refine bodyPost_end (results_none rfl _ _ _) rfl ⟨hkk, .inl ⟨r, rfl, HRD.out.1.high' hk (fun k hk => by have hk : k = cl := hk; omega) (fun A C h => off_slice h.bytes HROW.out), ?_⟩⟩
    by_cases hr : r = []
    · subst hr
      exact ⟨L, n, us, rTL_some HO.out, HN.out, hrow2, HRF.out.keep hk (fun e => by have e : L = cl := e; omega), by omega⟩
    · have : decide (r = []) = false := by simpa using hr
      rw [this]
      exact rTL_left HO.out hr
/-- How ReadReals ends. -/
def RTEnds (o : Option (List (List Nat))) (w : World) (e : Ending) (w' : World) : Prop := match o with
  | some us => (∃ L n, e = .returned (.tuple #[.slice (some ⟨L, 0, none⟩) n n, .int .i64 0]) ∧ n = us.length ∧ RowT w' L us) ∧ Below w.heap.size w w'
  | none => e = .returned (.tuple #[.slice none 0 0, .int .i64 3]) ∧ Below w.heap.size w w'
set_option maxHeartbeats 2000000 in
theorem readListT_any (A : Option Addr) (C : Nat) (q : List Nat) (n : Nat) (hn : Hid (n = q.length)) (hn4 : n ≤ 1099511627776) (hC : n ≤ C) (hC' : C ≤ maxLen) (w : World) (HA : Hid (ByAt w A q)) :
    Calls Tryd.prog 51 #[.slice A n C, .func (.func 52) #[] #[]] w (RTEnds (rTL q) w) := by
  obtain ⟨bf, w1, hbf, hw1, hrow1, hb1, hbf1⟩ := alloc_pt w (.func (.func 52) #[] #[]) 97
  obtain ⟨cl, w2, hcl, hw2, hrow2, hb2, hcl2⟩ := alloc_pt w1 (.slice none 0 0) 48
  have HW : Hid ((w.alloc (.cells #[.func (.func 52) #[] #[]] 97)).alloc (.cells #[.slice none 0 0] 48) = w2) := Lib.hid (by rw [hw2, hw1])
  have hsz : w1.heap.size = w.heap.size + 1 := by rw [hw1]; simp
  have HBF := Lib.hid hbf; have HCL : Hid (cl = w.heap.size + 1) := Lib.hid (by rw [hcl, hsz])
  have HB2 : Hid (Below w.heap.size w w2) := Lib.hid (below_to hb1 hb2)
  have hrf2 := (Kept.of_below (S := fun _ => False) hb2).heap hrow1 fun e => e
  have ht := try_any 74 #[] #[.pointer (some ⟨bf, 0, none⟩), .pointer (some ⟨cl, 0, none⟩)] A C q n hn hC hC' w2 (Lib.hid (HA.out.keep HB2.out)) (fun k => k = cl) (fun k hk => by have hk : k = cl := hk; omega)
    (fun g => RdTA q cl (g + 1)) (RdTA q cl w2.heap.size) (fun g b v2 v3 hg h hk => h.keep hk (by omega) (Nat.lt_succ_self _) (by omega))
    (fun g v1 hg hr hb => listFnT_any g bf cl q (by rw [← hn.out]; exact hn4) v1 (Lib.hid hr) (Lib.hid ((Kept.of_below (S := fun _ => False) hb).heap hrf2 fun e => e)) (Lib.hid ((Kept.of_below (S := fun _ => False) hb).heap hrow2 fun e => e)) (by omega) (by omega))
    (fun _ _ => by first | rfl | kernel_rfl)
  have HT := Lib.hid ht
  have HR2 := Lib.hid hrow2
  clear ht hbf hw1 hrow1 hb1 hcl hw2 hrow2 hb2 hrf2 hbf1
  go_enter Tryd.func51, Tryd.ntmps51
  go_upto_region 2 with fail
  have e1 : w.heap.size = bf := HBF.out.symm
  have e2 : w.heap.size + 1 = cl := HCL.out.symm
  have hx : ∀ (w3 : World), Kept (fun k => k = cl) w2 w3 → Below w.heap.size w w3 := fun w3 hk => HB2.out.trans (hk.below (B := w.heap.size) (by omega) fun k hk => by have hk : k = cl := hk; omega)
  have HX := Lib.hid hx
  clear hx
  rw [HW.out, e2, e1]
  clear e1 e2
  rcases ho : rTL q with _ | us
  · have HO := Lib.hid ho
    clear ho
    go_wp2_with (go_at_call 10; (with_reducible refine (HT.out).mono ?_); rintro e w3 ⟨b, rfl, hr, hk⟩; obtain rfl := rdta_no HO.out hr; have HB3 := Lib.hid (HX.out w3 hk); clear hr hk)
    go_ret2
    rw [HO.out]
    exact ⟨rfl, HB3.out⟩
  · have HO := Lib.hid ho
    clear ho
    go_wp2_with (go_at_call 10; (with_reducible refine (HT.out).mono ?_); rintro e w3 ⟨b, rfl, hr, hk⟩; obtain rfl := rdta_yes HO.out hr; have HB3 := Lib.hid (HX.out w3 hk); obtain ⟨L, n9, us9, e9, h8, hrow9, hrf9, hl9⟩ := hr; rw [HO.out] at e9; injection e9 with e9; subst e9; have HN9 := Lib.hid h8; have HRF := Lib.hid hrf9; have c9c : w3.cell? ⟨cl, 0, none⟩ = some (.slice (some ⟨L, 0, none⟩) n9 n9) := (by rw [cell_of_row _ _ _ _ _ _ hrow9]; rfl); clear hk hrow9 hrf9 h8 hl9)
    go_ret2
    rw [HO.out]
    exact ⟨⟨L, n9, rfl, HN9.out, HRF.out⟩, HB3.out⟩
set_option maxHeartbeats 2000000 in
theorem readTextsC_any (A : Option Addr) (C : Nat) (q : List Nat) (n : Nat) (hn : Hid (n = q.length)) (hn4 : n ≤ 1099511627776) (hC : n ≤ C) (hC' : C ≤ maxLen) (w : World) (HA : Hid (ByAt w A q)) :
    Calls Tryd.prog 31 #[.slice A n C] w (RTEnds (rTL q) w) := by
  have HT := Lib.hid (readListT_any A C q n hn hn4 hC hC' w HA)
  rcases ho : rTL q with _ | l
  · have HO := Lib.hid ho
    rw [ho] at HT
    clear ho
    go_enter Tryd.func31, Tryd.ntmps31
    go_wp2_with (go_at_call 51; (with_reducible refine (HT.out).mono ?_); rintro e w3 ⟨rfl, hb⟩; have HB := Lib.hid hb; clear hb)
    go_ret2
    exact ⟨rfl, HB.out⟩
  · have HO := Lib.hid ho
    rw [ho] at HT
    clear ho
    go_enter Tryd.func31, Tryd.ntmps31
    go_wp2_with (go_at_call 51; (with_reducible refine (HT.out).mono ?_); rintro e w3 ⟨⟨L, n9, rfl, h8, ho⟩, hb⟩; have HB := Lib.hid hb; have HOW := Lib.hid ho; have HN := Lib.hid h8; clear hb ho h8)
    go_ret2
    exact ⟨⟨L, n9, rfl, HN.out, HOW.out⟩, HB.out⟩
end Go.Proofs.YtpobfgokikfmbaaDoor

set_option linter.unusedSimpArgs false
set_option linter.unusedVariables false
set_option maxRecDepth 8000
namespace Go.Proofs.YtpobfgokikfmbaaDoor
open Go.RowKit Go.WideShapes Col

theorem conv_sb (s : List Nat) (hs : WfT s) (n : Nat) (hn : n = s.length) (w : World) : ∃ (w' : World) (C : Nat), (convert 9 22 (.string (strB s))).run Tryd.prog w = .ok (.slice (some ⟨w.heap.size, 0, none⟩) n C) w' ∧ ByAt w' (some ⟨w.heap.size, 0, none⟩) s ∧ Below w.heap.size w w' := by
  have h := Go.Lib.run_convert_string_bytes w 9 22 5 (strB s) Tryd.underlying9 Tryd.underlying22 Tryd.underlying5
  rw [show (strB s).size = n by rw [strB_size, hn]] at h
  refine ⟨_, _, h, fun k x hx => ?_, ⟨rfl, rfl, rfl, by rw [Go.Lib.bytesWorld_size]; omega, fun k hk => Go.Lib.bytesWorld_at_old _ _ _ k hk⟩⟩
  · have hx256 := hs x (List.mem_of_getElem? hx)
    refine ⟨hx256, _, 0, rfl, by rw [Go.Lib.bytesWorld_size]; omega, ?_⟩
    have hk := (List.getElem?_eq_some_iff.1 hx).1
    rw [Nat.zero_add, Go.Lib.bytesWorld_cell w _ (strB s) k (by rw [strB_size]; exact hk)]
    have e : (strB s).data.toList.getD k 0 = UInt8.ofNat x := by
      unfold strB; rw [strOfNums_data, List.getD_eq_getElem?_getD, List.getElem?_map, List.getElem?_map, hx]; rfl
    rw [e, UInt8.toNat_ofNat_of_lt' (by simpa using hx256)]
/-- A text as bytes. -/
def txL (s : List Nat) : List Nat := ub s.length ++ s
end Go.Proofs.YtpobfgokikfmbaaDoor

set_option linter.unusedSimpArgs false
set_option linter.unusedVariables false
set_option maxRecDepth 8000
namespace Go.Proofs.YtpobfgokikfmbaaDoor
open Go.RowKit Go.WideShapes Col

theorem two_filters (x : List Nat) (m : List (List Nat)) : (m.filter (fun a => tls a x)).length + (m.filter (fun a => tls x a)).length ≤ m.length := by
  induction m with
  | nil => exact Nat.le_refl _
  | cons a m ih2 =>
    rw [List.filter_cons, List.filter_cons]
    rcases h1 : tls a x with _ | _
    · rcases h2 : tls x a with _ | _ <;> simp <;> omega
    · rw [tls_asy h1]; simp; omega
theorem insK_len (x : List Nat) (all : List (List Nat)) (k : Nat) : (insK x all k).1.length ≤ k + 1 := by
  unfold insK
  have h := two_filters x (all.take k)
  have h2 : (all.take k).length ≤ k := by rw [List.length_take]; omega
  simp only [List.length_append]
  split <;> simp <;> omega
def TX1 (W : World) (l : List (List Nat)) (n : Nat) (uA v : Value) (wr : World) : Prop :=
  ∃ (i m : Nat) (A : Option Addr) (cap : Nat), i ≤ n ∧ v = .int .i64 (i : Int) ∧ uA = .slice A m cap ∧ OwnX wr W.heap.size A m cap (uqL (l.take i)) ∧ Below W.heap.size W wr
def TX2 (wa : World) (x : List Nat) (all : List (List Nat)) (m : Nat) (u5 u6 v7 : Value) (wr : World) : Prop :=
  ∃ (k q : Nat) (A2 : Option Addr) (c2 : Nat) (nx : List (List Nat)) (d : Bool), k ≤ m ∧ v7 = .int .i64 (k : Int) ∧ u5 = .slice A2 q c2 ∧ u6 = .bool d ∧ insK x all k = (nx, d) ∧ OwnX wr wa.heap.size A2 q c2 nx ∧ Below wa.heap.size wa wr
theorem ints_few (l : List Int) (hl : ∀ x ∈ l, Wf64 x) (hn : l.length ≤ 5000) : (intsL l).length ≤ 1000000 := by
  have h1 := best_le 3 l 0 (by omega)
  have h2 := lpl_len l hl
  have h3 := ub10 (n := l.length) (by omega)
  have h4 : (asL 0 l).length = 1 + (ub l.length).length + (lpl l).length := by unfold asL; rw [if_pos rfl, List.length_append, List.length_append]; rfl
  have h5 : (intsL l).length ≤ (asL 0 l).length := h1
  omega
/-- At which place a text stands. -/
def plc : List (List Nat) → List Nat → Nat
  | [], _ => 0
  | a :: r, x => if a = x then 0 else plc r x + 1
theorem plc_le (all : List (List Nat)) (x : List Nat) : plc all x ≤ all.length := by
  induction all with
  | nil => exact Nat.le_refl _
  | cons a r ih => rw [plc]; split <;> simp <;> omega
theorem plc_eq {all : List (List Nat)} {x : List Nat} {k : Nat} (hk : all[k]? = some x) (hno : x ∉ all.take k) : plc all x = k := by
  induction all generalizing k with
  | nil => cases hk
  | cons a r ih =>
    rcases k with _ | k
    · have hk : a = x := by simpa using hk
      rw [plc, if_pos hk]
    · have hk : r[k]? = some x := by simpa using hk
      rw [List.take_succ_cons, List.mem_cons, not_or] at hno
      rw [plc, if_neg (fun e => hno.1 e.symm), ih hk hno.2]
/-- What is told of a text by the first k. -/
def pre (all : List (List Nat)) (k : Nat) (x : List Nat) : List Int := if x ∈ all.take k then [(plc all x : Int)] else []
theorem pre_step {all : List (List Nat)} (hr : Rise all) {k : Nat} {a : List Nat} (ha : all[k]? = some a) (x : List Nat) : (a = x → pre all (k + 1) x = [(k : Int)] ∧ pre all k x = []) ∧ (a ≠ x → pre all (k + 1) x = pre all k x) := by
  have e : all.take (k + 1) = all.take k ++ [a] := by rw [List.take_add_one, ha]; rfl
  refine ⟨fun h => ?_, fun h => ?_⟩
  · subst h
    have hno : a ∉ all.take k := fun hm => by
      obtain ⟨j, hj⟩ := List.getElem?_of_mem hm
      rw [List.getElem?_take] at hj
      split at hj
      · rename_i hjk
        obtain ⟨hj1, hj2⟩ := List.getElem?_eq_some_iff.1 hj
        obtain ⟨hk1, hk2⟩ := List.getElem?_eq_some_iff.1 ha
        have := List.pairwise_iff_getElem.1 hr j k hj1 hk1 hjk
        rw [hj2, hk2, tls_irr] at this; cases this
      · cases hj
    unfold pre
    rw [e, if_pos (by simp), if_neg hno, plc_eq ha hno]
    exact ⟨rfl, rfl⟩
  · unfold pre
    rw [e]
    congr 1
    rw [List.mem_append, List.mem_singleton]
    exact propext ⟨fun h2 => h2.elim id fun h3 => absurd h3.symm h, Or.inl⟩
/-- Texts as bytes. -/
def textsL (l : List (List Nat)) : List Nat := ub (uqL l).length ++ ((uqL l).map txL).flatten ++ intsL (l.map fun x => (plc (uqL l) x : Int))
def TX4 (wp : World) (l all : List (List Nat)) (n : Nat) (u v : Value) (wr : World) : Prop :=
  ∃ (i2 : Nat) (A : Option Addr) (c : Nat), i2 ≤ n ∧ v = .int .i64 (i2 : Int) ∧ u = .slice A i2 c ∧ OwnI wr wp.heap.size A i2 c ((l.take i2).map fun x => (plc all x : Int)) ∧ Below wp.heap.size wp wr
def TX5 (wp : World) (ps : List Int) (x : List Nat) (all : List (List Nat)) (i2 m : Nat) (u v : Value) (wr : World) : Prop :=
  ∃ (k q : Nat) (A : Option Addr) (c : Nat), k ≤ m ∧ v = .int .i64 (k : Int) ∧ u = .slice A q c ∧ q ≤ i2 + 1 ∧ OwnI wr wp.heap.size A q c (ps ++ pre all k x) ∧ Below wp.heap.size wp wr
def TX3 (wa : World) (all : List (List Nat)) (m : Nat) (up v : Value) (wr : World) : Prop :=
  ∃ (j N : Nat) (Ap : Option Addr) (cp : Nat), j ≤ m ∧ v = .int .i64 (j : Int) ∧ up = .slice Ap N cp ∧ N ≤ 10 + 1000010 * j ∧ OwnS wr wa.heap.size Ap N cp (ub m ++ ((all.take j).map txL).flatten) ∧ Below wa.heap.size wa wr
end Go.Proofs.YtpobfgokikfmbaaDoor

set_option linter.unusedSimpArgs false
set_option linter.unusedVariables false
set_option maxRecDepth 8000
namespace Go.Proofs.YtpobfgokikfmbaaDoor
open Go.RowKit Go.WideShapes Col

theorem tP_back {most : Nat} (s : List Nat) (h : s.length ≤ most) (hl : s.length < 18446744073709551616) (r : List Nat) : tP most (txL s ++ r) = some (s, r) := by
  unfold tP txL
  rw [List.append_assoc, uP_back h hl]
  simp
theorem runS_texts (ts : List (List Nat)) (h : ∀ s ∈ ts, s.length ≤ 32) (r : List Nat) : ∀ k, k ≤ ts.length → runS (tP 32) k ((ts.map txL).flatten ++ r) = some (ts.take k, ((ts.drop k).map txL).flatten ++ r) := by
  intro k
  induction k with
  | zero => intro _; rfl
  | succ k ih =>
    intro hk
    have hlt : k < ts.length := by omega
    have h1 := ih (by omega)
    rw [List.drop_eq_getElem_cons hlt, List.map_cons, List.flatten_cons, List.append_assoc] at h1
    have hs : (ts[k]).length ≤ 32 := h _ (List.getElem_mem hlt)
    rw [runS_some h1 (tP_back _ hs (by omega) _), List.take_add_one, List.getElem?_eq_getElem hlt]
    rfl
theorem rise_rising {l : List (List Nat)} (h : Rise l) : rising l = true := rising_of fun i s t h1 h2 => by
  obtain ⟨a1, a2⟩ := List.getElem?_eq_some_iff.1 h1
  obtain ⟨b1, b2⟩ := List.getElem?_eq_some_iff.1 h2
  have := List.pairwise_iff_getElem.1 h i (i + 1) a1 b1 (by omega)
  rw [a2, b2] at this; exact this
theorem plc_at {all : List (List Nat)} {x : List Nat} (h : x ∈ all) : all[plc all x]? = some x := by
  induction all with
  | nil => cases h
  | cons a r ih =>
    rw [plc]
    by_cases e : a = x
    · rw [if_pos e, e]; rfl
    · rw [if_neg e, List.getElem?_cons_succ]
      exact ih ((List.mem_cons.1 h).resolve_left fun e2 => e e2.symm)
theorem texts_back (l : List (List Nat)) (hw : ∀ x ∈ l, WfT x) (h32 : ∀ x ∈ l, x.length ≤ 32) (hn : l.length ≤ 4096) : rT (textsL l) = some (l, []) := by
  obtain ⟨hr, hm⟩ := uqL_facts l hw
  have hul := uqL_len l
  have h1 : rU (textsL l) = some (uqL l, intsL (l.map fun x => (plc (uqL l) x : Int))) := by
    unfold textsL
    rw [List.append_assoc]
    refine rU_yes (uP_back (by omega) (by omega) _) (n := (uqL l).length) ?_ (rise_rising hr)
    rw [runS_texts (uqL l) (fun s hs => h32 s ((hm s).1 hs)) _ (uqL l).length (Nat.le_refl _), List.take_length, List.drop_length]
    rfl
  have h2 : rI (intsL (l.map fun x => (plc (uqL l) x : Int))) = some (l.map fun x => (plc (uqL l) x : Int), []) := ints_back _ (fun y hy => by
    obtain ⟨x, -, rfl⟩ := List.mem_map.1 hy
    have := plc_le (uqL l) x; unfold Wf64; omega) (by rw [List.length_map]; exact hn)
  have h3 : okT (uqL l) (l.map fun x => (plc (uqL l) x : Int)) = true := by
    have hlt : ∀ x ∈ l, plc (uqL l) x < (uqL l).length := fun x hx => (List.getElem?_eq_some_iff.1 (plc_at ((hm x).2 hx))).1
    rw [okT_end fun k y hy => by
      rw [List.getElem?_map] at hy
      rcases hx : l[k]? with _ | x
      · rw [hx] at hy; cases hy
      · rw [hx] at hy; injection hy with hy; subst hy
        have := hlt x (List.mem_of_getElem? hx); show (0 : Int) ≤ (plc (uqL l) x : Int) ∧ (plc (uqL l) x : Int) < _; omega]
    rw [Bool.not_eq_true', ← Bool.not_eq_true, List.contains_iff_mem]
    intro hf
    unfold usedL at hf
    obtain ⟨i, hi, hf⟩ := List.mem_map.1 hf
    rw [List.mem_range] at hi
    obtain ⟨x, hx⟩ : ∃ x, (uqL l)[i]? = some x := ⟨_, List.getElem?_eq_getElem hi⟩
    have hxl : x ∈ l := (hm x).1 (List.mem_of_getElem? hx)
    have hpi : plc (uqL l) x = i := plc_eq hx (fun hmem => by
      obtain ⟨j, hj⟩ := List.getElem?_of_mem hmem
      rw [List.getElem?_take] at hj
      split at hj
      · rename_i hji
        obtain ⟨a1, a2⟩ := List.getElem?_eq_some_iff.1 hj
        obtain ⟨b1, b2⟩ := List.getElem?_eq_some_iff.1 hx
        have := List.pairwise_iff_getElem.1 hr j i a1 b1 hji
        rw [a2, b2, tls_irr] at this; cases this
      · cases hj)
    have : (l.map fun x => (plc (uqL l) x : Int)).contains (i : Int) = true := List.contains_iff_mem.2 (List.mem_map.2 ⟨x, hxl, by rw [hpi]⟩)
    rw [this] at hf; cases hf
  rw [rT_yes h1 h2 h3, List.map_map]
  congr 2
  refine (List.map_congr_left fun x hx => ?_).trans (List.map_id l)
  exact pickT_at (plc_at ((hm x).2 hx))
end Go.Proofs.YtpobfgokikfmbaaDoor

set_option linter.unusedSimpArgs false
set_option linter.unusedVariables false
set_option maxRecDepth 8000
namespace Go.Proofs.YtpobfgokikfmbaaDoor
open Go.RowKit Go.Sort Go.WideShapes Col

end Go.Proofs.YtpobfgokikfmbaaDoor

set_option linter.unusedSimpArgs false
set_option linter.unusedVariables false
set_option maxRecDepth 8000
namespace Go.Proofs.YtpobfgokikfmbaaDoor
open Go.RowKit Go.Sort Go.WideShapes Col

end Go.Proofs.YtpobfgokikfmbaaDoor

set_option linter.unusedSimpArgs false
set_option linter.unusedVariables false
set_option maxRecDepth 8000
namespace Go.Proofs.YtpobfgokikfmbaaDoor
open Go.RowKit Go.Sort Go.WideShapes Col

end Go.Proofs.YtpobfgokikfmbaaDoor

set_option linter.unusedSimpArgs false
set_option linter.unusedVariables false
set_option maxRecDepth 8000
namespace Go.Proofs.YtpobfgokikfmbaaDoor
open Go.RowKit Go.Sort Go.WideShapes Col

theorem com_facts (zs : List (List UInt8)) (hs : zs.Pairwise (· ≤ ·)) : ∀ m, m ≤ zs.length → (Go.Lib.compactUpTo zs.toArray m).Pairwise (· < ·) ∧ ∀ y, y ∈ Go.Lib.compactUpTo zs.toArray m ↔ y ∈ zs.take m := by
  intro m
  induction m with
  | zero => intro _; exact ⟨List.Pairwise.nil, fun y => by rw [List.take_zero]; exact Iff.rfl⟩
  | succ m ih =>
    intro hm
    obtain ⟨h1, h2⟩ := ih (by omega)
    have hlt : m < zs.length := by omega
    have ed : ∀ j, (hj : j < zs.length) → zs.toArray[j]! = zs[j] := fun j hj => by simp [hj]
    have et : zs.take (m + 1) = zs.take m ++ [zs[m]] := by rw [List.take_add_one, List.getElem?_eq_getElem hlt]; rfl
    rw [Go.Lib.compactUpTo_succ, et]
    have hle : ∀ y ∈ zs.take m, y ≤ zs[m] := fun y hy => by
      obtain ⟨j, hj⟩ := List.getElem?_of_mem hy
      rw [List.getElem?_take] at hj
      split at hj
      · rename_i hjm
        obtain ⟨a1, a2⟩ := List.getElem?_eq_some_iff.1 hj
        have := List.pairwise_iff_getElem.1 hs j m a1 hlt hjm
        rw [a2] at this; exact this
      · cases hj
    by_cases hk : Go.Lib.keeps zs.toArray m = true
    · rw [if_pos hk, ed m hlt]
      refine ⟨List.pairwise_append.2 ⟨h1, List.pairwise_singleton _ _, fun y hy z hz => ?_⟩, fun y => by rw [List.mem_append, List.mem_append, h2]⟩
      rw [List.mem_singleton] at hz; subst hz
      have hyt := (h2 y).1 hy
      have hya := hle y hyt
      have hne : y ≠ zs[m] := fun e => by
        unfold Go.Lib.keeps at hk
        rcases of_decide_eq_true hk with h0 | h0
        · subst h0; rw [List.take_zero] at hyt; cases hyt
        · have hm0 : 0 < m := by
            rcases Nat.eq_zero_or_pos m with e0 | e0
            · subst e0; rw [List.take_zero] at hyt; cases hyt
            · exact e0
          rw [ed m hlt, ed (m - 1) (by omega)] at h0
          have hp : zs[m - 1] ≤ zs[m] := List.pairwise_iff_getElem.1 hs (m - 1) m (by omega) hlt (by omega)
          obtain ⟨j, hj⟩ := List.getElem?_of_mem hyt
          rw [List.getElem?_take] at hj
          split at hj
          · rename_i hjm
            obtain ⟨a1, a2⟩ := List.getElem?_eq_some_iff.1 hj
            have hq : zs[m] ≤ zs[m - 1] := by
              rw [← e, ← a2]
              by_cases ej : j = m - 1
              · subst ej; exact List.le_refl _
              · exact List.pairwise_iff_getElem.1 hs j (m - 1) a1 (by omega) (by omega)
            exact h0 (List.le_antisymm hq hp)
          · cases hj
      exact Classical.byContradiction fun h => hne (List.le_antisymm hya (List.not_lt.1 h))
    · rw [if_neg hk, List.append_nil]
      refine ⟨h1, fun y => ?_⟩
      rw [h2, List.mem_append, List.mem_singleton]
      refine ⟨Or.inl, fun h => h.elim id fun e => ?_⟩
      subst e
      unfold Go.Lib.keeps at hk
      have hk : ¬ (m = 0 ∨ zs.toArray[m]! ≠ zs.toArray[m - 1]!) := fun h => hk (decide_eq_true h)
      have hm0 : m ≠ 0 := fun e => hk (.inl e)
      have he : zs.toArray[m]! = zs.toArray[m - 1]! := Classical.not_not.1 fun e => hk (.inr e)
      rw [ed m hlt, ed (m - 1) (by omega)] at he
      rw [he]
      exact List.mem_of_getElem? (i := m - 1) (by rw [List.getElem?_take, if_pos (by omega), List.getElem?_eq_getElem])
end Go.Proofs.YtpobfgokikfmbaaDoor

set_option linter.unusedSimpArgs false
set_option linter.unusedVariables false
set_option maxRecDepth 8000
namespace Go.Proofs.YtpobfgokikfmbaaDoor
open Go.RowKit Go.Sort Go.WideShapes Col

/-- A text's bytes as the shelf has them, and back. -/
def tb (x : List Nat) : List UInt8 := (strB x).data.toList
def nb (z : List UInt8) : List Nat := z.map UInt8.toNat
theorem nb_wf (z : List UInt8) : WfT (nb z) := fun c hc => by
  obtain ⟨u, -, rfl⟩ := List.mem_map.1 hc
  exact u.toNat_lt
theorem tb_nb (z : List UInt8) : tb (nb z) = z := by
  unfold tb nb strB
  rw [strOfNums_data, List.map_map, List.map_map]
  conv => rhs; rw [← List.map_id z]
  refine List.map_congr_left fun u _ => ?_
  simp
theorem tb_inj {x y : List Nat} (hx : WfT x) (hy : WfT y) (h : tb x = tb y) : x = y := by
  refine strB_inj hx hy ?_
  exact ByteArray.ext (Array.ext' h)
theorem nb_tb {x : List Nat} (hx : WfT x) : nb (tb x) = x := tb_inj (nb_wf _) hx (tb_nb _)
theorem tvs_tb (l : List (List Nat)) : (l.map tb).map encStr = tvs l := by
  have h := Go.Lib.map_encStr (l.map strB)
  simp only [List.map_map] at h
  unfold tvs
  rw [List.map_map]
  exact h
theorem tvs_nb (zs : List (List UInt8)) : tvs (zs.map nb) = zs.map encStr := by
  have e : (zs.map nb).map tb = zs := by
    rw [List.map_map]
    conv => rhs; rw [← List.map_id zs]
    exact List.map_congr_left fun z _ => tb_nb z
  rw [← tvs_tb, e]
def srtZ (zs : List (List UInt8)) : List (List UInt8) := zs.mergeSort fun x y => decide (x ≤ y)
theorem srtZ_len (zs : List (List UInt8)) : (srtZ zs).length = zs.length := List.length_mergeSort zs
/-- Those that there are, rising. -/
def uqZ (l : List (List Nat)) : List (List Nat) := (Go.Lib.compact (srtZ (l.map tb))).map nb
theorem rise_of {zs : List (List UInt8)} (h : zs.Pairwise (· < ·)) : Rise (zs.map nb) := by
  unfold Rise
  rw [List.pairwise_map]
  refine h.imp fun {a b} hab => ?_
  rw [tls_dec, decide_eq_true_eq, Lib.toList_data, Lib.toList_data]
  have ea := tb_nb a
  have eb := tb_nb b
  unfold tb at ea eb
  rw [ea, eb]
  exact hab
theorem uqZ_eq (l : List (List Nat)) (hw : ∀ x ∈ l, WfT x) : uqZ l = uqL l := by
  obtain ⟨hr, hm⟩ := uqL_facts l hw
  have hs : (srtZ (l.map tb)).Pairwise (· ≤ ·) := by
    have h := List.pairwise_mergeSort (le := fun x y : List UInt8 => decide (x ≤ y)) (fun a b c h1 h2 => by
      rw [decide_eq_true_eq] at h1 h2 ⊢
      exact List.le_trans h1 h2) (fun a b => by
      rw [Bool.or_eq_true, decide_eq_true_eq, decide_eq_true_eq]
      exact List.le_total a b) (l.map tb)
    exact h.imp fun {a b} hab => of_decide_eq_true hab
  obtain ⟨h1, h2⟩ := com_facts _ hs _ (Nat.le_refl _)
  refine rise_ext (rise_of h1) hr fun y => ?_
  rw [hm]
  unfold uqZ
  rw [List.mem_map]
  constructor
  · rintro ⟨z, hz, rfl⟩
    have h3 := (h2 z).1 hz
    rw [List.take_length] at h3
    have h4 := (List.mergeSort_perm (l.map tb) _).mem_iff.1 h3
    obtain ⟨x, hx, rfl⟩ := List.mem_map.1 h4
    rw [nb_tb (hw x hx)]; exact hx
  · intro hy
    refine ⟨tb y, (h2 _).2 ?_, nb_tb (hw y hy)⟩
    rw [List.take_length]
    exact (List.mergeSort_perm (l.map tb) _).mem_iff.2 (List.mem_map.2 ⟨y, hy, rfl⟩)
end Go.Proofs.YtpobfgokikfmbaaDoor

set_option linter.unusedSimpArgs false
set_option linter.unusedVariables false
set_option maxRecDepth 8000
namespace Go.Proofs.YtpobfgokikfmbaaDoor
open Go.RowKit Go.Sort Go.WideShapes Col

end Go.Proofs.YtpobfgokikfmbaaDoor

set_option linter.unusedSimpArgs false
set_option linter.unusedVariables false
set_option maxRecDepth 8000
namespace Go.Proofs.YtpobfgokikfmbaaDoor
open Go.RowKit Go.Sort Go.WideShapes Col

end Go.Proofs.YtpobfgokikfmbaaDoor

set_option linter.unusedSimpArgs false
set_option linter.unusedVariables false
set_option maxRecDepth 8000
namespace Go.Proofs.YtpobfgokikfmbaaDoor
open Go.RowKit Go.WideShapes Col

theorem strCells_by (s : List Nat) (hs : WfT s) : Go.Lib.strCells (strB s) = bys s := by
  unfold Go.Lib.strCells strB bys
  rw [strOfNums_data, List.map_map, List.map_map]
  refine List.map_congr_left fun x hx => ?_
  show Value.int .u8 ((UInt8.ofNat (Int.ofNat x).toNat).toNat : Int) = .int .u8 (x : Int)
  rw [show (Int.ofNat x).toNat = x from rfl, UInt8.toNat_ofNat_of_lt' (by simpa using hs x hx)]
theorem ownStr {w : World} {B n : Nat} {v : Value} {l : List Value} (h : w.ownsRow B 5 1 v n l) : ∃ A cap, v = .slice A n cap := by
  rcases h.2 with ⟨e0, e1⟩ | ⟨g, cap', cur, e0, -⟩
  · exact ⟨none, 0, by rw [e0, e1]⟩
  · exact ⟨_, _, e0⟩
theorem ownB {w : World} {B n cap : Nat} {A : Option Addr} {l : List Nat} (h : OwnS w B A n cap l) : ∀ k, (Value.slice A n cap).ownBlock = some k → B ≤ k := fun k hk => by
  rcases A with _ | a
  · cases hk
  · exact h.base k (by simpa [Value.ownBlock] using hk)
end Go.Proofs.YtpobfgokikfmbaaDoor

set_option linter.unusedSimpArgs false
set_option linter.unusedVariables false
set_option maxRecDepth 8000
namespace Go.Proofs.YtpobfgokikfmbaaDoor
open Go.RowKit Go.Sort Go.WideShapes Col

theorem flat_snoc (m : Nat) (all : List (List Nat)) (j : Nat) (s : List Nat) (h : all[j]? = some s) : ub m ++ ((all.take j).map txL).flatten ++ txL s = ub m ++ ((all.take (j + 1)).map txL).flatten := by
  rw [List.take_add_one, h]
  simp
theorem plc_wf (all : List (List Nat)) (hn : all.length ≤ 5000) (x : List Nat) : Wf64 (plc all x : Int) := by
  have := plc_le all x
  exact ⟨by omega, by omega⟩
theorem plc_snoc (all l : List (List Nat)) (k : Nat) (x : List Nat) (h : l[k]? = some x) : (l.map fun x => (plc all x : Int)).take (k + 1) = (l.map fun x => (plc all x : Int)).take k ++ [(plc all x : Int)] := by
  rw [List.take_add_one, List.getElem?_map, h]; rfl
end Go.Proofs.YtpobfgokikfmbaaDoor
