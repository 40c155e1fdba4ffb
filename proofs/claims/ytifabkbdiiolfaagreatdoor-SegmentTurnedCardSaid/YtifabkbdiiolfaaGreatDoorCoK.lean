/-
  Layer column, plain facts: what is laid is read.
-/
import Derived.Test.YtifabkbdiiolfaaGreatDoorCjK
set_option linter.unusedSimpArgs false
set_option linter.unusedVariables false
set_option maxRecDepth 8000
namespace Go.Proofs.YtifabkbdiiolfaaGreatDoor
open Go.RowKit Go.WideShapes Col
namespace Col
def rW (way n : Nat) (q : List Nat) : Option (List Int × List Nat) := if way = 0 then runS zP n q else if way = 1 then rdDelta n q else if way = 2 then rruns n q else if way = 3 then rpk n q else none
/-- Whole numbers read, in whatever way they were laid. -/
def rI : List Nat → Option (List Int × List Nat)
 | [] => none
 | way :: q => (uP 4096 q).bind fun p => rW way p.1 p.2
theorem rI_no {way : Nat} {q : List Nat} (h : uP 4096 q = none) : rI (way :: q) = none := by rw [rI, h]; rfl
theorem rI_yes {way n : Nat} {q r : List Nat} (h : uP 4096 q = some (n, r)) : rI (way :: q) = rW way n r := by rw [rI, h]; rfl
end Col
theorem Rd.high' {w w' : World} {g : Nat} {q : List Nat} {S : Nat → Prop} (h : Rd w g q) (hk : Kept S w w') (hS : ∀ k, S k → k ≠ g) (ho : ∀ A C, RdA w g A C q → Off S A q) : Rd w' g q := by
 obtain ⟨A, C, h⟩ := h
 exact ⟨A, C, h.keep hk (fun e => hS g e rfl) (ho A C h)⟩
theorem ListEnds.up {g : Nat} {o : Option (List Int × List Nat)} {w w2 w' : World} {e : Ending} (h : ListEnds g (Only g) (RdM g) o w2 e w') (hb : Kept (Only g) w w2) : ListEnds g (Only g) (RdM g) o w e w' := by
 have := h.lift hb (fun s => s) (fun s w' h => h) (fun k hk => .inl hk)
 rcases o with _ | p <;> exact this
set_option maxHeartbeats 4000000 in
theorem readInts_any (g : Nat) (q : List Nat) (w : World) (H : Hid (RdM g q w)) :
  Calls Tryz.prog 167 #[.pointer (some ⟨g, 0, none⟩)] w (ListEnds g (Only g) (RdM g) (rI q) w) := by
 rcases q with _ | ⟨way, q⟩
 ·have HB := Lib.hid (byte_no g w (Lib.hid H.out.1))
  go_enter Tryz.func167, Tryz.ntmps167
  go_wp2_with (go_at_call 133; (with_reducible refine (HB.out).mono ?_); rintro e w2 ⟨rfl, h1, h2⟩)
  exact ⟨rfl, rfl, h1, h2⟩
 ·have HB := Lib.hid (byte_yes g way q w (Lib.hid H.out.1))
  have hw256 := H.out.1.lt way (List.mem_cons_self ..)
  have HQL : Hid (q.length ≤ 1099511627776) := Lib.hid (by have := H.out.2; simp at this; omega)
  rcases hu : uP 4096 q with _ | ⟨n, r⟩
  ·have HN := Lib.hid (rI_no (way := way) hu)
   have HU := Lib.hid hu
   clear hu
   go_enter Tryz.func167, Tryz.ntmps167
   go_wp2_with (first
    | (go_at_call 133; (with_reducible refine (HB.out).mono ?_); rintro e w2 hy; obtain ⟨rfl, HR1, HK1⟩ := Yes.rd hy; clear hy)
    | (go_at_call 79; (refine (uint_no g 4096 q HU q.length (Lib.hid rfl) HQL.out _ HR1).mono ?_); rintro e w3 ⟨rfl, h1, h2⟩))
   rw [HN.out]
   exact ⟨rfl, rfl, h1, HK1.out.trans h2⟩
  ·have HU := Lib.hid hu
   have HY := Lib.hid (rI_yes (way := way) hu)
   have hn := (uP_some hu).2
   have HRL := Lib.hid (Nat.le_trans (uP_left hu) HQL.out)
   have hni : IntKind.i64.wrap (n : Int) = (n : Int) := by rw [IntKind.wrap_i64]; omega
   clear hu
   have hcases : way = 0 ∨ way = 1 ∨ way = 2 ∨ way = 3 ∨ 4 ≤ way := by omega
   rcases hcases with rfl | rfl | rfl | rfl | h4
   ·have HE : Hid (rI (0 :: q) = runS zP n r) := Lib.hid (by rw [HY.out]; rfl)
    rcases ho : runS zP n r with _ | ⟨xs, r9⟩
    ·have HO := Lib.hid (HE.out.trans ho)
     have HO2 := Lib.hid ho
     clear ho
     go_enter Tryz.func167, Tryz.ntmps167
     go_wp2_with (first
      | (go_at_call 133; (first | (with_reducible refine (HB.out).mono ?_) | refine (HB.out).mono ?_); rintro e w2 hy; obtain ⟨rfl, HR1, HK1⟩ := Yes.rd hy; clear hy)
      | (go_at_call 79; (refine (uint_yes g 4096 n q r HU (by have := HQL.out; omega) _ HR1).mono ?_); rintro e w3 hy; obtain ⟨rfl, HR2, HK2⟩ := Yes.rd hy; clear hy)
      | (go_at_call 185; (refine (plain_any g n hn r _ (Lib.hid ⟨HR2.out, HRL.out⟩)).mono ?_); intro e w4 h9; have h8 := h9.up (HK1.out.trans HK2.out); clear h9; rw [HO2.out] at h8; obtain ⟨rfl, h1, h2⟩ := h8))
     rw [HO.out]
     exact ⟨rfl, rfl, h1, h2⟩
    ·have HO := Lib.hid (HE.out.trans ho)
     have HO2 := Lib.hid ho
     clear ho
     go_enter Tryz.func167, Tryz.ntmps167
     go_wp2_with (first
      | (go_at_call 133; (first | (with_reducible refine (HB.out).mono ?_) | refine (HB.out).mono ?_); rintro e w2 hy; obtain ⟨rfl, HR1, HK1⟩ := Yes.rd hy; clear hy)
      | (go_at_call 79; (refine (uint_yes g 4096 n q r HU (by have := HQL.out; omega) _ HR1).mono ?_); rintro e w3 hy; obtain ⟨rfl, HR2, HK2⟩ := Yes.rd hy; clear hy)
      | (go_at_call 185; (refine (plain_any g n hn r _ (Lib.hid ⟨HR2.out, HRL.out⟩)).mono ?_); intro e w4 h9; have h8 := h9.up (HK1.out.trans HK2.out); clear h9; rw [HO2.out] at h8; obtain ⟨⟨A, n', cap, rfl, ho'⟩, h1, h2⟩ := h8; have HO' := Lib.hid ho'; have H1 := Lib.hid h1; have H2 := Lib.hid h2; clear ho' h1 h2))
     go_ret
     rw [HO.out]
     exact ⟨⟨A, n', cap, rfl, HO'.out⟩, H1.out, H2.out⟩
   ·have HE : Hid (rI (1 :: q) = rdDelta n r) := Lib.hid (by rw [HY.out]; rfl)
    rcases ho : rdDelta n r with _ | ⟨xs, r9⟩
    ·have HO := Lib.hid (HE.out.trans ho)
     have HO2 := Lib.hid ho
     clear ho
     go_enter Tryz.func167, Tryz.ntmps167
     go_wp2_with (first
      | (go_at_call 133; (first | (with_reducible refine (HB.out).mono ?_) | refine (HB.out).mono ?_); rintro e w2 hy; obtain ⟨rfl, HR1, HK1⟩ := Yes.rd hy; clear hy)
      | (go_at_call 79; (refine (uint_yes g 4096 n q r HU (by have := HQL.out; omega) _ HR1).mono ?_); rintro e w3 hy; obtain ⟨rfl, HR2, HK2⟩ := Yes.rd hy; clear hy)
      | (go_at_call 186; (refine (readDelta_any g n hn r _ (Lib.hid ⟨HR2.out, HRL.out⟩)).mono ?_); intro e w4 h9; have h8 := h9.up (HK1.out.trans HK2.out); clear h9; rw [HO2.out] at h8; obtain ⟨rfl, h1, h2⟩ := h8))
     rw [HO.out]
     exact ⟨rfl, rfl, h1, h2⟩
    ·have HO := Lib.hid (HE.out.trans ho)
     have HO2 := Lib.hid ho
     clear ho
     go_enter Tryz.func167, Tryz.ntmps167
     go_wp2_with (first
      | (go_at_call 133; (first | (with_reducible refine (HB.out).mono ?_) | refine (HB.out).mono ?_); rintro e w2 hy; obtain ⟨rfl, HR1, HK1⟩ := Yes.rd hy; clear hy)
      | (go_at_call 79; (refine (uint_yes g 4096 n q r HU (by have := HQL.out; omega) _ HR1).mono ?_); rintro e w3 hy; obtain ⟨rfl, HR2, HK2⟩ := Yes.rd hy; clear hy)
      | (go_at_call 186; (refine (readDelta_any g n hn r _ (Lib.hid ⟨HR2.out, HRL.out⟩)).mono ?_); intro e w4 h9; have h8 := h9.up (HK1.out.trans HK2.out); clear h9; rw [HO2.out] at h8; obtain ⟨⟨A, n', cap, rfl, ho'⟩, h1, h2⟩ := h8; have HO' := Lib.hid ho'; have H1 := Lib.hid h1; have H2 := Lib.hid h2; clear ho' h1 h2))
     go_ret
     rw [HO.out]
     exact ⟨⟨A, n', cap, rfl, HO'.out⟩, H1.out, H2.out⟩
   ·have HE : Hid (rI (2 :: q) = rruns n r) := Lib.hid (by rw [HY.out]; rfl)
    rcases ho : rruns n r with _ | ⟨xs, r9⟩
    ·have HO := Lib.hid (HE.out.trans ho)
     have HO2 := Lib.hid ho
     clear ho
     go_enter Tryz.func167, Tryz.ntmps167
     go_wp2_with (first
      | (go_at_call 133; (first | (with_reducible refine (HB.out).mono ?_) | refine (HB.out).mono ?_); rintro e w2 hy; obtain ⟨rfl, HR1, HK1⟩ := Yes.rd hy; clear hy)
      | (go_at_call 79; (refine (uint_yes g 4096 n q r HU (by have := HQL.out; omega) _ HR1).mono ?_); rintro e w3 hy; obtain ⟨rfl, HR2, HK2⟩ := Yes.rd hy; clear hy)
      | (go_at_call 187; (refine (readRuns_any g n hn r _ (Lib.hid ⟨HR2.out, HRL.out⟩)).mono ?_); intro e w4 h9; have h8 := h9.up (HK1.out.trans HK2.out); clear h9; rw [HO2.out] at h8; obtain ⟨rfl, h1, h2⟩ := h8))
     rw [HO.out]
     exact ⟨rfl, rfl, h1, h2⟩
    ·have HO := Lib.hid (HE.out.trans ho)
     have HO2 := Lib.hid ho
     clear ho
     go_enter Tryz.func167, Tryz.ntmps167
     go_wp2_with (first
      | (go_at_call 133; (first | (with_reducible refine (HB.out).mono ?_) | refine (HB.out).mono ?_); rintro e w2 hy; obtain ⟨rfl, HR1, HK1⟩ := Yes.rd hy; clear hy)
      | (go_at_call 79; (refine (uint_yes g 4096 n q r HU (by have := HQL.out; omega) _ HR1).mono ?_); rintro e w3 hy; obtain ⟨rfl, HR2, HK2⟩ := Yes.rd hy; clear hy)
      | (go_at_call 187; (refine (readRuns_any g n hn r _ (Lib.hid ⟨HR2.out, HRL.out⟩)).mono ?_); intro e w4 h9; have h8 := h9.up (HK1.out.trans HK2.out); clear h9; rw [HO2.out] at h8; obtain ⟨⟨A, n', cap, rfl, ho'⟩, h1, h2⟩ := h8; have HO' := Lib.hid ho'; have H1 := Lib.hid h1; have H2 := Lib.hid h2; clear ho' h1 h2))
     go_ret
     rw [HO.out]
     exact ⟨⟨A, n', cap, rfl, HO'.out⟩, H1.out, H2.out⟩
   ·have HE : Hid (rI (3 :: q) = rpk n r) := Lib.hid (by rw [HY.out]; rfl)
    rcases ho : rpk n r with _ | ⟨xs, r9⟩
    ·have HO := Lib.hid (HE.out.trans ho)
     have HO2 := Lib.hid ho
     clear ho
     go_enter Tryz.func167, Tryz.ntmps167
     go_wp2_with (first
      | (go_at_call 133; (first | (with_reducible refine (HB.out).mono ?_) | refine (HB.out).mono ?_); rintro e w2 hy; obtain ⟨rfl, HR1, HK1⟩ := Yes.rd hy; clear hy)
      | (go_at_call 79; (refine (uint_yes g 4096 n q r HU (by have := HQL.out; omega) _ HR1).mono ?_); rintro e w3 hy; obtain ⟨rfl, HR2, HK2⟩ := Yes.rd hy; clear hy)
      | (go_at_call 188; (refine (readPacked_any g n hn r _ (Lib.hid ⟨HR2.out, HRL.out⟩)).mono ?_); intro e w4 h9; have h8 := h9.up (HK1.out.trans HK2.out); clear h9; rw [HO2.out] at h8; obtain ⟨rfl, h1, h2⟩ := h8))
     rw [HO.out]
     exact ⟨rfl, rfl, h1, h2⟩
    ·have HO := Lib.hid (HE.out.trans ho)
     have HO2 := Lib.hid ho
     clear ho
     go_enter Tryz.func167, Tryz.ntmps167
     go_wp2_with (first
      | (go_at_call 133; (first | (with_reducible refine (HB.out).mono ?_) | refine (HB.out).mono ?_); rintro e w2 hy; obtain ⟨rfl, HR1, HK1⟩ := Yes.rd hy; clear hy)
      | (go_at_call 79; (refine (uint_yes g 4096 n q r HU (by have := HQL.out; omega) _ HR1).mono ?_); rintro e w3 hy; obtain ⟨rfl, HR2, HK2⟩ := Yes.rd hy; clear hy)
      | (go_at_call 188; (refine (readPacked_any g n hn r _ (Lib.hid ⟨HR2.out, HRL.out⟩)).mono ?_); intro e w4 h9; have h8 := h9.up (HK1.out.trans HK2.out); clear h9; rw [HO2.out] at h8; obtain ⟨⟨A, n', cap, rfl, ho'⟩, h1, h2⟩ := h8; have HO' := Lib.hid ho'; have H1 := Lib.hid h1; have H2 := Lib.hid h2; clear ho' h1 h2))
     go_ret
     rw [HO.out]
     exact ⟨⟨A, n', cap, rfl, HO'.out⟩, H1.out, H2.out⟩
   ·have HN : Hid (rI (way :: q) = none) := Lib.hid (by rw [HY.out]; unfold rW; rw [if_neg (by omega), if_neg (by omega), if_neg (by omega), if_neg (by omega)])
    have e0 : ((way : Int) == 0) = false := by rw [beq_eq_false_iff_ne]; omega
    have e1 : ((way : Int) == 1) = false := by rw [beq_eq_false_iff_ne]; omega
    have e2 : ((way : Int) == 2) = false := by rw [beq_eq_false_iff_ne]; omega
    have e3 : ((way : Int) == 3) = false := by rw [beq_eq_false_iff_ne]; omega
    go_enter Tryz.func167, Tryz.ntmps167
    go_wp2_with (first
     | (go_at_call 133; (with_reducible refine (HB.out).mono ?_); rintro e w2 hy; obtain ⟨rfl, HR1, HK1⟩ := Yes.rd hy; clear hy)
     | (go_at_call 79; (refine (uint_yes g 4096 n q r HU (by have := HQL.out; omega) _ HR1).mono ?_); rintro e w3 hy; obtain ⟨rfl, HR2, HK2⟩ := Yes.rd hy; clear hy)
     | (go_at_call 80; obtain ⟨A1, C1, hR⟩ := HR2.out; (refine (check_false g C1 A1 r _ (Lib.hid hR)).mono ?_); rintro e w4 ⟨rfl, h1, h2⟩))
    rw [HN.out]
    exact ⟨rfl, rfl, h1, (HK1.out.trans HK2.out).trans h2⟩
/-- The reading of a list, all of it. -/
def riL (q : List Nat) : Option (List Int) := match rI q with
 | some (l, []) => some l
 | _ => none
theorem riL_some {q : List Nat} {l : List Int} (h : rI q = some (l, [])) : riL q = some l := by unfold riL; rw [h]
theorem riL_none {q : List Nat} (h : rI q = none) : riL q = none := by unfold riL; rw [h]
theorem riL_left {q r : List Nat} {l : List Int} (h : rI q = some (l, r)) (hr : r ≠ []) : riL q = none := by
 unfold riL; rw [h]
 rcases r with _ | ⟨x, r⟩
 ·exact absurd rfl hr
 ·rfl
theorem OwnI.keptG {w w' : World} {B n cap g : Nat} {A : Option Addr} {l : List Int} (h : OwnI w B A n cap l) (hk : Kept (Only g) w w') (hne : g < B) : OwnI w' B A n cap l :=
 ⟨h.1.kept (row := some g) ⟨hk.os, hk.tape, hk.output, hk.size, fun k hk' hn => hk.block k hk' (fun e => hn (by rw [show k = g from e]))⟩ (by
  have hb := h.base
  rcases A with _ | a
  ·simp [Value.ownBlock]
  ·have := hb a.block rfl
   simp [Value.ownBlock]; omega), h.2⟩
theorem off_slice {w : World} {cl y z : Nat} {A x : Option Addr} {q : List Nat} {ty : TypeId} (h : ByAt w A q) (hr : w.heap[cl]? = some (.cells #[.slice x y z] ty (0, 0))) : Off (fun k => k = cl) A q := fun a ha hl hs => by
 obtain ⟨b, off, e, hb, hc⟩ := h.spot hl
 rw [e] at ha; injection ha with ha; subst ha
 have hc0 := hc 0 q[0] (List.getElem?_eq_getElem hl)
 have hs : b = cl := hs
 subst hs
 rw [cell_of_row _ _ _ _ _ _ hr] at hc0
 have hj : off + 0 < 1 := (Array.getElem?_eq_some_iff.1 hc0).1
 obtain rfl : off = 0 := by omega
 simp at hc0
/-- What the list's cell holds behind the reading. -/
def RdL (q : List Nat) (cl B : Nat) (b : Bool) (w : World) : Prop := match b with
 | true => ∃ A n cap l, riL q = some l ∧ w.heap[cl]? = some (.cells #[.slice A n cap] 122 (0, 0)) ∧ OwnI w B A n cap l
 | false => riL q = none
theorem RdL.keep {q : List Nat} {cl B g : Nat} {b : Bool} {w w' : World} (h : RdL q cl B b w) (hk : Kept (Only g) w w') (h1 : cl ≠ g) (h2 : g < B) : RdL q cl B b w' := by
 cases b with
 | false => exact h
 | true =>
  obtain ⟨A, n, cap, l, e, hr, ho⟩ := h
  exact ⟨A, n, cap, l, e, hk.heap hr fun e => h1 e, ho.keptG hk h2⟩
theorem RdL.less {q : List Nat} {cl B B' : Nat} {b : Bool} {w : World} (h : RdL q cl B b w) (hB : B' ≤ B) : RdL q cl B' b w := by
 cases b with
 | false => exact h
 | true =>
  obtain ⟨A, n, cap, l, e, hr, ho⟩ := h
  exact ⟨A, n, cap, l, e, hr, ho.more hB⟩
set_option maxHeartbeats 2000000 in
theorem listFn_any (g bf cl : Nat) (q : List Nat) (hql : q.length ≤ 1099511627776) (w : World) (HR : Hid (Rd w g q)) (Hf : Hid (w.heap[bf]? = some (.cells #[.func (.func 167) #[] #[]] 213 (0, 0)))) (Hc : Hid (w.heap[cl]? = some (.cells #[.slice none 0 0] 122 (0, 0)))) (h1 : cl < g) (h2 : bf < g) :
  Calls Tryz.prog 184 #[.pointer (some ⟨g, 0, none⟩), .pointer (some ⟨bf, 0, none⟩), .pointer (some ⟨cl, 0, none⟩)] w (Tried g (fun k => k = cl) (RdL q cl (g + 1)) w) := by
 have hc := cell_of_row w bf 0 _ _ _ Hf.out
 simp only [List.getElem?_toArray] at hc
 have hc : w.cell? ⟨bf, 0, none⟩ = some (.func (.func 167) #[] #[]) := by rw [cell_of_row _ _ _ _ _ _ Hf.out]; rfl
 have HI := Lib.hid (readInts_any g q w (Lib.hid ⟨HR.out, hql⟩))
 have hgl := HR.out.glt
 rcases ho : rI q with _ | ⟨l, r⟩
 ·have HO := Lib.hid ho
  clear ho
  go_enter Tryz.func184, Tryz.ntmps184
  go_wp2_with (go_at_call 167; refine (HI.out).mono ?_; intro e w3 h8; rw [HO.out] at h8; obtain ⟨rfl, h1, h2⟩ := h8)
  exact ⟨rfl, h2.mono fun k hk => .inl (.inr hk), .inr ⟨rfl, h1, riL_none HO.out⟩⟩
 ·have HO := Lib.hid ho
  clear ho
  go_enter Tryz.func184, Tryz.ntmps184
  go_wp2_with (go_at_call 167; refine (HI.out).mono ?_; intro e w3 h8; rw [HO.out] at h8; obtain ⟨⟨A, n, cap, rfl, h3⟩, h4, h5⟩ := h8; have HOW := Lib.hid h3; have HRD := Lib.hid h4; have HK := Lib.hid h5; have hrow := h5.heap Hc.out (fun e => by have e : cl = g := e; omega); have c3 : w3.cell? ⟨cl, 0, none⟩ = some (.slice none 0 0) := (by rw [cell_of_row _ _ _ _ _ _ hrow]; rfl); have f3 : w3.frozen? ⟨cl, 0, none⟩ = false := row_frozen hrow 0; have HROW := Lib.hid hrow; clear h3 h4 h5 hrow)
  have hk : Kept (fun k => k = cl) w3 (w3.setCell ⟨cl, 0, none⟩ (.slice A n cap)) := (Kept.refl _ _).setCell _ _ (.inl rfl)
  have hrow2 : (w3.setCell ⟨cl, 0, none⟩ (.slice A n cap)).heap[cl]? = some (.cells #[.slice A n cap] 122 (0, 0)) := by
   have := HROW.out; rw [World.setCell]; simp [Array.getElem?_modify, this]
  have hkk : Kept (fun k => k = cl ∨ k = g) w (w3.setCell ⟨cl, 0, none⟩ (.slice A n cap)) := (HK.out.mono fun k hk => .inl (.inr hk)).setCell _ _ (.inl (.inl rfl))
  refine bodyPost_end (results_none rfl _ _ _) rfl ⟨hkk, .inl ⟨r, rfl, HRD.out.1.high' hk (fun k hk => by have hk : k = cl := hk; omega) (fun A C h => off_slice h.bytes HROW.out), ?_⟩⟩
  by_cases hr : r = []
  ·subst hr
   have ho2 : OwnI (w3.setCell ⟨cl, 0, none⟩ (.slice A n cap)) w.heap.size A n cap l := HOW.out.keptG (g := cl) hk (by omega)
   exact ⟨A, n, cap, l, riL_some HO.out, hrow2, ho2.more (by omega)⟩
  ·have : decide (r = []) = false := by simpa using hr
   rw [this]
   exact riL_left HO.out hr
end Go.Proofs.YtifabkbdiiolfaaGreatDoor

namespace Go.Proofs.YtifabkbdiiolfaaGreatDoor
open Go.RowKit Go.WideShapes Col
/-- How ReadInts ends. -/
def RdEnds (o : Option (List Int)) (w : World) (e : Ending) (w' : World) : Prop := match o with
 | some l => (∃ A n cap, e = .returned (.tuple #[.slice A n cap, .int .i64 0]) ∧ OwnI w' w.heap.size A n cap l) ∧ Below w.heap.size w w'
 | none => e = .returned (.tuple #[.slice none 0 0, .int .i64 3]) ∧ Below w.heap.size w w'
theorem rdl_no {q : List Nat} {cl B : Nat} {b : Bool} {w : World} (h : riL q = none) (hr : RdL q cl B b w) : b = false := by
 rcases b with _ | _
 ·rfl
 ·obtain ⟨A9, n9, c9, l9, e9, -⟩ := hr
  rw [h] at e9; cases e9
theorem rdl_yes {q : List Nat} {cl B : Nat} {b : Bool} {w : World} {l : List Int} (h : riL q = some l) (hr : RdL q cl B b w) : b = true := by
 rcases b with _ | _
 ·have hr : riL q = none := hr
  rw [h] at hr; cases hr
 ·rfl
set_option maxHeartbeats 2000000 in
theorem readListI_any (A : Option Addr) (C : Nat) (q : List Nat) (n : Nat) (hn : Hid (n = q.length)) (hn4 : n ≤ 1099511627776) (hC : n ≤ C) (hC' : C ≤ maxLen) (w : World) (HA : Hid (ByAt w A q)) :
  Calls Tryz.prog 166 #[.slice A n C, .func (.func 167) #[] #[]] w (RdEnds (riL q) w) := by
 obtain ⟨bf, w1, hbf, hw1, hrow1, hb1, hbf1⟩ := alloc_pt w (.func (.func 167) #[] #[]) 213
 obtain ⟨cl, w2, hcl, hw2, hrow2, hb2, hcl2⟩ := alloc_pt w1 (.slice none 0 0) 122
 have HW : Hid ((w.alloc (.cells #[.func (.func 167) #[] #[]] 213)).alloc (.cells #[.slice none 0 0] 122) = w2) := Lib.hid (by rw [hw2, hw1])
 have hsz : w1.heap.size = w.heap.size + 1 := by rw [hw1]; simp
 have HBF := Lib.hid hbf; have HCL : Hid (cl = w.heap.size + 1) := Lib.hid (by rw [hcl, hsz])
 have HB2 : Hid (Below w.heap.size w w2) := Lib.hid (below_to hb1 hb2)
 have hrf2 : w2.heap[bf]? = some (.cells #[.func (.func 167) #[] #[]] 213 (0, 0)) := (Kept.of_below (S := fun _ => False) hb2).heap hrow1 fun e => e
 have ht := try_any 184 #[] #[.pointer (some ⟨bf, 0, none⟩), .pointer (some ⟨cl, 0, none⟩)] A C q n hn hC hC' w2 (Lib.hid (HA.out.keep HB2.out)) (fun k => k = cl) (fun k hk => by have hk : k = cl := hk; omega)
  (fun g => RdL q cl (g + 1)) (RdL q cl w2.heap.size) (fun g b v2 v3 hg h hk => (h.keep hk (by omega) (Nat.lt_succ_self _)).less (by omega))
  (fun g v1 hg hr hb => listFn_any g bf cl q (by rw [← hn.out]; exact hn4) v1 (Lib.hid hr) (Lib.hid ((Kept.of_below (S := fun _ => False) hb).heap hrf2 fun e => e)) (Lib.hid ((Kept.of_below (S := fun _ => False) hb).heap hrow2 fun e => e)) (by omega) (by omega))
  (fun _ _ => by first | rfl | kernel_rfl)
 have HT := Lib.hid ht
 have HR2 := Lib.hid hrow2
 clear ht hbf hw1 hrow1 hb1 hcl hw2 hrow2 hb2 hrf2 hbf1
 go_enter Tryz.func166, Tryz.ntmps166
 go_upto_region 2 with fail
 have e1 : w.heap.size = bf := HBF.out.symm
 have e2 : w.heap.size + 1 = cl := HCL.out.symm
 have hx : ∀ (w3 : World) (b : Bool), RdL q cl w2.heap.size b w3 → Kept (fun k => k = cl) w2 w3 → Below w.heap.size w w3 := fun w3 b _ hk => HB2.out.trans (hk.below (B := w.heap.size) (by omega) fun k hk => by have hk : k = cl := hk; omega)
 have HX := Lib.hid hx
 clear hx
 rw [HW.out, e2, e1]
 clear e1 e2
 rcases ho : riL q with _ | l
 ·have HO := Lib.hid ho
  clear ho
  go_wp2_with (go_at_call 46; (with_reducible refine (HT.out).mono ?_); rintro e w3 ⟨b, rfl, hr, hk⟩; obtain rfl := rdl_no HO.out hr; have HB3 := Lib.hid (HX.out w3 false hr hk); clear hr hk)
  go_ret2
  rw [HO.out]
  exact ⟨rfl, HB3.out⟩
 ·have HO := Lib.hid ho
  clear ho
  go_wp2_with (go_at_call 46; (with_reducible refine (HT.out).mono ?_); rintro e w3 ⟨b, rfl, hr, hk⟩; obtain rfl := rdl_yes HO.out hr; have HB3 := Lib.hid (HX.out w3 true hr hk); obtain ⟨A9, n9, c9, l9, e9, hrow9, how9⟩ := hr; rw [HO.out] at e9; injection e9 with e9; subst e9; have HOW := Lib.hid (how9.more HB2.out.size); have c9c : w3.cell? ⟨cl, 0, none⟩ = some (.slice A9 n9 c9) := (by rw [cell_of_row _ _ _ _ _ _ hrow9]; rfl); clear hk hrow9 how9)
  go_ret2
  rw [HO.out]
  exact ⟨⟨A9, n9, c9, rfl, HOW.out⟩, HB3.out⟩
set_option maxHeartbeats 2000000 in
theorem readIntsC_any (A : Option Addr) (C : Nat) (q : List Nat) (n : Nat) (hn : Hid (n = q.length)) (hn4 : n ≤ 1099511627776) (hC : n ≤ C) (hC' : C ≤ maxLen) (w : World) (HA : Hid (ByAt w A q)) :
  Calls Tryz.prog 136 #[.slice A n C] w (RdEnds (riL q) w) := by
 have HT := Lib.hid (readListI_any A C q n hn hn4 hC hC' w HA)
 rcases ho : riL q with _ | l
 ·have HO := Lib.hid ho
  rw [ho] at HT
  clear ho
  go_enter Tryz.func136, Tryz.ntmps136
  go_wp2_with (go_at_call 166; (with_reducible refine (HT.out).mono ?_); rintro e w3 ⟨rfl, hb⟩; have HB := Lib.hid hb; clear hb)
  go_ret2
  exact ⟨rfl, HB.out⟩
 ·have HO := Lib.hid ho
  rw [ho] at HT
  clear ho
  go_enter Tryz.func136, Tryz.ntmps136
  go_wp2_with (go_at_call 166; (with_reducible refine (HT.out).mono ?_); rintro e w3 ⟨⟨A9, n9, c9, rfl, ho⟩, hb⟩; have HB := Lib.hid hb; have HOW := Lib.hid ho; clear hb ho)
  go_ret2
  exact ⟨⟨A9, n9, c9, rfl, HOW.out⟩, HB.out⟩
end Go.Proofs.YtifabkbdiiolfaaGreatDoor

namespace Go.Proofs.YtifabkbdiiolfaaGreatDoor
open Go.RowKit Go.WideShapes Col
namespace Col
theorem grp_back (n : Nat) (hn : n < 18446744073709551616) (r : List Nat) : grp 0 (ub n ++ r) = some (n, r) := grp_ub r n 0 ⟨by omega, hn⟩ (.inr rfl)
theorem uP_back {most n : Nat} (hn : n ≤ most) (h : n < 18446744073709551616) (r : List Nat) : uP most (ub n ++ r) = some (n, r) := by
 unfold uP; rw [grp_back n h r]; simp [hn]
theorem zP_back {x : Int} (h : Wf64 x) (r : List Nat) : zP (ub (zz x) ++ r) = some (x, r) := by
 unfold zP; rw [grp_back _ (zz_lt h) r]; simp [uz_zz]
theorem drop_get {l : List Int} {k : Nat} (h : k < l.length) : ∃ x, l[k]? = some x ∧ l.drop k = x :: l.drop (k + 1) ∧ l.take (k + 1) = l.take k ++ [x] :=
 ⟨l[k], List.getElem?_eq_getElem h, List.drop_eq_getElem_cons h, by rw [List.take_add_one, List.getElem?_eq_getElem h]; rfl⟩
theorem plain_back (l : List Int) (hl : ∀ x ∈ l, Wf64 x) (r : List Nat) : ∀ k, k ≤ l.length → runS zP k (lpl l ++ r) = some (l.take k, lpl (l.drop k) ++ r)
 | 0, _ => by simp [runS]
 | k + 1, h => by
  obtain ⟨x, hx, h1, h2⟩ := drop_get (l := l) (k := k) (by omega)
  rw [runS, plain_back l hl r k (by omega), h1]
  have e : lpl (x :: l.drop (k + 1)) = ub (zz x) ++ lpl (l.drop (k + 1)) := by simp [lpl]
  simp only [Option.bind_some]
  rw [e, List.append_assoc, zP_back (hl x (List.mem_of_getElem? hx)), h2]; rfl
theorem delta_back (l : List Int) (hl : ∀ x ∈ l, Wf64 x) (r : List Nat) : ∀ k, k ≤ l.length → runS dstep k (0, lde 0 l ++ r) = some (l.take k, (lastOf 0 (l.take k), lde (lastOf 0 (l.take k)) (l.drop k) ++ r))
 | 0, _ => by simp [runS, lastOf]
 | k + 1, h => by
  obtain ⟨x, hx, h1, h2⟩ := drop_get (l := l) (k := k) (by omega)
  have hp := lastOf_wf (l.take k) fun y hy => hl y (List.mem_of_mem_take hy)
  have hwx := hl x (List.mem_of_getElem? hx)
  have hls := lastOf_snoc 0 l k x hx
  rw [runS, delta_back l hl r k (by omega), h1]
  generalize lastOf 0 (l.take k) = p at *
  have e : wrap64 (p + sub64 x p) = x := by
   rw [sub64_eq]; unfold wrap64; unfold Wf64 at *; omega
  simp only [Option.bind_some]
  rw [lde, List.append_assoc]
  unfold dstep
  simp only
  rw [zP_back (sub64_wf x p)]
  simp only [Option.map_some]
  rw [e, h2, ← h2, hls, h2]
theorem runN_take (x : Int) : ∀ t : List Int, t.take (runN x t) = List.replicate (runN x t) x
 | [] => rfl
 | y :: t => by
  unfold runN
  split
  ·rename_i h; subst h; rw [List.take_succ_cons, runN_take y t]; rfl
  ·rfl
theorem runs_back (n : Nat) : ∀ l : List Int, l.length ≤ n → l.length ≤ 1000000 → (∀ x ∈ l, Wf64 x) → ∀ r, rruns l.length (lru l ++ r) = some (l, r) := by
 induction n with
 | zero => intro l h _ _ r; rw [List.eq_nil_of_length_eq_zero (by omega : l.length = 0), lru_nil]; exact rruns_zero r
 | succ n ih =>
  intro l h h1 h2 r
  rcases l with _ | ⟨x, t⟩
  ·rw [lru_nil]; exact rruns_zero r
  ·have hr := runN_le x t
   have hk : runN x t < 18446744073709551616 := by simp at h1; omega
   have h3 := ih (t.drop (runN x t)) (by rw [List.length_drop]; simp at h; omega) (by rw [List.length_drop]; simp at h1; omega) (fun y hy => h2 y (List.mem_cons_of_mem _ (List.mem_of_mem_drop hy))) r
   rw [List.length_drop] at h3
   rw [lru, List.length_cons, List.append_assoc, rruns_yes (zP_back (h2 x (List.mem_cons_self ..)) _) (by rw [List.append_assoc]; exact uP_back hr hk _), h3]
   simp only [Option.map_some, List.replicate_succ, List.cons_append]
   rw [← runN_take, List.take_append_drop]
theorem pk_get (W : Nat) : ∀ (ds : List Nat) (i d : Nat), ds[i]? = some d → (∀ x ∈ ds, x < 2 ^ W) → bitsAt (pk W ds) (i * W) W = d
 | [], i, d, h, _ => by simp at h
 | e :: ds, 0, d, h, hd => by
  simp at h; subst h
  unfold bitsAt
  rw [pk, Nat.zero_mul, Nat.pow_zero, Nat.div_one, Nat.add_mul_mod_self_left, Nat.mod_eq_of_lt (hd _ (List.mem_cons_self ..))]
 | e :: ds, i + 1, d, h, hd => by
  have ih := pk_get W ds i d (by simpa using h) fun x hx => hd x (List.mem_cons_of_mem _ hx)
  unfold bitsAt at *
  rw [pk, Nat.add_mul, Nat.one_mul, Nat.add_comm (i * W), Nat.pow_add, ← Nat.div_div_eq_div_mul, Nat.add_mul_div_left _ _ (Nat.two_pow_pos _), Nat.div_eq_of_lt (hd e (List.mem_cons_self ..)), Nat.zero_add]
  exact ih
theorem packed_back (l : List Int) (hl : ∀ x ∈ l, Wf64 x) (r : List Nat) : rpk l.length (lpk l ++ r) = some (l, r) := by
 by_cases h0 : l.length = 0
 ·rw [List.eq_nil_of_length_eq_zero h0, lpk_nil]; rfl
 ·have hW := wid_le hl
  have hmn := mnL_wf hl
  have hpk := pk_lt (wid l) (digs l) dig_lt
  have hdl : (digs l).length = l.length := List.length_map ..
  rw [hdl, Nat.mul_comm] at hpk
  have hV : pk (wid l) (digs l) < 2 ^ (8 * ((l.length * wid l + 7) / 8)) := Nat.lt_of_lt_of_le hpk (Nat.pow_le_pow_right (by decide) (by omega))
  have hlen := leb_length ((l.length * wid l + 7) / 8) (pk (wid l) (digs l))
  have hget : ∀ (i : Nat) (x : Int), l[i]? = some x → pval (wid l) (pk (wid l) (digs l)) (mnL l) i = x := fun i x hx => by
   have hd : (digs l)[i]? = some (dig (mnL l) x) := by unfold digs; rw [List.getElem?_map, hx]; rfl
   unfold pval
   rw [pk_get _ _ i _ hd dig_lt]
   have h1 := mn_le (List.mem_of_getElem? hx)
   have h2 := hl x (List.mem_of_getElem? hx)
   unfold dig
   rw [IntKind.wrap_i64]; unfold wrap64; unfold Wf64 at *; omega
  rw [lpk_some (by omega)]
  generalize wid l = W at *
  generalize pk W (digs l) = V at *
  have ht : (leb ((l.length * W + 7) / 8) V ++ r).take ((l.length * W + 7) / 8) = leb ((l.length * W + 7) / 8) V := by
   rw [List.take_append_of_le_length (by omega), List.take_of_length_le (by omega)]
  have hdr : (leb ((l.length * W + 7) / 8) V ++ r).drop ((l.length * W + 7) / 8) = r := by
   rw [List.drop_append_of_le_length (by omega), List.drop_of_length_le (by omega), List.nil_append]
  rw [List.append_assoc, rpk_of h0 (zP_back hmn _), List.append_assoc]
  show rpk2 _ _ (W :: (leb _ V ++ r)) = _
  rw [rpk2_yes rfl ⟨hW, by rw [List.length_append, hlen]; omega, by rw [ht, vlb_leb, Nat.mod_eq_of_lt hV]; exact hpk⟩, ht, hdr, vlb_leb, Nat.mod_eq_of_lt hV]
  congr 2
  apply List.ext_getElem?
  intro i
  by_cases hi : i < l.length
  ·rw [List.getElem?_map, List.getElem?_range hi, List.getElem?_eq_getElem hi]
   exact congrArg some (hget i _ (List.getElem?_eq_getElem hi))
  ·rw [List.getElem?_eq_none (by simp; omega), List.getElem?_eq_none (by omega)]
/-- What As lays ReadInts reads. -/
theorem as_back (way : Nat) (hw : way < 4) (l : List Int) (hl : ∀ x ∈ l, Wf64 x) (hn : l.length ≤ 4096) : rI (asL way l) = some (l, []) := by
 unfold asL
 rw [List.append_assoc]
 show rI (way :: (ub l.length ++ _)) = _
 rw [rI_yes (uP_back hn (by omega) _)]
 have hcases : way = 0 ∨ way = 1 ∨ way = 2 ∨ way = 3 := by omega
 unfold rW
 rcases hcases with rfl | rfl | rfl | rfl
 ·have h := plain_back l hl [] l.length (Nat.le_refl _)
  rw [List.append_nil, List.take_length, List.drop_length, lpl_nil] at h
  simpa using h
 ·have h := delta_back l hl [] l.length (Nat.le_refl _)
  rw [List.append_nil, List.take_length, List.drop_length] at h
  simp [rdDelta, h, lde]
 ·have h := runs_back l.length l (Nat.le_refl _) (by omega) hl []
  rw [List.append_nil] at h
  simpa using h
 ·have h := packed_back l hl []
  rw [List.append_nil] at h
  simpa using h
theorem best_is (k : Nat) (l : List Int) : ∃ way, way ≤ k ∧ bestL k l = asL way l := by
 induction k with
 | zero => exact ⟨0, Nat.le_refl _, rfl⟩
 | succ k ih =>
  obtain ⟨way, h1, h2⟩ := ih
  show ∃ way, way ≤ k + 1 ∧ pickL (bestL k l) (asL (k + 1) l) = asL way l
  unfold pickL
  split
  ·exact ⟨k + 1, Nat.le_refl _, rfl⟩
  ·exact ⟨way, by omega, h2⟩
theorem ints_back (l : List Int) (hl : ∀ x ∈ l, Wf64 x) (hn : l.length ≤ 4096) : rI (intsL l) = some (l, []) := by
 obtain ⟨way, h1, h2⟩ := best_is 3 l
 unfold intsL; rw [h2]; exact as_back way (by omega) l hl hn
theorem pick_le (b p : List Nat) : (pickL b p).length ≤ b.length ∧ (pickL b p).length ≤ p.length := by unfold pickL; split <;> omega
theorem best_le (k : Nat) (l : List Int) : ∀ way, way ≤ k → (bestL k l).length ≤ (asL way l).length := by
 induction k with
 | zero => intro way h; rw [show way = 0 by omega]; exact Nat.le_refl _
 | succ k ih =>
  intro way h
  show (pickL (bestL k l) (asL (k + 1) l)).length ≤ _
  obtain ⟨h1, h2⟩ := pick_le (bestL k l) (asL (k + 1) l)
  by_cases e : way = k + 1
  ·rw [e]; exact h2
  ·exact Nat.le_trans h1 (ih way (by omega))
end Col
end Go.Proofs.YtifabkbdiiolfaaGreatDoor
