/-
  Layer column: readInts, ReadInts.
-/
import Derived.Test.YtifabkbdiiolfaaGreatDoorCjK
set_option linter.unusedSimpArgs false
set_option linter.unusedVariables false
set_option maxRecDepth 8000
namespace Go.Proofs.YtifabkbdiiolfaaGreatDoor
open Go.RowKit Go.WideShapes Col
namespace Col
def rW (way n : Nat) (q : List Nat) : Option (List Int × List Nat) := if way = 0 then runS zP n q else if way = 1 then rdDelta n q else if way = 2 then rruns n q else if way = 3 then rpk n q else none
/-- Whole numbers read, in whatever way they were laid. -/
def rI : List Nat → Option (List Int × List Nat)
 | [] => none
 | way :: q => (uP 4096 q).bind fun p => rW way p.1 p.2
theorem rI_no {way : Nat} {q : List Nat} (h : uP 4096 q = none) : rI (way :: q) = none := by rw [rI, h]; rfl
theorem rI_yes {way n : Nat} {q r : List Nat} (h : uP 4096 q = some (n, r)) : rI (way :: q) = rW way n r := by rw [rI, h]; rfl
end Col
theorem Rd.high' {w w' : World} {g : Nat} {q : List Nat} {S : Nat → Prop} (h : Rd w g q) (hk : Kept S w w') (hS : ∀ k, S k → k ≠ g) (ho : ∀ A C, RdA w g A C q → Off S A q) : Rd w' g q := by
 obtain ⟨A, C, h⟩ := h
 exact ⟨A, C, h.keep hk (fun e => hS g e rfl) (ho A C h)⟩
theorem ListEnds.up {g : Nat} {o : Option (List Int × List Nat)} {w w2 w' : World} {e : Ending} (h : ListEnds g (Only g) (RdM g) o w2 e w') (hb : Kept (Only g) w w2) : ListEnds g (Only g) (RdM g) o w e w' := by
 have := h.lift hb (fun s => s) (fun s w' h => h) (fun k hk => .inl hk)
 rcases o with _ | p <;> exact this
set_option maxHeartbeats 4000000 in
theorem readInts_any (g : Nat) (q : List Nat) (w : World) (H : Hid (RdM g q w)) :
  Calls Tryz.prog 167 #[.pointer (some ⟨g, 0, none⟩)] w (ListEnds g (Only g) (RdM g) (rI q) w) := by
 rcases q with _ | ⟨way, q⟩
 ·have HB := Lib.hid (byte_no g w (Lib.hid H.out.1))
  go_enter Tryz.func167, Tryz.ntmps167
  go_wp2_with (go_at_call 133; (with_reducible refine (HB.out).mono ?_); rintro e w2 ⟨rfl, h1, h2⟩)
  exact ⟨rfl, rfl, h1, h2⟩
 ·have HB := Lib.hid (byte_yes g way q w (Lib.hid H.out.1))
  have hw256 := H.out.1.lt way (List.mem_cons_self ..)
  have HQL : Hid (q.length ≤ 1099511627776) := Lib.hid (by have := H.out.2; simp at this; omega)
  rcases hu : uP 4096 q with _ | ⟨n, r⟩
  ·have HN := Lib.hid (rI_no (way := way) hu)
   have HU := Lib.hid hu
   clear hu
   go_enter Tryz.func167, Tryz.ntmps167
   go_wp2_with (first
    | (go_at_call 133; (with_reducible refine (HB.out).mono ?_); rintro e w2 hy; obtain ⟨rfl, HR1, HK1⟩ := Yes.rd hy; clear hy)
    | (go_at_call 79; (refine (uint_no g 4096 q HU q.length (Lib.hid rfl) HQL.out _ HR1).mono ?_); rintro e w3 ⟨rfl, h1, h2⟩))
   rw [HN.out]
   exact ⟨rfl, rfl, h1, HK1.out.trans h2⟩
  ·have HU := Lib.hid hu
   have HY := Lib.hid (rI_yes (way := way) hu)
   have hn := (uP_some hu).2
   have HRL := Lib.hid (Nat.le_trans (uP_left hu) HQL.out)
   have hni : IntKind.i64.wrap (n : Int) = (n : Int) := by rw [IntKind.wrap_i64]; omega
   clear hu
   have hcases : way = 0 ∨ way = 1 ∨ way = 2 ∨ way = 3 ∨ 4 ≤ way := by omega
   rcases hcases with rfl | rfl | rfl | rfl | h4
   ·have HE : Hid (rI (0 :: q) = runS zP n r) := Lib.hid (by rw [HY.out]; rfl)
    rcases ho : runS zP n r with _ | ⟨xs, r9⟩
    ·have HO := Lib.hid (HE.out.trans ho)
     have HO2 := Lib.hid ho
     clear ho
     go_enter Tryz.func167, Tryz.ntmps167
     go_wp2_with (first
      | (go_at_call 133; (first | (with_reducible refine (HB.out).mono ?_) | refine (HB.out).mono ?_); rintro e w2 hy; obtain ⟨rfl, HR1, HK1⟩ := Yes.rd hy; clear hy)
      | (go_at_call 79; (refine (uint_yes g 4096 n q r HU (by have := HQL.out; omega) _ HR1).mono ?_); rintro e w3 hy; obtain ⟨rfl, HR2, HK2⟩ := Yes.rd hy; clear hy)
      | (go_at_call 185; (refine (plain_any g n hn r _ (Lib.hid ⟨HR2.out, HRL.out⟩)).mono ?_); intro e w4 h9; have h8 := h9.up (HK1.out.trans HK2.out); clear h9; rw [HO2.out] at h8; obtain ⟨rfl, h1, h2⟩ := h8))
     rw [HO.out]
     exact ⟨rfl, rfl, h1, h2⟩
    ·have HO := Lib.hid (HE.out.trans ho)
     have HO2 := Lib.hid ho
     clear ho
     go_enter Tryz.func167, Tryz.ntmps167
     go_wp2_with (first
      | (go_at_call 133; (first | (with_reducible refine (HB.out).mono ?_) | refine (HB.out).mono ?_); rintro e w2 hy; obtain ⟨rfl, HR1, HK1⟩ := Yes.rd hy; clear hy)
      | (go_at_call 79; (refine (uint_yes g 4096 n q r HU (by have := HQL.out; omega) _ HR1).mono ?_); rintro e w3 hy; obtain ⟨rfl, HR2, HK2⟩ := Yes.rd hy; clear hy)
      | (go_at_call 185; (refine (plain_any g n hn r _ (Lib.hid ⟨HR2.out, HRL.out⟩)).mono ?_); intro e w4 h9; have h8 := h9.up (HK1.out.trans HK2.out); clear h9; rw [HO2.out] at h8; obtain ⟨⟨A, n', cap, rfl, ho'⟩, h1, h2⟩ := h8; have HO' := Lib.hid ho'; have H1 := Lib.hid h1; have H2 := Lib.hid h2; clear ho' h1 h2))
     go_ret
     rw [HO.out]
     exact ⟨⟨A, n', cap, rfl, HO'.out⟩, H1.out, H2.out⟩
   ·have HE : Hid (rI (1 :: q) = rdDelta n r) := Lib.hid (by rw [HY.out]; rfl)
    rcases ho : rdDelta n r with _ | ⟨xs, r9⟩
    ·have HO := Lib.hid (HE.out.trans ho)
     have HO2 := Lib.hid ho
     clear ho
     go_enter Tryz.func167, Tryz.ntmps167
     go_wp2_with (first
      | (go_at_call 133; (first | (with_reducible refine (HB.out).mono ?_) | refine (HB.out).mono ?_); rintro e w2 hy; obtain ⟨rfl, HR1, HK1⟩ := Yes.rd hy; clear hy)
      | (go_at_call 79; (refine (uint_yes g 4096 n q r HU (by have := HQL.out; omega) _ HR1).mono ?_); rintro e w3 hy; obtain ⟨rfl, HR2, HK2⟩ := Yes.rd hy; clear hy)
      | (go_at_call 186; (refine (readDelta_any g n hn r _ (Lib.hid ⟨HR2.out, HRL.out⟩)).mono ?_); intro e w4 h9; have h8 := h9.up (HK1.out.trans HK2.out); clear h9; rw [HO2.out] at h8; obtain ⟨rfl, h1, h2⟩ := h8))
     rw [HO.out]
     exact ⟨rfl, rfl, h1, h2⟩
    ·have HO := Lib.hid (HE.out.trans ho)
     have HO2 := Lib.hid ho
     clear ho
     go_enter Tryz.func167, Tryz.ntmps167
     go_wp2_with (first
      | (go_at_call 133; (first | (with_reducible refine (HB.out).mono ?_) | refine (HB.out).mono ?_); rintro e w2 hy; obtain ⟨rfl, HR1, HK1⟩ := Yes.rd hy; clear hy)
      | (go_at_call 79; (refine (uint_yes g 4096 n q r HU (by have := HQL.out; omega) _ HR1).mono ?_); rintro e w3 hy; obtain ⟨rfl, HR2, HK2⟩ := Yes.rd hy; clear hy)
      | (go_at_call 186; (refine (readDelta_any g n hn r _ (Lib.hid ⟨HR2.out, HRL.out⟩)).mono ?_); intro e w4 h9; have h8 := h9.up (HK1.out.trans HK2.out); clear h9; rw [HO2.out] at h8; obtain ⟨⟨A, n', cap, rfl, ho'⟩, h1, h2⟩ := h8; have HO' := Lib.hid ho'; have H1 := Lib.hid h1; have H2 := Lib.hid h2; clear ho' h1 h2))
     go_ret
     rw [HO.out]
     exact ⟨⟨A, n', cap, rfl, HO'.out⟩, H1.out, H2.out⟩
   ·have HE : Hid (rI (2 :: q) = rruns n r) := Lib.hid (by rw [HY.out]; rfl)
    rcases ho : rruns n r with _ | ⟨xs, r9⟩
    ·have HO := Lib.hid (HE.out.trans ho)
     have HO2 := Lib.hid ho
     clear ho
     go_enter Tryz.func167, Tryz.ntmps167
     go_wp2_with (first
      | (go_at_call 133; (first | (with_reducible refine (HB.out).mono ?_) | refine (HB.out).mono ?_); rintro e w2 hy; obtain ⟨rfl, HR1, HK1⟩ := Yes.rd hy; clear hy)
      | (go_at_call 79; (refine (uint_yes g 4096 n q r HU (by have := HQL.out; omega) _ HR1).mono ?_); rintro e w3 hy; obtain ⟨rfl, HR2, HK2⟩ := Yes.rd hy; clear hy)
      | (go_at_call 187; (refine (readRuns_any g n hn r _ (Lib.hid ⟨HR2.out, HRL.out⟩)).mono ?_); intro e w4 h9; have h8 := h9.up (HK1.out.trans HK2.out); clear h9; rw [HO2.out] at h8; obtain ⟨rfl, h1, h2⟩ := h8))
     rw [HO.out]
     exact ⟨rfl, rfl, h1, h2⟩
    ·have HO := Lib.hid (HE.out.trans ho)
     have HO2 := Lib.hid ho
     clear ho
     go_enter Tryz.func167, Tryz.ntmps167
     go_wp2_with (first
      | (go_at_call 133; (first | (with_reducible refine (HB.out).mono ?_) | refine (HB.out).mono ?_); rintro e w2 hy; obtain ⟨rfl, HR1, HK1⟩ := Yes.rd hy; clear hy)
      | (go_at_call 79; (refine (uint_yes g 4096 n q r HU (by have := HQL.out; omega) _ HR1).mono ?_); rintro e w3 hy; obtain ⟨rfl, HR2, HK2⟩ := Yes.rd hy; clear hy)
      | (go_at_call 187; (refine (readRuns_any g n hn r _ (Lib.hid ⟨HR2.out, HRL.out⟩)).mono ?_); intro e w4 h9; have h8 := h9.up (HK1.out.trans HK2.out); clear h9; rw [HO2.out] at h8; obtain ⟨⟨A, n', cap, rfl, ho'⟩, h1, h2⟩ := h8; have HO' := Lib.hid ho'; have H1 := Lib.hid h1; have H2 := Lib.hid h2; clear ho' h1 h2))
     go_ret
     rw [HO.out]
     exact ⟨⟨A, n', cap, rfl, HO'.out⟩, H1.out, H2.out⟩
   ·have HE : Hid (rI (3 :: q) = rpk n r) := Lib.hid (by rw [HY.out]; rfl)
    rcases ho : rpk n r with _ | ⟨xs, r9⟩
    ·have HO := Lib.hid (HE.out.trans ho)
     have HO2 := Lib.hid ho
     clear ho
     go_enter Tryz.func167, Tryz.ntmps167
     go_wp2_with (first
      | (go_at_call 133; (first | (with_reducible refine (HB.out).mono ?_) | refine (HB.out).mono ?_); rintro e w2 hy; obtain ⟨rfl, HR1, HK1⟩ := Yes.rd hy; clear hy)
      | (go_at_call 79; (refine (uint_yes g 4096 n q r HU (by have := HQL.out; omega) _ HR1).mono ?_); rintro e w3 hy; obtain ⟨rfl, HR2, HK2⟩ := Yes.rd hy; clear hy)
      | (go_at_call 188; (refine (readPacked_any g n hn r _ (Lib.hid ⟨HR2.out, HRL.out⟩)).mono ?_); intro e w4 h9; have h8 := h9.up (HK1.out.trans HK2.out); clear h9; rw [HO2.out] at h8; obtain ⟨rfl, h1, h2⟩ := h8))
     rw [HO.out]
     exact ⟨rfl, rfl, h1, h2⟩
    ·have HO := Lib.hid (HE.out.trans ho)
     have HO2 := Lib.hid ho
     clear ho
     go_enter Tryz.func167, Tryz.ntmps167
     go_wp2_with (first
      | (go_at_call 133; (first | (with_reducible refine (HB.out).mono ?_) | refine (HB.out).mono ?_); rintro e w2 hy; obtain ⟨rfl, HR1, HK1⟩ := Yes.rd hy; clear hy)
      | (go_at_call 79; (refine (uint_yes g 4096 n q r HU (by have := HQL.out; omega) _ HR1).mono ?_); rintro e w3 hy; obtain ⟨rfl, HR2, HK2⟩ := Yes.rd hy; clear hy)
      | (go_at_call 188; (refine (readPacked_any g n hn r _ (Lib.hid ⟨HR2.out, HRL.out⟩)).mono ?_); intro e w4 h9; have h8 := h9.up (HK1.out.trans HK2.out); clear h9; rw [HO2.out] at h8; obtain ⟨⟨A, n', cap, rfl, ho'⟩, h1, h2⟩ := h8; have HO' := Lib.hid ho'; have H1 := Lib.hid h1; have H2 := Lib.hid h2; clear ho' h1 h2))
     go_ret
     rw [HO.out]
     exact ⟨⟨A, n', cap, rfl, HO'.out⟩, H1.out, H2.out⟩
   ·have HN : Hid (rI (way :: q) = none) := Lib.hid (by rw [HY.out]; unfold rW; rw [if_neg (by omega), if_neg (by omega), if_neg (by omega), if_neg (by omega)])
    have e0 : ((way : Int) == 0) = false := by rw [beq_eq_false_iff_ne]; omega
    have e1 : ((way : Int) == 1) = false := by rw [beq_eq_false_iff_ne]; omega
    have e2 : ((way : Int) == 2) = false := by rw [beq_eq_false_iff_ne]; omega
    have e3 : ((way : Int) == 3) = false := by rw [beq_eq_false_iff_ne]; omega
    go_enter Tryz.func167, Tryz.ntmps167
    go_wp2_with (first
     | (go_at_call 133; (with_reducible refine (HB.out).mono ?_); rintro e w2 hy; obtain ⟨rfl, HR1, HK1⟩ := Yes.rd hy; clear hy)
     | (go_at_call 79; (refine (uint_yes g 4096 n q r HU (by have := HQL.out; omega) _ HR1).mono ?_); rintro e w3 hy; obtain ⟨rfl, HR2, HK2⟩ := Yes.rd hy; clear hy)
     | (go_at_call 80; obtain ⟨A1, C1, hR⟩ := HR2.out; (refine (check_false g C1 A1 r _ (Lib.hid hR)).mono ?_); rintro e w4 ⟨rfl, h1, h2⟩))
    rw [HN.out]
    exact ⟨rfl, rfl, h1, (HK1.out.trans HK2.out).trans h2⟩
/-- The reading of a list, all of it. -/
def riL (q : List Nat) : Option (List Int) := match rI q with
 | some (l, []) => some l
 | _ => none
theorem riL_some {q : List Nat} {l : List Int} (h : rI q = some (l, [])) : riL q = some l := by unfold riL; rw [h]
theorem riL_none {q : List Nat} (h : rI q = none) : riL q = none := by unfold riL; rw [h]
theorem riL_left {q r : List Nat} {l : List Int} (h : rI q = some (l, r)) (hr : r ≠ []) : riL q = none := by
 unfold riL; rw [h]
 rcases r with _ | ⟨x, r⟩
 ·exact absurd rfl hr
 ·rfl
theorem OwnI.keptG {w w' : World} {B n cap g : Nat} {A : Option Addr} {l : List Int} (h : OwnI w B A n cap l) (hk : Kept (Only g) w w') (hne : g < B) : OwnI w' B A n cap l :=
 ⟨h.1.kept (row := some g) ⟨hk.os, hk.tape, hk.output, hk.size, fun k hk' hn => hk.block k hk' (fun e => hn (by rw [show k = g from e]))⟩ (by
  have hb := h.base
  rcases A with _ | a
  ·simp [Value.ownBlock]
  ·have := hb a.block rfl
   simp [Value.ownBlock]; omega), h.2⟩
theorem off_slice {w : World} {cl y z : Nat} {A x : Option Addr} {q : List Nat} {ty : TypeId} (h : ByAt w A q) (hr : w.heap[cl]? = some (.cells #[.slice x y z] ty (0, 0))) : Off (fun k => k = cl) A q := fun a ha hl hs => by
 obtain ⟨b, off, e, hb, hc⟩ := h.spot hl
 rw [e] at ha; injection ha with ha; subst ha
 have hc0 := hc 0 q[0] (List.getElem?_eq_getElem hl)
 have hs : b = cl := hs
 subst hs
 rw [cell_of_row _ _ _ _ _ _ hr] at hc0
 have hj : off + 0 < 1 := (Array.getElem?_eq_some_iff.1 hc0).1
 obtain rfl : off = 0 := by omega
 simp at hc0
/-- What the list's cell holds behind the reading. -/
def RdL (q : List Nat) (cl B : Nat) (b : Bool) (w : World) : Prop := match b with
 | true => ∃ A n cap l, riL q = some l ∧ w.heap[cl]? = some (.cells #[.slice A n cap] 122 (0, 0)) ∧ OwnI w B A n cap l
 | false => riL q = none
theorem RdL.keep {q : List Nat} {cl B g : Nat} {b : Bool} {w w' : World} (h : RdL q cl B b w) (hk : Kept (Only g) w w') (h1 : cl ≠ g) (h2 : g < B) : RdL q cl B b w' := by
 cases b with
 | false => exact h
 | true =>
  obtain ⟨A, n, cap, l, e, hr, ho⟩ := h
  exact ⟨A, n, cap, l, e, hk.heap hr fun e => h1 e, ho.keptG hk h2⟩
theorem RdL.less {q : List Nat} {cl B B' : Nat} {b : Bool} {w : World} (h : RdL q cl B b w) (hB : B' ≤ B) : RdL q cl B' b w := by
 cases b with
 | false => exact h
 | true =>
  obtain ⟨A, n, cap, l, e, hr, ho⟩ := h
  exact ⟨A, n, cap, l, e, hr, ho.more hB⟩
set_option maxHeartbeats 2000000 in
theorem listFn_any (g bf cl : Nat) (q : List Nat) (hql : q.length ≤ 1099511627776) (w : World) (HR : Hid (Rd w g q)) (Hf : Hid (w.heap[bf]? = some (.cells #[.func (.func 167) #[] #[]] 213 (0, 0)))) (Hc : Hid (w.heap[cl]? = some (.cells #[.slice none 0 0] 122 (0, 0)))) (h1 : cl < g) (h2 : bf < g) :
  Calls Tryz.prog 184 #[.pointer (some ⟨g, 0, none⟩), .pointer (some ⟨bf, 0, none⟩), .pointer (some ⟨cl, 0, none⟩)] w (Tried g (fun k => k = cl) (RdL q cl (g + 1)) w) := by
 have hc := cell_of_row w bf 0 _ _ _ Hf.out
 simp only [List.getElem?_toArray] at hc
 have hc : w.cell? ⟨bf, 0, none⟩ = some (.func (.func 167) #[] #[]) := by rw [cell_of_row _ _ _ _ _ _ Hf.out]; rfl
 have HI := Lib.hid (readInts_any g q w (Lib.hid ⟨HR.out, hql⟩))
 have hgl := HR.out.glt
 rcases ho : rI q with _ | ⟨l, r⟩
 ·have HO := Lib.hid ho
  clear ho
  go_enter Tryz.func184, Tryz.ntmps184
  go_wp2_with (go_at_call 167; refine (HI.out).mono ?_; intro e w3 h8; rw [HO.out] at h8; obtain ⟨rfl, h1, h2⟩ := h8)
  exact ⟨rfl, h2.mono fun k hk => .inl (.inr hk), .inr ⟨rfl, h1, riL_none HO.out⟩⟩
 ·have HO := Lib.hid ho
  clear ho
  go_enter Tryz.func184, Tryz.ntmps184
  go_wp2_with (go_at_call 167; refine (HI.out).mono ?_; intro e w3 h8; rw [HO.out] at h8; obtain ⟨⟨A, n, cap, rfl, h3⟩, h4, h5⟩ := h8; have HOW := Lib.hid h3; have HRD := Lib.hid h4; have HK := Lib.hid h5; have hrow := h5.heap Hc.out (fun e => by have e : cl = g := e; omega); have c3 : w3.cell? ⟨cl, 0, none⟩ = some (.slice none 0 0) := (by rw [cell_of_row _ _ _ _ _ _ hrow]; rfl); have f3 : w3.frozen? ⟨cl, 0, none⟩ = false := row_frozen hrow 0; have HROW := Lib.hid hrow; clear h3 h4 h5 hrow)
  have hk : Kept (fun k => k = cl) w3 (w3.setCell ⟨cl, 0, none⟩ (.slice A n cap)) := (Kept.refl _ _).setCell _ _ (.inl rfl)
  have hrow2 : (w3.setCell ⟨cl, 0, none⟩ (.slice A n cap)).heap[cl]? = some (.cells #[.slice A n cap] 122 (0, 0)) := by
   have := HROW.out; rw [World.setCell]; simp [Array.getElem?_modify, this]
  have hkk : Kept (fun k => k = cl ∨ k = g) w (w3.setCell ⟨cl, 0, none⟩ (.slice A n cap)) := (HK.out.mono fun k hk => .inl (.inr hk)).setCell _ _ (.inl (.inl rfl))
  refine bodyPost_end (results_none rfl _ _ _) rfl ⟨hkk, .inl ⟨r, rfl, HRD.out.1.high' hk (fun k hk => by have hk : k = cl := hk; omega) (fun A C h => off_slice h.bytes HROW.out), ?_⟩⟩
  by_cases hr : r = []
  ·subst hr
   have ho2 : OwnI (w3.setCell ⟨cl, 0, none⟩ (.slice A n cap)) w.heap.size A n cap l := HOW.out.keptG (g := cl) hk (by omega)
   exact ⟨A, n, cap, l, riL_some HO.out, hrow2, ho2.more (by omega)⟩
  ·have : decide (r = []) = false := by simpa using hr
   rw [this]
   exact riL_left HO.out hr
end Go.Proofs.YtifabkbdiiolfaaGreatDoor
