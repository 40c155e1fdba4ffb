/-
  Layer column: readInts, ReadInts.
-/
import Derived.Test.YtpobfgokikfmbaaGreatDoorQPbak3
set_option linter.unusedSimpArgs false
set_option linter.unusedVariables false
set_option maxRecDepth 8000
namespace Go.Proofs.YtpobfgokikfmbaaGreatDoor
open Go.RowKit Go.WideShapes Col
namespace Col
def rW (way n : Nat) (q : List Nat) : Option (List Int × List Nat) := if way = 0 then runS zP n q else if way = 1 then rdDelta n q else if way = 2 then rruns n q else if way = 3 then rpk n q else none
/-- Whole numbers read, in whatever way they were laid. -/
def rI : List Nat → Option (List Int × List Nat)
  | [] => none
  | way :: q => (uP 4096 q).bind fun p => rW way p.1 p.2
theorem rI_no {way : Nat} {q : List Nat} (h : uP 4096 q = none) : rI (way :: q) = none := by rw [rI, h]; rfl
theorem rI_yes {way n : Nat} {q r : List Nat} (h : uP 4096 q = some (n, r)) : rI (way :: q) = rW way n r := by rw [rI, h]; rfl
end Col
theorem Rd.high' {w w' : World} {g : Nat} {q : List Nat} {S : Nat → Prop} (h : Rd w g q) (hk : Kept S w w') (hS : ∀ k, S k → k ≠ g) (ho : ∀ A C, RdA w g A C q → Off S A q) : Rd w' g q := by
  obtain ⟨A, C, h⟩ := h
  exact ⟨A, C, h.keep hk (fun e => hS g e rfl) (ho A C h)⟩
theorem ListEnds.up {g : Nat} {o : Option (List Int × List Nat)} {w w2 w' : World} {e : Ending} (h : ListEnds g (Only g) (RdM g) o w2 e w') (hb : Kept (Only g) w w2) : ListEnds g (Only g) (RdM g) o w e w' := by
  have := h.lift hb (fun s => s) (fun s w' h => h) (fun k hk => .inl hk)
  rcases o with _ | p <;> exact this
set_option maxHeartbeats 4000000 in
theorem readInts_any (g : Nat) (q : List Nat) (w : World) (H : Hid (RdM g q w)) :
    Calls Tryz.prog 76 #[.pointer (some ⟨g, 0, none⟩)] w (ListEnds g (Only g) (RdM g) (rI q) w) := by
  rcases q with _ | ⟨way, q⟩
  · have HB := Lib.hid (byte_no g w (Lib.hid H.out.1))
    go_enter Tryz.func76, Tryz.ntmps76
    go_wp2_with (go_at_call 110; (with_reducible refine (HB.out).mono ?_); rintro e w2 ⟨rfl, h1, h2⟩)
    exact ⟨rfl, rfl, h1, h2⟩
  · have HB := Lib.hid (byte_yes g way q w (Lib.hid H.out.1))
    have hw256 := H.out.1.lt way (List.mem_cons_self ..)
    have HQL : Hid (q.length ≤ 1099511627776) := Lib.hid (by have := H.out.2; simp at this; omega)
    rcases hu : uP 4096 q with _ | ⟨n, r⟩
    · have HN := Lib.hid (rI_no (way := way) hu)
      have HU := Lib.hid hu
      clear hu
      go_enter Tryz.func76, Tryz.ntmps76
      go_wp2_with (first
        | (go_at_call 110; (with_reducible refine (HB.out).mono ?_); rintro e w2 hy; obtain ⟨rfl, HR1, HK1⟩ := Yes.rd hy; clear hy)
        | (go_at_call 108; (refine (uint_no g 4096 q HU q.length (Lib.hid rfl) HQL.out _ HR1).mono ?_); rintro e w3 ⟨rfl, h1, h2⟩))
      rw [HN.out]
      exact ⟨rfl, rfl, h1, HK1.out.trans h2⟩
    · have HU := Lib.hid hu
      have HY := Lib.hid (rI_yes (way := way) hu)
      have hn := (uP_some hu).2
      have HRL := Lib.hid (Nat.le_trans (uP_left hu) HQL.out)
      have hni : IntKind.i64.wrap (n : Int) = (n : Int) := by rw [IntKind.wrap_i64]; omega
      clear hu
      have hcases : way = 0 ∨ way = 1 ∨ way = 2 ∨ way = 3 ∨ 4 ≤ way := by omega
      rcases hcases with rfl | rfl | rfl | rfl | h4
      · have HE : Hid (rI (0 :: q) = runS zP n r) := Lib.hid (by rw [HY.out]; rfl)
        rcases ho : runS zP n r with _ | ⟨xs, r9⟩
        · have HO := Lib.hid (HE.out.trans ho)
          have HO2 := Lib.hid ho
          clear ho
          go_enter Tryz.func76, Tryz.ntmps76
          go_wp2_with (first
            | (go_at_call 110; (first | (with_reducible refine (HB.out).mono ?_) | refine (HB.out).mono ?_); rintro e w2 hy; obtain ⟨rfl, HR1, HK1⟩ := Yes.rd hy; clear hy)
            | (go_at_call 108; (refine (uint_yes g 4096 n q r HU (by have := HQL.out; omega) _ HR1).mono ?_); rintro e w3 hy; obtain ⟨rfl, HR2, HK2⟩ := Yes.rd hy; clear hy)
            | (go_at_call 111; (refine (plain_any g n hn r _ (Lib.hid ⟨HR2.out, HRL.out⟩)).mono ?_); intro e w4 h9; have h8 := h9.up (HK1.out.trans HK2.out); clear h9; rw [HO2.out] at h8; obtain ⟨rfl, h1, h2⟩ := h8))
          rw [HO.out]
          exact ⟨rfl, rfl, h1, h2⟩
        · have HO := Lib.hid (HE.out.trans ho)
          have HO2 := Lib.hid ho
          clear ho
          go_enter Tryz.func76, Tryz.ntmps76
          go_wp2_with (first
            | (go_at_call 110; (first | (with_reducible refine (HB.out).mono ?_) | refine (HB.out).mono ?_); rintro e w2 hy; obtain ⟨rfl, HR1, HK1⟩ := Yes.rd hy; clear hy)
            | (go_at_call 108; (refine (uint_yes g 4096 n q r HU (by have := HQL.out; omega) _ HR1).mono ?_); rintro e w3 hy; obtain ⟨rfl, HR2, HK2⟩ := Yes.rd hy; clear hy)
            | (go_at_call 111; (refine (plain_any g n hn r _ (Lib.hid ⟨HR2.out, HRL.out⟩)).mono ?_); intro e w4 h9; have h8 := h9.up (HK1.out.trans HK2.out); clear h9; rw [HO2.out] at h8; obtain ⟨⟨A, n', cap, rfl, ho'⟩, h1, h2⟩ := h8; have HO' := Lib.hid ho'; have H1 := Lib.hid h1; have H2 := Lib.hid h2; clear ho' h1 h2))
          go_ret
          rw [HO.out]
          exact ⟨⟨A, n', cap, rfl, HO'.out⟩, H1.out, H2.out⟩
      · have HE : Hid (rI (1 :: q) = rdDelta n r) := Lib.hid (by rw [HY.out]; rfl)
        rcases ho : rdDelta n r with _ | ⟨xs, r9⟩
        · have HO := Lib.hid (HE.out.trans ho)
          have HO2 := Lib.hid ho
          clear ho
          go_enter Tryz.func76, Tryz.ntmps76
          go_wp2_with (first
            | (go_at_call 110; (first | (with_reducible refine (HB.out).mono ?_) | refine (HB.out).mono ?_); rintro e w2 hy; obtain ⟨rfl, HR1, HK1⟩ := Yes.rd hy; clear hy)
            | (go_at_call 108; (refine (uint_yes g 4096 n q r HU (by have := HQL.out; omega) _ HR1).mono ?_); rintro e w3 hy; obtain ⟨rfl, HR2, HK2⟩ := Yes.rd hy; clear hy)
            | (go_at_call 113; (refine (readDelta_any g n hn r _ (Lib.hid ⟨HR2.out, HRL.out⟩)).mono ?_); intro e w4 h9; have h8 := h9.up (HK1.out.trans HK2.out); clear h9; rw [HO2.out] at h8; obtain ⟨rfl, h1, h2⟩ := h8))
          rw [HO.out]
          exact ⟨rfl, rfl, h1, h2⟩
        · have HO := Lib.hid (HE.out.trans ho)
          have HO2 := Lib.hid ho
          clear ho
          go_enter Tryz.func76, Tryz.ntmps76
          go_wp2_with (first
            | (go_at_call 110; (first | (with_reducible refine (HB.out).mono ?_) | refine (HB.out).mono ?_); rintro e w2 hy; obtain ⟨rfl, HR1, HK1⟩ := Yes.rd hy; clear hy)
            | (go_at_call 108; (refine (uint_yes g 4096 n q r HU (by have := HQL.out; omega) _ HR1).mono ?_); rintro e w3 hy; obtain ⟨rfl, HR2, HK2⟩ := Yes.rd hy; clear hy)
            | (go_at_call 113; (refine (readDelta_any g n hn r _ (Lib.hid ⟨HR2.out, HRL.out⟩)).mono ?_); intro e w4 h9; have h8 := h9.up (HK1.out.trans HK2.out); clear h9; rw [HO2.out] at h8; obtain ⟨⟨A, n', cap, rfl, ho'⟩, h1, h2⟩ := h8; have HO' := Lib.hid ho'; have H1 := Lib.hid h1; have H2 := Lib.hid h2; clear ho' h1 h2))
          go_ret
          rw [HO.out]
          exact ⟨⟨A, n', cap, rfl, HO'.out⟩, H1.out, H2.out⟩
      · have HE : Hid (rI (2 :: q) = rruns n r) := Lib.hid (by rw [HY.out]; rfl)
        rcases ho : rruns n r with _ | ⟨xs, r9⟩
        · have HO := Lib.hid (HE.out.trans ho)
          have HO2 := Lib.hid ho
          clear ho
          go_enter Tryz.func76, Tryz.ntmps76
          go_wp2_with (first
            | (go_at_call 110; (first | (with_reducible refine (HB.out).mono ?_) | refine (HB.out).mono ?_); rintro e w2 hy; obtain ⟨rfl, HR1, HK1⟩ := Yes.rd hy; clear hy)
            | (go_at_call 108; (refine (uint_yes g 4096 n q r HU (by have := HQL.out; omega) _ HR1).mono ?_); rintro e w3 hy; obtain ⟨rfl, HR2, HK2⟩ := Yes.rd hy; clear hy)
            | (go_at_call 114; (refine (readRuns_any g n hn r _ (Lib.hid ⟨HR2.out, HRL.out⟩)).mono ?_); intro e w4 h9; have h8 := h9.up (HK1.out.trans HK2.out); clear h9; rw [HO2.out] at h8; obtain ⟨rfl, h1, h2⟩ := h8))
          rw [HO.out]
          exact ⟨rfl, rfl, h1, h2⟩
        · have HO := Lib.hid (HE.out.trans ho)
          have HO2 := Lib.hid ho
          clear ho
          go_enter Tryz.func76, Tryz.ntmps76
          go_wp2_with (first
            | (go_at_call 110; (first | (with_reducible refine (HB.out).mono ?_) | refine (HB.out).mono ?_); rintro e w2 hy; obtain ⟨rfl, HR1, HK1⟩ := Yes.rd hy; clear hy)
            | (go_at_call 108; (refine (uint_yes g 4096 n q r HU (by have := HQL.out; omega) _ HR1).mono ?_); rintro e w3 hy; obtain ⟨rfl, HR2, HK2⟩ := Yes.rd hy; clear hy)
            | (go_at_call 114; (refine (readRuns_any g n hn r _ (Lib.hid ⟨HR2.out, HRL.out⟩)).mono ?_); intro e w4 h9; have h8 := h9.up (HK1.out.trans HK2.out); clear h9; rw [HO2.out] at h8; obtain ⟨⟨A, n', cap, rfl, ho'⟩, h1, h2⟩ := h8; have HO' := Lib.hid ho'; have H1 := Lib.hid h1; have H2 := Lib.hid h2; clear ho' h1 h2))
          go_ret
          rw [HO.out]
          exact ⟨⟨A, n', cap, rfl, HO'.out⟩, H1.out, H2.out⟩
      · have HE : Hid (rI (3 :: q) = rpk n r) := Lib.hid (by rw [HY.out]; rfl)
        rcases ho : rpk n r with _ | ⟨xs, r9⟩
        · have HO := Lib.hid (HE.out.trans ho)
          have HO2 := Lib.hid ho
          clear ho
          go_enter Tryz.func76, Tryz.ntmps76
          go_wp2_with (first
            | (go_at_call 110; (first | (with_reducible refine (HB.out).mono ?_) | refine (HB.out).mono ?_); rintro e w2 hy; obtain ⟨rfl, HR1, HK1⟩ := Yes.rd hy; clear hy)
            | (go_at_call 108; (refine (uint_yes g 4096 n q r HU (by have := HQL.out; omega) _ HR1).mono ?_); rintro e w3 hy; obtain ⟨rfl, HR2, HK2⟩ := Yes.rd hy; clear hy)
            | (go_at_call 115; (refine (readPacked_any g n hn r _ (Lib.hid ⟨HR2.out, HRL.out⟩)).mono ?_); intro e w4 h9; have h8 := h9.up (HK1.out.trans HK2.out); clear h9; rw [HO2.out] at h8; obtain ⟨rfl, h1, h2⟩ := h8))
          rw [HO.out]
          exact ⟨rfl, rfl, h1, h2⟩
        · have HO := Lib.hid (HE.out.trans ho)
          have HO2 := Lib.hid ho
          clear ho
          go_enter Tryz.func76, Tryz.ntmps76
          go_wp2_with (first
            | (go_at_call 110; (first | (with_reducible refine (HB.out).mono ?_) | refine (HB.out).mono ?_); rintro e w2 hy; obtain ⟨rfl, HR1, HK1⟩ := Yes.rd hy; clear hy)
            | (go_at_call 108; (refine (uint_yes g 4096 n q r HU (by have := HQL.out; omega) _ HR1).mono ?_); rintro e w3 hy; obtain ⟨rfl, HR2, HK2⟩ := Yes.rd hy; clear hy)
            | (go_at_call 115; (refine (readPacked_any g n hn r _ (Lib.hid ⟨HR2.out, HRL.out⟩)).mono ?_); intro e w4 h9; have h8 := h9.up (HK1.out.trans HK2.out); clear h9; rw [HO2.out] at h8; obtain ⟨⟨A, n', cap, rfl, ho'⟩, h1, h2⟩ := h8; have HO' := Lib.hid ho'; have H1 := Lib.hid h1; have H2 := Lib.hid h2; clear ho' h1 h2))
          go_ret
          rw [HO.out]
          exact ⟨⟨A, n', cap, rfl, HO'.out⟩, H1.out, H2.out⟩
      · have HN : Hid (rI (way :: q) = none) := Lib.hid (by rw [HY.out]; unfold rW; rw [if_neg (by omega), if_neg (by omega), if_neg (by omega), if_neg (by omega)])
        have e0 : ((way : Int) == 0) = false := by rw [beq_eq_false_iff_ne]; omega
        have e1 : ((way : Int) == 1) = false := by rw [beq_eq_false_iff_ne]; omega
        have e2 : ((way : Int) == 2) = false := by rw [beq_eq_false_iff_ne]; omega
        have e3 : ((way : Int) == 3) = false := by rw [beq_eq_false_iff_ne]; omega
        go_enter Tryz.func76, Tryz.ntmps76
        go_wp2_with (first
          | (go_at_call 110; (with_reducible refine (HB.out).mono ?_); rintro e w2 hy; obtain ⟨rfl, HR1, HK1⟩ := Yes.rd hy; clear hy)
          | (go_at_call 108; (refine (uint_yes g 4096 n q r HU (by have := HQL.out; omega) _ HR1).mono ?_); rintro e w3 hy; obtain ⟨rfl, HR2, HK2⟩ := Yes.rd hy; clear hy)
          | (go_at_call 51; obtain ⟨A1, C1, hR⟩ := HR2.out; (refine (check_false g C1 A1 r _ (Lib.hid hR)).mono ?_); rintro e w4 ⟨rfl, h1, h2⟩))
        rw [HN.out]
        exact ⟨rfl, rfl, h1, (HK1.out.trans HK2.out).trans h2⟩

/-- The reading of a list, all of it. -/
def riL (q : List Nat) : Option (List Int) := match rI q with
  | some (l, []) => some l
  | _ => none
theorem riL_some {q : List Nat} {l : List Int} (h : rI q = some (l, [])) : riL q = some l := by unfold riL; rw [h]
theorem riL_none {q : List Nat} (h : rI q = none) : riL q = none := by unfold riL; rw [h]
theorem riL_left {q r : List Nat} {l : List Int} (h : rI q = some (l, r)) (hr : r ≠ []) : riL q = none := by
  unfold riL; rw [h]
  rcases r with _ | ⟨x, r⟩
  · exact absurd rfl hr
  · rfl
theorem OwnI.keptG {w w' : World} {B n cap g : Nat} {A : Option Addr} {l : List Int} (h : OwnI w B A n cap l) (hk : Kept (Only g) w w') (hne : g < B) : OwnI w' B A n cap l :=
  ⟨h.1.kept (row := some g) ⟨hk.os, hk.tape, hk.output, hk.size, fun k hk' hn => hk.block k hk' (fun e => hn (by rw [show k = g from e]))⟩ (by
    have hb := h.base
    rcases A with _ | a
    · simp [Value.ownBlock]
    · have := hb a.block rfl
      simp [Value.ownBlock]; omega), h.2⟩
theorem off_slice {w : World} {cl y z : Nat} {A x : Option Addr} {q : List Nat} {ty : TypeId} (h : ByAt w A q) (hr : w.heap[cl]? = some (.cells #[.slice x y z] ty (0, 0))) : Off (fun k => k = cl) A q := fun a ha hl hs => by
  obtain ⟨b, off, e, hb, hc⟩ := h.spot hl
  rw [e] at ha; injection ha with ha; subst ha
  have hc0 := hc 0 q[0] (List.getElem?_eq_getElem hl)
  have hs : b = cl := hs
  subst hs
  rw [cell_of_row _ _ _ _ _ _ hr] at hc0
  have hj : off + 0 < 1 := (Array.getElem?_eq_some_iff.1 hc0).1
  obtain rfl : off = 0 := by omega
  simp at hc0
/-- What the list's cell holds behind the reading. -/
def RdL (q : List Nat) (cl B : Nat) (b : Bool) (w : World) : Prop := match b with
  | true => ∃ A n cap l, riL q = some l ∧ w.heap[cl]? = some (.cells #[.slice A n cap] 40 (0, 0)) ∧ OwnI w B A n cap l
  | false => riL q = none
theorem RdL.keep {q : List Nat} {cl B g : Nat} {b : Bool} {w w' : World} (h : RdL q cl B b w) (hk : Kept (Only g) w w') (h1 : cl ≠ g) (h2 : g < B) : RdL q cl B b w' := by
  cases b with
  | false => exact h
  | true =>
    obtain ⟨A, n, cap, l, e, hr, ho⟩ := h
    exact ⟨A, n, cap, l, e, hk.heap hr fun e => h1 e, ho.keptG hk h2⟩
theorem RdL.less {q : List Nat} {cl B B' : Nat} {b : Bool} {w : World} (h : RdL q cl B b w) (hB : B' ≤ B) : RdL q cl B' b w := by
  cases b with
  | false => exact h
  | true =>
    obtain ⟨A, n, cap, l, e, hr, ho⟩ := h
    exact ⟨A, n, cap, l, e, hr, ho.more hB⟩
set_option maxHeartbeats 2000000 in
theorem listFn_any (g bf cl : Nat) (q : List Nat) (hql : q.length ≤ 1099511627776) (w : World) (HR : Hid (Rd w g q)) (Hf : Hid (w.heap[bf]? = some (.cells #[.func (.func 76) #[] #[]] 102 (0, 0)))) (Hc : Hid (w.heap[cl]? = some (.cells #[.slice none 0 0] 40 (0, 0)))) (h1 : cl < g) (h2 : bf < g) :
    Calls Tryz.prog 109 #[.pointer (some ⟨g, 0, none⟩), .pointer (some ⟨bf, 0, none⟩), .pointer (some ⟨cl, 0, none⟩)] w (Tried g (fun k => k = cl) (RdL q cl (g + 1)) w) := by
  have hc := cell_of_row w bf 0 _ _ _ Hf.out
  simp only [List.getElem?_toArray] at hc
  have hc : w.cell? ⟨bf, 0, none⟩ = some (.func (.func 76) #[] #[]) := by rw [cell_of_row _ _ _ _ _ _ Hf.out]; rfl
  have HI := Lib.hid (readInts_any g q w (Lib.hid ⟨HR.out, hql⟩))
  have hgl := HR.out.glt
  rcases ho : rI q with _ | ⟨l, r⟩
  · have HO := Lib.hid ho
    clear ho
    go_enter Tryz.func109, Tryz.ntmps109
    go_wp2_with (go_at_call 76; refine (HI.out).mono ?_; intro e w3 h8; rw [HO.out] at h8; obtain ⟨rfl, h1, h2⟩ := h8)
    exact ⟨rfl, h2.mono fun k hk => .inl (.inr hk), .inr ⟨rfl, h1, riL_none HO.out⟩⟩
  · have HO := Lib.hid ho
    clear ho
    go_enter Tryz.func109, Tryz.ntmps109
    go_wp2_with (go_at_call 76; refine (HI.out).mono ?_; intro e w3 h8; rw [HO.out] at h8; obtain ⟨⟨A, n, cap, rfl, h3⟩, h4, h5⟩ := h8; have HOW := Lib.hid h3; have HRD := Lib.hid h4; have HK := Lib.hid h5; have hrow := h5.heap Hc.out (fun e => by have e : cl = g := e; omega); have c3 : w3.cell? ⟨cl, 0, none⟩ = some (.slice none 0 0) := (by rw [cell_of_row _ _ _ _ _ _ hrow]; rfl); have f3 : w3.frozen? ⟨cl, 0, none⟩ = false := row_frozen hrow 0; have HROW := Lib.hid hrow; clear h3 h4 h5 hrow)
    have hk : Kept (fun k => k = cl) w3 (w3.setCell ⟨cl, 0, none⟩ (.slice A n cap)) := (Kept.refl _ _).setCell _ _ (.inl rfl)
    have hrow2 : (w3.setCell ⟨cl, 0, none⟩ (.slice A n cap)).heap[cl]? = some (.cells #[.slice A n cap] 40 (0, 0)) := by
      have := HROW.out; rw [World.setCell]; simp [Array.getElem?_modify, this]
    have hkk : Kept (fun k => k = cl ∨ k = g) w (w3.setCell ⟨cl, 0, none⟩ (.slice A n cap)) := (HK.out.mono fun k hk => .inl (.inr hk)).setCell _ _ (.inl (.inl rfl))
    refine bodyPost_end (results_none rfl _ _ _) rfl ⟨hkk, .inl ⟨r, rfl, HRD.out.1.high' hk (fun k hk => by have hk : k = cl := hk; omega) (fun A C h => off_slice h.bytes HROW.out), ?_⟩⟩
    by_cases hr : r = []
    · subst hr
      have ho2 : OwnI (w3.setCell ⟨cl, 0, none⟩ (.slice A n cap)) w.heap.size A n cap l := HOW.out.keptG (g := cl) hk (by omega)
      exact ⟨A, n, cap, l, riL_some HO.out, hrow2, ho2.more (by omega)⟩
    · have : decide (r = []) = false := by simpa using hr
      rw [this]
      exact riL_left HO.out hr
end Go.Proofs.YtpobfgokikfmbaaGreatDoor

set_option linter.unusedSimpArgs false
set_option linter.unusedVariables false
set_option maxRecDepth 8000
namespace Go.Proofs.YtpobfgokikfmbaaGreatDoor
open Go.RowKit Go.WideShapes Col
/-- How ReadInts ends. -/
def RdEnds (o : Option (List Int)) (w : World) (e : Ending) (w' : World) : Prop := match o with
  | some l => (∃ A n cap, e = .returned (.tuple #[.slice A n cap, .int .i64 0]) ∧ OwnI w' w.heap.size A n cap l) ∧ Below w.heap.size w w'
  | none => e = .returned (.tuple #[.slice none 0 0, .int .i64 3]) ∧ Below w.heap.size w w'
theorem rdl_no {q : List Nat} {cl B : Nat} {b : Bool} {w : World} (h : riL q = none) (hr : RdL q cl B b w) : b = false := by
  rcases b with _ | _
  · rfl
  · obtain ⟨A9, n9, c9, l9, e9, -⟩ := hr
    rw [h] at e9; cases e9
theorem rdl_yes {q : List Nat} {cl B : Nat} {b : Bool} {w : World} {l : List Int} (h : riL q = some l) (hr : RdL q cl B b w) : b = true := by
  rcases b with _ | _
  · have hr : riL q = none := hr
    rw [h] at hr; cases hr
  · rfl
set_option maxHeartbeats 2000000 in
theorem readListI_any (A : Option Addr) (C : Nat) (q : List Nat) (n : Nat) (hn : Hid (n = q.length)) (hn4 : n ≤ 1099511627776) (hC : n ≤ C) (hC' : C ≤ maxLen) (w : World) (HA : Hid (ByAt w A q)) :
    Calls Tryz.prog 75 #[.slice A n C, .func (.func 76) #[] #[]] w (RdEnds (riL q) w) := by
  obtain ⟨bf, w1, hbf, hw1, hrow1, hb1, hbf1⟩ := alloc_pt w (.func (.func 76) #[] #[]) 102
  obtain ⟨cl, w2, hcl, hw2, hrow2, hb2, hcl2⟩ := alloc_pt w1 (.slice none 0 0) 40
  have HW : Hid ((w.alloc (.cells #[.func (.func 76) #[] #[]] 102)).alloc (.cells #[.slice none 0 0] 40) = w2) := Lib.hid (by rw [hw2, hw1])
  have hsz : w1.heap.size = w.heap.size + 1 := by rw [hw1]; simp
  have HBF := Lib.hid hbf; have HCL : Hid (cl = w.heap.size + 1) := Lib.hid (by rw [hcl, hsz])
  have HB2 : Hid (Below w.heap.size w w2) := Lib.hid (below_to hb1 hb2)
  have hrf2 : w2.heap[bf]? = some (.cells #[.func (.func 76) #[] #[]] 102 (0, 0)) := (Kept.of_below (S := fun _ => False) hb2).heap hrow1 fun e => e
  have ht := try_any 109 #[] #[.pointer (some ⟨bf, 0, none⟩), .pointer (some ⟨cl, 0, none⟩)] A C q n hn hC hC' w2 (Lib.hid (HA.out.keep HB2.out)) (fun k => k = cl) (fun k hk => by have hk : k = cl := hk; omega)
    (fun g => RdL q cl (g + 1)) (RdL q cl w2.heap.size) (fun g b v2 v3 hg h hk => (h.keep hk (by omega) (Nat.lt_succ_self _)).less (by omega))
    (fun g v1 hg hr hb => listFn_any g bf cl q (by rw [← hn.out]; exact hn4) v1 (Lib.hid hr) (Lib.hid ((Kept.of_below (S := fun _ => False) hb).heap hrf2 fun e => e)) (Lib.hid ((Kept.of_below (S := fun _ => False) hb).heap hrow2 fun e => e)) (by omega) (by omega))
    (fun _ _ => by first | rfl | kernel_rfl)
  have HT := Lib.hid ht
  have HR2 := Lib.hid hrow2
  clear ht hbf hw1 hrow1 hb1 hcl hw2 hrow2 hb2 hrf2 hbf1
  go_enter Tryz.func75, Tryz.ntmps75
  go_upto_region 2 with fail
  have e1 : w.heap.size = bf := HBF.out.symm
  have e2 : w.heap.size + 1 = cl := HCL.out.symm
  have hx : ∀ (w3 : World) (b : Bool), RdL q cl w2.heap.size b w3 → Kept (fun k => k = cl) w2 w3 → Below w.heap.size w w3 := fun w3 b _ hk => HB2.out.trans (hk.below (B := w.heap.size) (by omega) fun k hk => by have hk : k = cl := hk; omega)
  have HX := Lib.hid hx
  clear hx
  rw [HW.out, e2, e1]
  clear e1 e2
  rcases ho : riL q with _ | l
  · have HO := Lib.hid ho
    clear ho
    go_wp2_with (go_at_call 19; (with_reducible refine (HT.out).mono ?_); rintro e w3 ⟨b, rfl, hr, hk⟩; obtain rfl := rdl_no HO.out hr; have HB3 := Lib.hid (HX.out w3 false hr hk); clear hr hk)
    go_ret2
    rw [HO.out]
    exact ⟨rfl, HB3.out⟩
  · have HO := Lib.hid ho
    clear ho
    go_wp2_with (go_at_call 19; (with_reducible refine (HT.out).mono ?_); rintro e w3 ⟨b, rfl, hr, hk⟩; obtain rfl := rdl_yes HO.out hr; have HB3 := Lib.hid (HX.out w3 true hr hk); obtain ⟨A9, n9, c9, l9, e9, hrow9, how9⟩ := hr; rw [HO.out] at e9; injection e9 with e9; subst e9; have HOW := Lib.hid (how9.more HB2.out.size); have c9c : w3.cell? ⟨cl, 0, none⟩ = some (.slice A9 n9 c9) := (by rw [cell_of_row _ _ _ _ _ _ hrow9]; rfl); clear hk hrow9 how9)
    go_ret2
    rw [HO.out]
    exact ⟨⟨A9, n9, c9, rfl, HOW.out⟩, HB3.out⟩
set_option maxHeartbeats 2000000 in
theorem readIntsC_any (A : Option Addr) (C : Nat) (q : List Nat) (n : Nat) (hn : Hid (n = q.length)) (hn4 : n ≤ 1099511627776) (hC : n ≤ C) (hC' : C ≤ maxLen) (w : World) (HA : Hid (ByAt w A q)) :
    Calls Tryz.prog 46 #[.slice A n C] w (RdEnds (riL q) w) := by
  have HT := Lib.hid (readListI_any A C q n hn hn4 hC hC' w HA)
  rcases ho : riL q with _ | l
  · have HO := Lib.hid ho
    rw [ho] at HT
    clear ho
    go_enter Tryz.func46, Tryz.ntmps46
    go_wp2_with (go_at_call 75; (with_reducible refine (HT.out).mono ?_); rintro e w3 ⟨rfl, hb⟩; have HB := Lib.hid hb; clear hb)
    go_ret2
    exact ⟨rfl, HB.out⟩
  · have HO := Lib.hid ho
    rw [ho] at HT
    clear ho
    go_enter Tryz.func46, Tryz.ntmps46
    go_wp2_with (go_at_call 75; (with_reducible refine (HT.out).mono ?_); rintro e w3 ⟨⟨A9, n9, c9, rfl, ho⟩, hb⟩; have HB := Lib.hid hb; have HOW := Lib.hid ho; clear hb ho)
    go_ret2
    exact ⟨⟨A9, n9, c9, rfl, HOW.out⟩, HB.out⟩
end Go.Proofs.YtpobfgokikfmbaaGreatDoor

set_option linter.unusedSimpArgs false
set_option linter.unusedVariables false
set_option maxRecDepth 8000
namespace Go.Proofs.YtpobfgokikfmbaaGreatDoor
open Go.RowKit Go.WideShapes Col
namespace Col
theorem grp_back (n : Nat) (hn : n < 18446744073709551616) (r : List Nat) : grp 0 (ub n ++ r) = some (n, r) := grp_ub r n 0 ⟨by omega, hn⟩ (.inr rfl)
theorem uP_back {most n : Nat} (hn : n ≤ most) (h : n < 18446744073709551616) (r : List Nat) : uP most (ub n ++ r) = some (n, r) := by
  unfold uP; rw [grp_back n h r]; simp [hn]
theorem zP_back {x : Int} (h : Wf64 x) (r : List Nat) : zP (ub (zz x) ++ r) = some (x, r) := by
  unfold zP; rw [grp_back _ (zz_lt h) r]; simp [uz_zz]
theorem drop_get {l : List Int} {k : Nat} (h : k < l.length) : ∃ x, l[k]? = some x ∧ l.drop k = x :: l.drop (k + 1) ∧ l.take (k + 1) = l.take k ++ [x] :=
  ⟨l[k], List.getElem?_eq_getElem h, List.drop_eq_getElem_cons h, by rw [List.take_add_one, List.getElem?_eq_getElem h]; rfl⟩
theorem plain_back (l : List Int) (hl : ∀ x ∈ l, Wf64 x) (r : List Nat) : ∀ k, k ≤ l.length → runS zP k (lpl l ++ r) = some (l.take k, lpl (l.drop k) ++ r)
  | 0, _ => by simp [runS]
  | k + 1, h => by
    obtain ⟨x, hx, h1, h2⟩ := drop_get (l := l) (k := k) (by omega)
    rw [runS, plain_back l hl r k (by omega), h1]
    have e : lpl (x :: l.drop (k + 1)) = ub (zz x) ++ lpl (l.drop (k + 1)) := by simp [lpl]
    simp only [Option.bind_some]
    rw [e, List.append_assoc, zP_back (hl x (List.mem_of_getElem? hx)), h2]; rfl
theorem delta_back (l : List Int) (hl : ∀ x ∈ l, Wf64 x) (r : List Nat) : ∀ k, k ≤ l.length → runS dstep k (0, lde 0 l ++ r) = some (l.take k, (lastOf 0 (l.take k), lde (lastOf 0 (l.take k)) (l.drop k) ++ r))
  | 0, _ => by simp [runS, lastOf]
  | k + 1, h => by
    obtain ⟨x, hx, h1, h2⟩ := drop_get (l := l) (k := k) (by omega)
    have hp := lastOf_wf (l.take k) fun y hy => hl y (List.mem_of_mem_take hy)
    have hwx := hl x (List.mem_of_getElem? hx)
    have hls := lastOf_snoc 0 l k x hx
    rw [runS, delta_back l hl r k (by omega), h1]
    generalize lastOf 0 (l.take k) = p at *
    have e : wrap64 (p + sub64 x p) = x := by
      rw [sub64_eq]; unfold wrap64; unfold Wf64 at *; omega
    simp only [Option.bind_some]
    rw [lde, List.append_assoc]
    unfold dstep
    simp only
    rw [zP_back (sub64_wf x p)]
    simp only [Option.map_some]
    rw [e, h2, ← h2, hls, h2]
theorem runN_take (x : Int) : ∀ t : List Int, t.take (runN x t) = List.replicate (runN x t) x
  | [] => rfl
  | y :: t => by
    unfold runN
    split
    · rename_i h; subst h; rw [List.take_succ_cons, runN_take y t]; rfl
    · rfl
theorem runs_back (n : Nat) : ∀ l : List Int, l.length ≤ n → l.length ≤ 1000000 → (∀ x ∈ l, Wf64 x) → ∀ r, rruns l.length (lru l ++ r) = some (l, r) := by
  induction n with
  | zero => intro l h _ _ r; rw [List.eq_nil_of_length_eq_zero (by omega : l.length = 0), lru_nil]; exact rruns_zero r
  | succ n ih =>
    intro l h h1 h2 r
    rcases l with _ | ⟨x, t⟩
    · rw [lru_nil]; exact rruns_zero r
    · have hr := runN_le x t
      have hk : runN x t < 18446744073709551616 := by simp at h1; omega
      have h3 := ih (t.drop (runN x t)) (by rw [List.length_drop]; simp at h; omega) (by rw [List.length_drop]; simp at h1; omega) (fun y hy => h2 y (List.mem_cons_of_mem _ (List.mem_of_mem_drop hy))) r
      rw [List.length_drop] at h3
      rw [lru, List.length_cons, List.append_assoc, rruns_yes (zP_back (h2 x (List.mem_cons_self ..)) _) (by rw [List.append_assoc]; exact uP_back hr hk _), h3]
      simp only [Option.map_some, List.replicate_succ, List.cons_append]
      rw [← runN_take, List.take_append_drop]
theorem pk_get (W : Nat) : ∀ (ds : List Nat) (i d : Nat), ds[i]? = some d → (∀ x ∈ ds, x < 2 ^ W) → bitsAt (pk W ds) (i * W) W = d
  | [], i, d, h, _ => by simp at h
  | e :: ds, 0, d, h, hd => by
    simp at h; subst h
    unfold bitsAt
    rw [pk, Nat.zero_mul, Nat.pow_zero, Nat.div_one, Nat.add_mul_mod_self_left, Nat.mod_eq_of_lt (hd _ (List.mem_cons_self ..))]
  | e :: ds, i + 1, d, h, hd => by
    have ih := pk_get W ds i d (by simpa using h) fun x hx => hd x (List.mem_cons_of_mem _ hx)
    unfold bitsAt at *
    rw [pk, Nat.add_mul, Nat.one_mul, Nat.add_comm (i * W), Nat.pow_add, ← Nat.div_div_eq_div_mul, Nat.add_mul_div_left _ _ (Nat.two_pow_pos _), Nat.div_eq_of_lt (hd e (List.mem_cons_self ..)), Nat.zero_add]
    exact ih
theorem packed_back (l : List Int) (hl : ∀ x ∈ l, Wf64 x) (r : List Nat) : rpk l.length (lpk l ++ r) = some (l, r) := by
  by_cases h0 : l.length = 0
  · rw [List.eq_nil_of_length_eq_zero h0, lpk_nil]; rfl
  · have hW := wid_le hl
    have hmn := mnL_wf hl
    have hpk := pk_lt (wid l) (digs l) dig_lt
    have hdl : (digs l).length = l.length := List.length_map ..
    rw [hdl, Nat.mul_comm] at hpk
    have hV : pk (wid l) (digs l) < 2 ^ (8 * ((l.length * wid l + 7) / 8)) := Nat.lt_of_lt_of_le hpk (Nat.pow_le_pow_right (by decide) (by omega))
    have hlen := leb_length ((l.length * wid l + 7) / 8) (pk (wid l) (digs l))
    have hget : ∀ (i : Nat) (x : Int), l[i]? = some x → pval (wid l) (pk (wid l) (digs l)) (mnL l) i = x := fun i x hx => by
      have hd : (digs l)[i]? = some (dig (mnL l) x) := by unfold digs; rw [List.getElem?_map, hx]; rfl
      unfold pval
      rw [pk_get _ _ i _ hd dig_lt]
      have h1 := mn_le (List.mem_of_getElem? hx)
      have h2 := hl x (List.mem_of_getElem? hx)
      unfold dig
      rw [IntKind.wrap_i64]; unfold wrap64; unfold Wf64 at *; omega
    rw [lpk_some (by omega)]
    generalize wid l = W at *
    generalize pk W (digs l) = V at *
    have ht : (leb ((l.length * W + 7) / 8) V ++ r).take ((l.length * W + 7) / 8) = leb ((l.length * W + 7) / 8) V := by
      rw [List.take_append_of_le_length (by omega), List.take_of_length_le (by omega)]
    have hdr : (leb ((l.length * W + 7) / 8) V ++ r).drop ((l.length * W + 7) / 8) = r := by
      rw [List.drop_append_of_le_length (by omega), List.drop_of_length_le (by omega), List.nil_append]
    rw [List.append_assoc, rpk_of h0 (zP_back hmn _), List.append_assoc]
    show rpk2 _ _ (W :: (leb _ V ++ r)) = _
    rw [rpk2_yes rfl ⟨hW, by rw [List.length_append, hlen]; omega, by rw [ht, vlb_leb, Nat.mod_eq_of_lt hV]; exact hpk⟩, ht, hdr, vlb_leb, Nat.mod_eq_of_lt hV]
    congr 2
    apply List.ext_getElem?
    intro i
    by_cases hi : i < l.length
    · rw [List.getElem?_map, List.getElem?_range hi, List.getElem?_eq_getElem hi]
      exact congrArg some (hget i _ (List.getElem?_eq_getElem hi))
    · rw [List.getElem?_eq_none (by simp; omega), List.getElem?_eq_none (by omega)]
/-- What As lays ReadInts reads. -/
theorem as_back (way : Nat) (hw : way < 4) (l : List Int) (hl : ∀ x ∈ l, Wf64 x) (hn : l.length ≤ 4096) : rI (asL way l) = some (l, []) := by
  unfold asL
  rw [List.append_assoc]
  show rI (way :: (ub l.length ++ _)) = _
  rw [rI_yes (uP_back hn (by omega) _)]
  have hcases : way = 0 ∨ way = 1 ∨ way = 2 ∨ way = 3 := by omega
  unfold rW
  rcases hcases with rfl | rfl | rfl | rfl
  · have h := plain_back l hl [] l.length (Nat.le_refl _)
    rw [List.append_nil, List.take_length, List.drop_length, lpl_nil] at h
    simpa using h
  · have h := delta_back l hl [] l.length (Nat.le_refl _)
    rw [List.append_nil, List.take_length, List.drop_length] at h
    simp [rdDelta, h, lde]
  · have h := runs_back l.length l (Nat.le_refl _) (by omega) hl []
    rw [List.append_nil] at h
    simpa using h
  · have h := packed_back l hl []
    rw [List.append_nil] at h
    simpa using h
theorem asr_back (way : Nat) (hw : way < 4) (l : List Int) (hl : ∀ x ∈ l, Wf64 x) (hn : l.length ≤ 4096) : riL (asL way l) = some l := riL_some (as_back way hw l hl hn)
theorem best_is (k : Nat) (l : List Int) : ∃ way, way ≤ k ∧ bestL k l = asL way l := by
  induction k with
  | zero => exact ⟨0, Nat.le_refl _, rfl⟩
  | succ k ih =>
    obtain ⟨way, h1, h2⟩ := ih
    show ∃ way, way ≤ k + 1 ∧ pickL (bestL k l) (asL (k + 1) l) = asL way l
    unfold pickL
    split
    · exact ⟨k + 1, Nat.le_refl _, rfl⟩
    · exact ⟨way, by omega, h2⟩
theorem ints_back (l : List Int) (hl : ∀ x ∈ l, Wf64 x) (hn : l.length ≤ 4096) : rI (intsL l) = some (l, []) := by
  obtain ⟨way, h1, h2⟩ := best_is 3 l
  unfold intsL; rw [h2]; exact as_back way (by omega) l hl hn
theorem pick_le (b p : List Nat) : (pickL b p).length ≤ b.length ∧ (pickL b p).length ≤ p.length := by unfold pickL; split <;> omega
theorem best_le (k : Nat) (l : List Int) : ∀ way, way ≤ k → (bestL k l).length ≤ (asL way l).length := by
  induction k with
  | zero => intro way h; rw [show way = 0 by omega]; exact Nat.le_refl _
  | succ k ih =>
    intro way h
    show (pickL (bestL k l) (asL (k + 1) l)).length ≤ _
    obtain ⟨h1, h2⟩ := pick_le (bestL k l) (asL (k + 1) l)
    by_cases e : way = k + 1
    · rw [e]; exact h2
    · exact Nat.le_trans h1 (ih way (by omega))
end Col
end Go.Proofs.YtpobfgokikfmbaaGreatDoor

set_option linter.unusedSimpArgs false
set_option linter.unusedVariables false
set_option maxRecDepth 8000
namespace Go.Proofs.YtpobfgokikfmbaaGreatDoor
open Go.RowKit Go.WideShapes Col
end Go.Proofs.YtpobfgokikfmbaaGreatDoor

set_option linter.unusedSimpArgs false
set_option linter.unusedVariables false
set_option maxRecDepth 8000
namespace Go.Proofs.YtpobfgokikfmbaaGreatDoor
open Go.RowKit Go.WideShapes Col
theorem Puts.at {B : Nat} {w w' : World} {l : List Nat} {e : Ending} (h : Puts B w l e w') : ∃ A n cap, e = .returned (.slice A n cap) ∧ Hid (OwnS w' B A n cap l) ∧ Hid (Below B w w') ∧ n = l.length := by
  obtain ⟨A, n, cap, he, ho, hb, -⟩ := h
  exact ⟨A, n, cap, he, ho, hb, ho.len⟩
set_option maxHeartbeats 2000000 in
theorem refU_any (n : Nat) : n < 18446744073709551616 → ∀ w : World, Calls Tryz.prog 53 #[.int .u64 (n : Int)] w (Puts w.heap.size w (ub n)) := by
  induction n using Nat.strongRecOn with
  | ind n ih =>
    intro hn w
    by_cases h : n < 128
    · have hw8 : IntKind.u8.wrap (n : Int) = (n : Int) := by rw [IntKind.wrap_u8]; omega
      have HO : Hid (OwnS (w.alloc (.cells #[.int .u8 (n : Int)] 5)) w.heap.size (some ⟨w.heap.size, 0, none⟩) 1 1 [n]) := Lib.hid (OwnS.of_row (cs := [.int .u8 (n : Int)]) (heap_alloc_new' w _) rfl (by decide) rfl rfl (Nat.le_refl _) (fun x hx => by simp at hx; omega))
      have HB : Hid (Below w.heap.size w (w.alloc (.cells #[.int .u8 (n : Int)] 5))) := Lib.hid ((Below.refl _ _).alloc (Nat.le_refl _) _)
      clear ih
      go_enter Tryz.func53, Tryz.ntmps53
      go_wp2
      go_ret
      exact ⟨_, 1, 1, rfl, by rw [ub_lt h]; exact HO.out, HB.out, HB.out.size⟩
    · obtain ⟨m, hm⟩ : ∃ m, m = n % 128 := ⟨_, rfl⟩
      obtain ⟨q, hq⟩ : ∃ q, q = n / 128 := ⟨_, rfl⟩
      obtain ⟨c, hc⟩ : ∃ c, c = m + 128 := ⟨_, rfl⟩
      have hmi : (n : Int) % 128 = (m : Int) := by omega
      have hmi2 : (n : Int).tmod 128 = (m : Int) := by rw [Int.tmod_eq_emod_of_nonneg (by omega)]; exact hmi
      have hqi : (n : Int) / 128 = (q : Int) := by omega
      have hqi2 : (n : Int).tdiv 128 = (q : Int) := by rw [Int.tdiv_eq_ediv_of_nonneg (by omega)]; exact hqi
      have hci : (m : Int) + 128 = (c : Int) := by omega
      have hc256 : c < 256 := by omega
      have hw8 : IntKind.u8.wrap (c : Int) = (c : Int) := by rw [IntKind.wrap_u8]; omega
      have hm128 : m < 128 := by omega
      have HUB : Hid (ub n = [c] ++ ub q) := Lib.hid (by rw [ub_ge (by omega), ← hm, ← hc, ← hq]; rfl)
      have HQ10 := Lib.hid (ub10 (show q < 18446744073709551616 by omega))
      have HI := Lib.hid (ih q (by omega) (by omega))
      have HO : Hid (OwnS (w.alloc (.cells #[.int .u8 (c : Int)] 5)) w.heap.size (some ⟨w.heap.size, 0, none⟩) 1 1 [c]) := Lib.hid (OwnS.of_row (cs := [.int .u8 (c : Int)]) (heap_alloc_new' w _) rfl (by decide) rfl rfl (Nat.le_refl _) (fun x hx => by simp at hx; omega))
      have HB : Hid (Below w.heap.size w (w.alloc (.cells #[.int .u8 (c : Int)] 5))) := Lib.hid ((Below.refl _ _).alloc (Nat.le_refl _) _)
      clear ih hm hq hc
      go_enter Tryz.func53, Tryz.ntmps53
      go_wp2_with (first
        | (go_at_call 53; refine (HI.out _).mono ?_; rintro e w2 hp; obtain ⟨A2, n2, c2, rfl, HO2, HB2, hn2⟩ := hp.at; have HN2 := Lib.hid hn2; have hn10 : n2 ≤ 10 := (by have := HQ10.out; omega); have HO3 := Lib.hid (HO.out.keep HB2.out); have HB3 := Lib.hid (below_to HB.out HB2.out); clear hp hn2)
        | (refine wpList_append_by rfl (.tmp 14) (.tmp 17) rfl w.heap.size (some ⟨w.heap.size, 0, none⟩) 1 1 [c] rfl HO3.out A2 n2 c2 (ub q) rfl HN2.out HO2.out.byAt (by omega) HB3.out.size ?_; intro A4 c4 w4 ho4 hg4 hr4; have HO4 := Lib.hid ho4; have HB4 := Lib.hid (HB3.out.grown hg4 HB3.out.size HO3.out.base); clear ho4 hg4 hr4))
      go_ret
      exact ⟨A4, _, c4, rfl, by rw [HUB.out]; exact HO4.out, HB4.out, HB4.out.size⟩
set_option maxHeartbeats 2000000 in
theorem refI_any (x : Int) (hx : Hid (Wf64 x)) (w : World) : Calls Tryz.prog 82 #[.int .i64 x] w (Puts w.heap.size w (ub (zz x))) := by
  have hz := zz_lt hx.out
  obtain ⟨h1, h2⟩ := hx.out
  obtain ⟨z, hzz⟩ : ∃ z, z = zz x := ⟨_, rfl⟩
  rw [← hzz] at hz
  have HZ := Lib.hid hzz
  have HU := Lib.hid (refU_any z hz)
  by_cases h : x < 0
  · have e : zz x = (-2 * x - 1).toNat := if_pos h
    obtain ⟨y, hy⟩ : ∃ y : Int, y = -(x + 1) := ⟨_, rfl⟩
    have hyi : -(x + 1) = y := hy.symm
    have hy1 : 0 ≤ y ∧ y ≤ 9223372036854775807 := by omega
    have hyw : IntKind.u64.wrap y = y := by rw [IntKind.wrap_u64]; omega
    have hzi : y * 2 + 1 = (z : Int) := by omega
    have hzi2 : 2 * y + 1 = (z : Int) := by omega
    clear hzz hy
    go_enter Tryz.func82, Tryz.ntmps82
    go_wp2_with (go_at_call 53; refine (HU.out _).mono ?_; rintro e w2 hp; obtain ⟨A2, n2, c2, rfl, HO2, HB2, hn2⟩ := hp.at; clear hp hn2)
    go_ret
    exact ⟨A2, n2, c2, rfl, by rw [← HZ.out]; exact HO2.out, HB2.out, HB2.out.size⟩
  · have e : zz x = (2 * x).toNat := if_neg h
    have hxw : IntKind.u64.wrap x = x := by rw [IntKind.wrap_u64]; omega
    have hzi : x * 2 = (z : Int) := by omega
    have hzi2 : 2 * x = (z : Int) := by omega
    clear hzz
    go_enter Tryz.func82, Tryz.ntmps82
    go_wp2_with (go_at_call 53; refine (HU.out _).mono ?_; rintro e w2 hp; obtain ⟨A2, n2, c2, rfl, HO2, HB2, hn2⟩ := hp.at; clear hp hn2)
    go_ret
    exact ⟨A2, n2, c2, rfl, by rw [← HZ.out]; exact HO2.out, HB2.out, HB2.out.size⟩
theorem bitLen_two (n : Nat) (h : 0 < n) : bitLen n = bitLen (n / 2) + 1 := by
  by_cases h2 : n / 2 = 0
  · have : n = 1 := by omega
    subst this; decide
  · have := bitLen_shift n 1 (by simpa using h2)
    rw [this]; simp; omega
set_option maxHeartbeats 1000000 in
theorem width_any (n : Nat) (hn : n < 18446744073709551616) (w : World) : Calls Tryz.prog 83 #[.int .u64 (n : Int)] w fun e w' => e = .returned (.int .i64 (bitLen n : Nat)) ∧ w = w' := by
  have hb64 : bitLen n ≤ 64 := by
    have hs := (bitLen_spec n).2
    by_cases h0 : n = 0
    · subst h0; decide
    · have h5 : 2 ^ (bitLen n - 1) < 2 ^ 64 := by have := hs h0; omega
      have := (Nat.pow_lt_pow_iff_right (by decide)).1 h5
      omega
  go_enter Tryz.func83, Tryz.ntmps83
  go_wp2
  go_loopw [0, 3] (fun u v wr => ∃ (m k : Nat), u = .int .u64 (m : Int) ∧ v = .int .i64 (k : Int) ∧ m ≤ n ∧ k + bitLen m = bitLen n ∧ w = wr) (fun u _ _ => (intOf u).toNat)
  case atStart => exact ⟨n, 0, rfl, rfl, Nat.le_refl _, by omega, rfl⟩
  case round =>
    obtain ⟨m, k, rfl, rfl, hm, hk, rfl⟩ := hrel
    have HK := Lib.hid hk
    have hk64 : k ≤ 64 := by omega
    clear hk
    by_cases h0 : m = 0
    · subst h0
      have HE : Hid (bitLen n = k) := Lib.hid (by have := HK.out; rw [show bitLen 0 = 0 by decide] at this; omega)
      go_wp2
      go_ret
      exact ⟨by rw [HE.out]; rfl, rfl⟩
    · obtain ⟨q, hq⟩ : ∃ q, q = m / 2 := ⟨_, rfl⟩
      have hqi : (m : Int) / 2 = (q : Int) := by omega
      have hqi2 : (m : Int).tdiv 2 = (q : Int) := by rw [Int.tdiv_eq_ediv_of_nonneg (by omega)]; exact hqi
      have HE : Hid (k + 1 + bitLen q = bitLen n) := Lib.hid (by have := HK.out; rw [bitLen_two m (by omega), ← hq] at this; omega)
      have hqm : q < m := by omega
      have hm0 : (0 : Int) < (m : Int) := by omega
      clear hq
      go_wp2
      go_roundw
      case rel => exact ⟨q, k + 1, rfl, by go_num, by omega, HE.out, by trivial⟩
      case measure => simp [intOf]; omega
end Go.Proofs.YtpobfgokikfmbaaGreatDoor

set_option linter.unusedSimpArgs false
set_option linter.unusedVariables false
set_option maxRecDepth 20000
namespace Go.Proofs.YtpobfgokikfmbaaGreatDoor
open Go.RowKit Go.WideShapes Col
theorem yb_bin {ops : Array Oper} {S : World → Prop} {op : Oper} {a : Act} (hw : Region.wanted op (yielded ops a.tmps) = true) (o : BinOp) (t t2 : TypeId) (x y : Operand) (ho : op.op = .binOp o t x y t2) (v1 v2 u : Value) (hx : a.eval x = v1) (hy : a.eval y = v2)
    (he : ∀ w, (eqGuard o t x y v1 v2).run Tryz.prog w = .ok () w) (h : ∀ w, (binOp o t v1 v2).run Tryz.prog w = .ok u w) : YieldsIf Tryz.prog ops S op u a :=
  .inl ⟨hw, fun w _ => by
    unfold execOp
    simp only [ho, hx, hy, Sem.run_bind, Sem.run_pure, he w, h w, Result.andThen_ok]⟩
theorem yb_len {ops : Array Oper} {S : World → Prop} {op : Oper} {a : Act} (hw : Region.wanted op (yielded ops a.tmps) = true) (x : Operand) (ho : op.op = .call { callee := .builtin .len, args := #[x], argTypes := #[40] }) (A : Option Addr) (n c : Nat) (hx : a.eval x = .slice A n c) : YieldsIf Tryz.prog ops S op (.int .i64 (n : Int)) a :=
  .inl ⟨hw, fun w _ => by
    unfold execOp
    simp only [ho, resolve, invoke, builtin, Sem.run_bind, Sem.run_pure, Result.andThen_ok, List.map_toArray, List.map_cons, List.map_nil, hx]
    rfl⟩
theorem lv_i64 (w : World) (g j : Nat) (v : Value) (h : w.cell? ⟨g, j, none⟩ = some v) : (loadVar 2 ⟨g, j, none⟩).run Tryz.prog w = .ok v w := by
  go_simp
theorem yb_ld {ops : Array Oper} {S : World → Prop} {op : Oper} {a : Act} (hw : Region.wanted op (yielded ops a.tmps) = true) (x : Operand) (ho : op.op = .load 2 x) (g j : Nat) (hx : a.eval x = .pointer (some ⟨g, j, none⟩)) (v : Value)
    (hS : ∀ w, S w → w.cell? ⟨g, j, none⟩ = some v) : YieldsIf Tryz.prog ops S op v a :=
  .inl ⟨hw, fun w hw' => by
    unfold execOp
    simp only [ho, hx, Instr.loadAt, Instr.sureAddr, Sem.run_bind, Sem.run_pure, Result.andThen_ok, lv_i64 w g j v (hS w hw')]⟩
theorem ix_i64 (g off m c k : Nat) (h : k < m) (w : World) : (Instr.indexAt 40 (.slice (some ⟨g, off, none⟩) m c) (.int .i64 (k : Int))).run Tryz.prog w = .ok (.pointer (some ⟨g, off + k, none⟩)) w := by
  have h1 : (k : Int) < (m : Int) := by omega
  first | (go_simp; done) | (go_simp; intro h; exfalso; omega)
theorem yb_ix {ops : Array Oper} {S : World → Prop} {op : Oper} {a : Act} (hw : Region.wanted op (yielded ops a.tmps) = true) (x y : Operand) (ho : op.op = .indexAddr 40 x y) (g off m c k : Nat) (hx : a.eval x = .slice (some ⟨g, off, none⟩) m c) (hy : a.eval y = .int .i64 (k : Int)) (h : k < m) : YieldsIf Tryz.prog ops S op (.pointer (some ⟨g, off + k, none⟩)) a :=
  .inl ⟨hw, fun w _ => by
    unfold execOp
    simp only [ho, hx, hy, Sem.run_bind, Sem.run_pure, Result.andThen_ok, ix_i64 g off m c k h w]⟩
theorem yb_pick {ops : Array Oper} {S : World → Prop} {op : Oper} {a : Act} (hw : Region.wanted op (yielded ops a.tmps) = true) (x y z : Operand) (ho : op.op = .pick x y z) (b : Bool) (v : Value) (hx : a.eval x = .bool b) (hv : (if b then a.eval y else a.eval z) = v) : YieldsIf Tryz.prog ops S op v a :=
  .inl ⟨hw, fun w _ => by
    unfold execOp
    subst hv
    cases b <;> simp only [ho, hx] <;> rfl⟩
theorem b_eq (x y : Int) (b : Bool) (h : (x == y) = b) (w : World) : (binOp .eql 2 (.int .i64 x) (.int .i64 y)).run Tryz.prog w = .ok (.bool b) w := by
  subst h
  first | rfl | go_simp
theorem b_add (k : Nat) (hk : k ≤ 5000) (w : World) : (binOp .add 3 (.int .i64 (k : Int)) (.int .i64 1)).run Tryz.prog w = .ok (.int .i64 ((k + 1 : Nat) : Int)) w := by
  have e : IntKind.i64.wrap ((k : Int) + 1) = ((k + 1 : Nat) : Int) := by rw [IntKind.wrap_i64]; omega
  rw [← e]; rfl
theorem b_lss (x y : Int) (b : Bool) (h : decide (x < y) = b) (w : World) : (binOp .lss 3 (.int .i64 x) (.int .i64 y)).run Tryz.prog w = .ok (.bool b) w := by
  subst h; rfl
/-- Bytes that a call owns, n of them at most. -/
def PB2 (W : World) (u : Value) (bytes : List Nat) (top : Nat) (wr : World) : Prop := ∃ (A : Option Addr) (n cap : Nat), u = .slice A n cap ∧ n ≤ top ∧ OwnS wr W.heap.size A n cap bytes ∧ Below W.heap.size W wr
def RP0 (W : World) (pre : List Nat) (l : List Int) (m : Nat) (u v : Value) (wr : World) : Prop := ∃ k : Nat, k ≤ m ∧ v = .int .i64 (k : Int) ∧ PB2 W u (pre ++ lpl (l.take k)) (20 + 10 * k) wr
def RP1 (W : World) (pre : List Nat) (l : List Int) (m : Nat) (u v : Value) (wr : World) : Prop := ∃ k : Nat, k ≤ m ∧ v = .int .i64 (k : Int) ∧ PB2 W u (pre ++ lde 0 (l.take k)) (20 + 10 * k) wr
/-- So far as the runs are told: k numbers are gone through, j of them, all alike, are not told yet. -/
def RP2 (W : World) (pre : List Nat) (l : List Int) (m : Nat) (u c v : Value) (wr : World) : Prop := ∃ (k j : Nat) (p : List Nat) (x : Int), k ≤ m ∧ j ≤ k ∧ v = .int .i64 (k : Int) ∧ c = .int .u64 (j : Int) ∧ PB2 W u p (20 + 20 * k) wr ∧ p ++ lru (l.drop (k - j)) = pre ++ lru l ∧ (∀ i, k - j ≤ i → i < k → l[i]? = some x) ∧ (0 < j → l[k]? = some x)
set_option maxHeartbeats 4000000 in
theorem refAs0_any (b : Option Addr) (m c : Nat) (l : List Int) (hm : Hid (m = l.length)) (hmc : m ≤ c) (hc : c ≤ 9223372036854775807) (hm1 : m ≤ 5000) (W : World) (HL : Hid (IsAt W b l)) :
    Calls Tryz.prog 54 #[.int .u8 0, .slice b m c] W (Puts W.heap.size W (asL 0 l)) := by
  have hmw : IntKind.u64.wrap (m : Int) = (m : Int) := by rw [IntKind.wrap_u64]; omega
  have HU := Lib.hid (refU_any m (by omega))
  have HU10 := Lib.hid (ub10 (show m < 18446744073709551616 by omega))
  have HO0 : Hid (OwnS (W.alloc (.cells #[.int .u8 0] 5)) W.heap.size (some ⟨W.heap.size, 0, none⟩) 1 1 [0]) := Lib.hid (OwnS.of_row (cs := [.int .u8 0]) (heap_alloc_new' W _) rfl (by decide) rfl rfl (Nat.le_refl _) (fun x hx => by simp at hx; omega))
  have HB0 : Hid (Below W.heap.size W (W.alloc (.cells #[.int .u8 0] 5))) := Lib.hid ((Below.refl _ _).alloc (Nat.le_refl _) _)
  have HRES : Hid (asL 0 l = ([0] ++ ub m) ++ lpl l) := Lib.hid (by rw [hm.out]; rfl)
  go_enter Tryz.func54, Tryz.ntmps54
  go_wp2_with (first
    | (go_at_call 53; refine (HU.out _).mono ?_; rintro e w2 hp; obtain ⟨A2, n2, c2, rfl, HO2, HB2, hn2⟩ := hp.at; have HN2 := Lib.hid hn2; have hn10 : n2 ≤ 10 := (by have := HU10.out; omega); have HO3 := Lib.hid (HO0.out.keep HB2.out); have HB3 := Lib.hid (below_to HB0.out HB2.out); clear hp hn2)
    | (refine wpList_append_by rfl (.tmp 22) (.tmp 26) rfl W.heap.size (some ⟨W.heap.size, 0, none⟩) 1 1 [0] rfl HO3.out A2 n2 c2 (ub m) rfl HN2.out HO2.out.byAt (by omega) HB3.out.size ?_; intro A4 c4 w4 ho4 hg4 hr4; have HO4 := Lib.hid ho4; have HB4 := Lib.hid (HB3.out.grown hg4 HB3.out.size HO3.out.base); have hn4 : 1 + n2 ≤ 20 := (by omega); clear ho4 hg4 hr4))
  obtain ⟨N4, hN4⟩ : ∃ N4, N4 = 1 + n2 := ⟨_, rfl⟩
  obtain ⟨pre, hpre⟩ : ∃ pre, pre = [0] ++ ub m := ⟨_, rfl⟩
  rw [← hN4] at HO4 hn4 ⊢
  rw [← hpre] at HO4 HRES
  clear hN4 hpre HO3 HB3 HO0 HB0 HO2 HB2 HU HN2 hn10
  have HST : Hid (RP0 W pre l m (.slice A4 N4 c4) (.int .i64 0) w4) := Lib.hid ⟨0, Nat.zero_le _, rfl, A4, N4, c4, rfl, by omega, by simpa [lpl, lde] using HO4.out, HB4.out⟩
  go_loopw [5, 6] (fun u v wr => RP0 W pre l m u v wr) (fun _ v _ => m - (intOf v).toNat)
  case atStart => exact HST.out
  case round =>
    obtain ⟨k, hk, rfl, A, n, cap, rfl, hn, ho, hb⟩ := hrel
    have HO := Lib.hid ho; have HB := Lib.hid hb
    clear ho hb HST HO4 HB4
    by_cases hlt : k < m
    · obtain ⟨x, hx⟩ : ∃ x, l[k]? = some x := ⟨l[k]'(by have := hm.out; omega), List.getElem?_eq_getElem _⟩
      obtain ⟨hwx, g, off, rfl, -, hcx⟩ := (HL.out.keep HB.out) k x hx
      have HSN := Lib.hid (lpl_snoc l k x hx)
      have HW := Lib.hid hwx
      have HZ := Lib.hid (zz10 hwx)
      clear hx hwx
      go_wp2_with (first
        | (go_at_call 82; refine (refI_any x HW _).mono ?_; rintro e w2 hp; obtain ⟨A2, n2, c2, rfl, HO2, HB2, hn2⟩ := hp.at; have HN2 := Lib.hid hn2; have hn10 : n2 ≤ 10 := (by have := HZ.out; omega); have HOP := Lib.hid (HO.out.keep HB2.out); have HBP := Lib.hid (below_to HB.out HB2.out); clear hp hn2)
        | (refine wpList_append_by rfl (.tmp 37) (.tmp 42) rfl W.heap.size A n cap _ rfl HOP.out A2 n2 c2 (ub (zz x)) rfl HN2.out HO2.out.byAt (by omega) HBP.out.size ?_; intro A5 c5 w5 ho hg hr; have HO5 := Lib.hid ho; have HB5 := Lib.hid (HBP.out.grown hg HBP.out.size HOP.out.base); clear ho hg hr))
      go_roundw
      case rel => exact ⟨k + 1, by omega, by go_num, A5, _, c5, rfl, by omega, by rw [HSN.out, ← List.append_assoc]; exact HO5.out, HB5.out⟩
      case measure => simp [intOf]; omega
    · obtain rfl : k = m := by omega
      have HT : Hid (l.take k = l) := Lib.hid (List.take_of_length_le (by have := hm.out; omega))
      rw [HT.out] at HO
      go_wp2
      go_ret
      exact ⟨A, n, cap, rfl, by rw [HRES.out]; exact HO.out, HB.out, HB.out.size⟩
set_option maxHeartbeats 4000000 in
theorem refAs1_any (b : Option Addr) (m c : Nat) (l : List Int) (hm : Hid (m = l.length)) (hmc : m ≤ c) (hc : c ≤ 9223372036854775807) (hm1 : m ≤ 5000) (W : World) (HL : Hid (IsAt W b l)) :
    Calls Tryz.prog 54 #[.int .u8 1, .slice b m c] W (Puts W.heap.size W (asL 1 l)) := by
  have hmw : IntKind.u64.wrap (m : Int) = (m : Int) := by rw [IntKind.wrap_u64]; omega
  have HU := Lib.hid (refU_any m (by omega))
  have HU10 := Lib.hid (ub10 (show m < 18446744073709551616 by omega))
  have HO0 : Hid (OwnS (W.alloc (.cells #[.int .u8 1] 5)) W.heap.size (some ⟨W.heap.size, 0, none⟩) 1 1 [1]) := Lib.hid (OwnS.of_row (cs := [.int .u8 1]) (heap_alloc_new' W _) rfl (by decide) rfl rfl (Nat.le_refl _) (fun x hx => by simp at hx; omega))
  have HB0 : Hid (Below W.heap.size W (W.alloc (.cells #[.int .u8 1] 5))) := Lib.hid ((Below.refl _ _).alloc (Nat.le_refl _) _)
  have HRES : Hid (asL 1 l = ([1] ++ ub m) ++ lde 0 l) := Lib.hid (by rw [hm.out]; rfl)
  go_enter Tryz.func54, Tryz.ntmps54
  go_wp2_with (first
    | (go_at_call 53; refine (HU.out _).mono ?_; rintro e w2 hp; obtain ⟨A2, n2, c2, rfl, HO2, HB2, hn2⟩ := hp.at; have HN2 := Lib.hid hn2; have hn10 : n2 ≤ 10 := (by have := HU10.out; omega); have HO3 := Lib.hid (HO0.out.keep HB2.out); have HB3 := Lib.hid (below_to HB0.out HB2.out); clear hp hn2)
    | (refine wpList_append_by rfl (.tmp 22) (.tmp 26) rfl W.heap.size (some ⟨W.heap.size, 0, none⟩) 1 1 [1] rfl HO3.out A2 n2 c2 (ub m) rfl HN2.out HO2.out.byAt (by omega) HB3.out.size ?_; intro A4 c4 w4 ho4 hg4 hr4; have HO4 := Lib.hid ho4; have HB4 := Lib.hid (HB3.out.grown hg4 HB3.out.size HO3.out.base); have hn4 : 1 + n2 ≤ 20 := (by omega); clear ho4 hg4 hr4))
  obtain ⟨N4, hN4⟩ : ∃ N4, N4 = 1 + n2 := ⟨_, rfl⟩
  obtain ⟨pre, hpre⟩ : ∃ pre, pre = [1] ++ ub m := ⟨_, rfl⟩
  rw [← hN4] at HO4 hn4 ⊢
  rw [← hpre] at HO4 HRES
  clear hN4 hpre HO3 HB3 HO0 HB0 HO2 HB2 HU HN2 hn10
  have HST : Hid (RP1 W pre l m (.slice A4 N4 c4) (.int .i64 0) w4) := Lib.hid ⟨0, Nat.zero_le _, rfl, A4, N4, c4, rfl, by omega, by simpa [lpl, lde] using HO4.out, HB4.out⟩
  go_loopw [5, 7] (fun u v wr => RP1 W pre l m u v wr) (fun _ v _ => m - (intOf v).toNat)
  case atStart => exact HST.out
  case round =>
    obtain ⟨k, hk, rfl, A, n, cap, rfl, hn, ho, hb⟩ := hrel
    have HO := Lib.hid ho; have HB := Lib.hid hb
    clear ho hb HST HO4 HB4
    by_cases hlt : k < m
    · obtain ⟨x, hx⟩ : ∃ x, l[k]? = some x := ⟨l[k]'(by have := hm.out; omega), List.getElem?_eq_getElem _⟩
      obtain ⟨hwx, g, off, rfl, -, hcx⟩ := (HL.out.keep HB.out) k x hx
      have HSN := Lib.hid (lde_snoc l k x hx)
      by_cases hk0 : k = 0
      · subst hk0
        rw [Nat.add_zero] at hcx
        obtain ⟨y, hy⟩ : ∃ y, y = wrap64 (x - 0) := ⟨_, rfl⟩
        have HY : Hid (sub64 x (lastOf 0 (l.take 0)) = y) := Lib.hid (by rw [hy]; exact sub64_eq x 0)
        have hyx : y = x := by rw [hy]; unfold wrap64; unfold Wf64 at hwx; omega
        rw [HY.out] at HSN
        subst hyx
        have HW := Lib.hid hwx
        have HZ := Lib.hid (zz10 hwx)
        have hxw : wrap64 y = y := by unfold wrap64; unfold Wf64 at hwx; omega
        obtain ⟨hw1, hw2⟩ := hwx
        clear hx hy HY
        go_wp2_with (first
          | (go_at_call 82; refine (refI_any y HW _).mono ?_; rintro e w2 hp; obtain ⟨A2, n2, c2, rfl, HO2, HB2, hn2⟩ := hp.at; have HN2 := Lib.hid hn2; have hn10 : n2 ≤ 10 := (by have := HZ.out; omega); have HOP := Lib.hid (HO.out.keep HB2.out); have HBP := Lib.hid (below_to HB.out HB2.out); clear hp hn2)
          | (refine wpList_append_by rfl (.tmp 59) (.tmp 66) rfl W.heap.size A n cap _ rfl HOP.out A2 n2 c2 (ub (zz y)) rfl HN2.out HO2.out.byAt (by omega) HBP.out.size ?_; intro A5 c5 w5 ho hg hr; have HO5 := Lib.hid ho; have HB5 := Lib.hid (HBP.out.grown hg HBP.out.size HOP.out.base); clear ho hg hr))
        go_roundw
        case rel => exact ⟨0 + 1, by omega, by go_num, A5, _, c5, rfl, by omega, by rw [HSN.out, ← List.append_assoc]; exact HO5.out, HB5.out⟩
        case measure => simp [intOf]; omega
      · obtain ⟨j, rfl⟩ : ∃ j, k = j + 1 := ⟨k - 1, by omega⟩
        obtain ⟨z, hz⟩ : ∃ z, l[j]? = some z := ⟨l[j]'(by have := hm.out; omega), List.getElem?_eq_getElem _⟩
        have hcz : wr.cell? ⟨g, off + j, none⟩ = some (.int .i64 z) := by
          obtain ⟨-, g', off', e, hcz⟩ := int_cell (HL.out.keep HB.out) j z hz
          injection e with e; injection e with e1 e2; subst e1; subst e2
          exact hcz
        rw [lastOf_snoc 0 l j z hz] at HSN
        obtain ⟨y, hy⟩ : ∃ y, y = wrap64 (x - z) := ⟨_, rfl⟩
        rw [sub64_eq, ← hy] at HSN
        have HY := Lib.hid hy
        have HW : Hid (Wf64 y) := Lib.hid (by rw [hy]; exact wrap64_wf' _)
        have HZ := Lib.hid (zz10 HW.out)
        have hj1 : ((j + 1 : Nat) : Int) - 1 = (j : Int) := by omega
        have hjm : (j : Int) < (m : Int) := by omega
        have hj0 : (0 : Int) < ((j + 1 : Nat) : Int) := by omega
        clear hx hwx hy hz hk0
        go_wp2_with (first
          | (go_at_call 82; rw [← HY.out]; refine (refI_any y HW _).mono ?_; rintro e w2 hp; obtain ⟨A2, n2, c2, rfl, HO2, HB2, hn2⟩ := hp.at; have HN2 := Lib.hid hn2; have hn10 : n2 ≤ 10 := (by have := HZ.out; omega); have HOP := Lib.hid (HO.out.keep HB2.out); have HBP := Lib.hid (below_to HB.out HB2.out); clear hp hn2)
          | (refine wpList_append_by rfl (.tmp 59) (.tmp 66) rfl W.heap.size A n cap _ rfl HOP.out A2 n2 c2 (ub (zz y)) rfl HN2.out HO2.out.byAt (by omega) HBP.out.size ?_; intro A5 c5 w5 ho hg hr; have HO5 := Lib.hid ho; have HB5 := Lib.hid (HBP.out.grown hg HBP.out.size HOP.out.base); clear ho hg hr))
        go_roundw
        case rel => exact ⟨j + 1 + 1, by omega, by go_num, A5, _, c5, rfl, by omega, by rw [HSN.out, ← List.append_assoc]; exact HO5.out, HB5.out⟩
        case measure => simp [intOf]; omega
    · obtain rfl : k = m := by omega
      have HT : Hid (l.take k = l) := Lib.hid (List.take_of_length_le (by have := hm.out; omega))
      rw [HT.out] at HO
      go_wp2
      go_ret
      exact ⟨A, n, cap, rfl, by rw [HRES.out]; exact HO.out, HB.out, HB.out.size⟩
set_option maxHeartbeats 4000000 in
theorem refAs2_any (b : Option Addr) (m c : Nat) (l : List Int) (hm : Hid (m = l.length)) (hmc : m ≤ c) (hc : c ≤ 9223372036854775807) (hm1 : m ≤ 5000) (W : World) (HL : Hid (IsAt W b l)) :
    Calls Tryz.prog 54 #[.int .u8 2, .slice b m c] W (Puts W.heap.size W (asL 2 l)) := by
  have hmw : IntKind.u64.wrap (m : Int) = (m : Int) := by rw [IntKind.wrap_u64]; omega
  have HU := Lib.hid (refU_any m (by omega))
  have HU10 := Lib.hid (ub10 (show m < 18446744073709551616 by omega))
  have HO0 : Hid (OwnS (W.alloc (.cells #[.int .u8 2] 5)) W.heap.size (some ⟨W.heap.size, 0, none⟩) 1 1 [2]) := Lib.hid (OwnS.of_row (cs := [.int .u8 2]) (heap_alloc_new' W _) rfl (by decide) rfl rfl (Nat.le_refl _) (fun x hx => by simp at hx; omega))
  have HB0 : Hid (Below W.heap.size W (W.alloc (.cells #[.int .u8 2] 5))) := Lib.hid ((Below.refl _ _).alloc (Nat.le_refl _) _)
  have HRES : Hid (asL 2 l = ([2] ++ ub m) ++ lru l) := Lib.hid (by rw [hm.out]; rfl)
  go_enter Tryz.func54, Tryz.ntmps54
  go_wp2_with (first
    | (go_at_call 53; refine (HU.out _).mono ?_; rintro e w2 hp; obtain ⟨A2, n2, c2, rfl, HO2, HB2, hn2⟩ := hp.at; have HN2 := Lib.hid hn2; have hn10 : n2 ≤ 10 := (by have := HU10.out; omega); have HO3 := Lib.hid (HO0.out.keep HB2.out); have HB3 := Lib.hid (below_to HB0.out HB2.out); clear hp hn2)
    | (refine wpList_append_by rfl (.tmp 22) (.tmp 26) rfl W.heap.size (some ⟨W.heap.size, 0, none⟩) 1 1 [2] rfl HO3.out A2 n2 c2 (ub m) rfl HN2.out HO2.out.byAt (by omega) HB3.out.size ?_; intro A4 c4 w4 ho4 hg4 hr4; have HO4 := Lib.hid ho4; have HB4 := Lib.hid (HB3.out.grown hg4 HB3.out.size HO3.out.base); have hn4 : 1 + n2 ≤ 20 := (by omega); clear ho4 hg4 hr4))
  obtain ⟨N4, hN4⟩ : ∃ N4, N4 = 1 + n2 := ⟨_, rfl⟩
  obtain ⟨pre, hpre⟩ : ∃ pre, pre = [2] ++ ub m := ⟨_, rfl⟩
  rw [← hN4] at HO4 hn4 ⊢
  rw [← hpre] at HO4 HRES
  clear hN4 hpre HO3 HB3 HO0 HB0 HO2 HB2 HU HN2 hn10
  have HST : Hid (RP2 W pre l m (.slice A4 N4 c4) (.int .u64 0) (.int .i64 0) w4) := Lib.hid ⟨0, 0, pre, 0, Nat.zero_le _, Nat.le_refl _, rfl, rfl, ⟨A4, N4, c4, rfl, by omega, HO4.out, HB4.out⟩, rfl, fun i h1 h2 => by omega, fun h => by omega⟩
  go_loopw [5, 9, 10] (fun u c v wr => RP2 W pre l m u c v wr) (fun _ _ v _ => m - (intOf v).toNat)
  case atStart => exact HST.out
  case round =>
    obtain ⟨k, j, p, y0, hk, hj, rfl, rfl, ⟨A, n, cap, rfl, hn, ho, hb⟩, hpp, hall, hjx⟩ := hrel
    have HO := Lib.hid ho; have HB := Lib.hid hb; have HP := Lib.hid hpp; have HALL := Lib.hid hall; have HJX := Lib.hid hjx
    clear ho hb HST HO4 HB4 hpp hall hjx
    by_cases hlt : k < m
    · obtain ⟨x, hx⟩ : ∃ x, l[k]? = some x := ⟨l[k]'(by have := hm.out; omega), List.getElem?_eq_getElem _⟩
      have HX := Lib.hid hx
      obtain ⟨hwx, g, off, rfl, hg, hcx⟩ := (HL.out.keep HB.out) k x hx
      have HG := Lib.hid hg
      have HCX := Lib.hid hcx
      have HAX : Hid (∀ i, k - j ≤ i → i < k + 1 → l[i]? = some x) := Lib.hid fun i h1 h2 => by
        by_cases e : i = k
        · subst e; exact hx
        · have h3 := HALL.out i h1 (by omega)
          have h4 := HJX.out (by omega)
          rw [hx] at h4; injection h4 with h4; subst h4; exact h3
      have HW := Lib.hid hwx
      have HZ := Lib.hid (zz10 hwx)
      clear hx hwx hg
      by_cases hnx : k + 1 < m
      · obtain ⟨z, hz⟩ : ∃ z, l[k + 1]? = some z := ⟨l[k + 1]'(by have := hm.out; omega), List.getElem?_eq_getElem _⟩
        have HZZ := Lib.hid hz
        have HCZ : Hid (wr.cell? ⟨g, off + (k + 1), none⟩ = some (.int .i64 z)) := Lib.hid (by
          obtain ⟨-, g', off', e, hcz⟩ := int_cell (HL.out.keep HB.out) (k + 1) z hz
          injection e with e; injection e with e1 e2; subst e1; subst e2
          exact hcz)
        have hnxi : ((k + 1 : Nat) : Int) < (m : Int) := by omega
        have hnxi2 : (k : Int) + 1 < (m : Int) := by omega
        clear hz hcx
        by_cases hzx : z = x
        · subst hzx
          go_upto_region 22 with fail
          refine wp_region_held_drew (S := fun w => Below wr.heap.size wr w) (by kernel_rfl) ((Below.refl _ _).drew) (fun hHeld => ?_)
          refine wpAnyH_take (i := 0) (v := .int .i64 (k : Int)) rfl (by kernel_rfl) (by kernel_rfl) (by kernel_rfl) (fun _ _ _ h => h) (Or.inl ⟨by rfl, fun _ _ => rfl⟩) hHeld ?_
          try dsimp only
          try simp only [Act.put, List.getElem_toArray, List.getElem_cons_zero, List.getElem_cons_succ, List.setIfInBounds_toArray, List.set_cons_zero, List.set_cons_succ]
          refine wpAnyH_take (i := 1) (v := .int .i64 ((k + 1 : Nat) : Int)) rfl (by kernel_rfl) (by kernel_rfl) (by kernel_rfl) (fun _ _ _ h => h) (yb_bin rfl .add 3 3 (.tmp 76) (.const (.int .i64 1)) rfl _ _ _ rfl rfl (fun _ => rfl) (b_add k (by omega))) hHeld ?_
          try dsimp only
          try simp only [Act.put, List.getElem_toArray, List.getElem_cons_zero, List.getElem_cons_succ, List.setIfInBounds_toArray, List.set_cons_zero, List.set_cons_succ]
          refine wpAnyH_take (i := 2) (v := .slice (some ⟨g, off, none⟩) m c) rfl (by kernel_rfl) (by kernel_rfl) (by kernel_rfl) (fun _ _ _ h => h) (Or.inl ⟨by rfl, fun _ _ => rfl⟩) hHeld ?_
          try dsimp only
          try simp only [Act.put, List.getElem_toArray, List.getElem_cons_zero, List.getElem_cons_succ, List.setIfInBounds_toArray, List.set_cons_zero, List.set_cons_succ]
          refine wpAnyH_take (i := 3) (v := .int .i64 (m : Int)) rfl (by kernel_rfl) (by kernel_rfl) (by kernel_rfl) (fun _ _ _ h => h) (yb_len rfl (.tmp 78) rfl _ _ _ rfl) hHeld ?_
          try dsimp only
          try simp only [Act.put, List.getElem_toArray, List.getElem_cons_zero, List.getElem_cons_succ, List.setIfInBounds_toArray, List.set_cons_zero, List.set_cons_succ]
          refine wpAnyH_take (i := 4) (v := .bool true) rfl (by kernel_rfl) (by kernel_rfl) (by kernel_rfl) (fun _ _ _ h => h) (yb_bin rfl .lss 3 3 (.tmp 77) (.tmp 79) rfl _ _ _ rfl rfl (fun _ => rfl) (b_lss _ _ true (by simpa using hnxi))) hHeld ?_
          try dsimp only
          try simp only [Act.put, List.getElem_toArray, List.getElem_cons_zero, List.getElem_cons_succ, List.setIfInBounds_toArray, List.set_cons_zero, List.set_cons_succ]
          refine wpAnyH_take (i := 5) (v := .bool true) rfl (by kernel_rfl) (by kernel_rfl) (by kernel_rfl) (fun _ _ _ h => h) (Or.inl ⟨by rfl, fun _ _ => rfl⟩) hHeld ?_
          try dsimp only
          try simp only [Act.put, List.getElem_toArray, List.getElem_cons_zero, List.getElem_cons_succ, List.setIfInBounds_toArray, List.set_cons_zero, List.set_cons_succ]
          refine wpAnyH_take (i := 6) (v := .slice (some ⟨g, off, none⟩) m c) rfl (by kernel_rfl) (by kernel_rfl) (by kernel_rfl) (fun _ _ _ h => h) (Or.inl ⟨by rfl, fun _ _ => rfl⟩) hHeld ?_
          try dsimp only
          try simp only [Act.put, List.getElem_toArray, List.getElem_cons_zero, List.getElem_cons_succ, List.setIfInBounds_toArray, List.set_cons_zero, List.set_cons_succ]
          refine wpAnyH_take (i := 7) (v := .int .i64 (k : Int)) rfl (by kernel_rfl) (by kernel_rfl) (by kernel_rfl) (fun _ _ _ h => h) (Or.inl ⟨by rfl, fun _ _ => rfl⟩) hHeld ?_
          try dsimp only
          try simp only [Act.put, List.getElem_toArray, List.getElem_cons_zero, List.getElem_cons_succ, List.setIfInBounds_toArray, List.set_cons_zero, List.set_cons_succ]
          refine wpAnyH_take (i := 8) (v := .int .i64 ((k + 1 : Nat) : Int)) rfl (by kernel_rfl) (by kernel_rfl) (by kernel_rfl) (fun _ _ _ h => h) (yb_bin rfl .add 3 3 (.tmp 83) (.const (.int .i64 1)) rfl _ _ _ rfl rfl (fun _ => rfl) (b_add k (by omega))) hHeld ?_
          try dsimp only
          try simp only [Act.put, List.getElem_toArray, List.getElem_cons_zero, List.getElem_cons_succ, List.setIfInBounds_toArray, List.set_cons_zero, List.set_cons_succ]
          refine wpAnyH_take (i := 9) (v := .pointer (some ⟨g, off + (k + 1), none⟩)) rfl (by kernel_rfl) (by kernel_rfl) (by kernel_rfl) (fun _ _ _ h => h) (yb_ix rfl (.tmp 82) (.tmp 84) rfl g off m c (k + 1) rfl rfl hnx) hHeld ?_
          try dsimp only
          try simp only [Act.put, List.getElem_toArray, List.getElem_cons_zero, List.getElem_cons_succ, List.setIfInBounds_toArray, List.set_cons_zero, List.set_cons_succ]
          refine wpAnyH_take (i := 10) (v := .int .i64 z) rfl (by kernel_rfl) (by kernel_rfl) (by kernel_rfl) (fun _ _ _ h => h) (yb_ld rfl (.tmp 85) rfl g (off + (k + 1)) rfl _ (fun w hw => (hw.cell (p := ⟨g, off + (k + 1), none⟩) HG.out).trans HCZ.out)) hHeld ?_
          try dsimp only
          try simp only [Act.put, List.getElem_toArray, List.getElem_cons_zero, List.getElem_cons_succ, List.setIfInBounds_toArray, List.set_cons_zero, List.set_cons_succ]
          refine wpAnyH_take (i := 11) (v := .slice (some ⟨g, off, none⟩) m c) rfl (by kernel_rfl) (by kernel_rfl) (by kernel_rfl) (fun _ _ _ h => h) (Or.inl ⟨by rfl, fun _ _ => rfl⟩) hHeld ?_
          try dsimp only
          try simp only [Act.put, List.getElem_toArray, List.getElem_cons_zero, List.getElem_cons_succ, List.setIfInBounds_toArray, List.set_cons_zero, List.set_cons_succ]
          refine wpAnyH_take (i := 12) (v := .int .i64 (k : Int)) rfl (by kernel_rfl) (by kernel_rfl) (by kernel_rfl) (fun _ _ _ h => h) (Or.inl ⟨by rfl, fun _ _ => rfl⟩) hHeld ?_
          try dsimp only
          try simp only [Act.put, List.getElem_toArray, List.getElem_cons_zero, List.getElem_cons_succ, List.setIfInBounds_toArray, List.set_cons_zero, List.set_cons_succ]
          refine wpAnyH_take (i := 13) (v := .pointer (some ⟨g, off + k, none⟩)) rfl (by kernel_rfl) (by kernel_rfl) (by kernel_rfl) (fun _ _ _ h => h) (yb_ix rfl (.tmp 87) (.tmp 88) rfl g off m c k rfl rfl hlt) hHeld ?_
          try dsimp only
          try simp only [Act.put, List.getElem_toArray, List.getElem_cons_zero, List.getElem_cons_succ, List.setIfInBounds_toArray, List.set_cons_zero, List.set_cons_succ]
          refine wpAnyH_take (i := 14) (v := .int .i64 z) rfl (by kernel_rfl) (by kernel_rfl) (by kernel_rfl) (fun _ _ _ h => h) (yb_ld rfl (.tmp 89) rfl g (off + k) rfl _ (fun w hw => (hw.cell (p := ⟨g, off + k, none⟩) HG.out).trans HCX.out)) hHeld ?_
          try dsimp only
          try simp only [Act.put, List.getElem_toArray, List.getElem_cons_zero, List.getElem_cons_succ, List.setIfInBounds_toArray, List.set_cons_zero, List.set_cons_succ]
          refine wpAnyH_take (i := 15) (v := .bool true) rfl (by kernel_rfl) (by kernel_rfl) (by kernel_rfl) (fun _ _ _ h => h) (yb_bin rfl .eql 2 2 (.tmp 86) (.tmp 90) rfl _ _ _ rfl rfl (fun _ => rfl) (b_eq z z true (by simp))) hHeld ?_
          try dsimp only
          try simp only [Act.put, List.getElem_toArray, List.getElem_cons_zero, List.getElem_cons_succ, List.setIfInBounds_toArray, List.set_cons_zero, List.set_cons_succ]
          refine wpAnyH_take (i := 16) (v := .bool true) rfl (by kernel_rfl) (by kernel_rfl) (by kernel_rfl) (fun _ _ _ h => h) (yb_pick rfl (.tmp 81) (.tmp 91) (.const (.bool false)) rfl true _ rfl rfl) hHeld ?_
          try dsimp only
          try simp only [Act.put, List.getElem_toArray, List.getElem_cons_zero, List.getElem_cons_succ, List.setIfInBounds_toArray, List.set_cons_zero, List.set_cons_succ]
          refine wpAnyH_done (by kernel_rfl) ?_ _
          have HB9 := Lib.hid (below_to HB.out hHeld)
          have HO9 := Lib.hid (HO.out.keep hHeld)
          clear hHeld
          go_wp2
          go_roundw
          case rel => exact ⟨k + 1, j + 1, p, z, by omega, by omega, by go_num, by go_num, ⟨A, n, cap, rfl, by omega, HO9.out, HB9.out⟩, by rw [show k + 1 - (j + 1) = k - j by omega]; exact HP.out, fun i h1 h2 => HAX.out i (by omega) h2, fun _ => HZZ.out⟩
          case measure => simp [intOf]; omega
        · have HST2 := Lib.hid (lru_step (l.drop (k - j)) x (j + 1) (by omega) (fun i hi => by rw [List.getElem?_drop]; exact HAX.out _ (by omega) (by omega)) (.inr ⟨z, by rw [List.getElem?_drop, show k - j + (j + 1) = k + 1 by omega]; exact HZZ.out, hzx⟩))
          have HNE := Lib.hid hzx
          clear hzx
          go_upto_region 22 with fail
          refine wp_region_held_drew (S := fun w => Below wr.heap.size wr w) (by kernel_rfl) ((Below.refl _ _).drew) (fun hHeld => ?_)
          refine wpAnyH_take (i := 0) (v := .int .i64 (k : Int)) rfl (by kernel_rfl) (by kernel_rfl) (by kernel_rfl) (fun _ _ _ h => h) (Or.inl ⟨by rfl, fun _ _ => rfl⟩) hHeld ?_
          try dsimp only
          try simp only [Act.put, List.getElem_toArray, List.getElem_cons_zero, List.getElem_cons_succ, List.setIfInBounds_toArray, List.set_cons_zero, List.set_cons_succ]
          refine wpAnyH_take (i := 1) (v := .int .i64 ((k + 1 : Nat) : Int)) rfl (by kernel_rfl) (by kernel_rfl) (by kernel_rfl) (fun _ _ _ h => h) (yb_bin rfl .add 3 3 (.tmp 76) (.const (.int .i64 1)) rfl _ _ _ rfl rfl (fun _ => rfl) (b_add k (by omega))) hHeld ?_
          try dsimp only
          try simp only [Act.put, List.getElem_toArray, List.getElem_cons_zero, List.getElem_cons_succ, List.setIfInBounds_toArray, List.set_cons_zero, List.set_cons_succ]
          refine wpAnyH_take (i := 2) (v := .slice (some ⟨g, off, none⟩) m c) rfl (by kernel_rfl) (by kernel_rfl) (by kernel_rfl) (fun _ _ _ h => h) (Or.inl ⟨by rfl, fun _ _ => rfl⟩) hHeld ?_
          try dsimp only
          try simp only [Act.put, List.getElem_toArray, List.getElem_cons_zero, List.getElem_cons_succ, List.setIfInBounds_toArray, List.set_cons_zero, List.set_cons_succ]
          refine wpAnyH_take (i := 3) (v := .int .i64 (m : Int)) rfl (by kernel_rfl) (by kernel_rfl) (by kernel_rfl) (fun _ _ _ h => h) (yb_len rfl (.tmp 78) rfl _ _ _ rfl) hHeld ?_
          try dsimp only
          try simp only [Act.put, List.getElem_toArray, List.getElem_cons_zero, List.getElem_cons_succ, List.setIfInBounds_toArray, List.set_cons_zero, List.set_cons_succ]
          refine wpAnyH_take (i := 4) (v := .bool true) rfl (by kernel_rfl) (by kernel_rfl) (by kernel_rfl) (fun _ _ _ h => h) (yb_bin rfl .lss 3 3 (.tmp 77) (.tmp 79) rfl _ _ _ rfl rfl (fun _ => rfl) (b_lss _ _ true (by simpa using hnxi))) hHeld ?_
          try dsimp only
          try simp only [Act.put, List.getElem_toArray, List.getElem_cons_zero, List.getElem_cons_succ, List.setIfInBounds_toArray, List.set_cons_zero, List.set_cons_succ]
          refine wpAnyH_take (i := 5) (v := .bool true) rfl (by kernel_rfl) (by kernel_rfl) (by kernel_rfl) (fun _ _ _ h => h) (Or.inl ⟨by rfl, fun _ _ => rfl⟩) hHeld ?_
          try dsimp only
          try simp only [Act.put, List.getElem_toArray, List.getElem_cons_zero, List.getElem_cons_succ, List.setIfInBounds_toArray, List.set_cons_zero, List.set_cons_succ]
          refine wpAnyH_take (i := 6) (v := .slice (some ⟨g, off, none⟩) m c) rfl (by kernel_rfl) (by kernel_rfl) (by kernel_rfl) (fun _ _ _ h => h) (Or.inl ⟨by rfl, fun _ _ => rfl⟩) hHeld ?_
          try dsimp only
          try simp only [Act.put, List.getElem_toArray, List.getElem_cons_zero, List.getElem_cons_succ, List.setIfInBounds_toArray, List.set_cons_zero, List.set_cons_succ]
          refine wpAnyH_take (i := 7) (v := .int .i64 (k : Int)) rfl (by kernel_rfl) (by kernel_rfl) (by kernel_rfl) (fun _ _ _ h => h) (Or.inl ⟨by rfl, fun _ _ => rfl⟩) hHeld ?_
          try dsimp only
          try simp only [Act.put, List.getElem_toArray, List.getElem_cons_zero, List.getElem_cons_succ, List.setIfInBounds_toArray, List.set_cons_zero, List.set_cons_succ]
          refine wpAnyH_take (i := 8) (v := .int .i64 ((k + 1 : Nat) : Int)) rfl (by kernel_rfl) (by kernel_rfl) (by kernel_rfl) (fun _ _ _ h => h) (yb_bin rfl .add 3 3 (.tmp 83) (.const (.int .i64 1)) rfl _ _ _ rfl rfl (fun _ => rfl) (b_add k (by omega))) hHeld ?_
          try dsimp only
          try simp only [Act.put, List.getElem_toArray, List.getElem_cons_zero, List.getElem_cons_succ, List.setIfInBounds_toArray, List.set_cons_zero, List.set_cons_succ]
          refine wpAnyH_take (i := 9) (v := .pointer (some ⟨g, off + (k + 1), none⟩)) rfl (by kernel_rfl) (by kernel_rfl) (by kernel_rfl) (fun _ _ _ h => h) (yb_ix rfl (.tmp 82) (.tmp 84) rfl g off m c (k + 1) rfl rfl hnx) hHeld ?_
          try dsimp only
          try simp only [Act.put, List.getElem_toArray, List.getElem_cons_zero, List.getElem_cons_succ, List.setIfInBounds_toArray, List.set_cons_zero, List.set_cons_succ]
          refine wpAnyH_take (i := 10) (v := .int .i64 z) rfl (by kernel_rfl) (by kernel_rfl) (by kernel_rfl) (fun _ _ _ h => h) (yb_ld rfl (.tmp 85) rfl g (off + (k + 1)) rfl _ (fun w hw => (hw.cell (p := ⟨g, off + (k + 1), none⟩) HG.out).trans HCZ.out)) hHeld ?_
          try dsimp only
          try simp only [Act.put, List.getElem_toArray, List.getElem_cons_zero, List.getElem_cons_succ, List.setIfInBounds_toArray, List.set_cons_zero, List.set_cons_succ]
          refine wpAnyH_take (i := 11) (v := .slice (some ⟨g, off, none⟩) m c) rfl (by kernel_rfl) (by kernel_rfl) (by kernel_rfl) (fun _ _ _ h => h) (Or.inl ⟨by rfl, fun _ _ => rfl⟩) hHeld ?_
          try dsimp only
          try simp only [Act.put, List.getElem_toArray, List.getElem_cons_zero, List.getElem_cons_succ, List.setIfInBounds_toArray, List.set_cons_zero, List.set_cons_succ]
          refine wpAnyH_take (i := 12) (v := .int .i64 (k : Int)) rfl (by kernel_rfl) (by kernel_rfl) (by kernel_rfl) (fun _ _ _ h => h) (Or.inl ⟨by rfl, fun _ _ => rfl⟩) hHeld ?_
          try dsimp only
          try simp only [Act.put, List.getElem_toArray, List.getElem_cons_zero, List.getElem_cons_succ, List.setIfInBounds_toArray, List.set_cons_zero, List.set_cons_succ]
          refine wpAnyH_take (i := 13) (v := .pointer (some ⟨g, off + k, none⟩)) rfl (by kernel_rfl) (by kernel_rfl) (by kernel_rfl) (fun _ _ _ h => h) (yb_ix rfl (.tmp 87) (.tmp 88) rfl g off m c k rfl rfl hlt) hHeld ?_
          try dsimp only
          try simp only [Act.put, List.getElem_toArray, List.getElem_cons_zero, List.getElem_cons_succ, List.setIfInBounds_toArray, List.set_cons_zero, List.set_cons_succ]
          refine wpAnyH_take (i := 14) (v := .int .i64 x) rfl (by kernel_rfl) (by kernel_rfl) (by kernel_rfl) (fun _ _ _ h => h) (yb_ld rfl (.tmp 89) rfl g (off + k) rfl _ (fun w hw => (hw.cell (p := ⟨g, off + k, none⟩) HG.out).trans HCX.out)) hHeld ?_
          try dsimp only
          try simp only [Act.put, List.getElem_toArray, List.getElem_cons_zero, List.getElem_cons_succ, List.setIfInBounds_toArray, List.set_cons_zero, List.set_cons_succ]
          refine wpAnyH_take (i := 15) (v := .bool false) rfl (by kernel_rfl) (by kernel_rfl) (by kernel_rfl) (fun _ _ _ h => h) (yb_bin rfl .eql 2 2 (.tmp 86) (.tmp 90) rfl _ _ _ rfl rfl (fun _ => rfl) (b_eq z x false (by rw [beq_eq_false_iff_ne]; exact HNE.out))) hHeld ?_
          try dsimp only
          try simp only [Act.put, List.getElem_toArray, List.getElem_cons_zero, List.getElem_cons_succ, List.setIfInBounds_toArray, List.set_cons_zero, List.set_cons_succ]
          refine wpAnyH_take (i := 16) (v := .bool false) rfl (by kernel_rfl) (by kernel_rfl) (by kernel_rfl) (fun _ _ _ h => h) (yb_pick rfl (.tmp 81) (.tmp 91) (.const (.bool false)) rfl true _ rfl rfl) hHeld ?_
          try dsimp only
          try simp only [Act.put, List.getElem_toArray, List.getElem_cons_zero, List.getElem_cons_succ, List.setIfInBounds_toArray, List.set_cons_zero, List.set_cons_succ]
          refine wpAnyH_done (by kernel_rfl) ?_ _
          have HB9 := Lib.hid (below_to HB.out hHeld)
          have HO9 := Lib.hid (HO.out.keep hHeld)
          have hc9 := (hHeld.cell (p := ⟨g, off + k, none⟩) HG.out).trans HCX.out
          clear hHeld
          generalize wr.drew = w9 at *
          have hj64 : j < 18446744073709551616 := by omega
          have HUJ := Lib.hid (refU_any j hj64)
          have HJ10 := Lib.hid (ub10 hj64)
          have HNEW : Hid (p ++ ub (zz x) ++ ub j ++ lru (l.drop (k + 1)) = pre ++ lru l) := Lib.hid (by
            rw [← HP.out, HST2.out, List.drop_drop, show k - j + (j + 1) = k + 1 by omega, show j + 1 - 1 = j by omega]; simp only [List.append_assoc])
          have hn6 : n ≤ 120000 := by omega
          go_wp2_with (first
            | (go_at_call 82; refine (refI_any x HW _).mono ?_; rintro e w2 hp; obtain ⟨A2, n2, c2, rfl, HO2, HB2, hn2⟩ := hp.at; have HN2 := Lib.hid hn2; have hn10 : n2 ≤ 10 := (by have := HZ.out; omega); have HOP := Lib.hid (HO9.out.keep HB2.out); have HBP := Lib.hid (below_to HB9.out HB2.out); clear hp hn2)
            | (refine wpList_append_by rfl (.tmp 95) (.tmp 100) rfl W.heap.size A n cap _ rfl HOP.out A2 n2 c2 (ub (zz x)) rfl HN2.out HO2.out.byAt (by omega) HBP.out.size ?_; intro A5 c5 w5 ho hg hr; have HO5 := Lib.hid ho; have HB5 := Lib.hid (HBP.out.grown hg HBP.out.size HOP.out.base); clear ho hg hr)
            | (go_at_call 53; refine (HUJ.out _).mono ?_; rintro e w6 hp; obtain ⟨A6, n6, c6, rfl, HO6, HB6, hn6'⟩ := hp.at; have HN6 := Lib.hid hn6'; have hn610 : n6 ≤ 10 := (by have := HJ10.out; omega); have HOQ := Lib.hid (HO5.out.keep HB6.out); have HBQ := Lib.hid (below_to HB5.out HB6.out); clear hp hn6')
            | (refine wpList_append_by rfl (.tmp 102) (.tmp 104) rfl W.heap.size A5 (n + n2) c5 _ rfl HOQ.out A6 n6 c6 (ub j) rfl HN6.out HO6.out.byAt (by omega) HBQ.out.size ?_; intro A7 c7 w7 ho hg hr; have HO7 := Lib.hid ho; have HB7 := Lib.hid (HBQ.out.grown hg HBQ.out.size HOQ.out.base); clear ho hg hr))
          go_roundw
          case rel => exact ⟨k + 1, 0, p ++ ub (zz x) ++ ub j, x, by omega, Nat.zero_le _, by go_num, rfl, ⟨A7, _, c7, rfl, by omega, HO7.out, HB7.out⟩, by rw [Nat.sub_zero]; exact HNEW.out, fun i h1 h2 => by omega, fun h => by omega⟩
          case measure => simp [intOf]; omega
      · have HST2 := Lib.hid (lru_step (l.drop (k - j)) x (j + 1) (by omega) (fun i hi => by rw [List.getElem?_drop]; exact HAX.out _ (by omega) (by omega)) (.inl (by rw [List.length_drop, ← hm.out]; omega)))
        have hnxi : ¬ (((k + 1 : Nat) : Int) < (m : Int)) := by omega
        have hnxi2 : ¬ ((k : Int) + 1 < (m : Int)) := by omega
        clear hcx
        go_upto_region 22 with fail
        refine wp_region_held_drew (S := fun w => Below wr.heap.size wr w) (by kernel_rfl) ((Below.refl _ _).drew) (fun hHeld => ?_)
        refine wpAnyH_take (i := 0) (v := .int .i64 (k : Int)) rfl (by kernel_rfl) (by kernel_rfl) (by kernel_rfl) (fun _ _ _ h => h) (Or.inl ⟨by rfl, fun _ _ => rfl⟩) hHeld ?_
        try dsimp only
        try simp only [Act.put, List.getElem_toArray, List.getElem_cons_zero, List.getElem_cons_succ, List.setIfInBounds_toArray, List.set_cons_zero, List.set_cons_succ]
        refine wpAnyH_take (i := 1) (v := .int .i64 ((k + 1 : Nat) : Int)) rfl (by kernel_rfl) (by kernel_rfl) (by kernel_rfl) (fun _ _ _ h => h) (yb_bin rfl .add 3 3 (.tmp 76) (.const (.int .i64 1)) rfl _ _ _ rfl rfl (fun _ => rfl) (b_add k (by omega))) hHeld ?_
        try dsimp only
        try simp only [Act.put, List.getElem_toArray, List.getElem_cons_zero, List.getElem_cons_succ, List.setIfInBounds_toArray, List.set_cons_zero, List.set_cons_succ]
        refine wpAnyH_take (i := 2) (v := .slice (some ⟨g, off, none⟩) m c) rfl (by kernel_rfl) (by kernel_rfl) (by kernel_rfl) (fun _ _ _ h => h) (Or.inl ⟨by rfl, fun _ _ => rfl⟩) hHeld ?_
        try dsimp only
        try simp only [Act.put, List.getElem_toArray, List.getElem_cons_zero, List.getElem_cons_succ, List.setIfInBounds_toArray, List.set_cons_zero, List.set_cons_succ]
        refine wpAnyH_take (i := 3) (v := .int .i64 (m : Int)) rfl (by kernel_rfl) (by kernel_rfl) (by kernel_rfl) (fun _ _ _ h => h) (yb_len rfl (.tmp 78) rfl _ _ _ rfl) hHeld ?_
        try dsimp only
        try simp only [Act.put, List.getElem_toArray, List.getElem_cons_zero, List.getElem_cons_succ, List.setIfInBounds_toArray, List.set_cons_zero, List.set_cons_succ]
        refine wpAnyH_take (i := 4) (v := .bool false) rfl (by kernel_rfl) (by kernel_rfl) (by kernel_rfl) (fun _ _ _ h => h) (yb_bin rfl .lss 3 3 (.tmp 77) (.tmp 79) rfl _ _ _ rfl rfl (fun _ => rfl) (b_lss _ _ false (by simpa using hnxi))) hHeld ?_
        try dsimp only
        try simp only [Act.put, List.getElem_toArray, List.getElem_cons_zero, List.getElem_cons_succ, List.setIfInBounds_toArray, List.set_cons_zero, List.set_cons_succ]
        refine wpAnyH_take (i := 5) (v := .bool false) rfl (by kernel_rfl) (by kernel_rfl) (by kernel_rfl) (fun _ _ _ h => h) (Or.inl ⟨by rfl, fun _ _ => rfl⟩) hHeld ?_
        try dsimp only
        try simp only [Act.put, List.getElem_toArray, List.getElem_cons_zero, List.getElem_cons_succ, List.setIfInBounds_toArray, List.set_cons_zero, List.set_cons_succ]
        refine wpAnyH_take (i := 6) (v := undef) rfl (by kernel_rfl) (by kernel_rfl) (by kernel_rfl) (fun _ _ _ h => h) (Or.inr ⟨by rfl, rfl⟩) hHeld ?_
        try dsimp only
        try simp only [Act.put, List.getElem_toArray, List.getElem_cons_zero, List.getElem_cons_succ, List.setIfInBounds_toArray, List.set_cons_zero, List.set_cons_succ]
        refine wpAnyH_take (i := 7) (v := undef) rfl (by kernel_rfl) (by kernel_rfl) (by kernel_rfl) (fun _ _ _ h => h) (Or.inr ⟨by rfl, rfl⟩) hHeld ?_
        try dsimp only
        try simp only [Act.put, List.getElem_toArray, List.getElem_cons_zero, List.getElem_cons_succ, List.setIfInBounds_toArray, List.set_cons_zero, List.set_cons_succ]
        refine wpAnyH_take (i := 8) (v := undef) rfl (by kernel_rfl) (by kernel_rfl) (by kernel_rfl) (fun _ _ _ h => h) (Or.inr ⟨by rfl, rfl⟩) hHeld ?_
        try dsimp only
        try simp only [Act.put, List.getElem_toArray, List.getElem_cons_zero, List.getElem_cons_succ, List.setIfInBounds_toArray, List.set_cons_zero, List.set_cons_succ]
        refine wpAnyH_take (i := 9) (v := undef) rfl (by kernel_rfl) (by kernel_rfl) (by kernel_rfl) (fun _ _ _ h => h) (Or.inr ⟨by rfl, rfl⟩) hHeld ?_
        try dsimp only
        try simp only [Act.put, List.getElem_toArray, List.getElem_cons_zero, List.getElem_cons_succ, List.setIfInBounds_toArray, List.set_cons_zero, List.set_cons_succ]
        refine wpAnyH_take (i := 10) (v := undef) rfl (by kernel_rfl) (by kernel_rfl) (by kernel_rfl) (fun _ _ _ h => h) (Or.inr ⟨by rfl, rfl⟩) hHeld ?_
        try dsimp only
        try simp only [Act.put, List.getElem_toArray, List.getElem_cons_zero, List.getElem_cons_succ, List.setIfInBounds_toArray, List.set_cons_zero, List.set_cons_succ]
        refine wpAnyH_take (i := 11) (v := undef) rfl (by kernel_rfl) (by kernel_rfl) (by kernel_rfl) (fun _ _ _ h => h) (Or.inr ⟨by rfl, rfl⟩) hHeld ?_
        try dsimp only
        try simp only [Act.put, List.getElem_toArray, List.getElem_cons_zero, List.getElem_cons_succ, List.setIfInBounds_toArray, List.set_cons_zero, List.set_cons_succ]
        refine wpAnyH_take (i := 12) (v := undef) rfl (by kernel_rfl) (by kernel_rfl) (by kernel_rfl) (fun _ _ _ h => h) (Or.inr ⟨by rfl, rfl⟩) hHeld ?_
        try dsimp only
        try simp only [Act.put, List.getElem_toArray, List.getElem_cons_zero, List.getElem_cons_succ, List.setIfInBounds_toArray, List.set_cons_zero, List.set_cons_succ]
        refine wpAnyH_take (i := 13) (v := undef) rfl (by kernel_rfl) (by kernel_rfl) (by kernel_rfl) (fun _ _ _ h => h) (Or.inr ⟨by rfl, rfl⟩) hHeld ?_
        try dsimp only
        try simp only [Act.put, List.getElem_toArray, List.getElem_cons_zero, List.getElem_cons_succ, List.setIfInBounds_toArray, List.set_cons_zero, List.set_cons_succ]
        refine wpAnyH_take (i := 14) (v := undef) rfl (by kernel_rfl) (by kernel_rfl) (by kernel_rfl) (fun _ _ _ h => h) (Or.inr ⟨by rfl, rfl⟩) hHeld ?_
        try dsimp only
        try simp only [Act.put, List.getElem_toArray, List.getElem_cons_zero, List.getElem_cons_succ, List.setIfInBounds_toArray, List.set_cons_zero, List.set_cons_succ]
        refine wpAnyH_take (i := 15) (v := undef) rfl (by kernel_rfl) (by kernel_rfl) (by kernel_rfl) (fun _ _ _ h => h) (Or.inr ⟨by rfl, rfl⟩) hHeld ?_
        try dsimp only
        try simp only [Act.put, List.getElem_toArray, List.getElem_cons_zero, List.getElem_cons_succ, List.setIfInBounds_toArray, List.set_cons_zero, List.set_cons_succ]
        refine wpAnyH_take (i := 16) (v := .bool false) rfl (by kernel_rfl) (by kernel_rfl) (by kernel_rfl) (fun _ _ _ h => h) (yb_pick rfl (.tmp 81) (.tmp 91) (.const (.bool false)) rfl false _ rfl rfl) hHeld ?_
        try dsimp only
        try simp only [Act.put, List.getElem_toArray, List.getElem_cons_zero, List.getElem_cons_succ, List.setIfInBounds_toArray, List.set_cons_zero, List.set_cons_succ]
        refine wpAnyH_done (by kernel_rfl) ?_ _
        have HB9 := Lib.hid (below_to HB.out hHeld)
        have HO9 := Lib.hid (HO.out.keep hHeld)
        have hc9 := (hHeld.cell (p := ⟨g, off + k, none⟩) HG.out).trans HCX.out
        clear hHeld
        generalize wr.drew = w9 at *
        have hj64 : j < 18446744073709551616 := by omega
        have HUJ := Lib.hid (refU_any j hj64)
        have HJ10 := Lib.hid (ub10 hj64)
        have HNEW : Hid (p ++ ub (zz x) ++ ub j ++ lru (l.drop (k + 1)) = pre ++ lru l) := Lib.hid (by
          rw [← HP.out, HST2.out, List.drop_drop, show k - j + (j + 1) = k + 1 by omega, show j + 1 - 1 = j by omega]; simp only [List.append_assoc])
        have hn6 : n ≤ 120000 := by omega
        go_wp2_with (first
          | (go_at_call 82; refine (refI_any x HW _).mono ?_; rintro e w2 hp; obtain ⟨A2, n2, c2, rfl, HO2, HB2, hn2⟩ := hp.at; have HN2 := Lib.hid hn2; have hn10 : n2 ≤ 10 := (by have := HZ.out; omega); have HOP := Lib.hid (HO9.out.keep HB2.out); have HBP := Lib.hid (below_to HB9.out HB2.out); clear hp hn2)
          | (refine wpList_append_by rfl (.tmp 95) (.tmp 100) rfl W.heap.size A n cap _ rfl HOP.out A2 n2 c2 (ub (zz x)) rfl HN2.out HO2.out.byAt (by omega) HBP.out.size ?_; intro A5 c5 w5 ho hg hr; have HO5 := Lib.hid ho; have HB5 := Lib.hid (HBP.out.grown hg HBP.out.size HOP.out.base); clear ho hg hr)
          | (go_at_call 53; refine (HUJ.out _).mono ?_; rintro e w6 hp; obtain ⟨A6, n6, c6, rfl, HO6, HB6, hn6'⟩ := hp.at; have HN6 := Lib.hid hn6'; have hn610 : n6 ≤ 10 := (by have := HJ10.out; omega); have HOQ := Lib.hid (HO5.out.keep HB6.out); have HBQ := Lib.hid (below_to HB5.out HB6.out); clear hp hn6')
          | (refine wpList_append_by rfl (.tmp 102) (.tmp 104) rfl W.heap.size A5 (n + n2) c5 _ rfl HOQ.out A6 n6 c6 (ub j) rfl HN6.out HO6.out.byAt (by omega) HBQ.out.size ?_; intro A7 c7 w7 ho hg hr; have HO7 := Lib.hid ho; have HB7 := Lib.hid (HBQ.out.grown hg HBQ.out.size HOQ.out.base); clear ho hg hr))
        go_roundw
        case rel => exact ⟨k + 1, 0, p ++ ub (zz x) ++ ub j, x, by omega, Nat.zero_le _, by go_num, rfl, ⟨A7, _, c7, rfl, by omega, HO7.out, HB7.out⟩, by rw [Nat.sub_zero]; exact HNEW.out, fun i h1 h2 => by omega, fun h => by omega⟩
        case measure => simp [intOf]; omega
    · obtain rfl : k = m := by omega
      have HE : Hid (p = pre ++ lru l) := Lib.hid (by
        have h := HP.out
        by_cases h0 : 0 < j
        · have := HJX.out h0
          rw [List.getElem?_eq_none (by have := hm.out; omega)] at this; cases this
        · rw [show k - j = k by omega, List.drop_of_length_le (by have := hm.out; omega), lru_nil, List.append_nil] at h; exact h)
      rw [HE.out] at HO
      go_wp2
      go_ret
      exact ⟨A, n, cap, rfl, by rw [HRES.out]; exact HO.out, HB.out, HB.out.size⟩
end Go.Proofs.YtpobfgokikfmbaaGreatDoor
