/-
  Layer ledger: a telling out of any bytes: agg.ReadValue.
-/
import Derived.Test.YtbimfopbilcdgaaDoorAmK
import Derived.Test.YtbimfopbilcdgaaDoorNbK
import Derived.Laws.CopyRow
set_option linter.unusedSimpArgs false
set_option linter.unusedVariables false
set_option maxRecDepth 8000
namespace Go.Proofs.YtbimfopbilcdgaaDoor
open Go.RowKit Go.WideShapes Col

theorem grp_canonL (q : List Nat) : ∀ k n r, (∀ x ∈ q, x < 256) → grp k q = some (n, r) → (0 < k → 0 < n) ∧ q = ub n ++ r := by
  induction q with
  | nil => intro k n r _ h; cases h
  | cons b q ih =>
    intro k n r hq h
    have hb := hq b (by simp)
    rw [grp] at h
    split at h
    · cases h
    split at h
    · split at h
      · cases h
      · injection h with h; injection h with h2 h3; subst h2; subst h3
        rename_i h4 h5
        exact ⟨fun hk => by omega, by rw [ub_lt h4]; rfl⟩
    · rcases hg : grp (k + 1) q with _ | ⟨n', r'⟩
      · rw [hg] at h; cases h
      · rw [hg] at h
        injection h with h; injection h with h2 h3; subst h3
        obtain ⟨i1, i2⟩ := ih (k + 1) n' r' (fun x hx => hq x (by simp [hx])) hg
        have i1 := i1 (by omega)
        have h2 : b % 128 + 128 * n' = n := h2
        refine ⟨fun _ => by omega, ?_⟩
        rw [ub_ge (by omega), i2, ← h2]
        have e1 : (b % 128 + 128 * n') % 128 + 128 = b := by omega
        have e2 : (b % 128 + 128 * n') / 128 = n' := by omega
        rw [e1, e2]; rfl
theorem zz_uzL (n : Nat) : zz (uz n) = n := by
  unfold zz uz
  split <;> split <;> omega
theorem uP_canonL {m n : Nat} {q r : List Nat} (hq : ∀ x ∈ q, x < 256) (h : uP m q = some (n, r)) : q = ub n ++ r ∧ n ≤ m := ⟨(grp_canonL q 0 n r hq (uP_some h).1).2, (uP_some h).2⟩
theorem zP_canonL {x : Int} {q r : List Nat} (hq : ∀ x ∈ q, x < 256) (h : zP q = some (x, r)) : q = ub (zz x) ++ r ∧ Wf64 x := by
  obtain ⟨n, h1, rfl⟩ := zP_some h
  refine ⟨by rw [zz_uzL]; exact (grp_canonL q 0 n r hq h1).2, ?_⟩
  have := grp_u64 h1 hq
  unfold Wf64 uz
  split <;> omega
/-- A number's bits out of bytes: only such as a number has. -/
def bitsP (q : List Nat) : Option (Nat × List Nat) := match uP 18446744073709551615 q with
  | some (x, r) => if Fl.canon x = x then some (x, r) else none
  | none => none
theorem bitsP_canon {q r : List Nat} {x : Nat} (hq : ∀ x ∈ q, x < 256) (h : bitsP q = some (x, r)) : x < 18446744073709551616 ∧ Fl.canon x = x ∧ q = ub x ++ r := by
  unfold bitsP at h
  split at h
  · rename_i y s hu
    split at h
    · rename_i hc
      injection h with h; injection h with h1 h2; subst h1; subst h2
      have h3 := uP_canonL hq hu
      exact ⟨by omega, hc, h3.1⟩
    · cases h
  · cases h
theorem bits_yes (g : Nat) (q : List Nat) (x : Nat) (r : List Nat) (hb : bitsP q = some (x, r)) (hl : q.length ≤ 1000000) (w : World) (H : Hid (Rd w g q)) :
    Calls Tryd.prog 69 #[.pointer (some ⟨g, 0, none⟩)] w (Yes g w (.int .u64 (x : Int)) r) := by
  obtain ⟨h1, h2, h3⟩ := bitsP_canon H.out.lt hb
  subst h3
  exact readBits_yes g x r h1 (Lib.hid h2) (by omega) w H
set_option maxHeartbeats 1000000 in
theorem bits_no (g : Nat) (q : List Nat) (hb : bitsP q = none) (hl : q.length ≤ 1000000) (w : World) (H : Hid (Rd w g q)) :
    Calls Tryd.prog 69 #[.pointer (some ⟨g, 0, none⟩)] w (No g w) := by
  rcases hu : uP 18446744073709551615 q with _ | ⟨x, r⟩
  · have HUN := Lib.hid (uint_no g 18446744073709551615 q (Lib.hid hu) q.length (Lib.hid rfl) (by omega) w H)
    clear hu hb
    go_enter Tryd.func69, Tryd.ntmps69
    go_wp2_with (go_at_call 26; (refine (HUN.out).mono ?_); rintro e w1 ⟨rfl, h1, h2⟩)
    exact ⟨rfl, rfl, h1, h2⟩
  · have hc : Fl.canon x ≠ x := fun hc => by unfold bitsP at hb; rw [hu] at hb; simp only [if_pos hc] at hb; cases hb
    have hx : x < 18446744073709551616 := by have := (uP_some hu).2; omega
    have HUY := Lib.hid (uint_yes g 18446744073709551615 x q r (Lib.hid hu) (by omega) w H)
    have HOF : Hid (∀ w, Calls Tryd.prog 68 #[.int .u64 (x : Int)] w fun e w' => e = .returned (.float .f64 (Fl.canon x)) ∧ w = w') := Lib.hid fun w => of_any x hx w
    have HBT : Hid (∀ w, Calls Tryd.prog 52 #[.float .f64 (Fl.canon x)] w fun e w' => e = .returned (.int .u64 (Fl.canon x : Int)) ∧ w = w') := Lib.hid fun w => by
      have h := bits_any (Fl.canon x) (Fl.canon_lt _ hx) w
      rwa [Fl.canon_canon] at h
    have hd : ((Fl.canon x : Int) == (x : Int)) = false := by simp; omega
    have hd2 : decide (Fl.canon x = x) = false := decide_eq_false hc
    have hd3 : (Fl.canon x == x) = false := by simpa using hc
    generalize Fl.canon x = y at *
    clear hu hb hc H
    go_enter Tryd.func69, Tryd.ntmps69
    go_wp2_with (first
      | (go_at_call 26; (refine (HUY.out).mono ?_); rintro e w1 hy; obtain ⟨rfl, HR1, HK1⟩ := Yes.rd hy; clear hy)
      | (go_at_call 68; (with_reducible refine (HOF.out _).mono ?_); rintro e w' ⟨rfl, rfl⟩)
      | (go_at_call 52; (with_reducible refine (HBT.out _).mono ?_); rintro e w' ⟨rfl, rfl⟩)
      | (go_at_call 47; obtain ⟨A1, C1, hR⟩ := HR1.out; (with_reducible refine (check_false g C1 A1 r _ (Lib.hid hR)).mono ?_); rintro e w4 ⟨rfl, hg4, hk4⟩))
    exact ⟨rfl, rfl, hg4, HK1.out.trans hk4⟩
/-- A telling out of bytes. -/
def vp4 (c s o lo : Nat) (q : List Nat) : Option (Tel × List Nat) := (bitsP q).map fun y => (⟨c, s, decide (o = 1), lo, y.1⟩, y.2)
def vp3 (c s o : Nat) (q : List Nat) : Option (Tel × List Nat) := (bitsP q).bind fun y => vp4 c s o y.1 y.2
def vp2 (c s : Nat) (q : List Nat) : Option (Tel × List Nat) := (uP 1 q).bind fun y => vp3 c s y.1 y.2
def vp1 (c : Nat) (q : List Nat) : Option (Tel × List Nat) := (bitsP q).bind fun y => vp2 c y.1 y.2
def valP (q : List Nat) : Option (Tel × List Nat) := (uP 1099511627776 q).bind fun y => vp1 y.1 y.2
/-- How a reading of a telling ends. -/
def VEnds (g : Nat) (w : World) (o : Option (Tel × List Nat)) (e : Ending) (w' : World) : Prop := match o with
  | some (t, r) => TYes g w t r e w'
  | none => e = .panicked [gu g] ∧ Gone w' g ∧ Kept (fun k => k = g ∨ w.heap.size ≤ k) w w'
theorem valP_canon {q r : List Nat} {t : Tel} (hq : ∀ x ∈ q, x < 256) (h : valP q = some (t, r)) : t.Ok ∧ q = telBy t ++ r := by
  unfold valP at h
  rcases h0 : uP 1099511627776 q with _ | ⟨c, q1⟩
  · rw [h0] at h; cases h
  rw [h0] at h
  have h : vp1 c q1 = some (t, r) := h
  obtain ⟨e0, l0⟩ := uP_canonL hq h0
  have k1 : ∀ x ∈ q1, x < 256 := fun x hx => hq x (by rw [e0]; simp [hx])
  unfold vp1 at h
  rcases h1 : bitsP q1 with _ | ⟨s, q2⟩
  · rw [h1] at h; cases h
  rw [h1] at h
  have h : vp2 c s q2 = some (t, r) := h
  obtain ⟨l1, c1, e1⟩ := bitsP_canon k1 h1
  have k2 : ∀ x ∈ q2, x < 256 := fun x hx => k1 x (by rw [e1]; simp [hx])
  unfold vp2 at h
  rcases h2 : uP 1 q2 with _ | ⟨o, q3⟩
  · rw [h2] at h; cases h
  rw [h2] at h
  have h : vp3 c s o q3 = some (t, r) := h
  obtain ⟨e2, l2⟩ := uP_canonL k2 h2
  have k3 : ∀ x ∈ q3, x < 256 := fun x hx => k2 x (by rw [e2]; simp [hx])
  unfold vp3 at h
  rcases h3 : bitsP q3 with _ | ⟨lo, q4⟩
  · rw [h3] at h; cases h
  rw [h3] at h
  have h : vp4 c s o lo q4 = some (t, r) := h
  obtain ⟨l3, c3, e3⟩ := bitsP_canon k3 h3
  have k4 : ∀ x ∈ q4, x < 256 := fun x hx => k3 x (by rw [e3]; simp [hx])
  unfold vp4 at h
  rcases h4 : bitsP q4 with _ | ⟨hi, q5⟩
  · rw [h4] at h; cases h
  rw [h4] at h
  injection h with h; injection h with ht hr
  obtain ⟨l4, c4, e4⟩ := bitsP_canon k4 h4
  subst ht; subst hr
  refine ⟨⟨by show c < _; omega, l1, l3, l4⟩, ?_⟩
  unfold telBy
  show q = (ub c ++ (ub (Fl.canon s) ++ (ub (if (decide (o = 1)) = true then 1 else 0) ++ (ub (Fl.canon lo) ++ ub (Fl.canon hi))))) ++ q5
  have ho : (if (decide (o = 1)) = true then 1 else 0) = o := by
    by_cases h : o = 1
    · subst h; rfl
    · rw [if_neg (by simpa using h)]; omega
  rw [c1, c3, c4, ho, e0, e1, e2, e3, e4]
  simp [List.append_assoc]
set_option maxHeartbeats 8000000 in
theorem readValue_all (g : Nat) (q : List Nat) (hql : q.length ≤ 1000000) (w : World) (H : Hid (Rd w g q)) :
    Calls Tryd.prog 51 #[.pointer (some ⟨g, 0, none⟩)] w (VEnds g w (valP q)) := by
  have HX := Lib.hid (RV.start w g _ H.out)
  have HL := Lib.hid hql
  have HV : Hid (valP q = (uP 1099511627776 q).bind fun y => vp1 y.1 y.2) := Lib.hid rfl
  clear H hql
  go_enter Tryd.func51, Tryd.ntmps51
  go_wp2_with fail
  rcases hu : uP 1099511627776 q with _ | ⟨c, q1⟩
  · have HVN : Hid (valP q = none) := Lib.hid (by rw [HV.out];  rw [hu]; rfl)
    rw [HVN.out]
    refine (uint_no g 1099511627776 q (Lib.hid hu) q.length (Lib.hid rfl) (by have := HL.out; omega) _ (Lib.hid HX.out.rd)).mono ?_
    rintro e w1 ⟨rfl, h1, h2⟩
    exact ⟨rfl, rfl, h1, HX.out.kept.trans (h2.mono fun k h => .inl (.inl h))⟩
  replace HV : Hid (valP q = vp1 c q1) := Lib.hid (by rw [HV.out];  rw [hu]; rfl)
  have hcn := uP_canonL HX.out.rd.lt hu
  have HUY := Lib.hid fun w H => uint_yes g 1099511627776 c q q1 (Lib.hid hu) (by have := HL.out; omega) w H
  replace HL : Hid (q1.length ≤ 1000000) := Lib.hid (by have := HL.out; rw [hcn.1, List.length_append] at this; omega)
  have hle0 := hcn.2
  clear hu hcn
  refine (HUY.out _ (Lib.hid HX.out.rd)).mono ?_
  rintro e w0 hy
  obtain ⟨rfl, HR, HK⟩ := Yes.rd hy
  have HW := Lib.hid (HX.out.read HR.out HK.out)
  clear hy HR HK HX HUY
  obtain ⟨c0, f0⟩ := HW.out.cell 0 (by simp)
  go_wp2_with fail
  have HX := Lib.hid (HW.out.set 0 (.int .u64 (c : Int)))
  clear c0 f0 HW
  generalize w0.setCell _ _ = x0 at *
  rcases hb : bitsP q1 with _ | ⟨s, q2⟩
  · have HVN : Hid (valP q = none) := Lib.hid (by rw [HV.out]; unfold vp1; rw [hb]; rfl)
    rw [HVN.out]
    refine (bits_no g q1 hb (by have := HL.out; omega) _ (Lib.hid HX.out.rd)).mono ?_
    rintro e w1 ⟨rfl, h1, h2⟩
    exact ⟨rfl, rfl, h1, HX.out.kept.trans (h2.mono fun k h => .inl (.inl h))⟩
  replace HV : Hid (valP q = vp2 c s q2) := Lib.hid (by rw [HV.out]; unfold vp1; rw [hb]; rfl)
  obtain ⟨hx, hc, hq⟩ := bitsP_canon HX.out.rd.lt hb
  have HBY := Lib.hid fun w H => bits_yes g q1 s q2 hb (by have := HL.out; omega) w H
  replace HL : Hid (q2.length ≤ 1000000) := Lib.hid (by have := HL.out; rw [hq, List.length_append] at this; omega)
  have HOF1 : Hid (∀ w, Calls Tryd.prog 68 #[.int .u64 (s : Int)] w fun e w' => e = .returned (.float .f64 s) ∧ w = w') := Lib.hid fun w => by
    have h := of_any s hx w
    rwa [hc] at h
  clear hb hx hc hq
  refine (HBY.out _ (Lib.hid HX.out.rd)).mono ?_
  rintro e w1 hy
  obtain ⟨rfl, HR, HK⟩ := Yes.rd hy
  have HW := Lib.hid (HX.out.read HR.out HK.out)
  clear hy HR HK HX HBY
  obtain ⟨c1, f1⟩ := HW.out.cell 1 (by simp)
  have s1 := run_store_flA _ _ s _ c1 f1
  go_wp2_with (go_at_call 68; (with_reducible refine (HOF1.out _).mono ?_); rintro e w' ⟨rfl, rfl⟩)
  have HX := Lib.hid (HW.out.set 1 (.float .f64 s))
  clear c1 f1 s1 HW HOF1
  generalize w1.setCell _ _ = x1 at *
  rcases hu : uP 1 q2 with _ | ⟨o, q3⟩
  · have HVN : Hid (valP q = none) := Lib.hid (by rw [HV.out]; unfold vp2; rw [hu]; rfl)
    rw [HVN.out]
    refine (uint_no g 1 q2 (Lib.hid hu) q2.length (Lib.hid rfl) (by have := HL.out; omega) _ (Lib.hid HX.out.rd)).mono ?_
    rintro e w1 ⟨rfl, h1, h2⟩
    exact ⟨rfl, rfl, h1, HX.out.kept.trans (h2.mono fun k h => .inl (.inl h))⟩
  replace HV : Hid (valP q = vp3 c s o q3) := Lib.hid (by rw [HV.out]; unfold vp2; rw [hu]; rfl)
  have hcn := uP_canonL HX.out.rd.lt hu
  have HUY := Lib.hid fun w H => uint_yes g 1 o q2 q3 (Lib.hid hu) (by have := HL.out; omega) w H
  replace HL : Hid (q3.length ≤ 1000000) := Lib.hid (by have := HL.out; rw [hcn.1, List.length_append] at this; omega)
  have hle2 := hcn.2
  clear hu hcn
  have ho : o = 0 ∨ o = 1 := by omega
  rcases ho with rfl | rfl
  · skip
    refine (HUY.out _ (Lib.hid HX.out.rd)).mono ?_
    rintro e w2 hy
    obtain ⟨rfl, HR, HK⟩ := Yes.rd hy
    have HW := Lib.hid (HX.out.read HR.out HK.out)
    clear hy HR HK HX HUY
    obtain ⟨c2, f2⟩ := HW.out.cell 2 (by simp)
    go_wp2_with fail
    have HX := Lib.hid (HW.out.set 2 (.bool false))
    clear c2 f2 HW
    generalize w2.setCell _ _ = x2 at *
    rcases hb : bitsP q3 with _ | ⟨lo, q4⟩
    · have HVN : Hid (valP q = none) := Lib.hid (by rw [HV.out]; unfold vp3; rw [hb]; rfl)
      rw [HVN.out]
      refine (bits_no g q3 hb (by have := HL.out; omega) _ (Lib.hid HX.out.rd)).mono ?_
      rintro e w1 ⟨rfl, h1, h2⟩
      exact ⟨rfl, rfl, h1, HX.out.kept.trans (h2.mono fun k h => .inl (.inl h))⟩
    replace HV : Hid (valP q = vp4 c s 0 lo q4) := Lib.hid (by rw [HV.out]; unfold vp3; rw [hb]; rfl)
    obtain ⟨hx, hc, hq⟩ := bitsP_canon HX.out.rd.lt hb
    have HBY := Lib.hid fun w H => bits_yes g q3 lo q4 hb (by have := HL.out; omega) w H
    replace HL : Hid (q4.length ≤ 1000000) := Lib.hid (by have := HL.out; rw [hq, List.length_append] at this; omega)
    have HOF3 : Hid (∀ w, Calls Tryd.prog 68 #[.int .u64 (lo : Int)] w fun e w' => e = .returned (.float .f64 lo) ∧ w = w') := Lib.hid fun w => by
      have h := of_any lo hx w
      rwa [hc] at h
    clear hb hx hc hq
    refine (HBY.out _ (Lib.hid HX.out.rd)).mono ?_
    rintro e w3 hy
    obtain ⟨rfl, HR, HK⟩ := Yes.rd hy
    have HW := Lib.hid (HX.out.read HR.out HK.out)
    clear hy HR HK HX HBY
    obtain ⟨c3, f3⟩ := HW.out.cell 3 (by simp)
    have s3 := run_store_flA _ _ lo _ c3 f3
    go_wp2_with (go_at_call 68; (with_reducible refine (HOF3.out _).mono ?_); rintro e w' ⟨rfl, rfl⟩)
    have HX := Lib.hid (HW.out.set 3 (.float .f64 lo))
    clear c3 f3 s3 HW HOF3
    generalize w3.setCell _ _ = x3 at *
    rcases hb : bitsP q4 with _ | ⟨hi, q5⟩
    · have HVN : Hid (valP q = none) := Lib.hid (by rw [HV.out]; unfold vp4; rw [hb]; rfl)
      rw [HVN.out]
      refine (bits_no g q4 hb (by have := HL.out; omega) _ (Lib.hid HX.out.rd)).mono ?_
      rintro e w1 ⟨rfl, h1, h2⟩
      exact ⟨rfl, rfl, h1, HX.out.kept.trans (h2.mono fun k h => .inl (.inl h))⟩
    replace HV : Hid (valP q = some (⟨c, s, decide (0 = 1), lo, hi⟩, q5)) := Lib.hid (by rw [HV.out]; unfold vp4; rw [hb]; rfl)
    obtain ⟨hx, hc, hq⟩ := bitsP_canon HX.out.rd.lt hb
    have HBY := Lib.hid fun w H => bits_yes g q4 hi q5 hb (by have := HL.out; omega) w H
    replace HL : Hid (q5.length ≤ 1000000) := Lib.hid (by have := HL.out; rw [hq, List.length_append] at this; omega)
    have HOF4 : Hid (∀ w, Calls Tryd.prog 68 #[.int .u64 (hi : Int)] w fun e w' => e = .returned (.float .f64 hi) ∧ w = w') := Lib.hid fun w => by
      have h := of_any hi hx w
      rwa [hc] at h
    clear hb hx hc hq
    refine (HBY.out _ (Lib.hid HX.out.rd)).mono ?_
    rintro e w4 hy
    obtain ⟨rfl, HR, HK⟩ := Yes.rd hy
    have HW := Lib.hid (HX.out.read HR.out HK.out)
    clear hy HR HK HX HBY
    obtain ⟨c4, f4⟩ := HW.out.cell 4 (by simp)
    have s4 := run_store_flA _ _ hi _ c4 f4
    have HX5 : Hid (RV w g q5 [.int .u64 (c : Int), .float .f64 s, .bool false, .float .f64 lo, .float .f64 hi] (w4.setCell ⟨w.heap.size + 1, 4, none⟩ (.float .f64 hi))) := Lib.hid (HW.out.set 4 (.float .f64 hi))
    clear HW
    go_wp2_with (first
      | (go_at_call 68; (with_reducible refine (HOF4.out _).mono ?_); rintro e w' ⟨rfl, rfl⟩)
      | (refine wpList_load_row rfl 38 (.tmp 3) rfl (w.heap.size + 1) rfl _ #[.int .u64 (c : Int), .float .f64 s, .bool false, .float .f64 lo, .float .f64 hi] (0, 0) _ HX5.out.row uA rfl (iA _ _ _ _ _) ?_)
      | (refine wpList_store_row rfl 38 (.tmp 2) (.tmp 23) rfl w.heap.size #[.int .u64 (c : Int), .float .f64 s, .bool false, .float .f64 lo, .float .f64 hi] rfl rfl _ _ HX5.out.res (iA _ _ _ _ _) rfl (by simp [Value.oneCell']) ?_))
    have hk := HX5.out.kept
    have hrd := HX5.out.rd
    have hlt := HX5.out.lt
    have hrs := HX5.out.res
    clear HX5 c4 f4 s4
    generalize w4.setCell _ _ = x5 at *
    have hkr : Kept (fun k => k = w.heap.size) x5 (x5.setRow w.heap.size #[.int .u64 (c : Int), .float .f64 s, .bool false, .float .f64 lo, .float .f64 hi]) := kept_setRow x5 _ _
    rw [HV.out]
    exact post_row 2 38 Tryd.results51 rfl w.heap.size 38 _ (0, 0) _ rfl (setRow_heap _ _ _ _ _ _ hrs) uA rfl (iA _ _ _ _ _) ⟨rfl, hrd.highA hkr (fun k hk => by omega), hk.trans (hkr.mono fun k h => .inl (.inr (by omega)))⟩
  · skip
    refine (HUY.out _ (Lib.hid HX.out.rd)).mono ?_
    rintro e w2 hy
    obtain ⟨rfl, HR, HK⟩ := Yes.rd hy
    have HW := Lib.hid (HX.out.read HR.out HK.out)
    clear hy HR HK HX HUY
    obtain ⟨c2, f2⟩ := HW.out.cell 2 (by simp)
    go_wp2_with fail
    have HX := Lib.hid (HW.out.set 2 (.bool true))
    clear c2 f2 HW
    generalize w2.setCell _ _ = x2 at *
    rcases hb : bitsP q3 with _ | ⟨lo, q4⟩
    · have HVN : Hid (valP q = none) := Lib.hid (by rw [HV.out]; unfold vp3; rw [hb]; rfl)
      rw [HVN.out]
      refine (bits_no g q3 hb (by have := HL.out; omega) _ (Lib.hid HX.out.rd)).mono ?_
      rintro e w1 ⟨rfl, h1, h2⟩
      exact ⟨rfl, rfl, h1, HX.out.kept.trans (h2.mono fun k h => .inl (.inl h))⟩
    replace HV : Hid (valP q = vp4 c s 1 lo q4) := Lib.hid (by rw [HV.out]; unfold vp3; rw [hb]; rfl)
    obtain ⟨hx, hc, hq⟩ := bitsP_canon HX.out.rd.lt hb
    have HBY := Lib.hid fun w H => bits_yes g q3 lo q4 hb (by have := HL.out; omega) w H
    replace HL : Hid (q4.length ≤ 1000000) := Lib.hid (by have := HL.out; rw [hq, List.length_append] at this; omega)
    have HOF3 : Hid (∀ w, Calls Tryd.prog 68 #[.int .u64 (lo : Int)] w fun e w' => e = .returned (.float .f64 lo) ∧ w = w') := Lib.hid fun w => by
      have h := of_any lo hx w
      rwa [hc] at h
    clear hb hx hc hq
    refine (HBY.out _ (Lib.hid HX.out.rd)).mono ?_
    rintro e w3 hy
    obtain ⟨rfl, HR, HK⟩ := Yes.rd hy
    have HW := Lib.hid (HX.out.read HR.out HK.out)
    clear hy HR HK HX HBY
    obtain ⟨c3, f3⟩ := HW.out.cell 3 (by simp)
    have s3 := run_store_flA _ _ lo _ c3 f3
    go_wp2_with (go_at_call 68; (with_reducible refine (HOF3.out _).mono ?_); rintro e w' ⟨rfl, rfl⟩)
    have HX := Lib.hid (HW.out.set 3 (.float .f64 lo))
    clear c3 f3 s3 HW HOF3
    generalize w3.setCell _ _ = x3 at *
    rcases hb : bitsP q4 with _ | ⟨hi, q5⟩
    · have HVN : Hid (valP q = none) := Lib.hid (by rw [HV.out]; unfold vp4; rw [hb]; rfl)
      rw [HVN.out]
      refine (bits_no g q4 hb (by have := HL.out; omega) _ (Lib.hid HX.out.rd)).mono ?_
      rintro e w1 ⟨rfl, h1, h2⟩
      exact ⟨rfl, rfl, h1, HX.out.kept.trans (h2.mono fun k h => .inl (.inl h))⟩
    replace HV : Hid (valP q = some (⟨c, s, decide (1 = 1), lo, hi⟩, q5)) := Lib.hid (by rw [HV.out]; unfold vp4; rw [hb]; rfl)
    obtain ⟨hx, hc, hq⟩ := bitsP_canon HX.out.rd.lt hb
    have HBY := Lib.hid fun w H => bits_yes g q4 hi q5 hb (by have := HL.out; omega) w H
    replace HL : Hid (q5.length ≤ 1000000) := Lib.hid (by have := HL.out; rw [hq, List.length_append] at this; omega)
    have HOF4 : Hid (∀ w, Calls Tryd.prog 68 #[.int .u64 (hi : Int)] w fun e w' => e = .returned (.float .f64 hi) ∧ w = w') := Lib.hid fun w => by
      have h := of_any hi hx w
      rwa [hc] at h
    clear hb hx hc hq
    refine (HBY.out _ (Lib.hid HX.out.rd)).mono ?_
    rintro e w4 hy
    obtain ⟨rfl, HR, HK⟩ := Yes.rd hy
    have HW := Lib.hid (HX.out.read HR.out HK.out)
    clear hy HR HK HX HBY
    obtain ⟨c4, f4⟩ := HW.out.cell 4 (by simp)
    have s4 := run_store_flA _ _ hi _ c4 f4
    have HX5 : Hid (RV w g q5 [.int .u64 (c : Int), .float .f64 s, .bool true, .float .f64 lo, .float .f64 hi] (w4.setCell ⟨w.heap.size + 1, 4, none⟩ (.float .f64 hi))) := Lib.hid (HW.out.set 4 (.float .f64 hi))
    clear HW
    go_wp2_with (first
      | (go_at_call 68; (with_reducible refine (HOF4.out _).mono ?_); rintro e w' ⟨rfl, rfl⟩)
      | (refine wpList_load_row rfl 38 (.tmp 3) rfl (w.heap.size + 1) rfl _ #[.int .u64 (c : Int), .float .f64 s, .bool true, .float .f64 lo, .float .f64 hi] (0, 0) _ HX5.out.row uA rfl (iA _ _ _ _ _) ?_)
      | (refine wpList_store_row rfl 38 (.tmp 2) (.tmp 23) rfl w.heap.size #[.int .u64 (c : Int), .float .f64 s, .bool true, .float .f64 lo, .float .f64 hi] rfl rfl _ _ HX5.out.res (iA _ _ _ _ _) rfl (by simp [Value.oneCell']) ?_))
    have hk := HX5.out.kept
    have hrd := HX5.out.rd
    have hlt := HX5.out.lt
    have hrs := HX5.out.res
    clear HX5 c4 f4 s4
    generalize w4.setCell _ _ = x5 at *
    have hkr : Kept (fun k => k = w.heap.size) x5 (x5.setRow w.heap.size #[.int .u64 (c : Int), .float .f64 s, .bool true, .float .f64 lo, .float .f64 hi]) := kept_setRow x5 _ _
    rw [HV.out]
    exact post_row 2 38 Tryd.results51 rfl w.heap.size 38 _ (0, 0) _ rfl (setRow_heap _ _ _ _ _ _ hrs) uA rfl (iA _ _ _ _ _) ⟨rfl, hrd.highA hkr (fun k hk => by omega), hk.trans (hkr.mono fun k h => .inl (.inr (by omega)))⟩
end Go.Proofs.YtbimfopbilcdgaaDoor

set_option linter.unusedSimpArgs false
set_option linter.unusedVariables false
set_option maxRecDepth 8000
namespace Go.Proofs.YtbimfopbilcdgaaDoor
open Go.RowKit Go.WideShapes Col

/-- A change out of bytes, step by step. -/
def cp5 (b : Bool) (rev : Nat) (key : List Nat) (s e : Int) (q : List Nat) : Option (Chg × List Nat) := (valP q).map fun y => (⟨b, rev, ⟨strB key, s, e⟩, y.1⟩, y.2)
def cp4 (b : Bool) (rev : Nat) (key : List Nat) (s : Int) (q : List Nat) : Option (Chg × List Nat) := (zP q).bind fun y => cp5 b rev key s y.1 y.2
def cp3 (b : Bool) (rev : Nat) (key : List Nat) (q : List Nat) : Option (Chg × List Nat) := (zP q).bind fun y => cp4 b rev key y.1 y.2
def cp2 (b : Bool) (rev : Nat) (q : List Nat) : Option (Chg × List Nat) := (tP 32 q).bind fun y => cp3 b rev y.1 y.2
def cp1 (b : Bool) (q : List Nat) : Option (Chg × List Nat) := (uP 1099511627776 q).bind fun y => cp2 b y.1 y.2
def chP : List Nat → Option (Chg × List Nat)
  | [] => none
  | x :: q => if x ≤ 1 then cp1 (decide (x = 1)) q else none
theorem chP_cons (x : Nat) (q : List Nat) : chP (x :: q) = if x ≤ 1 then cp1 (decide (x = 1)) q else none := rfl
/-- A text's bytes. -/
def byL (k : ByteArray) : List Nat := k.data.toList.map (·.toNat)
/-- A change as bytes. -/
def chB (c : Chg) : List Nat := (if c.put = true then 1 else 0) :: (ub c.rev ++ (ub (byL c.p.key).length ++ (byL c.p.key ++ (ub (zz c.p.s) ++ (ub (zz c.p.e) ++ telBy c.t)))))
theorem byL_strB {l : List Nat} (h : ∀ x ∈ l, x < 256) : byL (strB l) = l := by
  unfold byL strB
  rw [strOfNums_data, List.map_map, List.map_map]
  conv => rhs; rw [← List.map_id l]
  refine List.map_congr_left fun x hx => ?_
  have hx := h x hx
  show (UInt8.ofNat (Int.ofNat x).toNat).toNat = x
  simp only [Int.ofNat_eq_natCast, Int.toNat_natCast]
  rw [UInt8.toNat_ofNat']
  omega
theorem tP_canonL {m : Nat} {q s r : List Nat} (hq : ∀ x ∈ q, x < 256) (h : tP m q = some (s, r)) : q = ub s.length ++ (s ++ r) ∧ s.length ≤ m := by
  unfold tP at h
  rcases hu : uP m q with _ | ⟨n, p⟩
  · rw [hu] at h; cases h
  rw [hu] at h
  have h : (if n ≤ p.length then some (p.take n, p.drop n) else none) = some (s, r) := h
  split at h
  · rename_i hn
    injection h with h; injection h with h1 h2
    subst h1; subst h2
    obtain ⟨e1, e2⟩ := uP_canonL hq hu
    rw [List.length_take, Nat.min_eq_left hn, List.take_append_drop]
    exact ⟨e1, e2⟩
  · cases h
/-- A change that may be read. -/
structure ChgR (c : Chg) : Prop where
  rev : c.rev ≤ 1099511627776
  key : (byL c.p.key).length ≤ 32
  s : Wf64 c.p.s
  e : Wf64 c.p.e
  t : c.t.Ok
theorem chP_canon {q r : List Nat} {c : Chg} (hq : ∀ x ∈ q, x < 256) (h : chP q = some (c, r)) : ChgR c ∧ q = chB c ++ r := by
  rcases q with _ | ⟨b, q0⟩
  · cases h
  have k0 : ∀ x ∈ q0, x < 256 := fun x hx => hq x (by simp [hx])
  rw [chP_cons] at h
  by_cases hb : b ≤ 1
  · rw [if_pos hb] at h
    unfold cp1 at h
    rcases h1 : uP 1099511627776 q0 with _ | ⟨rev, q1⟩
    · rw [h1] at h; cases h
    rw [h1] at h
    have h : cp2 (decide (b = 1)) rev q1 = some (c, r) := h
    obtain ⟨e1, l1⟩ := uP_canonL k0 h1
    have k1 : ∀ x ∈ q1, x < 256 := fun x hx => k0 x (by rw [e1]; simp [hx])
    unfold cp2 at h
    rcases h2 : tP 32 q1 with _ | ⟨key, q2⟩
    · rw [h2] at h; cases h
    rw [h2] at h
    have h : cp3 (decide (b = 1)) rev key q2 = some (c, r) := h
    obtain ⟨e2, l2⟩ := tP_canonL k1 h2
    have kk : ∀ x ∈ key, x < 256 := fun x hx => k1 x (by rw [e2]; simp [hx])
    have k2 : ∀ x ∈ q2, x < 256 := fun x hx => k1 x (by rw [e2]; simp [hx])
    unfold cp3 at h
    rcases h3 : zP q2 with _ | ⟨s, q3⟩
    · rw [h3] at h; cases h
    rw [h3] at h
    have h : cp4 (decide (b = 1)) rev key s q3 = some (c, r) := h
    obtain ⟨e3, l3⟩ := zP_canonL k2 h3
    have k3 : ∀ x ∈ q3, x < 256 := fun x hx => k2 x (by rw [e3]; simp [hx])
    unfold cp4 at h
    rcases h4 : zP q3 with _ | ⟨e, q4⟩
    · rw [h4] at h; cases h
    rw [h4] at h
    have h : cp5 (decide (b = 1)) rev key s e q4 = some (c, r) := h
    obtain ⟨e4, l4⟩ := zP_canonL k3 h4
    have k4 : ∀ x ∈ q4, x < 256 := fun x hx => k3 x (by rw [e4]; simp [hx])
    unfold cp5 at h
    rcases h5 : valP q4 with _ | ⟨t, q5⟩
    · rw [h5] at h; cases h
    rw [h5] at h
    injection h with h; injection h with hc hr
    obtain ⟨t5, e5⟩ := valP_canon k4 h5
    subst hc; subst hr
    have hkey : byL (strB key) = key := byL_strB kk
    refine ⟨⟨l1, by show (byL (strB key)).length ≤ 32; rw [hkey]; exact l2, l3, l4, t5⟩, ?_⟩
    show b :: q0 = (if decide (b = 1) = true then 1 else 0) :: (ub rev ++ (ub (byL (strB key)).length ++ (byL (strB key) ++ (ub (zz s) ++ (ub (zz e) ++ telBy t))))) ++ q5
    have hbb : (if decide (b = 1) = true then 1 else 0) = b := by
      by_cases h : b = 1
      · subst h; rfl
      · rw [if_neg (by simpa using h)]; omega
    rw [hbb, hkey, e1, e2, e3, e4, e5]
    simp [List.append_assoc]
  · rw [if_neg hb] at h; cases h
/-- So many changes out of bytes. -/
def chsP : Nat → List Nat → Option (List Chg × List Nat)
  | 0, q => some ([], q)
  | n + 1, q => (chP q).bind fun y => (chsP n y.2).map fun z => (y.1 :: z.1, z.2)
def chsB (l : List Chg) : List Nat := l.flatMap chB
/-- Changes with their number. -/
def bodyP (q : List Nat) : Option (List Chg × List Nat) := (uP 18446744073709551615 q).bind fun y => chsP y.1 y.2
theorem chsP_canon : ∀ (n : Nat) (q r : List Nat) (l : List Chg), (∀ x ∈ q, x < 256) → chsP n q = some (l, r) → l.length = n ∧ (∀ c ∈ l, ChgR c) ∧ q = chsB l ++ r
  | 0, q, r, l, _, h => by
    injection h with h; injection h with h1 h2
    subst h1; subst h2
    exact ⟨rfl, (fun c hc => by cases hc), rfl⟩
  | n + 1, q, r, l, hq, h => by
    unfold chsP at h
    rcases h1 : chP q with _ | ⟨c, q1⟩
    · rw [h1] at h; cases h
    rw [h1] at h
    have h : ((chsP n q1).map fun z => (c :: z.1, z.2)) = some (l, r) := h
    obtain ⟨c1, e1⟩ := chP_canon hq h1
    have k1 : ∀ x ∈ q1, x < 256 := fun x hx => hq x (by rw [e1]; simp [hx])
    rcases h2 : chsP n q1 with _ | ⟨m, q2⟩
    · rw [h2] at h; cases h
    rw [h2] at h
    injection h with h; injection h with h3 h4
    subst h3; subst h4
    obtain ⟨i1, i2, i3⟩ := chsP_canon n q1 q2 m k1 h2
    refine ⟨by rw [List.length_cons, i1], fun z hz => ?_, ?_⟩
    · rcases List.mem_cons.1 hz with rfl | hz
      · exact c1
      · exact i2 z hz
    · unfold chsB at *
      rw [List.flatMap_cons, e1, i3, List.append_assoc]
theorem bodyP_canon {q r : List Nat} {l : List Chg} (hq : ∀ x ∈ q, x < 256) (h : bodyP q = some (l, r)) : (∀ c ∈ l, ChgR c) ∧ q = ub l.length ++ (chsB l ++ r) := by
  unfold bodyP at h
  rcases h1 : uP 18446744073709551615 q with _ | ⟨n, q1⟩
  · rw [h1] at h; cases h
  rw [h1] at h
  have h : chsP n q1 = some (l, r) := h
  obtain ⟨e1, -⟩ := uP_canonL hq h1
  have k1 : ∀ x ∈ q1, x < 256 := fun x hx => hq x (by rw [e1]; simp [hx])
  obtain ⟨i1, i2, i3⟩ := chsP_canon n q1 r l k1 h
  refine ⟨i2, ?_⟩
  rw [e1, i3, i1]
end Go.Proofs.YtbimfopbilcdgaaDoor

set_option linter.unusedSimpArgs false
set_option linter.unusedVariables false
set_option maxRecDepth 8000
namespace Go.Proofs.YtbimfopbilcdgaaDoor
open Go.RowKit Go.WideShapes Col

theorem uChL : Tryd.prog.underlying 43 = some (.struct (Tryd.prog.fieldsOf 43)) := by kernel_rfl
/-- While a change is read: the reader, the change so far, the result's own block. -/
structure RC (w : World) (g : Nat) (q : List Nat) (cs : List Value) (wr : World) : Prop where
  rd : Rd wr g q
  row : wr.heap[w.heap.size + 1]? = some (.cells cs.toArray 43 (0, 0))
  res : wr.heap[w.heap.size]? = some (.cells #[.bool false, .int .u64 0, .string ByteArray.empty, .int .i64 0, .int .i64 0, .int .u64 0, .float .f64 0, .bool false, .float .f64 0, .float .f64 0] 43 (0, 0))
  kept : Kept (fun k => k = g ∨ w.heap.size ≤ k) w wr
  lt : g < w.heap.size
section
variable {w wr w2 : World} {g : Nat} {q r : List Nat} {cs : List Value}
theorem RC.read (H : RC w g q cs wr) (hr : Rd w2 g r) (hk : Kept (Only g) wr w2) : RC w g r cs w2 :=
  ⟨hr, hk.heap H.row (fun h => by have h : w.heap.size + 1 = g := h; have := H.lt; omega), hk.heap H.res (fun h => by have h : w.heap.size = g := h; have := H.lt; omega), H.kept.trans (hk.mono fun k h => .inl (.inl h)), H.lt⟩
theorem RC.readV (H : RC w g q cs wr) (hr : Rd w2 g r) (hk : Kept (fun k => k = g ∨ wr.heap.size ≤ k) wr w2) : RC w g r cs w2 := by
  have h1 := (Array.getElem?_eq_some_iff.1 H.row).1
  exact ⟨hr, hk.heap H.row (fun h => by have := H.lt; omega), hk.heap H.res (fun h => by have := H.lt; omega), H.kept.trans' hk (fun k h => h.elim (fun h => .inl (.inl h)) (fun h => .inl (.inr (Nat.le_trans H.kept.size h)))), H.lt⟩
theorem RC.set (H : RC w g q cs wr) (i : Nat) (u : Value) : RC w g q (cs.set i u) (wr.setCell ⟨w.heap.size + 1, i, none⟩ u) :=
  ⟨H.rd.highA (S := fun k => k = w.heap.size + 1) ((Kept.refl _ _).setCell _ _ (.inl rfl)) (fun k hk => by have := H.lt; omega), row_set H.row i u,
    (Below.heap_setCell _ _ _ _ (by show _ ≠ w.heap.size + 1; omega)).trans H.res, H.kept.setCell _ _ (.inl (.inr (by show w.heap.size ≤ w.heap.size + 1; omega))), H.lt⟩
theorem RC.setRow (H : RC w g q cs wr) (c : List Value) : RC w g q c (wr.setRow (w.heap.size + 1) c.toArray) := by
  have hkr : Kept (fun k => k = w.heap.size + 1) wr (wr.setRow (w.heap.size + 1) c.toArray) := kept_setRow wr _ _
  exact ⟨H.rd.highA hkr (fun k hk => by have := H.lt; omega), setRow_heap _ _ _ _ _ _ H.row, (setRow_other _ _ _ _ (by omega)).trans H.res, H.kept.trans (hkr.mono fun k h => .inl (.inr (by omega))), H.lt⟩
theorem RC.cell (H : RC w g q cs wr) (i : Nat) (hi : i < cs.length) : wr.cell? ⟨w.heap.size + 1, i, none⟩ = some cs[i] ∧ wr.frozen? ⟨w.heap.size + 1, i, none⟩ = false :=
  ⟨row_cell H.row i hi, row_frozen H.row i⟩
end
theorem RC.start (w : World) (g : Nat) (q : List Nat) (H : Rd w g q) : RC w g q [.bool false, .int .u64 0, .string ByteArray.empty, .int .i64 0, .int .i64 0, .int .u64 0, .float .f64 0, .bool false, .float .f64 0, .float .f64 0] ((w.alloc (.cells #[.bool false, .int .u64 0, .string ByteArray.empty, .int .i64 0, .int .i64 0, .int .u64 0, .float .f64 0, .bool false, .float .f64 0, .float .f64 0] 43)).alloc (.cells #[.bool false, .int .u64 0, .string ByteArray.empty, .int .i64 0, .int .i64 0, .int .u64 0, .float .f64 0, .bool false, .float .f64 0, .float .f64 0] 43)) := by
  have hb : Kept (fun k => k = g ∨ w.heap.size ≤ k) w ((w.alloc (.cells #[.bool false, .int .u64 0, .string ByteArray.empty, .int .i64 0, .int .i64 0, .int .u64 0, .float .f64 0, .bool false, .float .f64 0, .float .f64 0] 43)).alloc (.cells #[.bool false, .int .u64 0, .string ByteArray.empty, .int .i64 0, .int .i64 0, .int .u64 0, .float .f64 0, .bool false, .float .f64 0, .float .f64 0] 43)) := ((Kept.refl _ _).alloc _).alloc _
  exact ⟨H.highA (S := fun _ => False) (((Kept.refl _ _).alloc _).alloc _) (fun _ h => h.elim), heap_alloc2_new w _ _, heap_alloc2_old w _ _, hb, H.gltA⟩
theorem wp_store_partL {o : Oper} {a : Act} {w : World} {K : Act → World → Prop} {Q : Exit → Act → World → Prop} (ty T : TypeId) (x y : Operand) (ho : o.op = .store ty x y) (b of : Nat) (vs : List Value) (hx : a.eval x = .pointer (some ⟨b, of, none⟩)) (hy : a.eval y = .agg vs.toArray)
    (hi : (Tryd.prog.info? ty).map (·.size) = some vs.length) (cur : List Value) (hrow : w.heap[b]? = some (.cells cur.toArray T (0, 0))) (hfit : of + vs.length ≤ cur.length) (h1 : ∀ v ∈ vs, v.oneCell' = true)
    (h : K (a.put o.dst undef) (w.setRow b (cur.take of ++ vs ++ cur.drop (of + vs.length)).toArray)) : o.wp Tryd.prog a w K Q := by
  have hst := run_storeCells_at Tryd.prog b of T vs 0 cur.toArray w hrow (by simpa using hfit) h1
  simp only [Nat.add_zero] at hst
  obtain ⟨it, hit, hsz⟩ : ∃ it, Tryd.prog.info? ty = some it ∧ it.size = vs.length := by
    cases hq : Tryd.prog.info? ty with
    | none => rw [hq] at hi; cases hi
    | some it => rw [hq] at hi; exact ⟨it, rfl, by simpa using hi⟩
  have hv : (storeVar ty ⟨b, of, none⟩ (.agg vs.toArray)).run Tryd.prog w = .ok () (w.setRow b (cur.take of ++ vs ++ cur.drop (of + vs.length)).toArray) := by
    simp [storeVar, sizeOf, typeInfo, hit, hsz, Value.cells, hst]
  unfold Oper.wp execOp
  simp only [ho, hx, hy, Instr.storeAt, Instr.sureAddr, Sem.run_bind, Sem.run_pure, Result.andThen_ok, hv]
  exact h
def tlC (t : Tel) : List Value := [.int .u64 (t.c : Int), .float .f64 t.s, .bool t.o, .float .f64 t.lo, .float .f64 t.hi]
theorem wpList_store_partC {ops : Array Oper} {rest : List Oper} {o : Oper} {a : Act} {w : World} {Q : Exit → Act → World → Prop} (hgd : o.guard = none) (x y : Operand) (ho : o.op = .store 38 x y) (b of : Nat) (t : Tel) (hx : a.eval x = .pointer (some ⟨b, of, none⟩)) (hy : a.eval y = .agg #[.int .u64 (t.c : Int), .float .f64 t.s, .bool t.o, .float .f64 t.lo, .float .f64 t.hi])
    (cur : List Value) (hrow : w.heap[b]? = some (.cells cur.toArray 43 (0, 0))) (hfit : of + 5 ≤ cur.length)
    (h : wpList Tryd.prog ops Q rest (a.put o.dst undef) (w.setRow b (cur.take of ++ tlC t ++ cur.drop (of + (tlC t).length)).toArray)) : wpList Tryd.prog ops Q (o :: rest) a w :=
  wpList_plain hgd fun K hK => wp_store_partL 38 43 x y ho b of (tlC t) hx hy (by kernel_rfl) cur hrow hfit (by intro v hv; simp [tlC] at hv; rcases hv with rfl | rfl | rfl | rfl | rfl <;> rfl) (hK _ _ h)
/-- How a reading of a change ends. -/
def CEnds (g : Nat) (w : World) (o : Option (Chg × List Nat)) (e : Ending) (w' : World) : Prop := match o with
  | some (c, r) => e = .returned (.agg #[.bool c.put, .int .u64 (c.rev : Int), .string c.p.key, .int .i64 c.p.s, .int .i64 c.p.e, .int .u64 (c.t.c : Int), .float .f64 c.t.s, .bool c.t.o, .float .f64 c.t.lo, .float .f64 c.t.hi]) ∧ Rd w' g r ∧ Kept (fun k => k = g ∨ w.heap.size ≤ k) w w'
  | none => e = .panicked [gu g] ∧ Gone w' g ∧ Kept (fun k => k = g ∨ w.heap.size ≤ k) w w'
set_option maxHeartbeats 8000000 in
theorem readChange_all (g : Nat) (q : List Nat) (hql : q.length ≤ 1000000) (w : World) (H : Hid (Rd w g q)) :
    Calls Tryd.prog 27 #[.pointer (some ⟨g, 0, none⟩)] w (CEnds g w (chP q)) := by
  have HX := Lib.hid (RC.start w g _ H.out)
  have HL0 := Lib.hid hql
  obtain ⟨Q, hQ⟩ : ∃ Q, Q = q := ⟨_, rfl⟩
  rw [← hQ]
  clear H hql
  rcases q with _ | ⟨b, q0⟩
  · have HVN : Hid (chP Q = none) := Lib.hid (by rw [hQ]; rfl)
    clear hQ
    go_enter Tryd.func27, Tryd.ntmps27
    go_wp2_with fail
    rw [HVN.out]
    refine (byte_no g _ (Lib.hid HX.out.rd)).mono ?_
    rintro e w1 ⟨rfl, h1, h2⟩
    exact ⟨rfl, rfl, h1, HX.out.kept.trans (h2.mono fun k h => .inl (.inl h))⟩
  have HL : Hid (q0.length ≤ 1000000) := Lib.hid (by have := HL0.out; rw [List.length_cons] at this; omega)
  by_cases hb1 : 1 < b
  · have hb256 := HX.out.rd.lt b (by simp)
    have HVN : Hid (chP Q = none) := Lib.hid (by rw [hQ, chP_cons, if_neg (by omega)])
    have hd1 : decide ((b : Int) ≤ 1) = false := decide_eq_false (by omega)
    have HUY := Lib.hid fun w H => byte_yes g b q0 w H
    clear hQ
    go_enter Tryd.func27, Tryd.ntmps27
    go_wp2_with fail
    refine (HUY.out _ (Lib.hid HX.out.rd)).mono ?_
    rintro e w0 hy
    obtain ⟨rfl, HR, HK⟩ := Yes.rd hy
    have HW := Lib.hid (HX.out.read HR.out HK.out)
    clear hy HR HK HX HUY
    obtain ⟨A1, C1, hR⟩ := HW.out.rd
    go_wp2_with fail
    rw [HVN.out]
    refine (check_false g C1 A1 q0 _ (Lib.hid hR)).mono ?_
    rintro e w1 ⟨rfl, h1, h2⟩
    exact ⟨rfl, rfl, h1, HW.out.kept.trans (h2.mono fun k h => .inl (.inl h))⟩
  have hb : b = 0 ∨ b = 1 := by omega
  clear hb1
  rcases hb with rfl | rfl
  · have HV0 := Lib.hid hQ
    clear hQ
    go_enter Tryd.func27, Tryd.ntmps27
    go_wp2_with fail
    have HV : Hid (chP Q = cp1 false q0) := Lib.hid (by rw [HV0.out]; rfl)
    have HUY : Hid (∀ w, Hid (Rd w g (0 :: q0)) → Calls Tryd.prog 48 #[.pointer (some ⟨g, 0, none⟩)] w (Yes g w (.int .u8 0) q0)) := Lib.hid fun w H => byte_yes g 0 q0 w H
    refine (HUY.out _ (Lib.hid HX.out.rd)).mono ?_
    rintro e w0 hy
    obtain ⟨rfl, HR, HK⟩ := Yes.rd hy
    have HW := Lib.hid (HX.out.read HR.out HK.out)
    clear hy HR HK HX HUY
    obtain ⟨c0, f0⟩ := HW.out.cell 0 (by simp)
    go_wp2_with (go_at_call 47; (with_reducible refine (check_true _ _).mono ?_); rintro e w2 ⟨rfl, rfl⟩)
    have HX := Lib.hid (HW.out.set 0 (.bool false))
    clear c0 f0 HW
    generalize w0.setCell _ _ = x0 at *
    rcases hu : uP 1099511627776 q0 with _ | ⟨rev, q1⟩
    · have HVN : Hid (chP Q = none) := Lib.hid (by rw [HV.out]; unfold cp1; rw [hu]; rfl)
      rw [HVN.out]
      refine (uint_no g 1099511627776 q0 (Lib.hid hu) q0.length (Lib.hid rfl) (by have := HL.out; omega) _ (Lib.hid HX.out.rd)).mono ?_
      rintro e w1 ⟨rfl, h1, h2⟩
      exact ⟨rfl, rfl, h1, HX.out.kept.trans (h2.mono fun k h => .inl (.inl h))⟩
    replace HV : Hid (chP Q = cp2 false rev q1) := Lib.hid (by rw [HV.out]; unfold cp1; rw [hu]; rfl)
    have hcn := uP_canonL HX.out.rd.lt hu
    have HUY := Lib.hid fun w H => uint_yes g 1099511627776 rev q0 q1 (Lib.hid hu) (by have := HL.out; omega) w H
    replace HL : Hid (q1.length ≤ 1000000) := Lib.hid (by have := HL.out; rw [hcn.1] at this; simp only [List.length_append] at this; omega)
    clear hu hcn
    refine (HUY.out _ (Lib.hid HX.out.rd)).mono ?_
    rintro e w1 hy
    obtain ⟨rfl, HR, HK⟩ := Yes.rd hy
    have HW := Lib.hid (HX.out.read HR.out HK.out)
    clear hy HR HK HX HUY
    obtain ⟨c1, f1⟩ := HW.out.cell 1 (by simp)
    go_wp2_with fail
    have HX := Lib.hid (HW.out.set 1 (.int .u64 (rev : Int)))
    clear c1 f1 HW
    generalize w1.setCell _ _ = x1 at *
    rcases hu : tP 32 q1 with _ | ⟨key, q2⟩
    · have HVN : Hid (chP Q = none) := Lib.hid (by rw [HV.out]; unfold cp2; rw [hu]; rfl)
      rw [HVN.out]
      refine (text_no g 32 (by omega) q1 (Lib.hid hu) q1.length (Lib.hid rfl) (by have := HL.out; omega) _ (Lib.hid HX.out.rd)).mono ?_
      rintro e w1 ⟨rfl, h1, h2⟩
      exact ⟨rfl, rfl, h1, HX.out.kept.trans (h2.mono fun k h => .inl (.inl h))⟩
    replace HV : Hid (chP Q = cp3 false rev key q2) := Lib.hid (by rw [HV.out]; unfold cp2; rw [hu]; rfl)
    have hcn := tP_canonL HX.out.rd.lt hu
    have HUY := Lib.hid fun w H => text_yes g 32 (by omega) q1 key q2 (Lib.hid hu) (by have := HL.out; omega) w H
    replace HL : Hid (q2.length ≤ 1000000) := Lib.hid (by have := HL.out; rw [hcn.1] at this; simp only [List.length_append] at this; omega)
    clear hu hcn
    refine (HUY.out _ (Lib.hid HX.out.rd)).mono ?_
    rintro e w2 hy
    obtain ⟨rfl, HR, HK⟩ := Yes.rd hy
    have HW := Lib.hid (HX.out.read HR.out HK.out)
    clear hy HR HK HX HUY
    obtain ⟨c2, f2⟩ := HW.out.cell 2 (by simp)
    go_wp2_with fail
    have HX := Lib.hid (HW.out.set 2 (.string (strB key)))
    clear c2 f2 HW
    generalize w2.setCell _ _ = x2 at *
    rcases hu : zP q2 with _ | ⟨s, q3⟩
    · have HVN : Hid (chP Q = none) := Lib.hid (by rw [HV.out]; unfold cp3; rw [hu]; rfl)
      rw [HVN.out]
      refine (int_no g q2 (Lib.hid hu) q2.length (Lib.hid rfl) (by have := HL.out; omega) _ (Lib.hid HX.out.rd)).mono ?_
      rintro e w1 ⟨rfl, h1, h2⟩
      exact ⟨rfl, rfl, h1, HX.out.kept.trans (h2.mono fun k h => .inl (.inl h))⟩
    replace HV : Hid (chP Q = cp4 false rev key s q3) := Lib.hid (by rw [HV.out]; unfold cp3; rw [hu]; rfl)
    have hcn := zP_canonL HX.out.rd.lt hu
    have HUY := Lib.hid fun w H => int_yes g s q2 q3 (Lib.hid hu) (by have := HL.out; omega) w H
    replace HL : Hid (q3.length ≤ 1000000) := Lib.hid (by have := HL.out; rw [hcn.1] at this; simp only [List.length_append] at this; omega)
    clear hu hcn
    refine (HUY.out _ (Lib.hid HX.out.rd)).mono ?_
    rintro e w3 hy
    obtain ⟨rfl, HR, HK⟩ := Yes.rd hy
    have HW := Lib.hid (HX.out.read HR.out HK.out)
    clear hy HR HK HX HUY
    obtain ⟨c3, f3⟩ := HW.out.cell 3 (by simp)
    go_wp2_with fail
    have HX := Lib.hid (HW.out.set 3 (.int .i64 s))
    clear c3 f3 HW
    generalize w3.setCell _ _ = x3 at *
    rcases hu : zP q3 with _ | ⟨ee, q4⟩
    · have HVN : Hid (chP Q = none) := Lib.hid (by rw [HV.out]; unfold cp4; rw [hu]; rfl)
      rw [HVN.out]
      refine (int_no g q3 (Lib.hid hu) q3.length (Lib.hid rfl) (by have := HL.out; omega) _ (Lib.hid HX.out.rd)).mono ?_
      rintro e w1 ⟨rfl, h1, h2⟩
      exact ⟨rfl, rfl, h1, HX.out.kept.trans (h2.mono fun k h => .inl (.inl h))⟩
    replace HV : Hid (chP Q = cp5 false rev key s ee q4) := Lib.hid (by rw [HV.out]; unfold cp4; rw [hu]; rfl)
    have hcn := zP_canonL HX.out.rd.lt hu
    have HUY := Lib.hid fun w H => int_yes g ee q3 q4 (Lib.hid hu) (by have := HL.out; omega) w H
    replace HL : Hid (q4.length ≤ 1000000) := Lib.hid (by have := HL.out; rw [hcn.1] at this; simp only [List.length_append] at this; omega)
    clear hu hcn
    refine (HUY.out _ (Lib.hid HX.out.rd)).mono ?_
    rintro e w4 hy
    obtain ⟨rfl, HR, HK⟩ := Yes.rd hy
    have HW := Lib.hid (HX.out.read HR.out HK.out)
    clear hy HR HK HX HUY
    obtain ⟨c4, f4⟩ := HW.out.cell 4 (by simp)
    go_wp2_with fail
    have HX := Lib.hid (HW.out.set 4 (.int .i64 ee))
    clear c4 f4 HW
    generalize w4.setCell _ _ = x4 at *
    have HVA := Lib.hid fun w H => readValue_all g q4 (by have := HL.out; omega) w H
    rcases hv : valP q4 with _ | ⟨t, q5⟩
    · rw [hv] at HVA
      have HVN : Hid (chP Q = none) := Lib.hid (by rw [HV.out]; unfold cp5; rw [hv]; rfl)
      rw [HVN.out]
      refine (HVA.out _ (Lib.hid HX.out.rd)).mono ?_
      rintro e w1 ⟨rfl, h1, h2⟩
      exact ⟨rfl, rfl, h1, HX.out.kept.trans' h2 (fun k h => h.elim (fun h => .inl (.inl h)) (fun h => .inl (.inr (Nat.le_trans HX.out.kept.size h))))⟩
    rw [hv] at HVA
    replace HV : Hid (chP Q = some (⟨false, rev, ⟨strB key, s, ee⟩, t⟩, q5)) := Lib.hid (by rw [HV.out]; unfold cp5; rw [hv]; rfl)
    clear hv
    refine (HVA.out _ (Lib.hid HX.out.rd)).mono ?_
    rintro e w5 ⟨rfl, hr5, hk5⟩
    have HW := Lib.hid (HX.out.readV hr5 hk5)
    clear hr5 hk5 HX HVA
    have HW : Hid (RC w g q5 [.bool false, .int .u64 (rev : Int), .string (strB key), .int .i64 s, .int .i64 ee, .int .u64 0, .float .f64 0, .bool false, .float .f64 0, .float .f64 0] w5) := HW
    obtain ⟨x5, hx5⟩ : ∃ q, q = w5.setRow (w.heap.size + 1) #[.bool false, .int .u64 (rev : Int), .string (strB key), .int .i64 s, .int .i64 ee, .int .u64 (t.c : Int), .float .f64 t.s, .bool t.o, .float .f64 t.lo, .float .f64 t.hi] := ⟨_, rfl⟩
    have HX5 : Hid (RC w g q5 [.bool false, .int .u64 (rev : Int), .string (strB key), .int .i64 s, .int .i64 ee, .int .u64 (t.c : Int), .float .f64 t.s, .bool t.o, .float .f64 t.lo, .float .f64 t.hi] x5) := Lib.hid (by rw [hx5]; exact HW.out.setRow _)
    go_wp2_with (first
      | (refine wpList_store_partC rfl (.tmp 34) (.tmp 32) rfl (w.heap.size + 1) 5 t rfl rfl _ HW.out.row (by simp) ?_; simp only [tlC, List.take, List.drop, List.cons_append, List.nil_append, List.length]; rw [← hx5])
      | (refine wpList_load_row rfl 43 (.tmp 3) rfl (w.heap.size + 1) rfl _ #[.bool false, .int .u64 (rev : Int), .string (strB key), .int .i64 s, .int .i64 ee, .int .u64 (t.c : Int), .float .f64 t.s, .bool t.o, .float .f64 t.lo, .float .f64 t.hi] (0, 0) _ HX5.out.row uChL rfl (by kernel_rfl) ?_)
      | (refine wpList_store_row rfl 43 (.tmp 2) (.tmp 35) rfl w.heap.size #[.bool false, .int .u64 (rev : Int), .string (strB key), .int .i64 s, .int .i64 ee, .int .u64 (t.c : Int), .float .f64 t.s, .bool t.o, .float .f64 t.lo, .float .f64 t.hi] rfl rfl _ _ HX5.out.res (by kernel_rfl) rfl (by simp [Value.oneCell']) ?_))
    have hk := HX5.out.kept
    have hrd := HX5.out.rd
    have hlt := HX5.out.lt
    have hrs := HX5.out.res
    have hkr : Kept (fun k => k = w.heap.size) x5 (x5.setRow w.heap.size #[.bool false, .int .u64 (rev : Int), .string (strB key), .int .i64 s, .int .i64 ee, .int .u64 (t.c : Int), .float .f64 t.s, .bool t.o, .float .f64 t.lo, .float .f64 t.hi]) := kept_setRow x5 _ _
    rw [HV.out]
    exact post_row 2 43 Tryd.results27 rfl w.heap.size 43 _ (0, 0) _ rfl (setRow_heap _ _ _ _ _ _ hrs) uChL rfl (by kernel_rfl) ⟨rfl, hrd.highA hkr (fun k hk => by omega), hk.trans (hkr.mono fun k h => .inl (.inr (by omega)))⟩
  · have HV0 := Lib.hid hQ
    clear hQ
    go_enter Tryd.func27, Tryd.ntmps27
    go_wp2_with fail
    have HV : Hid (chP Q = cp1 true q0) := Lib.hid (by rw [HV0.out]; rfl)
    have HUY : Hid (∀ w, Hid (Rd w g (1 :: q0)) → Calls Tryd.prog 48 #[.pointer (some ⟨g, 0, none⟩)] w (Yes g w (.int .u8 1) q0)) := Lib.hid fun w H => byte_yes g 1 q0 w H
    refine (HUY.out _ (Lib.hid HX.out.rd)).mono ?_
    rintro e w0 hy
    obtain ⟨rfl, HR, HK⟩ := Yes.rd hy
    have HW := Lib.hid (HX.out.read HR.out HK.out)
    clear hy HR HK HX HUY
    obtain ⟨c0, f0⟩ := HW.out.cell 0 (by simp)
    go_wp2_with (go_at_call 47; (with_reducible refine (check_true _ _).mono ?_); rintro e w2 ⟨rfl, rfl⟩)
    have HX := Lib.hid (HW.out.set 0 (.bool true))
    clear c0 f0 HW
    generalize w0.setCell _ _ = x0 at *
    rcases hu : uP 1099511627776 q0 with _ | ⟨rev, q1⟩
    · have HVN : Hid (chP Q = none) := Lib.hid (by rw [HV.out]; unfold cp1; rw [hu]; rfl)
      rw [HVN.out]
      refine (uint_no g 1099511627776 q0 (Lib.hid hu) q0.length (Lib.hid rfl) (by have := HL.out; omega) _ (Lib.hid HX.out.rd)).mono ?_
      rintro e w1 ⟨rfl, h1, h2⟩
      exact ⟨rfl, rfl, h1, HX.out.kept.trans (h2.mono fun k h => .inl (.inl h))⟩
    replace HV : Hid (chP Q = cp2 true rev q1) := Lib.hid (by rw [HV.out]; unfold cp1; rw [hu]; rfl)
    have hcn := uP_canonL HX.out.rd.lt hu
    have HUY := Lib.hid fun w H => uint_yes g 1099511627776 rev q0 q1 (Lib.hid hu) (by have := HL.out; omega) w H
    replace HL : Hid (q1.length ≤ 1000000) := Lib.hid (by have := HL.out; rw [hcn.1] at this; simp only [List.length_append] at this; omega)
    clear hu hcn
    refine (HUY.out _ (Lib.hid HX.out.rd)).mono ?_
    rintro e w1 hy
    obtain ⟨rfl, HR, HK⟩ := Yes.rd hy
    have HW := Lib.hid (HX.out.read HR.out HK.out)
    clear hy HR HK HX HUY
    obtain ⟨c1, f1⟩ := HW.out.cell 1 (by simp)
    go_wp2_with fail
    have HX := Lib.hid (HW.out.set 1 (.int .u64 (rev : Int)))
    clear c1 f1 HW
    generalize w1.setCell _ _ = x1 at *
    rcases hu : tP 32 q1 with _ | ⟨key, q2⟩
    · have HVN : Hid (chP Q = none) := Lib.hid (by rw [HV.out]; unfold cp2; rw [hu]; rfl)
      rw [HVN.out]
      refine (text_no g 32 (by omega) q1 (Lib.hid hu) q1.length (Lib.hid rfl) (by have := HL.out; omega) _ (Lib.hid HX.out.rd)).mono ?_
      rintro e w1 ⟨rfl, h1, h2⟩
      exact ⟨rfl, rfl, h1, HX.out.kept.trans (h2.mono fun k h => .inl (.inl h))⟩
    replace HV : Hid (chP Q = cp3 true rev key q2) := Lib.hid (by rw [HV.out]; unfold cp2; rw [hu]; rfl)
    have hcn := tP_canonL HX.out.rd.lt hu
    have HUY := Lib.hid fun w H => text_yes g 32 (by omega) q1 key q2 (Lib.hid hu) (by have := HL.out; omega) w H
    replace HL : Hid (q2.length ≤ 1000000) := Lib.hid (by have := HL.out; rw [hcn.1] at this; simp only [List.length_append] at this; omega)
    clear hu hcn
    refine (HUY.out _ (Lib.hid HX.out.rd)).mono ?_
    rintro e w2 hy
    obtain ⟨rfl, HR, HK⟩ := Yes.rd hy
    have HW := Lib.hid (HX.out.read HR.out HK.out)
    clear hy HR HK HX HUY
    obtain ⟨c2, f2⟩ := HW.out.cell 2 (by simp)
    go_wp2_with fail
    have HX := Lib.hid (HW.out.set 2 (.string (strB key)))
    clear c2 f2 HW
    generalize w2.setCell _ _ = x2 at *
    rcases hu : zP q2 with _ | ⟨s, q3⟩
    · have HVN : Hid (chP Q = none) := Lib.hid (by rw [HV.out]; unfold cp3; rw [hu]; rfl)
      rw [HVN.out]
      refine (int_no g q2 (Lib.hid hu) q2.length (Lib.hid rfl) (by have := HL.out; omega) _ (Lib.hid HX.out.rd)).mono ?_
      rintro e w1 ⟨rfl, h1, h2⟩
      exact ⟨rfl, rfl, h1, HX.out.kept.trans (h2.mono fun k h => .inl (.inl h))⟩
    replace HV : Hid (chP Q = cp4 true rev key s q3) := Lib.hid (by rw [HV.out]; unfold cp3; rw [hu]; rfl)
    have hcn := zP_canonL HX.out.rd.lt hu
    have HUY := Lib.hid fun w H => int_yes g s q2 q3 (Lib.hid hu) (by have := HL.out; omega) w H
    replace HL : Hid (q3.length ≤ 1000000) := Lib.hid (by have := HL.out; rw [hcn.1] at this; simp only [List.length_append] at this; omega)
    clear hu hcn
    refine (HUY.out _ (Lib.hid HX.out.rd)).mono ?_
    rintro e w3 hy
    obtain ⟨rfl, HR, HK⟩ := Yes.rd hy
    have HW := Lib.hid (HX.out.read HR.out HK.out)
    clear hy HR HK HX HUY
    obtain ⟨c3, f3⟩ := HW.out.cell 3 (by simp)
    go_wp2_with fail
    have HX := Lib.hid (HW.out.set 3 (.int .i64 s))
    clear c3 f3 HW
    generalize w3.setCell _ _ = x3 at *
    rcases hu : zP q3 with _ | ⟨ee, q4⟩
    · have HVN : Hid (chP Q = none) := Lib.hid (by rw [HV.out]; unfold cp4; rw [hu]; rfl)
      rw [HVN.out]
      refine (int_no g q3 (Lib.hid hu) q3.length (Lib.hid rfl) (by have := HL.out; omega) _ (Lib.hid HX.out.rd)).mono ?_
      rintro e w1 ⟨rfl, h1, h2⟩
      exact ⟨rfl, rfl, h1, HX.out.kept.trans (h2.mono fun k h => .inl (.inl h))⟩
    replace HV : Hid (chP Q = cp5 true rev key s ee q4) := Lib.hid (by rw [HV.out]; unfold cp4; rw [hu]; rfl)
    have hcn := zP_canonL HX.out.rd.lt hu
    have HUY := Lib.hid fun w H => int_yes g ee q3 q4 (Lib.hid hu) (by have := HL.out; omega) w H
    replace HL : Hid (q4.length ≤ 1000000) := Lib.hid (by have := HL.out; rw [hcn.1] at this; simp only [List.length_append] at this; omega)
    clear hu hcn
    refine (HUY.out _ (Lib.hid HX.out.rd)).mono ?_
    rintro e w4 hy
    obtain ⟨rfl, HR, HK⟩ := Yes.rd hy
    have HW := Lib.hid (HX.out.read HR.out HK.out)
    clear hy HR HK HX HUY
    obtain ⟨c4, f4⟩ := HW.out.cell 4 (by simp)
    go_wp2_with fail
    have HX := Lib.hid (HW.out.set 4 (.int .i64 ee))
    clear c4 f4 HW
    generalize w4.setCell _ _ = x4 at *
    have HVA := Lib.hid fun w H => readValue_all g q4 (by have := HL.out; omega) w H
    rcases hv : valP q4 with _ | ⟨t, q5⟩
    · rw [hv] at HVA
      have HVN : Hid (chP Q = none) := Lib.hid (by rw [HV.out]; unfold cp5; rw [hv]; rfl)
      rw [HVN.out]
      refine (HVA.out _ (Lib.hid HX.out.rd)).mono ?_
      rintro e w1 ⟨rfl, h1, h2⟩
      exact ⟨rfl, rfl, h1, HX.out.kept.trans' h2 (fun k h => h.elim (fun h => .inl (.inl h)) (fun h => .inl (.inr (Nat.le_trans HX.out.kept.size h))))⟩
    rw [hv] at HVA
    replace HV : Hid (chP Q = some (⟨true, rev, ⟨strB key, s, ee⟩, t⟩, q5)) := Lib.hid (by rw [HV.out]; unfold cp5; rw [hv]; rfl)
    clear hv
    refine (HVA.out _ (Lib.hid HX.out.rd)).mono ?_
    rintro e w5 ⟨rfl, hr5, hk5⟩
    have HW := Lib.hid (HX.out.readV hr5 hk5)
    clear hr5 hk5 HX HVA
    have HW : Hid (RC w g q5 [.bool true, .int .u64 (rev : Int), .string (strB key), .int .i64 s, .int .i64 ee, .int .u64 0, .float .f64 0, .bool false, .float .f64 0, .float .f64 0] w5) := HW
    obtain ⟨x5, hx5⟩ : ∃ q, q = w5.setRow (w.heap.size + 1) #[.bool true, .int .u64 (rev : Int), .string (strB key), .int .i64 s, .int .i64 ee, .int .u64 (t.c : Int), .float .f64 t.s, .bool t.o, .float .f64 t.lo, .float .f64 t.hi] := ⟨_, rfl⟩
    have HX5 : Hid (RC w g q5 [.bool true, .int .u64 (rev : Int), .string (strB key), .int .i64 s, .int .i64 ee, .int .u64 (t.c : Int), .float .f64 t.s, .bool t.o, .float .f64 t.lo, .float .f64 t.hi] x5) := Lib.hid (by rw [hx5]; exact HW.out.setRow _)
    go_wp2_with (first
      | (refine wpList_store_partC rfl (.tmp 34) (.tmp 32) rfl (w.heap.size + 1) 5 t rfl rfl _ HW.out.row (by simp) ?_; simp only [tlC, List.take, List.drop, List.cons_append, List.nil_append, List.length]; rw [← hx5])
      | (refine wpList_load_row rfl 43 (.tmp 3) rfl (w.heap.size + 1) rfl _ #[.bool true, .int .u64 (rev : Int), .string (strB key), .int .i64 s, .int .i64 ee, .int .u64 (t.c : Int), .float .f64 t.s, .bool t.o, .float .f64 t.lo, .float .f64 t.hi] (0, 0) _ HX5.out.row uChL rfl (by kernel_rfl) ?_)
      | (refine wpList_store_row rfl 43 (.tmp 2) (.tmp 35) rfl w.heap.size #[.bool true, .int .u64 (rev : Int), .string (strB key), .int .i64 s, .int .i64 ee, .int .u64 (t.c : Int), .float .f64 t.s, .bool t.o, .float .f64 t.lo, .float .f64 t.hi] rfl rfl _ _ HX5.out.res (by kernel_rfl) rfl (by simp [Value.oneCell']) ?_))
    have hk := HX5.out.kept
    have hrd := HX5.out.rd
    have hlt := HX5.out.lt
    have hrs := HX5.out.res
    have hkr : Kept (fun k => k = w.heap.size) x5 (x5.setRow w.heap.size #[.bool true, .int .u64 (rev : Int), .string (strB key), .int .i64 s, .int .i64 ee, .int .u64 (t.c : Int), .float .f64 t.s, .bool t.o, .float .f64 t.lo, .float .f64 t.hi]) := kept_setRow x5 _ _
    rw [HV.out]
    exact post_row 2 43 Tryd.results27 rfl w.heap.size 43 _ (0, 0) _ rfl (setRow_heap _ _ _ _ _ _ hrs) uChL rfl (by kernel_rfl) ⟨rfl, hrd.highA hkr (fun k hk => by omega), hk.trans (hkr.mono fun k h => .inl (.inr (by omega)))⟩
end Go.Proofs.YtbimfopbilcdgaaDoor

set_option linter.unusedSimpArgs false
set_option linter.unusedVariables false
set_option maxRecDepth 8000
namespace Go.Proofs.YtbimfopbilcdgaaDoor
open Go.RowKit Go.WideShapes Col

theorem chB_len (c : Chg) : 3 ≤ (chB c).length := by
  unfold chB
  have h1 := ub_pos c.rev
  have h2 := ub_pos (byL c.p.key).length
  rw [List.length_cons, List.length_append, List.length_append]
  omega
theorem kept_ofB {B : Nat} {w w' : World} (h : Below B w w') : Kept (fun k => B ≤ k) w w' := ⟨h.os, h.tape, h.output, h.size, fun k _ hn => h.block k (by omega)⟩
/-- How a reading of changes ends. -/
def LEnds (g : Nat) (w : World) (o : Option (List Chg × List Nat)) (e : Ending) (w' : World) : Prop := match o with
  | some (l, r) => ∃ A n cap, e = .returned (.slice A n cap) ∧ n ≤ cap ∧ cap ≤ maxLen ∧ (A = none → cap = 0) ∧ OwnCh w' w.heap.size A n cap l ∧ Rd w' g r ∧ Kept (fun k => k = g ∨ w.heap.size ≤ k) w w'
  | none => e = .panicked [gu g] ∧ Gone w' g ∧ Kept (fun k => k = g ∨ w.heap.size ≤ k) w w'
/-- What is read, and what is left. -/
structure RCh (w : World) (g : Nat) (Q : List Nat) (n k : Nat) (A : Option Addr) (cap : Nat) (m : List Chg) (r : List Nat) (wr : World) : Prop where
  rd : Rd wr g r
  own : OwnCh wr w.heap.size A k cap m
  le : k ≤ cap
  capm : cap ≤ maxLen
  nil : A = none → cap = 0
  kept : Kept (fun k => k = g ∨ w.heap.size ≤ k) w wr
  eq : bodyP Q = (chsP (n - k) r).map fun z => (m ++ z.1, z.2)
  few : 3 * k + r.length ≤ 2000
theorem chsP_succ (n : Nat) (q : List Nat) : chsP (n + 1) q = (chP q).bind fun y => (chsP n y.2).map fun z => (y.1 :: z.1, z.2) := rfl
set_option maxHeartbeats 4000000 in
theorem readChanges_all (g : Nat) (q : List Nat) (hql : q.length ≤ 2000) (w : World) (H : Hid (Rd w g q)) :
    Calls Tryd.prog 13 #[.pointer (some ⟨g, 0, none⟩)] w (LEnds g w (bodyP q)) := by
  have HLT := Lib.hid H.out.gltA
  obtain ⟨Q, hQ⟩ : ∃ Q, Q = q := ⟨_, rfl⟩
  rw [← hQ]
  have HB : Hid (bodyP Q = (uP 18446744073709551615 q).bind fun y => chsP y.1 y.2) := Lib.hid (by rw [hQ]; rfl)
  clear hQ
  go_enter Tryd.func13, Tryd.ntmps13
  go_wp2_with fail
  rcases hu : uP 18446744073709551615 q with _ | ⟨n, q1⟩
  · have HVN : Hid (bodyP Q = none) := Lib.hid (by rw [HB.out, hu]; rfl)
    rw [HVN.out]
    refine (uint_no g 18446744073709551615 q (Lib.hid hu) q.length (Lib.hid rfl) (by omega) _ H).mono ?_
    rintro e w1 ⟨rfl, h1, h2⟩
    exact ⟨rfl, rfl, h1, h2.mono fun k h => .inl (.inl h)⟩
  replace HB : Hid (bodyP Q = chsP n q1) := Lib.hid (by rw [HB.out, hu]; rfl)
  have hcn := uP_canonL H.out.lt hu
  have HN : Hid (n ≤ 18446744073709551615) := Lib.hid hcn.2
  have HL1 : Hid (q1.length ≤ 2000) := Lib.hid (by have h9 := congrArg List.length hcn.1; rw [List.length_append] at h9; omega)
  refine (uint_yes g 18446744073709551615 n q q1 (Lib.hid hu) (by omega) _ H).mono ?_
  rintro e w1 hy
  obtain ⟨rfl, HR, HK⟩ := Yes.rd hy
  clear hy hu hcn H hql
  have HK1 : Hid (Kept (fun k => k = g ∨ w.heap.size ≤ k) w w1) := Lib.hid (HK.out.mono fun k h => .inl (.inl h))
  go_wp2_with fail
  go_loopw [3, 6] (fun o i wr => ∃ (k : Nat) (A : Option Addr) (cap : Nat) (m : List Chg) (r : List Nat), k ≤ n ∧ o = .slice A k cap ∧ i = .int .u64 (k : Int) ∧ RCh w g Q n k A cap m r wr) (fun _ i _ => n - (intOf i).toNat)
  case atStart => exact ⟨0, none, 0, [], q1, Nat.zero_le _, rfl, rfl, ⟨HR.out, OwnCh.nil _ _, Nat.le_refl _, Nat.zero_le _, fun _ => rfl, HK1.out, by rw [HB.out, Nat.sub_zero]; cases chsP n q1 <;> rfl, by have := HL1.out; omega⟩⟩
  case round =>
    obtain ⟨k, A, cap, m, r, hk, rfl, rfl, hR⟩ := hrel
    have HRC := Lib.hid hR
    have k666 : k ≤ 700 := by have := hR.few; omega
    have HRL : Hid (r.length ≤ 1000000) := Lib.hid (by have := hR.few; omega)
    clear hR
    by_cases hkn : k < n
    · have hkI : (k : Int) < (n : Int) := by omega
      have HS : Hid (chsP (n - k) r = (chP r).bind fun y => (chsP (n - (k + 1)) y.2).map fun z => (y.1 :: z.1, z.2)) := Lib.hid (by rw [show n - k = (n - (k + 1)) + 1 by omega, chsP_succ])
      have HCA := Lib.hid (readChange_all g r HRL.out wr (Lib.hid HRC.out.rd))
      go_wp2_with fail
      rcases hc : chP r with _ | ⟨c, r2⟩
      · rw [hc] at HCA
        have HVN : Hid (bodyP Q = none) := Lib.hid (by rw [HRC.out.eq, HS.out, hc]; rfl)
        refine HCA.out.mono ?_
        rintro e w2 ⟨rfl, h1, h2⟩
        refine ⟨rfl, ?_⟩
        rw [HVN.out]
        exact ⟨rfl, h1, HRC.out.kept.trans' h2 (fun k h => h.elim (fun h => .inl (.inl h)) (fun h => .inl (.inr (Nat.le_trans HRC.out.kept.size h))))⟩
      · rw [hc] at HCA
        have HE2 : Hid (bodyP Q = (chsP (n - (k + 1)) r2).map fun z => (m ++ [c] ++ z.1, z.2)) := Lib.hid (by
          rw [HRC.out.eq, HS.out, hc]
          show ((chsP (n - (k + 1)) r2).map fun z => (c :: z.1, z.2)).map (fun z => (m ++ z.1, z.2)) = _
          cases chsP (n - (k + 1)) r2 with
          | none => rfl
          | some z => show some (m ++ c :: z.1, z.2) = some (m ++ [c] ++ z.1, z.2); rw [List.append_assoc]; rfl)
        have HF2 : Hid (3 * (k + 1) + r2.length ≤ 2000) := Lib.hid (by
          have h1 := chP_canon HRC.out.rd.lt hc
          have h2 := chB_len c
          have h3 := congrArg List.length h1.2
          rw [List.length_append] at h3
          have := HRC.out.few
          omega)
        clear hc HS
        refine HCA.out.mono ?_
        rintro e w2 ⟨rfl, hr2, hk2⟩
        have HO2 : Hid (OwnCh w2 w.heap.size A k cap m) := Lib.hid (HRC.out.own.same fun g' off e => hk2.block g' (HRC.out.own.lt g' off e).1 (fun h => by
          have h1 := HRC.out.own.lt g' off e
          have := HLT.out
          omega))
        have HK2 : Hid (Kept (fun k => k = g ∨ w.heap.size ≤ k) w w2) := Lib.hid (HRC.out.kept.trans' hk2 (fun k h => h.elim (fun h => .inl (.inl h)) (fun h => .inl (.inr (Nat.le_trans HRC.out.kept.size h)))))
        have HR2 := Lib.hid hr2
        have hs2 : w.heap.size ≤ w2.heap.size := HK2.out.size
        clear hr2 hk2 HCA HRL
        have HKN : Hid (k < n) := Lib.hid hkn
        have hw1 : IntKind.u64.wrap ((k : Int) + 1) = (k : Int) + 1 := by rw [IntKind.wrap_u64]; omega
        go_wp2_with (at_builtin; refine wpList_append_ch rfl _ _ rfl w.heap.size A k cap m rfl (HO2.out.below ((Below.refl _ _).alloc (Nat.le_refl _) _) (fun g' off' e => (HO2.out.lt g' off' e).1)) (some ⟨w2.heap.size, 0, none⟩) 1 1 [c] rfl rfl (chAt_new w2 [c] _ rfl _) (fun h => by cases h) (k + 1) rfl (by omega) (by simp; omega) ?_; intro A3 c3 w3 ho3 h31 h32 h33 hb3 _ _; have HO3 := Lib.hid ho3; have HC3 := Lib.hid (And.intro h31 (And.intro h32 h33)); have HB3 := Lib.hid (((Below.refl w.heap.size w2).alloc hs2 _).trans hb3); clear ho3 h31 h32 h33 hb3)
        go_roundw
        case rel => exact ⟨k + 1, A3, c3, m ++ [c], r2, by have := HKN.out; omega, rfl, by go_num, ⟨HR2.out.highA (kept_ofB HB3.out) (fun k hk => by have := HLT.out; have hk : w.heap.size ≤ k := hk; omega), HO3.out, HC3.out.1, HC3.out.2.1, HC3.out.2.2, HK2.out.trans ((kept_ofB HB3.out).mono fun k h => .inl (.inr h)), HE2.out, HF2.out⟩⟩
        case measure => simp [intOf]; omega
    · have hkI : ¬ ((k : Int) < (n : Int)) := by omega
      have HE : Hid (bodyP Q = some (m, r)) := Lib.hid (by
        rw [HRC.out.eq, show n - k = 0 by omega]
        show some (m ++ [], r) = _
        rw [List.append_nil])
      go_wp2
      go_ret
      rw [HE.out]
      exact ⟨A, k, cap, rfl, HRC.out.le, HRC.out.capm, HRC.out.nil, HRC.out.own, HRC.out.rd, HRC.out.kept⟩
end Go.Proofs.YtbimfopbilcdgaaDoor

set_option linter.unusedSimpArgs false
set_option linter.unusedVariables false
set_option maxRecDepth 8000
namespace Go.Proofs.YtbimfopbilcdgaaDoor
open Go.RowKit Go.WideShapes Col

/-- What is read of a body. -/
def RLA (o : Option (List Chg × List Nat)) (bl : Nat) (X : Nat → Prop) (b : Bool) (w : World) : Prop := match o with
  | some p => b = decide (p.2 = []) ∧ ∃ A n cap, w.heap[bl]? = some (.cells #[.slice A n cap] 24 (0, 0)) ∧ n ≤ cap ∧ cap ≤ maxLen ∧ (A = none → cap = 0) ∧ OwnCh w 0 A n cap p.1 ∧ (∀ g off, A = some ⟨g, off, none⟩ → ¬ X g)
  | none => b = false
theorem rd_cellL {w : World} {g bl : Nat} {r : List Nat} (h : Rd w g r) (hrow : w.heap[bl]? = some (.cells #[.slice none 0 0] 24 (0, 0))) (hg : bl < g) (v : Value) : Rd (w.setCell ⟨bl, 0, none⟩ v) g r := by
  obtain ⟨A, C, h⟩ := h
  have hk : Kept (fun k => k = bl) w (w.setCell ⟨bl, 0, none⟩ v) := (Kept.refl _ _).setCell _ _ (.inl rfl)
  refine ⟨A, C, h.keep hk (fun e => by have e : g = bl := e; omega) (fun a ha h0 e => ?_)⟩
  have e : a.block = bl := e
  obtain ⟨b, off, h2, h3, hc⟩ := h.bytes.spot h0
  rw [h2] at ha; injection ha with ha; subst ha
  have e : b = bl := e
  subst e
  have hc0 := hc 0 r[0] (List.getElem?_eq_getElem h0)
  rw [cell_of_row _ _ _ _ _ _ hrow] at hc0
  have hj : off + 0 < 1 := (Array.getElem?_eq_some_iff.1 hc0).1
  rw [show off + 0 = 0 by omega] at hc0
  simp at hc0
set_option maxHeartbeats 2000000 in
theorem lFn_any (g bl : Nat) (q : List Nat) (hq : q.length ≤ 2000) (w : World) (hbl : bl < g) (HL : Hid (w.heap[bl]? = some (.cells #[.slice none 0 0] 24 (0, 0)))) (H : Hid (Rd w g q)) :
    Calls Tryd.prog 12 #[.pointer (some ⟨g, 0, none⟩), .pointer (some ⟨bl, 0, none⟩)] w (Tried g (fun k => k = bl) (RLA (bodyP q) bl (fun k => k = g)) w) := by
  have HRE := Lib.hid (readChanges_all g q hq w H)
  have hbw : bl < w.heap.size := (Array.getElem?_eq_some_iff.1 HL.out).1
  have hgw : g < w.heap.size := H.out.gltA
  rcases he : bodyP q with _ | ⟨l, r⟩
  · rw [he] at HRE
    have HRN : Hid (Calls Tryd.prog 13 #[.pointer (some ⟨g, 0, none⟩)] w fun e w' => e = .panicked [gu g] ∧ Gone w' g ∧ Kept (fun k => k = g ∨ w.heap.size ≤ k) w w') := HRE
    clear HRE he
    go_enter Tryd.func12, Tryd.ntmps12
    go_wp2_with (go_at_call 13; (with_reducible refine (HRN.out).mono ?_); rintro e w1 ⟨rfl, h1, h2⟩)
    exact ⟨rfl, h2.mono (fun k h => h.elim (fun h => .inl (.inr h)) .inr), .inr ⟨rfl, h1, rfl⟩⟩
  · rw [he] at HRE
    have HRY : Hid (Calls Tryd.prog 13 #[.pointer (some ⟨g, 0, none⟩)] w fun e w' => ∃ A n cap, e = .returned (.slice A n cap) ∧ n ≤ cap ∧ cap ≤ maxLen ∧ (A = none → cap = 0) ∧ OwnCh w' w.heap.size A n cap l ∧ Rd w' g r ∧ Kept (fun k => k = g ∨ w.heap.size ≤ k) w w') := HRE
    clear HRE he
    go_enter Tryd.func12, Tryd.ntmps12
    go_wp2_with (go_at_call 13; (with_reducible refine (HRY.out).mono ?_); rintro e w1 ⟨A, n, cap, rfl, h1, h2, h3, h4, h5, h6⟩; have HC := Lib.hid (And.intro h1 (And.intro h2 h3)); have HO := Lib.hid h4; have HR := Lib.hid h5; have HK := Lib.hid h6; have HL1 := Lib.hid (h6.heap HL.out (fun e => by omega)); have cl : w1.cell? ⟨bl, 0, none⟩ = some (.slice none 0 0) := (by rw [cell_of_row _ _ _ _ _ _ HL1.out]; rfl); have fl : w1.frozen? ⟨bl, 0, none⟩ = false := row_frozen HL1.out 0; clear h1 h2 h3 h4 h5 h6)
    have hkc : Kept (fun k => k = bl) w1 (w1.setCell ⟨bl, 0, none⟩ (.slice A n cap)) := (Kept.refl _ _).setCell _ _ (.inl rfl)
    refine bodyPost_ret (results_none rfl _ _ _) rfl ⟨?_, .inl ⟨r, rfl, rd_cellL HR.out HL1.out hbl _, ?_⟩⟩
    · exact (HK.out.mono (S' := fun k => k = bl ∨ k = g) (fun k h => h.elim (fun h => .inl (.inr h)) .inr)).trans' hkc (fun i hi => .inl (.inl hi))
    · refine ⟨rfl, A, n, cap, ?_, HC.out.1, HC.out.2.1, HC.out.2.2, (HO.out.same fun g' off e => hkc.block g' (HO.out.lt g' off e).1 (fun e2 => by have := (HO.out.lt g' off e).2.1; omega)).less (Nat.zero_le _), fun g' off e e2 => by have := (HO.out.lt g' off e).2.1; omega⟩
      rw [World.setCell]
      simp [Array.getElem?_modify, HL1.out]
theorem rla_keep {o : Option (List Chg × List Nat)} {bl g : Nat} {b : Bool} {w w' : World} (h : RLA o bl (fun k => k = g) b w) (hk : Kept (Only g) w w') (hg : bl < g) : RLA o bl (fun _ => False) b w' := by
  rcases o with _ | p
  · exact h
  · obtain ⟨h2, A, n, cap, h3, h4, h5, h6, h7, h8⟩ := h
    exact ⟨h2, A, n, cap, hk.heap h3 (fun e => by have e : bl = g := e; omega), h4, h5, h6, h7.same (fun g' off e => hk.block g' (h7.lt g' off e).1 (fun e2 => h8 g' off e e2)), fun _ _ _ h => h⟩
end Go.Proofs.YtbimfopbilcdgaaDoor
