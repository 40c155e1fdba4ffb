/-
  Layer column: what ColumnTries hands to Try, walked.
-/
import Derived.Test.YtplmafbdalkopaaRu
set_option linter.unusedSimpArgs false
set_option linter.unusedVariables false
set_option maxRecDepth 8000
namespace Go.Proofs.Ytplmafbdalkopaa
open Go.RowKit Go.WideShapes Col
theorem b_eqs (s : ByteArray) (w : World) : (binOp .eql 9 (.string s) (.string s)).run Try.prog w = .ok (.bool true) w := by
  simp [binOp, Op.stringOp]
theorem b_equ (t : TypeId) (k : IntKind) (x : Int) (w : World) : (binOp .eql t (.int k x) (.int k x)).run Try.prog w = .ok (.bool true) w := by
  first | rfl | go_simp | simp [binOp]
theorem b_mul (k : Nat) (hk : k < 256) (w : World) : (binOp .mul 57 (.int .u64 (k : Int)) (.int .u64 (k : Int))).run Try.prog w = .ok (.int .u64 ((k * k : Nat) : Int)) w := by
  have hkk : k * k ≤ 255 * 255 := Nat.mul_le_mul (by omega) (by omega)
  have e : IntKind.u64.wrap ((k : Int) * (k : Int)) = ((k * k : Nat) : Int) := by rw [← Int.natCast_mul, IntKind.wrap_u64]; omega
  rw [← e]; first | rfl | go_simp
theorem tP_left {most : Nat} {q s r : List Nat} (h : tP most q = some (s, r)) : r.length ≤ q.length := by
  obtain ⟨n, q', h1, h2, h3, h4⟩ := tP_some h
  have := uP_left h1
  rw [h4, List.length_drop]; omega
abbrev Five (m br bn g : Nat) : Nat → Prop := fun k => Four m br bn k ∨ k = g
def RLp (m ba bm br bn bc : Nat) (A : Option Addr) (C : Nat) (p : List Nat) (Aa : Option Addr) (na Ca : Nat) (asks : List Nat) (chk : Bool) (g : Nat) (w : World) (v : Value) (wr : World) : Prop :=
  ∃ (i : Nat) (q : List Nat), i ≤ na ∧ v = .int .i64 (i : Int) ∧ TB m ba bm br bn bc A C p Aa na Ca asks chk i (some q) wr ∧ Rd wr g q ∧ q.length ≤ 500 ∧ Kept (Five m br bn g) w wr
def RGf (m ba bm br bn bc : Nat) (A : Option Addr) (C : Nat) (p : List Nat) (Aa : Option Addr) (na Ca : Nat) (asks : List Nat) (chk : Bool) (g : Nat) (b : Bool) (w : World) : Prop :=
  RTr m ba bm br bn bc A C p Aa na Ca asks chk b w ∧ Off (Only g) A p ∧ Off (Only g) Aa asks
section
variable {m ba bm br bn bc C na Ca i : Nat} {A Aa : Option Addr} {p asks : List Nat} {chk : Bool} {s : Option (List Nat)} {w w' : World} {g : Nat}
theorem TB.c_a (h : TB m ba bm br bn bc A C p Aa na Ca asks chk i s w) : w.cell? ⟨ba, 0, none⟩ = some (.slice Aa na Ca) := by rw [cell_of_row _ _ _ _ _ _ h.ra]; rfl
theorem TB.c_m (h : TB m ba bm br bn bc A C p Aa na Ca asks chk i s w) : w.cell? ⟨bm, 0, none⟩ = some (.pointer (some ⟨m, 0, none⟩)) := by rw [cell_of_row _ _ _ _ _ _ h.rm]; rfl
theorem TB.c_r (h : TB m ba bm br bn bc A C p Aa na Ca asks chk i s w) : w.cell? ⟨br, 0, none⟩ = some (.bool true) := by rw [cell_of_row _ _ _ _ _ _ h.rr]; rfl
theorem TB.c_n (h : TB m ba bm br bn bc A C p Aa na Ca asks chk i s w) : w.cell? ⟨bn, 0, none⟩ = some (.int .i64 (i : Int)) := by rw [cell_of_row _ _ _ _ _ _ h.rn]; rfl
theorem TB.c_c (h : TB m ba bm br bn bc A C p Aa na Ca asks chk i s w) : w.cell? ⟨bc, 0, none⟩ = some (.bool chk) := by rw [cell_of_row _ _ _ _ _ _ h.rc]; rfl
theorem TB.mlt (h : TB m ba bm br bn bc A C p Aa na Ca asks chk i s w) : bm < w.heap.size := (Array.getElem?_eq_some_iff.1 h.rm).1
/-- At the fault of an ask. -/
theorem tries_fault {k : Nat} {w0 w1 : World} {q : List Nat} (h : TB m ba bm br bn bc A C p Aa na Ca asks chk i s w1) (hi : i < na) (hk : asks[i]? = some k) (hs : refT k s = none) (hoA : Off (Only g) A p) (hoS : Off (Only g) Aa asks) (hg : Gone w1 g) (hkp : Kept (Five m br bn g) w0 w1) :
    Tried g (Four m br bn) (RGf m ba bm br bn bc A C p Aa na Ca asks chk g) w0 (.panicked [gu g]) w1 :=
  ⟨hkp, .inr ⟨rfl, hg, ⟨.inl ⟨i, k, s, hi, hk, rfl, hs, h⟩, hoA, hoS⟩⟩⟩
end
set_option maxHeartbeats 8000000 in
theorem triesFn_any (m ba bm br bn bc g : Nat) (A : Option Addr) (C : Nat) (p : List Nat) (Aa : Option Addr) (na Ca : Nat) (asks : List Nat) (chk : Bool) (hna : Hid (na = asks.length)) (hn30 : na ≤ 30) (hp : p.length ≤ 500) (hbg : bn < g) (w : World) (HR0 : Hid (Rd w g p)) (HT0 : Hid (TB m ba bm br bn bc A C p Aa na Ca asks chk 0 (some p) w)) :
    Calls Try.prog 29 #[.pointer (some ⟨g, 0, none⟩), .pointer (some ⟨ba, 0, none⟩), .pointer (some ⟨bm, 0, none⟩), .pointer (some ⟨br, 0, none⟩), .pointer (some ⟨bn, 0, none⟩), .pointer (some ⟨bc, 0, none⟩)] w (Tried g (Four m br bn) (RGf m ba bm br bn bc A C p Aa na Ca asks chk g) w) := by
  have HOA := Lib.hid (rd_off HR0.out HT0.out.ref.bytes)
  have HOS := Lib.hid (rd_off HR0.out HT0.out.asks)
  have HORD := Lib.hid HT0.out.ord
  have HLP : Hid (RLp m ba bm br bn bc A C p Aa na Ca asks chk g w (.int .i64 0) w) := Lib.hid ⟨0, p, Nat.zero_le _, rfl, HT0.out, HR0.out, hp, Kept.refl _ _⟩
  clear HR0 HT0
  go_enter Try.func29, Try.ntmps29
  go_wp2
  go_loopw [7] (fun v wr => RLp m ba bm br bn bc A C p Aa na Ca asks chk g w v wr) (fun v _ => na - (intOf v).toNat)
  case atStart => exact HLP.out
  case round =>
    obtain ⟨i, q, hi, rfl, ht, hr, hq5, hkp⟩ := hrel
    have HT := Lib.hid ht; have HR := Lib.hid hr; have HK := Lib.hid hkp
    have ca := ht.c_a
    clear ht hr hkp HLP
    by_cases hlt : i < na
    · obtain ⟨k, hk⟩ : ∃ k, asks[i]? = some k := ⟨asks[i]'(by have := hna.out; omega), List.getElem?_eq_getElem _⟩
      obtain ⟨hk256, gk, ok, rfl, -, ck⟩ := HT.out.asks i k hk
      have HKI := Lib.hid hk
      have hkw : IntKind.u64.wrap (k : Int) = (k : Int) := by rw [IntKind.wrap_u64]; omega
      have HMD := Lib.hid HT.out.drew
      have HRD : Hid (Rd wr.drew g q) := Lib.hid (HR.out.high (S := fun _ => False) ((Kept.refl _ _).drew) fun k e => e.elim)
      have HKD : Hid (Kept (Five m br bn g) wr wr.drew) := Lib.hid ((Kept.refl _ _).drew)
      have HCM := Lib.hid HT.out.c_m
      have HML := Lib.hid HT.out.mlt
      have HNM : Hid (¬ Five m br bn g bm) := Lib.hid (fun e => by have := HORD.out; rcases e with (e | e | e) | e <;> omega)
      clear hk
      obtain ⟨k4, hk4⟩ : ∃ k4, k4 = k % 4 := ⟨_, rfl⟩
      have hk4i : (k : Int) % 4 = (k4 : Int) := by omega
      have HK4 := Lib.hid (show k % 4 = k4 from hk4.symm)
      have hcases : k4 = 0 ∨ k4 = 1 ∨ k4 = 2 ∨ k4 = 3 := by omega
      clear hk4
      rcases hcases with rfl | rfl | rfl | rfl
      · have HMUL : Hid (∀ w, (binOp .mul 57 (.int .u64 (k : Int)) (.int .u64 (k : Int))).run Try.prog w = .ok (.int .u64 ((k * k : Nat) : Int)) w) := Lib.hid (b_mul k hk256)
        rcases hu : uP (k * k) q with _ | ⟨n, r⟩
        · have HU := Lib.hid hu
          clear hu
          have HFL : Hid (refT k (some q) = none) := Lib.hid (refT_fail (by unfold presT; rw [if_pos HK4.out, HU.out]; rfl))
          go_upto_region 7 with fail
          refine wp_region_held_drew (S := fun w' => Kept (Five m br bn g) wr w') (by kernel_rfl) HKD.out (fun hHeld => ?_)
          refine wpAnyH_take (i := 0) (v := .pointer (some ⟨g, 0, none⟩)) rfl (by kernel_rfl) (by kernel_rfl) (by kernel_rfl) (fun _ _ _ h => h) (Or.inl ⟨by rfl, fun _ _ => rfl⟩) hHeld ?_
          try dsimp only
          try simp only [Act.put, List.getElem_toArray, List.getElem_cons_zero, List.getElem_cons_succ, List.setIfInBounds_toArray, List.set_cons_zero, List.set_cons_succ]
          refine wpAnyH_take (i := 1) (v := .int .u64 (k : Int)) rfl (by kernel_rfl) (by kernel_rfl) (by kernel_rfl) (fun _ _ _ h => h) (Or.inl ⟨by rfl, fun _ _ => rfl⟩) hHeld ?_
          try dsimp only
          try simp only [Act.put, List.getElem_toArray, List.getElem_cons_zero, List.getElem_cons_succ, List.setIfInBounds_toArray, List.set_cons_zero, List.set_cons_succ]
          refine wpAnyH_take (i := 2) (v := .int .u64 (k : Int)) rfl (by kernel_rfl) (by kernel_rfl) (by kernel_rfl) (fun _ _ _ h => h) (Or.inl ⟨by rfl, fun _ _ => rfl⟩) hHeld ?_
          try dsimp only
          try simp only [Act.put, List.getElem_toArray, List.getElem_cons_zero, List.getElem_cons_succ, List.setIfInBounds_toArray, List.set_cons_zero, List.set_cons_succ]
          refine wpAnyH_take (i := 3) (v := .int .u64 ((k * k : Nat) : Int)) rfl (by kernel_rfl) (by kernel_rfl) (by kernel_rfl) (fun _ _ _ h => h) (yb_bin rfl .mul 57 57 (.tmp 33) (.tmp 34) rfl _ _ _ rfl rfl (fun _ => rfl) HMUL.out) hHeld ?_
          try dsimp only
          try simp only [Act.put, List.getElem_toArray, List.getElem_cons_zero, List.getElem_cons_succ, List.setIfInBounds_toArray, List.set_cons_zero, List.set_cons_succ]
          refine wpAnyH_take (i := 5) (v := .pointer (some ⟨m, 0, none⟩)) rfl (by kernel_rfl) (by kernel_rfl) (by kernel_rfl) (fun _ _ _ h => h) (Or.inl ⟨by rfl, fun w hw => by have hc : w.cell? ⟨bm, 0, none⟩ = some (.pointer (some ⟨m, 0, none⟩)) := (hw.cell (p := ⟨bm, 0, none⟩) HML.out HNM.out).trans HCM.out; go_simp⟩) hHeld ?_
          try dsimp only
          try simp only [Act.put, List.getElem_toArray, List.getElem_cons_zero, List.getElem_cons_succ, List.setIfInBounds_toArray, List.set_cons_zero, List.set_cons_succ]
          refine wpAnyH_take (i := 6) (v := .int .u64 (k : Int)) rfl (by kernel_rfl) (by kernel_rfl) (by kernel_rfl) (fun _ _ _ h => h) (Or.inl ⟨by rfl, fun _ _ => rfl⟩) hHeld ?_
          try dsimp only
          try simp only [Act.put, List.getElem_toArray, List.getElem_cons_zero, List.getElem_cons_succ, List.setIfInBounds_toArray, List.set_cons_zero, List.set_cons_succ]
          refine wpAnyH_take (i := 7) (v := .int .u64 (k : Int)) rfl (by kernel_rfl) (by kernel_rfl) (by kernel_rfl) (fun _ _ _ h => h) (Or.inl ⟨by rfl, fun _ _ => rfl⟩) hHeld ?_
          try dsimp only
          try simp only [Act.put, List.getElem_toArray, List.getElem_cons_zero, List.getElem_cons_succ, List.setIfInBounds_toArray, List.set_cons_zero, List.set_cons_succ]
          refine wpAnyH_take (i := 8) (v := .int .u64 ((k * k : Nat) : Int)) rfl (by kernel_rfl) (by kernel_rfl) (by kernel_rfl) (fun _ _ _ h => h) (yb_bin rfl .mul 57 57 (.tmp 38) (.tmp 39) rfl _ _ _ rfl rfl (fun _ => rfl) HMUL.out) hHeld ?_
          try dsimp only
          try simp only [Act.put, List.getElem_toArray, List.getElem_cons_zero, List.getElem_cons_succ, List.setIfInBounds_toArray, List.set_cons_zero, List.set_cons_succ]
          refine wpAnyH_ready (rs := [4]) (by kernel_rfl) (by simp) (AllReadyH.cons rfl (fun K hK => ?_) AllReadyH.nil)
          go_simp
          refine (uint_no g (k * k) q (Lib.hid HU.out) q.length (Lib.hid rfl) (by omega) _ HRD).mono ?_
          rintro e w1 ⟨rfl, h1, h2⟩
          exact ⟨rfl, tries_fault (q := []) (HMD.out.prog HRD.out h2 hbg) hlt HKI.out (HFL.out) HOA.out HOS.out h1 (HK.out.trans (HKD.out.trans (h2.mono fun k hk => .inl (.inr hk))))⟩
        · have HU := Lib.hid hu
          clear hu
          have HLR : Hid (r.length ≤ 500) := Lib.hid (Nat.le_trans (uP_left HU.out) hq5)
          go_upto_region 7 with fail
          refine wp_region_held_drew (S := fun w' => Kept (Five m br bn g) wr w') (by kernel_rfl) HKD.out (fun hHeld => ?_)
          refine wpAnyH_take (i := 0) (v := .pointer (some ⟨g, 0, none⟩)) rfl (by kernel_rfl) (by kernel_rfl) (by kernel_rfl) (fun _ _ _ h => h) (Or.inl ⟨by rfl, fun _ _ => rfl⟩) hHeld ?_
          try dsimp only
          try simp only [Act.put, List.getElem_toArray, List.getElem_cons_zero, List.getElem_cons_succ, List.setIfInBounds_toArray, List.set_cons_zero, List.set_cons_succ]
          refine wpAnyH_take (i := 1) (v := .int .u64 (k : Int)) rfl (by kernel_rfl) (by kernel_rfl) (by kernel_rfl) (fun _ _ _ h => h) (Or.inl ⟨by rfl, fun _ _ => rfl⟩) hHeld ?_
          try dsimp only
          try simp only [Act.put, List.getElem_toArray, List.getElem_cons_zero, List.getElem_cons_succ, List.setIfInBounds_toArray, List.set_cons_zero, List.set_cons_succ]
          refine wpAnyH_take (i := 2) (v := .int .u64 (k : Int)) rfl (by kernel_rfl) (by kernel_rfl) (by kernel_rfl) (fun _ _ _ h => h) (Or.inl ⟨by rfl, fun _ _ => rfl⟩) hHeld ?_
          try dsimp only
          try simp only [Act.put, List.getElem_toArray, List.getElem_cons_zero, List.getElem_cons_succ, List.setIfInBounds_toArray, List.set_cons_zero, List.set_cons_succ]
          refine wpAnyH_take (i := 3) (v := .int .u64 ((k * k : Nat) : Int)) rfl (by kernel_rfl) (by kernel_rfl) (by kernel_rfl) (fun _ _ _ h => h) (yb_bin rfl .mul 57 57 (.tmp 33) (.tmp 34) rfl _ _ _ rfl rfl (fun _ => rfl) HMUL.out) hHeld ?_
          try dsimp only
          try simp only [Act.put, List.getElem_toArray, List.getElem_cons_zero, List.getElem_cons_succ, List.setIfInBounds_toArray, List.set_cons_zero, List.set_cons_succ]
          refine wpAnyH_take (i := 5) (v := .pointer (some ⟨m, 0, none⟩)) rfl (by kernel_rfl) (by kernel_rfl) (by kernel_rfl) (fun _ _ _ h => h) (Or.inl ⟨by rfl, fun w hw => by have hc : w.cell? ⟨bm, 0, none⟩ = some (.pointer (some ⟨m, 0, none⟩)) := (hw.cell (p := ⟨bm, 0, none⟩) HML.out HNM.out).trans HCM.out; go_simp⟩) hHeld ?_
          try dsimp only
          try simp only [Act.put, List.getElem_toArray, List.getElem_cons_zero, List.getElem_cons_succ, List.setIfInBounds_toArray, List.set_cons_zero, List.set_cons_succ]
          refine wpAnyH_take (i := 6) (v := .int .u64 (k : Int)) rfl (by kernel_rfl) (by kernel_rfl) (by kernel_rfl) (fun _ _ _ h => h) (Or.inl ⟨by rfl, fun _ _ => rfl⟩) hHeld ?_
          try dsimp only
          try simp only [Act.put, List.getElem_toArray, List.getElem_cons_zero, List.getElem_cons_succ, List.setIfInBounds_toArray, List.set_cons_zero, List.set_cons_succ]
          refine wpAnyH_take (i := 7) (v := .int .u64 (k : Int)) rfl (by kernel_rfl) (by kernel_rfl) (by kernel_rfl) (fun _ _ _ h => h) (Or.inl ⟨by rfl, fun _ _ => rfl⟩) hHeld ?_
          try dsimp only
          try simp only [Act.put, List.getElem_toArray, List.getElem_cons_zero, List.getElem_cons_succ, List.setIfInBounds_toArray, List.set_cons_zero, List.set_cons_succ]
          refine wpAnyH_take (i := 8) (v := .int .u64 ((k * k : Nat) : Int)) rfl (by kernel_rfl) (by kernel_rfl) (by kernel_rfl) (fun _ _ _ h => h) (yb_bin rfl .mul 57 57 (.tmp 38) (.tmp 39) rfl _ _ _ rfl rfl (fun _ => rfl) HMUL.out) hHeld ?_
          try dsimp only
          try simp only [Act.put, List.getElem_toArray, List.getElem_cons_zero, List.getElem_cons_succ, List.setIfInBounds_toArray, List.set_cons_zero, List.set_cons_succ]
          refine wpAnyH_ready (rs := [4]) (by kernel_rfl) (by simp) (AllReadyH.cons rfl (fun K hK => ?_) AllReadyH.nil)
          go_simp
          refine (uint_yes g (k * k) n q r (Lib.hid HU.out) (by omega) _ HRD).mono ?_
          rintro e w1 ⟨rfl, h1, h2⟩
          have HR1 := Lib.hid h1; have HT1 := Lib.hid (HMD.out.prog HRD.out h2 hbg); have HK1 : Hid (Kept (Five m br bn g) wr w1) := Lib.hid (HKD.out.trans (h2.mono fun k hk => .inl (.inr hk))); clear h1 h2
          refine hK.out _ _ HK1.out (fun hHeld => ?_)
          clear hK K
          try dsimp only
          try simp only [Act.put, List.getElem_toArray, List.getElem_cons_zero, List.getElem_cons_succ, List.setIfInBounds_toArray, List.set_cons_zero, List.set_cons_succ]
          have HREF := Lib.hid (ruint_any m C A p (k * k) (some q) w1 (Lib.hid HT1.out.ref))
          have HRS := Lib.hid (uintS_some HU.out)
          rw [HRS.out] at HREF
          refine wpAnyH_ready (rs := [9]) (by kernel_rfl) (by simp) (AllReadyH.cons rfl (fun K hK => ?_) AllReadyH.nil)
          go_simp
          refine (HREF.out).mono ?_
          rintro e w2 hy; obtain ⟨rfl, HR2', HK2'⟩ := hy.at; clear hy
          have HT2 := Lib.hid (HT1.out.doc HR2'.out HK2'.out); have HR2 := Lib.hid (HR1.out.doc HT1.out HK2'.out hbg); have HK2 : Hid (Kept (Five m br bn g) wr w2) := Lib.hid (HK1.out.trans (HK2'.out.mono fun k hk => .inl (.inl (.inl hk)))); clear HR2' HK2' HREF HRS
          refine hK.out _ _ HK2.out (fun hHeld => ?_)
          clear hK K
          try dsimp only
          try simp only [Act.put, List.getElem_toArray, List.getElem_cons_zero, List.getElem_cons_succ, List.setIfInBounds_toArray, List.set_cons_zero, List.set_cons_succ]
          refine wpAnyH_take (i := 10) (v := .bool true) rfl (by kernel_rfl) (by kernel_rfl) (by kernel_rfl) (fun _ _ _ h => h) (yb_bin rfl .eql 57 57 (.tmp 36) (.tmp 41) rfl _ _ _ rfl rfl (fun _ => rfl) (b_equ _ _ _)) hHeld ?_
          try dsimp only
          try simp only [Act.put, List.getElem_toArray, List.getElem_cons_zero, List.getElem_cons_succ, List.setIfInBounds_toArray, List.set_cons_zero, List.set_cons_succ]
          refine wpAnyH_take (i := 11) (v := .bool true) rfl (by kernel_rfl) (by kernel_rfl) (by kernel_rfl) (fun _ _ _ h => h) (Or.inl ⟨by rfl, fun _ _ => rfl⟩) hHeld ?_
          try dsimp only
          try simp only [Act.put, List.getElem_toArray, List.getElem_cons_zero, List.getElem_cons_succ, List.setIfInBounds_toArray, List.set_cons_zero, List.set_cons_succ]
          have cr2 := HT2.out.c_r
          refine wpAnyH_ready (rs := [12]) (by kernel_rfl) (by simp) (AllReadyH.cons rfl (fun K hK => ?_) AllReadyH.nil)
          go_simp
          refine hK.out _ _ HK2.out (fun hHeld => ?_)
          clear hK K
          try dsimp only
          try simp only [Act.put, List.getElem_toArray, List.getElem_cons_zero, List.getElem_cons_succ, List.setIfInBounds_toArray, List.set_cons_zero, List.set_cons_succ]
          refine wpAnyH_take (i := 13) (v := .bool true) rfl (by kernel_rfl) (by kernel_rfl) (by kernel_rfl) (fun _ _ _ h => h) (yb_pick rfl (.tmp 43) (.tmp 44) (.const (.bool false)) rfl true _ rfl rfl) hHeld ?_
          try dsimp only
          try simp only [Act.put, List.getElem_toArray, List.getElem_cons_zero, List.getElem_cons_succ, List.setIfInBounds_toArray, List.set_cons_zero, List.set_cons_succ]
          have fr2 : w2.frozen? ⟨br, 0, none⟩ = false := row_frozen HT2.out.rr 0
          obtain ⟨ht3, hr3, hk3⟩ := HT2.out.right HR2.out hbg
          have HT3 := Lib.hid ht3; have HR3 := Lib.hid hr3; have HK3 : Hid (Kept (Five m br bn g) wr (w2.setCell ⟨br, 0, none⟩ (.bool true))) := Lib.hid (HK2.out.trans (hk3.mono fun k hk => .inl (.inl (.inr (.inl hk))))); clear ht3 hr3 hk3
          refine wpAnyH_ready (rs := [14]) (by kernel_rfl) (by simp) (AllReadyH.cons rfl (fun K hK => ?_) AllReadyH.nil)
          go_simp
          refine hK.out _ _ HK3.out (fun hHeld => ?_)
          clear hK K
          refine wpAnyH_done (by kernel_rfl) ?_ _
          generalize hw3 : w2.setCell ⟨br, 0, none⟩ (.bool true) = w3 at *
          have cn3 := HT3.out.c_n; have fn3 : w3.frozen? ⟨bn, 0, none⟩ = false := row_frozen HT3.out.rn 0
          obtain ⟨ht4, hr4, hk4'⟩ := HT3.out.count HR3.out hbg
          rw [show ((i + 1 : Nat) : Int) = (i : Int) + 1 by omega] at ht4 hr4 hk4'
          have HT4 := Lib.hid ht4; have HR4 := Lib.hid hr4; have HK4' := Lib.hid (HK.out.trans (HK3.out.trans (hk4'.mono fun k hk => .inl (.inl (.inr (.inr hk)))))); clear ht4 hr4 hk4' hw3 cr2 fr2
          go_wp2
          go_roundw
          case rel => exact ⟨i + 1, r, by omega, by go_num, HT4.out, HR4.out, HLR.out, HK4'.out⟩
          case measure => simp [intOf]; omega
      · rcases hu : zP q with _ | ⟨n, r⟩
        · have HU := Lib.hid hu
          clear hu
          have HFL : Hid (refT k (some q) = none) := Lib.hid (refT_fail (by unfold presT; rw [if_neg (by have := HK4.out; omega), if_pos HK4.out, HU.out]; rfl))
          go_upto_region 9 with fail
          refine wp_region_held_drew (S := fun w' => Kept (Five m br bn g) wr w') (by kernel_rfl) HKD.out (fun hHeld => ?_)
          refine wpAnyH_take (i := 0) (v := .pointer (some ⟨g, 0, none⟩)) rfl (by kernel_rfl) (by kernel_rfl) (by kernel_rfl) (fun _ _ _ h => h) (Or.inl ⟨by rfl, fun _ _ => rfl⟩) hHeld ?_
          try dsimp only
          try simp only [Act.put, List.getElem_toArray, List.getElem_cons_zero, List.getElem_cons_succ, List.setIfInBounds_toArray, List.set_cons_zero, List.set_cons_succ]
          refine wpAnyH_take (i := 2) (v := .pointer (some ⟨m, 0, none⟩)) rfl (by kernel_rfl) (by kernel_rfl) (by kernel_rfl) (fun _ _ _ h => h) (Or.inl ⟨by rfl, fun w hw => by have hc : w.cell? ⟨bm, 0, none⟩ = some (.pointer (some ⟨m, 0, none⟩)) := (hw.cell (p := ⟨bm, 0, none⟩) HML.out HNM.out).trans HCM.out; go_simp⟩) hHeld ?_
          try dsimp only
          try simp only [Act.put, List.getElem_toArray, List.getElem_cons_zero, List.getElem_cons_succ, List.setIfInBounds_toArray, List.set_cons_zero, List.set_cons_succ]
          refine wpAnyH_ready (rs := [1]) (by kernel_rfl) (by simp) (AllReadyH.cons rfl (fun K hK => ?_) AllReadyH.nil)
          go_simp
          refine (int_no g q (Lib.hid HU.out) q.length (Lib.hid rfl) (by omega) _ HRD).mono ?_
          rintro e w1 ⟨rfl, h1, h2⟩
          exact ⟨rfl, tries_fault (q := []) (HMD.out.prog HRD.out h2 hbg) hlt HKI.out (HFL.out) HOA.out HOS.out h1 (HK.out.trans (HKD.out.trans (h2.mono fun k hk => .inl (.inr hk))))⟩
        · have HU := Lib.hid hu
          clear hu
          have HLR : Hid (r.length ≤ 500) := Lib.hid (Nat.le_trans (zP_left HU.out) hq5)
          go_upto_region 9 with fail
          refine wp_region_held_drew (S := fun w' => Kept (Five m br bn g) wr w') (by kernel_rfl) HKD.out (fun hHeld => ?_)
          refine wpAnyH_take (i := 0) (v := .pointer (some ⟨g, 0, none⟩)) rfl (by kernel_rfl) (by kernel_rfl) (by kernel_rfl) (fun _ _ _ h => h) (Or.inl ⟨by rfl, fun _ _ => rfl⟩) hHeld ?_
          try dsimp only
          try simp only [Act.put, List.getElem_toArray, List.getElem_cons_zero, List.getElem_cons_succ, List.setIfInBounds_toArray, List.set_cons_zero, List.set_cons_succ]
          refine wpAnyH_take (i := 2) (v := .pointer (some ⟨m, 0, none⟩)) rfl (by kernel_rfl) (by kernel_rfl) (by kernel_rfl) (fun _ _ _ h => h) (Or.inl ⟨by rfl, fun w hw => by have hc : w.cell? ⟨bm, 0, none⟩ = some (.pointer (some ⟨m, 0, none⟩)) := (hw.cell (p := ⟨bm, 0, none⟩) HML.out HNM.out).trans HCM.out; go_simp⟩) hHeld ?_
          try dsimp only
          try simp only [Act.put, List.getElem_toArray, List.getElem_cons_zero, List.getElem_cons_succ, List.setIfInBounds_toArray, List.set_cons_zero, List.set_cons_succ]
          refine wpAnyH_ready (rs := [1]) (by kernel_rfl) (by simp) (AllReadyH.cons rfl (fun K hK => ?_) AllReadyH.nil)
          go_simp
          refine (int_yes g n q r (Lib.hid HU.out) (by omega) _ HRD).mono ?_
          rintro e w1 ⟨rfl, h1, h2⟩
          have HR1 := Lib.hid h1; have HT1 := Lib.hid (HMD.out.prog HRD.out h2 hbg); have HK1 : Hid (Kept (Five m br bn g) wr w1) := Lib.hid (HKD.out.trans (h2.mono fun k hk => .inl (.inr hk))); clear h1 h2
          refine hK.out _ _ HK1.out (fun hHeld => ?_)
          clear hK K
          try dsimp only
          try simp only [Act.put, List.getElem_toArray, List.getElem_cons_zero, List.getElem_cons_succ, List.setIfInBounds_toArray, List.set_cons_zero, List.set_cons_succ]
          have HREF := Lib.hid (rint_any m C A p (some q) w1 (Lib.hid HT1.out.ref))
          have HRS := Lib.hid (intS_some HU.out)
          rw [HRS.out] at HREF
          refine wpAnyH_ready (rs := [3]) (by kernel_rfl) (by simp) (AllReadyH.cons rfl (fun K hK => ?_) AllReadyH.nil)
          go_simp
          refine (HREF.out).mono ?_
          rintro e w2 hy; obtain ⟨rfl, HR2', HK2'⟩ := hy.at; clear hy
          have HT2 := Lib.hid (HT1.out.doc HR2'.out HK2'.out); have HR2 := Lib.hid (HR1.out.doc HT1.out HK2'.out hbg); have HK2 : Hid (Kept (Five m br bn g) wr w2) := Lib.hid (HK1.out.trans (HK2'.out.mono fun k hk => .inl (.inl (.inl hk)))); clear HR2' HK2' HREF HRS
          refine hK.out _ _ HK2.out (fun hHeld => ?_)
          clear hK K
          try dsimp only
          try simp only [Act.put, List.getElem_toArray, List.getElem_cons_zero, List.getElem_cons_succ, List.setIfInBounds_toArray, List.set_cons_zero, List.set_cons_succ]
          refine wpAnyH_take (i := 4) (v := .bool true) rfl (by kernel_rfl) (by kernel_rfl) (by kernel_rfl) (fun _ _ _ h => h) (yb_bin rfl .eql 2 2 (.tmp 49) (.tmp 51) rfl _ _ _ rfl rfl (fun _ => rfl) (b_equ _ _ _)) hHeld ?_
          try dsimp only
          try simp only [Act.put, List.getElem_toArray, List.getElem_cons_zero, List.getElem_cons_succ, List.setIfInBounds_toArray, List.set_cons_zero, List.set_cons_succ]
          refine wpAnyH_take (i := 5) (v := .bool true) rfl (by kernel_rfl) (by kernel_rfl) (by kernel_rfl) (fun _ _ _ h => h) (Or.inl ⟨by rfl, fun _ _ => rfl⟩) hHeld ?_
          try dsimp only
          try simp only [Act.put, List.getElem_toArray, List.getElem_cons_zero, List.getElem_cons_succ, List.setIfInBounds_toArray, List.set_cons_zero, List.set_cons_succ]
          have cr2 := HT2.out.c_r
          refine wpAnyH_ready (rs := [6]) (by kernel_rfl) (by simp) (AllReadyH.cons rfl (fun K hK => ?_) AllReadyH.nil)
          go_simp
          refine hK.out _ _ HK2.out (fun hHeld => ?_)
          clear hK K
          try dsimp only
          try simp only [Act.put, List.getElem_toArray, List.getElem_cons_zero, List.getElem_cons_succ, List.setIfInBounds_toArray, List.set_cons_zero, List.set_cons_succ]
          refine wpAnyH_take (i := 7) (v := .bool true) rfl (by kernel_rfl) (by kernel_rfl) (by kernel_rfl) (fun _ _ _ h => h) (yb_pick rfl (.tmp 53) (.tmp 54) (.const (.bool false)) rfl true _ rfl rfl) hHeld ?_
          try dsimp only
          try simp only [Act.put, List.getElem_toArray, List.getElem_cons_zero, List.getElem_cons_succ, List.setIfInBounds_toArray, List.set_cons_zero, List.set_cons_succ]
          have fr2 : w2.frozen? ⟨br, 0, none⟩ = false := row_frozen HT2.out.rr 0
          obtain ⟨ht3, hr3, hk3⟩ := HT2.out.right HR2.out hbg
          have HT3 := Lib.hid ht3; have HR3 := Lib.hid hr3; have HK3 : Hid (Kept (Five m br bn g) wr (w2.setCell ⟨br, 0, none⟩ (.bool true))) := Lib.hid (HK2.out.trans (hk3.mono fun k hk => .inl (.inl (.inr (.inl hk))))); clear ht3 hr3 hk3
          refine wpAnyH_ready (rs := [8]) (by kernel_rfl) (by simp) (AllReadyH.cons rfl (fun K hK => ?_) AllReadyH.nil)
          go_simp
          refine hK.out _ _ HK3.out (fun hHeld => ?_)
          clear hK K
          refine wpAnyH_done (by kernel_rfl) ?_ _
          generalize hw3 : w2.setCell ⟨br, 0, none⟩ (.bool true) = w3 at *
          have cn3 := HT3.out.c_n; have fn3 : w3.frozen? ⟨bn, 0, none⟩ = false := row_frozen HT3.out.rn 0
          obtain ⟨ht4, hr4, hk4'⟩ := HT3.out.count HR3.out hbg
          rw [show ((i + 1 : Nat) : Int) = (i : Int) + 1 by omega] at ht4 hr4 hk4'
          have HT4 := Lib.hid ht4; have HR4 := Lib.hid hr4; have HK4' := Lib.hid (HK.out.trans (HK3.out.trans (hk4'.mono fun k hk => .inl (.inl (.inr (.inr hk)))))); clear ht4 hr4 hk4' hw3 cr2 fr2
          go_wp2
          go_roundw
          case rel => exact ⟨i + 1, r, by omega, by go_num, HT4.out, HR4.out, HLR.out, HK4'.out⟩
          case measure => simp [intOf]; omega
      · have hki64 : IntKind.i64.wrap (k : Int) = (k : Int) := by rw [IntKind.wrap_i64]; omega
        rcases hu : tP k q with _ | ⟨n, r⟩
        · have HU := Lib.hid hu
          clear hu
          have HFL : Hid (refT k (some q) = none) := Lib.hid (refT_fail (by unfold presT; rw [if_neg (by have := HK4.out; omega), if_neg (by have := HK4.out; omega), if_pos HK4.out, HU.out]; rfl))
          go_upto_region 11 with fail
          refine wp_region_held_drew (S := fun w' => Kept (Five m br bn g) wr w') (by kernel_rfl) HKD.out (fun hHeld => ?_)
          refine wpAnyH_take (i := 0) (v := .pointer (some ⟨g, 0, none⟩)) rfl (by kernel_rfl) (by kernel_rfl) (by kernel_rfl) (fun _ _ _ h => h) (Or.inl ⟨by rfl, fun _ _ => rfl⟩) hHeld ?_
          try dsimp only
          try simp only [Act.put, List.getElem_toArray, List.getElem_cons_zero, List.getElem_cons_succ, List.setIfInBounds_toArray, List.set_cons_zero, List.set_cons_succ]
          refine wpAnyH_take (i := 1) (v := .int .u64 (k : Int)) rfl (by kernel_rfl) (by kernel_rfl) (by kernel_rfl) (fun _ _ _ h => h) (Or.inl ⟨by rfl, fun _ _ => rfl⟩) hHeld ?_
          try dsimp only
          try simp only [Act.put, List.getElem_toArray, List.getElem_cons_zero, List.getElem_cons_succ, List.setIfInBounds_toArray, List.set_cons_zero, List.set_cons_succ]
          refine wpAnyH_take (i := 2) (v := .int .i64 (k : Int)) rfl (by kernel_rfl) (by kernel_rfl) (by kernel_rfl) (fun _ _ _ h => h) (Or.inl ⟨by rfl, fun w _ => by first | (go_simp; done) | (go_simp; exact hki64)⟩) hHeld ?_
          try dsimp only
          try simp only [Act.put, List.getElem_toArray, List.getElem_cons_zero, List.getElem_cons_succ, List.setIfInBounds_toArray, List.set_cons_zero, List.set_cons_succ]
          refine wpAnyH_take (i := 4) (v := .pointer (some ⟨m, 0, none⟩)) rfl (by kernel_rfl) (by kernel_rfl) (by kernel_rfl) (fun _ _ _ h => h) (Or.inl ⟨by rfl, fun w hw => by have hc : w.cell? ⟨bm, 0, none⟩ = some (.pointer (some ⟨m, 0, none⟩)) := (hw.cell (p := ⟨bm, 0, none⟩) HML.out HNM.out).trans HCM.out; go_simp⟩) hHeld ?_
          try dsimp only
          try simp only [Act.put, List.getElem_toArray, List.getElem_cons_zero, List.getElem_cons_succ, List.setIfInBounds_toArray, List.set_cons_zero, List.set_cons_succ]
          refine wpAnyH_take (i := 5) (v := .int .u64 (k : Int)) rfl (by kernel_rfl) (by kernel_rfl) (by kernel_rfl) (fun _ _ _ h => h) (Or.inl ⟨by rfl, fun _ _ => rfl⟩) hHeld ?_
          try dsimp only
          try simp only [Act.put, List.getElem_toArray, List.getElem_cons_zero, List.getElem_cons_succ, List.setIfInBounds_toArray, List.set_cons_zero, List.set_cons_succ]
          refine wpAnyH_take (i := 6) (v := .int .i64 (k : Int)) rfl (by kernel_rfl) (by kernel_rfl) (by kernel_rfl) (fun _ _ _ h => h) (Or.inl ⟨by rfl, fun w _ => by first | (go_simp; done) | (go_simp; exact hki64)⟩) hHeld ?_
          try dsimp only
          try simp only [Act.put, List.getElem_toArray, List.getElem_cons_zero, List.getElem_cons_succ, List.setIfInBounds_toArray, List.set_cons_zero, List.set_cons_succ]
          refine wpAnyH_ready (rs := [3]) (by kernel_rfl) (by simp) (AllReadyH.cons rfl (fun K hK => ?_) AllReadyH.nil)
          go_simp
          refine (text_no g k (by omega) q (Lib.hid HU.out) q.length (Lib.hid rfl) (by omega) _ HRD).mono ?_
          rintro e w1 ⟨rfl, h1, h2⟩
          exact ⟨rfl, tries_fault (q := []) (HMD.out.prog HRD.out h2 hbg) hlt HKI.out (HFL.out) HOA.out HOS.out h1 (HK.out.trans (HKD.out.trans (h2.mono fun k hk => .inl (.inr hk))))⟩
        · have HU := Lib.hid hu
          clear hu
          have HLR : Hid (r.length ≤ 500) := Lib.hid (Nat.le_trans (tP_left HU.out) hq5)
          go_upto_region 11 with fail
          refine wp_region_held_drew (S := fun w' => Kept (Five m br bn g) wr w') (by kernel_rfl) HKD.out (fun hHeld => ?_)
          refine wpAnyH_take (i := 0) (v := .pointer (some ⟨g, 0, none⟩)) rfl (by kernel_rfl) (by kernel_rfl) (by kernel_rfl) (fun _ _ _ h => h) (Or.inl ⟨by rfl, fun _ _ => rfl⟩) hHeld ?_
          try dsimp only
          try simp only [Act.put, List.getElem_toArray, List.getElem_cons_zero, List.getElem_cons_succ, List.setIfInBounds_toArray, List.set_cons_zero, List.set_cons_succ]
          refine wpAnyH_take (i := 1) (v := .int .u64 (k : Int)) rfl (by kernel_rfl) (by kernel_rfl) (by kernel_rfl) (fun _ _ _ h => h) (Or.inl ⟨by rfl, fun _ _ => rfl⟩) hHeld ?_
          try dsimp only
          try simp only [Act.put, List.getElem_toArray, List.getElem_cons_zero, List.getElem_cons_succ, List.setIfInBounds_toArray, List.set_cons_zero, List.set_cons_succ]
          refine wpAnyH_take (i := 2) (v := .int .i64 (k : Int)) rfl (by kernel_rfl) (by kernel_rfl) (by kernel_rfl) (fun _ _ _ h => h) (Or.inl ⟨by rfl, fun w _ => by first | (go_simp; done) | (go_simp; exact hki64)⟩) hHeld ?_
          try dsimp only
          try simp only [Act.put, List.getElem_toArray, List.getElem_cons_zero, List.getElem_cons_succ, List.setIfInBounds_toArray, List.set_cons_zero, List.set_cons_succ]
          refine wpAnyH_take (i := 4) (v := .pointer (some ⟨m, 0, none⟩)) rfl (by kernel_rfl) (by kernel_rfl) (by kernel_rfl) (fun _ _ _ h => h) (Or.inl ⟨by rfl, fun w hw => by have hc : w.cell? ⟨bm, 0, none⟩ = some (.pointer (some ⟨m, 0, none⟩)) := (hw.cell (p := ⟨bm, 0, none⟩) HML.out HNM.out).trans HCM.out; go_simp⟩) hHeld ?_
          try dsimp only
          try simp only [Act.put, List.getElem_toArray, List.getElem_cons_zero, List.getElem_cons_succ, List.setIfInBounds_toArray, List.set_cons_zero, List.set_cons_succ]
          refine wpAnyH_take (i := 5) (v := .int .u64 (k : Int)) rfl (by kernel_rfl) (by kernel_rfl) (by kernel_rfl) (fun _ _ _ h => h) (Or.inl ⟨by rfl, fun _ _ => rfl⟩) hHeld ?_
          try dsimp only
          try simp only [Act.put, List.getElem_toArray, List.getElem_cons_zero, List.getElem_cons_succ, List.setIfInBounds_toArray, List.set_cons_zero, List.set_cons_succ]
          refine wpAnyH_take (i := 6) (v := .int .i64 (k : Int)) rfl (by kernel_rfl) (by kernel_rfl) (by kernel_rfl) (fun _ _ _ h => h) (Or.inl ⟨by rfl, fun w _ => by first | (go_simp; done) | (go_simp; exact hki64)⟩) hHeld ?_
          try dsimp only
          try simp only [Act.put, List.getElem_toArray, List.getElem_cons_zero, List.getElem_cons_succ, List.setIfInBounds_toArray, List.set_cons_zero, List.set_cons_succ]
          refine wpAnyH_ready (rs := [3]) (by kernel_rfl) (by simp) (AllReadyH.cons rfl (fun K hK => ?_) AllReadyH.nil)
          go_simp
          refine (text_yes g k (by omega) q n r (Lib.hid HU.out) (by omega) _ HRD).mono ?_
          rintro e w1 ⟨rfl, h1, h2⟩
          have HR1 := Lib.hid h1; have HT1 := Lib.hid (HMD.out.prog HRD.out h2 hbg); have HK1 : Hid (Kept (Five m br bn g) wr w1) := Lib.hid (HKD.out.trans (h2.mono fun k hk => .inl (.inr hk))); clear h1 h2
          refine hK.out _ _ HK1.out (fun hHeld => ?_)
          clear hK K
          try dsimp only
          try simp only [Act.put, List.getElem_toArray, List.getElem_cons_zero, List.getElem_cons_succ, List.setIfInBounds_toArray, List.set_cons_zero, List.set_cons_succ]
          have HREF := Lib.hid (rtext_any m C A p k (by omega) (some q) w1 (Lib.hid HT1.out.ref))
          have HRS := Lib.hid (textS_some HU.out)
          rw [HRS.out] at HREF
          refine wpAnyH_ready (rs := [7]) (by kernel_rfl) (by simp) (AllReadyH.cons rfl (fun K hK => ?_) AllReadyH.nil)
          go_simp
          refine (HREF.out).mono ?_
          rintro e w2 hy; obtain ⟨rfl, HR2', HK2'⟩ := hy.at; clear hy
          have HT2 := Lib.hid (HT1.out.doc HR2'.out HK2'.out); have HR2 := Lib.hid (HR1.out.doc HT1.out HK2'.out hbg); have HK2 : Hid (Kept (Five m br bn g) wr w2) := Lib.hid (HK1.out.trans (HK2'.out.mono fun k hk => .inl (.inl (.inl hk)))); clear HR2' HK2' HREF HRS
          refine hK.out _ _ HK2.out (fun hHeld => ?_)
          clear hK K
          try dsimp only
          try simp only [Act.put, List.getElem_toArray, List.getElem_cons_zero, List.getElem_cons_succ, List.setIfInBounds_toArray, List.set_cons_zero, List.set_cons_succ]
          refine wpAnyH_take (i := 8) (v := .bool true) rfl (by kernel_rfl) (by kernel_rfl) (by kernel_rfl) (fun _ _ _ h => h) (yb_bin rfl .eql 9 9 (.tmp 61) (.tmp 65) rfl _ _ _ rfl rfl (fun _ => rfl) (b_eqs _)) hHeld ?_
          try dsimp only
          try simp only [Act.put, List.getElem_toArray, List.getElem_cons_zero, List.getElem_cons_succ, List.setIfInBounds_toArray, List.set_cons_zero, List.set_cons_succ]
          refine wpAnyH_take (i := 9) (v := .bool true) rfl (by kernel_rfl) (by kernel_rfl) (by kernel_rfl) (fun _ _ _ h => h) (Or.inl ⟨by rfl, fun _ _ => rfl⟩) hHeld ?_
          try dsimp only
          try simp only [Act.put, List.getElem_toArray, List.getElem_cons_zero, List.getElem_cons_succ, List.setIfInBounds_toArray, List.set_cons_zero, List.set_cons_succ]
          have cr2 := HT2.out.c_r
          refine wpAnyH_ready (rs := [10]) (by kernel_rfl) (by simp) (AllReadyH.cons rfl (fun K hK => ?_) AllReadyH.nil)
          go_simp
          refine hK.out _ _ HK2.out (fun hHeld => ?_)
          clear hK K
          try dsimp only
          try simp only [Act.put, List.getElem_toArray, List.getElem_cons_zero, List.getElem_cons_succ, List.setIfInBounds_toArray, List.set_cons_zero, List.set_cons_succ]
          refine wpAnyH_take (i := 11) (v := .bool true) rfl (by kernel_rfl) (by kernel_rfl) (by kernel_rfl) (fun _ _ _ h => h) (yb_pick rfl (.tmp 67) (.tmp 68) (.const (.bool false)) rfl true _ rfl rfl) hHeld ?_
          try dsimp only
          try simp only [Act.put, List.getElem_toArray, List.getElem_cons_zero, List.getElem_cons_succ, List.setIfInBounds_toArray, List.set_cons_zero, List.set_cons_succ]
          have fr2 : w2.frozen? ⟨br, 0, none⟩ = false := row_frozen HT2.out.rr 0
          obtain ⟨ht3, hr3, hk3⟩ := HT2.out.right HR2.out hbg
          have HT3 := Lib.hid ht3; have HR3 := Lib.hid hr3; have HK3 : Hid (Kept (Five m br bn g) wr (w2.setCell ⟨br, 0, none⟩ (.bool true))) := Lib.hid (HK2.out.trans (hk3.mono fun k hk => .inl (.inl (.inr (.inl hk))))); clear ht3 hr3 hk3
          refine wpAnyH_ready (rs := [12]) (by kernel_rfl) (by simp) (AllReadyH.cons rfl (fun K hK => ?_) AllReadyH.nil)
          go_simp
          refine hK.out _ _ HK3.out (fun hHeld => ?_)
          clear hK K
          refine wpAnyH_done (by kernel_rfl) ?_ _
          generalize hw3 : w2.setCell ⟨br, 0, none⟩ (.bool true) = w3 at *
          have cn3 := HT3.out.c_n; have fn3 : w3.frozen? ⟨bn, 0, none⟩ = false := row_frozen HT3.out.rn 0
          obtain ⟨ht4, hr4, hk4'⟩ := HT3.out.count HR3.out hbg
          rw [show ((i + 1 : Nat) : Int) = (i : Int) + 1 by omega] at ht4 hr4 hk4'
          have HT4 := Lib.hid ht4; have HR4 := Lib.hid hr4; have HK4' := Lib.hid (HK.out.trans (HK3.out.trans (hk4'.mono fun k hk => .inl (.inl (.inr (.inr hk)))))); clear ht4 hr4 hk4' hw3 cr2 fr2
          go_wp2
          go_roundw
          case rel => exact ⟨i + 1, r, by omega, by go_num, HT4.out, HR4.out, HLR.out, HK4'.out⟩
          case measure => simp [intOf]; omega
      · rcases q with _ | ⟨n, r⟩
        · have HFL : Hid (∀ s, (s = some [] ∨ s = none) → refT k s = none) := Lib.hid fun s hs => by rcases hs with rfl | rfl; exact refT_fail (by unfold presT; rw [if_neg (by have := HK4.out; omega), if_neg (by have := HK4.out; omega), if_neg (by have := HK4.out; omega)]); exact refT_none k
          go_upto_region 5 with fail
          refine wp_region_held_drew (S := fun w' => Kept (Five m br bn g) wr w') (by kernel_rfl) HKD.out (fun hHeld => ?_)
          refine wpAnyH_take (i := 0) (v := .pointer (some ⟨g, 0, none⟩)) rfl (by kernel_rfl) (by kernel_rfl) (by kernel_rfl) (fun _ _ _ h => h) (Or.inl ⟨by rfl, fun _ _ => rfl⟩) hHeld ?_
          try dsimp only
          try simp only [Act.put, List.getElem_toArray, List.getElem_cons_zero, List.getElem_cons_succ, List.setIfInBounds_toArray, List.set_cons_zero, List.set_cons_succ]
          refine wpAnyH_take (i := 2) (v := .pointer (some ⟨m, 0, none⟩)) rfl (by kernel_rfl) (by kernel_rfl) (by kernel_rfl) (fun _ _ _ h => h) (Or.inl ⟨by rfl, fun w hw => by have hc : w.cell? ⟨bm, 0, none⟩ = some (.pointer (some ⟨m, 0, none⟩)) := (hw.cell (p := ⟨bm, 0, none⟩) HML.out HNM.out).trans HCM.out; go_simp⟩) hHeld ?_
          try dsimp only
          try simp only [Act.put, List.getElem_toArray, List.getElem_cons_zero, List.getElem_cons_succ, List.setIfInBounds_toArray, List.set_cons_zero, List.set_cons_succ]
          refine wpAnyH_ready (rs := [1]) (by kernel_rfl) (by simp) (AllReadyH.cons rfl (fun K hK => ?_) AllReadyH.nil)
          go_simp
          refine (byte_no g _ HRD).mono ?_
          rintro e w1 ⟨rfl, h1, h2⟩
          exact ⟨rfl, tries_fault (q := []) (HMD.out.prog HRD.out h2 hbg) hlt HKI.out (HFL.out _ (.inl rfl)) HOA.out HOS.out h1 (HK.out.trans (HKD.out.trans (h2.mono fun k hk => .inl (.inr hk))))⟩
        · have HLR : Hid (r.length ≤ 500) := Lib.hid (by simp at hq5; omega)
          go_upto_region 5 with fail
          refine wp_region_held_drew (S := fun w' => Kept (Five m br bn g) wr w') (by kernel_rfl) HKD.out (fun hHeld => ?_)
          refine wpAnyH_take (i := 0) (v := .pointer (some ⟨g, 0, none⟩)) rfl (by kernel_rfl) (by kernel_rfl) (by kernel_rfl) (fun _ _ _ h => h) (Or.inl ⟨by rfl, fun _ _ => rfl⟩) hHeld ?_
          try dsimp only
          try simp only [Act.put, List.getElem_toArray, List.getElem_cons_zero, List.getElem_cons_succ, List.setIfInBounds_toArray, List.set_cons_zero, List.set_cons_succ]
          refine wpAnyH_take (i := 2) (v := .pointer (some ⟨m, 0, none⟩)) rfl (by kernel_rfl) (by kernel_rfl) (by kernel_rfl) (fun _ _ _ h => h) (Or.inl ⟨by rfl, fun w hw => by have hc : w.cell? ⟨bm, 0, none⟩ = some (.pointer (some ⟨m, 0, none⟩)) := (hw.cell (p := ⟨bm, 0, none⟩) HML.out HNM.out).trans HCM.out; go_simp⟩) hHeld ?_
          try dsimp only
          try simp only [Act.put, List.getElem_toArray, List.getElem_cons_zero, List.getElem_cons_succ, List.setIfInBounds_toArray, List.set_cons_zero, List.set_cons_succ]
          refine wpAnyH_ready (rs := [1]) (by kernel_rfl) (by simp) (AllReadyH.cons rfl (fun K hK => ?_) AllReadyH.nil)
          go_simp
          refine (byte_yes g n r _ HRD).mono ?_
          rintro e w1 ⟨rfl, h1, h2⟩
          have HR1 := Lib.hid h1; have HT1 := Lib.hid (HMD.out.prog HRD.out h2 hbg); have HK1 : Hid (Kept (Five m br bn g) wr w1) := Lib.hid (HKD.out.trans (h2.mono fun k hk => .inl (.inr hk))); clear h1 h2
          refine hK.out _ _ HK1.out (fun hHeld => ?_)
          clear hK K
          try dsimp only
          try simp only [Act.put, List.getElem_toArray, List.getElem_cons_zero, List.getElem_cons_succ, List.setIfInBounds_toArray, List.set_cons_zero, List.set_cons_succ]
          have HREF := Lib.hid (rbyte_any m C A p (some (n :: r)) w1 (Lib.hid HT1.out.ref))
          have HRS := Lib.hid ((rfl : byteS (some (n :: r)) = (n, some r)))
          rw [HRS.out] at HREF
          refine wpAnyH_ready (rs := [3]) (by kernel_rfl) (by simp) (AllReadyH.cons rfl (fun K hK => ?_) AllReadyH.nil)
          go_simp
          refine (HREF.out).mono ?_
          rintro e w2 hy; obtain ⟨rfl, HR2', HK2'⟩ := hy.at; clear hy
          have HT2 := Lib.hid (HT1.out.doc HR2'.out HK2'.out); have HR2 := Lib.hid (HR1.out.doc HT1.out HK2'.out hbg); have HK2 : Hid (Kept (Five m br bn g) wr w2) := Lib.hid (HK1.out.trans (HK2'.out.mono fun k hk => .inl (.inl (.inl hk)))); clear HR2' HK2' HREF HRS
          refine hK.out _ _ HK2.out (fun hHeld => ?_)
          clear hK K
          try dsimp only
          try simp only [Act.put, List.getElem_toArray, List.getElem_cons_zero, List.getElem_cons_succ, List.setIfInBounds_toArray, List.set_cons_zero, List.set_cons_succ]
          refine wpAnyH_take (i := 4) (v := .bool true) rfl (by kernel_rfl) (by kernel_rfl) (by kernel_rfl) (fun _ _ _ h => h) (yb_bin rfl .eql 5 5 (.tmp 23) (.tmp 25) rfl _ _ _ rfl rfl (fun _ => rfl) (b_equ _ _ _)) hHeld ?_
          try dsimp only
          try simp only [Act.put, List.getElem_toArray, List.getElem_cons_zero, List.getElem_cons_succ, List.setIfInBounds_toArray, List.set_cons_zero, List.set_cons_succ]
          refine wpAnyH_take (i := 5) (v := .bool true) rfl (by kernel_rfl) (by kernel_rfl) (by kernel_rfl) (fun _ _ _ h => h) (Or.inl ⟨by rfl, fun _ _ => rfl⟩) hHeld ?_
          try dsimp only
          try simp only [Act.put, List.getElem_toArray, List.getElem_cons_zero, List.getElem_cons_succ, List.setIfInBounds_toArray, List.set_cons_zero, List.set_cons_succ]
          have cr2 := HT2.out.c_r
          refine wpAnyH_ready (rs := [6]) (by kernel_rfl) (by simp) (AllReadyH.cons rfl (fun K hK => ?_) AllReadyH.nil)
          go_simp
          refine hK.out _ _ HK2.out (fun hHeld => ?_)
          clear hK K
          try dsimp only
          try simp only [Act.put, List.getElem_toArray, List.getElem_cons_zero, List.getElem_cons_succ, List.setIfInBounds_toArray, List.set_cons_zero, List.set_cons_succ]
          refine wpAnyH_take (i := 7) (v := .bool true) rfl (by kernel_rfl) (by kernel_rfl) (by kernel_rfl) (fun _ _ _ h => h) (yb_pick rfl (.tmp 27) (.tmp 28) (.const (.bool false)) rfl true _ rfl rfl) hHeld ?_
          try dsimp only
          try simp only [Act.put, List.getElem_toArray, List.getElem_cons_zero, List.getElem_cons_succ, List.setIfInBounds_toArray, List.set_cons_zero, List.set_cons_succ]
          have fr2 : w2.frozen? ⟨br, 0, none⟩ = false := row_frozen HT2.out.rr 0
          obtain ⟨ht3, hr3, hk3⟩ := HT2.out.right HR2.out hbg
          have HT3 := Lib.hid ht3; have HR3 := Lib.hid hr3; have HK3 : Hid (Kept (Five m br bn g) wr (w2.setCell ⟨br, 0, none⟩ (.bool true))) := Lib.hid (HK2.out.trans (hk3.mono fun k hk => .inl (.inl (.inr (.inl hk))))); clear ht3 hr3 hk3
          refine wpAnyH_ready (rs := [8]) (by kernel_rfl) (by simp) (AllReadyH.cons rfl (fun K hK => ?_) AllReadyH.nil)
          go_simp
          refine hK.out _ _ HK3.out (fun hHeld => ?_)
          clear hK K
          refine wpAnyH_done (by kernel_rfl) ?_ _
          generalize hw3 : w2.setCell ⟨br, 0, none⟩ (.bool true) = w3 at *
          have cn3 := HT3.out.c_n; have fn3 : w3.frozen? ⟨bn, 0, none⟩ = false := row_frozen HT3.out.rn 0
          obtain ⟨ht4, hr4, hk4'⟩ := HT3.out.count HR3.out hbg
          rw [show ((i + 1 : Nat) : Int) = (i : Int) + 1 by omega] at ht4 hr4 hk4'
          have HT4 := Lib.hid ht4; have HR4 := Lib.hid hr4; have HK4' := Lib.hid (HK.out.trans (HK3.out.trans (hk4'.mono fun k hk => .inl (.inl (.inr (.inr hk)))))); clear ht4 hr4 hk4' hw3 cr2 fr2
          go_wp2
          go_roundw
          case rel => exact ⟨i + 1, r, by omega, by go_num, HT4.out, HR4.out, HLR.out, HK4'.out⟩
          case measure => simp [intOf]; omega
    · obtain rfl : i = na := by omega
      have hcc := HT.out.c_c
      cases chk
      · obtain ⟨A1, C1, hR⟩ := HR.out
        have HRA := Lib.hid hR
        clear hR
        go_wp2_with (go_at_call 38; refine (check_false g C1 A1 q _ HRA).mono ?_; rintro e w1 ⟨rfl, h1, h2⟩)
        exact ⟨rfl, (HK.out.trans (h2.mono fun k hk => .inl (.inr hk))), .inr ⟨rfl, h1, ⟨.inr ⟨q, rfl, HT.out.prog HR.out h2 hbg⟩, HOA.out, HOS.out⟩⟩⟩
      · go_wp2_with (go_at_call 38; (with_reducible refine (check_true _ _).mono ?_); rintro e w1 ⟨rfl, rfl⟩)
        exact bodyPost_end (results_none rfl _ _ _) rfl ⟨HK.out, .inl ⟨q, rfl, HR.out, ⟨.inr ⟨q, by simp, HT.out⟩, HOA.out, HOS.out⟩⟩⟩
end Go.Proofs.Ytplmafbdalkopaa
