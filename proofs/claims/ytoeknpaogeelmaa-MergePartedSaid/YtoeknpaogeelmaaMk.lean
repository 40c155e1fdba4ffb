/-
  The law MergeOrder: walked.
-/
import Derived.Test.YtoeknpaogeelmaaMj
set_option linter.unusedSimpArgs false
set_option linter.unusedVariables false
set_option maxRecDepth 8000
namespace Go.Proofs.Ytoeknpaogeelmaa
open Go.RowKit Go.Sort

theorem runs_one {w : World} {a : Option Addr} {Ss : List Sl} (h : RunsIn w a Ss) (h0 : 0 < Ss.length) : ∃ g off, a = some ⟨g, off, none⟩ ∧ g < w.heap.size ∧ ∀ (j : Nat) (s : Sl), Ss[j]? = some s → w.cell? ⟨g, off + j, none⟩ = some (.slice s.A s.l.length s.c) := by
  obtain ⟨g, off, rfl, hg, -⟩ := h.cell 0 (Ss[0]'h0) (List.getElem?_eq_getElem h0)
  refine ⟨g, off, rfl, hg, fun j s hs => ?_⟩
  obtain ⟨g', off', e, -, hc⟩ := h.cell j s hs
  injection e with e; injection e with e1 e2; subst e1; subst e2; exact hc
/-- So far, run by run, and within the i-th up to its k-th event, all is in order. -/
def OrdTo (Ss : List Sl) (i k : Nat) : Prop := (∀ (j : Nat) (s : Sl), j < i → Ss[j]? = some s → ordB ltM s.l = true) ∧ ∀ (s : Sl) (j : Nat) (x y : Ev), Ss[i]? = some s → j + 1 < k → s.l[j]? = some x → s.l[j + 1]? = some y → ltM y x = false
def OM1 (W : World) (Ss : List Sl) (n : Nat) (u v : Value) (wr : World) : Prop := ∃ (i : Nat) (b : Bool), i ≤ n ∧ v = .int .i64 (i : Int) ∧ u = .bool b ∧ (b = true ↔ OrdTo Ss i 1) ∧ Below W.heap.size W wr
def OM2 (W : World) (Ss : List Sl) (i m : Nat) (u v : Value) (wr : World) : Prop := ∃ (k : Nat) (b : Bool), 1 ≤ k ∧ (k ≤ m ∨ k = 1) ∧ v = .int .i64 (k : Int) ∧ u = .bool b ∧ (b = true ↔ OrdTo Ss i k) ∧ Below W.heap.size W wr
theorem ordTo_next {Ss : List Sl} {i k : Nat} {s : Sl} (hs : Ss[i]? = some s) (hk : s.l.length ≤ k) : OrdTo Ss i k ↔ OrdTo Ss (i + 1) 1 := by
  constructor
  · rintro ⟨h1, h2⟩
    refine ⟨fun j s2 hj hs2 => ?_, fun s2 j x y _ h => by omega⟩
    by_cases e : j = i
    · subst e; rw [hs] at hs2; injection hs2 with hs2; subst hs2
      exact ordB_of fun a x y g1 g2 => h2 s a x y hs (by have := (List.getElem?_eq_some_iff.1 g2).1; omega) g1 g2
    · exact h1 j s2 (by omega) hs2
  · rintro ⟨h1, h2⟩
    refine ⟨fun j s2 hj hs2 => h1 j s2 (by omega) hs2, fun s2 j x y hs2 hj g1 g2 => ?_⟩
    rw [hs] at hs2; injection hs2 with hs2; subst hs2
    exact ordB_get (h1 i s (by omega) hs) j x y g1 g2
theorem ordTo_step {Ss : List Sl} {i k j : Nat} {s : Sl} {x y : Ev} (hs : Ss[i]? = some s) (hj : k = j + 1) (hx : s.l[j]? = some x) (hy : s.l[k]? = some y) : OrdTo Ss i (k + 1) ↔ OrdTo Ss i k ∧ ltM y x = false := by
  subst hj
  constructor
  · rintro ⟨h1, h2⟩
    exact ⟨⟨h1, fun s2 j2 x2 y2 g1 g2 g3 g4 => h2 s2 j2 x2 y2 g1 (by omega) g3 g4⟩, h2 s j x y hs (by omega) hx hy⟩
  · rintro ⟨⟨h1, h2⟩, h3⟩
    refine ⟨h1, fun s2 j2 x2 y2 g1 g2 g3 g4 => ?_⟩
    by_cases e : j2 = j
    · subst e; rw [hs] at g1; injection g1 with g1; subst g1
      rw [hx] at g3; injection g3 with g3; subst g3
      rw [hy] at g4; injection g4 with g4; subst g4
      exact h3
    · exact h2 s2 j2 x2 y2 g1 (by omega) g3 g4
theorem ordTo_all {Ss : List Sl} {n : Nat} (hn : n = Ss.length) : OrdTo Ss n 1 ↔ (slL Ss).all (ordB ltM) = true := by
  rw [List.all_eq_true]
  constructor
  · rintro ⟨h1, -⟩ l hl
    obtain ⟨s, hs, rfl⟩ := List.mem_map.1 hl
    obtain ⟨j, hj⟩ := List.getElem?_of_mem hs
    exact h1 j s (by have := (List.getElem?_eq_some_iff.1 hj).1; omega) hj
  · intro h
    exact ⟨fun j s hj hs => h s.l (List.mem_map.2 ⟨s, List.mem_of_getElem? hs, rfl⟩), fun s j x y _ h => by omega⟩
def NewVal (W : World) (b : Bool) (e : Ending) (w' : World) : Prop := (∃ v : Value, e = .returned (.tuple #[v, .int .i64 (if b = true then 0 else 7)])) ∧ Below W.heap.size W w'
set_option maxHeartbeats 16000000 in
theorem mergeOrder_any (a : Option Addr) (n c : Nat) (Ss : List Sl) (hn : Hid (n = Ss.length)) (hnc : n ≤ c) (hcm : c ≤ maxLen) (W : World) (HR : Hid (RunsIn W a Ss)) :
    Calls Try.prog 4 #[.slice a n c] W fun e w' => e = .returned (.bool true) ∧ Below W.heap.size W w' := by
  have HFEW := Lib.hid fun (w : World) (hb : Below W.heap.size W w) => few_any a n c Ss hn hnc hcm w (Lib.hid (HR.out.keep hb))
  by_cases hrange : 1 ≤ n ∧ n ≤ 16
  · obtain ⟨hn1, hn16⟩ := hrange
    have h1i : ¬ (n : Int) < 1 := by omega
    have h16i : ¬ (16 : Int) < (n : Int) := by omega
    obtain ⟨g, off, ha, hg, hcells⟩ := runs_one HR.out (by have := hn.out; omega)
    subst ha
    have HG0 := Lib.hid hg; have HCELLS := Lib.hid hcells
    clear hg hcells
    go_enter Try.func4, Try.ntmps4
    go_wp2_with (go_at_call 7; refine (mawake_any _).mono ?_; rintro e w1 ⟨rfl, hb⟩; have HB1 := Lib.hid hb; clear hb)
    refine (HFEW.out _ HB1.out).mono ?_
    rintro e w2 ⟨b, rfl, hf, rfl⟩
    cases b
    · clear hf
      go_wp2_with (go_at_call 7; refine (mawake_any _).mono ?_; rintro e w3 ⟨rfl, hb⟩; have HB3 := Lib.hid (bto HB1.out hb); clear hb)
      go_ret
      exact ⟨rfl, HB3.out⟩
    · have hfew := hf rfl
      have HFE := Lib.hid hfew
      have HRA := Lib.hid fun (w : World) (hb : Below W.heap.size W w) => ((HR.out.keep hb).to fun s hs => by have := hfew.each s hs; omega)
      clear hf hfew
      go_wp2
      go_loopw [3, 4] (fun u v wr => OM1 W Ss n u v wr) (fun _ v _ => n - (intOf v).toNat)
      case atStart => exact ⟨0, true, Nat.zero_le _, rfl, rfl, ⟨fun _ => ⟨fun j s h => by omega, fun s j x y _ h => by omega⟩, fun _ => rfl⟩, HB1.out⟩
      case round =>
        obtain ⟨i, b, hi, rfl, rfl, hob, hb⟩ := hrel
        have HOB := Lib.hid hob; have HB := Lib.hid hb
        clear hob hb
        by_cases hin : i < n
        · obtain ⟨s, hs⟩ : ∃ s, Ss[i]? = some s := ⟨_, List.getElem?_eq_getElem (by have := hn.out; omega)⟩
          obtain ⟨m, hm⟩ : ∃ m, m = s.l.length := ⟨_, rfl⟩
          obtain ⟨A, hA⟩ : ∃ A, A = s.A := ⟨_, rfl⟩
          obtain ⟨sc, hsc⟩ : ∃ sc, sc = s.c := ⟨_, rfl⟩
          have hcw := HCELLS.out i s hs
          rw [← hm, ← hA, ← hsc] at hcw
          have HCW := Lib.hid hcw
          have HS := Lib.hid hs; have HM := Lib.hid hm
          have HEV : Hid (EvAt W A s.l) := Lib.hid (by rw [hA]; exact (HR.out.ok s (List.mem_of_getElem? hs)).at')
          have hm100 : m ≤ 100 := by rw [hm]; exact HFE.out.each s (List.mem_of_getElem? hs)
          have hii : (i : Int) < (n : Int) := by omega
          clear hs hm hA hsc hcw
          obtain ⟨w0, hw0⟩ : ∃ w0, w0 = wr := ⟨wr, rfl⟩
          subst hw0
          go_wp2
          go_loopw [3, 5] (fun u v wk => OM2 W Ss i m u v wk) (fun _ v _ => m - (intOf v).toNat)
          case atStart => exact ⟨1, b, Nat.le_refl _, .inr rfl, rfl, rfl, HOB.out, HB.out⟩
          case round =>
            obtain ⟨k, b2, hk1, hk2, rfl, rfl, hob2, hb2⟩ := hrel
            have HOB2 := Lib.hid hob2; have HB2 := Lib.hid hb2
            clear hob2 hb2
            have HCI : Hid (wr.cell? ⟨g, off + i, none⟩ = some (.slice A m sc)) := Lib.hid ((HB2.out.cell (p := ⟨g, off + i, none⟩) HG0.out).trans HCW.out)
            have HG : Hid (g < wr.heap.size) := Lib.hid (by have := HG0.out; have := HB2.out.size; omega)
            have hci := HCI.out
            by_cases hkm : k < m
            · obtain ⟨j, hj⟩ : ∃ j, k = j + 1 := ⟨k - 1, by omega⟩
              have hll := HM.out
              obtain ⟨x, hx⟩ : ∃ x, s.l[j]? = some x := ⟨_, List.getElem?_eq_getElem (by omega)⟩
              obtain ⟨y, hy⟩ : ∃ y, s.l[k]? = some y := ⟨_, List.getElem?_eq_getElem (by omega)⟩
              obtain ⟨g2, o2, rfl, hg2, hrx⟩ := evr HEV.out j x hx
              obtain ⟨g', off', e, hg', hry⟩ := evr HEV.out k y hy
              injection e with e; injection e with e1 e2; subst e1; subst e2
              have HRX : Hid (∀ w2, Below wr.heap.size wr w2 → w2.rangeAt g2 (o2 + j * 5) x.cells) := Lib.hid fun w2 h => rkeep hrx hg2 (bto HB2.out h)
              have HRY : Hid (∀ w2, Below wr.heap.size wr w2 → w2.rangeAt g2 (o2 + k * 5) y.cells) := Lib.hid fun w2 h => rkeep hry hg2 (bto HB2.out h)
              obtain ⟨yx, hyx⟩ : ∃ yx, lessB y x = yx := ⟨_, rfl⟩
              have HYX := Lib.hid hyx
              have HST := Lib.hid (ordTo_step HS.out hj hx hy)
              have hki : (k : Int) < (m : Int) := by omega
              have hji : (k : Int) - 1 = (j : Int) := by omega
              have hjn : (j : Int) < (m : Int) := by omega
              have hjw : IntKind.i64.wrap (j : Int) = (j : Int) := by rw [IntKind.wrap_i64]; omega
              clear hx hy hrx hry hg2 hg' hyx hj hll
              cases b2
              · go_upto_region 10 with fail
                have hh0 : Below wr.heap.size wr wr.drew := (Below.refl _ _).drew
                refine wp_region_held_drew (S := fun w2 => Below wr.heap.size wr w2) (by kernel_rfl) hh0 (fun hHeld => ?_)
                refine wpAnyH_take (i := 0) (v := .bool false) rfl (by kernel_rfl) (by kernel_rfl) (by kernel_rfl) (fun _ _ _ h => h) (Or.inl ⟨by rfl, fun _ _ => rfl⟩) hHeld ?_
                try dsimp only
                try simp only [Act.put, List.getElem_toArray, List.getElem_cons_zero, List.getElem_cons_succ, List.setIfInBounds_toArray, List.set_cons_zero, List.set_cons_succ]
                refine wpAnyH_take (i := 1) (v := .bool false) rfl (by kernel_rfl) (by kernel_rfl) (by kernel_rfl) (fun _ _ _ h => h) (Or.inl ⟨by rfl, fun _ _ => rfl⟩) hHeld ?_
                try dsimp only
                try simp only [Act.put, List.getElem_toArray, List.getElem_cons_zero, List.getElem_cons_succ, List.setIfInBounds_toArray, List.set_cons_zero, List.set_cons_succ]
                refine wpAnyH_take (i := 2) (v := undef) rfl (by kernel_rfl) (by kernel_rfl) (by kernel_rfl) (fun _ _ _ h => h) (Or.inr ⟨by rfl, rfl⟩) hHeld ?_
                try dsimp only
                try simp only [Act.put, List.getElem_toArray, List.getElem_cons_zero, List.getElem_cons_succ, List.setIfInBounds_toArray, List.set_cons_zero, List.set_cons_succ]
                refine wpAnyH_take (i := 3) (v := undef) rfl (by kernel_rfl) (by kernel_rfl) (by kernel_rfl) (fun _ _ _ h => h) (Or.inr ⟨by rfl, rfl⟩) hHeld ?_
                try dsimp only
                try simp only [Act.put, List.getElem_toArray, List.getElem_cons_zero, List.getElem_cons_succ, List.setIfInBounds_toArray, List.set_cons_zero, List.set_cons_succ]
                refine wpAnyH_take (i := 4) (v := undef) rfl (by kernel_rfl) (by kernel_rfl) (by kernel_rfl) (fun _ _ _ h => h) (Or.inr ⟨by rfl, rfl⟩) hHeld ?_
                try dsimp only
                try simp only [Act.put, List.getElem_toArray, List.getElem_cons_zero, List.getElem_cons_succ, List.setIfInBounds_toArray, List.set_cons_zero, List.set_cons_succ]
                refine wpAnyH_take (i := 5) (v := undef) rfl (by kernel_rfl) (by kernel_rfl) (by kernel_rfl) (fun _ _ _ h => h) (Or.inr ⟨by rfl, rfl⟩) hHeld ?_
                try dsimp only
                try simp only [Act.put, List.getElem_toArray, List.getElem_cons_zero, List.getElem_cons_succ, List.setIfInBounds_toArray, List.set_cons_zero, List.set_cons_succ]
                refine wpAnyH_take (i := 6) (v := undef) rfl (by kernel_rfl) (by kernel_rfl) (by kernel_rfl) (fun _ _ _ h => h) (Or.inr ⟨by rfl, rfl⟩) hHeld ?_
                try dsimp only
                try simp only [Act.put, List.getElem_toArray, List.getElem_cons_zero, List.getElem_cons_succ, List.setIfInBounds_toArray, List.set_cons_zero, List.set_cons_succ]
                refine wpAnyH_take (i := 7) (v := undef) rfl (by kernel_rfl) (by kernel_rfl) (by kernel_rfl) (fun _ _ _ h => h) (Or.inr ⟨by rfl, rfl⟩) hHeld ?_
                try dsimp only
                try simp only [Act.put, List.getElem_toArray, List.getElem_cons_zero, List.getElem_cons_succ, List.setIfInBounds_toArray, List.set_cons_zero, List.set_cons_succ]
                refine wpAnyH_take (i := 8) (v := undef) rfl (by kernel_rfl) (by kernel_rfl) (by kernel_rfl) (fun _ _ _ h => h) (Or.inr ⟨by rfl, rfl⟩) hHeld ?_
                try dsimp only
                try simp only [Act.put, List.getElem_toArray, List.getElem_cons_zero, List.getElem_cons_succ, List.setIfInBounds_toArray, List.set_cons_zero, List.set_cons_succ]
                refine wpAnyH_take (i := 9) (v := undef) rfl (by kernel_rfl) (by kernel_rfl) (by kernel_rfl) (fun _ _ _ h => h) (Or.inr ⟨by rfl, rfl⟩) hHeld ?_
                try dsimp only
                try simp only [Act.put, List.getElem_toArray, List.getElem_cons_zero, List.getElem_cons_succ, List.setIfInBounds_toArray, List.set_cons_zero, List.set_cons_succ]
                refine wpAnyH_take (i := 10) (v := undef) rfl (by kernel_rfl) (by kernel_rfl) (by kernel_rfl) (fun _ _ _ h => h) (Or.inr ⟨by rfl, rfl⟩) hHeld ?_
                try dsimp only
                try simp only [Act.put, List.getElem_toArray, List.getElem_cons_zero, List.getElem_cons_succ, List.setIfInBounds_toArray, List.set_cons_zero, List.set_cons_succ]
                refine wpAnyH_take (i := 11) (v := undef) rfl (by kernel_rfl) (by kernel_rfl) (by kernel_rfl) (fun _ _ _ h => h) (Or.inr ⟨by rfl, rfl⟩) hHeld ?_
                try dsimp only
                try simp only [Act.put, List.getElem_toArray, List.getElem_cons_zero, List.getElem_cons_succ, List.setIfInBounds_toArray, List.set_cons_zero, List.set_cons_succ]
                refine wpAnyH_take (i := 12) (v := undef) rfl (by kernel_rfl) (by kernel_rfl) (by kernel_rfl) (fun _ _ _ h => h) (Or.inr ⟨by rfl, rfl⟩) hHeld ?_
                try dsimp only
                try simp only [Act.put, List.getElem_toArray, List.getElem_cons_zero, List.getElem_cons_succ, List.setIfInBounds_toArray, List.set_cons_zero, List.set_cons_succ]
                refine wpAnyH_take (i := 13) (v := undef) rfl (by kernel_rfl) (by kernel_rfl) (by kernel_rfl) (fun _ _ _ h => h) (Or.inr ⟨by rfl, rfl⟩) hHeld ?_
                try dsimp only
                try simp only [Act.put, List.getElem_toArray, List.getElem_cons_zero, List.getElem_cons_succ, List.setIfInBounds_toArray, List.set_cons_zero, List.set_cons_succ]
                refine wpAnyH_take (i := 14) (v := undef) rfl (by kernel_rfl) (by kernel_rfl) (by kernel_rfl) (fun _ _ _ h => h) (Or.inr ⟨by rfl, rfl⟩) hHeld ?_
                try dsimp only
                try simp only [Act.put, List.getElem_toArray, List.getElem_cons_zero, List.getElem_cons_succ, List.setIfInBounds_toArray, List.set_cons_zero, List.set_cons_succ]
                refine wpAnyH_take (i := 15) (v := undef) rfl (by kernel_rfl) (by kernel_rfl) (by kernel_rfl) (fun _ _ _ h => h) (Or.inr ⟨by rfl, rfl⟩) hHeld ?_
                try dsimp only
                try simp only [Act.put, List.getElem_toArray, List.getElem_cons_zero, List.getElem_cons_succ, List.setIfInBounds_toArray, List.set_cons_zero, List.set_cons_succ]
                refine wpAnyH_take (i := 16) (v := undef) rfl (by kernel_rfl) (by kernel_rfl) (by kernel_rfl) (fun _ _ _ h => h) (Or.inr ⟨by rfl, rfl⟩) hHeld ?_
                try dsimp only
                try simp only [Act.put, List.getElem_toArray, List.getElem_cons_zero, List.getElem_cons_succ, List.setIfInBounds_toArray, List.set_cons_zero, List.set_cons_succ]
                refine wpAnyH_take (i := 17) (v := undef) rfl (by kernel_rfl) (by kernel_rfl) (by kernel_rfl) (fun _ _ _ h => h) (Or.inr ⟨by rfl, rfl⟩) hHeld ?_
                try dsimp only
                try simp only [Act.put, List.getElem_toArray, List.getElem_cons_zero, List.getElem_cons_succ, List.setIfInBounds_toArray, List.set_cons_zero, List.set_cons_succ]
                refine wpAnyH_take (i := 18) (v := undef) rfl (by kernel_rfl) (by kernel_rfl) (by kernel_rfl) (fun _ _ _ h => h) (Or.inr ⟨by rfl, rfl⟩) hHeld ?_
                try dsimp only
                try simp only [Act.put, List.getElem_toArray, List.getElem_cons_zero, List.getElem_cons_succ, List.setIfInBounds_toArray, List.set_cons_zero, List.set_cons_succ]
                refine wpAnyH_take (i := 19) (v := .bool false) rfl (by kernel_rfl) (by kernel_rfl) (by kernel_rfl) (fun _ _ _ h => h) (Or.inl ⟨by rfl, fun w _ => by go_simp⟩) hHeld ?_
                try dsimp only
                try simp only [Act.put, List.getElem_toArray, List.getElem_cons_zero, List.getElem_cons_succ, List.setIfInBounds_toArray, List.set_cons_zero, List.set_cons_succ]
                refine wpAnyH_ready (rs := [20]) (by kernel_rfl) (by simp) (AllReadyH.cons rfl (fun K hK => ?_) AllReadyH.nil)
                go_simp
                refine hK.out _ _ hHeld (fun hHeld => ?_)
                clear hK K
                refine wpAnyH_done (by kernel_rfl) ?_ _
                have HB9 := Lib.hid (bto HB2.out hHeld)
                clear hHeld hh0 hci
                go_wp2
                go_roundw
                case rel => exact ⟨k + 1, false, by omega, .inl (by omega), by go_num, rfl, ⟨fun h => (by cases h), fun h => HOB2.out.2 (HST.out.1 h).1⟩, HB9.out⟩
                case measure => simp [intOf]; omega
              · go_upto_region 10 with fail
                have hh0 : Below wr.heap.size wr wr.drew := (Below.refl _ _).drew
                refine wp_region_held_drew (S := fun w2 => Below wr.heap.size wr w2) (by kernel_rfl) hh0 (fun hHeld => ?_)
                refine wpAnyH_take (i := 0) (v := .bool true) rfl (by kernel_rfl) (by kernel_rfl) (by kernel_rfl) (fun _ _ _ h => h) (Or.inl ⟨by rfl, fun _ _ => rfl⟩) hHeld ?_
                try dsimp only
                try simp only [Act.put, List.getElem_toArray, List.getElem_cons_zero, List.getElem_cons_succ, List.setIfInBounds_toArray, List.set_cons_zero, List.set_cons_succ]
                refine wpAnyH_take (i := 1) (v := .bool true) rfl (by kernel_rfl) (by kernel_rfl) (by kernel_rfl) (fun _ _ _ h => h) (Or.inl ⟨by rfl, fun _ _ => rfl⟩) hHeld ?_
                try dsimp only
                try simp only [Act.put, List.getElem_toArray, List.getElem_cons_zero, List.getElem_cons_succ, List.setIfInBounds_toArray, List.set_cons_zero, List.set_cons_succ]
                refine wpAnyH_take (i := 2) (v := .slice (some ⟨g, off, none⟩) n c) rfl (by kernel_rfl) (by kernel_rfl) (by kernel_rfl) (fun _ _ _ h => h) (Or.inl ⟨by rfl, fun _ _ => rfl⟩) hHeld ?_
                try dsimp only
                try simp only [Act.put, List.getElem_toArray, List.getElem_cons_zero, List.getElem_cons_succ, List.setIfInBounds_toArray, List.set_cons_zero, List.set_cons_succ]
                refine wpAnyH_take (i := 3) (v := .int .i64 (i : Int)) rfl (by kernel_rfl) (by kernel_rfl) (by kernel_rfl) (fun _ _ _ h => h) (Or.inl ⟨by rfl, fun _ _ => rfl⟩) hHeld ?_
                try dsimp only
                try simp only [Act.put, List.getElem_toArray, List.getElem_cons_zero, List.getElem_cons_succ, List.setIfInBounds_toArray, List.set_cons_zero, List.set_cons_succ]
                refine wpAnyH_take (i := 4) (v := .pointer (some ⟨g, off + i, none⟩)) rfl (by kernel_rfl) (by kernel_rfl) (by kernel_rfl) (fun _ _ _ h => h) (Or.inl ⟨by rfl, fun w _ => by go_simp⟩) hHeld ?_
                try dsimp only
                try simp only [Act.put, List.getElem_toArray, List.getElem_cons_zero, List.getElem_cons_succ, List.setIfInBounds_toArray, List.set_cons_zero, List.set_cons_succ]
                refine wpAnyH_take (i := 5) (v := .slice (some ⟨g2, o2, none⟩) m sc) rfl (by kernel_rfl) (by kernel_rfl) (by kernel_rfl) (fun _ _ _ h => h) (Or.inl ⟨by rfl, fun w hw => by have hc : w.cell? ⟨g, off + i, none⟩ = some (.slice (some ⟨g2, o2, none⟩) m sc) := (hw.cell (p := ⟨g, off + i, none⟩) HG.out).trans HCI.out; go_simp⟩) hHeld ?_
                try dsimp only
                try simp only [Act.put, List.getElem_toArray, List.getElem_cons_zero, List.getElem_cons_succ, List.setIfInBounds_toArray, List.set_cons_zero, List.set_cons_succ]
                refine wpAnyH_take (i := 6) (v := .int .i64 (k : Int)) rfl (by kernel_rfl) (by kernel_rfl) (by kernel_rfl) (fun _ _ _ h => h) (Or.inl ⟨by rfl, fun _ _ => rfl⟩) hHeld ?_
                try dsimp only
                try simp only [Act.put, List.getElem_toArray, List.getElem_cons_zero, List.getElem_cons_succ, List.setIfInBounds_toArray, List.set_cons_zero, List.set_cons_succ]
                refine wpAnyH_take (i := 7) (v := .pointer (some ⟨g2, o2 + k * 5, none⟩)) rfl (by kernel_rfl) (by kernel_rfl) (by kernel_rfl) (fun _ _ _ h => h) (Or.inl ⟨by rfl, fun w _ => by go_simp⟩) hHeld ?_
                try dsimp only
                try simp only [Act.put, List.getElem_toArray, List.getElem_cons_zero, List.getElem_cons_succ, List.setIfInBounds_toArray, List.set_cons_zero, List.set_cons_succ]
                refine wpAnyH_take (i := 8) (v := .agg y.cells.toArray) rfl (by kernel_rfl) (by kernel_rfl) (by kernel_rfl) (fun _ _ _ h => h) (yieldsIf_load_mid rfl 38 (.tmp 50) rfl g2 (o2 + k * 5) rfl y.cells _ (fun w hw => HRY.out w hw) uEvent rfl (iEvent y)) hHeld ?_
                try dsimp only
                try simp only [Act.put, List.getElem_toArray, List.getElem_cons_zero, List.getElem_cons_succ, List.setIfInBounds_toArray, List.set_cons_zero, List.set_cons_succ]
                refine wpAnyH_take (i := 9) (v := .slice (some ⟨g, off, none⟩) n c) rfl (by kernel_rfl) (by kernel_rfl) (by kernel_rfl) (fun _ _ _ h => h) (Or.inl ⟨by rfl, fun _ _ => rfl⟩) hHeld ?_
                try dsimp only
                try simp only [Act.put, List.getElem_toArray, List.getElem_cons_zero, List.getElem_cons_succ, List.setIfInBounds_toArray, List.set_cons_zero, List.set_cons_succ]
                refine wpAnyH_take (i := 10) (v := .int .i64 (i : Int)) rfl (by kernel_rfl) (by kernel_rfl) (by kernel_rfl) (fun _ _ _ h => h) (Or.inl ⟨by rfl, fun _ _ => rfl⟩) hHeld ?_
                try dsimp only
                try simp only [Act.put, List.getElem_toArray, List.getElem_cons_zero, List.getElem_cons_succ, List.setIfInBounds_toArray, List.set_cons_zero, List.set_cons_succ]
                refine wpAnyH_take (i := 11) (v := .pointer (some ⟨g, off + i, none⟩)) rfl (by kernel_rfl) (by kernel_rfl) (by kernel_rfl) (fun _ _ _ h => h) (Or.inl ⟨by rfl, fun w _ => by go_simp⟩) hHeld ?_
                try dsimp only
                try simp only [Act.put, List.getElem_toArray, List.getElem_cons_zero, List.getElem_cons_succ, List.setIfInBounds_toArray, List.set_cons_zero, List.set_cons_succ]
                refine wpAnyH_take (i := 12) (v := .slice (some ⟨g2, o2, none⟩) m sc) rfl (by kernel_rfl) (by kernel_rfl) (by kernel_rfl) (fun _ _ _ h => h) (Or.inl ⟨by rfl, fun w hw => by have hc : w.cell? ⟨g, off + i, none⟩ = some (.slice (some ⟨g2, o2, none⟩) m sc) := (hw.cell (p := ⟨g, off + i, none⟩) HG.out).trans HCI.out; go_simp⟩) hHeld ?_
                try dsimp only
                try simp only [Act.put, List.getElem_toArray, List.getElem_cons_zero, List.getElem_cons_succ, List.setIfInBounds_toArray, List.set_cons_zero, List.set_cons_succ]
                refine wpAnyH_take (i := 13) (v := .int .i64 (k : Int)) rfl (by kernel_rfl) (by kernel_rfl) (by kernel_rfl) (fun _ _ _ h => h) (Or.inl ⟨by rfl, fun _ _ => rfl⟩) hHeld ?_
                try dsimp only
                try simp only [Act.put, List.getElem_toArray, List.getElem_cons_zero, List.getElem_cons_succ, List.setIfInBounds_toArray, List.set_cons_zero, List.set_cons_succ]
                refine wpAnyH_take (i := 14) (v := .int .i64 (j : Int)) rfl (by kernel_rfl) (by kernel_rfl) (by kernel_rfl) (fun _ _ _ h => h) (Or.inl ⟨by rfl, fun w _ => by go_simp; try omega⟩) hHeld ?_
                try dsimp only
                try simp only [Act.put, List.getElem_toArray, List.getElem_cons_zero, List.getElem_cons_succ, List.setIfInBounds_toArray, List.set_cons_zero, List.set_cons_succ]
                refine wpAnyH_take (i := 15) (v := .pointer (some ⟨g2, o2 + j * 5, none⟩)) rfl (by kernel_rfl) (by kernel_rfl) (by kernel_rfl) (fun _ _ _ h => h) (Or.inl ⟨by rfl, fun w _ => by go_simp; try omega⟩) hHeld ?_
                try dsimp only
                try simp only [Act.put, List.getElem_toArray, List.getElem_cons_zero, List.getElem_cons_succ, List.setIfInBounds_toArray, List.set_cons_zero, List.set_cons_succ]
                refine wpAnyH_take (i := 16) (v := .agg x.cells.toArray) rfl (by kernel_rfl) (by kernel_rfl) (by kernel_rfl) (fun _ _ _ h => h) (yieldsIf_load_mid rfl 38 (.tmp 58) rfl g2 (o2 + j * 5) rfl x.cells _ (fun w hw => HRX.out w hw) uEvent rfl (iEvent x)) hHeld ?_
                try dsimp only
                try simp only [Act.put, List.getElem_toArray, List.getElem_cons_zero, List.getElem_cons_succ, List.setIfInBounds_toArray, List.set_cons_zero, List.set_cons_succ]
                refine wpAnyH_ready (rs := [17]) (by kernel_rfl) (by simp) (AllReadyH.cons rfl (fun K hK => ?_) AllReadyH.nil)
                rw [if_pos (by rfl)]
                go_simp
                refine (evBefore_any y x _).mono ?_
                rintro e w9 ⟨rfl, hg9⟩
                have hb9 := hg9.below
                rw [HYX.out]
                refine hK.out _ _ (bto hHeld hb9) (fun hHeld => ?_)
                clear hK K
                try dsimp only
                try simp only [Act.put, List.getElem_toArray, List.getElem_cons_zero, List.getElem_cons_succ, List.setIfInBounds_toArray, List.set_cons_zero, List.set_cons_succ]
                refine wpAnyH_ready (rs := [18]) (by kernel_rfl) (by simp) (AllReadyH.cons rfl (fun K hK => ?_) AllReadyH.nil)
                go_simp
                refine hK.out _ _ hHeld (fun hHeld => ?_)
                clear hK K
                try dsimp only
                try simp only [Act.put, List.getElem_toArray, List.getElem_cons_zero, List.getElem_cons_succ, List.setIfInBounds_toArray, List.set_cons_zero, List.set_cons_succ]
                refine wpAnyH_ready (rs := [19]) (by kernel_rfl) (by simp) (AllReadyH.cons rfl (fun K hK => ?_) AllReadyH.nil)
                go_simp
                refine hK.out _ _ hHeld (fun hHeld => ?_)
                clear hK K
                try dsimp only
                try simp only [Act.put, List.getElem_toArray, List.getElem_cons_zero, List.getElem_cons_succ, List.setIfInBounds_toArray, List.set_cons_zero, List.set_cons_succ]
                refine wpAnyH_ready (rs := [20]) (by kernel_rfl) (by simp) (AllReadyH.cons rfl (fun K hK => ?_) AllReadyH.nil)
                go_simp
                refine hK.out _ _ hHeld (fun hHeld => ?_)
                clear hK K
                refine wpAnyH_done (by kernel_rfl) ?_ _
                have HB9 := Lib.hid (bto HB2.out hHeld)
                clear hHeld hh0 hci
                go_wp2
                go_roundw
                case rel => exact ⟨k + 1, !yx, by omega, .inl (by omega), by go_num, rfl, ⟨fun h => HST.out.2 ⟨HOB2.out.1 rfl, by rw [ltM_less, HYX.out]; simpa using h⟩, fun h => by have := (HST.out.1 h).2; rw [ltM_less, HYX.out] at this; rw [this]; rfl⟩, HB9.out⟩
                case measure => simp [intOf]; omega
            · have HNX := Lib.hid (ordTo_next (k := k) HS.out (by have := HM.out; omega))
              go_wp2
              go_roundw
              case rel => exact ⟨i + 1, b2, by omega, by go_num, rfl, HOB2.out.trans HNX.out, HB2.out⟩
              case measure => simp [intOf]; omega
        · obtain rfl : i = n := by omega
          have hbb : b = (slL Ss).all (ordB ltM) := by
            have h := HOB.out.trans (ordTo_all hn.out)
            rcases b with _ | _ <;> rcases h2 : (slL Ss).all (ordB ltM) with _ | _
            · rfl
            · rw [h2] at h; exact absurd (h.2 rfl) (by decide)
            · rw [h2] at h; exact absurd (h.1 rfl) (by decide)
            · rfl
          have HNEW : Hid (Calls Try.prog 10 #[.slice (some ⟨g, off, none⟩) i c] wr (NewVal wr b)) := Lib.hid ((new_any g off i c Ss hn hn1 hn16 hnc hcm wr (Lib.hid (HRA.out wr HB.out))).mono fun e w' h => by
            unfold NewEnds at h
            rw [← hbb] at h
            rcases b with _ | _
            · rw [if_neg (by decide)] at h; exact ⟨⟨_, h.1⟩, h.2⟩
            · rw [if_pos rfl] at h; obtain ⟨t, rb, lb, cr, cl, win, L, V, h1, -, -, -, h2⟩ := h; exact ⟨⟨_, h1⟩, h2⟩)
          have HALL : Hid (∀ w, Below W.heap.size W w → Calls Try.prog 11 #[.slice (some ⟨g, off, none⟩) i c] w (NewVal w b)) := Lib.hid fun w hb => (all_any g off i c Ss hn hn1 hn16 hnc hcm (Lib.hid (by have := HFE.out.all; omega)) w (Lib.hid (HRA.out w hb))).mono fun e w' h => by
            unfold AllEnds at h
            rw [← hbb] at h
            rcases b with _ | _
            · rw [if_neg (by decide)] at h; exact ⟨⟨_, h.1⟩, h.2⟩
            · rw [if_pos rfl] at h; obtain ⟨A, N, cap, h1, -, -, -, -, -, h2⟩ := h; exact ⟨⟨_, h1⟩, h2⟩
          clear hbb HOB
          cases b
          all_goals
            go_wp2_with (first
              | (go_at_call 10; (with_reducible refine (HNEW.out).mono ?_); rintro e w2 ⟨⟨v2, rfl⟩, hb⟩; have HB2 := Lib.hid (bto HB.out hb); clear hb; try simp only [if_true, if_false, Bool.false_eq_true])
              | (go_at_call 11; refine (HALL.out _ HB2.out).mono ?_; rintro e w3 ⟨⟨v3, rfl⟩, hb⟩; have HB3 := Lib.hid (bto HB2.out hb); clear hb; try simp only [if_true, if_false, Bool.false_eq_true]))
            go_ret
            exact ⟨rfl, HB3.out⟩
  · have hrg : n < 1 ∨ 16 < n := by omega
    clear hrange
    go_enter Try.func4, Try.ntmps4
    go_wp2_with (go_at_call 7; refine (mawake_any _).mono ?_; rintro e w1 ⟨rfl, hb⟩; have HB1 := Lib.hid hb; clear hb)
    refine (HFEW.out _ HB1.out).mono ?_
    rintro e w2 ⟨b, rfl, hf, rfl⟩
    clear hf
    cases b
    · go_wp2_with (go_at_call 7; refine (mawake_any _).mono ?_; rintro e w3 ⟨rfl, hb⟩; have HB3 := Lib.hid (bto HB1.out hb); clear hb)
      go_ret
      exact ⟨rfl, HB3.out⟩
    · rcases hrg with h | h
      · have h1i : (n : Int) < 1 := by omega
        go_wp2_with (go_at_call 7; refine (mawake_any _).mono ?_; rintro e w3 ⟨rfl, hb⟩; have HB3 := Lib.hid (bto HB1.out hb); clear hb)
        go_ret
        exact ⟨rfl, HB3.out⟩
      · have h1i : ¬ (n : Int) < 1 := by omega
        have h16i : (16 : Int) < (n : Int) := by omega
        go_wp2_with (go_at_call 7; refine (mawake_any _).mono ?_; rintro e w3 ⟨rfl, hb⟩; have HB3 := Lib.hid (bto HB1.out hb); clear hb)
        go_ret
        exact ⟨rfl, HB3.out⟩
theorem mergeOrder_all (a : Option Addr) (n c : Nat) (Ss : List Sl) (hn : Hid (n = Ss.length)) (hnc : n ≤ c) (hcm : c ≤ maxLen) (_hv : Hid (∀ s ∈ Ss, ∀ x ∈ s.l, x.val < 18446744073709551616)) (W : World) (HR : Hid (RunsIn W a Ss)) :
    Calls Try.prog 4 #[.slice a n c] W fun e w' => e = .returned (.bool true) ∧ Below W.heap.size W w' := mergeOrder_any a n c Ss hn hnc hcm W HR
end Go.Proofs.Ytoeknpaogeelmaa
