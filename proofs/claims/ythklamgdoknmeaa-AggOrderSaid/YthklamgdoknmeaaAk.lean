/-
  Layer agg: the law AggOrder: walked.
-/
import Derived.Test.YthklamgdoknmeaaAj
import Derived.Test.YthklamgdoknmeaaOf
import Derived.Deep.DeepCutAuto
set_option linter.unusedSimpArgs false
set_option linter.unusedVariables false
set_option maxRecDepth 8000
namespace Go.Proofs.Ythklamgdoknmeaa
open Go.RowKit Go.WideShapes Col Sm

set_option maxHeartbeats 1000000 in
theorem aggOrder_long (a : Option Addr) (la ca : Nat) (b : Option Addr) (lb cb c : Nat) (hL : 30 < la) (w : World) :
    Calls Try.prog 5 #[.slice a la ca, .slice b lb cb, .int .u8 c] w fun e w' => e = .returned (.bool true) ∧ Below w.heap.size w w' := by
  have HB := Below.refl w.heap.size w
  go_enter Try.func5, Try.ntmps5
  go_wp2_with (go_at_call 20; refine (awakeS_any _).mono ?_; rintro e w' ⟨rfl, hb1⟩; replace HB := HB.trans (hb1.mono HB.size); clear hb1)
  go_ret
  exact ⟨rfl, HB⟩

theorem run_store_fl (w : World) (a : Addr) (y : Nat) (u : Value) (hc : w.cell? a = some u) (hf : w.frozen? a = false) : (store a (.float .f64 y)).run Try.prog w = .ok () (w.setCell a (.float .f64 y)) := by
  rw [run_store Try.prog w a _ _ rfl]
  simp [stored, hc, hf]
theorem below_setCell1 {B g : Nat} {w0 w : World} (h : Below B w0 w) (hg : B ≤ g) (i : Nat) (u : Value) : Below B w0 (w.setCell ⟨g, i, none⟩ u) := h.setCell (by exact hg) u
theorem below_setCell_all {B g : Nat} {w0 w : World} (h : Below B w0 w) (hg : B ≤ g) (i : Nat) (u : Value) (j : Nat) (v : Value) : Below B w0 ((w.setCell ⟨g, i, none⟩ u).setCell ⟨g, j, none⟩ v) := below_setCell1 (below_setCell1 h hg i u) hg j v

theorem TL_perm {l m : List Nat} (hp : List.Perm m l) (h : ∀ x ∈ l, x < 18446744073709551616) : TL m = TL l := by
  unfold TL
  rw [hp.length_eq, accN_perm hp, accH_perm hp, accLo_perm hp (fun x hx => h x (hp.mem_iff.1 hx)), accHi_perm hp (fun x hx => h x (hp.mem_iff.1 hx))]
/-- What region 16 carries: the first state's row, and the list's own floats. -/
structure Q16 (W : World) (g : Nat) (c : Array Value) (A : Option Addr) (n cap : Nat) (q : List Nat) (w : World) : Prop where
  below : Below W.heap.size W w
  row : w.heap[g]? = some (.cells c 40 (0, 0))
  own : OwnF w W.heap.size A n cap q
theorem Q16.next {W : World} {g : Nat} {c : Array Value} {A : Option Addr} {n cap : Nat} {q : List Nat} {w w' : World} (h : Q16 W g c A n cap q w) (hb : Below w.heap.size w w') : Q16 W g c A n cap q w' :=
  ⟨below_to h.below hb, row_keep h.row hb, h.own.keep hb⟩
/-- The second state's block, made and not yet filled. -/
structure Z16 (W : World) (g g6 : Nat) (w : World) : Prop where
  row : w.heap[g6]? = some (.cells (T39 0 (fun _ => 0) 0 0 0) 40 (0, 0))
  base : W.heap.size ≤ g6
  ne : g ≠ g6
theorem Z16.next {W : World} {g g6 : Nat} {w w' : World} (h : Z16 W g g6 w) (hb : Below w.heap.size w w') : Z16 W g g6 w' := ⟨row_keep h.row hb, h.base, h.ne⟩
theorem Z16.new {W : World} {g : Nat} {c : Array Value} {A : Option Addr} {n cap : Nat} {q : List Nat} {w : World} (h : Q16 W g c A n cap q w) : Z16 W g w.heap.size (w.alloc (.cells (T39 0 (fun _ => 0) 0 0 0) 40)) :=
  ⟨heap_alloc_new _ _, h.below.size, by have := lt_of_row h.row; omega⟩
theorem kp2_done {W : World} {g g6 : Nat} {c d : Array Value} {A : Option Addr} {n cap : Nat} {q : List Nat} {w : World} (h : Q16 W g c A n cap q w) (z : Z16 W g g6 w) : Kp2 W g c 40 g6 d 40 (w.setRow g6 d) :=
  ⟨below_setRow h.below z.base _, (setRow_other w g6 g d z.ne).trans h.row, setRow_heap _ _ _ _ _ _ z.row⟩
def Cut16 (W : World) (g : Nat) (c : Array Value) (s : Value) (w : World) : Prop := ∃ g6, s = .pointer (some ⟨g6, 0, none⟩) ∧ Kp2 W g c 40 g6 c 40 w

set_option maxRecDepth 4000 in
set_option maxHeartbeats 4000000 in
theorem aggOrder_core (a : Option Addr) (l : List Nat) (la ca : Nat) (hla : Hid (la = l.length)) (b : Option Addr) (lm : List Nat) (lb cb : Nat) (hlb : Hid (lb = lm.length)) (c : Nat) (hc : c < 256) (hL : ¬ 30 < la) (W : World) (HA : Hid (FlAt W a l)) (HM : Hid (ByAt W b lm)) :
    Calls Try.prog 5 #[.slice a la ca, .slice b lb cb, .int .u8 c] W fun e w' => e = .returned (.bool true) ∧ Below W.heap.size W w' := by
  have hlt : ∀ x ∈ l, x < 18446744073709551616 := fun x hx => by
    obtain ⟨k, hk⟩ := List.getElem?_of_mem hx
    exact (HA.out k x hk).1
  have HLT := Lib.hid hlt
  have hl30 : l.length ≤ 30 := by have := hla.out; omega
  have HVL := Lib.hid fun w => valueTL l hlt w
  have HSS : Hid (∀ w, Calls Try.prog 22 #[.agg #[.int .u64 ((telL l).c : Int), .float .f64 (telL l).s, .bool (telL l).o, .float .f64 (telL l).lo, .float .f64 (telL l).hi], .agg #[.int .u64 ((telL l).c : Int), .float .f64 (telL l).s, .bool (telL l).o, .float .f64 (telL l).lo, .float .f64 (telL l).hi]] w fun e w' => e = .returned (.bool true) ∧ Below w.heap.size w w') := Lib.hid fun w => by
    have h := refAggSame_any (telL l) (telL l) (telL_ok l hlt (by omega)) (telL_ok l hlt (by omega)) w
    rwa [telB_self] at h
  have HLL := Lib.hid fun w => layTL l hlt (by omega) w
  generalize telL l = TZ at *
  clear hlt hl30
  go_enter Try.func5, Try.ntmps5
  go_wp2_with (first
    | (go_at_call 20; refine (awakeS_any _).mono ?_; rintro e w1 ⟨rfl, hb⟩; have HB := Lib.hid hb; clear hb)
    | (refine wpList_append_fl rfl (.tmp 22) (.tmp 23) rfl W.heap.size none 0 0 [] rfl (OwnF.nil _ _) a la ca l rfl hla.out (FlAt.keep HA.out HB.out) (by omega) HB.out.size ?_; intro A cap w2 own hgr hblk))
  have own' : OwnF w2 W.heap.size A la cap l := by simpa using own
  have hW2 : Below W.heap.size W w2 := HB.out.grown hgr HB.out.size (by intro k h; cases h)
  clear own hgr hblk HB
  go_loopw [8] (fun i wr => ∃ (k : Nat) (q : List Nat), k ≤ 30 ∧ i = .int .i64 k ∧ List.Perm q l ∧ OwnF wr W.heap.size A la cap q ∧ Below W.heap.size W wr) (fun i _ => 30 - (intOf i).toNat)
  case atStart => exact ⟨0, l, by omega, rfl, List.Perm.refl _, own', hW2⟩
  case round =>
    clear own' hW2
    obtain ⟨k, q, hk, rfl, hp, ow, hb⟩ := hrel
    by_cases hgo : k < lb ∧ k < 30 ∧ 0 < la
    · obtain ⟨h1, h2, h3⟩ := hgo
      have hq : la = q.length := by rw [hp.length_eq]; exact hla.out
      obtain ⟨g, cs, rfl, R⟩ := ow.row h3
      have hkl : k < lm.length := by have := hlb.out; omega
      have hq0 : 0 < q.length := by omega
      obtain ⟨hx, bg, off, rfl, hg, hc0⟩ := HM.out k lm[k] (List.getElem?_eq_getElem hkl)
      have hcb : wr.cell? ⟨bg, off + k, none⟩ = some (.int .u8 ((lm[k] : Nat) : Int)) := (hb.cell (p := ⟨bg, off + k, none⟩) hg).trans hc0
      clear hc0
      generalize lm[k] = x at *
      have hj : x % la < la := Nat.mod_lt _ h3
      have hrem : (x : Int) % (la : Int) = ((x % la : Nat) : Int) := (Int.natCast_emod x la).symm
      have hne : ¬ ((la : Int) = 0) := by omega
      generalize x % la = j at *
      have hqj : j < q.length := by omega
      have Rj := R.cell j q[j] (List.getElem?_eq_getElem hqj) hj
      have R0 := R.cell 0 q[0] (List.getElem?_eq_getElem (by omega)) h3
      obtain ⟨cj, fj⟩ := Rj
      obtain ⟨c0, f0⟩ := R0
      have hY : q[0] < 18446744073709551616 := R.lt _ (List.getElem_mem hq0)
      have hX : q[j] < 18446744073709551616 := R.lt _ (List.getElem_mem hqj)
      have R1 := R.set j q[0] hY
      have f1 := row_frozen R1.row 0
      have c1 : ∃ v, (wr.setCell ⟨g, j, none⟩ (.float .f64 q[0])).cell? ⟨g, 0, none⟩ = some v := by
        refine ⟨_, row_cell R1.row 0 ?_⟩
        rw [R1.size]; exact Nat.lt_of_lt_of_le h3 (R.le hq)
      obtain ⟨v1, c1⟩ := c1
      have R2 := Lib.hid (R1.set 0 q[j] hX)
      have HE : Hid ((q.set j q[0]).set 0 q[j] = swap0 q j) := Lib.hid (by unfold swap0; rw [List.getD_eq_getElem?_getD, List.getD_eq_getElem?_getD, List.getElem?_eq_getElem hq0, List.getElem?_eq_getElem hqj]; rfl)
      have HP := Lib.hid ((swap0_perm q j hqj).trans hp)
      have HQ := Lib.hid hq
      have HB2 := Lib.hid (below_setCell_all hb R.base j (.float .f64 q[0]) 0 (.float .f64 q[j]))
      have s1 := run_store_fl wr _ q[0] _ cj fj
      have s2 := run_store_fl _ _ q[j] _ c1 f1
      generalize q[0] = Y at *
      generalize q[j] = X at *
      clear hq hqj hq0 hkl R R1 ow HM hg hp
      go_wp2
      go_roundw
      case rel => exact ⟨k + 1, swap0 q j, by omega, by go_num, HP.out, by rw [← HE.out]; exact R2.out.own (by rw [HE.out, swap0_len]; exact HQ.out), HB2.out⟩
      case measure => simp [intOf]; omega
    · skip
      have hq : la = q.length := by rw [hp.length_eq]; exact hla.out
      have hcase : (¬ k < lb ∨ ¬ k < 30 ∨ ¬ 0 < la) := by omega
      have HQ := Lib.hid hq
      clear hgo hq
      go_upto_region 6 with fail
      go_cut [37] from 25 to 60 (fun s41 wc => s41 = Value.bool false ∧ wc = wr)
      case first =>
        rcases hcase with h1 | h1 | h1
        all_goals
          go_wp2_with fail
          all_goals
            go_meet
            case rel => exact ⟨rfl, rfl⟩
      case rest =>
        obtain ⟨rfl, rfl⟩ := hcut
        clear hcase hk
        obtain ⟨j, hj, hj1, hj2⟩ : ∃ j : Nat, j ≤ la ∧ (0 < la → (c : Int) % (la : Int) = (j : Int)) ∧ (¬ 0 < la → j = 0) := by
          by_cases h0 : 0 < la
          · exact ⟨c % la, Nat.le_of_lt (Nat.mod_lt _ h0), fun _ => (Int.natCast_emod c la).symm, fun h => absurd h0 h⟩
          · exact ⟨0, by omega, fun h => absurd h h0, fun _ => rfl⟩
        have HTP : Hid (TL (q.take j ++ q.drop j) = TL l) := Lib.hid (by rw [List.take_append_drop]; exact TL_perm hp HLT.out)
        have hqlt : ∀ x ∈ q, x < 18446744073709551616 := fun x hx => HLT.out x (hp.mem_iff.1 hx)
        have HJN : Hid (∀ w, Calls Try.prog 26 #[.agg (TL (q.take j)), .agg (TL (q.drop j))] w fun e w' => e = .returned (.agg (TL l)) ∧ Below w.heap.size w w') := Lib.hid fun w => by
          have h := joinTL (q.take j) (q.drop j) (fun x hx => hqlt x (List.mem_of_mem_take hx)) (fun x hx => hqlt x (List.mem_of_mem_drop hx)) (by rw [List.length_take, List.length_drop]; have := HQ.out; omega) w
          rwa [HTP.out] at h
        have HO := Lib.hid ow
        clear hp ow hqlt
        go_upto_region 13 with fail
        go_upto_if 63 with fail
        go_cut [11] from 25 to 70 (fun s11 wx => s11 = Value.int .i64 j ∧ wx = wc)
        case first =>
          by_cases h0 : 0 < la
          · have hne : ¬ ((la : Int) = 0) := by omega
            have hj1 := Lib.hid (hj1 h0)
            go_wp2_with fail
            go_meet
            case rel => exact ⟨by rw [hj1.out], rfl⟩
          · obtain rfl := hj2 h0
            go_wp2_with fail
            go_meet
            case rel => exact ⟨rfl, rfl⟩
        case rest =>
          obtain ⟨rfl, rfl⟩ := hcut
          clear hj1 hj2
          obtain ⟨Q1, rt, ft⟩ := cut_toF A la cap j hj (OwnF.caps HO.out).1
          obtain ⟨Q2, C2, rf, -, -, ff⟩ := cut_fromF A la cap j hj (OwnF.caps HO.out).1
          go_upto_region 16 with (first
            | (go_at_call 21; refine (ofS_any a l la ca hla (by omega) _ (FlAt.keep HA.out hb)).mono ?_; rintro e w5 ⟨rfl, hb5⟩)
            | (rw [zeros39]; refine wpList_store_row rfl 40 (.tmp 12) (.tmp 70) rfl w5.heap.size (TL l) rfl rfl _ _ (heap_alloc_new _ _) (iT _ _ _ _ _) (by rw [T39_size, T39_size]) (one39 _ _ _ _ _) ?_; rw [World.setRow_alloc_new]; have hk := Kp.start w5 (TL l) 40))
          have hq : Q16 W w5.heap.size (TL l) A la cap q (w5.alloc (.cells (TL l) 40)) := ⟨below_to (below_to hb hb5) hk.below, hk.row, (HO.out.keep hb5).keep hk.below⟩
          clear hb hb5 hk HO
          generalize w5.alloc _ = w6 at *
          generalize w5.heap.size = g at *
          have HQ16 := Lib.hid hq
          clear hq
          try dsimp only [Act.put]
          go_cut [13] from 25 to 79 (Cut16 W g (TL l))
          case first =>
            have hq := HQ16.out
            have hq : Q16 W g _ A la cap q w6.drew := ⟨hq.below.drew, hq.row, hq.own.keep (Below.refl _ _).drew⟩
            refine wp_region_held_drew (S := fun _ => True) (by kernel_rfl) trivial (fun hHeld => ?_)
            refine wpAnyH_take (i := 0) (v := .slice A la cap) rfl (by kernel_rfl) (by kernel_rfl) (by kernel_rfl) (fun _ _ _ h => h) (Or.inl ⟨by rfl, fun _ _ => rfl⟩) hHeld ?_
            try dsimp only
            try simp only [Act.put, List.setIfInBounds_toArray, List.set_cons_zero, List.set_cons_succ]
            refine wpAnyH_take (i := 1) (v := .int .i64 j) rfl (by kernel_rfl) (by kernel_rfl) (by kernel_rfl) (fun _ _ _ h => h) (Or.inl ⟨by rfl, fun _ _ => rfl⟩) hHeld ?_
            try dsimp only
            try simp only [Act.put, List.setIfInBounds_toArray, List.set_cons_zero, List.set_cons_succ]
            refine wpAnyH_take (i := 2) (v := .slice Q1 j cap) rfl (by kernel_rfl) (by kernel_rfl) (by kernel_rfl) (fun _ _ _ h => h) (Or.inl ⟨by rfl, fun w _ => by have := rt w; go_simp⟩) hHeld ?_
            try dsimp only
            try simp only [Act.put, List.setIfInBounds_toArray, List.set_cons_zero, List.set_cons_succ]
            refine wpAnyH_take (i := 4) (v := .slice A la cap) rfl (by kernel_rfl) (by kernel_rfl) (by kernel_rfl) (fun _ _ _ h => h) (Or.inl ⟨by rfl, fun _ _ => rfl⟩) hHeld ?_
            try dsimp only
            try simp only [Act.put, List.setIfInBounds_toArray, List.set_cons_zero, List.set_cons_succ]
            refine wpAnyH_take (i := 5) (v := .int .i64 j) rfl (by kernel_rfl) (by kernel_rfl) (by kernel_rfl) (fun _ _ _ h => h) (Or.inl ⟨by rfl, fun _ _ => rfl⟩) hHeld ?_
            try dsimp only
            try simp only [Act.put, List.setIfInBounds_toArray, List.set_cons_zero, List.set_cons_succ]
            refine wpAnyH_take (i := 6) (v := .slice Q2 (la - j) C2) rfl (by kernel_rfl) (by kernel_rfl) (by kernel_rfl) (fun _ _ _ h => h) (Or.inl ⟨by rfl, fun w _ => by have := rf w; go_simp⟩) hHeld ?_
            try dsimp only
            try simp only [Act.put, List.setIfInBounds_toArray, List.set_cons_zero, List.set_cons_succ]
            refine wpAnyH_ready (rs := [3, 9]) (by kernel_rfl) (by simp) (AllReadyH.cons rfl (fun K hK => ?_) (AllReadyH.cons rfl (fun K hK => ?_) AllReadyH.nil))
            · skip
              go_simp
              refine (ofS_any Q1 (q.take j) j cap (Lib.hid (by have := HQ.out; rw [List.length_take]; omega)) (by omega) _ (Lib.hid (ft _ _ HQ.out hq.own.flAt))).mono ?_
              rintro e w7 ⟨rfl, hb1⟩
              replace hq := hq.next hb1
              clear hb1
              refine hK.out _ _ trivial (fun hHeld => ?_)
              clear hK K
              try dsimp only
              try simp only [Act.put, List.setIfInBounds_toArray, List.set_cons_zero, List.set_cons_succ]
              refine wpAnyH_ready (rs := [7, 9]) (by kernel_rfl) (by simp) (AllReadyH.cons rfl (fun K hK => ?_) (AllReadyH.cons rfl (fun K hK => ?_) AllReadyH.nil))
              · skip
                go_simp
                refine (ofS_any Q2 (q.drop j) (la - j) C2 (Lib.hid (by have := HQ.out; rw [List.length_drop]; omega)) (by omega) _ (Lib.hid (ff _ _ HQ.out hq.own.flAt))).mono ?_
                rintro e w8 ⟨rfl, hb1⟩
                replace hq := hq.next hb1
                clear hb1
                refine hK.out _ _ trivial (fun hHeld => ?_)
                clear hK K
                try dsimp only
                try simp only [Act.put, List.setIfInBounds_toArray, List.set_cons_zero, List.set_cons_succ]
                refine wpAnyH_ready (rs := [8, 9]) (by kernel_rfl) (by simp) (AllReadyH.cons rfl (fun K hK => ?_) (AllReadyH.cons rfl (fun K hK => ?_) AllReadyH.nil))
                · skip
                  go_simp
                  refine (HJN.out _).mono ?_
                  rintro e w9 ⟨rfl, hb1⟩
                  replace hq := hq.next hb1
                  clear hb1
                  refine hK.out _ _ trivial (fun hHeld => ?_)
                  clear hK K
                  try dsimp only
                  try simp only [Act.put, List.setIfInBounds_toArray, List.set_cons_zero, List.set_cons_succ]
                  refine wpAnyH_ready (rs := [9]) (by kernel_rfl) (by simp) (AllReadyH.cons rfl (fun K hK => ?_) AllReadyH.nil)
                  go_simp
                  rw [zeros39]
                  have hz := Z16.new hq
                  replace hq := hq.next ((Below.refl _ _).alloc (Nat.le_refl _) (.cells (T39 0 (fun _ => 0) 0 0 0) 40))
                  refine hK.out _ _ trivial (fun hHeld => ?_)
                  clear hK K
                  try dsimp only
                  try simp only [Act.put, List.setIfInBounds_toArray, List.set_cons_zero, List.set_cons_succ]
                  refine wpAnyH_ready (rs := [10]) (by kernel_rfl) (by simp) (AllReadyH.cons rfl (fun K hK => ?_) AllReadyH.nil)
                  rw [if_pos (by rfl)]
                  refine wp_store_row 40 (.tmp 13) (.tmp 79) rfl _ (TL l) rfl rfl _ _ hz.row (iT _ _ _ _ _) (by rw [T39_size, T39_size]) (one39 _ _ _ _ _) ?_
                  have hd := kp2_done (d := (TL l)) hq hz
                  refine hK.out _ _ trivial (fun hHeld => ?_)
                  clear hK K
                  refine wpAnyH_done (by kernel_rfl) ?_ _
                  go_wp2_with fail
                  go_meet
                  case rel => exact ⟨_, rfl, hd⟩
                · skip
                  go_simp
                  rw [zeros39]
                  have hz := Z16.new hq
                  replace hq := hq.next ((Below.refl _ _).alloc (Nat.le_refl _) (.cells (T39 0 (fun _ => 0) 0 0 0) 40))
                  refine hK.out _ _ trivial (fun hHeld => ?_)
                  clear hK K
                  try dsimp only
                  try simp only [Act.put, List.setIfInBounds_toArray, List.set_cons_zero, List.set_cons_succ]
                  refine wpAnyH_ready (rs := [8]) (by kernel_rfl) (by simp) (AllReadyH.cons rfl (fun K hK => ?_) AllReadyH.nil)
                  go_simp
                  refine (HJN.out _).mono ?_
                  rintro e w9 ⟨rfl, hb1⟩
                  replace hq := hq.next hb1
                  replace hz := hz.next hb1
                  clear hb1
                  refine hK.out _ _ trivial (fun hHeld => ?_)
                  clear hK K
                  try dsimp only
                  try simp only [Act.put, List.setIfInBounds_toArray, List.set_cons_zero, List.set_cons_succ]
                  refine wpAnyH_ready (rs := [10]) (by kernel_rfl) (by simp) (AllReadyH.cons rfl (fun K hK => ?_) AllReadyH.nil)
                  rw [if_pos (by rfl)]
                  refine wp_store_row 40 (.tmp 13) (.tmp 79) rfl _ (TL l) rfl rfl _ _ hz.row (iT _ _ _ _ _) (by rw [T39_size, T39_size]) (one39 _ _ _ _ _) ?_
                  have hd := kp2_done (d := (TL l)) hq hz
                  refine hK.out _ _ trivial (fun hHeld => ?_)
                  clear hK K
                  refine wpAnyH_done (by kernel_rfl) ?_ _
                  go_wp2_with fail
                  go_meet
                  case rel => exact ⟨_, rfl, hd⟩
              · skip
                go_simp
                rw [zeros39]
                have hz := Z16.new hq
                replace hq := hq.next ((Below.refl _ _).alloc (Nat.le_refl _) (.cells (T39 0 (fun _ => 0) 0 0 0) 40))
                refine hK.out _ _ trivial (fun hHeld => ?_)
                clear hK K
                try dsimp only
                try simp only [Act.put, List.setIfInBounds_toArray, List.set_cons_zero, List.set_cons_succ]
                refine wpAnyH_ready (rs := [7]) (by kernel_rfl) (by simp) (AllReadyH.cons rfl (fun K hK => ?_) AllReadyH.nil)
                go_simp
                refine (ofS_any Q2 (q.drop j) (la - j) C2 (Lib.hid (by have := HQ.out; rw [List.length_drop]; omega)) (by omega) _ (Lib.hid (ff _ _ HQ.out hq.own.flAt))).mono ?_
                rintro e w8 ⟨rfl, hb1⟩
                replace hq := hq.next hb1
                replace hz := hz.next hb1
                clear hb1
                refine hK.out _ _ trivial (fun hHeld => ?_)
                clear hK K
                try dsimp only
                try simp only [Act.put, List.setIfInBounds_toArray, List.set_cons_zero, List.set_cons_succ]
                refine wpAnyH_ready (rs := [8]) (by kernel_rfl) (by simp) (AllReadyH.cons rfl (fun K hK => ?_) AllReadyH.nil)
                go_simp
                refine (HJN.out _).mono ?_
                rintro e w9 ⟨rfl, hb1⟩
                replace hq := hq.next hb1
                replace hz := hz.next hb1
                clear hb1
                refine hK.out _ _ trivial (fun hHeld => ?_)
                clear hK K
                try dsimp only
                try simp only [Act.put, List.setIfInBounds_toArray, List.set_cons_zero, List.set_cons_succ]
                refine wpAnyH_ready (rs := [10]) (by kernel_rfl) (by simp) (AllReadyH.cons rfl (fun K hK => ?_) AllReadyH.nil)
                rw [if_pos (by rfl)]
                refine wp_store_row 40 (.tmp 13) (.tmp 79) rfl _ (TL l) rfl rfl _ _ hz.row (iT _ _ _ _ _) (by rw [T39_size, T39_size]) (one39 _ _ _ _ _) ?_
                have hd := kp2_done (d := (TL l)) hq hz
                refine hK.out _ _ trivial (fun hHeld => ?_)
                clear hK K
                refine wpAnyH_done (by kernel_rfl) ?_ _
                go_wp2_with fail
                go_meet
                case rel => exact ⟨_, rfl, hd⟩
            · skip
              go_simp
              rw [zeros39]
              have hz := Z16.new hq
              replace hq := hq.next ((Below.refl _ _).alloc (Nat.le_refl _) (.cells (T39 0 (fun _ => 0) 0 0 0) 40))
              refine hK.out _ _ trivial (fun hHeld => ?_)
              clear hK K
              try dsimp only
              try simp only [Act.put, List.setIfInBounds_toArray, List.set_cons_zero, List.set_cons_succ]
              refine wpAnyH_ready (rs := [3]) (by kernel_rfl) (by simp) (AllReadyH.cons rfl (fun K hK => ?_) AllReadyH.nil)
              go_simp
              refine (ofS_any Q1 (q.take j) j cap (Lib.hid (by have := HQ.out; rw [List.length_take]; omega)) (by omega) _ (Lib.hid (ft _ _ HQ.out hq.own.flAt))).mono ?_
              rintro e w7 ⟨rfl, hb1⟩
              replace hq := hq.next hb1
              replace hz := hz.next hb1
              clear hb1
              refine hK.out _ _ trivial (fun hHeld => ?_)
              clear hK K
              try dsimp only
              try simp only [Act.put, List.setIfInBounds_toArray, List.set_cons_zero, List.set_cons_succ]
              refine wpAnyH_ready (rs := [7]) (by kernel_rfl) (by simp) (AllReadyH.cons rfl (fun K hK => ?_) AllReadyH.nil)
              go_simp
              refine (ofS_any Q2 (q.drop j) (la - j) C2 (Lib.hid (by have := HQ.out; rw [List.length_drop]; omega)) (by omega) _ (Lib.hid (ff _ _ HQ.out hq.own.flAt))).mono ?_
              rintro e w8 ⟨rfl, hb1⟩
              replace hq := hq.next hb1
              replace hz := hz.next hb1
              clear hb1
              refine hK.out _ _ trivial (fun hHeld => ?_)
              clear hK K
              try dsimp only
              try simp only [Act.put, List.setIfInBounds_toArray, List.set_cons_zero, List.set_cons_succ]
              refine wpAnyH_ready (rs := [8]) (by kernel_rfl) (by simp) (AllReadyH.cons rfl (fun K hK => ?_) AllReadyH.nil)
              go_simp
              refine (HJN.out _).mono ?_
              rintro e w9 ⟨rfl, hb1⟩
              replace hq := hq.next hb1
              replace hz := hz.next hb1
              clear hb1
              refine hK.out _ _ trivial (fun hHeld => ?_)
              clear hK K
              try dsimp only
              try simp only [Act.put, List.setIfInBounds_toArray, List.set_cons_zero, List.set_cons_succ]
              refine wpAnyH_ready (rs := [10]) (by kernel_rfl) (by simp) (AllReadyH.cons rfl (fun K hK => ?_) AllReadyH.nil)
              rw [if_pos (by rfl)]
              refine wp_store_row 40 (.tmp 13) (.tmp 79) rfl _ (TL l) rfl rfl _ _ hz.row (iT _ _ _ _ _) (by rw [T39_size, T39_size]) (one39 _ _ _ _ _) ?_
              have hd := kp2_done (d := (TL l)) hq hz
              refine hK.out _ _ trivial (fun hHeld => ?_)
              clear hK K
              refine wpAnyH_done (by kernel_rfl) ?_ _
              go_wp2_with fail
              go_meet
              case rel => exact ⟨_, rfl, hd⟩
          case rest =>
            obtain ⟨g6, rfl, hq⟩ := hcut
            clear HQ16 HA HM HQ HJN HTP HLT hla hlb rt ft rf ff
            go_upto_region 17 with fail
            obtain ⟨HB, R1, R2⟩ := hq.drew
            refine wp_region_held_drew (S := Below wc.drew.heap.size wc.drew) (by kernel_rfl) (Below.refl _ _) (fun hHeld => ?_)
            refine wpAnyH_take (i := 0) (v := .agg (TL l)) rfl (by kernel_rfl) (by kernel_rfl) (by kernel_rfl) (fun _ _ _ h => h) (yieldsIf_row rfl 40 (.tmp 12) rfl g rfl _ _ _ _ (fun w hw => row_keep R1 hw) uT rfl (iT _ _ _ _ _)) hHeld ?_
            try dsimp only
            try simp only [Act.put, List.getElem_toArray, List.getElem_cons_zero, List.getElem_cons_succ, List.setIfInBounds_toArray, List.set_cons_zero, List.set_cons_succ]
            refine wpAnyH_take (i := 2) (v := .agg (TL l)) rfl (by kernel_rfl) (by kernel_rfl) (by kernel_rfl) (fun _ _ _ h => h) (yieldsIf_row rfl 40 (.tmp 13) rfl g6 rfl _ _ _ _ (fun w hw => row_keep R2 hw) uT rfl (iT _ _ _ _ _)) hHeld ?_
            try dsimp only
            try simp only [Act.put, List.getElem_toArray, List.getElem_cons_zero, List.getElem_cons_succ, List.setIfInBounds_toArray, List.set_cons_zero, List.set_cons_succ]
            refine wpAnyH_ready (rs := [1]) (by kernel_rfl) (by simp) (AllReadyH.cons rfl (fun K hK => ?_) AllReadyH.nil)
            go_simp
            refine (HVL.out _).mono ?_
            rintro e v1 ⟨rfl, hv1⟩
            refine hK.out _ _ hv1 (fun _ => ?_)
            clear hK K
            try dsimp only
            try simp only [Act.put, List.getElem_toArray, List.getElem_cons_zero, List.getElem_cons_succ, List.setIfInBounds_toArray, List.set_cons_zero, List.set_cons_succ]
            refine wpAnyH_more (S' := Below v1.heap.size v1) (fun w h => below_to hv1 h) ?_
            replace R1 := row_keep R1 hv1
            replace R2 := row_keep R2 hv1
            replace HB := below_to HB hv1
            clear hHeld
            have hHeld := Below.refl v1.heap.size v1
            refine wpAnyH_ready (rs := [3]) (by kernel_rfl) (by simp) (AllReadyH.cons rfl (fun K hK => ?_) AllReadyH.nil)
            go_simp
            refine (HVL.out _).mono ?_
            rintro e v2 ⟨rfl, hv2⟩
            refine hK.out _ _ hv2 (fun _ => ?_)
            clear hK K
            try dsimp only
            try simp only [Act.put, List.getElem_toArray, List.getElem_cons_zero, List.getElem_cons_succ, List.setIfInBounds_toArray, List.set_cons_zero, List.set_cons_succ]
            refine wpAnyH_more (S' := Below v2.heap.size v2) (fun w h => below_to hv2 h) ?_
            replace R1 := row_keep R1 hv2
            replace R2 := row_keep R2 hv2
            replace HB := below_to HB hv2
            clear hHeld
            have hHeld := Below.refl v2.heap.size v2
            refine wpAnyH_ready (rs := [4]) (by kernel_rfl) (by simp) (AllReadyH.cons rfl (fun K hK => ?_) AllReadyH.nil)
            go_simp
            refine (HSS.out _).mono ?_
            rintro e v3 ⟨rfl, hv3⟩
            refine hK.out _ _ hv3 (fun _ => ?_)
            clear hK K
            try dsimp only
            try simp only [Act.put, List.getElem_toArray, List.getElem_cons_zero, List.getElem_cons_succ, List.setIfInBounds_toArray, List.set_cons_zero, List.set_cons_succ]
            refine wpAnyH_more (S' := Below v3.heap.size v3) (fun w h => below_to hv3 h) ?_
            replace R1 := row_keep R1 hv3
            replace R2 := row_keep R2 hv3
            replace HB := below_to HB hv3
            clear hHeld
            have hHeld := Below.refl v3.heap.size v3
            refine wpAnyH_take (i := 5) (v := .bool true) rfl (by kernel_rfl) (by kernel_rfl) (by kernel_rfl) (fun _ _ _ h => h) (Or.inl ⟨by rfl, fun _ _ => rfl⟩) hHeld ?_
            try dsimp only
            try simp only [Act.put, List.getElem_toArray, List.getElem_cons_zero, List.getElem_cons_succ, List.setIfInBounds_toArray, List.set_cons_zero, List.set_cons_succ]
            refine wpAnyH_take (i := 6) (v := .agg (TL l)) rfl (by kernel_rfl) (by kernel_rfl) (by kernel_rfl) (fun _ _ _ h => h) (yieldsIf_row rfl 40 (.tmp 12) rfl g rfl _ _ _ _ (fun w hw => row_keep R1 hw) uT rfl (iT _ _ _ _ _)) hHeld ?_
            try dsimp only
            try simp only [Act.put, List.getElem_toArray, List.getElem_cons_zero, List.getElem_cons_succ, List.setIfInBounds_toArray, List.set_cons_zero, List.set_cons_succ]
            refine wpAnyH_take (i := 9) (v := .agg (TL l)) rfl (by kernel_rfl) (by kernel_rfl) (by kernel_rfl) (fun _ _ _ h => h) (yieldsIf_row rfl 40 (.tmp 13) rfl g6 rfl _ _ _ _ (fun w hw => row_keep R2 hw) uT rfl (iT _ _ _ _ _)) hHeld ?_
            try dsimp only
            try simp only [Act.put, List.getElem_toArray, List.getElem_cons_zero, List.getElem_cons_succ, List.setIfInBounds_toArray, List.set_cons_zero, List.set_cons_succ]
            refine wpAnyH_ready (rs := [7]) (by kernel_rfl) (by simp) (AllReadyH.cons rfl (fun K hK => ?_) AllReadyH.nil)
            go_simp
            refine (HLL.out _).mono ?_
            rintro e v4 ⟨A1, n1, c1, rfl, hy, hk, hv4⟩
            have HK1 := Lib.hid hk
            clear hk
            refine hK.out _ _ hv4 (fun _ => ?_)
            clear hK K
            try dsimp only
            try simp only [Act.put, List.getElem_toArray, List.getElem_cons_zero, List.getElem_cons_succ, List.setIfInBounds_toArray, List.set_cons_zero, List.set_cons_succ]
            refine wpAnyH_more (S' := Below v4.heap.size v4) (fun w h => below_to hv4 h) ?_
            replace R1 := row_keep R1 hv4
            replace R2 := row_keep R2 hv4
            replace HB := below_to HB hv4
            clear hHeld
            have hHeld := Below.refl v4.heap.size v4
            refine wpAnyH_take (i := 8) (v := .string (strB (stL l))) rfl (by kernel_rfl) (by kernel_rfl) (by kernel_rfl) (fun _ _ _ h => h) (yb_convS rfl (.tmp 87) rfl _ _ rfl (fun w hw => conv_by n1 c1 (hy.keep hw) HK1.out)) hHeld ?_
            try dsimp only
            try simp only [Act.put, List.getElem_toArray, List.getElem_cons_zero, List.getElem_cons_succ, List.setIfInBounds_toArray, List.set_cons_zero, List.set_cons_succ]
            clear hy HK1
            refine wpAnyH_ready (rs := [10]) (by kernel_rfl) (by simp) (AllReadyH.cons rfl (fun K hK => ?_) AllReadyH.nil)
            go_simp
            refine (HLL.out _).mono ?_
            rintro e v5 ⟨A2, n2, c2, rfl, hy, hk, hv5⟩
            have HK2 := Lib.hid hk
            clear hk
            refine hK.out _ _ hv5 (fun _ => ?_)
            clear hK K
            try dsimp only
            try simp only [Act.put, List.getElem_toArray, List.getElem_cons_zero, List.getElem_cons_succ, List.setIfInBounds_toArray, List.set_cons_zero, List.set_cons_succ]
            refine wpAnyH_more (S' := Below v5.heap.size v5) (fun w h => below_to hv5 h) ?_
            replace R1 := row_keep R1 hv5
            replace R2 := row_keep R2 hv5
            replace HB := below_to HB hv5
            clear hHeld
            have hHeld := Below.refl v5.heap.size v5
            refine wpAnyH_take (i := 11) (v := .string (strB (stL l))) rfl (by kernel_rfl) (by kernel_rfl) (by kernel_rfl) (fun _ _ _ h => h) (yb_convS rfl (.tmp 90) rfl _ _ rfl (fun w hw => conv_by n2 c2 (hy.keep hw) HK2.out)) hHeld ?_
            try dsimp only
            try simp only [Act.put, List.getElem_toArray, List.getElem_cons_zero, List.getElem_cons_succ, List.setIfInBounds_toArray, List.set_cons_zero, List.set_cons_succ]
            clear hy HK2
            refine wpAnyH_take (i := 12) (v := .bool true) rfl (by kernel_rfl) (by kernel_rfl) (by kernel_rfl) (fun _ _ _ h => h) (yb_bin rfl .eql _ _ _ _ rfl _ _ _ rfl rfl (fun _ => rfl) (fun w => b_str (stL_lt _) (stL_lt _) (decide_eq_true rfl) w)) hHeld ?_
            try dsimp only
            try simp only [Act.put, List.getElem_toArray, List.getElem_cons_zero, List.getElem_cons_succ, List.setIfInBounds_toArray, List.set_cons_zero, List.set_cons_succ]
            refine wpAnyH_take (i := 13) (v := .bool true) rfl (by kernel_rfl) (by kernel_rfl) (by kernel_rfl) (fun _ _ _ h => h) (Or.inl ⟨by rfl, fun _ _ => rfl⟩) hHeld ?_
            try dsimp only
            try simp only [Act.put, List.getElem_toArray, List.getElem_cons_zero, List.getElem_cons_succ, List.setIfInBounds_toArray, List.set_cons_zero, List.set_cons_succ]
            refine wpAnyH_take (i := 14) (v := .bool true) rfl (by kernel_rfl) (by kernel_rfl) (by kernel_rfl) (fun _ _ _ h => h) (Or.inl ⟨by rfl, fun _ _ => rfl⟩) hHeld ?_
            try dsimp only
            try simp only [Act.put, List.getElem_toArray, List.getElem_cons_zero, List.getElem_cons_succ, List.setIfInBounds_toArray, List.set_cons_zero, List.set_cons_succ]
            refine wpAnyH_done (by kernel_rfl) ?_ _
            go_wp2
            go_ret
            exact ⟨rfl, HB⟩

theorem aggOrder_any (a : Option Addr) (l : List Nat) (la ca : Nat) (hla : Hid (la = l.length)) (_ : la ≤ ca) (_ : ca ≤ maxLen) (b : Option Addr) (m : List Nat) (lb cb : Nat) (hlb : Hid (lb = m.length)) (_ : lb ≤ cb) (_ : cb ≤ maxLen) (c : Nat) (hc : c < 256) (W : World) (HA : Hid (FlAt W a l)) (HM : Hid (ByAt W b m)) :
    Calls Try.prog 5 #[.slice a la ca, .slice b lb cb, .int .u8 c] W fun e w' => e = .returned (.bool true) ∧ Below W.heap.size W w' := by
  by_cases hL : 30 < la
  · exact aggOrder_long a la ca b lb cb c hL W
  · exact aggOrder_core a l la ca hla b m lb cb hlb c hc hL W HA HM
end Go.Proofs.Ythklamgdoknmeaa
