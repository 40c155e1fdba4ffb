/-
  The law ExactOrder: walked.
-/
import Derived.Test.YtmnjkpomclaidaaOs
import Derived.Test.YtmnjkpomclaidaaBb
import Derived.Test.YtmnjkpomclaidaaSk
import Derived.Deep.DeepCutAuto
set_option linter.unusedSimpArgs false
set_option linter.unusedVariables false
namespace Go.Proofs.Ytmnjkpomclaidaa
open Go.RowKit Go.WideShapes Sm

set_option maxHeartbeats 1000000 in
theorem exactOrder_long (a : Option Addr) (la ca : Nat) (b : Option Addr) (lb cb c : Nat) (hL : 40 < la) (w : World) :
    Calls Try.prog 4 #[.slice a la ca, .slice b lb cb, .int .u8 c] w fun e w' => e = .returned (.bool true) ∧ Below w.heap.size w w' := by
  have HB := Below.refl w.heap.size w
  go_enter Try.func4, Try.ntmps4
  go_wp2_with (go_at_call 5; refine (awake_any _).mono ?_; rintro e w' ⟨rfl, hb1⟩; replace HB := HB.trans (hb1.mono HB.size); clear hb1)
  go_ret
  exact ⟨rfl, HB⟩

theorem run_store_fl (w : World) (a : Addr) (y : Nat) (u : Value) (hc : w.cell? a = some u) (hf : w.frozen? a = false) : (store a (.float .f64 y)).run Try.prog w = .ok () (w.setCell a (.float .f64 y)) := by
  rw [run_store Try.prog w a _ _ rfl]
  simp [stored, hc, hf]
theorem below_setCell1 {B g : Nat} {w0 w : World} (h : Below B w0 w) (hg : B ≤ g) (i : Nat) (u : Value) : Below B w0 (w.setCell ⟨g, i, none⟩ u) := h.setCell (by exact hg) u
theorem below_setCell_all {B g : Nat} {w0 w : World} (h : Below B w0 w) (hg : B ≤ g) (i : Nat) (u : Value) (j : Nat) (v : Value) : Below B w0 ((w.setCell ⟨g, i, none⟩ u).setCell ⟨g, j, none⟩ v) := below_setCell1 (below_setCell1 h hg i u) hg j v

theorem valW_lt (n h : Nat) : valW n h < 18446744073709551616 := by
  unfold valW
  split
  · decide
  · split
    · decide
    · split
      · decide
      · split
        · decide
        · exact (nearest_word _ _).2.1
theorem va_some (l : List Nat) : ∃ X o, X < 18446744073709551616 ∧ VaGives (accN l) (accH l) X o := ⟨_, _, valW_lt _ _, fun w => value_any _ _ (accN_lt l) (accH_lt l) w⟩
/-- What region 16 carries: the first sum's row, and the list's own floats. -/
structure Q16 (W : World) (g : Nat) (c : Array Value) (A : Option Addr) (n cap : Nat) (q : List Nat) (w : World) : Prop where
  below : Below W.heap.size W w
  row : w.heap[g]? = some (.cells c 27 (0, 0))
  own : OwnF w W.heap.size A n cap q
theorem Q16.next {W : World} {g : Nat} {c : Array Value} {A : Option Addr} {n cap : Nat} {q : List Nat} {w w' : World} (h : Q16 W g c A n cap q w) (hb : Below w.heap.size w w') : Q16 W g c A n cap q w' :=
  ⟨below_to h.below hb, row_keep h.row hb, h.own.keep hb⟩
/-- The second sum's block, made and not yet filled. -/
structure Z16 (W : World) (g g6 : Nat) (w : World) : Prop where
  row : w.heap[g6]? = some (.cells (P36 (fun _ => 0) 0) 27 (0, 0))
  base : W.heap.size ≤ g6
  ne : g ≠ g6
theorem Z16.next {W : World} {g g6 : Nat} {w w' : World} (h : Z16 W g g6 w) (hb : Below w.heap.size w w') : Z16 W g g6 w' := ⟨row_keep h.row hb, h.base, h.ne⟩
theorem Z16.new {W : World} {g : Nat} {c : Array Value} {A : Option Addr} {n cap : Nat} {q : List Nat} {w : World} (h : Q16 W g c A n cap q w) : Z16 W g w.heap.size (w.alloc (.cells (P36 (fun _ => 0) 0) 27)) :=
  ⟨heap_alloc_new _ _, h.below.size, by have := lt_of_row h.row; omega⟩
theorem kp2_done {W : World} {g g6 : Nat} {c d : Array Value} {A : Option Addr} {n cap : Nat} {q : List Nat} {w : World} (h : Q16 W g c A n cap q w) (z : Z16 W g g6 w) : Kp2 W g c 27 g6 d 27 (w.setRow g6 d) :=
  ⟨below_setRow h.below z.base _, (setRow_other w g6 g d z.ne).trans h.row, setRow_heap _ _ _ _ _ _ z.row⟩
def Cut16 (W : World) (g : Nat) (c : Array Value) (s : Value) (w : World) : Prop := ∃ g6, s = .pointer (some ⟨g6, 0, none⟩) ∧ Kp2 W g c 27 g6 c 27 w

theorem wp_convO {o : Oper} {a : Act} {w : World} {K : Act → World → Prop} {Q : Exit → Act → World → Prop} (x : Operand) (ho : o.op = .convert 29 9 x) (v u : Value) (hx : a.eval x = v)
    (h : (convert 29 9 v).run Try.prog w = .ok u w) (hk : K (a.put o.dst u) w) : o.wp Try.prog a w K Q := by
  unfold Oper.wp execOp
  simp only [ho, hx, Sem.run_bind, h, Result.andThen_ok]
  exact hk

set_option maxRecDepth 4000 in
set_option maxHeartbeats 4000000 in
theorem exactOrder_core (a : Option Addr) (l : List Nat) (la ca : Nat) (hla : Hid (la = l.length)) (b : Option Addr) (lm : List Nat) (lb cb : Nat) (hlb : Hid (lb = lm.length)) (c : Nat) (hc : c < 256) (hL : ¬ 40 < la) (W : World) (HA : Hid (FlAt W a l)) (HM : Hid (ByAt W b lm)) :
    Calls Try.prog 4 #[.slice a la ca, .slice b lb cb, .int .u8 c] W fun e w' => e = .returned (.bool true) ∧ Below W.heap.size W w' := by
  obtain ⟨X, o, hX, hva⟩ := va_some l
  have hsa := same_gives (accN l) (accH l)
  have hse := fun w => lawSame_self X o hX w
  have HSE := Lib.hid hse
  have HH := Lib.hid (accH_lt l)
  clear hse hX
  go_enter Try.func4, Try.ntmps4
  go_wp2_with (first
    | (go_at_call 5; refine (awake_any _).mono ?_; rintro e w1 ⟨rfl, hb⟩; have HB := Lib.hid hb; clear hb)
    | (refine wpList_append_fl rfl (.tmp 26) (.tmp 27) rfl W.heap.size none 0 0 [] rfl (OwnF.nil _ _) a la ca l rfl hla.out (FlAt.keep HA.out HB.out) (by omega) HB.out.size ?_; intro A cap w2 own hgr hblk))
  have own' : OwnF w2 W.heap.size A la cap l := by simpa using own
  have hW2 : Below W.heap.size W w2 := HB.out.grown hgr HB.out.size (by intro k h; cases h)
  clear own hgr hblk HB
  go_loopw [8] (fun i wr => ∃ (k : Nat) (q : List Nat), k ≤ 40 ∧ i = .int .i64 k ∧ List.Perm q l ∧ OwnF wr W.heap.size A la cap q ∧ Below W.heap.size W wr) (fun i _ => 40 - (intOf i).toNat)
  case atStart => exact ⟨0, l, by omega, rfl, List.Perm.refl _, own', hW2⟩
  case round =>
    clear own' hW2
    obtain ⟨k, q, hk, rfl, hp, ow, hb⟩ := hrel
    by_cases hgo : k < lb ∧ k < 40 ∧ 0 < la
    · obtain ⟨h1, h2, h3⟩ := hgo
      have hq : la = q.length := by rw [hp.length_eq]; exact hla.out
      obtain ⟨g, cs, rfl, R⟩ := ow.row h3
      have hkl : k < lm.length := by have := hlb.out; omega
      have hq0 : 0 < q.length := by omega
      obtain ⟨hx, bg, off, rfl, hg, hc0⟩ := HM.out k lm[k] (List.getElem?_eq_getElem hkl)
      have hcb : wr.cell? ⟨bg, off + k, none⟩ = some (.int .u8 ((lm[k] : Nat) : Int)) := (hb.cell (p := ⟨bg, off + k, none⟩) hg).trans hc0
      clear hc0
      generalize lm[k] = x at *
      have hj : x % la < la := Nat.mod_lt _ h3
      have hrem : (x : Int) % (la : Int) = ((x % la : Nat) : Int) := (Int.natCast_emod x la).symm
      have hne : ¬ ((la : Int) = 0) := by omega
      generalize x % la = j at *
      have hqj : j < q.length := by omega
      have Rj := R.cell j q[j] (List.getElem?_eq_getElem hqj) hj
      have R0 := R.cell 0 q[0] (List.getElem?_eq_getElem (by omega)) h3
      obtain ⟨cj, fj⟩ := Rj
      obtain ⟨c0, f0⟩ := R0
      have hY : q[0] < 18446744073709551616 := R.lt _ (List.getElem_mem hq0)
      have hX : q[j] < 18446744073709551616 := R.lt _ (List.getElem_mem hqj)
      have R1 := R.set j q[0] hY
      have f1 := row_frozen R1.row 0
      have c1 : ∃ v, (wr.setCell ⟨g, j, none⟩ (.float .f64 q[0])).cell? ⟨g, 0, none⟩ = some v := by
        refine ⟨_, row_cell R1.row 0 ?_⟩
        rw [R1.size]; exact Nat.lt_of_lt_of_le h3 (R.le hq)
      obtain ⟨v1, c1⟩ := c1
      have R2 := Lib.hid (R1.set 0 q[j] hX)
      have HE : Hid ((q.set j q[0]).set 0 q[j] = swap0 q j) := Lib.hid (by unfold swap0; rw [List.getD_eq_getElem?_getD, List.getD_eq_getElem?_getD, List.getElem?_eq_getElem hq0, List.getElem?_eq_getElem hqj]; rfl)
      have HP := Lib.hid ((swap0_perm q j hqj).trans hp)
      have HQ := Lib.hid hq
      have HB2 := Lib.hid (below_setCell_all hb R.base j (.float .f64 q[0]) 0 (.float .f64 q[j]))
      have s1 := run_store_fl wr _ q[0] _ cj fj
      have s2 := run_store_fl _ _ q[j] _ c1 f1
      generalize q[0] = Y at *
      generalize q[j] = X at *
      clear hq hqj hq0 hkl R R1 ow HM hg hp
      go_wp2
      go_roundw
      case rel => exact ⟨k + 1, swap0 q j, by omega, by go_num, HP.out, by rw [← HE.out]; exact R2.out.own (by rw [HE.out, swap0_len]; exact HQ.out), HB2.out⟩
      case measure => simp [intOf]; omega
    · skip
      have hq : la = q.length := by rw [hp.length_eq]; exact hla.out
      have hcase : (¬ k < lb ∨ ¬ k < 40 ∨ ¬ 0 < la) := by omega
      have HQ := Lib.hid hq
      clear hgo hq
      go_upto_region 6 with fail
      go_cut [41] from 29 to 64 (fun s41 wc => s41 = Value.bool false ∧ wc = wr)
      case first =>
        rcases hcase with h1 | h1 | h1
        all_goals
          go_wp2_with fail
          all_goals
            go_meet
            case rel => exact ⟨rfl, rfl⟩
      case rest =>
        obtain ⟨rfl, rfl⟩ := hcut
        clear hcase hk
        obtain ⟨j, hj, hj1, hj2⟩ : ∃ j : Nat, j ≤ la ∧ (0 < la → (c : Int) % (la : Int) = (j : Int)) ∧ (¬ 0 < la → j = 0) := by
          by_cases h0 : 0 < la
          · exact ⟨c % la, Nat.le_of_lt (Nat.mod_lt _ h0), fun _ => (Int.natCast_emod c la).symm, fun h => absurd h0 h⟩
          · exact ⟨0, by omega, fun h => absurd h h0, fun _ => rfl⟩
        have hsp := split_sums l q j hp
        have HS := Lib.hid hsp
        have HO := Lib.hid ow
        clear hp ow hsp
        go_upto_region 13 with fail
        go_upto_if 67 with fail
        go_cut [11] from 29 to 74 (fun s11 wx => s11 = Value.int .i64 j ∧ wx = wc)
        case first =>
          by_cases h0 : 0 < la
          · have hne : ¬ ((la : Int) = 0) := by omega
            have hj1 := Lib.hid (hj1 h0)
            go_wp2_with fail
            go_meet
            case rel => exact ⟨by rw [hj1.out], rfl⟩
          · obtain rfl := hj2 h0
            go_wp2_with fail
            go_meet
            case rel => exact ⟨rfl, rfl⟩
        case rest =>
          obtain ⟨rfl, rfl⟩ := hcut
          clear hj1 hj2
          obtain ⟨Q1, rt, ft⟩ := cut_toF A la cap j hj (OwnF.caps HO.out).1
          obtain ⟨Q2, C2, rf, -, -, ff⟩ := cut_fromF A la cap j hj (OwnF.caps HO.out).1
          go_upto_region 16 with (first
            | (go_at_call 6; refine (of_slice a l la ca hla (by omega) _ (FlAt.keep HA.out hb)).mono ?_; rintro e w5 ⟨rfl, hb5⟩)
            | (rw [zeros36]; refine wpList_store_row rfl 27 (.tmp 12) (.tmp 74) rfl w5.heap.size (P36 (wd (accN l)) (accH l)) rfl rfl _ _ (heap_alloc_new _ _) (i36 _ _) (by rw [P36_size, P36_size]) (one36 _ _) ?_; rw [World.setRow_alloc_new]; have hk := Kp.start w5 (P36 (wd (accN l)) (accH l)) 27))
          have hq : Q16 W w5.heap.size (P36 (wd (accN l)) (accH l)) A la cap q (w5.alloc (.cells (P36 (wd (accN l)) (accH l)) 27)) := ⟨below_to (below_to hb hb5) hk.below, hk.row, (HO.out.keep hb5).keep hk.below⟩
          clear hb hb5 hk HO
          generalize w5.alloc _ = w6 at *
          generalize w5.heap.size = g at *
          have HQ16 := Lib.hid hq
          clear hq
          try dsimp only [Act.put]
          go_cut [13] from 29 to 83 (Cut16 W g (P36 (wd (accN l)) (accH l)))
          case first =>
            have hq := HQ16.out
            have hq : Q16 W g _ A la cap q w6.drew := ⟨hq.below.drew, hq.row, hq.own.keep (Below.refl _ _).drew⟩
            refine wp_region_held_drew (S := fun _ => True) (by kernel_rfl) trivial (fun hHeld => ?_)
            refine wpAnyH_take (i := 0) (v := .slice A la cap) rfl (by kernel_rfl) (by kernel_rfl) (by kernel_rfl) (fun _ _ _ h => h) (Or.inl ⟨by rfl, fun _ _ => rfl⟩) hHeld ?_
            try dsimp only
            try simp only [Act.put, List.setIfInBounds_toArray, List.set_cons_zero, List.set_cons_succ]
            refine wpAnyH_take (i := 1) (v := .int .i64 j) rfl (by kernel_rfl) (by kernel_rfl) (by kernel_rfl) (fun _ _ _ h => h) (Or.inl ⟨by rfl, fun _ _ => rfl⟩) hHeld ?_
            try dsimp only
            try simp only [Act.put, List.setIfInBounds_toArray, List.set_cons_zero, List.set_cons_succ]
            refine wpAnyH_take (i := 2) (v := .slice Q1 j cap) rfl (by kernel_rfl) (by kernel_rfl) (by kernel_rfl) (fun _ _ _ h => h) (Or.inl ⟨by rfl, fun w _ => by have := rt w; go_simp⟩) hHeld ?_
            try dsimp only
            try simp only [Act.put, List.setIfInBounds_toArray, List.set_cons_zero, List.set_cons_succ]
            refine wpAnyH_take (i := 4) (v := .slice A la cap) rfl (by kernel_rfl) (by kernel_rfl) (by kernel_rfl) (fun _ _ _ h => h) (Or.inl ⟨by rfl, fun _ _ => rfl⟩) hHeld ?_
            try dsimp only
            try simp only [Act.put, List.setIfInBounds_toArray, List.set_cons_zero, List.set_cons_succ]
            refine wpAnyH_take (i := 5) (v := .int .i64 j) rfl (by kernel_rfl) (by kernel_rfl) (by kernel_rfl) (fun _ _ _ h => h) (Or.inl ⟨by rfl, fun _ _ => rfl⟩) hHeld ?_
            try dsimp only
            try simp only [Act.put, List.setIfInBounds_toArray, List.set_cons_zero, List.set_cons_succ]
            refine wpAnyH_take (i := 6) (v := .slice Q2 (la - j) C2) rfl (by kernel_rfl) (by kernel_rfl) (by kernel_rfl) (fun _ _ _ h => h) (Or.inl ⟨by rfl, fun w _ => by have := rf w; go_simp⟩) hHeld ?_
            try dsimp only
            try simp only [Act.put, List.setIfInBounds_toArray, List.set_cons_zero, List.set_cons_succ]
            refine wpAnyH_ready (rs := [3, 9]) (by kernel_rfl) (by simp) (AllReadyH.cons rfl (fun K hK => ?_) (AllReadyH.cons rfl (fun K hK => ?_) AllReadyH.nil))
            · skip
              go_simp
              refine (of_slice Q1 (q.take j) j cap (Lib.hid (by have := HQ.out; rw [List.length_take]; omega)) (by omega) _ (Lib.hid (ft _ _ HQ.out hq.own.flAt))).mono ?_
              rintro e w7 ⟨rfl, hb1⟩
              replace hq := hq.next hb1
              clear hb1
              refine hK.out _ _ trivial (fun hHeld => ?_)
              clear hK K
              try dsimp only
              try simp only [Act.put, List.setIfInBounds_toArray, List.set_cons_zero, List.set_cons_succ]
              refine wpAnyH_ready (rs := [7, 9]) (by kernel_rfl) (by simp) (AllReadyH.cons rfl (fun K hK => ?_) (AllReadyH.cons rfl (fun K hK => ?_) AllReadyH.nil))
              · skip
                go_simp
                refine (of_slice Q2 (q.drop j) (la - j) C2 (Lib.hid (by have := HQ.out; rw [List.length_drop]; omega)) (by omega) _ (Lib.hid (ff _ _ HQ.out hq.own.flAt))).mono ?_
                rintro e w8 ⟨rfl, hb1⟩
                replace hq := hq.next hb1
                clear hb1
                refine hK.out _ _ trivial (fun hHeld => ?_)
                clear hK K
                try dsimp only
                try simp only [Act.put, List.setIfInBounds_toArray, List.set_cons_zero, List.set_cons_succ]
                refine wpAnyH_ready (rs := [8, 9]) (by kernel_rfl) (by simp) (AllReadyH.cons rfl (fun K hK => ?_) (AllReadyH.cons rfl (fun K hK => ?_) AllReadyH.nil))
                · skip
                  go_simp
                  refine (join_any _ _ _ _ (Nat.lt_of_lt_of_le (accH_lt _) (by decide)) (Nat.lt_of_lt_of_le (accH_lt _) (by decide)) _).mono ?_
                  rw [HS.out.1, HS.out.2]
                  rintro e w9 ⟨rfl, hb1⟩
                  replace hq := hq.next hb1
                  clear hb1
                  refine hK.out _ _ trivial (fun hHeld => ?_)
                  clear hK K
                  try dsimp only
                  try simp only [Act.put, List.setIfInBounds_toArray, List.set_cons_zero, List.set_cons_succ]
                  refine wpAnyH_ready (rs := [9]) (by kernel_rfl) (by simp) (AllReadyH.cons rfl (fun K hK => ?_) AllReadyH.nil)
                  go_simp
                  rw [zeros36]
                  have hz := Z16.new hq
                  replace hq := hq.next ((Below.refl _ _).alloc (Nat.le_refl _) (.cells (P36 (fun _ => 0) 0) 27))
                  refine hK.out _ _ trivial (fun hHeld => ?_)
                  clear hK K
                  try dsimp only
                  try simp only [Act.put, List.setIfInBounds_toArray, List.set_cons_zero, List.set_cons_succ]
                  refine wpAnyH_ready (rs := [10]) (by kernel_rfl) (by simp) (AllReadyH.cons rfl (fun K hK => ?_) AllReadyH.nil)
                  rw [if_pos (by rfl)]
                  refine wp_store_row 27 (.tmp 13) (.tmp 83) rfl _ (P36 (wd _) _) rfl rfl _ _ hz.row (i36 _ _) (by rw [P36_size, P36_size]) (one36 _ _) ?_
                  have hd := kp2_done (d := (P36 (wd (accN l)) (accH l))) hq hz
                  refine hK.out _ _ trivial (fun hHeld => ?_)
                  clear hK K
                  refine wpAnyH_done (by kernel_rfl) ?_ _
                  go_wp2_with fail
                  go_meet
                  case rel => exact ⟨_, rfl, hd⟩
                · skip
                  go_simp
                  rw [zeros36]
                  have hz := Z16.new hq
                  replace hq := hq.next ((Below.refl _ _).alloc (Nat.le_refl _) (.cells (P36 (fun _ => 0) 0) 27))
                  refine hK.out _ _ trivial (fun hHeld => ?_)
                  clear hK K
                  try dsimp only
                  try simp only [Act.put, List.setIfInBounds_toArray, List.set_cons_zero, List.set_cons_succ]
                  refine wpAnyH_ready (rs := [8]) (by kernel_rfl) (by simp) (AllReadyH.cons rfl (fun K hK => ?_) AllReadyH.nil)
                  go_simp
                  refine (join_any _ _ _ _ (Nat.lt_of_lt_of_le (accH_lt _) (by decide)) (Nat.lt_of_lt_of_le (accH_lt _) (by decide)) _).mono ?_
                  rw [HS.out.1, HS.out.2]
                  rintro e w9 ⟨rfl, hb1⟩
                  replace hq := hq.next hb1
                  replace hz := hz.next hb1
                  clear hb1
                  refine hK.out _ _ trivial (fun hHeld => ?_)
                  clear hK K
                  try dsimp only
                  try simp only [Act.put, List.setIfInBounds_toArray, List.set_cons_zero, List.set_cons_succ]
                  refine wpAnyH_ready (rs := [10]) (by kernel_rfl) (by simp) (AllReadyH.cons rfl (fun K hK => ?_) AllReadyH.nil)
                  rw [if_pos (by rfl)]
                  refine wp_store_row 27 (.tmp 13) (.tmp 83) rfl _ (P36 (wd _) _) rfl rfl _ _ hz.row (i36 _ _) (by rw [P36_size, P36_size]) (one36 _ _) ?_
                  have hd := kp2_done (d := (P36 (wd (accN l)) (accH l))) hq hz
                  refine hK.out _ _ trivial (fun hHeld => ?_)
                  clear hK K
                  refine wpAnyH_done (by kernel_rfl) ?_ _
                  go_wp2_with fail
                  go_meet
                  case rel => exact ⟨_, rfl, hd⟩
              · skip
                go_simp
                rw [zeros36]
                have hz := Z16.new hq
                replace hq := hq.next ((Below.refl _ _).alloc (Nat.le_refl _) (.cells (P36 (fun _ => 0) 0) 27))
                refine hK.out _ _ trivial (fun hHeld => ?_)
                clear hK K
                try dsimp only
                try simp only [Act.put, List.setIfInBounds_toArray, List.set_cons_zero, List.set_cons_succ]
                refine wpAnyH_ready (rs := [7]) (by kernel_rfl) (by simp) (AllReadyH.cons rfl (fun K hK => ?_) AllReadyH.nil)
                go_simp
                refine (of_slice Q2 (q.drop j) (la - j) C2 (Lib.hid (by have := HQ.out; rw [List.length_drop]; omega)) (by omega) _ (Lib.hid (ff _ _ HQ.out hq.own.flAt))).mono ?_
                rintro e w8 ⟨rfl, hb1⟩
                replace hq := hq.next hb1
                replace hz := hz.next hb1
                clear hb1
                refine hK.out _ _ trivial (fun hHeld => ?_)
                clear hK K
                try dsimp only
                try simp only [Act.put, List.setIfInBounds_toArray, List.set_cons_zero, List.set_cons_succ]
                refine wpAnyH_ready (rs := [8]) (by kernel_rfl) (by simp) (AllReadyH.cons rfl (fun K hK => ?_) AllReadyH.nil)
                go_simp
                refine (join_any _ _ _ _ (Nat.lt_of_lt_of_le (accH_lt _) (by decide)) (Nat.lt_of_lt_of_le (accH_lt _) (by decide)) _).mono ?_
                rw [HS.out.1, HS.out.2]
                rintro e w9 ⟨rfl, hb1⟩
                replace hq := hq.next hb1
                replace hz := hz.next hb1
                clear hb1
                refine hK.out _ _ trivial (fun hHeld => ?_)
                clear hK K
                try dsimp only
                try simp only [Act.put, List.setIfInBounds_toArray, List.set_cons_zero, List.set_cons_succ]
                refine wpAnyH_ready (rs := [10]) (by kernel_rfl) (by simp) (AllReadyH.cons rfl (fun K hK => ?_) AllReadyH.nil)
                rw [if_pos (by rfl)]
                refine wp_store_row 27 (.tmp 13) (.tmp 83) rfl _ (P36 (wd _) _) rfl rfl _ _ hz.row (i36 _ _) (by rw [P36_size, P36_size]) (one36 _ _) ?_
                have hd := kp2_done (d := (P36 (wd (accN l)) (accH l))) hq hz
                refine hK.out _ _ trivial (fun hHeld => ?_)
                clear hK K
                refine wpAnyH_done (by kernel_rfl) ?_ _
                go_wp2_with fail
                go_meet
                case rel => exact ⟨_, rfl, hd⟩
            · skip
              go_simp
              rw [zeros36]
              have hz := Z16.new hq
              replace hq := hq.next ((Below.refl _ _).alloc (Nat.le_refl _) (.cells (P36 (fun _ => 0) 0) 27))
              refine hK.out _ _ trivial (fun hHeld => ?_)
              clear hK K
              try dsimp only
              try simp only [Act.put, List.setIfInBounds_toArray, List.set_cons_zero, List.set_cons_succ]
              refine wpAnyH_ready (rs := [3]) (by kernel_rfl) (by simp) (AllReadyH.cons rfl (fun K hK => ?_) AllReadyH.nil)
              go_simp
              refine (of_slice Q1 (q.take j) j cap (Lib.hid (by have := HQ.out; rw [List.length_take]; omega)) (by omega) _ (Lib.hid (ft _ _ HQ.out hq.own.flAt))).mono ?_
              rintro e w7 ⟨rfl, hb1⟩
              replace hq := hq.next hb1
              replace hz := hz.next hb1
              clear hb1
              refine hK.out _ _ trivial (fun hHeld => ?_)
              clear hK K
              try dsimp only
              try simp only [Act.put, List.setIfInBounds_toArray, List.set_cons_zero, List.set_cons_succ]
              refine wpAnyH_ready (rs := [7]) (by kernel_rfl) (by simp) (AllReadyH.cons rfl (fun K hK => ?_) AllReadyH.nil)
              go_simp
              refine (of_slice Q2 (q.drop j) (la - j) C2 (Lib.hid (by have := HQ.out; rw [List.length_drop]; omega)) (by omega) _ (Lib.hid (ff _ _ HQ.out hq.own.flAt))).mono ?_
              rintro e w8 ⟨rfl, hb1⟩
              replace hq := hq.next hb1
              replace hz := hz.next hb1
              clear hb1
              refine hK.out _ _ trivial (fun hHeld => ?_)
              clear hK K
              try dsimp only
              try simp only [Act.put, List.setIfInBounds_toArray, List.set_cons_zero, List.set_cons_succ]
              refine wpAnyH_ready (rs := [8]) (by kernel_rfl) (by simp) (AllReadyH.cons rfl (fun K hK => ?_) AllReadyH.nil)
              go_simp
              refine (join_any _ _ _ _ (Nat.lt_of_lt_of_le (accH_lt _) (by decide)) (Nat.lt_of_lt_of_le (accH_lt _) (by decide)) _).mono ?_
              rw [HS.out.1, HS.out.2]
              rintro e w9 ⟨rfl, hb1⟩
              replace hq := hq.next hb1
              replace hz := hz.next hb1
              clear hb1
              refine hK.out _ _ trivial (fun hHeld => ?_)
              clear hK K
              try dsimp only
              try simp only [Act.put, List.setIfInBounds_toArray, List.set_cons_zero, List.set_cons_succ]
              refine wpAnyH_ready (rs := [10]) (by kernel_rfl) (by simp) (AllReadyH.cons rfl (fun K hK => ?_) AllReadyH.nil)
              rw [if_pos (by rfl)]
              refine wp_store_row 27 (.tmp 13) (.tmp 83) rfl _ (P36 (wd _) _) rfl rfl _ _ hz.row (i36 _ _) (by rw [P36_size, P36_size]) (one36 _ _) ?_
              have hd := kp2_done (d := (P36 (wd (accN l)) (accH l))) hq hz
              refine hK.out _ _ trivial (fun hHeld => ?_)
              clear hK K
              refine wpAnyH_done (by kernel_rfl) ?_ _
              go_wp2_with fail
              go_meet
              case rel => exact ⟨_, rfl, hd⟩
          case rest =>
            obtain ⟨g6, rfl, hq⟩ := hcut
            clear HQ16
            go_upto_region 19 with (first
              | (refine wpList_sum (.tmp 12) rfl _ rfl _ _ _ _ hq.row1 rfl ?_)
              | (refine wpList_sum (.tmp 13) rfl _ rfl _ _ _ _ hq.row2 rfl ?_)
              | (go_at_call 8; (with_reducible refine (hva.at _).mono ?_); rintro e w7 ⟨rfl, hb1⟩; replace hq := hq.next hb1; clear hb1))
            refine wp_region_held_drew (S := Kp2 W g (P36 (wd (accN l)) (accH l)) 27 g6 (P36 (wd (accN l)) (accH l)) 27) (by kernel_rfl) hq.drew (fun hHeld => ?_)
            refine wpAnyH_take (i := 0) (v := .agg (P36 (wd (accN l)) (accH l))) rfl (by kernel_rfl) (by kernel_rfl) (by kernel_rfl) (fun _ _ _ h => h) (yieldsIf_row rfl 27 (.tmp 12) rfl g rfl _ _ _ _ (fun w' hw' => hw'.row1) u27 rfl (i36 _ _)) hHeld ?_
            try dsimp only
            try simp only [Act.put, List.setIfInBounds_toArray, List.set_cons_zero, List.set_cons_succ]
            refine wpAnyH_take (i := 1) (v := .agg (P36 (wd (accN l)) (accH l))) rfl (by kernel_rfl) (by kernel_rfl) (by kernel_rfl) (fun _ _ _ h => h) (yieldsIf_row rfl 27 (.tmp 13) rfl g6 rfl _ _ _ _ (fun w' hw' => hw'.row2) u27 rfl (i36 _ _)) hHeld ?_
            try dsimp only
            try simp only [Act.put, List.setIfInBounds_toArray, List.set_cons_zero, List.set_cons_succ]
            refine wpAnyH_ready (rs := [2]) (by kernel_rfl) (by simp) (AllReadyH.cons rfl (fun K hK => ?_) AllReadyH.nil)
            go_simp
            refine (hsa.at _).mono ?_
            rintro e w8 ⟨rfl, hb1⟩
            replace hHeld := hHeld.next hb1
            clear hb1
            refine hK.out _ _ hHeld (fun hHeld => ?_)
            clear hK K
            try dsimp only
            try simp only [Act.put, List.setIfInBounds_toArray, List.set_cons_zero, List.set_cons_succ]
            refine wpAnyH_take (i := 3) (v := .bool true) rfl (by kernel_rfl) (by kernel_rfl) (by kernel_rfl) (fun _ _ _ h => h) (Or.inl ⟨by rfl, fun _ _ => rfl⟩) hHeld ?_
            try dsimp only
            try simp only [Act.put, List.setIfInBounds_toArray, List.set_cons_zero, List.set_cons_succ]
            refine wpAnyH_take (i := 4) (v := .agg (P36 (wd (accN l)) (accH l))) rfl (by kernel_rfl) (by kernel_rfl) (by kernel_rfl) (fun _ _ _ h => h) (yieldsIf_row rfl 27 (.tmp 13) rfl g6 rfl _ _ _ _ (fun w' hw' => hw'.row2) u27 rfl (i36 _ _)) hHeld ?_
            try dsimp only
            try simp only [Act.put, List.setIfInBounds_toArray, List.set_cons_zero, List.set_cons_succ]
            refine wpAnyH_take (i := 5) (v := .agg (P36 (wd (accN l)) (accH l))) rfl (by kernel_rfl) (by kernel_rfl) (by kernel_rfl) (fun _ _ _ h => h) (yieldsIf_row rfl 27 (.tmp 12) rfl g rfl _ _ _ _ (fun w' hw' => hw'.row1) u27 rfl (i36 _ _)) hHeld ?_
            try dsimp only
            try simp only [Act.put, List.setIfInBounds_toArray, List.set_cons_zero, List.set_cons_succ]
            refine wpAnyH_ready (rs := [6]) (by kernel_rfl) (by simp) (AllReadyH.cons rfl (fun K hK => ?_) AllReadyH.nil)
            go_simp
            refine (hsa.at _).mono ?_
            rintro e w9 ⟨rfl, hb1⟩
            replace hHeld := hHeld.next hb1
            clear hb1
            refine hK.out _ _ hHeld (fun hHeld => ?_)
            clear hK K
            try dsimp only
            try simp only [Act.put, List.setIfInBounds_toArray, List.set_cons_zero, List.set_cons_succ]
            refine wpAnyH_take (i := 7) (v := .bool true) rfl (by kernel_rfl) (by kernel_rfl) (by kernel_rfl) (fun _ _ _ h => h) (Or.inl ⟨by rfl, fun _ _ => rfl⟩) hHeld ?_
            try dsimp only
            try simp only [Act.put, List.setIfInBounds_toArray, List.set_cons_zero, List.set_cons_succ]
            refine wpAnyH_take (i := 8) (v := .bool true) rfl (by kernel_rfl) (by kernel_rfl) (by kernel_rfl) (fun _ _ _ h => h) (Or.inl ⟨by rfl, fun _ _ => rfl⟩) hHeld ?_
            try dsimp only
            try simp only [Act.put, List.setIfInBounds_toArray, List.set_cons_zero, List.set_cons_succ]
            refine wpAnyH_take (i := 9) (v := .float .f64 X) rfl (by kernel_rfl) (by kernel_rfl) (by kernel_rfl) (fun _ _ _ h => h) (Or.inl ⟨by rfl, fun _ _ => rfl⟩) hHeld ?_
            try dsimp only
            try simp only [Act.put, List.setIfInBounds_toArray, List.set_cons_zero, List.set_cons_succ]
            refine wpAnyH_take (i := 10) (v := .bool o) rfl (by kernel_rfl) (by kernel_rfl) (by kernel_rfl) (fun _ _ _ h => h) (Or.inl ⟨by rfl, fun _ _ => rfl⟩) hHeld ?_
            try dsimp only
            try simp only [Act.put, List.setIfInBounds_toArray, List.set_cons_zero, List.set_cons_succ]
            refine wpAnyH_take (i := 11) (v := .float .f64 X) rfl (by kernel_rfl) (by kernel_rfl) (by kernel_rfl) (fun _ _ _ h => h) (Or.inl ⟨by rfl, fun _ _ => rfl⟩) hHeld ?_
            try dsimp only
            try simp only [Act.put, List.setIfInBounds_toArray, List.set_cons_zero, List.set_cons_succ]
            refine wpAnyH_take (i := 12) (v := .bool o) rfl (by kernel_rfl) (by kernel_rfl) (by kernel_rfl) (fun _ _ _ h => h) (Or.inl ⟨by rfl, fun _ _ => rfl⟩) hHeld ?_
            try dsimp only
            try simp only [Act.put, List.setIfInBounds_toArray, List.set_cons_zero, List.set_cons_succ]
            refine wpAnyH_ready (rs := [13]) (by kernel_rfl) (by simp) (AllReadyH.cons rfl (fun K hK => ?_) AllReadyH.nil)
            go_simp
            refine (HSE.out _).mono ?_
            rintro e w10 ⟨rfl, rfl⟩
            refine hK.out _ _ hHeld (fun hHeld => ?_)
            clear hK K
            try dsimp only
            try simp only [Act.put, List.setIfInBounds_toArray, List.set_cons_zero, List.set_cons_succ]
            refine wpAnyH_take (i := 14) (v := .bool true) rfl (by kernel_rfl) (by kernel_rfl) (by kernel_rfl) (fun _ _ _ h => h) (Or.inl ⟨by rfl, fun _ _ => rfl⟩) hHeld ?_
            try dsimp only
            try simp only [Act.put, List.setIfInBounds_toArray, List.set_cons_zero, List.set_cons_succ]
            refine wpAnyH_take (i := 15) (v := .bool true) rfl (by kernel_rfl) (by kernel_rfl) (by kernel_rfl) (fun _ _ _ h => h) (Or.inl ⟨by rfl, fun _ _ => rfl⟩) hHeld ?_
            try dsimp only
            try simp only [Act.put, List.setIfInBounds_toArray, List.set_cons_zero, List.set_cons_succ]
            refine wpAnyH_take (i := 16) (v := .agg (P36 (wd (accN l)) (accH l))) rfl (by kernel_rfl) (by kernel_rfl) (by kernel_rfl) (fun _ _ _ h => h) (yieldsIf_row rfl 27 (.tmp 12) rfl g rfl _ _ _ _ (fun w' hw' => hw'.row1) u27 rfl (i36 _ _)) hHeld ?_
            try dsimp only
            try simp only [Act.put, List.setIfInBounds_toArray, List.set_cons_zero, List.set_cons_succ]
            refine wpAnyH_take (i := 19) (v := .agg (P36 (wd (accN l)) (accH l))) rfl (by kernel_rfl) (by kernel_rfl) (by kernel_rfl) (fun _ _ _ h => h) (yieldsIf_row rfl 27 (.tmp 13) rfl g6 rfl _ _ _ _ (fun w' hw' => hw'.row2) u27 rfl (i36 _ _)) hHeld ?_
            try dsimp only
            try simp only [Act.put, List.setIfInBounds_toArray, List.set_cons_zero, List.set_cons_succ]
            refine wpAnyH_ready (rs := [17]) (by kernel_rfl) (by simp) (AllReadyH.cons rfl (fun K hK => ?_) AllReadyH.nil)
            go_simp
            refine (sumBytes_any _ _ (Nat.lt_of_lt_of_le HH.out (by decide)) _).mono ?_
            rintro e v1 ⟨A1, C1, rfl, own1, hb1⟩
            have hB1 := own1.byAt
            replace hHeld := hHeld.next hb1
            clear hb1 own1
            refine hK.out _ _ hHeld (fun hHeld => ?_)
            clear hK K
            try dsimp only
            try simp only [Act.put, List.setIfInBounds_toArray, List.set_cons_zero, List.set_cons_succ]
            refine wpAnyH_ready (rs := [18, 20]) (by kernel_rfl) (by simp) (AllReadyH.cons rfl (fun K hK => ?_) (AllReadyH.cons rfl (fun K hK => ?_) AllReadyH.nil))
            · skip
              rw [if_pos (by rfl)]
              refine wp_convO (.tmp 111) rfl (.slice A1 (accH l :: strip (fl280 (accN l) 280) 280).length C1) (.string (strB (accH l :: strip (fl280 (accN l) 280) 280))) rfl (conv_by _ C1 hB1 rfl) ?_
              refine hK.out _ _ hHeld (fun hHeld => ?_)
              clear hK K
              try dsimp only
              try simp only [Act.put, List.setIfInBounds_toArray, List.set_cons_zero, List.set_cons_succ]
              refine wpAnyH_ready (rs := [20]) (by kernel_rfl) (by simp) (AllReadyH.cons rfl (fun K hK => ?_) AllReadyH.nil)
              go_simp
              refine (sumBytes_any _ _ (Nat.lt_of_lt_of_le HH.out (by decide)) _).mono ?_
              rintro e v2 ⟨A2, C2, rfl, own2, hb1⟩
              have hB2 := own2.byAt
              replace hHeld := hHeld.next hb1
              clear hb1 own2
              refine hK.out _ _ hHeld (fun hHeld => ?_)
              clear hK K
              try dsimp only
              try simp only [Act.put, List.setIfInBounds_toArray, List.set_cons_zero, List.set_cons_succ]
              refine wpAnyH_ready (rs := [21]) (by kernel_rfl) (by simp) (AllReadyH.cons rfl (fun K hK => ?_) AllReadyH.nil)
              rw [if_pos (by rfl)]
              refine wp_convO (.tmp 114) rfl (.slice A2 (accH l :: strip (fl280 (accN l) 280) 280).length C2) (.string (strB (accH l :: strip (fl280 (accN l) 280) 280))) rfl (conv_by _ C2 hB2 rfl) ?_
              refine hK.out _ _ hHeld (fun hHeld => ?_)
              clear hK K
              try dsimp only
              try simp only [Act.put, List.setIfInBounds_toArray, List.set_cons_zero, List.set_cons_succ]
              refine wpAnyH_ready (rs := [22]) (by kernel_rfl) (by simp) (AllReadyH.cons rfl (fun K hK => ?_) AllReadyH.nil)
              go_simp
              refine hK.out _ _ hHeld (fun hHeld => ?_)
              clear hK K
              try dsimp only
              try simp only [Act.put, List.setIfInBounds_toArray, List.set_cons_zero, List.set_cons_succ]
              refine wpAnyH_ready (rs := [23]) (by kernel_rfl) (by simp) (AllReadyH.cons rfl (fun K hK => ?_) AllReadyH.nil)
              go_simp
              refine hK.out _ _ hHeld (fun hHeld => ?_)
              clear hK K
              try dsimp only
              try simp only [Act.put, List.setIfInBounds_toArray, List.set_cons_zero, List.set_cons_succ]
              refine wpAnyH_ready (rs := [24]) (by kernel_rfl) (by simp) (AllReadyH.cons rfl (fun K hK => ?_) AllReadyH.nil)
              go_simp
              refine hK.out _ _ hHeld (fun hHeld => ?_)
              clear hK K
              refine wpAnyH_done (by kernel_rfl) ?_ _
              go_wp2
              go_ret
              exact ⟨ret_eq rfl, hHeld.below⟩
            · skip
              go_simp
              refine (sumBytes_any _ _ (Nat.lt_of_lt_of_le HH.out (by decide)) _).mono ?_
              rintro e v2 ⟨A2, C2, rfl, own2, hb1⟩
              have hB2 := own2.byAt
              replace hB1 := hB1.keep hb1
              replace hHeld := hHeld.next hb1
              clear hb1 own2
              refine hK.out _ _ hHeld (fun hHeld => ?_)
              clear hK K
              try dsimp only
              try simp only [Act.put, List.setIfInBounds_toArray, List.set_cons_zero, List.set_cons_succ]
              refine wpAnyH_ready (rs := [18, 21]) (by kernel_rfl) (by simp) (AllReadyH.cons rfl (fun K hK => ?_) (AllReadyH.cons rfl (fun K hK => ?_) AllReadyH.nil))
              · skip
                rw [if_pos (by rfl)]
                refine wp_convO (.tmp 111) rfl (.slice A1 (accH l :: strip (fl280 (accN l) 280) 280).length C1) (.string (strB (accH l :: strip (fl280 (accN l) 280) 280))) rfl (conv_by _ C1 hB1 rfl) ?_
                refine hK.out _ _ hHeld (fun hHeld => ?_)
                clear hK K
                try dsimp only
                try simp only [Act.put, List.setIfInBounds_toArray, List.set_cons_zero, List.set_cons_succ]
                refine wpAnyH_ready (rs := [21]) (by kernel_rfl) (by simp) (AllReadyH.cons rfl (fun K hK => ?_) AllReadyH.nil)
                rw [if_pos (by rfl)]
                refine wp_convO (.tmp 114) rfl (.slice A2 (accH l :: strip (fl280 (accN l) 280) 280).length C2) (.string (strB (accH l :: strip (fl280 (accN l) 280) 280))) rfl (conv_by _ C2 hB2 rfl) ?_
                refine hK.out _ _ hHeld (fun hHeld => ?_)
                clear hK K
                try dsimp only
                try simp only [Act.put, List.setIfInBounds_toArray, List.set_cons_zero, List.set_cons_succ]
                refine wpAnyH_ready (rs := [22]) (by kernel_rfl) (by simp) (AllReadyH.cons rfl (fun K hK => ?_) AllReadyH.nil)
                go_simp
                refine hK.out _ _ hHeld (fun hHeld => ?_)
                clear hK K
                try dsimp only
                try simp only [Act.put, List.setIfInBounds_toArray, List.set_cons_zero, List.set_cons_succ]
                refine wpAnyH_ready (rs := [23]) (by kernel_rfl) (by simp) (AllReadyH.cons rfl (fun K hK => ?_) AllReadyH.nil)
                go_simp
                refine hK.out _ _ hHeld (fun hHeld => ?_)
                clear hK K
                try dsimp only
                try simp only [Act.put, List.setIfInBounds_toArray, List.set_cons_zero, List.set_cons_succ]
                refine wpAnyH_ready (rs := [24]) (by kernel_rfl) (by simp) (AllReadyH.cons rfl (fun K hK => ?_) AllReadyH.nil)
                go_simp
                refine hK.out _ _ hHeld (fun hHeld => ?_)
                clear hK K
                refine wpAnyH_done (by kernel_rfl) ?_ _
                go_wp2
                go_ret
                exact ⟨ret_eq rfl, hHeld.below⟩
              · skip
                rw [if_pos (by rfl)]
                refine wp_convO (.tmp 114) rfl (.slice A2 (accH l :: strip (fl280 (accN l) 280) 280).length C2) (.string (strB (accH l :: strip (fl280 (accN l) 280) 280))) rfl (conv_by _ C2 hB2 rfl) ?_
                refine hK.out _ _ hHeld (fun hHeld => ?_)
                clear hK K
                try dsimp only
                try simp only [Act.put, List.setIfInBounds_toArray, List.set_cons_zero, List.set_cons_succ]
                refine wpAnyH_ready (rs := [18]) (by kernel_rfl) (by simp) (AllReadyH.cons rfl (fun K hK => ?_) AllReadyH.nil)
                rw [if_pos (by rfl)]
                refine wp_convO (.tmp 111) rfl (.slice A1 (accH l :: strip (fl280 (accN l) 280) 280).length C1) (.string (strB (accH l :: strip (fl280 (accN l) 280) 280))) rfl (conv_by _ C1 hB1 rfl) ?_
                refine hK.out _ _ hHeld (fun hHeld => ?_)
                clear hK K
                try dsimp only
                try simp only [Act.put, List.setIfInBounds_toArray, List.set_cons_zero, List.set_cons_succ]
                refine wpAnyH_ready (rs := [22]) (by kernel_rfl) (by simp) (AllReadyH.cons rfl (fun K hK => ?_) AllReadyH.nil)
                go_simp
                refine hK.out _ _ hHeld (fun hHeld => ?_)
                clear hK K
                try dsimp only
                try simp only [Act.put, List.setIfInBounds_toArray, List.set_cons_zero, List.set_cons_succ]
                refine wpAnyH_ready (rs := [23]) (by kernel_rfl) (by simp) (AllReadyH.cons rfl (fun K hK => ?_) AllReadyH.nil)
                go_simp
                refine hK.out _ _ hHeld (fun hHeld => ?_)
                clear hK K
                try dsimp only
                try simp only [Act.put, List.setIfInBounds_toArray, List.set_cons_zero, List.set_cons_succ]
                refine wpAnyH_ready (rs := [24]) (by kernel_rfl) (by simp) (AllReadyH.cons rfl (fun K hK => ?_) AllReadyH.nil)
                go_simp
                refine hK.out _ _ hHeld (fun hHeld => ?_)
                clear hK K
                refine wpAnyH_done (by kernel_rfl) ?_ _
                go_wp2
                go_ret
                exact ⟨ret_eq rfl, hHeld.below⟩

theorem exactOrder_any (a : Option Addr) (l : List Nat) (la ca : Nat) (hla : Hid (la = l.length)) (_ : la ≤ ca) (_ : ca ≤ maxLen) (b : Option Addr) (m : List Nat) (lb cb : Nat) (hlb : Hid (lb = m.length)) (_ : lb ≤ cb) (_ : cb ≤ maxLen) (c : Nat) (hc : c < 256) (W : World) (HA : Hid (FlAt W a l)) (HM : Hid (ByAt W b m)) :
    Calls Try.prog 4 #[.slice a la ca, .slice b lb cb, .int .u8 c] W fun e w' => e = .returned (.bool true) ∧ Below W.heap.size W w' := by
  by_cases hL : 40 < la
  · exact exactOrder_long a la ca b lb cb c hL W
  · exact exactOrder_core a l la ca hla b m lb cb hlb c hc hL W HA HM
end Go.Proofs.Ytmnjkpomclaidaa
