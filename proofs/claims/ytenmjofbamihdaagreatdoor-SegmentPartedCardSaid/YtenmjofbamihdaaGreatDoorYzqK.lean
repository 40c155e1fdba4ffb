/-
  The law SegmentParted: two filters that part what a third one wants have its events, one behind the other.
-/
import Derived.Test.YtenmjofbamihdaaGreatDoorYzcK
import Derived.Test.YtenmjofbamihdaaGreatDoorYsaK
set_option linter.unusedSimpArgs false
set_option linter.unusedVariables false
set_option maxRecDepth 8000
namespace Go.Proofs.YtenmjofbamihdaaGreatDoor
open Go.RowKit Go.WideShapes Col
theorem wpList_wantedS {P : Program} {ops : Array Oper} {Q : Exit → Act → World → Prop} {a : Act} {w : World} {rest : List Oper} {o : Oper} (hw : Region.wanted o (yielded ops a.tmps) = true)
    (h : ∀ K : Act → World → Prop, (∀ a w, wpList P ops Q rest a w → K a w) → o.wp P a w K Q) : wpList P ops Q (o :: rest) a w :=
  wpList_step fun K hK => by simp only [hw, if_true]; exact h K hK
theorem wpList_append_evW {w : World} {ops : Array Oper} {rest : List Oper} {o : Oper} {ac : Act} {Q : Exit → Act → World → Prop} (hw : Region.wanted o (yielded ops ac.tmps) = true) (s x : Operand)
    (ho : o.op = .call { callee := .builtin .append, args := #[s, x], argTypes := #[22, 22] })
    (B : Nat) (A : Option Addr) (n cap : Nat) (l : List Ev) (hs : ac.eval s = .slice A n cap) (hown : OwnE w B A n cap l) (a : Option Addr) (m c : Nat) (l2 : List Ev) (hx : ac.eval x = .slice a m c) (hm : m = l2.length) (h2 : EvAt w a l2) (hnil : a = none → c = 0)
    (N : Nat) (hN : N = n + m) (hbytes : n + m ≤ 1000) (hbase : B ≤ w.heap.size)
    (h : ∀ A' cap' w', OwnE w' B A' N cap' (l ++ l2) → N ≤ cap' → cap' ≤ maxLen → (A' = none → cap' = 0) → Below B w w' → w.grownBy w' ((Value.slice A n cap).ownBlock) → (∀ k, A'.map (·.block) = some k → A.map (·.block) = some k ∨ w.heap.size ≤ k) → wpList Tryz.prog ops Q rest (ac.put o.dst (.slice A' N cap')) w') : wpList Tryz.prog ops Q (o :: rest) ac w := by
  subst hN
  obtain ⟨i0, hi, hz0, hz1, hz2⟩ := info_parts infoEv
  rcases a with _ | ad
  · obtain rfl := hnil rfl
    have hl2 : l2 = [] := by
      rcases l2 with _ | ⟨x, r⟩
      · rfl
      · obtain ⟨g, off, e, -⟩ := h2 0 (.int .u64 (x.off : Int)) rfl; cases e
    subst hl2
    have h0 : m = 0 := hm
    subst h0
    obtain ⟨A1, c1, e1, e2, e3, e4⟩ := ro_slice hown
    injection e1 with b1 b2 b3
    subst b1; subst b3
    have hrun := run_append_owned_none (P := Tryz.prog) (w := w) B 22 o.type 45 i0 5 Tryz.underlying22 hi (.slice A n cap) n (evs l) hown
    refine wpList_wantedS hw fun K hK => ?_
    unfold Oper.wp
    simp only [execOp, ho, resolve, invoke, builtin, hs, hx, hrun, Sem.run_bind, Sem.run_pure, Result.andThen_ok, List.map_toArray, List.map_cons, List.map_nil]
    refine hK _ _ ?_
    exact h A cap w (by rw [List.append_nil]; exact hown) e2 e3 e4 (Below.refl _ _) (World.grownBy.refl _ _) (fun k hk => .inl hk)
  · obtain ⟨v', w2, hr, hown2, hgr, -, h6⟩ := run_append_own_at (P := Tryz.prog) w B 22 o.type 45 i0 _ 5 48 Tryz.underlying22 hi hz0 hz1 hz2 rfl (by decide) (.slice A n cap) n (evs l) hown ad m c (evs l2) (by rw [evs_length, hm]) (fun j u hu => by
      obtain ⟨g', off', e, -, hc⟩ := h2 j u hu
      injection e with e; subst e
      rw [Addr.add_lit]; exact hc) (evs_one l2) (by unfold maxLen; omega) (by omega) hbase
    refine wpList_wantedS hw fun K hK => ?_
    unfold Oper.wp execOp
    simp only [ho, resolve, invoke, builtin, Sem.run_bind, Sem.run_pure, Result.andThen_ok, List.map_toArray, List.map_cons, List.map_nil, hs, hx, hr]
    refine hK _ _ ?_
    have e : evs l ++ evs l2 = evs (l ++ l2) := by unfold evs; rw [List.flatMap_append]
    rw [e] at hown2
    obtain ⟨A1, c1, rfl, e2, e3, e4⟩ := ro_slice hown2
    refine h A1 c1 w2 hown2 e2 e3 e4 ((Below.refl _ w).grown hgr hbase (ro_base hown)) hgr (fun k hk => ?_)
    rcases A1 with _ | a1
    · cases hk
    · have hk : a1.block = k := by simpa using hk
      subst hk
      rcases h6 with h6 | h6
      · left
        rcases A with _ | a
        · cases h6
        · have h6 : a1.block = a.block := by simpa [Value.ownBlock] using h6
          rw [h6]; rfl
      · right
        have h6 : a1.block = w.heap.size := by simpa [Value.ownBlock] using h6
        omega
theorem part_split (k : Nat) (lo hi : Int) : ∀ (M : List Ev) (b : Nat), (∀ i x, M[i]? = some x → x.off = b + i) → (∀ x ∈ M, x.off < 1099511627776) → M.filter (wantB 0 k lo hi) ++ M.filter (wantB k 1099511627776 lo hi) = M.filter (wantB 0 1099511627776 lo hi)
  | [], _, _, _ => rfl
  | a :: r, b, h, hf => by
    have ha := h 0 a rfl
    have hfa := hf a List.mem_cons_self
    by_cases hk : b < k
    · have ih := part_split k lo hi r (b + 1) (fun i x hx => by have := h (i + 1) x hx; omega) (fun x hx => hf x (List.mem_cons_of_mem _ hx))
      have e1 : wantB 0 k lo hi a = wantB 0 1099511627776 lo hi a := by unfold wantB; rw [decide_eq_true (show a.off < k by omega), decide_eq_true hfa]
      have e2 : wantB k 1099511627776 lo hi a = false := by unfold wantB; rw [decide_eq_false (show ¬ k ≤ a.off by omega)]; rfl
      rw [List.filter_cons, List.filter_cons, List.filter_cons, e1, e2, if_neg (by decide : ¬ (false = true)), ← ih]
      split <;> simp
    · have e1 : (a :: r).filter (wantB 0 k lo hi) = [] := by
        rw [List.filter_eq_nil_iff]
        intro x hx hw
        obtain ⟨i, hi⟩ := List.getElem?_of_mem hx
        have := h i x hi
        unfold wantB at hw
        simp only [Bool.and_eq_true, decide_eq_true_eq] at hw
        omega
      rw [e1, List.nil_append]
      refine List.filter_congr fun x hx => ?_
      obtain ⟨i, hi⟩ := List.getElem?_of_mem hx
      have := h i x hi
      unfold wantB
      rw [decide_eq_true (show k ≤ x.off by omega), decide_eq_true (show 0 ≤ x.off by omega)]
theorem scO_parted (k : Nat) (lo hi : Int) (M : List Ev) (h : ∀ i x, M[i]? = some x → x.off = 0 + i) (hf : ∀ x ∈ M, x.off < 1099511627776) : scO 0 k lo hi M (segN M) ++ scO k 1099511627776 lo hi M (segN M) = scO 0 1099511627776 lo hi M (segN M) := by
  unfold scO
  rw [List.take_of_length_le (by unfold segN; omega)]
  refine part_split k lo hi (M.map canE) 0 (fun i x hx => ?_) (fun x hx => ?_)
  · rw [List.getElem?_map] at hx
    rcases hm : M[i]? with _ | y
    · rw [hm] at hx; cases hx
    · rw [hm] at hx
      have hx : canE y = x := by simpa using hx
      subst hx
      exact h i y hm
  · obtain ⟨y, hy, rfl⟩ := List.mem_map.1 hx
    exact hf y hy
theorem scO_val (a b : Nat) (lo hi : Int) (M : List Ev) (k : Nat) (hv : ∀ x ∈ M, FineE x) : ∀ x ∈ scO a b lo hi M k, x.val < 18446744073709551616 := fun x hx => by
  unfold scO at hx
  obtain ⟨y, hy, rfl⟩ := List.mem_map.1 (List.mem_filter.1 hx).1
  exact Fl.canon_lt _ (hv y (List.mem_of_mem_take hy)).val
theorem one_same {l : List Ev} (hv : ∀ x ∈ l, x.val < 18446744073709551616) : ∀ (k : Nat) (x y : Ev), l[k]? = some x → l[k]? = some y → sameB x y = true ∧ x.val < 18446744073709551616 ∧ y.val < 18446744073709551616 := fun k x y hx hy => by
  rw [hx] at hy; injection hy with hy; subst hy
  have h := hv x (List.mem_of_getElem? hx)
  exact ⟨by unfold sameB keqB; simp, h, h⟩
theorem own_len {w : World} {B n cap : Nat} {A : Option Addr} {l : List Ev} (h : OwnE w B A n cap l) : n = l.length := by
  have h := h.1
  have e : (evs l).length = l.length * 5 := (by simp [evs_length])
  omega
set_option maxHeartbeats 8000000 in
theorem segmentParted_any (A0 : Option Addr) (l : List Ev) (n c0 : Nat) (hn : Hid (n = l.length)) (hnc : n ≤ c0) (hcm : c0 ≤ maxLen) (hv : ∀ x ∈ l, x.val < 18446744073709551616) (kk : Nat) (hkk : kk < 256) (lo : Int) (hlo : -128 ≤ lo ∧ lo ≤ 127) (hi : Int) (hhi : -128 ≤ hi ∧ hi ≤ 127)
    (w : World) (HE : Hid (EvAt w A0 l)) (HG : Hid (HalvesAt w)) :
    Calls Tryz.prog 7 #[.slice A0 n c0, .int .u8 (kk : Int), .int .i8 lo, .int .i8 hi] w fun e w' => e = .returned (.bool true) ∧ Below w.heap.size w w' := by
  have HB0 : Hid (Below w.heap.size w w) := Lib.hid (Below.refl _ _)
  by_cases h3 : 200 < n
  · have h3i : (200 : Int) < (n : Int) := by omega
    go_enter Tryz.func7, Tryz.ntmps7
    go_wp2_with (first
      | (go_at_call 8; (with_reducible refine (awakeS_any _ (Lib.hid (HG.out.keep HB1.out))).mono ?_); rintro e w2 ⟨rfl, h1⟩; have HB2 := Lib.hid (below_to HB1.out h1); clear h1)
      | (go_at_call 8; (with_reducible refine (awakeS_any _ (Lib.hid (HG.out.keep (by first | exact HB1.out | exact HB0.out)))).mono ?_); rintro e w1 ⟨rfl, h1⟩; have HB1 := Lib.hid (below_to (by first | exact HB1.out | exact HB0.out) h1); clear h1))
    go_ret
    exact ⟨rfl, HB2.out⟩
  · have h3i : ¬ (200 : Int) < (n : Int) := by omega
    have hlt : l.length ≤ 200 := by have := hn.out; omega
    have HFN : Hid (∀ x ∈ strE 0 ((8 : Nat) : Int) (l.take 150), FineE x) := Lib.hid (strE_fine 0 ((8 : Nat) : Int) (by omega) (l.take 150) (fun x hx => hv x (List.mem_of_mem_take hx)))
    have HCH : Hid (chkL ((8 : Nat) : Int) none (strE 0 ((8 : Nat) : Int) (l.take 150)) = 0) := Lib.hid (strE_chk 0 ((8 : Nat) : Int) (l.take 150))
    have HOF : Hid (∀ i a, (strE 0 ((8 : Nat) : Int) (l.take 150))[i]? = some a → a.off = 0 + i) := Lib.hid (fun i a ha => strE_off 0 ((8 : Nat) : Int) (l.take 150) i a ha)
    have HLM : Hid ((strE 0 ((8 : Nat) : Int) (l.take 150)).length ≤ 150) := Lib.hid (Nat.le_trans (strE_len 0 ((8 : Nat) : Int) (l.take 150)) (by rw [List.length_take]; omega))
    have HST : Hid (∀ v, Below w.heap.size w v → Calls Tryz.prog 9 #[.slice A0 n c0, .int .u64 0, .int .i64 8] v fun e w' => ∃ A m cap, e = .returned (.slice A m cap) ∧ OwnE w' v.heap.size A m cap (strE 0 ((8 : Nat) : Int) (l.take 150)) ∧ m ≤ cap ∧ cap ≤ maxLen ∧ Below v.heap.size v w') := Lib.hid fun v hb => stretch_any A0 n c0 l hn 0 (by omega) ((8 : Nat) : Int) (by omega) v (Lib.hid (HE.out.keep hb))
    clear hlt hv
    generalize strE 0 ((8 : Nat) : Int) (l.take 150) = M at *
    go_enter Tryz.func7, Tryz.ntmps7
    go_upto_region 4 with (first
      | (go_at_call 8; (with_reducible refine (awakeS_any _ (Lib.hid (HG.out.keep (by first | exact HB1.out | exact HB0.out)))).mono ?_); rintro e w1 ⟨rfl, h1⟩; have HB1 := Lib.hid (below_to (by first | exact HB1.out | exact HB0.out) h1); clear h1)
      | (go_at_call 9; (with_reducible refine (HST.out _ HB1.out).mono ?_); rintro e w2 ⟨A2, m, cm, rfl, h1, h2, h4, h5⟩; have HO2 := Lib.hid h1; have HC2 := Lib.hid (And.intro h2 h4); have HB2 := Lib.hid (below_to HB1.out h5); clear h1 h2 h4 h5))
    have HML : Hid (m = M.length) := Lib.hid (own_len HO2.out)
    have hm15 : m ≤ 150 := by have := HML.out; have := HLM.out; omega
    by_cases hm0 : m = 0
    · have hmi : ((m : Int) == 0) = true := by subst hm0; rfl
      go_wp2
      go_ret
      exact ⟨rfl, HB2.out⟩
    · have hmi : ((m : Int) == 0) = false := by rw [beq_eq_false_iff_ne]; omega
      have hEA := HO2.out.at'
      have h0 : 0 < M.length := by have := HML.out; omega
      have hM15 : M.length ≤ 150 := HLM.out
      obtain ⟨x0, hx0⟩ : ∃ x, M[0]? = some x := ⟨_, List.getElem?_eq_getElem h0⟩
      obtain ⟨gm, om, rfl, -, -⟩ := evr hEA 0 x0 hx0
      have HEM := Lib.hid hEA
      have HW : Hid (Calls Tryz.prog 10 #[.slice (some ⟨gm, om, none⟩) m cm, .int .i64 8] w2 fun e w' => ∃ A m cap, e = .returned (.tuple #[.slice A m cap, .int .i64 0]) ∧ OwnS w' w2.heap.size A m cap (segB 8 M) ∧ Below w2.heap.size w2 w') := Lib.hid (write_any gm om m cm M HML (by omega) (by omega) HC2.out.1 HC2.out.2 8 (by omega) (by omega) HCH HFN w2 HEM (Lib.hid (HG.out.keep HB2.out)))
      have HOP : Hid ((∀ x ∈ segB 8 M, x < 256) → openP (segB 8 M) = some ((8, segCk M), (segPg M).length)) := Lib.hid fun hb => segB_opens 8 (by omega) (by omega) M h0 (by omega) HCH.out HFN.out hb
      have HLN : Hid ((segB 8 M).length ≤ 1000000) := Lib.hid (segB_len 8 (by omega) M h0 (by omega) HFN.out)
      have HSA : Hid (∀ (v : World) (b : Nat), (∀ x ∈ segB 8 M, x < 256) → HalvesAt v → SegAt v b (segB 8 M) 8 (segCk M) (segPg M).length → Calls Tryz.prog 13 #[.pointer (some ⟨b, 0, none⟩), .agg #[.int .u64 0, .int .u64 (kk : Int), .int .i64 lo, .int .i64 hi]] v fun e w' => ∃ A q cap, e = .returned (.tuple #[.slice A q cap, .int .i64 (scN 0 kk lo hi M (segN M) : Nat), .int .i64 0]) ∧ OwnE w' v.heap.size A q cap (scO 0 kk lo hi M (segN M)) ∧ q ≤ cap ∧ cap ≤ maxLen ∧ Below v.heap.size v w') := Lib.hid fun v b hby hg hs =>
        (show Calls Tryz.prog 13 #[.pointer (some ⟨b, 0, none⟩), .agg #[.int .u64 0, .int .u64 (kk : Int), .int .i64 lo, .int .i64 hi]] v _ from scan_any b 8 M h0 (by omega) HCH HFN (Lib.hid hby) HLN.out (0) (kk) lo hi v (Lib.hid hs) (Lib.hid hg))
      have HSB : Hid (∀ (v : World) (b : Nat), (∀ x ∈ segB 8 M, x < 256) → HalvesAt v → SegAt v b (segB 8 M) 8 (segCk M) (segPg M).length → Calls Tryz.prog 13 #[.pointer (some ⟨b, 0, none⟩), .agg #[.int .u64 (kk : Int), .int .u64 1099511627776, .int .i64 lo, .int .i64 hi]] v fun e w' => ∃ A q cap, e = .returned (.tuple #[.slice A q cap, .int .i64 (scN kk 1099511627776 lo hi M (segN M) : Nat), .int .i64 0]) ∧ OwnE w' v.heap.size A q cap (scO kk 1099511627776 lo hi M (segN M)) ∧ q ≤ cap ∧ cap ≤ maxLen ∧ Below v.heap.size v w') := Lib.hid fun v b hby hg hs =>
        (show Calls Tryz.prog 13 #[.pointer (some ⟨b, 0, none⟩), .agg #[.int .u64 (kk : Int), .int .u64 1099511627776, .int .i64 lo, .int .i64 hi]] v _ from scan_any b 8 M h0 (by omega) HCH HFN (Lib.hid hby) HLN.out (kk) (1099511627776) lo hi v (Lib.hid hs) (Lib.hid hg))
      have HSD : Hid (∀ (v : World) (b : Nat), (∀ x ∈ segB 8 M, x < 256) → HalvesAt v → SegAt v b (segB 8 M) 8 (segCk M) (segPg M).length → Calls Tryz.prog 13 #[.pointer (some ⟨b, 0, none⟩), .agg #[.int .u64 0, .int .u64 1099511627776, .int .i64 lo, .int .i64 hi]] v fun e w' => ∃ A q cap, e = .returned (.tuple #[.slice A q cap, .int .i64 (scN 0 1099511627776 lo hi M (segN M) : Nat), .int .i64 0]) ∧ OwnE w' v.heap.size A q cap (scO 0 1099511627776 lo hi M (segN M)) ∧ q ≤ cap ∧ cap ≤ maxLen ∧ Below v.heap.size v w') := Lib.hid fun v b hby hg hs =>
        (show Calls Tryz.prog 13 #[.pointer (some ⟨b, 0, none⟩), .agg #[.int .u64 0, .int .u64 1099511627776, .int .i64 lo, .int .i64 hi]] v _ from scan_any b 8 M h0 (by omega) HCH HFN (Lib.hid hby) HLN.out (0) (1099511627776) lo hi v (Lib.hid hs) (Lib.hid hg))
      have HPT := Lib.hid (scO_parted kk lo hi M HOF.out (fun x hx => (HFN.out x hx).off))
      have HLA : Hid ((scO 0 kk lo hi M (segN M)).length ≤ 150) := Lib.hid (Nat.le_trans (scO_len _ _ _ _ _ _) hM15)
      have HLB : Hid ((scO kk 1099511627776 lo hi M (segN M)).length ≤ 150) := Lib.hid (Nat.le_trans (scO_len _ _ _ _ _ _) hM15)
      have HVC : Hid (∀ x ∈ scO 0 1099511627776 lo hi M (segN M), x.val < 18446744073709551616) := Lib.hid (scO_val _ _ _ _ _ _ HFN.out)
      clear hEA hx0 HFN HCH HLM h3 h3i HST hM15 HOF h0
      generalize scO 0 kk lo hi M (segN M) = LA at *
      generalize scO kk 1099511627776 lo hi M (segN M) = LB at *
      generalize scO 0 1099511627776 lo hi M (segN M) = LC at *
      generalize scN 0 kk lo hi M (segN M) = NA at *
      generalize scN kk 1099511627776 lo hi M (segN M) = NB at *
      generalize scN 0 1099511627776 lo hi M (segN M) = NC at *
      generalize segB 8 M = P at *
      generalize segCk M = cs at *
      generalize (segPg M).length = foot at *
      go_upto_region 8 with (first
        | (go_at_call 10; (with_reducible refine HW.out.mono ?_); rintro e w3 ⟨A3, m3, c3, rfl, h1, h2⟩; have HO3 := Lib.hid h1; have HK3 := Lib.hid h2; have HB3 := Lib.hid (below_to HB2.out h2); clear h1 h2)
        | (go_at_call 11; have hop := open_any A3 m3 c3 P (Lib.hid HO3.out.len) (by have := HLN.out; have := HO3.out.len; omega) HO3.out.caps.1 HO3.out.caps.2 w3 (Lib.hid HO3.out.byAt) (Lib.hid (HG.out.keep HB3.out)); rw [HOP.out HO3.out.2] at hop; (with_reducible refine hop.mono ?_); rintro e w4 ⟨b, rfl, hs, -, h2⟩; have HS4 : Hid (SegAt w4 b P 8 cs foot) := Lib.hid hs; have HB4 := Lib.hid (below_to HB3.out h2); clear hop hs h2))
      have HBY := Lib.hid HO3.out.2
      clear HW HOP HLN
      have h11 : IntKind.u64.wrap (kk : Int) = (kk : Int) := by rw [IntKind.wrap_u64]; omega
      have h12 : IntKind.i64.wrap lo = lo := by rw [IntKind.wrap_i64]; omega
      have h13 : IntKind.i64.wrap hi = hi := by rw [IntKind.wrap_i64]; omega
      go_wp2_with (first
        | (go_at_call 13; (with_reducible refine (HSA.out w4 b HBY.out (HG.out.keep HB4.out) HS4.out).mono ?_); rintro e w5 ⟨A5, q5, c5, rfl, ho, h51, h52, h⟩; have HO5 := Lib.hid ho; have HB5 := Lib.hid (below_to HB4.out h); have HS5 := Lib.hid (HS4.out.keep h); have hw45 := h.size; clear h ho)
        | (go_at_call 13; (with_reducible refine (HSB.out w5 b HBY.out (HG.out.keep HB5.out) HS5.out).mono ?_); rintro e w6 ⟨A6, q6, c6, rfl, ho, h61, h62, h⟩; have HE6 := Lib.hid ho.at'; have HOA6 := Lib.hid (ownE_keep HO5.out h); have HQ6 := Lib.hid (own_len ho); have HNIL6 : Hid (A6 = none → c6 = 0) := Lib.hid (fun e => by obtain ⟨A', c', e1, -, -, e4⟩ := ro_slice ho; injection e1 with e1 e2 e3; rw [e3]; exact e4 (by rw [← e1]; exact e)); have HB6 := Lib.hid (below_to HB5.out h); have HS6 := Lib.hid (HS5.out.keep h); have hw56 := h.size; clear h ho)
        | (go_at_call 13; (with_reducible refine (HSD.out w6 b HBY.out (HG.out.keep HB6.out) HS6.out).mono ?_); rintro e w7 ⟨A7, q7, c7, rfl, ho, h71, h72, h⟩; have HO7 := Lib.hid ho; have HE7 := Lib.hid (HE6.out.keep h); have HOA7 := Lib.hid (ownE_keep HOA6.out h); have HLT7 := Lib.hid (World.ownsRow.lt HOA6.out); have hsz : w4.heap.size ≤ w7.heap.size := Nat.le_trans hw45 (Nat.le_trans hw56 h.size); have HB7 := Lib.hid (below_to HB6.out h); clear h ho)
        | (at_builtin; refine wpList_append_evW (by rfl) _ _ rfl w4.heap.size A5 q5 c5 LA rfl HOA7.out A6 q6 c6 LB rfl HQ6.out HE7.out HNIL6.out (q5 + q6) rfl (by have := own_len HOA7.out; have := HQ6.out; have := HLA.out; have := HLB.out; omega) hsz ?_; intro A8 c8 w8 ho8 h81 h82 h83 hb8 hg8 hm8; have HE8 := Lib.hid ho8.at'; have HN8 := Lib.hid (own_len ho8); have HC8 : Hid (EvAt w8 A7 LC) := Lib.hid (HO7.out.at'.keptY (S := fun k => (Value.slice A5 q5 c5).ownBlock = some k) ⟨hg8.os, hg8.tape, hg8.output, hg8.size, fun k hk hs => hg8.block k hk (fun e => hs e.symm)⟩ (fun a ha hs => by have h1 := (HLT7.out _ hs).2; have h2 := (World.ownsRow.lt HO7.out a.block (by rw [ha]; simp [Value.ownBlock])).1; omega)); have HB8 := Lib.hid (HB7.out.trans (hb8.mono HB4.out.size)); clear ho8 h81 h82 h83 hb8 hg8 hm8)
        | (go_at_call 16; have hq : q7 = q5 + q6 := (by have h1 := own_len HO7.out; have h2 := HN8.out; rw [HPT.out] at h2; omega); subst hq; (with_reducible refine (sameAllS_any A8 A7 (q5 + q6) c8 c7 (LA ++ LB) LC HN8 (Lib.hid (own_len HO7.out)) (by have := own_len HOA7.out; have := HQ6.out; have := HLA.out; have := HLB.out; omega) (Lib.hid (by rw [HPT.out]; exact one_same HVC.out)) w8 HE8 HC8).mono ?_); rintro e w9 ⟨rfl, h⟩; have HB9 := Lib.hid (below_to HB8.out h); clear h))
      go_ret
      exact ⟨by first | rfl | simp, HB9.out⟩
end Go.Proofs.YtenmjofbamihdaaGreatDoor
