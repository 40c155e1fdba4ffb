/-
  Layer whole: WholeOrder.
-/
import Derived.Test.YtckfndnaaljmhaaZtR
import Derived.Test.YtckfndnaaljmhaaZwpR
set_option linter.unusedSimpArgs false
set_option linter.unusedVariables false
set_option maxRecDepth 8000
namespace Go.Proofs.Ytckfndnaaljmhaa
open Go.RowKit Go.Sort Sm

/-- A row of events, whole. -/
theorem ownE_row {w : World} {B g n cap : Nat} {q : List Ev} (h : OwnE w B (some ⟨g, 0, none⟩) n cap q) : ∃ cur : List Value, w.heap[g]? = some (.cells cur.toArray 76 (0, 0)) ∧ cur.length = cap * 5 ∧ cap ≤ maxLen ∧ cur.take (n * 5) = evs q ∧ B ≤ g ∧ n ≤ cap ∧ n = q.length := by
  have hl : n = q.length := by have := h.1; rw [evs_length] at this; omega
  rcases h.2 with ⟨h1, h2⟩ | ⟨g', cap', cur, h1, hb, hrow, hkc, hc, hs, ht⟩
  · cases h1
  · cases h1
    exact ⟨cur.toList, by simpa using hrow, by rw [Array.length_toList, hs], hc, ht, hb, hkc, hl⟩
theorem evs_set (q : List Ev) (k : Nat) (y : Ev) (hk : k < q.length) : evs (q.set k y) = (evs q).take (k * 5) ++ y.cells ++ (evs q).drop (k * 5 + 5) := by
  have h1 : q.set k y = q.take k ++ y :: q.drop (k + 1) := List.set_eq_take_append_cons_drop.trans (by rw [if_pos hk])
  have h2 : (evs q).take (k * 5) = evs (q.take k) := by
    have e : evs q = evs (q.take k) ++ evs (q.drop k) := by unfold evs; rw [← List.flatMap_append, List.take_append_drop]
    have hl : (evs (q.take k)).length = k * 5 := by rw [evs_length, List.length_take, Nat.min_eq_left (by omega)]
    rw [e, ← hl, List.take_left]
  have h3 : (evs q).drop (k * 5 + 5) = evs (q.drop (k + 1)) := by
    have e : evs q = evs (q.take (k + 1)) ++ evs (q.drop (k + 1)) := by unfold evs; rw [← List.flatMap_append, List.take_append_drop]
    have hl : (evs (q.take (k + 1))).length = k * 5 + 5 := by rw [evs_length, List.length_take, Nat.min_eq_left (by omega)]; omega
    rw [e, ← hl, List.drop_left]
  rw [h2, h3, h1]
  unfold evs
  rw [List.flatMap_append, List.flatMap_cons, List.append_assoc]
theorem ownE_set {w' : World} {B g n cap k : Nat} {q : List Ev} {cur : List Value} {y : Ev} (hcl : cur.length = cap * 5) (hcm : cap ≤ maxLen) (ht : cur.take (n * 5) = evs q) (hb : B ≤ g) (hnc : n ≤ cap) (hn : n = q.length) (hk : k < n)
    (hr : w'.heap[g]? = some (.cells (cur.take (k * 5) ++ y.cells ++ cur.drop (k * 5 + y.cells.length)).toArray 76 (0, 0))) : OwnE w' B (some ⟨g, 0, none⟩) n cap (q.set k y) := by
  have hy : y.cells.length = 5 := rfl
  have hl2 : (cur.take (k * 5) ++ y.cells ++ cur.drop (k * 5 + y.cells.length)).length = cap * 5 := by
    rw [List.length_append, List.length_append, List.length_take, List.length_drop, hy, hcl]; omega
  refine ⟨by rw [evs_length, List.length_set]; omega, .inr ⟨g, cap, _, rfl, hb, hr, hnc, hcm, by rw [List.size_toArray]; exact hl2, ?_⟩⟩
  show List.take (n * 5) (cur.take (k * 5) ++ y.cells ++ cur.drop (k * 5 + y.cells.length)) = _
  rw [evs_set q k y (by omega), ← ht, hy]
  have e1 : (cur.take (n * 5)).take (k * 5) = cur.take (k * 5) := by rw [List.take_take, Nat.min_eq_left (by omega)]
  have e2 : (cur.take (n * 5)).drop (k * 5 + 5) = (cur.drop (k * 5 + 5)).take (n * 5 - (k * 5 + 5)) := by rw [List.drop_take]
  rw [e1, e2, List.take_append, List.take_of_length_le (l := cur.take (k * 5) ++ y.cells) (by rw [List.length_append, List.length_take, hy]; omega)]
  congr 1
  rw [List.length_append, List.length_take, hy, hcl]
  congr 1
  omega
theorem wpList_store_partE {ops : Array Oper} {rest : List Oper} {o : Oper} {a : Act} {w : World} {Q : Exit → Act → World → Prop} (hgd : o.guard = none) (x y : Operand) (ho : o.op = .store 76 x y) (b of : Nat) (e : Ev) (hx : a.eval x = .pointer (some ⟨b, of, none⟩)) (hy : a.eval y = .agg [.int .u64 (e.off : Int), .int .i64 e.part, .int .i64 e.time, .string e.key, .float .f64 e.val].toArray)
    (cur : List Value) (hrow : w.heap[b]? = some (.cells cur.toArray 76 (0, 0))) (hfit : of + 5 ≤ cur.length)
    (h : wpList Try.prog ops Q rest (a.put o.dst undef) (w.setRow b (cur.take of ++ e.cells ++ cur.drop (of + e.cells.length)).toArray)) : wpList Try.prog ops Q (o :: rest) a w :=
  wpList_plain hgd fun K hK => wp_store_part 76 76 x y ho b of e.cells hx hy (by kernel_rfl) cur hrow hfit (cells_one e) (hK _ _ h)
set_option maxHeartbeats 8000000 in
theorem order13_any (x : Cn) (hx : x.Ok) (a : Option Addr) (n cp : Nat) (ps : List Pt) (hn : n = ps.length) (hp : ∀ p ∈ ps, p.Ok) (ab : Option Addr) (lb cb : Nat) (bs : List Nat) (hlb : Hid (lb = bs.length)) (W : World) (HA : Hid (PtAt W a ps)) (HY : Hid (ByAt W ab bs)) :
    Calls Try.prog 6 #[x.v, .slice a n cp, .slice ab lb cb] W fun e w' => e = .returned (.bool true) ∧ Below W.heap.size W w' := by
  have HN := Lib.hid hn
  have HP := Lib.hid hp
  clear hn hp
  have HAWK := Lib.hid awake13_any
  have HCF := Lib.hid (config_cn x hx)
  have HWX : Hid (Below W.heap.size W (W.alloc (.cells #[.int .u8 x.a, .int .u8 x.b, .int .u8 x.c, .int .u8 x.d, .int .u8 x.e, .int .u8 x.f, .int .u8 x.g] 60))) := Lib.hid ((Below.refl _ _).alloc (Nat.le_refl _) _)
  have HRX : Hid ((W.alloc (.cells #[.int .u8 x.a, .int .u8 x.b, .int .u8 x.c, .int .u8 x.d, .int .u8 x.e, .int .u8 x.f, .int .u8 x.g] 60)).heap[W.heap.size]? = some (.cells #[.int .u8 x.a, .int .u8 x.b, .int .u8 x.c, .int .u8 x.d, .int .u8 x.e, .int .u8 x.f, .int .u8 x.g] 60 (0, 0))) := Lib.hid (heap_new W _)
  clear hx
  go_enter Try.func6, Try.ntmps6
  go_upto_region 4 with (first
    | (go_at_call 37; (with_reducible refine (HAWK.out _).mono ?_); rintro e w1 ⟨rfl, hb1⟩; have HB1 := Lib.hid (HWX.out.trans (hb1.mono HWX.out.size)); have HR1 := Lib.hid (row_keep HRX.out hb1); clear hb1)
    | (refine wpList_load_row rfl 60 (.tmp 3) rfl W.heap.size rfl _ #[.int .u8 x.a, .int .u8 x.b, .int .u8 x.c, .int .u8 x.d, .int .u8 x.e, .int .u8 x.f, .int .u8 x.g] (0, 0) _ HR1.out uCn rfl (by kernel_rfl) ?_)
    | (go_at_call 38; (with_reducible refine (HCF.out _).mono ?_); rintro e w2 ⟨c, hc, hc30, hc3, rfl, hb2⟩; have HC := Lib.hid hc; have HC30 := Lib.hid (And.intro hc30 hc3); have HB2 := Lib.hid (bto HB1.out hb2); clear hc hc30 hc3 hb2))
  have HLG : Hid (∀ w, Below W.heap.size W w → Calls Try.prog 39 #[c.v, .slice a n cp, .int .i64 40] w (LgEnds w (lgL c ps (min n 40)))) := Lib.hid fun w hb => log_any c HC.out a n cp ps HP.out 40 HN.out (by omega) w (Lib.hid (HA.out.keep hb))
  have HFT : Hid (EvFit (lgL c ps (min n 40))) := Lib.hid (lgL_fit c ps HP.out _ (by have := HN.out; omega) (by omega))
  have HLL : Hid ((lgL c ps (min n 40)).length ≤ 40) := Lib.hid (by rw [lgL_len]; omega)
  have HAN : Hid (AntiE (lgL c ps (min n 40))) := Lib.hid (anti_log _ _ _)
  generalize lgL c ps (min n 40) = l at *
  obtain ⟨w3, hw3⟩ : ∃ w3, w3 = w2.alloc (.cells #[.int .u8 (c.kind : Int), .int .i64 c.size, .int .i64 c.step, .int .i64 c.late, .int .i64 c.skew, .int .i64 c.parts, .int .u64 (c.cut : Int)] 64) := ⟨_, rfl⟩
  rw [← hw3]
  have HB3 : Hid (Below W.heap.size W w3) := Lib.hid (by rw [hw3]; exact HB2.out.alloc HB2.out.size _)
  obtain ⟨bc, hbc⟩ : ∃ bc, bc = w2.heap.size := ⟨_, rfl⟩
  have HRC : Hid (w3.heap[bc]? = some (.cells #[.int .u8 (c.kind : Int), .int .i64 c.size, .int .i64 c.step, .int .i64 c.late, .int .i64 c.skew, .int .i64 c.parts, .int .u64 (c.cut : Int)] 64 (0, 0))) := Lib.hid (by rw [hw3, hbc]; exact heap_new w2 _)
  rw [← hbc]
  clear hw3 hbc
  go_upto_region 5 with (first
    | (refine wpList_load_row rfl 64 (.tmp 7) rfl bc rfl _ #[.int .u8 (c.kind : Int), .int .i64 c.size, .int .i64 c.step, .int .i64 c.late, .int .i64 c.skew, .int .i64 c.parts, .int .u64 (c.cut : Int)] (0, 0) _ HRC.out uCf rfl (by kernel_rfl) ?_)
    | (go_at_call 39; (with_reducible refine (HLG.out _ HB3.out).mono ?_); rintro e w4 ⟨Al, nl, cl, rfl, hnl, hol, hb4⟩; have HNL := Lib.hid hnl; have HOL := Lib.hid hol; have HB4 := Lib.hid (bto HB3.out hb4); have HRC4 := Lib.hid (row_keep HRC.out hb4); clear hnl hol hb4))
  have nl40 : nl ≤ 40 := by have := HNL.out; have := HLL.out; omega
  go_wp2_with (at_builtin; refine wpList_append_ev rfl _ _ rfl w4.heap.size none 0 0 [] rfl (World.ownsRow_nil _ _ _ 5) Al nl cl l rfl HNL.out HOL.out.at (fun e => ((evSl_own HOL.out).nil e).2) nl (by omega) (by omega) (Nat.le_refl _) ?_; intro An cn w5 ho5 hc5 hm5 hn5 hb5; have HO5 := Lib.hid ho5; have HB5 := Lib.hid hb5; clear ho5 hc5 hm5 hn5 hb5)
  go_loopw [10] (fun i wr => ∃ (k : Nat) (q : List Ev), k ≤ lb ∧ k ≤ 40 ∧ i = .int .i64 k ∧ q.Perm l ∧ OwnE wr w4.heap.size An nl cn q ∧ Below w4.heap.size w4 wr) (fun i _ => 40 - (intOf i).toNat)
  case atStart => exact ⟨0, l, Nat.zero_le _, Nat.zero_le _, rfl, List.Perm.refl _, HO5.out, HB5.out⟩
  case round =>
    obtain ⟨i, q, hi, hi40, rfl, hpq, hoq, hb⟩ := hrel
    have HPQ := Lib.hid hpq; have HOQ := Lib.hid hoq; have HB := Lib.hid hb
    clear hpq hoq hb
    by_cases hgo : i < lb ∧ i < 40 ∧ 0 < nl
    · obtain ⟨h1, h2, h3⟩ := hgo
      have h1' : (i : Int) < (lb : Int) := by omega
      have h2' : (i : Int) < 40 := by omega
      have h3' : (0 : Int) < (nl : Int) := by omega
      obtain ⟨v, hv⟩ : ∃ v, bs[i]? = some v := ⟨bs[i]'(by have := hlb.out; omega), List.getElem?_eq_getElem _⟩
      obtain ⟨hv256, gb, ob, hab, hgb, hcb⟩ := HY.out i v hv
      subst hab
      have hc : wr.cell? ⟨gb, ob + i, none⟩ = some (.int .u8 (v : Int)) := by
        rw [(HB.out).cell (p := ⟨gb, ob + i, none⟩) (Nat.lt_of_lt_of_le hgb HB4.out.size), HB4.out.cell (p := ⟨gb, ob + i, none⟩) hgb]; exact hcb
      obtain ⟨k, hk⟩ : ∃ k : Nat, (v : Int) % (nl : Int) = (k : Int) := ⟨v % nl, by simp⟩
      have hkn : k < nl := by
        have := Int.emod_lt_of_pos (v : Int) (b := (nl : Int)) (by omega); omega
      obtain ⟨gn, hAn, hgn, -⟩ := evsl_range HOQ.out 0 (q[0]'(by have := HOQ.out.1; rw [evs_length] at this; omega)) (List.getElem?_eq_getElem _)
      subst hAn
      obtain ⟨cur, hrow, hcl, hcm, hct, hbg, hnc, hnq⟩ := ownE_row HOQ.out
      obtain ⟨y, hy⟩ : ∃ y, q[k]? = some y := ⟨q[k]'(by omega), List.getElem?_eq_getElem _⟩
      obtain ⟨z, hz⟩ : ∃ z, q[0]? = some z := ⟨q[0]'(by omega), List.getElem?_eq_getElem _⟩
      have HYR : Hid (wr.rangeAt gn (k * 5) y.cells) := Lib.hid (by
        obtain ⟨g', e', -, hr'⟩ := evsl_range HOQ.out k y hy
        injection e' with e'; injection e' with e'; subst e'; exact hr')
      have HZR : Hid (wr.rangeAt gn 0 z.cells) := Lib.hid (by
        obtain ⟨g', e', -, hr'⟩ := evsl_range HOQ.out 0 z hz
        injection e' with e'; injection e' with e'; subst e'; rw [Nat.zero_mul] at hr'; exact hr')
      have HSP : Hid ((((q.set k z).set 0 y)).Perm q) := Lib.hid (by
        have h8 := List.getElem?_eq_some_iff.1 hy
        have h9 := List.getElem?_eq_some_iff.1 hz
        have h7 := List.set_set_perm h8.1 h9.1
        rw [h8.2, h9.2] at h7
        exact h7)
      have HROW := Lib.hid hrow
      have HCUR := Lib.hid (And.intro hcl (And.intro hcm (And.intro hct (And.intro hbg (And.intro hnc hnq)))))
      have HGN := Lib.hid hgn
      have hkI : (k : Int) < (nl : Int) := by omega
      have hnz : ¬ ((nl : Int) = 0) := by omega
      clear hv hgb hcb hrow hcl hcm hct hbg hnc hnq hy hz hgn
      go_upto_region 12 with (first
        | (refine wpList_load_mid rfl 76 (.tmp 48) rfl gn (k * 5) rfl [.int .u64 (y.off : Int), .int .i64 y.part, .int .i64 y.time, .string y.key, .float .f64 y.val] _ HYR.out uEv rfl (by kernel_rfl) ?_)
        | (refine wpList_store_row rfl 76 (.tmp 12) (.tmp 49) rfl _ #[.int .u64 (y.off : Int), .int .i64 y.part, .int .i64 y.time, .string y.key, .float .f64 y.val] rfl rfl _ _ (heap_alloc_new _ _) (by kernel_rfl) rfl (by simp [Value.oneCell']) ?_; rw [World.setRow_alloc_new]))
      obtain ⟨we, hwe⟩ : ∃ we, we = wr.alloc (.cells #[.int .u64 (y.off : Int), .int .i64 y.part, .int .i64 y.time, .string y.key, .float .f64 y.val] 76) := ⟨_, rfl⟩
      rw [← hwe]
      have HBE : Hid (Below w4.heap.size w4 we) := Lib.hid (by rw [hwe]; exact HB.out.alloc HB.out.size _)
      have HEW : Hid (we.heap[gn]? = some (.cells cur.toArray 76 (0, 0))) := Lib.hid (by rw [hwe]; exact row_alloc' HROW.out _)
      have HEE : Hid (we.heap[wr.heap.size]? = some (.cells #[.int .u64 (y.off : Int), .int .i64 y.part, .int .i64 y.time, .string y.key, .float .f64 y.val] 76 (0, 0))) := Lib.hid (by rw [hwe]; exact heap_new wr _)
      have HZE : Hid (we.rangeAt gn 0 z.cells) := Lib.hid (by rw [hwe]; exact zkeep HZR.out HGN.out ((Below.refl _ _).alloc (Nat.le_refl _) _))
      have HNG : Hid (wr.heap.size ≠ gn) := Lib.hid (by have := HGN.out; omega)
      obtain ⟨be, hbe⟩ : ∃ be, be = wr.heap.size := ⟨_, rfl⟩
      rw [← hbe] at HEE HNG ⊢
      clear hwe hbe
      go_upto_region 13 with (first
        | (refine wpList_load_mid rfl 76 (.tmp 53) rfl gn 0 rfl [.int .u64 (z.off : Int), .int .i64 z.part, .int .i64 z.time, .string z.key, .float .f64 z.val] _ HZE.out uEv rfl (by kernel_rfl) ?_)
        | (refine wpList_store_partE rfl (.tmp 55) (.tmp 54) rfl gn (k * 5) z rfl rfl cur HEW.out (by have := HCUR.out; omega) ?_))
      obtain ⟨w6, hw6⟩ : ∃ w6, w6 = we.setRow gn (cur.take (k * 5) ++ z.cells ++ cur.drop (k * 5 + z.cells.length)).toArray := ⟨_, rfl⟩
      rw [← hw6]
      have HB6 : Hid (Below w4.heap.size w4 w6) := Lib.hid (by rw [hw6]; exact below_setRow HBE.out HCUR.out.2.2.2.1 _)
      have HO6 : OwnE w6 w4.heap.size (some ⟨gn, 0, none⟩) nl cn (q.set k z) := ownE_set HCUR.out.1 HCUR.out.2.1 HCUR.out.2.2.1 HCUR.out.2.2.2.1 HCUR.out.2.2.2.2.1 HCUR.out.2.2.2.2.2 hkn (by rw [hw6]; exact setRow_heap _ _ _ _ _ _ HEW.out)
      have HE6 : Hid (w6.heap[be]? = some (.cells #[.int .u64 (y.off : Int), .int .i64 y.part, .int .i64 y.time, .string y.key, .float .f64 y.val] 76 (0, 0))) := Lib.hid (by rw [hw6]; exact (setRow_other _ _ _ _ HNG.out).trans HEE.out)
      obtain ⟨cur1, hrow1, hcl1, hcm1, hct1, hbg1, hnc1, hnq1⟩ := ownE_row HO6
      have HROW1 := Lib.hid hrow1
      have HCUR1 := Lib.hid (And.intro hcl1 (And.intro hcm1 (And.intro hct1 (And.intro hbg1 (And.intro hnc1 hnq1)))))
      clear hw6 hrow1 hcl1 hcm1 hct1 hbg1 hnc1 hnq1 HO6
      go_wp2_with (first
        | (refine wpList_load_row rfl 76 (.tmp 12) rfl be rfl _ #[.int .u64 (y.off : Int), .int .i64 y.part, .int .i64 y.time, .string y.key, .float .f64 y.val] (0, 0) _ HE6.out uEv rfl (by kernel_rfl) ?_)
        | (refine wpList_store_partE rfl (.tmp 58) (.tmp 57) rfl gn 0 y rfl rfl cur1 HROW1.out (by have := HCUR1.out; omega) ?_; obtain ⟨w7, hw7⟩ : ∃ w7, w7 = w6.setRow gn (cur1.take 0 ++ y.cells ++ cur1.drop (0 + y.cells.length)).toArray := ⟨_, rfl⟩; rw [← hw7]; have HW7 := Lib.hid hw7; clear hw7))
      have HO7 : Hid (OwnE w7 w4.heap.size (some ⟨gn, 0, none⟩) nl cn ((q.set k z).set 0 y)) := Lib.hid (ownE_set (k := 0) HCUR1.out.1 HCUR1.out.2.1 HCUR1.out.2.2.1 HCUR1.out.2.2.2.1 HCUR1.out.2.2.2.2.1 HCUR1.out.2.2.2.2.2 h3 (by rw [HW7.out, Nat.zero_mul]; exact setRow_heap _ _ _ _ _ _ HROW1.out))
      have HB7 : Hid (Below w4.heap.size w4 w7) := Lib.hid (by rw [HW7.out]; exact below_setRow HB6.out HCUR1.out.2.2.2.1 _)
      go_roundw
      case rel => exact ⟨i + 1, _, h1, h2, by go_num, HSP.out.trans HPQ.out, HO7.out, HB7.out⟩
      case measure => simp [intOf]; omega
    · have HPP : Hid (panesL c q = panesL c l) := Lib.hid (panes_perm HAN.out HPQ.out)
      have HFQ := Lib.hid (fit_perm HFT.out HPQ.out)
      have HRC9 := Lib.hid ((HB.out.block _ (Array.getElem?_eq_some_iff.1 HRC4.out).1).trans HRC4.out)
      have HBR : Hid (Below W.heap.size W wr) := Lib.hid (HB4.out.trans (HB.out.mono HB4.out.size))
      have HE1 : Hid (EvSl wr Al nl cl l) := Lib.hid ((evSl_own HOL.out).keep HB.out)
      have HE2 : Hid (EvSl wr An nl cn q) := Lib.hid (evSl_own HOQ.out)
      have HP1 := Lib.hid fun w (hb : Below wr.heap.size wr w) => panes13_any c HC.out Al nl cl l HFT.out w (Lib.hid (HE1.out.keep hb))
      have HP2 := Lib.hid fun w (hb : Below wr.heap.size wr w) => panes13_any c HC.out An nl cn q HFQ.out w (Lib.hid (HE2.out.keep hb))
      have HPK := Lib.hid (pz_ok HC.out HFT.out)
      have HFEW := Lib.hid (pz_few HC.out HFT.out)
      have HSA0 := Lib.hid fun A1 A2 n1 c1 c2 B1 B2 w hl h1 h2 => rsameZ A1 A2 n1 c1 c2 B1 B2 (panesL c l) (panesL c l) hl HPK.out HPK.out (Alk.refl _) w (Lib.hid h1) (Lib.hid h2)
      have HSA : Hid (∀ (A1 A2 : Option Addr) (n1 c1 c2 B1 B2 : Nat) (w : World), n1 ≤ 1000 → OwnPz w B1 A1 n1 c1 (panesL c l) → OwnPz w B2 A2 n1 c2 (panesL c l) → Calls Try.prog 40 #[.slice A1 n1 c1, .slice A2 n1 c2] w fun e w' => e = .returned (.bool true) ∧ Below w.heap.size w w') := HSA0
      clear HSA0
      rw [HPP.out] at HP2
      clear HPP
      generalize panesL c l = PL at *
      have hend : ∀ R : Prop, (i < lb → i < 40 → 0 < nl → False) → (¬ i < lb → R) → (i < lb → ¬ i < 40 → R) → (i < lb → i < 40 → nl = 0 → R) → R := fun R h0 h1 h2 h3 => by
        by_cases a1 : i < lb
        · by_cases a2 : i < 40
          · by_cases a3 : 0 < nl
            · exact (h0 a1 a2 a3).elim
            · exact h3 a1 a2 (by omega)
          · exact h2 a1 a2
        · exact h1 a1
      refine hend _ (fun h1 h2 h3 => hgo ⟨h1, h2, h3⟩) (fun h1 => ?_) (fun h1 h2 => ?_) (fun h1 h2 h3 => ?_)
      all_goals
        clear hend hgo
        try (have h1' : (i : Int) < (lb : Int) := by omega)
        try (have h1' : ¬ ((i : Int) < (lb : Int)) := by omega)
        try (have h2' : (i : Int) < 40 := by omega)
        try (have h2' : ¬ ((i : Int) < 40) := by omega)
        try (have h3' : ¬ ((0 : Int) < (nl : Int)) := by omega)
        try clear h1
        try clear h2
        try clear h3
        go_wp2
        refine wp_region_held_drew (S := fun w' => Below wr.heap.size wr w') (by kernel_rfl) ((Below.refl _ wr).drew) (fun hHeld => ?_)
        refine wpAnyH_take (i := 0) (v := .agg #[.int .u8 (c.kind : Int), .int .i64 c.size, .int .i64 c.step, .int .i64 c.late, .int .i64 c.skew, .int .i64 c.parts, .int .u64 (c.cut : Int)]) rfl (by kernel_rfl) (by kernel_rfl) (by kernel_rfl) (fun _ _ _ h => h) (yieldsIf_row rfl 64 (.tmp 7) rfl bc rfl _ _ _ _ (fun w hw => row_keep HRC9.out hw) uCf rfl (by kernel_rfl)) hHeld ?_
        try dsimp only
        try simp only [Act.put, List.getElem_toArray, List.getElem_cons_zero, List.getElem_cons_succ, List.setIfInBounds_toArray, List.set_cons_zero, List.set_cons_succ]
        refine wpAnyH_take (i := 1) (v := .slice Al nl cl) rfl (by kernel_rfl) (by kernel_rfl) (by kernel_rfl) (fun _ _ _ h => h) (Or.inl ⟨by rfl, fun _ _ => rfl⟩) hHeld ?_
        try dsimp only
        try simp only [Act.put, List.getElem_toArray, List.getElem_cons_zero, List.getElem_cons_succ, List.setIfInBounds_toArray, List.set_cons_zero, List.set_cons_succ]
        refine wpAnyH_take (i := 3) (v := .agg #[.int .u8 (c.kind : Int), .int .i64 c.size, .int .i64 c.step, .int .i64 c.late, .int .i64 c.skew, .int .i64 c.parts, .int .u64 (c.cut : Int)]) rfl (by kernel_rfl) (by kernel_rfl) (by kernel_rfl) (fun _ _ _ h => h) (yieldsIf_row rfl 64 (.tmp 7) rfl bc rfl _ _ _ _ (fun w hw => row_keep HRC9.out hw) uCf rfl (by kernel_rfl)) hHeld ?_
        try dsimp only
        try simp only [Act.put, List.getElem_toArray, List.getElem_cons_zero, List.getElem_cons_succ, List.setIfInBounds_toArray, List.set_cons_zero, List.set_cons_succ]
        refine wpAnyH_take (i := 4) (v := .slice An nl cn) rfl (by kernel_rfl) (by kernel_rfl) (by kernel_rfl) (fun _ _ _ h => h) (Or.inl ⟨by rfl, fun _ _ => rfl⟩) hHeld ?_
        try dsimp only
        try simp only [Act.put, List.getElem_toArray, List.getElem_cons_zero, List.getElem_cons_succ, List.setIfInBounds_toArray, List.set_cons_zero, List.set_cons_succ]
        refine wpAnyH_ready (rs := [2]) (by kernel_rfl) (by simp) (AllReadyH.cons rfl (fun K hK => ?_) AllReadyH.nil)
        go_simp
        refine (HP1.out _ hHeld).mono ?_
        rintro e v1 ⟨A1, n1, c1, rfl, hn1, -, -, -, ho1, hb1⟩
        replace hHeld := bto hHeld hb1
        have HN1 := Lib.hid hn1
        have HO1 := Lib.hid ho1
        clear hn1 ho1 hb1
        refine hK.out _ _ hHeld (fun hHeld => ?_)
        clear hK K
        try dsimp only
        try simp only [Act.put, List.getElem_toArray, List.getElem_cons_zero, List.getElem_cons_succ, List.setIfInBounds_toArray, List.set_cons_zero, List.set_cons_succ]
        refine wpAnyH_ready (rs := [5]) (by kernel_rfl) (by simp) (AllReadyH.cons rfl (fun K hK => ?_) AllReadyH.nil)
        go_simp
        refine (HP2.out _ hHeld).mono ?_
        rintro e v2 ⟨A2, n2, c2, rfl, hn2, -, -, -, ho2, hb2⟩
        replace hHeld := bto hHeld hb2
        have HO1b := Lib.hid (HO1.out.below hb2 (fun g' off e => (HO1.out.lt g' off e).1))
        have HO2 := Lib.hid ho2
        have h12 : n2 = n1 := hn2.trans HN1.out.symm
        subst h12
        clear hn2 ho2 hb2
        refine hK.out _ _ hHeld (fun hHeld => ?_)
        clear hK K
        try dsimp only
        try simp only [Act.put, List.getElem_toArray, List.getElem_cons_zero, List.getElem_cons_succ, List.setIfInBounds_toArray, List.set_cons_zero, List.set_cons_succ]
        refine wpAnyH_ready (rs := [6]) (by kernel_rfl) (by simp) (AllReadyH.cons rfl (fun K hK => ?_) AllReadyH.nil)
        go_simp
        refine (HSA.out A1 A2 n2 c1 c2 _ _ _ (by rw [HN1.out]; exact HFEW.out) HO1b.out HO2.out).mono ?_
        rintro e v3 ⟨rfl, hb3⟩
        replace hHeld := bto hHeld hb3
        refine hK.out _ _ hHeld (fun hHeld => ?_)
        clear hK K
        try dsimp only
        try simp only [Act.put, List.getElem_toArray, List.getElem_cons_zero, List.getElem_cons_succ, List.setIfInBounds_toArray, List.set_cons_zero, List.set_cons_succ]
        refine wpAnyH_ready (rs := [7]) (by kernel_rfl) (by simp) (AllReadyH.cons rfl (fun K hK => ?_) AllReadyH.nil)
        go_simp
        refine hK.out _ _ hHeld (fun _ => ?_)
        clear hK K
        refine wpAnyH_done (by kernel_rfl) ?_ _
        go_wp2
        go_ret
        exact ⟨rfl, HBR.out.trans (hHeld.mono HBR.out.size)⟩
end Go.Proofs.Ytckfndnaaljmhaa
