/-
  Layer whole: WholeMore.
-/
import Derived.Test.YtbimfopbilcdgaaZmaR
import Derived.Test.YtbimfopbilcdgaaZmbR
import Derived.Test.YtbimfopbilcdgaaZtR
set_option linter.unusedSimpArgs false
set_option linter.unusedVariables false
set_option maxRecDepth 8000
namespace Go.Proofs.Ytbimfopbilcdgaa
open Go.RowKit Go.Sort Sm

theorem ownE_keepM {w w' : World} {B n cap : Nat} {A : Option Addr} {l : List Ev} (h : OwnE w B A n cap l) (hb : Below w.heap.size w w') : OwnE w' B A n cap l :=
  h.kept (row := none) ⟨hb.os, hb.tape, hb.output, hb.size, fun k hk _ => hb.block k hk⟩ (by rcases A with _ | a <;> simp [Value.ownBlock])
theorem telL_permM {l m : List Nat} (hp : List.Perm m l) (h : ∀ x ∈ l, x < 18446744073709551616) : telL m = telL l := by
  unfold telL
  rw [hp.length_eq, accN_perm hp, accH_perm hp, accLo_perm hp (fun x hx => h x (hp.mem_iff.1 hx)), accHi_perm hp (fun x hx => h x (hp.mem_iff.1 hx))]
/-- All is kept but what lies in some blocks. -/
structure KpM (lo hi : Nat) (w w' : World) : Prop where
  b : Below lo w w'
  o : ∀ k, hi ≤ k → k < w.heap.size → w'.heap[k]? = w.heap[k]?
theorem KpM.refl (lo hi : Nat) (w : World) : KpM lo hi w w := ⟨Below.refl _ _, fun _ _ _ => rfl⟩
theorem KpM.drew (lo hi : Nat) (w : World) : KpM lo hi w w.drew := ⟨(Below.refl _ w).drew, fun _ _ _ => rfl⟩
theorem KpM.below {lo hi : Nat} {w w' w'' : World} (h : KpM lo hi w w') (hb : Below w'.heap.size w' w'') (hl : lo ≤ w'.heap.size := by omega) : KpM lo hi w w'' :=
  ⟨h.b.trans (hb.mono hl), fun k hk hs => (hb.block k (Nat.lt_of_lt_of_le hs h.b.size)).trans (h.o k hk hs)⟩
theorem KpM.alloc {lo hi : Nat} {w w' : World} (h : KpM lo hi w w') (hl : lo ≤ w'.heap.size) (o : Obj) : KpM lo hi w (w'.alloc o) := h.below ((Below.refl _ _).alloc (Nat.le_refl _) _) hl
theorem KpM.append {lo hi : Nat} {w w' w'' : World} {blk : Option Nat} (h : KpM lo hi w w') (hg : w'.grownBy w'' blk) (hb : Below lo w' w'') (hk : ∀ k, blk = some k → k < hi) : KpM lo hi w w'' :=
  ⟨h.b.trans hb, fun k hk' hs => (hg.block k (Nat.lt_of_lt_of_le hs h.b.size) (fun e => by have := hk k e.symm; omega)).trans (h.o k hk' hs)⟩
theorem KpM.row {lo hi : Nat} {w w' : World} (h : KpM lo hi w w') {k : Nat} {o : Obj} (hk : hi ≤ k) (hr : w.heap[k]? = some o) : w'.heap[k]? = some o := (h.o k hk (Array.getElem?_eq_some_iff.1 hr).1).trans hr
theorem wp_append_evG {w : World} {o : Oper} {a : Act} {K : Act → World → Prop} {Q : Exit → Act → World → Prop} (s x : Operand)
    (ho : o.op = .call { callee := .builtin .append, args := #[s, x], argTypes := #[66, 66] })
    (B : Nat) (A : Option Addr) (n cap : Nat) (l : List Ev) (hs : a.eval s = .slice A n cap) (hown : OwnE w B A n cap l) (h c : Nat) (y : Ev) (hx : a.eval x = .slice (some ⟨h, 0, none⟩) 1 c) (hrow : w.heap[h]? = some (.cells y.cells.toArray 76 (0, 0)))
    (N : Nat) (hN : N = n + 1) (hn : n + 1 ≤ 100000) (hbase : B ≤ w.heap.size)
    (hk : ∀ A' cap' w', OwnE w' B A' N cap' (l ++ [y]) → Below B w w' → w.grownBy w' (Value.slice A n cap).ownBlock → K (a.put o.dst (.slice A' N cap')) w') : o.wp Try.prog a w K Q := by
  subst hN
  obtain ⟨i0, hi, hz0, hz1, hz2⟩ := info_parts infoEv
  obtain ⟨v', w', hr, ho2, hg, -, hloc⟩ := run_append_own_at (P := Try.prog) w B 66 o.type 76 i0 _ 5 48 Try.underlying66 hi hz0 hz1 hz2 rfl (by decide) _ n (evs l) hown ⟨h, 0, none⟩ 1 c y.cells rfl (fun j u hu => by
    rw [addr_add, Nat.zero_add, cell_of_row _ _ _ _ _ _ hrow]; simpa using hu) (cells_one y) (by unfold maxLen; omega) (by omega) hbase
  have e : evs l ++ y.cells = evs (l ++ [y]) := by unfold evs; rw [List.flatMap_append]; simp
  rw [e] at ho2
  obtain ⟨A1, c1, rfl, e2, e3, e4⟩ := ro_slice ho2
  unfold Oper.wp execOp
  simp only [ho, resolve, invoke, builtin, Sem.run_bind, Sem.run_pure, Result.andThen_ok, List.map_toArray, List.map_cons, List.map_nil, hs, hx, hr]
  exact hk A1 c1 w' ho2 ((Below.refl _ w).grown hg hbase (ro_base hown)) hg
theorem wpList_load_rowM {P : Program} {ops : Array Oper} {rest : List Oper} {o : Oper} {a : Act} {w : World} {Q : Exit → Act → World → Prop} (hw : Region.wanted o (yielded ops a.tmps) = true) (ty : TypeId) (x : Operand) (ho : o.op = .load ty x)
    (g : Nat) (hx : a.eval x = .pointer (some ⟨g, 0, none⟩)) (t : TypeId) (cs : Array Value) (fr : Nat × Nat) (d : TypeDesc) (hg : w.heap[g]? = some (.cells cs t fr))
    (hu : P.underlying ty = some d) (hd : (match d with | .struct _ | .array _ _ => true | _ => false) = true) (hi : (P.info? ty).map (·.size) = some cs.size)
    (h : wpList P ops Q rest (a.put o.dst (.agg cs)) w) : wpList P ops Q (o :: rest) a w :=
  wpList_step fun K hK => by simp only [hw, if_true]; exact wp_load_row ty x ho g hx t cs fr d hg hu hd hi (hK _ _ h)
theorem pzcut1 (g n cap k : Nat) (hk : k < n) (hc : n ≤ cap) : ∀ w, (Instr.slice 69 (.slice (some ⟨g, 0, none⟩) n cap) (some (.int .i64 (k : Int))) (some (.int .i64 ((k : Int) + 1))) none).run Try.prog w = .ok (.slice (some ⟨g, k * 8, none⟩) 1 (cap - k)) w := fun w => by
  rw [run_slice_lh w 69 (some ⟨g, 0, none⟩) n cap Try.underlying69 .i64 .i64 (k : Int) ((k : Int) + 1) (by omega) (by omega) (by omega)]
  rw [show (Go.sizeOf (Try.prog.elem 69)).run Try.prog w = .ok 8 w from by kernel_rfl]
  simp only [Result.andThen, sliced, Int.toNat_natCast, show ((k : Int) + 1).toNat = k + 1 by omega]
  rw [if_neg (by omega)]
  simp [addr_add]
theorem likeZ_of {y z : Pz} (hp : y.p = z.p) (ht : y.t = z.t) : likeZ y z = true := by
  unfold likeZ winZ
  rw [hp, ht, (keyZ_iff _ _).2 rfl, telB_selfZ]; simp
/-- Of the panes with one event more each is one of the old ones, or has the event in its window. -/
theorem more_panes {c : Cf} (h : c.Ok) {l : List Ev} {e : Ev} (hl : EvFit (l ++ [e])) (q : Pz) (hq : q ∈ panesL c (l ++ [e])) (hno : (panesL c l).any (fun p => likeZ p q) = false) : keyZ q.p.key e.key = true ∧ q.p.s ≤ e.time ∧ e.time < q.p.e := by
  unfold panesL at hq
  obtain ⟨g, hg, rfl⟩ := List.mem_map.1 hq
  rcases more_any h l e g hg with ⟨h0, hh0, hp, hv⟩ | ⟨h1, h2, h3⟩
  · have h4 : likeZ (pzOf h0) (pzOf g) = true := likeZ_of hp (telL_permM hv (fun x hx => ((grps_ok h hl).ok g hg).1 x hx))
    rw [List.any_eq_false] at hno
    exact absurd h4 (hno (pzOf h0) (by unfold panesL; exact List.mem_map.2 ⟨h0, hh0, rfl⟩))
  · exact ⟨(keyZ_iff _ _).2 h1, h2, h3⟩
theorem any_takeM {P : List Pz} {j : Nat} {y : Pz} (p : Pz → Bool) (h : P[j]? = some y) : (P.take (j + 1)).any p = ((P.take j).any p || p y) := by
  have h2 := List.getElem?_eq_some_iff.1 h
  rw [List.take_succ_eq_append_getElem h2.1, h2.2, List.any_append]; simp
theorem b_lssM {a b : Int} {r : Bool} (h : decide (a < b) = r) (w : World) : (binOp .lss 2 (.int .i64 a) (.int .i64 b)).run Try.prog w = .ok (.bool r) w := by
  subst h
  go_simp
theorem b_geqM {a b : Int} {r : Bool} (h : decide (b ≤ a) = r) (w : World) : (binOp .geq 2 (.int .i64 a) (.int .i64 b)).run Try.prog w = .ok (.bool r) w := by
  subst h
  go_simp
set_option maxHeartbeats 8000000 in
theorem more13_any (x : Cn) (hx : x.Ok) (a : Option Addr) (n cp : Nat) (ps : List Pt) (hn : n = ps.length) (hp : ∀ p ∈ ps, p.Ok) (one : Pt) (hone : one.Ok) (W : World) (HA : Hid (PtAt W a ps)) :
    Calls Try.prog 12 #[x.v, .slice a n cp, .agg #[.int .u8 (one.part : Int), .int .u8 (one.time : Int), .int .u8 (one.key : Int), .float .f64 one.val]] W fun e w' => e = .returned (.bool true) ∧ Below W.heap.size W w' := by
  have HN := Lib.hid hn
  have HP := Lib.hid hp
  have HAWK := Lib.hid awake13_any
  have HCF := Lib.hid (config_cn x hx)
  have HONE := Lib.hid hone
  clear hn hp hx hone
  obtain ⟨W0, hW0⟩ : ∃ q, q = (W.alloc (.cells #[.int .u8 x.a, .int .u8 x.b, .int .u8 x.c, .int .u8 x.d, .int .u8 x.e, .int .u8 x.f, .int .u8 x.g] 60)).alloc (.cells #[.int .u8 (one.part : Int), .int .u8 (one.time : Int), .int .u8 (one.key : Int), .float .f64 one.val] 106) := ⟨_, rfl⟩
  obtain ⟨bq, hbq⟩ : ∃ q, q = W.heap.size := ⟨_, rfl⟩
  obtain ⟨bp, hbp⟩ : ∃ q, q = W.heap.size + 1 := ⟨_, rfl⟩
  have HWX : Hid (Below W.heap.size W W0) := Lib.hid (by rw [hW0]; exact ((Below.refl _ _).alloc (Nat.le_refl _) _).alloc (by simp) _)
  have HRq0 : Hid (W0.heap[bq]? = some (.cells #[.int .u8 x.a, .int .u8 x.b, .int .u8 x.c, .int .u8 x.d, .int .u8 x.e, .int .u8 x.f, .int .u8 x.g] 60 (0, 0))) := Lib.hid (by rw [hW0, hbq]; exact row_alloc' (heap_new W _) _)
  have HRp0 : Hid (W0.heap[bp]? = some (.cells #[.int .u8 (one.part : Int), .int .u8 (one.time : Int), .int .u8 (one.key : Int), .float .f64 one.val] 106 (0, 0))) := Lib.hid (by rw [hW0, hbp]; exact zheap_new' _ _ _ (by simp))
  go_enter Try.func12, Try.ntmps12
  go_upto_region 1 with fail
  rw [← hW0, ← hbp, ← hbq]
  clear hW0 hbq hbp
  go_upto_region 3 with (first | (go_at_call 37; (with_reducible refine (HAWK.out _).mono ?_); rintro e w1 ⟨rfl, hb1⟩; have HB1 := Lib.hid (HWX.out.trans (hb1.mono HWX.out.size)); have HRq1 := Lib.hid (row_keep HRq0.out hb1); have HRp1 := Lib.hid (row_keep HRp0.out hb1); clear hb1))
  go_upto_region 4 with (first | (refine wpList_load_row rfl 60 (.tmp 3) rfl bq rfl _ #[.int .u8 x.a, .int .u8 x.b, .int .u8 x.c, .int .u8 x.d, .int .u8 x.e, .int .u8 x.f, .int .u8 x.g] (0, 0) _ HRq1.out uCn rfl (by kernel_rfl) ?_) | (go_at_call 38; (with_reducible refine (HCF.out _).mono ?_); rintro e w2 ⟨c, hc, hc30, hc3, rfl, hb2⟩; have HC := Lib.hid hc; have HB2 := Lib.hid (bto HB1.out hb2); have HRp2 := Lib.hid (row_keep HRp1.out hb2); clear hc hc30 hc3 hb2))
  obtain ⟨w3, hw3⟩ : ∃ w3, w3 = w2.alloc (.cells #[.int .u8 (c.kind : Int), .int .i64 c.size, .int .i64 c.step, .int .i64 c.late, .int .i64 c.skew, .int .i64 c.parts, .int .u64 (c.cut : Int)] 64) := ⟨_, rfl⟩
  rw [← hw3]
  have HB3 : Hid (Below W.heap.size W w3) := Lib.hid (by rw [hw3]; exact HB2.out.alloc HB2.out.size _)
  obtain ⟨bc, hbc⟩ : ∃ bc, bc = w2.heap.size := ⟨_, rfl⟩
  have HRC3 : Hid (w3.heap[bc]? = some (.cells #[.int .u8 (c.kind : Int), .int .i64 c.size, .int .i64 c.step, .int .i64 c.late, .int .i64 c.skew, .int .i64 c.parts, .int .u64 (c.cut : Int)] 64 (0, 0))) := Lib.hid (by rw [hw3, hbc]; exact heap_new w2 _)
  have HRp3 : Hid (w3.heap[bp]? = some (.cells #[.int .u8 (one.part : Int), .int .u8 (one.time : Int), .int .u8 (one.key : Int), .float .f64 one.val] 106 (0, 0))) := Lib.hid (by rw [hw3]; exact row_alloc' HRp2.out _)
  have HBC3 : Hid (bc < w3.heap.size) := Lib.hid (Array.getElem?_eq_some_iff.1 HRC3.out).1
  rw [← hbc]
  clear hw3 hbc
  have HLG : Hid (∀ w, Below W.heap.size W w → Calls Try.prog 39 #[c.v, .slice a n cp, .int .i64 40] w (LgEnds w (lgL c ps (min n 40)))) := Lib.hid fun w hb => log_any c HC.out a n cp ps HP.out 40 HN.out (by omega) w (Lib.hid (HA.out.keep hb))
  have HFT : Hid (EvFit (lgL c ps (min n 40))) := Lib.hid (lgL_fit c ps HP.out _ (by have := HN.out; omega) (by omega))
  have HLL : Hid ((lgL c ps (min n 40)).length ≤ 40) := Lib.hid (by rw [lgL_len]; omega)
  generalize lgL c ps (min n 40) = l at *
  go_upto_region 5 with (first | (refine wpList_load_row rfl 64 (.tmp 7) rfl bc rfl _ #[.int .u8 (c.kind : Int), .int .i64 c.size, .int .i64 c.step, .int .i64 c.late, .int .i64 c.skew, .int .i64 c.parts, .int .u64 (c.cut : Int)] (0, 0) _ HRC3.out uCf rfl (by kernel_rfl) ?_) | (go_at_call 39; (with_reducible refine (HLG.out _ HB3.out).mono ?_); rintro e w4 ⟨Al, nl, cl, rfl, hnl, hol, hb4⟩; have HNL := Lib.hid hnl; have HOL := Lib.hid hol; have HB4 := Lib.hid (bto HB3.out hb4); have HRC4 := Lib.hid (row_keep HRC3.out hb4); have HRp4 := Lib.hid (row_keep HRp3.out hb4); have HS34 := Lib.hid hb4.size; clear hnl hol hb4))
  have nl40 : nl ≤ 40 := by have := HNL.out; have := HLL.out; omega
  have HALB : Hid (∀ k, (Value.slice Al nl cl).ownBlock = some k → k < w4.heap.size) := Lib.hid (by
    intro k hk
    rcases HOL.out.2 with ⟨e0, e1⟩ | ⟨g, cap', cur, e0, hb, hg, -⟩
    · rw [e0] at hk; cases hk
    · rw [e0] at hk; cases hk; exact (Array.getElem?_eq_some_iff.1 hg).1)
  have HEV := Lib.hid fun w => event_any one HONE.out c HC.out nl (by omega) w
  have HFE : Hid (EvFit (l ++ [evPt c one nl])) := Lib.hid (by
    have h1 := HONE.out
    refine ⟨fun z hz => ?_, fun z hz => ?_, by rw [List.length_append]; have := HLL.out; simp; omega⟩
    · rcases List.mem_append.1 hz with hz | hz
      · exact HFT.out.val z hz
      · simp at hz; subst hz; exact h1.val
    · rcases List.mem_append.1 hz with hz | hz
      · exact HFT.out.time z hz
      · simp at hz; subst hz
        have h2 := h1.time
        show -4398046511104 ≤ (one.time : Int) - 60 ∧ (one.time : Int) - 60 ≤ 4398046511104
        omega)
  generalize evPt c one nl = e at *
  go_upto_region 6 with (first | (refine wpList_load_row rfl 106 (.tmp 5) rfl bp rfl _ #[.int .u8 (one.part : Int), .int .u8 (one.time : Int), .int .u8 (one.key : Int), .float .f64 one.val] (0, 0) _ HRp4.out uPt rfl (by kernel_rfl) ?_) | (refine wpList_load_row rfl 64 (.tmp 7) rfl bc rfl _ #[.int .u8 (c.kind : Int), .int .i64 c.size, .int .i64 c.step, .int .i64 c.late, .int .i64 c.skew, .int .i64 c.parts, .int .u64 (c.cut : Int)] (0, 0) _ HRC4.out uCf rfl (by kernel_rfl) ?_) | (go_at_call 52; (with_reducible refine (HEV.out _).mono ?_); rintro e' w5 ⟨rfl, hb5⟩; have HB5 := Lib.hid hb5; clear hb5) | (refine wpList_store_row rfl 76 (.tmp 9) (.tmp 26) rfl _ #[.int .u64 (e.off : Int), .int .i64 e.part, .int .i64 e.time, .string e.key, .float .f64 e.val] rfl rfl _ _ (heap_alloc_new _ _) (by kernel_rfl) rfl (by simp [Value.oneCell']) ?_; rw [World.setRow_alloc_new]))
  obtain ⟨w6, hw6⟩ : ∃ q, q = w5.alloc (.cells #[.int .u64 (e.off : Int), .int .i64 e.part, .int .i64 e.time, .string e.key, .float .f64 e.val] 76) := ⟨_, rfl⟩
  obtain ⟨be, hbe⟩ : ∃ q, q = w5.heap.size := ⟨_, rfl⟩
  rw [← hw6, ← hbe]
  have HB6 : Hid (Below w4.heap.size w4 w6) := Lib.hid (by rw [hw6]; exact HB5.out.alloc HB5.out.size _)
  have HRE6 : Hid (w6.heap[be]? = some (.cells #[.int .u64 (e.off : Int), .int .i64 e.part, .int .i64 e.time, .string e.key, .float .f64 e.val] 76 (0, 0))) := Lib.hid (by rw [hw6, hbe]; exact heap_new w5 _)
  have HBE4 : Hid (w4.heap.size ≤ be) := Lib.hid (by rw [hbe]; exact HB5.out.size)
  clear hw6 hbe
  have HRC6 : Hid (w6.heap[bc]? = some (.cells #[.int .u8 (c.kind : Int), .int .i64 c.size, .int .i64 c.step, .int .i64 c.late, .int .i64 c.skew, .int .i64 c.parts, .int .u64 (c.cut : Int)] 64 (0, 0))) := Lib.hid (row_keep HRC4.out HB6.out)
  have HP1 : Hid (∀ w, Below w4.heap.size w4 w → Calls Try.prog 41 #[c.v, .slice Al nl cl] w (PzEnds w (panesL c l))) := Lib.hid fun w hw => panes13_any c HC.out Al nl cl l HFT.out w (Lib.hid ((evSl_own HOL.out).keep hw))
  have HP2 : Hid (∀ (A : Option Addr) (c' : Nat) (w : World), OwnE w w3.heap.size A (nl + 1) c' (l ++ [e]) → Calls Try.prog 41 #[c.v, .slice A (nl + 1) c'] w (PzEnds w (panesL c (l ++ [e])))) := Lib.hid fun A c' w hw => panes13_any c HC.out A (nl + 1) c' (l ++ [e]) HFE.out w (Lib.hid (evSl_own hw))
  go_upto_region 7 with (first | (refine wpList_load_row rfl 64 (.tmp 7) rfl bc rfl _ #[.int .u8 (c.kind : Int), .int .i64 c.size, .int .i64 c.step, .int .i64 c.late, .int .i64 c.skew, .int .i64 c.parts, .int .u64 (c.cut : Int)] (0, 0) _ HRC6.out uCf rfl (by kernel_rfl) ?_) | (go_at_call 41; (with_reducible refine (HP1.out _ HB6.out).mono ?_); rintro e' w7 ⟨A1, n1, c1, rfl, hn1, hc1, -, -, ho1, hb7⟩; have HN1 := Lib.hid hn1; have HC1 := Lib.hid hc1; have HOP := Lib.hid ho1; have HB7 := Lib.hid hb7; clear hn1 hc1 ho1 hb7))
  have HB47 : Hid (Below w4.heap.size w4 w7) := Lib.hid (bto HB6.out HB7.out)
  have HOL7 := Lib.hid (ownE_keepM HOL.out HB47.out)
  have HRC7 := Lib.hid (row_keep HRC6.out HB7.out)
  have HRE7 := Lib.hid (row_keep HRE6.out HB7.out)
  have HS37 : Hid (w3.heap.size ≤ w7.heap.size) := Lib.hid (Nat.le_trans HS34.out HB47.out.size)
  have HS46 := Lib.hid HB6.out.size
  refine wp_region_held_drew (S := fun w' => KpM w3.heap.size w4.heap.size w7 w') (by kernel_rfl) (KpM.drew _ _ _) (fun hHeld => ?_)
  refine wpAnyH_take (i := 0) (v := .agg #[.int .u8 (c.kind : Int), .int .i64 c.size, .int .i64 c.step, .int .i64 c.late, .int .i64 c.skew, .int .i64 c.parts, .int .u64 (c.cut : Int)]) rfl (by kernel_rfl) (by kernel_rfl) (by kernel_rfl) (fun _ _ _ h => h) (yieldsIf_row rfl 64 (.tmp 7) rfl bc rfl _ _ _ _ (fun w hw => (hw.1.block bc HBC3.out).trans HRC7.out) uCf rfl (by kernel_rfl)) hHeld ?_
  try dsimp only
  try simp only [Act.put, List.getElem_toArray, List.getElem_cons_zero, List.getElem_cons_succ, List.setIfInBounds_toArray, List.set_cons_zero, List.set_cons_succ]
  refine wpAnyH_take (i := 1) (v := .slice Al nl cl) rfl (by kernel_rfl) (by kernel_rfl) (by kernel_rfl) (fun _ _ _ h => h) (Or.inl ⟨by rfl, fun _ _ => rfl⟩) hHeld ?_
  try dsimp only
  try simp only [Act.put, List.getElem_toArray, List.getElem_cons_zero, List.getElem_cons_succ, List.setIfInBounds_toArray, List.set_cons_zero, List.set_cons_succ]
  refine wpAnyH_take (i := 2) (v := .agg #[.int .u64 (e.off : Int), .int .i64 e.part, .int .i64 e.time, .string e.key, .float .f64 e.val]) rfl (by kernel_rfl) (by kernel_rfl) (by kernel_rfl) (fun _ _ _ h => h) (yieldsIf_row rfl 76 (.tmp 9) rfl be rfl _ _ _ _ (fun w hw => hw.row HBE4.out HRE7.out) uEv rfl (by kernel_rfl)) hHeld ?_
  try dsimp only
  try simp only [Act.put, List.getElem_toArray, List.getElem_cons_zero, List.getElem_cons_succ, List.setIfInBounds_toArray, List.set_cons_zero, List.set_cons_succ]
  refine wpAnyH_ready (rs := [3]) (by kernel_rfl) (by simp) (AllReadyH.cons rfl (fun K hK => ?_) AllReadyH.nil)
  go_simp
  have hs3 := HS37.out
  have hKa : KpM w3.heap.size w4.heap.size w7 (w7.drew.alloc (.cells #[.int .u64 (e.off : Int), .int .i64 e.part, .int .i64 e.time, .string e.key, .float .f64 e.val] 76)) := (KpM.drew _ _ _).alloc hs3 _
  refine hK.out _ _ hKa (fun _ => ?_)
  clear hK K
  try dsimp only
  try simp only [Act.put, List.getElem_toArray, List.getElem_cons_zero, List.getElem_cons_succ, List.setIfInBounds_toArray, List.set_cons_zero, List.set_cons_succ]
  refine wpAnyH_ready (rs := [4]) (by kernel_rfl) (by simp) (AllReadyH.cons rfl (fun K hK => ?_) AllReadyH.nil)
  rw [if_pos (by rfl)]
  refine wp_append_evG (.tmp 31) (.tmp 33) rfl w3.heap.size Al nl cl l rfl (ownE_keepM HOL7.out (((Below.refl _ w7).drew).alloc (Nat.le_refl _) _)) w7.heap.size 1 e rfl (zheap_new' _ _ _ rfl) (nl + 1) rfl (by omega) (by show w3.heap.size ≤ (w7.drew.alloc _).heap.size; simp; exact Nat.le_succ_of_le hs3) ?_
  intro A8 c8 w8 ho8 hb8 hg8
  replace hHeld := hKa.append hg8 hb8 (fun k hk => HALB.out k hk)
  have HO8 := Lib.hid ho8
  clear ho8 hb8 hg8
  refine hK.out _ _ hHeld (fun _ => ?_)
  clear hK K hKa
  try dsimp only
  try simp only [Act.put, List.getElem_toArray, List.getElem_cons_zero, List.getElem_cons_succ, List.setIfInBounds_toArray, List.set_cons_zero, List.set_cons_succ]
  refine wpAnyH_ready (rs := [5]) (by kernel_rfl) (by simp) (AllReadyH.cons rfl (fun K hK => ?_) AllReadyH.nil)
  go_simp
  refine (HP2.out _ _ _ HO8.out).mono ?_
  rintro e' w9 ⟨A2, n2, c2, rfl, hn2, hcq, -, -, ho2, hb9⟩
  replace hHeld := hHeld.below hb9 (Nat.le_trans HS37.out hHeld.b.size)
  have HN2 := Lib.hid hn2
  have HCQ := Lib.hid hcq
  have HOQ := Lib.hid (ho2.less (Nat.zero_le _))
  clear hn2 hcq ho2 hb9
  refine hK.out _ _ hHeld (fun hHeld => ?_)
  clear hK K
  try dsimp only
  try simp only [Act.put, List.getElem_toArray, List.getElem_cons_zero, List.getElem_cons_succ, List.setIfInBounds_toArray, List.set_cons_zero, List.set_cons_succ]
  refine wpAnyH_ready (rs := [6]) (by kernel_rfl) (by simp) (AllReadyH.cons rfl (fun K hK => ?_) AllReadyH.nil)
  go_simp
  refine hK.out _ _ hHeld (fun _ => ?_)
  clear hK K
  refine wpAnyH_done (by kernel_rfl) ?_ _
  have HOP9 : Hid (OwnPz w9 w6.heap.size A1 n1 c1 (panesL c l)) := Lib.hid (HOP.out.same (fun g off e' => hHeld.o g (Nat.le_trans HS46.out (HOP.out.lt g off e').2.1) (HOP.out.lt g off e').1))
  have HRE9 : Hid (w9.heap[be]? = some (.cells #[.int .u64 (e.off : Int), .int .i64 e.part, .int .i64 e.time, .string e.key, .float .f64 e.val] 76 (0, 0))) := Lib.hid (hHeld.row HBE4.out HRE7.out)
  have HRC9 : Hid (w9.heap[bc]? = some (.cells #[.int .u8 (c.kind : Int), .int .i64 c.size, .int .i64 c.step, .int .i64 c.late, .int .i64 c.skew, .int .i64 c.parts, .int .u64 (c.cut : Int)] 64 (0, 0))) := Lib.hid ((hHeld.b.block bc HBC3.out).trans HRC7.out)
  have HB9 : Hid (Below W.heap.size W w9) := Lib.hid ((HB4.out.trans (HB47.out.mono HB4.out.size)).trans (hHeld.b.mono HB3.out.size))
  have HPOK := Lib.hid (pz_ok HC.out HFT.out)
  have HQOK := Lib.hid (pz_ok HC.out HFE.out)
  have HPF := Lib.hid (pz_few HC.out HFT.out)
  have HQF := Lib.hid (pz_few HC.out HFE.out)
  have HMP := Lib.hid fun q hq hno => more_panes HC.out HFE.out (l := l) (e := e) q hq hno
  have HML : Hid (c.kind ≠ 2 → (panesL c l).length ≤ (panesL c (l ++ [e])).length) := Lib.hid fun hk => by unfold panesL; rw [List.length_map, List.length_map]; exact more_len hk l e
  have HOF := Lib.hid fun t1 t2 w => of13_any c HC.out e.time t1 t2 w
  have HET : Hid (-4398046511104 ≤ e.time ∧ e.time ≤ 4398046511104) := Lib.hid (HFE.out.time e (by simp))
  generalize panesL c (l ++ [e]) = Q at *
  generalize panesL c l = P at *
  have n1k : n1 ≤ 1000 := by have := HN1.out; have := HPF.out; omega
  have n2k : n2 ≤ 1000 := by have := HN2.out; have := HQF.out; omega
  clear hHeld HOL7 HB47 HB7 HOP HP1 HP2 HB5 HEV HRE7 HRC7 HRC6 HRE6 HRC4 HRp4
  go_wp2
  go_loopw [12] (fun i wr => ∃ k : Nat, k ≤ n2 ∧ i = .int .i64 k ∧ Below w9.heap.size w9 wr) (fun i _ => n2 - (intOf i).toNat)
  case atStart => exact ⟨0, Nat.zero_le _, rfl, Below.refl _ _⟩
  case round =>
    obtain ⟨k, hk, rfl, hb⟩ := hrel
    have HBo := Lib.hid hb
    clear hb
    by_cases hin : k < n2
    · obtain ⟨q, hq⟩ : ∃ q, Q[k]? = some q := ⟨Q[k]'(by have := HN2.out; omega), List.getElem?_eq_getElem _⟩
      have HQM : Hid (q ∈ Q) := Lib.hid (List.mem_of_getElem? hq)
      obtain ⟨gb, ea, hgb, hrb⟩ := pz_range HOQ.out k q hq
      subst ea
      have HRQ9 := Lib.hid hrb
      have HGQ9 := Lib.hid hgb
      have hkI : (k : Int) < (n2 : Int) := by omega
      have hc2 : n2 ≤ c2 := HCQ.out
      have HCB := Lib.hid (pzcut1 gb n2 c2 k hin HCQ.out)
      clear hq hrb hgb hc2
      go_wp2
      go_loopw [13, 14] (fun o jj wr => ∃ (j : Nat) (b : Bool), j ≤ n1 ∧ o = .bool b ∧ jj = .int .i64 j ∧ b = (P.take j).any (fun p => likeZ p q) ∧ Below w9.heap.size w9 wr) (fun _ jj _ => n1 - (intOf jj).toNat)
      case atStart => exact ⟨0, false, Nat.zero_le _, rfl, rfl, rfl, HBo.out⟩
      case round =>
        obtain ⟨j, b, hj, rfl, rfl, hbe, hb⟩ := hrel
        have HBE := Lib.hid hbe; have HB := Lib.hid hb
        clear hbe hb
        by_cases hjn : j < n1
        · obtain ⟨y, hy⟩ : ∃ y, P[j]? = some y := ⟨P[j]'(by have := HN1.out; omega), List.getElem?_eq_getElem _⟩
          have HYM : Hid (y ∈ P) := Lib.hid (List.mem_of_getElem? hy)
          obtain ⟨ga, ea, hga, hra⟩ := pz_range HOP9.out j y hy
          subst ea
          have HTK := Lib.hid (any_takeM (fun p => likeZ p q) hy)
          have HCA := Lib.hid (pzcut1 ga n1 c1 j hjn HC1.out)
          have HSM : Hid (∀ w, Below wr.heap.size wr w → Calls Try.prog 40 #[.slice (some ⟨ga, j * 8, none⟩) 1 (c1 - j), .slice (some ⟨gb, k * 8, none⟩) 1 (c2 - k)] w fun e' w' => e' = .returned (.bool (likeZ y q)) ∧ Below w.heap.size w w') := Lib.hid fun w hw => by
            have hw9 : Below w9.heap.size w9 w := bto HB.out hw
            exact same1_any ga (j * 8) (c1 - j) gb (k * 8) (c2 - k) y q (HPOK.out y HYM.out) (HQOK.out q HQM.out) w (Lib.hid (zkeep hra hga hw9)) (Lib.hid (Nat.lt_of_lt_of_le hga hw9.size)) (Lib.hid (zkeep HRQ9.out HGQ9.out hw9)) (Lib.hid (Nat.lt_of_lt_of_le HGQ9.out hw9.size))
          generalize likeZ y q = r at *
          have hwj : IntKind.i64.wrap ((j : Int) + 1) = (j : Int) + 1 := IntWalk.i64_in _ (by omega)
          have hwk : IntKind.i64.wrap ((k : Int) + 1) = (k : Int) + 1 := IntWalk.i64_in _ (by omega)
          have hjI : (j : Int) < (n1 : Int) := by omega
          clear hy hra hga
          rcases b with _ | _
          · go_upto_region 15 with fail
            refine wp_region_held_drew (S := fun w' => Below wr.heap.size wr w') (by kernel_rfl) ((Below.refl _ wr).drew) (fun hHeld => ?_)
            refine wpAnyH_take (i := 0) (v := .bool false) rfl (by kernel_rfl) (by kernel_rfl) (by kernel_rfl) (fun _ _ _ h => h) (Or.inl ⟨by rfl, fun _ _ => rfl⟩) hHeld ?_
            try dsimp only
            try simp only [Act.put, List.getElem_toArray, List.getElem_cons_zero, List.getElem_cons_succ, List.setIfInBounds_toArray, List.set_cons_zero, List.set_cons_succ]
            refine wpAnyH_take (i := 1) (v := .bool false) rfl (by kernel_rfl) (by kernel_rfl) (by kernel_rfl) (fun _ _ _ h => h) (Or.inl ⟨by rfl, fun _ _ => rfl⟩) hHeld ?_
            try dsimp only
            try simp only [Act.put, List.getElem_toArray, List.getElem_cons_zero, List.getElem_cons_succ, List.setIfInBounds_toArray, List.set_cons_zero, List.set_cons_succ]
            refine wpAnyH_take (i := 2) (v := .slice (some ⟨ga, 0, none⟩) n1 c1) rfl (by kernel_rfl) (by kernel_rfl) (by kernel_rfl) (fun _ _ _ h => h) (Or.inl ⟨by rfl, fun _ _ => rfl⟩) hHeld ?_
            try dsimp only
            try simp only [Act.put, List.getElem_toArray, List.getElem_cons_zero, List.getElem_cons_succ, List.setIfInBounds_toArray, List.set_cons_zero, List.set_cons_succ]
            refine wpAnyH_take (i := 3) (v := .int .i64 (j : Int)) rfl (by kernel_rfl) (by kernel_rfl) (by kernel_rfl) (fun _ _ _ h => h) (Or.inl ⟨by rfl, fun _ _ => rfl⟩) hHeld ?_
            try dsimp only
            try simp only [Act.put, List.getElem_toArray, List.getElem_cons_zero, List.getElem_cons_succ, List.setIfInBounds_toArray, List.set_cons_zero, List.set_cons_succ]
            refine wpAnyH_take (i := 4) (v := .int .i64 (j : Int)) rfl (by kernel_rfl) (by kernel_rfl) (by kernel_rfl) (fun _ _ _ h => h) (Or.inl ⟨by rfl, fun _ _ => rfl⟩) hHeld ?_
            try dsimp only
            try simp only [Act.put, List.getElem_toArray, List.getElem_cons_zero, List.getElem_cons_succ, List.setIfInBounds_toArray, List.set_cons_zero, List.set_cons_succ]
            refine wpAnyH_take (i := 5) (v := .int .i64 ((j : Int) + 1)) rfl (by kernel_rfl) (by kernel_rfl) (by kernel_rfl) (fun _ _ _ h => h) (Or.inl ⟨by rfl, fun w _ => by go_simp⟩) hHeld ?_
            try dsimp only
            try simp only [Act.put, List.getElem_toArray, List.getElem_cons_zero, List.getElem_cons_succ, List.setIfInBounds_toArray, List.set_cons_zero, List.set_cons_succ]
            refine wpAnyH_take (i := 6) (v := .slice (some ⟨ga, j * 8, none⟩) 1 (c1 - j)) rfl (by kernel_rfl) (by kernel_rfl) (by kernel_rfl) (fun _ _ _ h => h) (Or.inl ⟨by rfl, fun w _ => by have h9 := HCA.out w; go_simp⟩) hHeld ?_
            try dsimp only
            try simp only [Act.put, List.getElem_toArray, List.getElem_cons_zero, List.getElem_cons_succ, List.setIfInBounds_toArray, List.set_cons_zero, List.set_cons_succ]
            refine wpAnyH_take (i := 7) (v := .slice (some ⟨gb, 0, none⟩) n2 c2) rfl (by kernel_rfl) (by kernel_rfl) (by kernel_rfl) (fun _ _ _ h => h) (Or.inl ⟨by rfl, fun _ _ => rfl⟩) hHeld ?_
            try dsimp only
            try simp only [Act.put, List.getElem_toArray, List.getElem_cons_zero, List.getElem_cons_succ, List.setIfInBounds_toArray, List.set_cons_zero, List.set_cons_succ]
            refine wpAnyH_take (i := 8) (v := .int .i64 (k : Int)) rfl (by kernel_rfl) (by kernel_rfl) (by kernel_rfl) (fun _ _ _ h => h) (Or.inl ⟨by rfl, fun _ _ => rfl⟩) hHeld ?_
            try dsimp only
            try simp only [Act.put, List.getElem_toArray, List.getElem_cons_zero, List.getElem_cons_succ, List.setIfInBounds_toArray, List.set_cons_zero, List.set_cons_succ]
            refine wpAnyH_take (i := 9) (v := .int .i64 (k : Int)) rfl (by kernel_rfl) (by kernel_rfl) (by kernel_rfl) (fun _ _ _ h => h) (Or.inl ⟨by rfl, fun _ _ => rfl⟩) hHeld ?_
            try dsimp only
            try simp only [Act.put, List.getElem_toArray, List.getElem_cons_zero, List.getElem_cons_succ, List.setIfInBounds_toArray, List.set_cons_zero, List.set_cons_succ]
            refine wpAnyH_take (i := 10) (v := .int .i64 ((k : Int) + 1)) rfl (by kernel_rfl) (by kernel_rfl) (by kernel_rfl) (fun _ _ _ h => h) (Or.inl ⟨by rfl, fun w _ => by go_simp⟩) hHeld ?_
            try dsimp only
            try simp only [Act.put, List.getElem_toArray, List.getElem_cons_zero, List.getElem_cons_succ, List.setIfInBounds_toArray, List.set_cons_zero, List.set_cons_succ]
            refine wpAnyH_take (i := 11) (v := .slice (some ⟨gb, k * 8, none⟩) 1 (c2 - k)) rfl (by kernel_rfl) (by kernel_rfl) (by kernel_rfl) (fun _ _ _ h => h) (Or.inl ⟨by rfl, fun w _ => by have h9 := HCB.out w; go_simp⟩) hHeld ?_
            try dsimp only
            try simp only [Act.put, List.getElem_toArray, List.getElem_cons_zero, List.getElem_cons_succ, List.setIfInBounds_toArray, List.set_cons_zero, List.set_cons_succ]
            refine wpAnyH_ready (rs := [12]) (by kernel_rfl) (by simp) (AllReadyH.cons rfl (fun K hK => ?_) AllReadyH.nil)
            go_simp
            refine (HSM.out _ hHeld).mono ?_
            rintro e' w9 ⟨rfl, hb9⟩
            replace hHeld := bto hHeld hb9
            clear hb9
            refine hK.out _ _ hHeld (fun hHeld => ?_)
            clear hK K
            try dsimp only
            try simp only [Act.put, List.getElem_toArray, List.getElem_cons_zero, List.getElem_cons_succ, List.setIfInBounds_toArray, List.set_cons_zero, List.set_cons_succ]
            refine wpAnyH_take (i := 13) (v := .bool r) rfl (by kernel_rfl) (by kernel_rfl) (by kernel_rfl) (fun _ _ _ h => h) (Or.inl ⟨by rfl, fun w _ => by go_simp⟩) hHeld ?_
            try dsimp only
            try simp only [Act.put, List.getElem_toArray, List.getElem_cons_zero, List.getElem_cons_succ, List.setIfInBounds_toArray, List.set_cons_zero, List.set_cons_succ]
            refine wpAnyH_take (i := 14) (v := .bool r) rfl (by kernel_rfl) (by kernel_rfl) (by kernel_rfl) (fun _ _ _ h => h) (Or.inl ⟨by rfl, fun _ _ => rfl⟩) hHeld ?_
            try dsimp only
            try simp only [Act.put, List.getElem_toArray, List.getElem_cons_zero, List.getElem_cons_succ, List.setIfInBounds_toArray, List.set_cons_zero, List.set_cons_succ]
            refine wpAnyH_done (by kernel_rfl) ?_ _
            have HBn := Lib.hid (bto HB.out hHeld)
            clear hHeld
            go_wp2
            go_roundw
            case rel => exact ⟨j + 1, r, by omega, rfl, by go_num, by rw [HTK.out, ← HBE.out]; rfl, HBn.out⟩
            case measure => (simp [intOf]; try omega)
          · go_upto_region 15 with fail
            refine wp_region_held_drew (S := fun w' => Below wr.heap.size wr w') (by kernel_rfl) ((Below.refl _ wr).drew) (fun hHeld => ?_)
            refine wpAnyH_take (i := 0) (v := .bool true) rfl (by kernel_rfl) (by kernel_rfl) (by kernel_rfl) (fun _ _ _ h => h) (Or.inl ⟨by rfl, fun _ _ => rfl⟩) hHeld ?_
            try dsimp only
            try simp only [Act.put, List.getElem_toArray, List.getElem_cons_zero, List.getElem_cons_succ, List.setIfInBounds_toArray, List.set_cons_zero, List.set_cons_succ]
            refine wpAnyH_take (i := 1) (v := .bool true) rfl (by kernel_rfl) (by kernel_rfl) (by kernel_rfl) (fun _ _ _ h => h) (Or.inl ⟨by rfl, fun _ _ => rfl⟩) hHeld ?_
            try dsimp only
            try simp only [Act.put, List.getElem_toArray, List.getElem_cons_zero, List.getElem_cons_succ, List.setIfInBounds_toArray, List.set_cons_zero, List.set_cons_succ]
            refine wpAnyH_take (i := 2) (v := undef) rfl (by kernel_rfl) (by kernel_rfl) (by kernel_rfl) (fun _ _ _ h => h) (Or.inr ⟨by rfl, rfl⟩) hHeld ?_
            try dsimp only
            try simp only [Act.put, List.getElem_toArray, List.getElem_cons_zero, List.getElem_cons_succ, List.setIfInBounds_toArray, List.set_cons_zero, List.set_cons_succ]
            refine wpAnyH_take (i := 3) (v := undef) rfl (by kernel_rfl) (by kernel_rfl) (by kernel_rfl) (fun _ _ _ h => h) (Or.inr ⟨by rfl, rfl⟩) hHeld ?_
            try dsimp only
            try simp only [Act.put, List.getElem_toArray, List.getElem_cons_zero, List.getElem_cons_succ, List.setIfInBounds_toArray, List.set_cons_zero, List.set_cons_succ]
            refine wpAnyH_take (i := 4) (v := undef) rfl (by kernel_rfl) (by kernel_rfl) (by kernel_rfl) (fun _ _ _ h => h) (Or.inr ⟨by rfl, rfl⟩) hHeld ?_
            try dsimp only
            try simp only [Act.put, List.getElem_toArray, List.getElem_cons_zero, List.getElem_cons_succ, List.setIfInBounds_toArray, List.set_cons_zero, List.set_cons_succ]
            refine wpAnyH_take (i := 5) (v := undef) rfl (by kernel_rfl) (by kernel_rfl) (by kernel_rfl) (fun _ _ _ h => h) (Or.inr ⟨by rfl, rfl⟩) hHeld ?_
            try dsimp only
            try simp only [Act.put, List.getElem_toArray, List.getElem_cons_zero, List.getElem_cons_succ, List.setIfInBounds_toArray, List.set_cons_zero, List.set_cons_succ]
            refine wpAnyH_take (i := 6) (v := undef) rfl (by kernel_rfl) (by kernel_rfl) (by kernel_rfl) (fun _ _ _ h => h) (Or.inr ⟨by rfl, rfl⟩) hHeld ?_
            try dsimp only
            try simp only [Act.put, List.getElem_toArray, List.getElem_cons_zero, List.getElem_cons_succ, List.setIfInBounds_toArray, List.set_cons_zero, List.set_cons_succ]
            refine wpAnyH_take (i := 7) (v := undef) rfl (by kernel_rfl) (by kernel_rfl) (by kernel_rfl) (fun _ _ _ h => h) (Or.inr ⟨by rfl, rfl⟩) hHeld ?_
            try dsimp only
            try simp only [Act.put, List.getElem_toArray, List.getElem_cons_zero, List.getElem_cons_succ, List.setIfInBounds_toArray, List.set_cons_zero, List.set_cons_succ]
            refine wpAnyH_take (i := 8) (v := undef) rfl (by kernel_rfl) (by kernel_rfl) (by kernel_rfl) (fun _ _ _ h => h) (Or.inr ⟨by rfl, rfl⟩) hHeld ?_
            try dsimp only
            try simp only [Act.put, List.getElem_toArray, List.getElem_cons_zero, List.getElem_cons_succ, List.setIfInBounds_toArray, List.set_cons_zero, List.set_cons_succ]
            refine wpAnyH_take (i := 9) (v := undef) rfl (by kernel_rfl) (by kernel_rfl) (by kernel_rfl) (fun _ _ _ h => h) (Or.inr ⟨by rfl, rfl⟩) hHeld ?_
            try dsimp only
            try simp only [Act.put, List.getElem_toArray, List.getElem_cons_zero, List.getElem_cons_succ, List.setIfInBounds_toArray, List.set_cons_zero, List.set_cons_succ]
            refine wpAnyH_take (i := 10) (v := undef) rfl (by kernel_rfl) (by kernel_rfl) (by kernel_rfl) (fun _ _ _ h => h) (Or.inr ⟨by rfl, rfl⟩) hHeld ?_
            try dsimp only
            try simp only [Act.put, List.getElem_toArray, List.getElem_cons_zero, List.getElem_cons_succ, List.setIfInBounds_toArray, List.set_cons_zero, List.set_cons_succ]
            refine wpAnyH_take (i := 11) (v := undef) rfl (by kernel_rfl) (by kernel_rfl) (by kernel_rfl) (fun _ _ _ h => h) (Or.inr ⟨by rfl, rfl⟩) hHeld ?_
            try dsimp only
            try simp only [Act.put, List.getElem_toArray, List.getElem_cons_zero, List.getElem_cons_succ, List.setIfInBounds_toArray, List.set_cons_zero, List.set_cons_succ]
            refine wpAnyH_take (i := 12) (v := undef) rfl (by kernel_rfl) (by kernel_rfl) (by kernel_rfl) (fun _ _ _ h => h) (Or.inr ⟨by rfl, rfl⟩) hHeld ?_
            try dsimp only
            try simp only [Act.put, List.getElem_toArray, List.getElem_cons_zero, List.getElem_cons_succ, List.setIfInBounds_toArray, List.set_cons_zero, List.set_cons_succ]
            refine wpAnyH_take (i := 13) (v := .bool true) rfl (by kernel_rfl) (by kernel_rfl) (by kernel_rfl) (fun _ _ _ h => h) (Or.inl ⟨by rfl, fun w _ => by go_simp⟩) hHeld ?_
            try dsimp only
            try simp only [Act.put, List.getElem_toArray, List.getElem_cons_zero, List.getElem_cons_succ, List.setIfInBounds_toArray, List.set_cons_zero, List.set_cons_succ]
            refine wpAnyH_take (i := 14) (v := .bool true) rfl (by kernel_rfl) (by kernel_rfl) (by kernel_rfl) (fun _ _ _ h => h) (Or.inl ⟨by rfl, fun _ _ => rfl⟩) hHeld ?_
            try dsimp only
            try simp only [Act.put, List.getElem_toArray, List.getElem_cons_zero, List.getElem_cons_succ, List.setIfInBounds_toArray, List.set_cons_zero, List.set_cons_succ]
            refine wpAnyH_done (by kernel_rfl) ?_ _
            have HBn := Lib.hid (bto HB.out hHeld)
            clear hHeld
            go_wp2
            go_roundw
            case rel => exact ⟨j + 1, true, by omega, rfl, by go_num, by rw [HTK.out, ← HBE.out]; rfl, HBn.out⟩
            case measure => (simp [intOf]; try omega)
        · have HBA : Hid (b = P.any (fun p => likeZ p q)) := Lib.hid (by have h1 := HBE.out; rw [List.take_of_length_le (by have := HN1.out; omega)] at h1; exact h1)
          have HYq : Hid (wr.rangeAt gb (k * 8) q.cells) := Lib.hid (zkeep HRQ9.out HGQ9.out HB.out)
          have HGq : Hid (gb < wr.heap.size) := Lib.hid (Nat.lt_of_lt_of_le HGQ9.out HB.out.size)
          have HRe : Hid (wr.rangeAt be 0 [.int .u64 (e.off : Int), .int .i64 e.part, .int .i64 e.time, .string e.key, .float .f64 e.val]) := Lib.hid (zrow (row_keep HRE9.out HB.out))
          have HGe : Hid (be < wr.heap.size) := Lib.hid (Array.getElem?_eq_some_iff.1 (row_keep HRE9.out HB.out)).1
          rcases b with _ | _
          · obtain ⟨hk1, hk2, hk3⟩ := HMP.out q HQM.out HBA.out.symm
            have hne : ∀ w, (binOp .neq 9 (.string q.p.key) (.string e.key)).run Try.prog w = .ok (.bool false) w := b_neM (by rw [hk1]; rfl)
            have hls : ∀ w, (binOp .lss 2 (.int .i64 e.time) (.int .i64 q.p.s)).run Try.prog w = .ok (.bool false) w := b_lssM (by simpa using hk2)
            have hge : ∀ w, (binOp .geq 2 (.int .i64 e.time) (.int .i64 q.p.e)).run Try.prog w = .ok (.bool false) w := b_geqM (by simpa using hk3)
            clear hk1 hk2 hk3
            go_upto_region 16 with fail
            refine wp_region_held_drew (S := fun w' => Below wr.heap.size wr w') (by kernel_rfl) ((Below.refl _ wr).drew) (fun hHeld => ?_)
            refine wpAnyH_take (i := 0) (v := .bool false) rfl (by kernel_rfl) (by kernel_rfl) (by kernel_rfl) (fun _ _ _ h => h) (Or.inl ⟨by rfl, fun _ _ => rfl⟩) hHeld ?_
            try dsimp only
            try simp only [Act.put, List.getElem_toArray, List.getElem_cons_zero, List.getElem_cons_succ, List.setIfInBounds_toArray, List.set_cons_zero, List.set_cons_succ]
            refine wpAnyH_take (i := 1) (v := .bool true) rfl (by kernel_rfl) (by kernel_rfl) (by kernel_rfl) (fun _ _ _ h => h) (Or.inl ⟨by rfl, fun w _ => by go_simp⟩) hHeld ?_
            try dsimp only
            try simp only [Act.put, List.getElem_toArray, List.getElem_cons_zero, List.getElem_cons_succ, List.setIfInBounds_toArray, List.set_cons_zero, List.set_cons_succ]
            refine wpAnyH_take (i := 2) (v := .bool true) rfl (by kernel_rfl) (by kernel_rfl) (by kernel_rfl) (fun _ _ _ h => h) (Or.inl ⟨by rfl, fun _ _ => rfl⟩) hHeld ?_
            try dsimp only
            try simp only [Act.put, List.getElem_toArray, List.getElem_cons_zero, List.getElem_cons_succ, List.setIfInBounds_toArray, List.set_cons_zero, List.set_cons_succ]
            refine wpAnyH_take (i := 3) (v := .slice (some ⟨gb, 0, none⟩) n2 c2) rfl (by kernel_rfl) (by kernel_rfl) (by kernel_rfl) (fun _ _ _ h => h) (Or.inl ⟨by rfl, fun _ _ => rfl⟩) hHeld ?_
            try dsimp only
            try simp only [Act.put, List.getElem_toArray, List.getElem_cons_zero, List.getElem_cons_succ, List.setIfInBounds_toArray, List.set_cons_zero, List.set_cons_succ]
            refine wpAnyH_take (i := 4) (v := .int .i64 (k : Int)) rfl (by kernel_rfl) (by kernel_rfl) (by kernel_rfl) (fun _ _ _ h => h) (Or.inl ⟨by rfl, fun _ _ => rfl⟩) hHeld ?_
            try dsimp only
            try simp only [Act.put, List.getElem_toArray, List.getElem_cons_zero, List.getElem_cons_succ, List.setIfInBounds_toArray, List.set_cons_zero, List.set_cons_succ]
            refine wpAnyH_take (i := 5) (v := .pointer (some ⟨gb, k * 8, none⟩)) rfl (by kernel_rfl) (by kernel_rfl) (by kernel_rfl) (fun _ _ _ h => h) (Or.inl ⟨by rfl, fun w _ => by go_simp⟩) hHeld ?_
            try dsimp only
            try simp only [Act.put, List.getElem_toArray, List.getElem_cons_zero, List.getElem_cons_succ, List.setIfInBounds_toArray, List.set_cons_zero, List.set_cons_succ]
            refine wpAnyH_take (i := 6) (v := .pointer (some ⟨gb, k * 8, none⟩)) rfl (by kernel_rfl) (by kernel_rfl) (by kernel_rfl) (fun _ _ _ h => h) (Or.inl ⟨by rfl, fun w _ => by go_simp⟩) hHeld ?_
            try dsimp only
            try simp only [Act.put, List.getElem_toArray, List.getElem_cons_zero, List.getElem_cons_succ, List.setIfInBounds_toArray, List.set_cons_zero, List.set_cons_succ]
            refine wpAnyH_take (i := 7) (v := .string q.p.key) rfl (by kernel_rfl) (by kernel_rfl) (by kernel_rfl) (fun _ _ _ h => h) (Or.inl ⟨by rfl, fun w hw => by have hr9 : w.rangeAt gb (k * 8) [.string q.p.key, .int .i64 q.p.s, .int .i64 q.p.e, .int .u64 (q.t.c : Int), .float .f64 q.t.s, .bool q.t.o, .float .f64 q.t.lo, .float .f64 q.t.hi] := (zkeep HYq.out HGq.out hw); have hc : w.cell? ⟨gb, k * 8, none⟩ = some (.string q.p.key) := hr9 0 _ rfl; go_simp⟩) hHeld ?_
            try dsimp only
            try simp only [Act.put, List.getElem_toArray, List.getElem_cons_zero, List.getElem_cons_succ, List.setIfInBounds_toArray, List.set_cons_zero, List.set_cons_succ]
            refine wpAnyH_take (i := 8) (v := .pointer (some ⟨be, 3, none⟩)) rfl (by kernel_rfl) (by kernel_rfl) (by kernel_rfl) (fun _ _ _ h => h) (Or.inl ⟨by rfl, fun w _ => by go_simp⟩) hHeld ?_
            try dsimp only
            try simp only [Act.put, List.getElem_toArray, List.getElem_cons_zero, List.getElem_cons_succ, List.setIfInBounds_toArray, List.set_cons_zero, List.set_cons_succ]
            refine wpAnyH_take (i := 9) (v := .string e.key) rfl (by kernel_rfl) (by kernel_rfl) (by kernel_rfl) (fun _ _ _ h => h) (Or.inl ⟨by rfl, fun w hw => by have hr9 : w.rangeAt be (0) [.int .u64 (e.off : Int), .int .i64 e.part, .int .i64 e.time, .string e.key, .float .f64 e.val] := (zkeep HRe.out HGe.out hw); have hc : w.cell? ⟨be, 3, none⟩ = some (.string e.key) := (by have h9 := hr9 3 _ rfl; rw [Nat.zero_add] at h9; exact h9); go_simp⟩) hHeld ?_
            try dsimp only
            try simp only [Act.put, List.getElem_toArray, List.getElem_cons_zero, List.getElem_cons_succ, List.setIfInBounds_toArray, List.set_cons_zero, List.set_cons_succ]
            refine wpAnyH_take (i := 10) (v := .bool false) rfl (by kernel_rfl) (by kernel_rfl) (by kernel_rfl) (fun _ _ _ h => h) (yb_bin rfl .neq _ _ _ _ rfl _ _ _ rfl rfl (fun _ => rfl) hne) hHeld ?_
            try dsimp only
            try simp only [Act.put, List.getElem_toArray, List.getElem_cons_zero, List.getElem_cons_succ, List.setIfInBounds_toArray, List.set_cons_zero, List.set_cons_succ]
            refine wpAnyH_take (i := 11) (v := .bool false) rfl (by kernel_rfl) (by kernel_rfl) (by kernel_rfl) (fun _ _ _ h => h) (Or.inl ⟨by rfl, fun _ _ => rfl⟩) hHeld ?_
            try dsimp only
            try simp only [Act.put, List.getElem_toArray, List.getElem_cons_zero, List.getElem_cons_succ, List.setIfInBounds_toArray, List.set_cons_zero, List.set_cons_succ]
            refine wpAnyH_take (i := 12) (v := .pointer (some ⟨be, 2, none⟩)) rfl (by kernel_rfl) (by kernel_rfl) (by kernel_rfl) (fun _ _ _ h => h) (Or.inl ⟨by rfl, fun w _ => by go_simp⟩) hHeld ?_
            try dsimp only
            try simp only [Act.put, List.getElem_toArray, List.getElem_cons_zero, List.getElem_cons_succ, List.setIfInBounds_toArray, List.set_cons_zero, List.set_cons_succ]
            refine wpAnyH_take (i := 13) (v := .int .i64 e.time) rfl (by kernel_rfl) (by kernel_rfl) (by kernel_rfl) (fun _ _ _ h => h) (Or.inl ⟨by rfl, fun w hw => by have hr9 : w.rangeAt be (0) [.int .u64 (e.off : Int), .int .i64 e.part, .int .i64 e.time, .string e.key, .float .f64 e.val] := (zkeep HRe.out HGe.out hw); have hc : w.cell? ⟨be, 2, none⟩ = some (.int .i64 e.time) := (by have h9 := hr9 2 _ rfl; rw [Nat.zero_add] at h9; exact h9); go_simp⟩) hHeld ?_
            try dsimp only
            try simp only [Act.put, List.getElem_toArray, List.getElem_cons_zero, List.getElem_cons_succ, List.setIfInBounds_toArray, List.set_cons_zero, List.set_cons_succ]
            refine wpAnyH_take (i := 14) (v := .slice (some ⟨gb, 0, none⟩) n2 c2) rfl (by kernel_rfl) (by kernel_rfl) (by kernel_rfl) (fun _ _ _ h => h) (Or.inl ⟨by rfl, fun _ _ => rfl⟩) hHeld ?_
            try dsimp only
            try simp only [Act.put, List.getElem_toArray, List.getElem_cons_zero, List.getElem_cons_succ, List.setIfInBounds_toArray, List.set_cons_zero, List.set_cons_succ]
            refine wpAnyH_take (i := 15) (v := .int .i64 (k : Int)) rfl (by kernel_rfl) (by kernel_rfl) (by kernel_rfl) (fun _ _ _ h => h) (Or.inl ⟨by rfl, fun _ _ => rfl⟩) hHeld ?_
            try dsimp only
            try simp only [Act.put, List.getElem_toArray, List.getElem_cons_zero, List.getElem_cons_succ, List.setIfInBounds_toArray, List.set_cons_zero, List.set_cons_succ]
            refine wpAnyH_take (i := 16) (v := .pointer (some ⟨gb, k * 8, none⟩)) rfl (by kernel_rfl) (by kernel_rfl) (by kernel_rfl) (fun _ _ _ h => h) (Or.inl ⟨by rfl, fun w _ => by go_simp⟩) hHeld ?_
            try dsimp only
            try simp only [Act.put, List.getElem_toArray, List.getElem_cons_zero, List.getElem_cons_succ, List.setIfInBounds_toArray, List.set_cons_zero, List.set_cons_succ]
            refine wpAnyH_take (i := 17) (v := .pointer (some ⟨gb, k * 8 + 1, none⟩)) rfl (by kernel_rfl) (by kernel_rfl) (by kernel_rfl) (fun _ _ _ h => h) (Or.inl ⟨by rfl, fun w _ => by go_simp⟩) hHeld ?_
            try dsimp only
            try simp only [Act.put, List.getElem_toArray, List.getElem_cons_zero, List.getElem_cons_succ, List.setIfInBounds_toArray, List.set_cons_zero, List.set_cons_succ]
            refine wpAnyH_take (i := 18) (v := .pointer (some ⟨gb, k * 8 + 1, none⟩)) rfl (by kernel_rfl) (by kernel_rfl) (by kernel_rfl) (fun _ _ _ h => h) (Or.inl ⟨by rfl, fun w _ => by go_simp⟩) hHeld ?_
            try dsimp only
            try simp only [Act.put, List.getElem_toArray, List.getElem_cons_zero, List.getElem_cons_succ, List.setIfInBounds_toArray, List.set_cons_zero, List.set_cons_succ]
            refine wpAnyH_take (i := 19) (v := .int .i64 q.p.s) rfl (by kernel_rfl) (by kernel_rfl) (by kernel_rfl) (fun _ _ _ h => h) (Or.inl ⟨by rfl, fun w hw => by have hr9 : w.rangeAt gb (k * 8) [.string q.p.key, .int .i64 q.p.s, .int .i64 q.p.e, .int .u64 (q.t.c : Int), .float .f64 q.t.s, .bool q.t.o, .float .f64 q.t.lo, .float .f64 q.t.hi] := (zkeep HYq.out HGq.out hw); have hc : w.cell? ⟨gb, k * 8 + 1, none⟩ = some (.int .i64 q.p.s) := hr9 1 _ rfl; go_simp⟩) hHeld ?_
            try dsimp only
            try simp only [Act.put, List.getElem_toArray, List.getElem_cons_zero, List.getElem_cons_succ, List.setIfInBounds_toArray, List.set_cons_zero, List.set_cons_succ]
            refine wpAnyH_take (i := 20) (v := .bool false) rfl (by kernel_rfl) (by kernel_rfl) (by kernel_rfl) (fun _ _ _ h => h) (yb_bin rfl .lss _ _ _ _ rfl _ _ _ rfl rfl (fun _ => rfl) hls) hHeld ?_
            try dsimp only
            try simp only [Act.put, List.getElem_toArray, List.getElem_cons_zero, List.getElem_cons_succ, List.setIfInBounds_toArray, List.set_cons_zero, List.set_cons_succ]
            refine wpAnyH_take (i := 21) (v := .bool false) rfl (by kernel_rfl) (by kernel_rfl) (by kernel_rfl) (fun _ _ _ h => h) (Or.inl ⟨by rfl, fun w _ => by go_simp⟩) hHeld ?_
            try dsimp only
            try simp only [Act.put, List.getElem_toArray, List.getElem_cons_zero, List.getElem_cons_succ, List.setIfInBounds_toArray, List.set_cons_zero, List.set_cons_succ]
            refine wpAnyH_take (i := 22) (v := .bool false) rfl (by kernel_rfl) (by kernel_rfl) (by kernel_rfl) (fun _ _ _ h => h) (Or.inl ⟨by rfl, fun _ _ => rfl⟩) hHeld ?_
            try dsimp only
            try simp only [Act.put, List.getElem_toArray, List.getElem_cons_zero, List.getElem_cons_succ, List.setIfInBounds_toArray, List.set_cons_zero, List.set_cons_succ]
            refine wpAnyH_take (i := 23) (v := .pointer (some ⟨be, 2, none⟩)) rfl (by kernel_rfl) (by kernel_rfl) (by kernel_rfl) (fun _ _ _ h => h) (Or.inl ⟨by rfl, fun w _ => by go_simp⟩) hHeld ?_
            try dsimp only
            try simp only [Act.put, List.getElem_toArray, List.getElem_cons_zero, List.getElem_cons_succ, List.setIfInBounds_toArray, List.set_cons_zero, List.set_cons_succ]
            refine wpAnyH_take (i := 24) (v := .int .i64 e.time) rfl (by kernel_rfl) (by kernel_rfl) (by kernel_rfl) (fun _ _ _ h => h) (Or.inl ⟨by rfl, fun w hw => by have hr9 : w.rangeAt be (0) [.int .u64 (e.off : Int), .int .i64 e.part, .int .i64 e.time, .string e.key, .float .f64 e.val] := (zkeep HRe.out HGe.out hw); have hc : w.cell? ⟨be, 2, none⟩ = some (.int .i64 e.time) := (by have h9 := hr9 2 _ rfl; rw [Nat.zero_add] at h9; exact h9); go_simp⟩) hHeld ?_
            try dsimp only
            try simp only [Act.put, List.getElem_toArray, List.getElem_cons_zero, List.getElem_cons_succ, List.setIfInBounds_toArray, List.set_cons_zero, List.set_cons_succ]
            refine wpAnyH_take (i := 25) (v := .slice (some ⟨gb, 0, none⟩) n2 c2) rfl (by kernel_rfl) (by kernel_rfl) (by kernel_rfl) (fun _ _ _ h => h) (Or.inl ⟨by rfl, fun _ _ => rfl⟩) hHeld ?_
            try dsimp only
            try simp only [Act.put, List.getElem_toArray, List.getElem_cons_zero, List.getElem_cons_succ, List.setIfInBounds_toArray, List.set_cons_zero, List.set_cons_succ]
            refine wpAnyH_take (i := 26) (v := .int .i64 (k : Int)) rfl (by kernel_rfl) (by kernel_rfl) (by kernel_rfl) (fun _ _ _ h => h) (Or.inl ⟨by rfl, fun _ _ => rfl⟩) hHeld ?_
            try dsimp only
            try simp only [Act.put, List.getElem_toArray, List.getElem_cons_zero, List.getElem_cons_succ, List.setIfInBounds_toArray, List.set_cons_zero, List.set_cons_succ]
            refine wpAnyH_take (i := 27) (v := .pointer (some ⟨gb, k * 8, none⟩)) rfl (by kernel_rfl) (by kernel_rfl) (by kernel_rfl) (fun _ _ _ h => h) (Or.inl ⟨by rfl, fun w _ => by go_simp⟩) hHeld ?_
            try dsimp only
            try simp only [Act.put, List.getElem_toArray, List.getElem_cons_zero, List.getElem_cons_succ, List.setIfInBounds_toArray, List.set_cons_zero, List.set_cons_succ]
            refine wpAnyH_take (i := 28) (v := .pointer (some ⟨gb, k * 8 + 1, none⟩)) rfl (by kernel_rfl) (by kernel_rfl) (by kernel_rfl) (fun _ _ _ h => h) (Or.inl ⟨by rfl, fun w _ => by go_simp⟩) hHeld ?_
            try dsimp only
            try simp only [Act.put, List.getElem_toArray, List.getElem_cons_zero, List.getElem_cons_succ, List.setIfInBounds_toArray, List.set_cons_zero, List.set_cons_succ]
            refine wpAnyH_take (i := 29) (v := .pointer (some ⟨gb, k * 8 + 2, none⟩)) rfl (by kernel_rfl) (by kernel_rfl) (by kernel_rfl) (fun _ _ _ h => h) (Or.inl ⟨by rfl, fun w _ => by go_simp⟩) hHeld ?_
            try dsimp only
            try simp only [Act.put, List.getElem_toArray, List.getElem_cons_zero, List.getElem_cons_succ, List.setIfInBounds_toArray, List.set_cons_zero, List.set_cons_succ]
            refine wpAnyH_take (i := 30) (v := .int .i64 q.p.e) rfl (by kernel_rfl) (by kernel_rfl) (by kernel_rfl) (fun _ _ _ h => h) (Or.inl ⟨by rfl, fun w hw => by have hr9 : w.rangeAt gb (k * 8) [.string q.p.key, .int .i64 q.p.s, .int .i64 q.p.e, .int .u64 (q.t.c : Int), .float .f64 q.t.s, .bool q.t.o, .float .f64 q.t.lo, .float .f64 q.t.hi] := (zkeep HYq.out HGq.out hw); have hc : w.cell? ⟨gb, k * 8 + 2, none⟩ = some (.int .i64 q.p.e) := hr9 2 _ rfl; go_simp⟩) hHeld ?_
            try dsimp only
            try simp only [Act.put, List.getElem_toArray, List.getElem_cons_zero, List.getElem_cons_succ, List.setIfInBounds_toArray, List.set_cons_zero, List.set_cons_succ]
            refine wpAnyH_take (i := 31) (v := .bool false) rfl (by kernel_rfl) (by kernel_rfl) (by kernel_rfl) (fun _ _ _ h => h) (yb_bin rfl .geq _ _ _ _ rfl _ _ _ rfl rfl (fun _ => rfl) hge) hHeld ?_
            try dsimp only
            try simp only [Act.put, List.getElem_toArray, List.getElem_cons_zero, List.getElem_cons_succ, List.setIfInBounds_toArray, List.set_cons_zero, List.set_cons_succ]
            refine wpAnyH_take (i := 32) (v := .bool false) rfl (by kernel_rfl) (by kernel_rfl) (by kernel_rfl) (fun _ _ _ h => h) (Or.inl ⟨by rfl, fun w _ => by go_simp⟩) hHeld ?_
            try dsimp only
            try simp only [Act.put, List.getElem_toArray, List.getElem_cons_zero, List.getElem_cons_succ, List.setIfInBounds_toArray, List.set_cons_zero, List.set_cons_succ]
            refine wpAnyH_take (i := 33) (v := .bool false) rfl (by kernel_rfl) (by kernel_rfl) (by kernel_rfl) (fun _ _ _ h => h) (Or.inl ⟨by rfl, fun w _ => by go_simp⟩) hHeld ?_
            try dsimp only
            try simp only [Act.put, List.getElem_toArray, List.getElem_cons_zero, List.getElem_cons_succ, List.setIfInBounds_toArray, List.set_cons_zero, List.set_cons_succ]
            refine wpAnyH_done (by kernel_rfl) ?_ _
            have HBn := Lib.hid (bto HB.out hHeld)
            clear hHeld hne hls hge
            go_wp2
            go_roundw
            case rel => exact ⟨k + 1, hin, by go_num, HBn.out⟩
            case measure => (simp [intOf]; try omega)
          · go_upto_region 16 with fail
            refine wp_region_held_drew (S := fun w' => Below wr.heap.size wr w') (by kernel_rfl) ((Below.refl _ wr).drew) (fun hHeld => ?_)
            refine wpAnyH_take (i := 0) (v := .bool true) rfl (by kernel_rfl) (by kernel_rfl) (by kernel_rfl) (fun _ _ _ h => h) (Or.inl ⟨by rfl, fun _ _ => rfl⟩) hHeld ?_
            try dsimp only
            try simp only [Act.put, List.getElem_toArray, List.getElem_cons_zero, List.getElem_cons_succ, List.setIfInBounds_toArray, List.set_cons_zero, List.set_cons_succ]
            refine wpAnyH_take (i := 1) (v := .bool false) rfl (by kernel_rfl) (by kernel_rfl) (by kernel_rfl) (fun _ _ _ h => h) (Or.inl ⟨by rfl, fun w _ => by go_simp⟩) hHeld ?_
            try dsimp only
            try simp only [Act.put, List.getElem_toArray, List.getElem_cons_zero, List.getElem_cons_succ, List.setIfInBounds_toArray, List.set_cons_zero, List.set_cons_succ]
            refine wpAnyH_take (i := 2) (v := .bool false) rfl (by kernel_rfl) (by kernel_rfl) (by kernel_rfl) (fun _ _ _ h => h) (Or.inl ⟨by rfl, fun _ _ => rfl⟩) hHeld ?_
            try dsimp only
            try simp only [Act.put, List.getElem_toArray, List.getElem_cons_zero, List.getElem_cons_succ, List.setIfInBounds_toArray, List.set_cons_zero, List.set_cons_succ]
            refine wpAnyH_take (i := 3) (v := undef) rfl (by kernel_rfl) (by kernel_rfl) (by kernel_rfl) (fun _ _ _ h => h) (Or.inr ⟨by rfl, rfl⟩) hHeld ?_
            try dsimp only
            try simp only [Act.put, List.getElem_toArray, List.getElem_cons_zero, List.getElem_cons_succ, List.setIfInBounds_toArray, List.set_cons_zero, List.set_cons_succ]
            refine wpAnyH_take (i := 4) (v := undef) rfl (by kernel_rfl) (by kernel_rfl) (by kernel_rfl) (fun _ _ _ h => h) (Or.inr ⟨by rfl, rfl⟩) hHeld ?_
            try dsimp only
            try simp only [Act.put, List.getElem_toArray, List.getElem_cons_zero, List.getElem_cons_succ, List.setIfInBounds_toArray, List.set_cons_zero, List.set_cons_succ]
            refine wpAnyH_take (i := 5) (v := undef) rfl (by kernel_rfl) (by kernel_rfl) (by kernel_rfl) (fun _ _ _ h => h) (Or.inr ⟨by rfl, rfl⟩) hHeld ?_
            try dsimp only
            try simp only [Act.put, List.getElem_toArray, List.getElem_cons_zero, List.getElem_cons_succ, List.setIfInBounds_toArray, List.set_cons_zero, List.set_cons_succ]
            refine wpAnyH_take (i := 6) (v := undef) rfl (by kernel_rfl) (by kernel_rfl) (by kernel_rfl) (fun _ _ _ h => h) (Or.inr ⟨by rfl, rfl⟩) hHeld ?_
            try dsimp only
            try simp only [Act.put, List.getElem_toArray, List.getElem_cons_zero, List.getElem_cons_succ, List.setIfInBounds_toArray, List.set_cons_zero, List.set_cons_succ]
            refine wpAnyH_take (i := 7) (v := undef) rfl (by kernel_rfl) (by kernel_rfl) (by kernel_rfl) (fun _ _ _ h => h) (Or.inr ⟨by rfl, rfl⟩) hHeld ?_
            try dsimp only
            try simp only [Act.put, List.getElem_toArray, List.getElem_cons_zero, List.getElem_cons_succ, List.setIfInBounds_toArray, List.set_cons_zero, List.set_cons_succ]
            refine wpAnyH_take (i := 8) (v := undef) rfl (by kernel_rfl) (by kernel_rfl) (by kernel_rfl) (fun _ _ _ h => h) (Or.inr ⟨by rfl, rfl⟩) hHeld ?_
            try dsimp only
            try simp only [Act.put, List.getElem_toArray, List.getElem_cons_zero, List.getElem_cons_succ, List.setIfInBounds_toArray, List.set_cons_zero, List.set_cons_succ]
            refine wpAnyH_take (i := 9) (v := undef) rfl (by kernel_rfl) (by kernel_rfl) (by kernel_rfl) (fun _ _ _ h => h) (Or.inr ⟨by rfl, rfl⟩) hHeld ?_
            try dsimp only
            try simp only [Act.put, List.getElem_toArray, List.getElem_cons_zero, List.getElem_cons_succ, List.setIfInBounds_toArray, List.set_cons_zero, List.set_cons_succ]
            refine wpAnyH_take (i := 10) (v := undef) rfl (by kernel_rfl) (by kernel_rfl) (by kernel_rfl) (fun _ _ _ h => h) (Or.inr ⟨by rfl, rfl⟩) hHeld ?_
            try dsimp only
            try simp only [Act.put, List.getElem_toArray, List.getElem_cons_zero, List.getElem_cons_succ, List.setIfInBounds_toArray, List.set_cons_zero, List.set_cons_succ]
            refine wpAnyH_take (i := 11) (v := undef) rfl (by kernel_rfl) (by kernel_rfl) (by kernel_rfl) (fun _ _ _ h => h) (Or.inr ⟨by rfl, rfl⟩) hHeld ?_
            try dsimp only
            try simp only [Act.put, List.getElem_toArray, List.getElem_cons_zero, List.getElem_cons_succ, List.setIfInBounds_toArray, List.set_cons_zero, List.set_cons_succ]
            refine wpAnyH_take (i := 12) (v := undef) rfl (by kernel_rfl) (by kernel_rfl) (by kernel_rfl) (fun _ _ _ h => h) (Or.inr ⟨by rfl, rfl⟩) hHeld ?_
            try dsimp only
            try simp only [Act.put, List.getElem_toArray, List.getElem_cons_zero, List.getElem_cons_succ, List.setIfInBounds_toArray, List.set_cons_zero, List.set_cons_succ]
            refine wpAnyH_take (i := 13) (v := undef) rfl (by kernel_rfl) (by kernel_rfl) (by kernel_rfl) (fun _ _ _ h => h) (Or.inr ⟨by rfl, rfl⟩) hHeld ?_
            try dsimp only
            try simp only [Act.put, List.getElem_toArray, List.getElem_cons_zero, List.getElem_cons_succ, List.setIfInBounds_toArray, List.set_cons_zero, List.set_cons_succ]
            refine wpAnyH_take (i := 14) (v := undef) rfl (by kernel_rfl) (by kernel_rfl) (by kernel_rfl) (fun _ _ _ h => h) (Or.inr ⟨by rfl, rfl⟩) hHeld ?_
            try dsimp only
            try simp only [Act.put, List.getElem_toArray, List.getElem_cons_zero, List.getElem_cons_succ, List.setIfInBounds_toArray, List.set_cons_zero, List.set_cons_succ]
            refine wpAnyH_take (i := 15) (v := undef) rfl (by kernel_rfl) (by kernel_rfl) (by kernel_rfl) (fun _ _ _ h => h) (Or.inr ⟨by rfl, rfl⟩) hHeld ?_
            try dsimp only
            try simp only [Act.put, List.getElem_toArray, List.getElem_cons_zero, List.getElem_cons_succ, List.setIfInBounds_toArray, List.set_cons_zero, List.set_cons_succ]
            refine wpAnyH_take (i := 16) (v := undef) rfl (by kernel_rfl) (by kernel_rfl) (by kernel_rfl) (fun _ _ _ h => h) (Or.inr ⟨by rfl, rfl⟩) hHeld ?_
            try dsimp only
            try simp only [Act.put, List.getElem_toArray, List.getElem_cons_zero, List.getElem_cons_succ, List.setIfInBounds_toArray, List.set_cons_zero, List.set_cons_succ]
            refine wpAnyH_take (i := 17) (v := undef) rfl (by kernel_rfl) (by kernel_rfl) (by kernel_rfl) (fun _ _ _ h => h) (Or.inr ⟨by rfl, rfl⟩) hHeld ?_
            try dsimp only
            try simp only [Act.put, List.getElem_toArray, List.getElem_cons_zero, List.getElem_cons_succ, List.setIfInBounds_toArray, List.set_cons_zero, List.set_cons_succ]
            refine wpAnyH_take (i := 18) (v := undef) rfl (by kernel_rfl) (by kernel_rfl) (by kernel_rfl) (fun _ _ _ h => h) (Or.inr ⟨by rfl, rfl⟩) hHeld ?_
            try dsimp only
            try simp only [Act.put, List.getElem_toArray, List.getElem_cons_zero, List.getElem_cons_succ, List.setIfInBounds_toArray, List.set_cons_zero, List.set_cons_succ]
            refine wpAnyH_take (i := 19) (v := undef) rfl (by kernel_rfl) (by kernel_rfl) (by kernel_rfl) (fun _ _ _ h => h) (Or.inr ⟨by rfl, rfl⟩) hHeld ?_
            try dsimp only
            try simp only [Act.put, List.getElem_toArray, List.getElem_cons_zero, List.getElem_cons_succ, List.setIfInBounds_toArray, List.set_cons_zero, List.set_cons_succ]
            refine wpAnyH_take (i := 20) (v := undef) rfl (by kernel_rfl) (by kernel_rfl) (by kernel_rfl) (fun _ _ _ h => h) (Or.inr ⟨by rfl, rfl⟩) hHeld ?_
            try dsimp only
            try simp only [Act.put, List.getElem_toArray, List.getElem_cons_zero, List.getElem_cons_succ, List.setIfInBounds_toArray, List.set_cons_zero, List.set_cons_succ]
            refine wpAnyH_take (i := 21) (v := undef) rfl (by kernel_rfl) (by kernel_rfl) (by kernel_rfl) (fun _ _ _ h => h) (Or.inr ⟨by rfl, rfl⟩) hHeld ?_
            try dsimp only
            try simp only [Act.put, List.getElem_toArray, List.getElem_cons_zero, List.getElem_cons_succ, List.setIfInBounds_toArray, List.set_cons_zero, List.set_cons_succ]
            refine wpAnyH_take (i := 22) (v := undef) rfl (by kernel_rfl) (by kernel_rfl) (by kernel_rfl) (fun _ _ _ h => h) (Or.inr ⟨by rfl, rfl⟩) hHeld ?_
            try dsimp only
            try simp only [Act.put, List.getElem_toArray, List.getElem_cons_zero, List.getElem_cons_succ, List.setIfInBounds_toArray, List.set_cons_zero, List.set_cons_succ]
            refine wpAnyH_take (i := 23) (v := undef) rfl (by kernel_rfl) (by kernel_rfl) (by kernel_rfl) (fun _ _ _ h => h) (Or.inr ⟨by rfl, rfl⟩) hHeld ?_
            try dsimp only
            try simp only [Act.put, List.getElem_toArray, List.getElem_cons_zero, List.getElem_cons_succ, List.setIfInBounds_toArray, List.set_cons_zero, List.set_cons_succ]
            refine wpAnyH_take (i := 24) (v := undef) rfl (by kernel_rfl) (by kernel_rfl) (by kernel_rfl) (fun _ _ _ h => h) (Or.inr ⟨by rfl, rfl⟩) hHeld ?_
            try dsimp only
            try simp only [Act.put, List.getElem_toArray, List.getElem_cons_zero, List.getElem_cons_succ, List.setIfInBounds_toArray, List.set_cons_zero, List.set_cons_succ]
            refine wpAnyH_take (i := 25) (v := undef) rfl (by kernel_rfl) (by kernel_rfl) (by kernel_rfl) (fun _ _ _ h => h) (Or.inr ⟨by rfl, rfl⟩) hHeld ?_
            try dsimp only
            try simp only [Act.put, List.getElem_toArray, List.getElem_cons_zero, List.getElem_cons_succ, List.setIfInBounds_toArray, List.set_cons_zero, List.set_cons_succ]
            refine wpAnyH_take (i := 26) (v := undef) rfl (by kernel_rfl) (by kernel_rfl) (by kernel_rfl) (fun _ _ _ h => h) (Or.inr ⟨by rfl, rfl⟩) hHeld ?_
            try dsimp only
            try simp only [Act.put, List.getElem_toArray, List.getElem_cons_zero, List.getElem_cons_succ, List.setIfInBounds_toArray, List.set_cons_zero, List.set_cons_succ]
            refine wpAnyH_take (i := 27) (v := undef) rfl (by kernel_rfl) (by kernel_rfl) (by kernel_rfl) (fun _ _ _ h => h) (Or.inr ⟨by rfl, rfl⟩) hHeld ?_
            try dsimp only
            try simp only [Act.put, List.getElem_toArray, List.getElem_cons_zero, List.getElem_cons_succ, List.setIfInBounds_toArray, List.set_cons_zero, List.set_cons_succ]
            refine wpAnyH_take (i := 28) (v := undef) rfl (by kernel_rfl) (by kernel_rfl) (by kernel_rfl) (fun _ _ _ h => h) (Or.inr ⟨by rfl, rfl⟩) hHeld ?_
            try dsimp only
            try simp only [Act.put, List.getElem_toArray, List.getElem_cons_zero, List.getElem_cons_succ, List.setIfInBounds_toArray, List.set_cons_zero, List.set_cons_succ]
            refine wpAnyH_take (i := 29) (v := undef) rfl (by kernel_rfl) (by kernel_rfl) (by kernel_rfl) (fun _ _ _ h => h) (Or.inr ⟨by rfl, rfl⟩) hHeld ?_
            try dsimp only
            try simp only [Act.put, List.getElem_toArray, List.getElem_cons_zero, List.getElem_cons_succ, List.setIfInBounds_toArray, List.set_cons_zero, List.set_cons_succ]
            refine wpAnyH_take (i := 30) (v := undef) rfl (by kernel_rfl) (by kernel_rfl) (by kernel_rfl) (fun _ _ _ h => h) (Or.inr ⟨by rfl, rfl⟩) hHeld ?_
            try dsimp only
            try simp only [Act.put, List.getElem_toArray, List.getElem_cons_zero, List.getElem_cons_succ, List.setIfInBounds_toArray, List.set_cons_zero, List.set_cons_succ]
            refine wpAnyH_take (i := 31) (v := undef) rfl (by kernel_rfl) (by kernel_rfl) (by kernel_rfl) (fun _ _ _ h => h) (Or.inr ⟨by rfl, rfl⟩) hHeld ?_
            try dsimp only
            try simp only [Act.put, List.getElem_toArray, List.getElem_cons_zero, List.getElem_cons_succ, List.setIfInBounds_toArray, List.set_cons_zero, List.set_cons_succ]
            refine wpAnyH_take (i := 32) (v := undef) rfl (by kernel_rfl) (by kernel_rfl) (by kernel_rfl) (fun _ _ _ h => h) (Or.inr ⟨by rfl, rfl⟩) hHeld ?_
            try dsimp only
            try simp only [Act.put, List.getElem_toArray, List.getElem_cons_zero, List.getElem_cons_succ, List.setIfInBounds_toArray, List.set_cons_zero, List.set_cons_succ]
            refine wpAnyH_take (i := 33) (v := .bool false) rfl (by kernel_rfl) (by kernel_rfl) (by kernel_rfl) (fun _ _ _ h => h) (Or.inl ⟨by rfl, fun w _ => by go_simp⟩) hHeld ?_
            try dsimp only
            try simp only [Act.put, List.getElem_toArray, List.getElem_cons_zero, List.getElem_cons_succ, List.setIfInBounds_toArray, List.set_cons_zero, List.set_cons_succ]
            refine wpAnyH_done (by kernel_rfl) ?_ _
            have HBn := Lib.hid (bto HB.out hHeld)
            clear hHeld
            go_wp2
            go_roundw
            case rel => exact ⟨k + 1, hin, by go_num, HBn.out⟩
            case measure => (simp [intOf]; try omega)
    · have HRCr := Lib.hid (row_keep HRC9.out HBo.out)
      have HBW : Hid (Below W.heap.size W wr) := Lib.hid (bto HB9.out HBo.out)
      by_cases hge : n1 ≤ n2
      · have hgeI : (n1 : Int) ≤ (n2 : Int) := by omega
        clear hge
        go_wp2
        go_ret
        exact ⟨rfl, HBW.out⟩
      · have hkd : c.kind = 2 := by
          rcases Nat.decEq c.kind 2 with h | h
          · have h1 := HML.out h; have h2 := HN1.out; have h3 := HN2.out; omega
          · exact h
        have HWO : Hid ((wOf c e.time).length = 1) := Lib.hid (by rw [wOf_ses HC.out hkd]; rfl)
        have HOF := Lib.hid (HOF.out HET.out.1 HET.out.2)
        have kc0 : wr.cell? ⟨bc, 0, none⟩ = some (.int .u8 2) := by
          have h9 := (zrow HRCr.out) 0 _ rfl
          rw [hkd] at h9; exact h9
        have ke2 : wr.cell? ⟨be, 2, none⟩ = some (.int .i64 e.time) := (zrow (row_keep HRE9.out HBo.out)) 2 _ rfl
        have hdd : decide ((n1 : Int) ≤ (n2 : Int)) = false := decide_eq_false (by omega)
        have hdn : decide (n1 ≤ n2) = false := decide_eq_false hge
        clear hge hkd
        go_wp2_with (first | (refine wpList_load_rowM (by rfl) 64 (.tmp 7) rfl bc rfl _ #[.int .u8 (c.kind : Int), .int .i64 c.size, .int .i64 c.step, .int .i64 c.late, .int .i64 c.skew, .int .i64 c.parts, .int .u64 (c.cut : Int)] (0, 0) _ HRCr.out uCf rfl (by kernel_rfl) ?_) | (go_at_call 44; (with_reducible refine (HOF.out _).mono ?_); rintro e' w8 ⟨Aw, nw, cw, rfl, hnw, -, hb8⟩; have hnw1 : nw = 1 := hnw.trans HWO.out; subst hnw1; have HB8 := Lib.hid hb8; clear hnw hb8))
        go_ret
        exact ⟨rfl, bto HBW.out HB8.out⟩
end Go.Proofs.Ytbimfopbilcdgaa
