/-
  Layer whole: the document's add in memory: a value put into the row of groups, made anew.
-/
import Derived.Test.YtbimfopbilcdgaaZqhR
import Derived.Test.YtbimfopbilcdgaaZsaR
set_option linter.unusedSimpArgs false
set_option linter.unusedVariables false
set_option maxRecDepth 8000
namespace Go.Proofs.Ytbimfopbilcdgaa
open Go.RowKit Go.Sort Sm

theorem wpList_load_midG {P : Program} {ops : Array Oper} {rest : List Oper} {op : Oper} {a : Act} {w : World} {Q : Exit → Act → World → Prop} (hw : Region.wanted op (yielded ops a.tmps) = true) (ty : TypeId) (x : Operand) (ho : op.op = .load ty x)
    (b o : Nat) (hx : a.eval x = .pointer (some ⟨b, o, none⟩)) (cs : List Value) (d : TypeDesc) (hc : w.rangeAt b o cs)
    (hu : P.underlying ty = some d) (hd : d.isRow = true) (hi : (P.info? ty).map (·.size) = some cs.length)
    (h : wpList P ops Q rest (a.put op.dst (.agg cs.toArray)) w) : wpList P ops Q (op :: rest) a w :=
  wpList_step fun K hK => by simp only [hw, if_true]; exact wp_load_mid ty x ho b o hx cs d hc hu hd hi (hK _ _ h)
theorem wpList_load_rowG {P : Program} {ops : Array Oper} {rest : List Oper} {o : Oper} {a : Act} {w : World} {Q : Exit → Act → World → Prop} (hw : Region.wanted o (yielded ops a.tmps) = true) (ty : TypeId) (x : Operand) (ho : o.op = .load ty x)
    (g : Nat) (hx : a.eval x = .pointer (some ⟨g, 0, none⟩)) (t : TypeId) (cs : Array Value) (fr : Nat × Nat) (d : TypeDesc) (hg : w.heap[g]? = some (.cells cs t fr))
    (hu : P.underlying ty = some d) (hd : (match d with | .struct _ | .array _ _ => true | _ => false) = true) (hi : (P.info? ty).map (·.size) = some cs.size)
    (h : wpList P ops Q rest (a.put o.dst (.agg cs)) w) : wpList P ops Q (o :: rest) a w :=
  wpList_step fun K hK => by simp only [hw, if_true]; exact wp_load_row ty x ho g hx t cs fr d hg hu hd hi (hK _ _ h)
theorem uGd : Try.prog.underlying 134 = some (.struct (Try.prog.fieldsOf 134)) := by kernel_rfl
theorem gd_new (w : World) (g : Nat) (l : List Gd) (cs : Array Value) (hcs : cs.toList = gds l) (t : TypeId) (hg : g = w.heap.size) : GdAt (w.alloc (.cells cs t)) (some ⟨g, 0, none⟩) l := by subst hg; exact gdAt_new w l cs hcs t
theorem ownF_one {w : World} {g v : Nat} (hv : v < 18446744073709551616) (h : w.heap[g]? = some (.cells #[.float .f64 v] 74 (0, 0))) : OwnF w 0 (some ⟨g, 0, none⟩) 1 1 [v] :=
  OwnF.of_row (cs := [.float .f64 v]) h rfl (by unfold maxLen; omega) rfl rfl (Nat.zero_le _) (fun x hx => by simp at hx; subst hx; exact hv)
theorem z_unitQ (p q : ZP) : zCmp p q = -1 ∨ zCmp p q = 0 ∨ zCmp p q = 1 := z_vals p q
theorem z_casesQ (p q : ZP) : (keyZ p.key q.key = true ∧ winB p.s p.e q.s q.e = true ∧ zCmp p q = 0) ∨ (keyZ p.key q.key = true ∧ winB p.s p.e q.s q.e = false ∧ zCmp p q = -1) ∨ (keyZ p.key q.key = true ∧ winB p.s p.e q.s q.e = false ∧ zCmp p q = 1) ∨ (keyZ p.key q.key = false ∧ zCmp p q = -1) ∨ (keyZ p.key q.key = false ∧ zCmp p q = 1) := by
  have h0 := z_zero p q
  have hu := z_unitQ p q
  cases hk : keyZ p.key q.key
  · rcases hu with h | h | h
    · exact .inr (.inr (.inr (.inl ⟨rfl, h⟩)))
    · rw [h0.1 h] at hk
      rw [(keyZ_iff _ _).2 rfl] at hk; cases hk
    · exact .inr (.inr (.inr (.inr ⟨rfl, h⟩)))
  · have hk' := (keyZ_iff _ _).1 hk
    cases hw : winB p.s p.e q.s q.e
    · rcases hu with h | h | h
      · exact .inr (.inl ⟨rfl, rfl, h⟩)
      · rw [h0.1 h] at hw
        unfold winB at hw; simp at hw
      · exact .inr (.inr (.inl ⟨rfl, rfl, h⟩))
    · refine .inl ⟨rfl, rfl, h0.2 ?_⟩
      unfold winB at hw
      rw [Bool.and_eq_true, decide_eq_true_eq, decide_eq_true_eq] at hw
      obtain ⟨a, b, c⟩ := p; obtain ⟨a', b', c'⟩ := q
      simp only at hk' hw
      rw [hk', hw.1, hw.2]
/-- What is left to do: the groups at hand, and those behind them. -/
def Left (done : Bool) (l : List Grp) (g : Grp) : List Grp := if done = true then l else putF l g
theorem left_skip {x : Grp} {r : List Grp} {g : Grp} (h : zCmp x.p g.p = -1) : Left false (x :: r) g = x :: Left false r g := by
  have h1 := z_neg x.p g.p
  unfold Left
  rw [if_neg (by simp), if_neg (by simp), putF, if_pos (by omega)]
theorem left_here {x : Grp} {r : List Grp} {g : Grp} (h : zCmp x.p g.p = 0) : Left false (x :: r) g = ⟨x.p, x.vs ++ g.vs⟩ :: Left true r g := by
  have h1 := z_neg x.p g.p
  unfold Left
  rw [if_neg (by simp), if_pos rfl, putF, if_neg (by omega), if_pos (by omega), joinG, ← (z_zero _ _).1 h, joinP_self]
theorem left_ins {x : Grp} {r : List Grp} {g : Grp} (h : zCmp x.p g.p = 1) : Left false (x :: r) g = g :: x :: Left true r g := by
  have h1 := z_neg x.p g.p
  unfold Left
  rw [if_neg (by simp), if_pos rfl, putF, if_neg (by omega), if_neg (by omega)]
theorem left_done {x : Grp} {r : List Grp} {g : Grp} : Left true (x :: r) g = x :: Left true r g := by unfold Left; rw [if_pos rfl, if_pos rfl]
theorem left_nil (g : Grp) : Left false [] g = [g] := by unfold Left; rw [if_neg (by simp), putF]
theorem left_nil' (g : Grp) : Left true [] g = [] := by unfold Left; rw [if_pos rfl]
theorem drop_grp {ls : List Gd} {k : Nat} {x : Gd} (h : ls[k]? = some x) : (ls.drop k).map Gd.grp = x.grp :: (ls.drop (k + 1)).map Gd.grp := by
  obtain ⟨h1, h2⟩ := List.getElem?_eq_some_iff.1 h
  rw [List.drop_eq_getElem_cons h1, h2, List.map_cons]
/-- What add ends with. -/
def AddEnds (W : World) (gs : List Grp) (g : Grp) (e : Ending) (w' : World) : Prop := ∃ A n cap os, e = .returned (.slice A n cap) ∧ n ≤ cap ∧ cap ≤ maxLen ∧ (A = none → cap = 0) ∧ OwnGd w' W.heap.size A n cap os ∧ GdsOk w' os ∧ os.map Gd.grp = putF gs g ∧ Below W.heap.size W w'
def dn : Bool → Nat | true => 1 | false => 0
theorem bel_up {B B' : Nat} {a w : World} (h : Below B a w) (e : B' = B) : Below B' a w := e ▸ h
/-- What the loop keeps. -/
structure RAdd (W1 : World) (bw : Nat) (ls : List Gd) (g : Grp) (k no co : Nat) (Ao : Option Addr) (os : List Gd) (d : Bool) (w : World) : Prop where
  le : no ≤ co
  cap : co ≤ maxLen
  nil : Ao = none → co = 0
  own : OwnGd w (bw + 1) Ao no co os
  ok : GdsOk w os
  bel : Below (bw + 1) W1 w
  few : no ≤ k + dn d
  eq : os.map Gd.grp ++ Left d ((ls.drop k).map Gd.grp) g = putF (ls.map Gd.grp) g
theorem keepGd_set {w : World} {g : Nat} {cs : Array Value} {fr : Nat × Nat} (h : w.heap[g]? = some (.cells cs 134 fr)) (i : Nat) (u : Value) : KeepGd w (w.setCell ⟨g, i, none⟩ u) := fun k ds T m hk ht => by
  have e : g ≠ k := fun e => by
    subst e
    rw [h] at hk
    injection hk with hk; injection hk with _ hk _
    exact ht hk.symm
  show (w.heap.modify g _)[k]? = _
  rw [Array.getElem?_modify, if_neg e]; exact hk
theorem ownF_zero {w : World} {B n cap : Nat} {A : Option Addr} {l : List Nat} (h : OwnF w B A n cap l) (hn : 0 < n) : OwnF w 0 A n cap l := by
  obtain ⟨g, cs, rfl, hr⟩ := h.row hn
  exact OwnF.of_row hr.row hr.size hr.cap h.len hr.first (Nat.zero_le _) hr.lt
theorem gd_other {w w' : World} {B n cap : Nat} {A : Option Addr} {l : List Gd} (hown : OwnGd w B A n cap l) (h : w.grownBy w' (Value.slice A n cap).ownBlock ∨ w' = w) (b : Nat) (hb : b < w.heap.size) (hne : ∀ g off, A = some ⟨g, off, none⟩ → g ≠ b) : w'.heap[b]? = w.heap[b]? := by
  rcases h with hg | rfl
  · refine hg.block b hb (fun e => ?_)
    rcases hown.2 with ⟨e0, e1⟩ | ⟨g, cap', cur, e0, hb', hg', -⟩
    · rw [e0] at e; cases e
    · rw [e0] at e
      have e : b = g := by injection e
      injection e0 with e0
      exact hne g 0 e0 e.symm
  · rfl
set_option maxHeartbeats 8000000 in
theorem gadd_any (B : Nat) (a : Option Addr) (n cp : Nat) (ls : List Gd) (G : ZP) (v : Nat) (hv : v < 18446744073709551616) (hn : n ≤ 990) (hvs : ∀ x ∈ ls, x.n ≤ 1000) (W : World) (HA : Hid (OwnGd W B a n cp ls)) (HG : Hid (GdsOk W ls)) :
    Calls Try.prog 94 #[.slice a n cp, .string G.key, .agg #[.int .i64 G.s, .int .i64 G.e], .float .f64 v] W (AddEnds W (ls.map Gd.grp) ⟨G, [v]⟩) := by
  have HN := Lib.hid HA.out.len
  have HVS := Lib.hid hvs
  have HV := Lib.hid hv
  obtain ⟨W1, hW1⟩ : ∃ q, q = W.alloc (.cells #[.int .i64 G.s, .int .i64 G.e] 84) := ⟨_, rfl⟩
  obtain ⟨bw, hbw⟩ : ∃ q, q = W.heap.size := ⟨_, rfl⟩
  have HS1 : Hid (W1.heap.size = bw + 1) := Lib.hid (by rw [hW1, hbw]; simp)
  have HB1 : Hid (Below bw W W1) := Lib.hid (by rw [hW1, hbw]; exact (Below.refl _ _).alloc (Nat.le_refl _) _)
  have HR1 : Hid (W1.heap[bw]? = some (.cells #[.int .i64 G.s, .int .i64 G.e] 84 (0, 0))) := Lib.hid (by rw [hW1, hbw]; exact heap_new W _)
  have HWB := Lib.hid hbw
  clear hvs hv
  go_enter Try.func94, Try.ntmps94
  go_wp2
  rw [← hbw, ← hW1]
  clear hW1 hbw
  go_loopw [9, 10, 11] (fun o d i wr => ∃ (k no co : Nat) (Ao : Option Addr) (os : List Gd) (dd : Bool), k ≤ n ∧ o = .slice Ao no co ∧ d = .bool dd ∧ i = .int .i64 k ∧ RAdd W1 bw ls ⟨G, [v]⟩ k no co Ao os dd wr) (fun _ _ i _ => n - (intOf i).toNat)
  case atStart => exact ⟨0, 0, 0, none, [], false, Nat.zero_le _, rfl, rfl, rfl, ⟨Nat.le_refl _, Nat.zero_le _, fun _ => rfl, OwnGd.nil _ _, (fun x (hx : x ∈ []) => by cases hx), Below.refl _ _, Nat.zero_le _, rfl⟩⟩
  case round =>
    obtain ⟨k, no, co, Ao, os, dd, hk, rfl, rfl, rfl, hR⟩ := hrel
    have HR := Lib.hid hR
    have hno0 := hR.few
    clear hR
    by_cases hin : k < n
    · obtain ⟨x, hx⟩ : ∃ x, ls[k]? = some x := ⟨ls[k]'(by have := HN.out; omega), List.getElem?_eq_getElem _⟩
      have hxm : x ∈ ls := List.mem_of_getElem? hx
      have hsz : bw + 1 ≤ wr.heap.size := by have h1 := HR.out.bel.size; have h2 := HS1.out; omega
      have hWb : Below bw W wr := HB1.out.trans (HR.out.bel.mono (Nat.le_succ _))
      have hWr : Below W.heap.size W wr := by rw [← HWB.out]; exact hWb
      have HAr : OwnGd wr B a n cp ls := HA.out.below hWr (fun g' off e => (HA.out.lt g' off e).1)
      obtain ⟨ga, oa, hA2, hga, hr2⟩ := gdr HAr.at' k x hx
      obtain ⟨-, -, hoa⟩ := HAr.lt ga oa hA2
      subst hoa
      subst hA2
      rw [Nat.zero_add] at hr2
      have HRX := Lib.hid hr2
      have HXA : Hid (x.At wr) := Lib.hid ((HG.out x hxm).keep hWr)
      have HXN : Hid (x.n ≤ 1000) := Lib.hid (HVS.out x hxm)
      have HDG := Lib.hid (drop_grp hx)
      have hkI : (k : Int) < (n : Int) := by omega
      clear hx hxm hr2 HAr hga hWr hWb
      go_upto_region 7 with (first
        | (refine wpList_load_mid rfl 134 (.tmp 22) rfl ga (k * 4) rfl [.string x.p.key, .int .i64 x.p.s, .int .i64 x.p.e, .slice x.A x.n x.c] _ HRX.out uGd rfl (by kernel_rfl) ?_)
        | (refine wpList_store_row rfl 134 (.tmp 12) (.tmp 23) rfl _ #[.string x.p.key, .int .i64 x.p.s, .int .i64 x.p.e, .slice x.A x.n x.c] rfl rfl _ _ (heap_alloc_new _ _) (by kernel_rfl) rfl (by simp [Value.oneCell']) ?_; rw [World.setRow_alloc_new]))
      obtain ⟨wk, hwk⟩ : ∃ wk, wk = wr.alloc (.cells #[.string x.p.key, .int .i64 x.p.s, .int .i64 x.p.e, .slice x.A x.n x.c] 134) := ⟨_, rfl⟩
      rw [← hwk]
      obtain ⟨bg, hbg⟩ : ∃ bg, bg = wr.heap.size := ⟨_, rfl⟩
      have HBG := Lib.hid hbg
      have HRG : Hid (wk.heap[bg]? = some (.cells #[.string x.p.key, .int .i64 x.p.s, .int .i64 x.p.e, .slice x.A x.n x.c] 134 (0, 0))) := Lib.hid (by rw [hwk, hbg]; exact heap_new wr _)
      have HBK : Hid (Below bg wr wk) := Lib.hid (by rw [hwk, hbg]; exact (Below.refl _ _).alloc (Nat.le_refl _) _)
      have HSK : Hid (wk.heap.size = bg + 1) := Lib.hid (by rw [hwk, hbg]; simp)
      have hszk : bg + 1 ≤ wk.heap.size := Nat.le_of_eq HSK.out.symm
      have hbgw : bw + 1 ≤ bg := by rw [hbg]; exact hsz
      have HRW : Hid (wk.heap[bw]? = some (.cells #[.int .i64 G.s, .int .i64 G.e] 84 (0, 0))) := Lib.hid (row_keep (row_keep HR1.out (bel_up HR.out.bel HS1.out)) (bel_up HBK.out HBG.out.symm))
      have HOL : Hid (∀ g' off', Ao = some ⟨g', off', none⟩ → g' < bg) := Lib.hid (fun g' off' e => by rw [hbg]; exact (HR.out.own.lt g' off' e).1)
      have HO : Hid (OwnGd wk (bw + 1) Ao no co os) := Lib.hid (HR.out.own.below HBK.out (fun g' off e => HOL.out g' off e))
      have HGS : Hid (GdsOk wk os) := Lib.hid (HR.out.ok.keep (bel_up HBK.out HBG.out.symm))
      have HXK : Hid (x.At wk) := Lib.hid (HXA.out.keep (bel_up HBK.out HBG.out.symm))
      rw [← hbg]
      clear hwk hbg
      have c0 : wk.cell? ⟨bg, 0, none⟩ = some (.string x.p.key) := (zrow HRG.out) 0 _ rfl
      have c3 : wk.cell? ⟨bg, 3, none⟩ = some (.slice x.A x.n x.c) := (zrow HRG.out) 3 _ rfl
      rcases dd with _ | _
      · have hno : no ≤ k := hno0
        have HEQ := Lib.hid HR.out.eq
        rw [HDG.out] at HEQ
        rcases z_casesQ x.p G with ⟨hq, hw, hz⟩ | ⟨hq, hw, hz⟩ | ⟨hq, hw, hz⟩ | ⟨hq, hz⟩ | ⟨hq, hz⟩
        · skip
          have hkb : (x.p.key.toList == G.key.toList) = true := hq
          have hwb : ∀ w, (binOp .eql 84 (.agg #[.int .i64 x.p.s, .int .i64 x.p.e]) (.agg #[.int .i64 G.s, .int .i64 G.e])).run Try.prog w = .ok (.bool true) w := fun w => by rw [winEql_run, hw]
          have HEQ2 : Hid (os.map Gd.grp ++ (⟨x.p, x.vs ++ [v]⟩ :: Left true ((ls.drop (k + 1)).map Gd.grp) ⟨G, [v]⟩) = putF (ls.map Gd.grp) ⟨G, [v]⟩) := Lib.hid ((congrArg (fun t => os.map Gd.grp ++ t) (left_here (x := ⟨x.p, x.vs⟩) (r := (ls.drop (k + 1)).map Gd.grp) (g := ⟨G, [v]⟩) hz)).symm.trans HEQ.out)
          have HLN := Lib.hid HXK.out.1.len
          have hxn := HXN.out
          have HFA := Lib.hid HXK.out.1.flAt
          clear hq hw hz HEQ
          go_upto_region 15 with (first
            | (refine wpList_load_midG (by rfl) 84 (.tmp 33) rfl bg 1 rfl [.int .i64 x.p.s, .int .i64 x.p.e] _ (zrsub (zrow HRG.out) 1 2 _ rfl _ rfl) uWn rfl (by kernel_rfl) ?_)
            | (refine wpList_load_rowG (by rfl) 84 (.tmp 6) rfl bw rfl _ #[.int .i64 G.s, .int .i64 G.e] (0, 0) _ HRW.out uWn rfl (by kernel_rfl) ?_)
            | (at_builtin; refine wpList_append_fl rfl (.tmp 38) (.tmp 40) rfl (bg + 1) none 0 0 [] rfl (OwnF.nil _ _) x.A x.n x.c x.vs rfl HLN.out HFA.out (by omega) hszk ?_; intro A4 c4 w4 ho4 hg4 _; rw [Nat.zero_add] at ho4 ⊢; rw [List.nil_append] at ho4; have HO4 := Lib.hid ho4; have HB4 := Lib.hid ((Below.refl (bg + 1) wk).grown hg4 hszk (fun k hk => by cases hk)); have hs4 := HB4.out.size; clear ho4 hg4)
            | (at_builtin; refine wpList_append_fl rfl (.tmp 42) (.tmp 44) rfl (bg + 1) A4 x.n c4 x.vs rfl (HO4.out.keep ((Below.refl _ _).alloc (Nat.le_refl _) _)) (some ⟨w4.heap.size, 0, none⟩) 1 1 [v] rfl rfl (FlAt.of_row [v] (fun x hx => by simp at hx; subst hx; exact HV.out) (heap_new w4 _) ⟨[], rfl⟩) (by omega) (by simp; omega) ?_; intro A5 c5 w5 ho5 hg5 _; have HO5 := Lib.hid ho5; have HB5 := Lib.hid ((HB4.out.alloc (by omega) _).grown hg5 (by simp; omega) HO4.out.base); have d5 := row_keep HRG.out (bel_up HB5.out HSK.out); have d3 : w5.cell? ⟨bg, 3, none⟩ = some (.slice x.A x.n x.c) := (zrow d5) 3 _ rfl; have d4 : w5.frozen? ⟨bg, 3, none⟩ = false := row_frozen d5 3; have HD5 := Lib.hid d5; clear ho5 hg5 d5))
          obtain ⟨w6, hw6⟩ : ∃ q, q = w5.setCell ⟨bg, 3, none⟩ (.slice A5 (x.n + 1) c5) := ⟨_, rfl⟩
          rw [← hw6]
          obtain ⟨y, hy⟩ : ∃ y : Gd, y = ⟨x.p, A5, x.n + 1, c5, x.vs ++ [v]⟩ := ⟨_, rfl⟩
          have hs5 := HB5.out.size
          have HS6 : Hid (w6.heap.size = w5.heap.size) := Lib.hid (by rw [hw6]; simp [World.setCell])
          have hszT : bg + 1 ≤ w6.heap.size := by have := HS6.out; omega
          have HB6 : Hid (Below bg wk w6) := Lib.hid (by rw [hw6]; exact (HB5.out.mono (Nat.le_succ _)).setCell (p := ⟨bg, 3, none⟩) (Nat.le_refl _) _)
          have HBT : Hid (Below bg wr w6) := Lib.hid (HBK.out.trans HB6.out)
          have HOT : Hid (OwnGd w6 (bw + 1) Ao no co os) := Lib.hid (HR.out.own.below HBT.out (fun g' off e => by rw [HBG.out]; exact (HR.out.own.lt g' off e).1))
          have HGT : Hid (GdsOk w6 os) := Lib.hid (HR.out.ok.keep (by rw [← HBG.out]; exact HBT.out))
          have HLT : Hid (Below (bw + 1) W1 w6) := Lib.hid (HR.out.bel.trans (HBT.out.mono hbgw))
          have HRT : Hid (w6.heap[bg]? = some (.cells #[.string y.p.key, .int .i64 y.p.s, .int .i64 y.p.e, .slice y.A y.n y.c] 134 (0, 0))) := Lib.hid (by rw [hw6, hy]; exact row_set (cs := [.string x.p.key, .int .i64 x.p.s, .int .i64 x.p.e, .slice x.A x.n x.c]) HD5.out 3 _)
          have HYT : Hid (y.At w6) := Lib.hid (by
            rw [hy]
            refine ⟨?_, Nat.succ_pos _⟩
            have h9 := (ownF_zero HO5.out (Nat.succ_pos _)).keepGd (Nat.succ_pos _) (keepGd_set HD5.out 3 (.slice A5 (x.n + 1) c5))
            rw [← hw6] at h9; exact h9)
          have HET : Hid (os.map Gd.grp ++ [y.grp] ++ Left true ((ls.drop (k + 1)).map Gd.grp) ⟨G, [v]⟩ = putF (ls.map Gd.grp) ⟨G, [v]⟩) := Lib.hid (by rw [hy, List.append_assoc]; exact HEQ2.out)
          clear hw6 hy
          go_wp2_with (first
            | (refine wpList_load_row rfl 134 (.tmp 12) rfl bg rfl _ #[.string y.p.key, .int .i64 y.p.s, .int .i64 y.p.e, .slice y.A y.n y.c] (0, 0) _ HRT.out uGd rfl (by kernel_rfl) ?_)
            | (at_builtin; refine wpList_append_gd rfl _ _ rfl (bw + 1) Ao no co os rfl (HOT.out.below ((Below.refl _ _).alloc (Nat.le_refl _) _) (fun g' off' e => (HOT.out.lt g' off' e).1)) (some ⟨w6.heap.size, 0, none⟩) 1 1 [y] rfl rfl (gd_new _ _ [y] _ rfl _ rfl) (fun h => by cases h) (no + 1) rfl (by omega) (by simp; omega) ?_; intro A9 c9 w9 ho9 h91 h92 h93 hb9 hg9 _; have HO9 := Lib.hid ho9; have HC9 := Lib.hid (And.intro h91 (And.intro h92 h93)); have HB9 := Lib.hid hb9; have HK9 := Lib.hid (keepGd_append (HOT.out.below ((Below.refl _ _).alloc (Nat.le_refl _) _) (fun g' off' e => (HOT.out.lt g' off' e).1)) hg9); clear ho9 h91 h92 h93 hb9 hg9))
          go_roundw
          case rel =>
            refine ⟨k + 1, no + 1, c9, A9, os ++ [y], true, hin, rfl, rfl, by go_num, ⟨HC9.out.1, HC9.out.2.1, HC9.out.2.2, HO9.out, ?_, ?_, ?_, ?_⟩⟩
            · exact (((HGT.out).snoc HYT.out).keep ((Below.refl _ _).alloc (Nat.le_refl _) _)).keepGd HK9.out
            · exact ((HLT.out).alloc (by omega) _).trans HB9.out
            · show no + 1 ≤ k + 1 + 1; omega
            · rw [List.map_append]; exact HET.out
          case measure => simp [intOf]; omega
        · skip
          have hkb : (x.p.key.toList == G.key.toList) = true := hq
          have hwb : ∀ w, (binOp .eql 84 (.agg #[.int .i64 x.p.s, .int .i64 x.p.e]) (.agg #[.int .i64 G.s, .int .i64 G.e])).run Try.prog w = .ok (.bool false) w := fun w => by rw [winEql_run, hw]
          have HBF : Hid (∀ w, Calls Try.prog 50 #[.string G.key, .agg #[.int .i64 G.s, .int .i64 G.e], .string x.p.key, .agg #[.int .i64 x.p.s, .int .i64 x.p.e]] w fun e w' => e = .returned (.bool false) ∧ Below w.heap.size w w') := Lib.hid fun w => by have h9 := before13_any G x.p w; rw [show zB G x.p = false by unfold zB; rw [z_neg]; simp; omega] at h9; exact h9
          have HEQ2 : Hid (os.map Gd.grp ++ (⟨x.p, x.vs⟩ :: Left false ((ls.drop (k + 1)).map Gd.grp) ⟨G, [v]⟩) = putF (ls.map Gd.grp) ⟨G, [v]⟩) := Lib.hid ((congrArg (fun t => os.map Gd.grp ++ t) (left_skip (x := ⟨x.p, x.vs⟩) (r := (ls.drop (k + 1)).map Gd.grp) (g := ⟨G, [v]⟩) hz)).symm.trans HEQ.out)
          clear hq hz HEQ
          go_upto_region 15 with (first | (refine wpList_load_midG (by rfl) 84 (.tmp 33) rfl bg 1 rfl [.int .i64 x.p.s, .int .i64 x.p.e] _ (zrsub (zrow HRG.out) 1 2 _ rfl _ rfl) uWn rfl (by kernel_rfl) ?_) | (refine wpList_load_rowG (by rfl) 84 (.tmp 6) rfl bw rfl _ #[.int .i64 G.s, .int .i64 G.e] (0, 0) _ HRW.out uWn rfl (by kernel_rfl) ?_) | (refine wpList_load_midG (by rfl) 84 (.tmp 54) rfl bg 1 rfl [.int .i64 x.p.s, .int .i64 x.p.e] _ (zrsub (zrow HRG.out) 1 2 _ rfl _ rfl) uWn rfl (by kernel_rfl) ?_) | (go_at_call 50; (with_reducible refine (HBF.out _).mono ?_); rintro e w2 ⟨rfl, hb2⟩; have HB2 := Lib.hid hb2; have s2 := hb2.size; have HRW2 := Lib.hid (row_keep HRW.out hb2); clear hb2))
          have hszT : bg + 1 ≤ w2.heap.size := by omega
          have HBT : Hid (Below bg wr w2) := Lib.hid (HBK.out.trans (HB2.out.mono (by omega)))
          have HOT : Hid (OwnGd w2 (bw + 1) Ao no co os) := Lib.hid (HR.out.own.below HBT.out (fun g' off e => by rw [HBG.out]; exact (HR.out.own.lt g' off e).1))
          have HGT : Hid (GdsOk w2 os) := Lib.hid (HR.out.ok.keep (by rw [← HBG.out]; exact HBT.out))
          have HLT : Hid (Below (bw + 1) W1 w2) := Lib.hid (HR.out.bel.trans (HBT.out.mono hbgw))
          have HRT := Lib.hid (row_keep HRG.out HB2.out)
          have HYT : Hid (x.At w2) := Lib.hid (HXK.out.keep HB2.out)
          have HET : Hid (os.map Gd.grp ++ [x.grp] ++ Left false ((ls.drop (k + 1)).map Gd.grp) ⟨G, [v]⟩ = putF (ls.map Gd.grp) ⟨G, [v]⟩) := Lib.hid (by rw [List.append_assoc]; exact HEQ2.out)
          go_wp2_with (first
            | (refine wpList_load_row rfl 134 (.tmp 12) rfl bg rfl _ #[.string x.p.key, .int .i64 x.p.s, .int .i64 x.p.e, .slice x.A x.n x.c] (0, 0) _ HRT.out uGd rfl (by kernel_rfl) ?_)
            | (at_builtin; refine wpList_append_gd rfl _ _ rfl (bw + 1) Ao no co os rfl (HOT.out.below ((Below.refl _ _).alloc (Nat.le_refl _) _) (fun g' off' e => (HOT.out.lt g' off' e).1)) (some ⟨w2.heap.size, 0, none⟩) 1 1 [x] rfl rfl (gd_new _ _ [x] _ rfl _ rfl) (fun h => by cases h) (no + 1) rfl (by omega) (by simp; omega) ?_; intro A9 c9 w9 ho9 h91 h92 h93 hb9 hg9 _; have HO9 := Lib.hid ho9; have HC9 := Lib.hid (And.intro h91 (And.intro h92 h93)); have HB9 := Lib.hid hb9; have HK9 := Lib.hid (keepGd_append (HOT.out.below ((Below.refl _ _).alloc (Nat.le_refl _) _) (fun g' off' e => (HOT.out.lt g' off' e).1)) hg9); clear ho9 h91 h92 h93 hb9 hg9))
          go_roundw
          case rel =>
            refine ⟨k + 1, no + 1, c9, A9, os ++ [x], false, hin, rfl, rfl, by go_num, ⟨HC9.out.1, HC9.out.2.1, HC9.out.2.2, HO9.out, ?_, ?_, ?_, ?_⟩⟩
            · exact (((HGT.out).snoc HYT.out).keep ((Below.refl _ _).alloc (Nat.le_refl _) _)).keepGd HK9.out
            · exact ((HLT.out).alloc (by omega) _).trans HB9.out
            · show no + 1 ≤ k + 1 + 0; omega
            · rw [List.map_append]; exact HET.out
          case measure => simp [intOf]; omega
        · skip
          have hkb : (x.p.key.toList == G.key.toList) = true := hq
          have hwb : ∀ w, (binOp .eql 84 (.agg #[.int .i64 x.p.s, .int .i64 x.p.e]) (.agg #[.int .i64 G.s, .int .i64 G.e])).run Try.prog w = .ok (.bool false) w := fun w => by rw [winEql_run, hw]
          have HBF : Hid (∀ w, Calls Try.prog 50 #[.string G.key, .agg #[.int .i64 G.s, .int .i64 G.e], .string x.p.key, .agg #[.int .i64 x.p.s, .int .i64 x.p.e]] w fun e w' => e = .returned (.bool true) ∧ Below w.heap.size w w') := Lib.hid fun w => by have h9 := before13_any G x.p w; rw [show zB G x.p = true by unfold zB; rw [z_neg]; simp; omega] at h9; exact h9
          have HEQ2 : Hid (os.map Gd.grp ++ (⟨G, [v]⟩ :: ⟨x.p, x.vs⟩ :: Left true ((ls.drop (k + 1)).map Gd.grp) ⟨G, [v]⟩) = putF (ls.map Gd.grp) ⟨G, [v]⟩) := Lib.hid ((congrArg (fun t => os.map Gd.grp ++ t) (left_ins (x := ⟨x.p, x.vs⟩) (r := (ls.drop (k + 1)).map Gd.grp) (g := ⟨G, [v]⟩) hz)).symm.trans HEQ.out)
          clear hq hz HEQ
          go_upto_region 13 with (first | (refine wpList_load_midG (by rfl) 84 (.tmp 33) rfl bg 1 rfl [.int .i64 x.p.s, .int .i64 x.p.e] _ (zrsub (zrow HRG.out) 1 2 _ rfl _ rfl) uWn rfl (by kernel_rfl) ?_) | (refine wpList_load_rowG (by rfl) 84 (.tmp 6) rfl bw rfl _ #[.int .i64 G.s, .int .i64 G.e] (0, 0) _ HRW.out uWn rfl (by kernel_rfl) ?_) | (refine wpList_load_midG (by rfl) 84 (.tmp 54) rfl bg 1 rfl [.int .i64 x.p.s, .int .i64 x.p.e] _ (zrsub (zrow HRG.out) 1 2 _ rfl _ rfl) uWn rfl (by kernel_rfl) ?_) | (go_at_call 50; (with_reducible refine (HBF.out _).mono ?_); rintro e w2 ⟨rfl, hb2⟩; have HB2 := Lib.hid hb2; have s2 := hb2.size; have HRW2 := Lib.hid (row_keep HRW.out hb2); clear hb2))
          have hszz : bw + 1 ≤ w2.heap.size := by omega
          have HB2r : Hid (Below bg wr w2) := Lib.hid (HBK.out.trans (HB2.out.mono (by omega)))
          have HO2 : Hid (OwnGd w2 (bw + 1) Ao no co os) := Lib.hid (HO.out.below HB2.out (fun g' off e => (HO.out.lt g' off e).1))
          have HRWa : ∀ o, Hid ((w2.alloc o).heap[bw]? = some (.cells #[.int .i64 G.s, .int .i64 G.e] 84 (0, 0))) := fun o => Lib.hid (row_alloc' HRW2.out o)
          go_upto_region 15 with (first | (refine wpList_load_row rfl 84 (.tmp 6) rfl bw rfl _ #[.int .i64 G.s, .int .i64 G.e] (0, 0) _ HRW2.out uWn rfl (by kernel_rfl) ?_) | (refine wpList_load_row rfl 84 (.tmp 6) rfl bw rfl _ #[.int .i64 G.s, .int .i64 G.e] (0, 0) _ (HRWa _).out uWn rfl (by kernel_rfl) ?_) | (at_builtin; refine wpList_append_gd rfl _ _ rfl (bw + 1) Ao no co os rfl (HO2.out.below (((Below.refl _ _).alloc (Nat.le_refl _) _).alloc (by simp) _) (fun g' off' e => (HO2.out.lt g' off' e).1)) (some ⟨w2.heap.size + 1, 0, none⟩) 1 1 [⟨G, some ⟨w2.heap.size, 0, none⟩, 1, 1, [v]⟩] rfl rfl (gd_new _ _ [⟨G, some ⟨w2.heap.size, 0, none⟩, 1, 1, [v]⟩] _ rfl _ (by simp)) (fun h => by cases h) (no + 1) rfl (by omega) (by simp; omega) ?_; intro A3 c3' w3 ho3 h31 h32 h33 hb3 hg3 _; have HO3 := Lib.hid ho3; have HC3 := Lib.hid (And.intro h31 (And.intro h32 h33)); have HB3 := Lib.hid (((((Below.refl w2.heap.size w2).alloc (Nat.le_refl _) _).alloc (by simp) _).mono hszz).trans hb3); have HK3 := Lib.hid (keepGd_append (HO2.out.below (((Below.refl _ _).alloc (Nat.le_refl _) _).alloc (by simp) _) (fun g' off' e => (HO2.out.lt g' off' e).1)) hg3); have HN3 := Lib.hid (gd_other (HO2.out.below (((Below.refl _ _).alloc (Nat.le_refl _) _).alloc (by simp) _) (fun g' off' e => (HO2.out.lt g' off' e).1)) hg3 bg (by simp; omega) (fun g' off' e => by have := HOL.out g' off' e; omega)); clear ho3 h31 h32 h33 hb3 hg3))
          have hsz3 := HB3.out.size
          have hszT : bg + 1 ≤ w3.heap.size := by omega
          have HBT : Hid (Below (bw + 1) wr w3) := Lib.hid ((HB2r.out.mono hbgw).trans HB3.out)
          have HOT := HO3
          have HG2 : Hid (GdsOk w2 os) := Lib.hid (HGS.out.keep HB2.out)
          have HGT : Hid (GdsOk w3 (os ++ [⟨G, some ⟨w2.heap.size, 0, none⟩, 1, 1, [v]⟩])) := Lib.hid ((((HG2.out).keep (((Below.refl _ _).alloc (Nat.le_refl _) _).alloc (by simp) _)).snoc (x := ⟨G, some ⟨w2.heap.size, 0, none⟩, 1, 1, [v]⟩) ⟨ownF_one HV.out (row_alloc' (heap_new w2 _) _), Nat.one_pos⟩).keepGd HK3.out)
          have HLT : Hid (Below (bw + 1) W1 w3) := Lib.hid (HR.out.bel.trans HBT.out)
          have HX2 : Hid (w2.heap[bg]? = some (.cells #[.string x.p.key, .int .i64 x.p.s, .int .i64 x.p.e, .slice x.A x.n x.c] 134 (0, 0))) := Lib.hid (row_keep HRG.out HB2.out)
          have HXA2 : Hid (x.At w2) := Lib.hid (HXK.out.keep HB2.out)
          have HRT : Hid (w3.heap[bg]? = some (.cells #[.string x.p.key, .int .i64 x.p.s, .int .i64 x.p.e, .slice x.A x.n x.c] 134 (0, 0))) := Lib.hid (HN3.out.trans (row_alloc' (row_alloc' HX2.out _) _))
          have HYT : Hid (x.At w3) := Lib.hid ((HXA2.out.keep (((Below.refl _ _).alloc (Nat.le_refl _) _).alloc (by simp) _)).keepGd HK3.out)
          have HET : Hid ((os ++ [(⟨G, some ⟨w2.heap.size, 0, none⟩, 1, 1, [v]⟩ : Gd)]).map Gd.grp ++ [x.grp] ++ Left true ((ls.drop (k + 1)).map Gd.grp) ⟨G, [v]⟩ = putF (ls.map Gd.grp) ⟨G, [v]⟩) := Lib.hid (by rw [List.map_append, List.append_assoc, List.append_assoc]; exact HEQ2.out)
          go_wp2_with (first
            | (refine wpList_load_row rfl 134 (.tmp 12) rfl bg rfl _ #[.string x.p.key, .int .i64 x.p.s, .int .i64 x.p.e, .slice x.A x.n x.c] (0, 0) _ HRT.out uGd rfl (by kernel_rfl) ?_)
            | (at_builtin; refine wpList_append_gd rfl _ _ rfl (bw + 1) A3 (no + 1) c3' (os ++ [⟨G, some ⟨w2.heap.size, 0, none⟩, 1, 1, [v]⟩]) rfl (HOT.out.below ((Below.refl _ _).alloc (Nat.le_refl _) _) (fun g' off' e => (HOT.out.lt g' off' e).1)) (some ⟨w3.heap.size, 0, none⟩) 1 1 [x] rfl rfl (gd_new _ _ [x] _ rfl _ rfl) (fun h => by cases h) ((no + 1) + 1) rfl (by omega) (by simp; omega) ?_; intro A9 c9 w9 ho9 h91 h92 h93 hb9 hg9 _; have HO9 := Lib.hid ho9; have HC9 := Lib.hid (And.intro h91 (And.intro h92 h93)); have HB9 := Lib.hid hb9; have HK9 := Lib.hid (keepGd_append (HOT.out.below ((Below.refl _ _).alloc (Nat.le_refl _) _) (fun g' off' e => (HOT.out.lt g' off' e).1)) hg9); clear ho9 h91 h92 h93 hb9 hg9))
          go_roundw
          case rel =>
            refine ⟨k + 1, (no + 1) + 1, c9, A9, (os ++ [⟨G, some ⟨w2.heap.size, 0, none⟩, 1, 1, [v]⟩]) ++ [x], true, hin, rfl, rfl, by go_num, ⟨HC9.out.1, HC9.out.2.1, HC9.out.2.2, HO9.out, ?_, ?_, ?_, ?_⟩⟩
            · exact (((HGT.out).snoc HYT.out).keep ((Below.refl _ _).alloc (Nat.le_refl _) _)).keepGd HK9.out
            · exact ((HLT.out).alloc (by omega) _).trans HB9.out
            · show (no + 1) + 1 ≤ k + 1 + 1; omega
            · rw [List.map_append]; exact HET.out
          case measure => simp [intOf]; omega
        · skip
          have hkb : (x.p.key.toList == G.key.toList) = false := hq
          have HBF : Hid (∀ w, Calls Try.prog 50 #[.string G.key, .agg #[.int .i64 G.s, .int .i64 G.e], .string x.p.key, .agg #[.int .i64 x.p.s, .int .i64 x.p.e]] w fun e w' => e = .returned (.bool false) ∧ Below w.heap.size w w') := Lib.hid fun w => by have h9 := before13_any G x.p w; rw [show zB G x.p = false by unfold zB; rw [z_neg]; simp; omega] at h9; exact h9
          have HEQ2 : Hid (os.map Gd.grp ++ (⟨x.p, x.vs⟩ :: Left false ((ls.drop (k + 1)).map Gd.grp) ⟨G, [v]⟩) = putF (ls.map Gd.grp) ⟨G, [v]⟩) := Lib.hid ((congrArg (fun t => os.map Gd.grp ++ t) (left_skip (x := ⟨x.p, x.vs⟩) (r := (ls.drop (k + 1)).map Gd.grp) (g := ⟨G, [v]⟩) hz)).symm.trans HEQ.out)
          clear hq hz HEQ
          go_upto_region 15 with (first | (refine wpList_load_rowG (by rfl) 84 (.tmp 6) rfl bw rfl _ #[.int .i64 G.s, .int .i64 G.e] (0, 0) _ HRW.out uWn rfl (by kernel_rfl) ?_) | (refine wpList_load_midG (by rfl) 84 (.tmp 54) rfl bg 1 rfl [.int .i64 x.p.s, .int .i64 x.p.e] _ (zrsub (zrow HRG.out) 1 2 _ rfl _ rfl) uWn rfl (by kernel_rfl) ?_) | (go_at_call 50; (with_reducible refine (HBF.out _).mono ?_); rintro e w2 ⟨rfl, hb2⟩; have HB2 := Lib.hid hb2; have s2 := hb2.size; have HRW2 := Lib.hid (row_keep HRW.out hb2); clear hb2))
          have hszT : bg + 1 ≤ w2.heap.size := by omega
          have HBT : Hid (Below bg wr w2) := Lib.hid (HBK.out.trans (HB2.out.mono (by omega)))
          have HOT : Hid (OwnGd w2 (bw + 1) Ao no co os) := Lib.hid (HR.out.own.below HBT.out (fun g' off e => by rw [HBG.out]; exact (HR.out.own.lt g' off e).1))
          have HGT : Hid (GdsOk w2 os) := Lib.hid (HR.out.ok.keep (by rw [← HBG.out]; exact HBT.out))
          have HLT : Hid (Below (bw + 1) W1 w2) := Lib.hid (HR.out.bel.trans (HBT.out.mono hbgw))
          have HRT := Lib.hid (row_keep HRG.out HB2.out)
          have HYT : Hid (x.At w2) := Lib.hid (HXK.out.keep HB2.out)
          have HET : Hid (os.map Gd.grp ++ [x.grp] ++ Left false ((ls.drop (k + 1)).map Gd.grp) ⟨G, [v]⟩ = putF (ls.map Gd.grp) ⟨G, [v]⟩) := Lib.hid (by rw [List.append_assoc]; exact HEQ2.out)
          go_wp2_with (first
            | (refine wpList_load_row rfl 134 (.tmp 12) rfl bg rfl _ #[.string x.p.key, .int .i64 x.p.s, .int .i64 x.p.e, .slice x.A x.n x.c] (0, 0) _ HRT.out uGd rfl (by kernel_rfl) ?_)
            | (at_builtin; refine wpList_append_gd rfl _ _ rfl (bw + 1) Ao no co os rfl (HOT.out.below ((Below.refl _ _).alloc (Nat.le_refl _) _) (fun g' off' e => (HOT.out.lt g' off' e).1)) (some ⟨w2.heap.size, 0, none⟩) 1 1 [x] rfl rfl (gd_new _ _ [x] _ rfl _ rfl) (fun h => by cases h) (no + 1) rfl (by omega) (by simp; omega) ?_; intro A9 c9 w9 ho9 h91 h92 h93 hb9 hg9 _; have HO9 := Lib.hid ho9; have HC9 := Lib.hid (And.intro h91 (And.intro h92 h93)); have HB9 := Lib.hid hb9; have HK9 := Lib.hid (keepGd_append (HOT.out.below ((Below.refl _ _).alloc (Nat.le_refl _) _) (fun g' off' e => (HOT.out.lt g' off' e).1)) hg9); clear ho9 h91 h92 h93 hb9 hg9))
          go_roundw
          case rel =>
            refine ⟨k + 1, no + 1, c9, A9, os ++ [x], false, hin, rfl, rfl, by go_num, ⟨HC9.out.1, HC9.out.2.1, HC9.out.2.2, HO9.out, ?_, ?_, ?_, ?_⟩⟩
            · exact (((HGT.out).snoc HYT.out).keep ((Below.refl _ _).alloc (Nat.le_refl _) _)).keepGd HK9.out
            · exact ((HLT.out).alloc (by omega) _).trans HB9.out
            · show no + 1 ≤ k + 1 + 0; omega
            · rw [List.map_append]; exact HET.out
          case measure => simp [intOf]; omega
        · skip
          have hkb : (x.p.key.toList == G.key.toList) = false := hq
          have HBF : Hid (∀ w, Calls Try.prog 50 #[.string G.key, .agg #[.int .i64 G.s, .int .i64 G.e], .string x.p.key, .agg #[.int .i64 x.p.s, .int .i64 x.p.e]] w fun e w' => e = .returned (.bool true) ∧ Below w.heap.size w w') := Lib.hid fun w => by have h9 := before13_any G x.p w; rw [show zB G x.p = true by unfold zB; rw [z_neg]; simp; omega] at h9; exact h9
          have HEQ2 : Hid (os.map Gd.grp ++ (⟨G, [v]⟩ :: ⟨x.p, x.vs⟩ :: Left true ((ls.drop (k + 1)).map Gd.grp) ⟨G, [v]⟩) = putF (ls.map Gd.grp) ⟨G, [v]⟩) := Lib.hid ((congrArg (fun t => os.map Gd.grp ++ t) (left_ins (x := ⟨x.p, x.vs⟩) (r := (ls.drop (k + 1)).map Gd.grp) (g := ⟨G, [v]⟩) hz)).symm.trans HEQ.out)
          clear hq hz HEQ
          go_upto_region 13 with (first | (refine wpList_load_rowG (by rfl) 84 (.tmp 6) rfl bw rfl _ #[.int .i64 G.s, .int .i64 G.e] (0, 0) _ HRW.out uWn rfl (by kernel_rfl) ?_) | (refine wpList_load_midG (by rfl) 84 (.tmp 54) rfl bg 1 rfl [.int .i64 x.p.s, .int .i64 x.p.e] _ (zrsub (zrow HRG.out) 1 2 _ rfl _ rfl) uWn rfl (by kernel_rfl) ?_) | (go_at_call 50; (with_reducible refine (HBF.out _).mono ?_); rintro e w2 ⟨rfl, hb2⟩; have HB2 := Lib.hid hb2; have s2 := hb2.size; have HRW2 := Lib.hid (row_keep HRW.out hb2); clear hb2))
          have hszz : bw + 1 ≤ w2.heap.size := by omega
          have HB2r : Hid (Below bg wr w2) := Lib.hid (HBK.out.trans (HB2.out.mono (by omega)))
          have HO2 : Hid (OwnGd w2 (bw + 1) Ao no co os) := Lib.hid (HO.out.below HB2.out (fun g' off e => (HO.out.lt g' off e).1))
          have HRWa : ∀ o, Hid ((w2.alloc o).heap[bw]? = some (.cells #[.int .i64 G.s, .int .i64 G.e] 84 (0, 0))) := fun o => Lib.hid (row_alloc' HRW2.out o)
          go_upto_region 15 with (first | (refine wpList_load_row rfl 84 (.tmp 6) rfl bw rfl _ #[.int .i64 G.s, .int .i64 G.e] (0, 0) _ HRW2.out uWn rfl (by kernel_rfl) ?_) | (refine wpList_load_row rfl 84 (.tmp 6) rfl bw rfl _ #[.int .i64 G.s, .int .i64 G.e] (0, 0) _ (HRWa _).out uWn rfl (by kernel_rfl) ?_) | (at_builtin; refine wpList_append_gd rfl _ _ rfl (bw + 1) Ao no co os rfl (HO2.out.below (((Below.refl _ _).alloc (Nat.le_refl _) _).alloc (by simp) _) (fun g' off' e => (HO2.out.lt g' off' e).1)) (some ⟨w2.heap.size + 1, 0, none⟩) 1 1 [⟨G, some ⟨w2.heap.size, 0, none⟩, 1, 1, [v]⟩] rfl rfl (gd_new _ _ [⟨G, some ⟨w2.heap.size, 0, none⟩, 1, 1, [v]⟩] _ rfl _ (by simp)) (fun h => by cases h) (no + 1) rfl (by omega) (by simp; omega) ?_; intro A3 c3' w3 ho3 h31 h32 h33 hb3 hg3 _; have HO3 := Lib.hid ho3; have HC3 := Lib.hid (And.intro h31 (And.intro h32 h33)); have HB3 := Lib.hid (((((Below.refl w2.heap.size w2).alloc (Nat.le_refl _) _).alloc (by simp) _).mono hszz).trans hb3); have HK3 := Lib.hid (keepGd_append (HO2.out.below (((Below.refl _ _).alloc (Nat.le_refl _) _).alloc (by simp) _) (fun g' off' e => (HO2.out.lt g' off' e).1)) hg3); have HN3 := Lib.hid (gd_other (HO2.out.below (((Below.refl _ _).alloc (Nat.le_refl _) _).alloc (by simp) _) (fun g' off' e => (HO2.out.lt g' off' e).1)) hg3 bg (by simp; omega) (fun g' off' e => by have := HOL.out g' off' e; omega)); clear ho3 h31 h32 h33 hb3 hg3))
          have hsz3 := HB3.out.size
          have hszT : bg + 1 ≤ w3.heap.size := by omega
          have HBT : Hid (Below (bw + 1) wr w3) := Lib.hid ((HB2r.out.mono hbgw).trans HB3.out)
          have HOT := HO3
          have HG2 : Hid (GdsOk w2 os) := Lib.hid (HGS.out.keep HB2.out)
          have HGT : Hid (GdsOk w3 (os ++ [⟨G, some ⟨w2.heap.size, 0, none⟩, 1, 1, [v]⟩])) := Lib.hid ((((HG2.out).keep (((Below.refl _ _).alloc (Nat.le_refl _) _).alloc (by simp) _)).snoc (x := ⟨G, some ⟨w2.heap.size, 0, none⟩, 1, 1, [v]⟩) ⟨ownF_one HV.out (row_alloc' (heap_new w2 _) _), Nat.one_pos⟩).keepGd HK3.out)
          have HLT : Hid (Below (bw + 1) W1 w3) := Lib.hid (HR.out.bel.trans HBT.out)
          have HX2 : Hid (w2.heap[bg]? = some (.cells #[.string x.p.key, .int .i64 x.p.s, .int .i64 x.p.e, .slice x.A x.n x.c] 134 (0, 0))) := Lib.hid (row_keep HRG.out HB2.out)
          have HXA2 : Hid (x.At w2) := Lib.hid (HXK.out.keep HB2.out)
          have HRT : Hid (w3.heap[bg]? = some (.cells #[.string x.p.key, .int .i64 x.p.s, .int .i64 x.p.e, .slice x.A x.n x.c] 134 (0, 0))) := Lib.hid (HN3.out.trans (row_alloc' (row_alloc' HX2.out _) _))
          have HYT : Hid (x.At w3) := Lib.hid ((HXA2.out.keep (((Below.refl _ _).alloc (Nat.le_refl _) _).alloc (by simp) _)).keepGd HK3.out)
          have HET : Hid ((os ++ [(⟨G, some ⟨w2.heap.size, 0, none⟩, 1, 1, [v]⟩ : Gd)]).map Gd.grp ++ [x.grp] ++ Left true ((ls.drop (k + 1)).map Gd.grp) ⟨G, [v]⟩ = putF (ls.map Gd.grp) ⟨G, [v]⟩) := Lib.hid (by rw [List.map_append, List.append_assoc, List.append_assoc]; exact HEQ2.out)
          go_wp2_with (first
            | (refine wpList_load_row rfl 134 (.tmp 12) rfl bg rfl _ #[.string x.p.key, .int .i64 x.p.s, .int .i64 x.p.e, .slice x.A x.n x.c] (0, 0) _ HRT.out uGd rfl (by kernel_rfl) ?_)
            | (at_builtin; refine wpList_append_gd rfl _ _ rfl (bw + 1) A3 (no + 1) c3' (os ++ [⟨G, some ⟨w2.heap.size, 0, none⟩, 1, 1, [v]⟩]) rfl (HOT.out.below ((Below.refl _ _).alloc (Nat.le_refl _) _) (fun g' off' e => (HOT.out.lt g' off' e).1)) (some ⟨w3.heap.size, 0, none⟩) 1 1 [x] rfl rfl (gd_new _ _ [x] _ rfl _ rfl) (fun h => by cases h) ((no + 1) + 1) rfl (by omega) (by simp; omega) ?_; intro A9 c9 w9 ho9 h91 h92 h93 hb9 hg9 _; have HO9 := Lib.hid ho9; have HC9 := Lib.hid (And.intro h91 (And.intro h92 h93)); have HB9 := Lib.hid hb9; have HK9 := Lib.hid (keepGd_append (HOT.out.below ((Below.refl _ _).alloc (Nat.le_refl _) _) (fun g' off' e => (HOT.out.lt g' off' e).1)) hg9); clear ho9 h91 h92 h93 hb9 hg9))
          go_roundw
          case rel =>
            refine ⟨k + 1, (no + 1) + 1, c9, A9, (os ++ [⟨G, some ⟨w2.heap.size, 0, none⟩, 1, 1, [v]⟩]) ++ [x], true, hin, rfl, rfl, by go_num, ⟨HC9.out.1, HC9.out.2.1, HC9.out.2.2, HO9.out, ?_, ?_, ?_, ?_⟩⟩
            · exact (((HGT.out).snoc HYT.out).keep ((Below.refl _ _).alloc (Nat.le_refl _) _)).keepGd HK9.out
            · exact ((HLT.out).alloc (by omega) _).trans HB9.out
            · show (no + 1) + 1 ≤ k + 1 + 1; omega
            · rw [List.map_append]; exact HET.out
          case measure => simp [intOf]; omega
      · have hno : no ≤ k + 1 := hno0
        have HEQ := Lib.hid HR.out.eq
        rw [HDG.out, left_done] at HEQ
        · skip
          go_upto_region 15 with fail
          have hszT := hszk
          have HBT : Hid (Below bg wr wk) := Lib.hid (HBK.out)
          have HOT : Hid (OwnGd wk (bw + 1) Ao no co os) := Lib.hid (HR.out.own.below HBT.out (fun g' off e => by rw [HBG.out]; exact (HR.out.own.lt g' off e).1))
          have HGT : Hid (GdsOk wk os) := Lib.hid (HR.out.ok.keep (by rw [← HBG.out]; exact HBT.out))
          have HLT : Hid (Below (bw + 1) W1 wk) := Lib.hid (HR.out.bel.trans (HBT.out.mono hbgw))
          have HRT := HRG
          have HYT := HXK
          have HET : Hid (os.map Gd.grp ++ [x.grp] ++ Left true ((ls.drop (k + 1)).map Gd.grp) ⟨G, [v]⟩ = putF (ls.map Gd.grp) ⟨G, [v]⟩) := Lib.hid (by rw [List.append_assoc]; exact HEQ.out)
          go_wp2_with (first
            | (refine wpList_load_row rfl 134 (.tmp 12) rfl bg rfl _ #[.string x.p.key, .int .i64 x.p.s, .int .i64 x.p.e, .slice x.A x.n x.c] (0, 0) _ HRT.out uGd rfl (by kernel_rfl) ?_)
            | (at_builtin; refine wpList_append_gd rfl _ _ rfl (bw + 1) Ao no co os rfl (HOT.out.below ((Below.refl _ _).alloc (Nat.le_refl _) _) (fun g' off' e => (HOT.out.lt g' off' e).1)) (some ⟨wk.heap.size, 0, none⟩) 1 1 [x] rfl rfl (gd_new _ _ [x] _ rfl _ rfl) (fun h => by cases h) (no + 1) rfl (by omega) (by simp; omega) ?_; intro A9 c9 w9 ho9 h91 h92 h93 hb9 hg9 _; have HO9 := Lib.hid ho9; have HC9 := Lib.hid (And.intro h91 (And.intro h92 h93)); have HB9 := Lib.hid hb9; have HK9 := Lib.hid (keepGd_append (HOT.out.below ((Below.refl _ _).alloc (Nat.le_refl _) _) (fun g' off' e => (HOT.out.lt g' off' e).1)) hg9); clear ho9 h91 h92 h93 hb9 hg9))
          go_roundw
          case rel =>
            refine ⟨k + 1, no + 1, c9, A9, os ++ [x], true, hin, rfl, rfl, by go_num, ⟨HC9.out.1, HC9.out.2.1, HC9.out.2.2, HO9.out, ?_, ?_, ?_, ?_⟩⟩
            · exact (((HGT.out).snoc HYT.out).keep ((Below.refl _ _).alloc (Nat.le_refl _) _)).keepGd HK9.out
            · exact ((HLT.out).alloc (by omega) _).trans HB9.out
            · show no + 1 ≤ k + 1 + 1; omega
            · rw [List.map_append]; exact HET.out
          case measure => simp [intOf]; omega
    · have HE : Hid (os.map Gd.grp ++ Left dd [] ⟨G, [v]⟩ = putF (ls.map Gd.grp) ⟨G, [v]⟩) := Lib.hid (by
        have h1 := HR.out.eq
        rw [List.drop_of_length_le (by have := HN.out; omega)] at h1
        exact h1)
      have hszz : bw + 1 ≤ wr.heap.size := by have h1 := HR.out.bel.size; have h2 := HS1.out; omega
      rcases dd with _ | _
      · have hno : no ≤ k := hno0
        rw [left_nil] at HE
        have HO : Hid (OwnGd wr (bw + 1) Ao no co os) := Lib.hid HR.out.own
        have HRW : Hid (wr.heap[bw]? = some (.cells #[.int .i64 G.s, .int .i64 G.e] 84 (0, 0))) := Lib.hid (row_keep HR1.out (bel_up HR.out.bel HS1.out))
        have HRWa : ∀ o, Hid ((wr.alloc o).heap[bw]? = some (.cells #[.int .i64 G.s, .int .i64 G.e] 84 (0, 0))) := fun o => Lib.hid (row_alloc' HRW.out o)
        go_wp2_with (first
          | (refine wpList_load_row rfl 84 (.tmp 6) rfl bw rfl _ #[.int .i64 G.s, .int .i64 G.e] (0, 0) _ HRW.out uWn rfl (by kernel_rfl) ?_)
          | (refine wpList_load_row rfl 84 (.tmp 6) rfl bw rfl _ #[.int .i64 G.s, .int .i64 G.e] (0, 0) _ (HRWa _).out uWn rfl (by kernel_rfl) ?_)
          | (at_builtin; refine wpList_append_gd rfl _ _ rfl (bw + 1) Ao no co os rfl (HO.out.below (((Below.refl _ _).alloc (Nat.le_refl _) _).alloc (by simp) _) (fun g' off' e => (HO.out.lt g' off' e).1)) (some ⟨wr.heap.size + 1, 0, none⟩) 1 1 [⟨G, some ⟨wr.heap.size, 0, none⟩, 1, 1, [v]⟩] rfl rfl (gd_new _ _ [⟨G, some ⟨wr.heap.size, 0, none⟩, 1, 1, [v]⟩] _ rfl _ (by simp)) (fun h => by cases h) (no + 1) rfl (by omega) (by simp; omega) ?_; intro A3 c3' w3 ho3 h31 h32 h33 hb3 hg3 _; have HO3 := Lib.hid ho3; have HC3 := Lib.hid (And.intro h31 (And.intro h32 h33)); have HB3 := Lib.hid (((((Below.refl wr.heap.size wr).alloc (Nat.le_refl _) _).alloc (by simp) _).mono hszz).trans hb3); have HK3 := Lib.hid (keepGd_append (HO.out.below (((Below.refl _ _).alloc (Nat.le_refl _) _).alloc (by simp) _) (fun g' off' e => (HO.out.lt g' off' e).1)) hg3); clear ho3 h31 h32 h33 hb3 hg3))
        go_ret
        refine ⟨A3, no + 1, c3', os ++ [⟨G, some ⟨wr.heap.size, 0, none⟩, 1, 1, [v]⟩], rfl, HC3.out.1, HC3.out.2.1, HC3.out.2.2, HO3.out.less (by have := HWB.out; omega), ?_, ?_, ?_⟩
        · exact (((HR.out.ok).keep (((Below.refl _ _).alloc (Nat.le_refl _) _).alloc (by simp) _)).snoc (x := ⟨G, some ⟨wr.heap.size, 0, none⟩, 1, 1, [v]⟩) ⟨ownF_one HV.out (row_alloc' (heap_new wr _) _), Nat.one_pos⟩).keepGd HK3.out
        · rw [List.map_append]; exact HE.out
        · rw [← HWB.out]; exact (HB1.out.trans (HR.out.bel.mono (Nat.le_succ _))).trans (HB3.out.mono (Nat.le_succ _))
      · rw [left_nil', List.append_nil] at HE
        go_wp2
        go_ret
        refine ⟨Ao, no, co, os, rfl, HR.out.le, HR.out.cap, HR.out.nil, HR.out.own.less (by have := HWB.out; omega), HR.out.ok, HE.out, ?_⟩
        rw [← HWB.out]; exact HB1.out.trans (HR.out.bel.mono (Nat.le_succ _))
end Go.Proofs.Ytbimfopbilcdgaa
