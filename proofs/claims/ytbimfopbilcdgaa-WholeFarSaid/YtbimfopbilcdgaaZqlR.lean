/-
  Layer whole: the document's Groups in memory.
-/
import Derived.Test.YtbimfopbilcdgaaZqiR
import Derived.Test.YtbimfopbilcdgaaZqjR
import Derived.Test.YtbimfopbilcdgaaZqkR
set_option linter.unusedSimpArgs false
set_option linter.unusedVariables false
set_option maxRecDepth 8000
namespace Go.Proofs.Ytbimfopbilcdgaa
open Go.RowKit Go.Sort Sm

theorem ownE_keep {w w' : World} {B n cap : Nat} {A : Option Addr} {l : List Ev} (h : OwnE w B A n cap l) (hb : Below w.heap.size w w') : OwnE w' B A n cap l :=
  h.kept (row := none) ⟨hb.os, hb.tape, hb.output, hb.size, fun k hk _ => hb.block k hk⟩ (by rcases A with _ | a <;> simp [Value.ownBlock])
/-- A time's windows, as the document puts them. -/
noncomputable def dWs (c : Cf) (l : List Ev) (x : Ev) : List Wd := if c.kind = 2 then [⟨(wS c.size l x).s, (wS c.size l x).e⟩] else wOf c x.time
noncomputable def dItE (c : Cf) (l : List Ev) (x : Ev) : List Grp := (dWs c l x).map fun w => ⟨⟨x.key, w.s, w.e⟩, [x.val]⟩
noncomputable def dIts (c : Cf) (l m : List Ev) : List Grp := m.flatMap (dItE c l)
theorem dItE_len (c : Cf) (l : List Ev) (x : Ev) : (dItE c l x).length = (dWs c l x).length := by unfold dItE; rw [List.length_map]
theorem dWs_len {c : Cf} (h : c.Ok) (l : List Ev) (x : Ev) : (dWs c l x).length ≤ 16 := by
  unfold dWs
  split
  · simp
  · rw [wOf_len]; exact h.n16 _
theorem dIts_take {c : Cf} {l m : List Ev} {k : Nat} {x : Ev} (hx : m[k]? = some x) : dIts c l (m.take (k + 1)) = dIts c l (m.take k) ++ dItE c l x := by
  obtain ⟨h1, h2⟩ := List.getElem?_eq_some_iff.1 hx
  unfold dIts
  rw [List.take_succ_eq_append_getElem h1, h2, List.flatMap_append]; simp
theorem dIts_len {c : Cf} (h : c.Ok) (l : List Ev) : ∀ m : List Ev, (dIts c l m).length ≤ 16 * m.length
  | [] => Nat.le_refl _
  | x :: r => by
    have h1 := dIts_len h l r
    have h2 := dWs_len h l x
    unfold dIts at *
    rw [List.flatMap_cons, List.length_append, dItE_len, List.length_cons]; omega
theorem dItE_one (c : Cf) (l : List Ev) (x : Ev) : ∀ g ∈ dItE c l x, g.vs.length = 1 := fun g hg => by
  unfold dItE at hg
  obtain ⟨w, -, rfl⟩ := List.mem_map.1 hg; rfl
theorem putF_few {n : Nat} {gs : List Grp} {g : Grp} (h : gs.length ≤ n ∧ ∀ x ∈ gs, x.vs.length ≤ n) (hg : g.vs.length = 1) : (putF gs g).length ≤ n + 1 ∧ ∀ x ∈ putF gs g, x.vs.length ≤ n + 1 := by
  refine ⟨by have := putF_len gs g; omega, ?_⟩
  have h2 := h.2
  clear h
  induction gs with
  | nil => intro x hx; rw [putF] at hx; simp at hx; subst hx; omega
  | cons a t ih =>
    have ht := ih (fun x hx => h2 x (by simp [hx]))
    have ha := h2 a (by simp)
    intro x hx
    rw [putF] at hx
    split at hx
    · rcases List.mem_cons.1 hx with rfl | hx
      · omega
      · exact ht x hx
    · split at hx
      · rcases List.mem_cons.1 hx with rfl | hx
        · show (a.vs ++ g.vs).length ≤ n + 1
          rw [List.length_append]; omega
        · have := h2 x (by simp [hx]); omega
      · rcases List.mem_cons.1 hx with rfl | hx
        · omega
        · have := h2 x hx; omega
theorem addA_few : ∀ (its gs : List Grp) (n : Nat), (gs.length ≤ n ∧ ∀ x ∈ gs, x.vs.length ≤ n) → (∀ g ∈ its, g.vs.length = 1) → (its.foldl putF gs).length ≤ n + its.length ∧ ∀ x ∈ its.foldl putF gs, x.vs.length ≤ n + its.length
  | [], gs, n, h, _ => h
  | g :: r, gs, n, h, h1 => by
    have h2 := addA_few r (putF gs g) (n + 1) (putF_few h (h1 g (by simp))) (fun x hx => h1 x (by simp [hx]))
    rw [List.length_cons]
    refine ⟨by have := h2.1; rw [List.foldl_cons]; omega, fun x hx => ?_⟩
    have := h2.2 x hx; omega
theorem wn_one_row (y : Wd) : ∀ v ∈ y.cells, v.oneCell' = true := wn_one y
theorem wp_append_wn {w : World} {o : Oper} {a : Act} {K : Act → World → Prop} {Q : Exit → Act → World → Prop} (s x : Operand)
    (ho : o.op = .call { callee := .builtin .append, args := #[s, x], argTypes := #[79, 79] })
    (B : Nat) (A : Option Addr) (n cap : Nat) (l : List Wd) (hs : a.eval s = .slice A n cap) (hown : OwnWn w B A n cap l) (h c : Nat) (y : Wd) (hx : a.eval x = .slice (some ⟨h, 0, none⟩) 1 c) (hrow : w.heap[h]? = some (.cells y.cells.toArray 84 (0, 0)))
    (N : Nat) (hN : N = n + 1) (hn : n + 1 ≤ 100000) (hbase : B ≤ w.heap.size)
    (hk : ∀ A' cap' w', OwnWn w' B A' N cap' (l ++ [y]) → Below B w w' → K (a.put o.dst (.slice A' N cap')) w') : o.wp Try.prog a w K Q := by
  subst hN
  obtain ⟨i0, hi, hz0, hz1, hz2⟩ := info_parts infoWn
  obtain ⟨v', w', hr, ho2, hg, -, hloc⟩ := run_append_own_at (P := Try.prog) w B 79 o.type 84 i0 _ 2 16 Try.underlying79 hi hz0 hz1 hz2 rfl (by decide) _ n (wns l) hown ⟨h, 0, none⟩ 1 c y.cells rfl (fun j u hu => by
    rw [addr_add, Nat.zero_add, cell_of_row _ _ _ _ _ _ hrow]; simpa using hu) (wn_one y) (by unfold maxLen; omega) (by omega) hbase
  have e : wns l ++ y.cells = wns (l ++ [y]) := by unfold wns; rw [List.flatMap_append]; simp
  rw [e] at ho2
  obtain ⟨A1, c1, rfl, e2, e3, e4⟩ := wn_roslice ho2
  unfold Oper.wp execOp
  simp only [ho, resolve, invoke, builtin, Sem.run_bind, Sem.run_pure, Result.andThen_ok, List.map_toArray, List.map_cons, List.map_nil, hs, hx, hr]
  exact hk A1 c1 w' ho2 ((Below.refl _ w).grown hg hbase (wn_robase hown))
/-- What Groups keeps. -/
structure DGo (Wc : World) (b : Nat) (c : Cf) (its : List Grp) (no co : Nat) (Ao : Option Addr) (os : List Gd) (w : World) : Prop where
  le : no ≤ co
  cap : co ≤ maxLen
  nil : Ao = none → co = 0
  own : OwnGd w b Ao no co os
  ok : GdsOk w os
  eq : os.map Gd.grp = addA its
  few : no ≤ its.length
  vals : ∀ x ∈ os, x.n ≤ its.length
  bel : Below b Wc w
theorem DGo.step {Wc w : World} {b : Nat} {c : Cf} {its : List Grp} {no co : Nat} {Ao : Option Addr} {os : List Gd} {w0 : World} (h : DGo Wc b c its no co Ao os w0) (g : Grp) (h1 : ∀ x ∈ its, x.vs.length = 1) (hg : g.vs.length = 1) {A : Option Addr} {n cap : Nat} {os' : List Gd} (hc1 : n ≤ cap) (hc2 : cap ≤ maxLen) (hc3 : A = none → cap = 0) (hown : OwnGd w b A n cap os') (hok : GdsOk w os') (he : os'.map Gd.grp = putF (os.map Gd.grp) g) (hb : Below b Wc w) : DGo Wc b c (its ++ [g]) n cap A os' w := by
  have e : os'.map Gd.grp = addA (its ++ [g]) := by rw [addA_snoc, he, h.eq]
  have hf := addA_few (its ++ [g]) [] 0 ⟨Nat.le_refl _, fun x hx => by cases hx⟩ (fun x hx => by
    rcases List.mem_append.1 hx with hx | hx
    · exact h1 x hx
    · simp at hx; subst hx; exact hg)
  have e2 : (its ++ [g]).foldl putF [] = os'.map Gd.grp := e.symm
  rw [e2] at hf
  refine ⟨hc1, hc2, hc3, hown, hok, e, ?_, fun x hx => ?_, hb⟩
  · have := hf.1; rw [List.length_map] at this; rw [hown.len]; omega
  · have h3 := hf.2 x.grp (List.mem_map.2 ⟨x, hx, rfl⟩)
    have h4 := (hok x hx).1.len
    have h5 : x.grp.vs = x.vs := rfl
    rw [h5] at h3; omega
theorem DGo.keep {Wc w w' : World} {b : Nat} {c : Cf} {its : List Grp} {no co : Nat} {Ao : Option Addr} {os : List Gd} (h : DGo Wc b c its no co Ao os w) (hb : Below w.heap.size w w') (hle : b ≤ w.heap.size) : DGo Wc b c its no co Ao os w' :=
  ⟨h.le, h.cap, h.nil, h.own.below hb (fun g' off e => (h.own.lt g' off e).1), h.ok.keep hb, h.eq, h.few, h.vals, h.bel.trans (hb.mono hle)⟩
def DGEnds (W : World) (its : List Grp) (e : Ending) (w' : World) : Prop := ∃ A n cap os, e = .returned (.slice A n cap) ∧ OwnGd w' W.heap.size A n cap os ∧ GdsOk w' os ∧ os.map Gd.grp = addA its ∧ n ≤ its.length ∧ (∀ x ∈ os, x.n ≤ its.length) ∧ Below W.heap.size W w'
theorem dOne (c : Cf) (l m : List Ev) (x : Ev) (j : Nat) : ∀ g ∈ dIts c l m ++ (dItE c l x).take j, g.vs.length = 1 := fun g hg => by
  rcases List.mem_append.1 hg with hg | hg
  · unfold dIts at hg
    obtain ⟨z, -, hz⟩ := List.mem_flatMap.1 hg
    exact dItE_one c l z g hz
  · exact dItE_one c l x g (List.mem_of_mem_take hg)
theorem ownWn_none {w : World} {B g : Nat} (hB : B ≤ g) (hrow : w.heap[g]? = some (.cells #[] 84 (0, 0))) : OwnWn w B (some ⟨g, 0, none⟩) 0 0 [] :=
  ⟨rfl, .inr ⟨g, 0, _, rfl, hB, hrow, Nat.le_refl _, Nat.zero_le _, rfl, rfl⟩⟩
set_option maxHeartbeats 8000000 in
theorem dgroups_any (c : Cf) (h : c.Ok) (al : Option Addr) (nl cl : Nat) (l : List Ev) (hl : EvFit l) (W : World) (B : Nat) (HA : Hid (OwnE W B al nl cl l)) :
    Calls Try.prog 70 #[c.v, .slice al nl cl] W (DGEnds W (dIts c l l)) := by
  have HN : Hid (nl = l.length ∧ l.length ≤ 60) := Lib.hid ⟨by have := HA.out.1; rw [evs_length] at this; omega, hl.few⟩
  have nl60 : nl ≤ 60 := by have := HN.out; omega
  have HC := Lib.hid h
  have HFIT := Lib.hid hl
  obtain ⟨Wc, hWc⟩ : ∃ q, q = W.alloc (.cells #[.int .u8 (c.kind : Int), .int .i64 c.size, .int .i64 c.step, .int .i64 c.late, .int .i64 c.skew, .int .i64 c.parts, .int .u64 (c.cut : Int)] 64) := ⟨_, rfl⟩
  obtain ⟨bc, hbc⟩ : ∃ q, q = W.heap.size := ⟨_, rfl⟩
  have HWC : Hid (Below W.heap.size W Wc) := Lib.hid (by rw [hWc]; exact (Below.refl _ _).alloc (Nat.le_refl _) _)
  have HRCc : Hid (Wc.rangeAt bc 0 [.int .u8 (c.kind : Int), .int .i64 c.size, .int .i64 c.step, .int .i64 c.late, .int .i64 c.skew, .int .i64 c.parts, .int .u64 (c.cut : Int)]) := Lib.hid (zrow (T := 64) (fr := (0, 0)) (by rw [hWc, hbc]; exact heap_new W _))
  have HGCc : Hid (bc < Wc.heap.size) := Lib.hid (by rw [hWc, hbc]; simp)
  have HLc : Hid (OwnE Wc B al nl cl l) := Lib.hid (ownE_keep HA.out HWC.out)
  clear h hl
  go_enter Try.func70, Try.ntmps70
  go_wp2
  rw [← hWc, ← hbc]
  have HBCW := Lib.hid hbc
  clear hWc hbc
  go_loopw [5, 6] (fun o i wr => ∃ (k no co : Nat) (Ao : Option Addr) (os : List Gd), k ≤ nl ∧ o = .slice Ao no co ∧ i = .int .i64 k ∧ DGo Wc W.heap.size c (dIts c l (l.take k)) no co Ao os wr ∧ Below Wc.heap.size Wc wr) (fun _ i _ => nl - (intOf i).toNat)
  case atStart => exact ⟨0, 0, 0, none, [], Nat.zero_le _, rfl, rfl, ⟨Nat.le_refl _, Nat.zero_le _, fun _ => rfl, OwnGd.nil _ _, (fun x (hx : x ∈ []) => by cases hx), rfl, Nat.zero_le _, (fun x (hx : x ∈ []) => by cases hx), Below.refl _ _⟩, Below.refl _ _⟩
  case round =>
    obtain ⟨k, no, co, Ao, os, hk, rfl, rfl, hdg, hb⟩ := hrel
    have HDG := Lib.hid hdg; have HBo := Lib.hid hb
    clear hdg hb
    by_cases hin : k < nl
    · obtain ⟨x, hx⟩ : ∃ x, l[k]? = some x := ⟨l[k]'(by have := HN.out; omega), List.getElem?_eq_getElem _⟩
      have hxm : x ∈ l := List.mem_of_getElem? hx
      obtain ⟨gl, hal, hgl, hrx⟩ := evslr HLc.out k x hx
      subst hal
      have HREV := Lib.hid hrx
      have HGLc := Lib.hid hgl
      have HXV : Hid (x.val < 18446744073709551616) := Lib.hid (HFIT.out.val x hxm)
      have HTM := Lib.hid (HFIT.out.time x hxm)
      have HXM := Lib.hid hxm
      have HTK : Hid (dIts c l (l.take (k + 1)) = dIts c l (l.take k) ++ dItE c l x) := Lib.hid (dIts_take hx)
      have hkI : (k : Int) < (nl : Int) := by omega
      clear hx hxm hgl hrx
      have hc0 : ∀ w, Below Wc.heap.size Wc w → w.cell? ⟨bc, 0, none⟩ = some (.int .u8 (c.kind : Int)) := fun w hw => (zkeep HRCc.out HGCc.out hw) 0 _ rfl
      have HC0 := Lib.hid hc0
      clear hc0
      go_upto_region 6 with fail
      obtain ⟨wk, hwk⟩ : ∃ q, q = wr.alloc (.cells #[] 84) := ⟨_, rfl⟩
      rw [← hwk]
      obtain ⟨gs, hgs⟩ : ∃ q, q = wr.heap.size := ⟨_, rfl⟩
      have HWSd : Hid (OwnWn wk.drew gs (some ⟨gs, 0, none⟩) 0 0 []) := Lib.hid (ownWn_none (Nat.le_refl _) (by show wk.heap[gs]? = _; rw [hwk, hgs]; exact heap_new wr _))
      have HBk : Hid (Below gs wr wk) := Lib.hid (by rw [hwk, hgs]; exact (Below.refl _ _).alloc (Nat.le_refl _) _)
      have HGSr : Hid (gs = wr.heap.size) := Lib.hid hgs
      have HGS : Hid (gs ≤ wk.heap.size) := Lib.hid (by rw [hwk, hgs]; simp)
      have HCG : Hid (Wc.heap.size ≤ gs) := Lib.hid (by rw [hgs]; exact HBo.out.size)
      have HBck : Hid (Below Wc.heap.size Wc wk) := Lib.hid (HBo.out.trans (HBk.out.mono HCG.out))
      have HRX : Hid (wk.rangeAt gl (k * 5) [.int .u64 (x.off : Int), .int .i64 x.part, .int .i64 x.time, .string x.key, .float .f64 x.val]) := Lib.hid (zkeep HREV.out HGLc.out HBck.out)
      have HGL : Hid (gl < gs) := Lib.hid (Nat.lt_of_lt_of_le HGLc.out HCG.out)
      have HRC : Hid (wk.rangeAt bc 0 [.int .u8 (c.kind : Int), .int .i64 c.size, .int .i64 c.step, .int .i64 c.late, .int .i64 c.skew, .int .i64 c.parts, .int .u64 (c.cut : Int)]) := Lib.hid (zkeep HRCc.out HGCc.out HBck.out)
      have HGC : Hid (bc < gs) := Lib.hid (Nat.lt_of_lt_of_le HGCc.out HCG.out)
      have hcc := HC0.out wk HBck.out
      rw [← hgs]
      clear hwk hgs
      by_cases hkd : c.kind = 2
      · have HKD := Lib.hid hkd
        have hkdI : (c.kind : Int) = 2 := by omega
        have HSE : Hid (∀ w, Below gs wk w → Calls Try.prog 92 #[c.v, .slice (some ⟨gl, 0, none⟩) nl cl, .agg #[.int .u64 (x.off : Int), .int .i64 x.part, .int .i64 x.time, .string x.key, .float .f64 x.val]] w (SesEnds w c.size l x)) := Lib.hid fun w hw =>
          rses_any c HC.out _ nl cl l HFIT.out x HXM.out w B (Lib.hid (ownE_keep HLc.out (HBck.out.trans (hw.mono HCG.out))))
        clear hkd
        go_upto_region 7 with fail
        clear hkdI hcc
        obtain ⟨nw, hnw⟩ : ∃ q : Nat, q = 0 + 1 := ⟨_, rfl⟩
        have HNW1 := Lib.hid hnw
        clear hnw
        refine wp_region_held_drew (S := fun w' => Below gs wk w') (by kernel_rfl) ((Below.refl _ wk).drew) (fun hHeld => ?_)
        refine wpAnyH_take (i := 0) (v := .slice (some ⟨gs, 0, none⟩) 0 0) rfl (by kernel_rfl) (by kernel_rfl) (by kernel_rfl) (fun _ _ _ h => h) (Or.inl ⟨by rfl, fun _ _ => rfl⟩) hHeld ?_
        try dsimp only
        try simp only [Act.put, List.getElem_toArray, List.getElem_cons_zero, List.getElem_cons_succ, List.setIfInBounds_toArray, List.set_cons_zero, List.set_cons_succ]
        refine wpAnyH_take (i := 1) (v := .agg [.int .u8 (c.kind : Int), .int .i64 c.size, .int .i64 c.step, .int .i64 c.late, .int .i64 c.skew, .int .i64 c.parts, .int .u64 (c.cut : Int)].toArray) rfl (by kernel_rfl) (by kernel_rfl) (by kernel_rfl) (fun _ _ _ h => h) (yieldsIf_load_mid rfl 64 (.tmp 2) rfl bc (0) rfl [.int .u8 (c.kind : Int), .int .i64 c.size, .int .i64 c.step, .int .i64 c.late, .int .i64 c.skew, .int .i64 c.parts, .int .u64 (c.cut : Int)] _ (fun w hw => rsub (cs := [.int .u8 (c.kind : Int), .int .i64 c.size, .int .i64 c.step, .int .i64 c.late, .int .i64 c.skew, .int .i64 c.parts, .int .u64 (c.cut : Int)]) (zkeep HRC.out HGC.out hw) 0 7 _ rfl _ (by simp)) uCf rfl (by kernel_rfl)) hHeld ?_
        try dsimp only
        try simp only [Act.put, List.getElem_toArray, List.getElem_cons_zero, List.getElem_cons_succ, List.setIfInBounds_toArray, List.set_cons_zero, List.set_cons_succ]
        refine wpAnyH_take (i := 2) (v := .slice (some ⟨gl, 0, none⟩) nl cl) rfl (by kernel_rfl) (by kernel_rfl) (by kernel_rfl) (fun _ _ _ h => h) (Or.inl ⟨by rfl, fun _ _ => rfl⟩) hHeld ?_
        try dsimp only
        try simp only [Act.put, List.getElem_toArray, List.getElem_cons_zero, List.getElem_cons_succ, List.setIfInBounds_toArray, List.set_cons_zero, List.set_cons_succ]
        refine wpAnyH_take (i := 3) (v := .slice (some ⟨gl, 0, none⟩) nl cl) rfl (by kernel_rfl) (by kernel_rfl) (by kernel_rfl) (fun _ _ _ h => h) (Or.inl ⟨by rfl, fun _ _ => rfl⟩) hHeld ?_
        try dsimp only
        try simp only [Act.put, List.getElem_toArray, List.getElem_cons_zero, List.getElem_cons_succ, List.setIfInBounds_toArray, List.set_cons_zero, List.set_cons_succ]
        refine wpAnyH_take (i := 4) (v := .int .i64 (k : Int)) rfl (by kernel_rfl) (by kernel_rfl) (by kernel_rfl) (fun _ _ _ h => h) (Or.inl ⟨by rfl, fun _ _ => rfl⟩) hHeld ?_
        try dsimp only
        try simp only [Act.put, List.getElem_toArray, List.getElem_cons_zero, List.getElem_cons_succ, List.setIfInBounds_toArray, List.set_cons_zero, List.set_cons_succ]
        refine wpAnyH_take (i := 5) (v := .pointer (some ⟨gl, k * 5, none⟩)) rfl (by kernel_rfl) (by kernel_rfl) (by kernel_rfl) (fun _ _ _ h => h) (Or.inl ⟨by rfl, fun w _ => by go_simp⟩) hHeld ?_
        try dsimp only
        try simp only [Act.put, List.getElem_toArray, List.getElem_cons_zero, List.getElem_cons_succ, List.setIfInBounds_toArray, List.set_cons_zero, List.set_cons_succ]
        refine wpAnyH_take (i := 6) (v := .agg [.int .u64 (x.off : Int), .int .i64 x.part, .int .i64 x.time, .string x.key, .float .f64 x.val].toArray) rfl (by kernel_rfl) (by kernel_rfl) (by kernel_rfl) (fun _ _ _ h => h) (yieldsIf_load_mid rfl 76 (.tmp 24) rfl gl (k * 5) rfl [.int .u64 (x.off : Int), .int .i64 x.part, .int .i64 x.time, .string x.key, .float .f64 x.val] _ (fun w hw => rsub (cs := [.int .u64 (x.off : Int), .int .i64 x.part, .int .i64 x.time, .string x.key, .float .f64 x.val]) (zkeep HRX.out HGL.out hw) 0 5 _ rfl _ rfl) uEv rfl (by kernel_rfl)) hHeld ?_
        try dsimp only
        try simp only [Act.put, List.getElem_toArray, List.getElem_cons_zero, List.getElem_cons_succ, List.setIfInBounds_toArray, List.set_cons_zero, List.set_cons_succ]
        refine wpAnyH_ready (rs := [7]) (by kernel_rfl) (by simp) (AllReadyH.cons rfl (fun K hK => ?_) AllReadyH.nil)
        go_simp
        refine (HSE.out _ hHeld).mono ?_
        rintro e w9 ⟨p, rfl, hsp, hnp, hb9⟩
        have HWS9 := Lib.hid (HWSd.out.below hb9 (fun g' off e => (HWSd.out.lt g' off e).1))
        replace hHeld := hHeld.trans (hb9.mono (Nat.le_trans HGS.out hHeld.size))
        have HSPp := Lib.hid hsp
        clear hsp hnp hb9
        refine hK.out _ _ hHeld (fun hHeld => ?_)
        clear hK K
        try dsimp only
        try simp only [Act.put, List.getElem_toArray, List.getElem_cons_zero, List.getElem_cons_succ, List.setIfInBounds_toArray, List.set_cons_zero, List.set_cons_succ]
        refine wpAnyH_ready (rs := [8]) (by kernel_rfl) (by simp) (AllReadyH.cons rfl (fun K hK => ?_) AllReadyH.nil)
        go_simp
        have hs9 := Nat.le_trans HGS.out hHeld.size
        refine hK.out _ _ (hHeld.alloc hs9 _) (fun _ => ?_)
        clear hK K
        try dsimp only
        try simp only [Act.put, List.getElem_toArray, List.getElem_cons_zero, List.getElem_cons_succ, List.setIfInBounds_toArray, List.set_cons_zero, List.set_cons_succ]
        refine wpAnyH_ready (rs := [9]) (by kernel_rfl) (by simp) (AllReadyH.cons rfl (fun K hK => ?_) AllReadyH.nil)
        rw [if_pos (by rfl)]
        refine wp_append_wn (.tmp 19) (.tmp 27) rfl gs (some ⟨gs, 0, none⟩) 0 0 [] rfl (HWS9.out.below ((Below.refl _ _).alloc (Nat.le_refl _) _) (fun g' off e => (HWS9.out.lt g' off e).1)) w9.heap.size 1 ⟨p.s, p.e⟩ rfl (zheap_new' _ _ _ rfl) nw HNW1.out (by omega) (by simp; omega) ?_
        intro Aw cw w3 ho3 hb3
        refine hK.out _ _ ((hHeld.alloc hs9 _).trans hb3) (fun _ => ?_)
        clear hK K
        try dsimp only
        try simp only [Act.put, List.getElem_toArray, List.getElem_cons_zero, List.getElem_cons_succ, List.setIfInBounds_toArray, List.set_cons_zero, List.set_cons_succ]
        replace hHeld := (hHeld.alloc hs9 (.cells #[.int .i64 p.s, .int .i64 p.e] 84)).trans hb3
        refine wpAnyH_take (i := 10) (v := .slice Aw nw cw) rfl (by kernel_rfl) (by kernel_rfl) (by kernel_rfl) (fun _ _ _ h => h) (Or.inl ⟨by rfl, fun _ _ => rfl⟩) hHeld ?_
        try dsimp only
        try simp only [Act.put, List.getElem_toArray, List.getElem_cons_zero, List.getElem_cons_succ, List.setIfInBounds_toArray, List.set_cons_zero, List.set_cons_succ]
        refine wpAnyH_done (by kernel_rfl) ?_ _
        have HDWS : Hid ([] ++ [⟨p.s, p.e⟩] = dWs c l x) := Lib.hid (by
          unfold dWs; rw [if_pos HKD.out, (wS_is HC.out.size1 HSPp.out).2]; rfl)
        have HOW : Hid (OwnWn w3 gs Aw nw cw (dWs c l x)) := Lib.hid (by rw [← HDWS.out]; exact ho3)
        have HWL : Hid (nw = (dWs c l x).length) := Lib.hid (by rw [HNW1.out, ← HDWS.out]; rfl)
        have nw16 : nw ≤ 16 := by have := HNW1.out; omega
        have HB7r : Hid (Below gs wr w3) := Lib.hid (HBk.out.trans hHeld)
        clear hHeld ho3 hb3
        have HB7 : Hid (Below Wc.heap.size Wc w3) := Lib.hid (HBo.out.trans (HB7r.out.mono HCG.out))
        have HDG7 := Lib.hid (HDG.out.keep (by rw [← HGSr.out]; exact HB7r.out) (Nat.le_trans HWC.out.size HBo.out.size))
        go_wp2
        go_loopw [5, 8] (fun o i wr => ∃ (j no co : Nat) (Ao : Option Addr) (os : List Gd), j ≤ nw ∧ o = .slice Ao no co ∧ i = .int .i64 j ∧ DGo Wc W.heap.size c (dIts c l (l.take k) ++ (dItE c l x).take j) no co Ao os wr ∧ OwnWn wr gs Aw nw cw (dWs c l x) ∧ Wc.heap.size ≤ wr.heap.size ∧ Below Wc.heap.size Wc wr) (fun _ i _ => nw - (intOf i).toNat)
        case atStart => exact ⟨0, no, co, Ao, os, Nat.zero_le _, rfl, rfl, by rw [List.take_zero, List.append_nil]; exact HDG7.out, HOW.out, HB7.out.size, HB7.out⟩
        case round =>
          obtain ⟨j, no, co, Ao, os, hj, rfl, rfl, hdg, how, hsz, hb⟩ := hrel
          have HDGj := Lib.hid hdg; have HOWj := Lib.hid how; have HSZ := Lib.hid hsz; have HB := Lib.hid hb
          clear hdg how hsz hb
          by_cases hjn : j < nw
          · obtain ⟨y, hy⟩ : ∃ y, (dWs c l x)[j]? = some y := ⟨(dWs c l x)[j]'(by have := HWL.out; omega), List.getElem?_eq_getElem _⟩
            have hit : (dItE c l x)[j]? = some ⟨⟨x.key, y.s, y.e⟩, [x.val]⟩ := by unfold dItE; rw [List.getElem?_map, hy]; rfl
            have HTJ : Hid ((dItE c l x).take (j + 1) = (dItE c l x).take j ++ [⟨⟨x.key, y.s, y.e⟩, [x.val]⟩]) := Lib.hid (by
              have hl := List.getElem?_eq_some_iff.1 hit
              rw [List.take_succ_eq_append_getElem hl.1, hl.2])
            obtain ⟨gw, ow, hAw, hgw, hrw⟩ := wnr HOWj.out.at' j y hy
            have how0 : ow = 0 := (HOWj.out.lt gw ow hAw).2.2
            subst how0
            subst hAw
            rw [Nat.zero_add] at hrw
            have HRY := Lib.hid hrw
            have HGW := Lib.hid hgw
            have HRX2 : Hid (wr.rangeAt gl (k * 5) [.int .u64 (x.off : Int), .int .i64 x.part, .int .i64 x.time, .string x.key, .float .f64 x.val]) := Lib.hid (zkeep HREV.out HGLc.out HB.out)
            have HGL2 : Hid (gl < wr.heap.size) := Lib.hid (Nat.lt_of_lt_of_le HGLc.out HSZ.out)
            have HBLE : Hid (W.heap.size ≤ wr.heap.size) := Lib.hid (Nat.le_trans HWC.out.size HSZ.out)
            have HLEN : Hid ((dIts c l (l.take k) ++ (dItE c l x).take j).length ≤ 960) := Lib.hid (by
              have h1 := dIts_len HC.out l (l.take k)
              have h2 := dWs_len HC.out l x
              rw [List.length_append, List.length_take, dItE_len]
              rw [List.length_take] at h1
              have h3 := HN.out
              omega)
            have HADD : Hid (∀ w, Below wr.heap.size wr w → Calls Try.prog 94 #[.slice Ao no co, .string x.key, .agg #[.int .i64 y.s, .int .i64 y.e], .float .f64 x.val] w (AddEnds w (os.map Gd.grp) ⟨⟨x.key, y.s, y.e⟩, [x.val]⟩)) := Lib.hid fun w hw =>
              gadd_any W.heap.size Ao no co os ⟨x.key, y.s, y.e⟩ x.val HXV.out (by have h1 := HDGj.out.few; have h2 := HLEN.out; omega) (fun z hz => by have h1 := HDGj.out.vals z hz; have h2 := HLEN.out; omega) w (Lib.hid (HDGj.out.own.below hw (fun g' off e => (HDGj.out.own.lt g' off e).1))) (Lib.hid (HDGj.out.ok.keep hw))
            have hjI : (j : Int) < (nw : Int) := by omega
            clear hy hit hrw hgw
            go_upto_region 12 with fail
            refine wp_region_held_drew (S := fun w' => Below wr.heap.size wr w') (by kernel_rfl) ((Below.refl _ wr).drew) (fun hHeld => ?_)
            refine wpAnyH_take (i := 0) (v := .slice Ao no co) rfl (by kernel_rfl) (by kernel_rfl) (by kernel_rfl) (fun _ _ _ h => h) (Or.inl ⟨by rfl, fun _ _ => rfl⟩) hHeld ?_
            try dsimp only
            try simp only [Act.put, List.getElem_toArray, List.getElem_cons_zero, List.getElem_cons_succ, List.setIfInBounds_toArray, List.set_cons_zero, List.set_cons_succ]
            refine wpAnyH_take (i := 1) (v := .slice (some ⟨gl, 0, none⟩) nl cl) rfl (by kernel_rfl) (by kernel_rfl) (by kernel_rfl) (fun _ _ _ h => h) (Or.inl ⟨by rfl, fun _ _ => rfl⟩) hHeld ?_
            try dsimp only
            try simp only [Act.put, List.getElem_toArray, List.getElem_cons_zero, List.getElem_cons_succ, List.setIfInBounds_toArray, List.set_cons_zero, List.set_cons_succ]
            refine wpAnyH_take (i := 2) (v := .int .i64 (k : Int)) rfl (by kernel_rfl) (by kernel_rfl) (by kernel_rfl) (fun _ _ _ h => h) (Or.inl ⟨by rfl, fun _ _ => rfl⟩) hHeld ?_
            try dsimp only
            try simp only [Act.put, List.getElem_toArray, List.getElem_cons_zero, List.getElem_cons_succ, List.setIfInBounds_toArray, List.set_cons_zero, List.set_cons_succ]
            refine wpAnyH_take (i := 3) (v := .pointer (some ⟨gl, k * 5, none⟩)) rfl (by kernel_rfl) (by kernel_rfl) (by kernel_rfl) (fun _ _ _ h => h) (Or.inl ⟨by rfl, fun w _ => by go_simp⟩) hHeld ?_
            try dsimp only
            try simp only [Act.put, List.getElem_toArray, List.getElem_cons_zero, List.getElem_cons_succ, List.setIfInBounds_toArray, List.set_cons_zero, List.set_cons_succ]
            refine wpAnyH_take (i := 4) (v := .pointer (some ⟨gl, k * 5 + 3, none⟩)) rfl (by kernel_rfl) (by kernel_rfl) (by kernel_rfl) (fun _ _ _ h => h) (Or.inl ⟨by rfl, fun w _ => by go_simp⟩) hHeld ?_
            try dsimp only
            try simp only [Act.put, List.getElem_toArray, List.getElem_cons_zero, List.getElem_cons_succ, List.setIfInBounds_toArray, List.set_cons_zero, List.set_cons_succ]
            refine wpAnyH_take (i := 5) (v := .string x.key) rfl (by kernel_rfl) (by kernel_rfl) (by kernel_rfl) (fun _ _ _ h => h) (Or.inl ⟨by rfl, fun w hw => by have hr9 : w.rangeAt gl (k * 5) [.int .u64 (x.off : Int), .int .i64 x.part, .int .i64 x.time, .string x.key, .float .f64 x.val] := (zkeep HRX2.out HGL2.out hw); have hc : w.cell? ⟨gl, k * 5 + 3, none⟩ = some (.string x.key) := hr9 3 _ rfl; go_simp⟩) hHeld ?_
            try dsimp only
            try simp only [Act.put, List.getElem_toArray, List.getElem_cons_zero, List.getElem_cons_succ, List.setIfInBounds_toArray, List.set_cons_zero, List.set_cons_succ]
            refine wpAnyH_take (i := 6) (v := .slice (some ⟨gw, 0, none⟩) nw cw) rfl (by kernel_rfl) (by kernel_rfl) (by kernel_rfl) (fun _ _ _ h => h) (Or.inl ⟨by rfl, fun _ _ => rfl⟩) hHeld ?_
            try dsimp only
            try simp only [Act.put, List.getElem_toArray, List.getElem_cons_zero, List.getElem_cons_succ, List.setIfInBounds_toArray, List.set_cons_zero, List.set_cons_succ]
            refine wpAnyH_take (i := 7) (v := .int .i64 (j : Int)) rfl (by kernel_rfl) (by kernel_rfl) (by kernel_rfl) (fun _ _ _ h => h) (Or.inl ⟨by rfl, fun _ _ => rfl⟩) hHeld ?_
            try dsimp only
            try simp only [Act.put, List.getElem_toArray, List.getElem_cons_zero, List.getElem_cons_succ, List.setIfInBounds_toArray, List.set_cons_zero, List.set_cons_succ]
            refine wpAnyH_take (i := 8) (v := .pointer (some ⟨gw, j * 2, none⟩)) rfl (by kernel_rfl) (by kernel_rfl) (by kernel_rfl) (fun _ _ _ h => h) (Or.inl ⟨by rfl, fun w _ => by go_simp⟩) hHeld ?_
            try dsimp only
            try simp only [Act.put, List.getElem_toArray, List.getElem_cons_zero, List.getElem_cons_succ, List.setIfInBounds_toArray, List.set_cons_zero, List.set_cons_succ]
            refine wpAnyH_take (i := 9) (v := .agg [.int .i64 y.s, .int .i64 y.e].toArray) rfl (by kernel_rfl) (by kernel_rfl) (by kernel_rfl) (fun _ _ _ h => h) (yieldsIf_load_mid rfl 84 (.tmp 50) rfl gw (j * 2) rfl [.int .i64 y.s, .int .i64 y.e] _ (fun w hw => rsub (cs := [.int .i64 y.s, .int .i64 y.e]) (zkeep HRY.out HGW.out hw) 0 2 _ rfl _ rfl) uWn rfl (by kernel_rfl)) hHeld ?_
            try dsimp only
            try simp only [Act.put, List.getElem_toArray, List.getElem_cons_zero, List.getElem_cons_succ, List.setIfInBounds_toArray, List.set_cons_zero, List.set_cons_succ]
            refine wpAnyH_take (i := 10) (v := .slice (some ⟨gl, 0, none⟩) nl cl) rfl (by kernel_rfl) (by kernel_rfl) (by kernel_rfl) (fun _ _ _ h => h) (Or.inl ⟨by rfl, fun _ _ => rfl⟩) hHeld ?_
            try dsimp only
            try simp only [Act.put, List.getElem_toArray, List.getElem_cons_zero, List.getElem_cons_succ, List.setIfInBounds_toArray, List.set_cons_zero, List.set_cons_succ]
            refine wpAnyH_take (i := 11) (v := .int .i64 (k : Int)) rfl (by kernel_rfl) (by kernel_rfl) (by kernel_rfl) (fun _ _ _ h => h) (Or.inl ⟨by rfl, fun _ _ => rfl⟩) hHeld ?_
            try dsimp only
            try simp only [Act.put, List.getElem_toArray, List.getElem_cons_zero, List.getElem_cons_succ, List.setIfInBounds_toArray, List.set_cons_zero, List.set_cons_succ]
            refine wpAnyH_take (i := 12) (v := .pointer (some ⟨gl, k * 5, none⟩)) rfl (by kernel_rfl) (by kernel_rfl) (by kernel_rfl) (fun _ _ _ h => h) (Or.inl ⟨by rfl, fun w _ => by go_simp⟩) hHeld ?_
            try dsimp only
            try simp only [Act.put, List.getElem_toArray, List.getElem_cons_zero, List.getElem_cons_succ, List.setIfInBounds_toArray, List.set_cons_zero, List.set_cons_succ]
            refine wpAnyH_take (i := 13) (v := .pointer (some ⟨gl, k * 5 + 4, none⟩)) rfl (by kernel_rfl) (by kernel_rfl) (by kernel_rfl) (fun _ _ _ h => h) (Or.inl ⟨by rfl, fun w _ => by go_simp⟩) hHeld ?_
            try dsimp only
            try simp only [Act.put, List.getElem_toArray, List.getElem_cons_zero, List.getElem_cons_succ, List.setIfInBounds_toArray, List.set_cons_zero, List.set_cons_succ]
            refine wpAnyH_take (i := 14) (v := .float .f64 x.val) rfl (by kernel_rfl) (by kernel_rfl) (by kernel_rfl) (fun _ _ _ h => h) (Or.inl ⟨by rfl, fun w hw => by have hr9 : w.rangeAt gl (k * 5) [.int .u64 (x.off : Int), .int .i64 x.part, .int .i64 x.time, .string x.key, .float .f64 x.val] := (zkeep HRX2.out HGL2.out hw); have hc : w.cell? ⟨gl, k * 5 + 4, none⟩ = some (.float .f64 x.val) := hr9 4 _ rfl; go_simp⟩) hHeld ?_
            try dsimp only
            try simp only [Act.put, List.getElem_toArray, List.getElem_cons_zero, List.getElem_cons_succ, List.setIfInBounds_toArray, List.set_cons_zero, List.set_cons_succ]
            refine wpAnyH_ready (rs := [15]) (by kernel_rfl) (by simp) (AllReadyH.cons rfl (fun K hK => ?_) AllReadyH.nil)
            go_simp
            refine (HADD.out _ hHeld).mono ?_
            rintro e w9 ⟨A9, n9, c9, os9, rfl, h91, h92, h93, ho9, hg9, he9, hb9⟩
            have HO9 := Lib.hid (ho9.less (Nat.le_trans HBLE.out hHeld.size))
            replace hHeld := bto hHeld hb9
            have HC9 := Lib.hid (And.intro h91 (And.intro h92 h93))
            have HG9 := Lib.hid hg9
            have HE9 := Lib.hid he9
            clear h91 h92 h93 ho9 hg9 he9 hb9
            refine hK.out _ _ hHeld (fun hHeld => ?_)
            clear hK K
            try dsimp only
            try simp only [Act.put, List.getElem_toArray, List.getElem_cons_zero, List.getElem_cons_succ, List.setIfInBounds_toArray, List.set_cons_zero, List.set_cons_succ]
            refine wpAnyH_ready (rs := [16]) (by kernel_rfl) (by simp) (AllReadyH.cons rfl (fun K hK => ?_) AllReadyH.nil)
            go_simp
            refine hK.out _ _ hHeld (fun _ => ?_)
            clear hK K
            refine wpAnyH_done (by kernel_rfl) ?_ _
            have HBE := Lib.hid hHeld
            clear hHeld
            go_wp2
            go_roundw
            case rel =>
              refine ⟨j + 1, n9, c9, A9, os9, by omega, rfl, by go_num, ?_, HOWj.out.below HBE.out (fun g' off e => (HOWj.out.lt g' off e).1), Nat.le_trans HSZ.out HBE.out.size, HB.out.trans (HBE.out.mono HSZ.out)⟩
              rw [HTJ.out, ← List.append_assoc]
              exact HDGj.out.step ⟨⟨x.key, y.s, y.e⟩, [x.val]⟩ (dOne c l _ _ _) rfl HC9.out.1 HC9.out.2.1 HC9.out.2.2 HO9.out HG9.out HE9.out (HDGj.out.bel.trans (HBE.out.mono HBLE.out))
            case measure => simp [intOf]; omega
          · have HTE : Hid (dIts c l (l.take k) ++ (dItE c l x).take j = dIts c l (l.take (k + 1))) := Lib.hid (by rw [HTK.out, show (dItE c l x).take j = dItE c l x from List.take_of_length_le (by rw [dItE_len, ← HWL.out]; omega)])
            have HDG8 := HDGj
            rw [HTE.out] at HDG8
            go_wp2
            go_roundw
            case rel => exact ⟨k + 1, no, co, Ao, os, hin, rfl, by go_num, HDG8.out, HB.out⟩
            case measure => simp [intOf]; omega
      · have HKD := Lib.hid hkd
        have hkdI : ¬ ((c.kind : Int) = 2) := by omega
        have HDWS : Hid (wOf c x.time = dWs c l x) := Lib.hid (by unfold dWs; rw [if_neg HKD.out])
        have HOF : Hid (∀ w, Calls Try.prog 93 #[c.v, .int .i64 x.time] w (WnRet w (wOf c x.time))) := Lib.hid fun w => by
          have h9 := HC.out.kind
          by_cases h1 : c.kind = 1
          · exact rOf_sli c HC.out h1 x.time HTM.out.1 HTM.out.2 w
          · exact rOf_tum c HC.out (by have := HKD.out; omega) x.time HTM.out.1 HTM.out.2 w
        clear hkd
        go_upto_region 8 with fail
        clear hkdI hcc
        refine wp_region_held_drew (S := fun w' => Below gs wk w') (by kernel_rfl) ((Below.refl _ wk).drew) (fun hHeld => ?_)
        refine wpAnyH_take (i := 0) (v := .agg [.int .u8 (c.kind : Int), .int .i64 c.size, .int .i64 c.step, .int .i64 c.late, .int .i64 c.skew, .int .i64 c.parts, .int .u64 (c.cut : Int)].toArray) rfl (by kernel_rfl) (by kernel_rfl) (by kernel_rfl) (fun _ _ _ h => h) (yieldsIf_load_mid rfl 64 (.tmp 2) rfl bc (0) rfl [.int .u8 (c.kind : Int), .int .i64 c.size, .int .i64 c.step, .int .i64 c.late, .int .i64 c.skew, .int .i64 c.parts, .int .u64 (c.cut : Int)] _ (fun w hw => rsub (cs := [.int .u8 (c.kind : Int), .int .i64 c.size, .int .i64 c.step, .int .i64 c.late, .int .i64 c.skew, .int .i64 c.parts, .int .u64 (c.cut : Int)]) (zkeep HRC.out HGC.out hw) 0 7 _ rfl _ (by simp)) uCf rfl (by kernel_rfl)) hHeld ?_
        try dsimp only
        try simp only [Act.put, List.getElem_toArray, List.getElem_cons_zero, List.getElem_cons_succ, List.setIfInBounds_toArray, List.set_cons_zero, List.set_cons_succ]
        refine wpAnyH_take (i := 1) (v := .slice (some ⟨gl, 0, none⟩) nl cl) rfl (by kernel_rfl) (by kernel_rfl) (by kernel_rfl) (fun _ _ _ h => h) (Or.inl ⟨by rfl, fun _ _ => rfl⟩) hHeld ?_
        try dsimp only
        try simp only [Act.put, List.getElem_toArray, List.getElem_cons_zero, List.getElem_cons_succ, List.setIfInBounds_toArray, List.set_cons_zero, List.set_cons_succ]
        refine wpAnyH_take (i := 2) (v := .int .i64 (k : Int)) rfl (by kernel_rfl) (by kernel_rfl) (by kernel_rfl) (fun _ _ _ h => h) (Or.inl ⟨by rfl, fun _ _ => rfl⟩) hHeld ?_
        try dsimp only
        try simp only [Act.put, List.getElem_toArray, List.getElem_cons_zero, List.getElem_cons_succ, List.setIfInBounds_toArray, List.set_cons_zero, List.set_cons_succ]
        refine wpAnyH_take (i := 3) (v := .pointer (some ⟨gl, k * 5, none⟩)) rfl (by kernel_rfl) (by kernel_rfl) (by kernel_rfl) (fun _ _ _ h => h) (Or.inl ⟨by rfl, fun w _ => by go_simp⟩) hHeld ?_
        try dsimp only
        try simp only [Act.put, List.getElem_toArray, List.getElem_cons_zero, List.getElem_cons_succ, List.setIfInBounds_toArray, List.set_cons_zero, List.set_cons_succ]
        refine wpAnyH_take (i := 4) (v := .pointer (some ⟨gl, k * 5 + 2, none⟩)) rfl (by kernel_rfl) (by kernel_rfl) (by kernel_rfl) (fun _ _ _ h => h) (Or.inl ⟨by rfl, fun w _ => by go_simp⟩) hHeld ?_
        try dsimp only
        try simp only [Act.put, List.getElem_toArray, List.getElem_cons_zero, List.getElem_cons_succ, List.setIfInBounds_toArray, List.set_cons_zero, List.set_cons_succ]
        refine wpAnyH_take (i := 5) (v := .int .i64 x.time) rfl (by kernel_rfl) (by kernel_rfl) (by kernel_rfl) (fun _ _ _ h => h) (Or.inl ⟨by rfl, fun w hw => by have hr9 : w.rangeAt gl (k * 5) [.int .u64 (x.off : Int), .int .i64 x.part, .int .i64 x.time, .string x.key, .float .f64 x.val] := (zkeep HRX.out HGL.out hw); have hc : w.cell? ⟨gl, k * 5 + 2, none⟩ = some (.int .i64 x.time) := hr9 2 _ rfl; go_simp⟩) hHeld ?_
        try dsimp only
        try simp only [Act.put, List.getElem_toArray, List.getElem_cons_zero, List.getElem_cons_succ, List.setIfInBounds_toArray, List.set_cons_zero, List.set_cons_succ]
        refine wpAnyH_ready (rs := [6]) (by kernel_rfl) (by simp) (AllReadyH.cons rfl (fun K hK => ?_) AllReadyH.nil)
        go_simp
        refine (HOF.out _).mono ?_
        rintro e w9 ⟨Aw, nw, cw, rfl, hnw, how, hb9⟩
        have HWN3 := Lib.hid (OwnWn.less how (Nat.le_trans HGS.out hHeld.size))
        have HWL3 := Lib.hid hnw
        replace hHeld := hHeld.trans (hb9.mono (Nat.le_trans HGS.out hHeld.size))
        clear how hnw hb9
        refine hK.out _ _ hHeld (fun hHeld => ?_)
        clear hK K
        try dsimp only
        try simp only [Act.put, List.getElem_toArray, List.getElem_cons_zero, List.getElem_cons_succ, List.setIfInBounds_toArray, List.set_cons_zero, List.set_cons_succ]
        refine wpAnyH_ready (rs := [7]) (by kernel_rfl) (by simp) (AllReadyH.cons rfl (fun K hK => ?_) AllReadyH.nil)
        go_simp
        refine hK.out _ _ hHeld (fun _ => ?_)
        clear hK K
        refine wpAnyH_done (by kernel_rfl) ?_ _
        have HOW : Hid (OwnWn w9 gs Aw nw cw (dWs c l x)) := Lib.hid (by rw [← HDWS.out]; exact HWN3.out)
        have HWL : Hid (nw = (dWs c l x).length) := Lib.hid (by rw [← HDWS.out]; exact HWL3.out)
        have nw16 : nw ≤ 16 := by rw [HWL.out]; exact dWs_len HC.out l x
        have HB7r : Hid (Below gs wr w9) := Lib.hid (HBk.out.trans hHeld)
        clear hHeld
        have HB7 : Hid (Below Wc.heap.size Wc w9) := Lib.hid (HBo.out.trans (HB7r.out.mono HCG.out))
        have HDG7 := Lib.hid (HDG.out.keep (by rw [← HGSr.out]; exact HB7r.out) (Nat.le_trans HWC.out.size HBo.out.size))
        go_wp2
        go_loopw [5, 8] (fun o i wr => ∃ (j no co : Nat) (Ao : Option Addr) (os : List Gd), j ≤ nw ∧ o = .slice Ao no co ∧ i = .int .i64 j ∧ DGo Wc W.heap.size c (dIts c l (l.take k) ++ (dItE c l x).take j) no co Ao os wr ∧ OwnWn wr gs Aw nw cw (dWs c l x) ∧ Wc.heap.size ≤ wr.heap.size ∧ Below Wc.heap.size Wc wr) (fun _ i _ => nw - (intOf i).toNat)
        case atStart => exact ⟨0, no, co, Ao, os, Nat.zero_le _, rfl, rfl, by rw [List.take_zero, List.append_nil]; exact HDG7.out, HOW.out, HB7.out.size, HB7.out⟩
        case round =>
          obtain ⟨j, no, co, Ao, os, hj, rfl, rfl, hdg, how, hsz, hb⟩ := hrel
          have HDGj := Lib.hid hdg; have HOWj := Lib.hid how; have HSZ := Lib.hid hsz; have HB := Lib.hid hb
          clear hdg how hsz hb
          by_cases hjn : j < nw
          · obtain ⟨y, hy⟩ : ∃ y, (dWs c l x)[j]? = some y := ⟨(dWs c l x)[j]'(by have := HWL.out; omega), List.getElem?_eq_getElem _⟩
            have hit : (dItE c l x)[j]? = some ⟨⟨x.key, y.s, y.e⟩, [x.val]⟩ := by unfold dItE; rw [List.getElem?_map, hy]; rfl
            have HTJ : Hid ((dItE c l x).take (j + 1) = (dItE c l x).take j ++ [⟨⟨x.key, y.s, y.e⟩, [x.val]⟩]) := Lib.hid (by
              have hl := List.getElem?_eq_some_iff.1 hit
              rw [List.take_succ_eq_append_getElem hl.1, hl.2])
            obtain ⟨gw, ow, hAw, hgw, hrw⟩ := wnr HOWj.out.at' j y hy
            have how0 : ow = 0 := (HOWj.out.lt gw ow hAw).2.2
            subst how0
            subst hAw
            rw [Nat.zero_add] at hrw
            have HRY := Lib.hid hrw
            have HGW := Lib.hid hgw
            have HRX2 : Hid (wr.rangeAt gl (k * 5) [.int .u64 (x.off : Int), .int .i64 x.part, .int .i64 x.time, .string x.key, .float .f64 x.val]) := Lib.hid (zkeep HREV.out HGLc.out HB.out)
            have HGL2 : Hid (gl < wr.heap.size) := Lib.hid (Nat.lt_of_lt_of_le HGLc.out HSZ.out)
            have HBLE : Hid (W.heap.size ≤ wr.heap.size) := Lib.hid (Nat.le_trans HWC.out.size HSZ.out)
            have HLEN : Hid ((dIts c l (l.take k) ++ (dItE c l x).take j).length ≤ 960) := Lib.hid (by
              have h1 := dIts_len HC.out l (l.take k)
              have h2 := dWs_len HC.out l x
              rw [List.length_append, List.length_take, dItE_len]
              rw [List.length_take] at h1
              have h3 := HN.out
              omega)
            have HADD : Hid (∀ w, Below wr.heap.size wr w → Calls Try.prog 94 #[.slice Ao no co, .string x.key, .agg #[.int .i64 y.s, .int .i64 y.e], .float .f64 x.val] w (AddEnds w (os.map Gd.grp) ⟨⟨x.key, y.s, y.e⟩, [x.val]⟩)) := Lib.hid fun w hw =>
              gadd_any W.heap.size Ao no co os ⟨x.key, y.s, y.e⟩ x.val HXV.out (by have h1 := HDGj.out.few; have h2 := HLEN.out; omega) (fun z hz => by have h1 := HDGj.out.vals z hz; have h2 := HLEN.out; omega) w (Lib.hid (HDGj.out.own.below hw (fun g' off e => (HDGj.out.own.lt g' off e).1))) (Lib.hid (HDGj.out.ok.keep hw))
            have hjI : (j : Int) < (nw : Int) := by omega
            clear hy hit hrw hgw
            go_upto_region 12 with fail
            refine wp_region_held_drew (S := fun w' => Below wr.heap.size wr w') (by kernel_rfl) ((Below.refl _ wr).drew) (fun hHeld => ?_)
            refine wpAnyH_take (i := 0) (v := .slice Ao no co) rfl (by kernel_rfl) (by kernel_rfl) (by kernel_rfl) (fun _ _ _ h => h) (Or.inl ⟨by rfl, fun _ _ => rfl⟩) hHeld ?_
            try dsimp only
            try simp only [Act.put, List.getElem_toArray, List.getElem_cons_zero, List.getElem_cons_succ, List.setIfInBounds_toArray, List.set_cons_zero, List.set_cons_succ]
            refine wpAnyH_take (i := 1) (v := .slice (some ⟨gl, 0, none⟩) nl cl) rfl (by kernel_rfl) (by kernel_rfl) (by kernel_rfl) (fun _ _ _ h => h) (Or.inl ⟨by rfl, fun _ _ => rfl⟩) hHeld ?_
            try dsimp only
            try simp only [Act.put, List.getElem_toArray, List.getElem_cons_zero, List.getElem_cons_succ, List.setIfInBounds_toArray, List.set_cons_zero, List.set_cons_succ]
            refine wpAnyH_take (i := 2) (v := .int .i64 (k : Int)) rfl (by kernel_rfl) (by kernel_rfl) (by kernel_rfl) (fun _ _ _ h => h) (Or.inl ⟨by rfl, fun _ _ => rfl⟩) hHeld ?_
            try dsimp only
            try simp only [Act.put, List.getElem_toArray, List.getElem_cons_zero, List.getElem_cons_succ, List.setIfInBounds_toArray, List.set_cons_zero, List.set_cons_succ]
            refine wpAnyH_take (i := 3) (v := .pointer (some ⟨gl, k * 5, none⟩)) rfl (by kernel_rfl) (by kernel_rfl) (by kernel_rfl) (fun _ _ _ h => h) (Or.inl ⟨by rfl, fun w _ => by go_simp⟩) hHeld ?_
            try dsimp only
            try simp only [Act.put, List.getElem_toArray, List.getElem_cons_zero, List.getElem_cons_succ, List.setIfInBounds_toArray, List.set_cons_zero, List.set_cons_succ]
            refine wpAnyH_take (i := 4) (v := .pointer (some ⟨gl, k * 5 + 3, none⟩)) rfl (by kernel_rfl) (by kernel_rfl) (by kernel_rfl) (fun _ _ _ h => h) (Or.inl ⟨by rfl, fun w _ => by go_simp⟩) hHeld ?_
            try dsimp only
            try simp only [Act.put, List.getElem_toArray, List.getElem_cons_zero, List.getElem_cons_succ, List.setIfInBounds_toArray, List.set_cons_zero, List.set_cons_succ]
            refine wpAnyH_take (i := 5) (v := .string x.key) rfl (by kernel_rfl) (by kernel_rfl) (by kernel_rfl) (fun _ _ _ h => h) (Or.inl ⟨by rfl, fun w hw => by have hr9 : w.rangeAt gl (k * 5) [.int .u64 (x.off : Int), .int .i64 x.part, .int .i64 x.time, .string x.key, .float .f64 x.val] := (zkeep HRX2.out HGL2.out hw); have hc : w.cell? ⟨gl, k * 5 + 3, none⟩ = some (.string x.key) := hr9 3 _ rfl; go_simp⟩) hHeld ?_
            try dsimp only
            try simp only [Act.put, List.getElem_toArray, List.getElem_cons_zero, List.getElem_cons_succ, List.setIfInBounds_toArray, List.set_cons_zero, List.set_cons_succ]
            refine wpAnyH_take (i := 6) (v := .slice (some ⟨gw, 0, none⟩) nw cw) rfl (by kernel_rfl) (by kernel_rfl) (by kernel_rfl) (fun _ _ _ h => h) (Or.inl ⟨by rfl, fun _ _ => rfl⟩) hHeld ?_
            try dsimp only
            try simp only [Act.put, List.getElem_toArray, List.getElem_cons_zero, List.getElem_cons_succ, List.setIfInBounds_toArray, List.set_cons_zero, List.set_cons_succ]
            refine wpAnyH_take (i := 7) (v := .int .i64 (j : Int)) rfl (by kernel_rfl) (by kernel_rfl) (by kernel_rfl) (fun _ _ _ h => h) (Or.inl ⟨by rfl, fun _ _ => rfl⟩) hHeld ?_
            try dsimp only
            try simp only [Act.put, List.getElem_toArray, List.getElem_cons_zero, List.getElem_cons_succ, List.setIfInBounds_toArray, List.set_cons_zero, List.set_cons_succ]
            refine wpAnyH_take (i := 8) (v := .pointer (some ⟨gw, j * 2, none⟩)) rfl (by kernel_rfl) (by kernel_rfl) (by kernel_rfl) (fun _ _ _ h => h) (Or.inl ⟨by rfl, fun w _ => by go_simp⟩) hHeld ?_
            try dsimp only
            try simp only [Act.put, List.getElem_toArray, List.getElem_cons_zero, List.getElem_cons_succ, List.setIfInBounds_toArray, List.set_cons_zero, List.set_cons_succ]
            refine wpAnyH_take (i := 9) (v := .agg [.int .i64 y.s, .int .i64 y.e].toArray) rfl (by kernel_rfl) (by kernel_rfl) (by kernel_rfl) (fun _ _ _ h => h) (yieldsIf_load_mid rfl 84 (.tmp 50) rfl gw (j * 2) rfl [.int .i64 y.s, .int .i64 y.e] _ (fun w hw => rsub (cs := [.int .i64 y.s, .int .i64 y.e]) (zkeep HRY.out HGW.out hw) 0 2 _ rfl _ rfl) uWn rfl (by kernel_rfl)) hHeld ?_
            try dsimp only
            try simp only [Act.put, List.getElem_toArray, List.getElem_cons_zero, List.getElem_cons_succ, List.setIfInBounds_toArray, List.set_cons_zero, List.set_cons_succ]
            refine wpAnyH_take (i := 10) (v := .slice (some ⟨gl, 0, none⟩) nl cl) rfl (by kernel_rfl) (by kernel_rfl) (by kernel_rfl) (fun _ _ _ h => h) (Or.inl ⟨by rfl, fun _ _ => rfl⟩) hHeld ?_
            try dsimp only
            try simp only [Act.put, List.getElem_toArray, List.getElem_cons_zero, List.getElem_cons_succ, List.setIfInBounds_toArray, List.set_cons_zero, List.set_cons_succ]
            refine wpAnyH_take (i := 11) (v := .int .i64 (k : Int)) rfl (by kernel_rfl) (by kernel_rfl) (by kernel_rfl) (fun _ _ _ h => h) (Or.inl ⟨by rfl, fun _ _ => rfl⟩) hHeld ?_
            try dsimp only
            try simp only [Act.put, List.getElem_toArray, List.getElem_cons_zero, List.getElem_cons_succ, List.setIfInBounds_toArray, List.set_cons_zero, List.set_cons_succ]
            refine wpAnyH_take (i := 12) (v := .pointer (some ⟨gl, k * 5, none⟩)) rfl (by kernel_rfl) (by kernel_rfl) (by kernel_rfl) (fun _ _ _ h => h) (Or.inl ⟨by rfl, fun w _ => by go_simp⟩) hHeld ?_
            try dsimp only
            try simp only [Act.put, List.getElem_toArray, List.getElem_cons_zero, List.getElem_cons_succ, List.setIfInBounds_toArray, List.set_cons_zero, List.set_cons_succ]
            refine wpAnyH_take (i := 13) (v := .pointer (some ⟨gl, k * 5 + 4, none⟩)) rfl (by kernel_rfl) (by kernel_rfl) (by kernel_rfl) (fun _ _ _ h => h) (Or.inl ⟨by rfl, fun w _ => by go_simp⟩) hHeld ?_
            try dsimp only
            try simp only [Act.put, List.getElem_toArray, List.getElem_cons_zero, List.getElem_cons_succ, List.setIfInBounds_toArray, List.set_cons_zero, List.set_cons_succ]
            refine wpAnyH_take (i := 14) (v := .float .f64 x.val) rfl (by kernel_rfl) (by kernel_rfl) (by kernel_rfl) (fun _ _ _ h => h) (Or.inl ⟨by rfl, fun w hw => by have hr9 : w.rangeAt gl (k * 5) [.int .u64 (x.off : Int), .int .i64 x.part, .int .i64 x.time, .string x.key, .float .f64 x.val] := (zkeep HRX2.out HGL2.out hw); have hc : w.cell? ⟨gl, k * 5 + 4, none⟩ = some (.float .f64 x.val) := hr9 4 _ rfl; go_simp⟩) hHeld ?_
            try dsimp only
            try simp only [Act.put, List.getElem_toArray, List.getElem_cons_zero, List.getElem_cons_succ, List.setIfInBounds_toArray, List.set_cons_zero, List.set_cons_succ]
            refine wpAnyH_ready (rs := [15]) (by kernel_rfl) (by simp) (AllReadyH.cons rfl (fun K hK => ?_) AllReadyH.nil)
            go_simp
            refine (HADD.out _ hHeld).mono ?_
            rintro e w9 ⟨A9, n9, c9, os9, rfl, h91, h92, h93, ho9, hg9, he9, hb9⟩
            have HO9 := Lib.hid (ho9.less (Nat.le_trans HBLE.out hHeld.size))
            replace hHeld := bto hHeld hb9
            have HC9 := Lib.hid (And.intro h91 (And.intro h92 h93))
            have HG9 := Lib.hid hg9
            have HE9 := Lib.hid he9
            clear h91 h92 h93 ho9 hg9 he9 hb9
            refine hK.out _ _ hHeld (fun hHeld => ?_)
            clear hK K
            try dsimp only
            try simp only [Act.put, List.getElem_toArray, List.getElem_cons_zero, List.getElem_cons_succ, List.setIfInBounds_toArray, List.set_cons_zero, List.set_cons_succ]
            refine wpAnyH_ready (rs := [16]) (by kernel_rfl) (by simp) (AllReadyH.cons rfl (fun K hK => ?_) AllReadyH.nil)
            go_simp
            refine hK.out _ _ hHeld (fun _ => ?_)
            clear hK K
            refine wpAnyH_done (by kernel_rfl) ?_ _
            have HBE := Lib.hid hHeld
            clear hHeld
            go_wp2
            go_roundw
            case rel =>
              refine ⟨j + 1, n9, c9, A9, os9, by omega, rfl, by go_num, ?_, HOWj.out.below HBE.out (fun g' off e => (HOWj.out.lt g' off e).1), Nat.le_trans HSZ.out HBE.out.size, HB.out.trans (HBE.out.mono HSZ.out)⟩
              rw [HTJ.out, ← List.append_assoc]
              exact HDGj.out.step ⟨⟨x.key, y.s, y.e⟩, [x.val]⟩ (dOne c l _ _ _) rfl HC9.out.1 HC9.out.2.1 HC9.out.2.2 HO9.out HG9.out HE9.out (HDGj.out.bel.trans (HBE.out.mono HBLE.out))
            case measure => simp [intOf]; omega
          · have HTE : Hid (dIts c l (l.take k) ++ (dItE c l x).take j = dIts c l (l.take (k + 1))) := Lib.hid (by rw [HTK.out, show (dItE c l x).take j = dItE c l x from List.take_of_length_le (by rw [dItE_len, ← HWL.out]; omega)])
            have HDG8 := HDGj
            rw [HTE.out] at HDG8
            go_wp2
            go_roundw
            case rel => exact ⟨k + 1, no, co, Ao, os, hin, rfl, by go_num, HDG8.out, HB.out⟩
            case measure => simp [intOf]; omega
    · have HKE : Hid (l.take k = l) := Lib.hid (List.take_of_length_le (by have := HN.out; omega))
      have HDE := HDG
      rw [HKE.out] at HDE
      go_wp2
      go_ret
      exact ⟨Ao, no, co, os, rfl, HDE.out.own, HDE.out.ok, HDE.out.eq, HDE.out.few, HDE.out.vals, HWC.out.trans HDE.out.bel⟩
end Go.Proofs.Ytbimfopbilcdgaa
