/-
  Layer ledger: Uint, Int, Text appended: all but the list's own block is kept.
-/
import Derived.Test.YtbimfopbilcdgaaDoorLrfK
import Derived.Test.YtbimfopbilcdgaaDoorAgK
import Derived.BigRegion
import Derived.Deep.CutBlock
set_option linter.unusedSimpArgs false
set_option linter.unusedVariables false
set_option maxRecDepth 8000
namespace Go.Proofs.YtbimfopbilcdgaaDoor
open Go.RowKit Go.WideShapes Col
set_option maxHeartbeats 1000000 in
theorem putI_k (B : Nat) (A : Option Addr) (n cap : Nat) (l : List Nat) (x : Int) (hx : Hid (Wf64 x)) (w : World) (H : Hid (OwnS w B A n cap l)) (hn : n ≤ 1099511627776) (hB : B ≤ w.heap.size) :
    Calls Tryd.prog 29 #[.slice A n cap, .int .i64 x] w (PutK B w A (l ++ ub (zz x))) := by
  have hz := Lib.hid (zz_lt hx.out)
  obtain ⟨h1, h2⟩ := hx.out
  obtain ⟨z, hzz⟩ : ∃ z, z = zz x := ⟨_, rfl⟩
  rw [← hzz] at hz
  have HZ := Lib.hid hzz
  have hz2 := hz.out
  by_cases h : x < 0
  · have hb := xor_zz_neg x hx.out h
    have hd : x / 9223372036854775808 = -1 := by omega
    have hw : IntKind.u64.wrap (-1) = 18446744073709551615 := rfl
    rw [← hzz] at hb
    clear hzz
    go_enter Tryd.func29, Tryd.ntmps29
    go_wp2_with (go_at_call 14; (refine (putU_k B A n cap l z hz.out _ H hn hB).mono ?_); rintro e w1 ⟨A1, n1, c1, rfl, h1, h2, h3⟩)
    go_ret
    exact ⟨A1, n1, c1, rfl, by rw [← HZ.out]; exact h1, h2, h3⟩
  · have hb := xor_zz_pos x hx.out h
    have hd : x / 9223372036854775808 = 0 := by omega
    rw [← hzz] at hb
    clear hzz
    go_enter Tryd.func29, Tryd.ntmps29
    go_wp2_with (go_at_call 14; (refine (putU_k B A n cap l z hz.out _ H hn hB).mono ?_); rintro e w1 ⟨A1, n1, c1, rfl, h1, h2, h3⟩)
    go_ret
    exact ⟨A1, n1, c1, rfl, by rw [← HZ.out]; exact h1, h2, h3⟩
/-- An owned list of bytes lies in no row of another type. -/
theorem own_ne {w : World} {B n cap g : Nat} {A : Option Addr} {l : List Nat} {cs : Array Value} {t : TypeId} {fr : Nat × Nat} (h : OwnS w B A n cap l) (hg : w.heap[g]? = some (.cells cs t fr)) (ht : t ≠ 5) : ¬ MineK A g := fun hm => by
  rcases h.1.2 with ⟨e0, e1⟩ | ⟨g', cap', cur, e0, hb, hg', -⟩
  · injection e0 with e0 _ _
    rw [e0] at hm; cases hm
  · injection e0 with e0 _ _
    rw [e0] at hm
    have e : g' = g := by injection hm
    rw [e, hg] at hg'
    injection hg' with hg'
    injection hg' with _ h2 _
    exact ht h2
/-- All rows that are no bytes are kept, too. -/
structure KU (B : Nat) (w w' : World) : Prop where
  below : Below B w w'
  rows : ∀ (k : Nat) (cs : Array Value) (t : TypeId) (fr : Nat × Nat), w.heap[k]? = some (.cells cs t fr) → t ≠ 5 → w'.heap[k]? = some (.cells cs t fr)
theorem KU.refl (B : Nat) (w : World) : KU B w w := ⟨Below.refl _ _, fun _ _ _ _ h _ => h⟩
theorem KU.trans {B : Nat} {a b c : World} (h : KU B a b) (h' : KU B b c) : KU B a c := ⟨h.below.trans h'.below, fun k cs t fr hk ht => h'.rows k cs t fr (h.rows k cs t fr hk ht) ht⟩
theorem KU.of {B : Nat} {w w' : World} (hB : B ≤ w.heap.size) (h : Below w.heap.size w w') : KU B w w' := ⟨h.mono hB, fun k cs t fr hk _ => (h.block k (Array.getElem?_eq_some_iff.1 hk).1).trans hk⟩
theorem KU.kept {B n cap : Nat} {A : Option Addr} {l : List Nat} {w w' : World} (hB : B ≤ w.heap.size) (ho : OwnS w B A n cap l) (h : Kept (MineK A) w w') : KU B w w' :=
  ⟨kept_own h ho hB, fun k cs t fr hk ht => h.heap hk (own_ne ho hk ht)⟩
theorem KU.more {B B' : Nat} {w w' : World} (h : KU B w w') (hB : B' ≤ B) : KU B' w w' := ⟨h.below.mono hB, h.rows⟩
/-- What a call ends with that appends bytes: all rows that are no bytes are kept. -/
def PutU (B : Nat) (w : World) (l : List Nat) (e : Ending) (w' : World) : Prop := ∃ A' n cap, e = .returned (.slice A' n cap) ∧ OwnS w' B A' n cap l ∧ KU B w w'
theorem putU_u (B : Nat) (A : Option Addr) (n cap : Nat) (l : List Nat) (x : Nat) (hx : x < 18446744073709551616) (w : World) (H : Hid (OwnS w B A n cap l)) (hn : n ≤ 1099511627776) (hB : B ≤ w.heap.size) :
    Calls Tryd.prog 14 #[.slice A n cap, .int .u64 (x : Int)] w (PutU B w (l ++ ub x)) :=
  (putU_k B A n cap l x hx w H hn hB).mono fun e w' ⟨A', n', c', he, ho, hk, _⟩ => ⟨A', n', c', he, ho, KU.kept hB H.out hk⟩
theorem putI_u (B : Nat) (A : Option Addr) (n cap : Nat) (l : List Nat) (x : Int) (hx : Hid (Wf64 x)) (w : World) (H : Hid (OwnS w B A n cap l)) (hn : n ≤ 1099511627776) (hB : B ≤ w.heap.size) :
    Calls Tryd.prog 29 #[.slice A n cap, .int .i64 x] w (PutU B w (l ++ ub (zz x))) :=
  (putI_k B A n cap l x hx w H hn hB).mono fun e w' ⟨A', n', c', he, ho, hk, _⟩ => ⟨A', n', c', he, ho, KU.kept hB H.out hk⟩
theorem own_blockS (A : Option Addr) (n c : Nat) : (Value.slice A n c).ownBlock = A.map (·.block) := by cases A <;> rfl
set_option maxHeartbeats 2000000 in
theorem putT_u (B : Nat) (A : Option Addr) (n cap : Nat) (l s : List Nat) (hs : WfT s) (hl : s.length ≤ 1000000) (w : World) (H : Hid (OwnS w B A n cap l)) (hn : n ≤ 1099511627776) (hB : B ≤ w.heap.size) :
    Calls Tryd.prog 28 #[.slice A n cap, .string (strB s)] w (PutU B w (l ++ txL s)) := by
  obtain ⟨m, hm⟩ : ∃ m, m = s.length := ⟨_, rfl⟩
  have hsz : (strB s).size = m := by rw [strB_size, hm]
  have HSZ := Lib.hid hsz
  have hmw : IntKind.u64.wrap (m : Int) = (m : Int) := by rw [IntKind.wrap_u64]; omega
  have HU := Lib.hid (putU_u B A n cap l m (by omega) w H hn hB)
  have H10 : Hid ((ub m).length ≤ 10) := Lib.hid (ub10 (show m < 18446744073709551616 by omega))
  have HWS := Lib.hid hs
  have HM := Lib.hid hm
  have HLN : Hid (n = l.length) := Lib.hid H.out.len
  have hml : m ≤ 1000000 := by omega
  obtain ⟨i0, hi, hz0, hz1, hz2⟩ := info_parts infoU8
  have HI := Lib.hid (And.intro hi (And.intro hz0 (And.intro hz1 hz2)))
  clear hs hm hl hi hz0 hz1 hz2
  go_enter Tryd.func28, Tryd.ntmps28
  go_wp2_with (first
    | (go_at_call 14; (with_reducible refine (HU.out).mono ?_); rintro e w2 ⟨A2, n2, c2, rfl, ho2, hk2⟩; have HO2 := Lib.hid ho2; have HK2 := Lib.hid hk2; have hn2 := ho2.len; have HN2 := Lib.hid hn2; have hn10 : n2 ≤ n + 10 := (by have := H10.out; have := HLN.out; rw [hn2, List.length_append]; omega); have hB2 : B ≤ w2.heap.size := Nat.le_trans hB HK2.out.below.size; clear ho2 hk2 hn2)
    | (at_builtin; refine Go.Lib.wpList_append_own_string _ rfl (.tmp 9) (.tmp 10) 22 9 rfl B 5 i0 Tryd.underlying22 Tryd.underlying9 HI.out.1 HI.out.2.1 HI.out.2.2.1 HI.out.2.2.2 (.slice A2 n2 c2) n2 _ rfl HO2.out.1 (strB s) rfl (by rw [HSZ.out]; unfold maxLen; omega) (by rw [HSZ.out]; omega) hB2 ?_; intro v4 w4 ho4 hg4 hr4; rw [HSZ.out, strCells_by s HWS.out] at ho4; obtain ⟨A5, c5, hv4⟩ := ownStr ho4; subst hv4; have HO4 := Lib.hid ho4; have HG4 := Lib.hid hg4; clear ho4 hg4 hr4))
  have ho := HO4.out
  rw [show bys (l ++ ub m) ++ bys s = bys (l ++ txL s) by unfold txL bys; rw [← HM.out]; simp] at ho
  go_ret
  have HX4 : Hid (KU B w w4) := Lib.hid (HK2.out.trans (KU.kept hB2 HO2.out (by
    have h := HG4.out
    rw [own_blockS] at h
    exact ⟨h.os, h.tape, h.output, h.size, fun k hk hn => h.block k hk (fun e => hn e.symm)⟩)))
  refine ⟨A5, _, c5, rfl, ⟨ho, fun x hx => ?_⟩, HX4.out⟩
  rcases List.mem_append.1 hx with h | h
  · exact H.out.2 x h
  · unfold txL at h
    rcases List.mem_append.1 h with h2 | h2
    · exact HO2.out.2 x (List.mem_append.2 (.inr (by rw [HM.out]; exact h2)))
    · exact HWS.out x h2
end Go.Proofs.YtbimfopbilcdgaaDoor

set_option linter.unusedSimpArgs false
set_option linter.unusedVariables false
set_option maxRecDepth 8000
namespace Go.Proofs.YtbimfopbilcdgaaDoor
open Go.RowKit Go.WideShapes Col
theorem uAgL : Tryd.prog.underlying 38 = some (.struct (Tryd.prog.fieldsOf 38)) := by kernel_rfl
theorem byL_wf (k : ByteArray) : WfT (byL k) := fun c hc => by
  unfold byL at hc
  obtain ⟨x, -, rfl⟩ := List.mem_map.1 hc
  exact x.toNat_lt
theorem strB_byL (k : ByteArray) : strB (byL k) = k := by
  apply ByteArray.ext
  apply Array.ext'
  unfold strB byL
  rw [strOfNums_data, List.map_map, List.map_map]
  conv => rhs; rw [← List.map_id k.data.toList]
  refine List.map_congr_left fun x _ => ?_
  simp
theorem wp_append_by {o : Oper} {a : Act} {w : World} {K : Act → World → Prop} {Q : Exit → Act → World → Prop} (s x : Operand)
    (ho : o.op = .call { callee := .builtin .append, args := #[s, x], argTypes := #[22, 22] })
    (B : Nat) (A : Option Addr) (n cap : Nat) (l : List Nat) (hs : a.eval s = .slice A n cap) (hown : OwnS w B A n cap l) (b : Option Addr) (m c : Nat) (l2 : List Nat) (hx : a.eval x = .slice b m c) (hm : m = l2.length) (h2 : ByAt w b l2)
    (hbytes : n + m ≤ 140737488355328) (hbase : B ≤ w.heap.size)
    (h : ∀ A' cap' w', OwnS w' B A' (n + m) cap' (l ++ l2) → w.grownBy w' (A.map (·.block)) → (A'.map (·.block) = A.map (·.block) ∨ A'.map (·.block) = some w.heap.size) → K (a.put o.dst (.slice A' (n + m) cap')) w') : o.wp Tryd.prog a w K Q := by
  obtain ⟨A', cap', w', hr, h3, h4, h5⟩ := run_append_by w B A n cap l hown b m c l2 hm h2 hbytes hbase o.type
  unfold Oper.wp execOp
  simp only [ho, resolve, invoke, builtin, Sem.run_bind, Sem.run_pure, Result.andThen_ok, List.map_toArray, List.map_cons, List.map_nil, hs, hx, hr]
  exact h A' cap' w' h3 h4 h5
set_option maxHeartbeats 8000000 in
theorem layChange_any (B : Nat) (A : Option Addr) (n cap : Nat) (l : List Nat) (b : Bool) (rev : Nat) (key : ByteArray) (s ee : Int) (t : Tel) (HC : Hid (ChgR ⟨b, rev, ⟨key, s, ee⟩, t⟩)) (w : World) (H : Hid (OwnS w B A n cap l)) (hn : n ≤ 200000) (hB : B ≤ w.heap.size) :
    Calls Tryd.prog 15 #[.slice A n cap, .agg #[.bool b, .int .u64 (rev : Int), .string key, .int .i64 s, .int .i64 ee, .int .u64 (t.c : Int), .float .f64 t.s, .bool t.o, .float .f64 t.lo, .float .f64 t.hi]] w fun e w' => ∃ A' n' cap', e = .returned (.slice A' n' cap') ∧ OwnS w' B A' n' cap' (l ++ chB ⟨b, rev, ⟨key, s, ee⟩, t⟩) ∧ Below B w w' ∧ w.heap.size ≤ w'.heap.size := by
  have HL := Lib.hid H.out.len
  cases b
  ·
    obtain ⟨w0, hw0⟩ : ∃ w0, w0 = w.alloc (.cells #[.bool false, .int .u64 (rev : Int), .string key, .int .i64 s, .int .i64 ee, .int .u64 (t.c : Int), .float .f64 t.s, .bool t.o, .float .f64 t.lo, .float .f64 t.hi] 43) := ⟨_, rfl⟩
    have HB0 : Hid (Below w.heap.size w w0) := Lib.hid (by rw [hw0]; exact (Below.refl _ _).alloc (Nat.le_refl _) _)
    have HR0 : Hid (w0.heap[w.heap.size]? = some (.cells #[.bool false, .int .u64 (rev : Int), .string key, .int .i64 s, .int .i64 ee, .int .u64 (t.c : Int), .float .f64 t.s, .bool t.o, .float .f64 t.lo, .float .f64 t.hi] 43 (0, 0))) := Lib.hid (by rw [hw0]; exact heap_alloc_new' w _)
    have HO0 := Lib.hid ((H.out.keep HB0.out).keep (Below.refl w0.heap.size w0).drew)
    have hB0 : B ≤ w0.heap.size := Nat.le_trans hB HB0.out.size
    have HK0 : Hid (KU B w0 w0.drew) := Lib.hid (KU.of hB0 (Below.refl w0.heap.size w0).drew)
    have HZ := Lib.hid hw0
    have hp0 : w0.cell? ⟨w.heap.size, 0, none⟩ = some (.bool false) := by rw [cell_of_row _ _ _ _ _ _ HR0.out]; rfl
    clear hw0
    go_enter Tryd.func15, Tryd.ntmps15
    go_upto_region 4 with fail
    refine wp_region_held_drew (S := fun w' => KU B w0 w') (by kernel_rfl) (by first | exact HK0.out | (rw [← HZ.out]; exact HK0.out)) (fun hHeld => ?_)
    rw [← HZ.out] at hHeld ⊢
    refine wpAnyH_take (i := 0) (v := .slice A n cap) rfl (by kernel_rfl) (by kernel_rfl) (by kernel_rfl) (fun _ _ _ h => h) (Or.inl ⟨by rfl, fun _ _ => rfl⟩) hHeld ?_
    try dsimp only
    try simp only [Act.put, List.getElem_toArray, List.getElem_cons_zero, List.getElem_cons_succ, List.setIfInBounds_toArray, List.set_cons_zero, List.set_cons_succ]
    refine wpAnyH_take (i := 1) (v := .int .u8 0) rfl (by kernel_rfl) (by kernel_rfl) (by kernel_rfl) (fun _ _ _ h => h) (Or.inl ⟨by rfl, fun _ _ => rfl⟩) hHeld ?_
    try dsimp only
    try simp only [Act.put, List.getElem_toArray, List.getElem_cons_zero, List.getElem_cons_succ, List.setIfInBounds_toArray, List.set_cons_zero, List.set_cons_succ]
    refine wpAnyH_take (i := 4) (v := .pointer (some ⟨w.heap.size, 1, none⟩)) rfl (by kernel_rfl) (by kernel_rfl) (by kernel_rfl) (fun _ _ _ h => h) (Or.inl ⟨by rfl, fun w _ => by go_simp⟩) hHeld ?_
    try dsimp only
    try simp only [Act.put, List.getElem_toArray, List.getElem_cons_zero, List.getElem_cons_succ, List.setIfInBounds_toArray, List.set_cons_zero, List.set_cons_succ]
    refine wpAnyH_take (i := 5) (v := .int .u64 (rev : Int)) rfl (by kernel_rfl) (by kernel_rfl) (by kernel_rfl) (fun _ _ _ h => h) (Or.inl ⟨by rfl, fun w' hw' => by have hc : w'.cell? ⟨w.heap.size, 1, none⟩ = some (.int .u64 (rev : Int)) := (by rw [cell_of_row _ _ _ _ _ _ (hw'.rows _ _ _ _ HR0.out (by decide))]; rfl); go_simp⟩) hHeld ?_
    try dsimp only
    try simp only [Act.put, List.getElem_toArray, List.getElem_cons_zero, List.getElem_cons_succ, List.setIfInBounds_toArray, List.set_cons_zero, List.set_cons_succ]
    refine wpAnyH_ready (rs := [2]) (by kernel_rfl) (by simp) (AllReadyH.cons rfl (fun K hK => ?_) AllReadyH.nil)
    go_simp
    obtain ⟨v1, hv1⟩ : ∃ v1, v1 = (w0.alloc (.cells #[.int .u8 0] 5)).drew := ⟨_, rfl⟩
    have hb1 : Below w0.heap.size w0 v1 := by rw [hv1]; exact ((Below.refl _ _).alloc (Nat.le_refl _) _).drew
    have HK1 : Hid (KU B w0 v1) := Lib.hid (KU.of hB0 hb1)
    have HO1 := Lib.hid ((H.out.keep HB0.out).keep hb1)
    have HY1 : Hid (ByAt v1 (some ⟨w0.heap.size, 0, none⟩) [0]) := Lib.hid (by rw [hv1]; exact (by_one w0 0 (by decide)).keep (Below.refl _ _).drew)
    try rw [← hv1]
    refine hK.out _ _ (by first | exact HK1.out | (rw [← hv1]; exact HK1.out)) (fun hHeld => ?_)
    clear hK K
    try dsimp only
    try simp only [Act.put, List.getElem_toArray, List.getElem_cons_zero, List.getElem_cons_succ, List.setIfInBounds_toArray, List.set_cons_zero, List.set_cons_succ]
    try rw [← hv1]
    clear hb1 hv1
    refine wpAnyH_ready (rs := [3]) (by kernel_rfl) (by simp) (AllReadyH.cons rfl (fun K hK => ?_) AllReadyH.nil)
    rw [if_pos (by rfl)]
    refine wp_append_by (.tmp 8) (.tmp 10) rfl B A n cap l rfl HO1.out (some ⟨w0.heap.size, 0, none⟩) 1 1 [0] rfl rfl HY1.out (by omega) (Nat.le_trans hB0 HK1.out.below.size) ?_
    intro A2 cap2 v2 ho2 hg2 hr2
    have HO2 := Lib.hid ho2
    have HK2 : Hid (KU B w0 v2) := Lib.hid (HK1.out.trans (KU.kept (Nat.le_trans hB0 HK1.out.below.size) HO1.out ⟨hg2.os, hg2.tape, hg2.output, hg2.size, fun k hk hn => hg2.block k hk (fun e => hn e.symm)⟩))
    clear ho2 hg2 hr2
    refine hK.out _ _ HK2.out (fun hHeld => ?_)
    clear hK K
    try dsimp only
    try simp only [Act.put, List.getElem_toArray, List.getElem_cons_zero, List.getElem_cons_succ, List.setIfInBounds_toArray, List.set_cons_zero, List.set_cons_succ]
    refine wpAnyH_ready (rs := [6]) (by kernel_rfl) (by simp) (AllReadyH.cons rfl (fun K hK => ?_) AllReadyH.nil)
    go_simp
    refine (putU_u B A2 (n + 1) cap2 (l ++ [0]) rev (by have : rev ≤ 1099511627776 := HC.out.rev; omega) _ HO2 (by omega) (Nat.le_trans hB0 HK2.out.below.size)).mono ?_
    rintro e v3 ⟨A3, n3, k3, rfl, ho3, hk3⟩
    have HO3 := Lib.hid ho3; have HK3 := Lib.hid (HK2.out.trans hk3)
    clear ho3 hk3
    refine hK.out _ _ HK3.out (fun hHeld => ?_)
    clear hK K
    try dsimp only
    try simp only [Act.put, List.getElem_toArray, List.getElem_cons_zero, List.getElem_cons_succ, List.setIfInBounds_toArray, List.set_cons_zero, List.set_cons_succ]
    refine wpAnyH_take (i := 7) (v := .slice A3 n3 k3) rfl (by kernel_rfl) (by kernel_rfl) (by kernel_rfl) (fun _ _ _ h => h) (Or.inl ⟨by rfl, fun _ _ => rfl⟩) hHeld ?_
    try dsimp only
    try simp only [Act.put, List.getElem_toArray, List.getElem_cons_zero, List.getElem_cons_succ, List.setIfInBounds_toArray, List.set_cons_zero, List.set_cons_succ]
    refine wpAnyH_done (by kernel_rfl) ?_ _
    clear hHeld HK0 HK1 HK2 HO0 HO1 HO2 HY1 hp0
    have hn3 : n3 ≤ 200011 := by have h1 := HO3.out.len; have h2 := ub10 (show rev < 18446744073709551616 by have : rev ≤ 1099511627776 := HC.out.rev; omega); have h3 := HL.out; simp only [List.length_append, List.length_cons, List.length_nil] at h1; omega
    have c2 : v3.cell? ⟨w.heap.size, 2, none⟩ = some (.string key) := by rw [cell_of_row _ _ _ _ _ _ (HK3.out.rows _ _ _ _ HR0.out (by decide))]; rfl
    go_wp2_with fail
    refine (show Calls Tryd.prog 28 #[.slice A3 n3 k3, .string key] _ _ from by have h := putT_u B A3 n3 k3 _ (byL key) (byL_wf key) (by have := HC.out.key; have : (byL key).length ≤ 32 := this; omega) _ HO3 (by omega) (Nat.le_trans hB0 HK3.out.below.size); rw [strB_byL] at h; exact h).mono ?_
    rintro e v4 ⟨A4, n4, k4, rfl, ho4, hk4⟩
    have HO4 := Lib.hid ho4; have HK4 := Lib.hid (HK3.out.trans hk4)
    have hn4 : n4 ≤ 200053 := by have h1 := ho4.len; have h2 := HO3.out.len; have h3 : (byL key).length ≤ 32 := HC.out.key; have h4 := ub10 (show (byL key).length < 18446744073709551616 by omega); rw [List.length_append, ← h2] at h1; unfold txL at h1; rw [List.length_append] at h1; omega
    clear c2 ho4 hk4
    have c3 : v4.cell? ⟨w.heap.size, 3, none⟩ = some (.int .i64 s) := by rw [cell_of_row _ _ _ _ _ _ (HK4.out.rows _ _ _ _ HR0.out (by decide))]; rfl
    go_wp2_with fail
    refine (putI_u B A4 n4 k4 _ s (Lib.hid HC.out.s) _ HO4 (by omega) (Nat.le_trans hB0 HK4.out.below.size)).mono ?_
    rintro e v5 ⟨A5, n5, k5, rfl, ho5, hk5⟩
    have HO5 := Lib.hid ho5; have HK5 := Lib.hid (HK4.out.trans hk5)
    have hn5 : n5 ≤ 200063 := by have h1 := ho5.len; have h2 := HO4.out.len; have h4 := ub10 (zz_lt (show Wf64 s from HC.out.s)); rw [List.length_append, ← h2] at h1; omega
    clear c3 ho5 hk5
    have c4 : v5.cell? ⟨w.heap.size, 4, none⟩ = some (.int .i64 ee) := by rw [cell_of_row _ _ _ _ _ _ (HK5.out.rows _ _ _ _ HR0.out (by decide))]; rfl
    go_wp2_with fail
    refine (putI_u B A5 n5 k5 _ ee (Lib.hid HC.out.e) _ HO5 (by omega) (Nat.le_trans hB0 HK5.out.below.size)).mono ?_
    rintro e v6 ⟨A6, n6, k6, rfl, ho6, hk6⟩
    have HO6 := Lib.hid ho6; have HK6 := Lib.hid (HK5.out.trans hk6)
    have hn6 : n6 ≤ 200073 := by have h1 := ho6.len; have h2 := HO5.out.len; have h4 := ub10 (zz_lt (show Wf64 ee from HC.out.e)); rw [List.length_append, ← h2] at h1; omega
    have HX6 : Hid (v6.rangeAt w.heap.size 5 [.int .u64 (t.c : Int), .float .f64 t.s, .bool t.o, .float .f64 t.lo, .float .f64 t.hi]) := Lib.hid (fun j x hx => by rw [cell_of_row _ _ _ _ _ _ (HK6.out.rows _ _ _ _ HR0.out (by decide))]; match j, hx with | 0, h => exact h | 1, h => exact h | 2, h => exact h | 3, h => exact h | 4, h => exact h | (i + 5), h => simp at h)
    clear c4 ho6 hk6
    go_wp2_with (refine wpList_load_mid rfl 38 (.tmp 34) rfl w.heap.size 5 rfl [.int .u64 (t.c : Int), .float .f64 t.s, .bool t.o, .float .f64 t.lo, .float .f64 t.hi] _ HX6.out uAgL rfl (by kernel_rfl) ?_)
    refine (layV_any B A6 n6 k6 _ t HC.out.t _ HO6 (by omega) (Nat.le_trans hB0 HK6.out.below.size)).mono ?_
    rintro e v7 ⟨A7, n7, k7, rfl, ho7, hk7, -⟩
    have HO7 := Lib.hid ho7; have HK7 := Lib.hid (HK6.out.trans (KU.kept (Nat.le_trans hB0 HK6.out.below.size) HO6.out hk7))
    clear ho7 hk7
    go_wp2_with fail
    go_ret
    have ho := HO7.out
    have he : ((((l ++ [0] ++ ub rev) ++ txL (byL key)) ++ ub (zz s)) ++ ub (zz ee)) ++ telBy t = l ++ chB ⟨false, rev, ⟨key, s, ee⟩, t⟩ := by
      unfold chB txL
      simp [List.append_assoc]
    rw [he] at ho
    exact ⟨A7, n7, k7, rfl, ho, (HB0.out.mono hB).trans HK7.out.below, Nat.le_trans HB0.out.size HK7.out.below.size⟩
  ·
    obtain ⟨w0, hw0⟩ : ∃ w0, w0 = w.alloc (.cells #[.bool true, .int .u64 (rev : Int), .string key, .int .i64 s, .int .i64 ee, .int .u64 (t.c : Int), .float .f64 t.s, .bool t.o, .float .f64 t.lo, .float .f64 t.hi] 43) := ⟨_, rfl⟩
    have HB0 : Hid (Below w.heap.size w w0) := Lib.hid (by rw [hw0]; exact (Below.refl _ _).alloc (Nat.le_refl _) _)
    have HR0 : Hid (w0.heap[w.heap.size]? = some (.cells #[.bool true, .int .u64 (rev : Int), .string key, .int .i64 s, .int .i64 ee, .int .u64 (t.c : Int), .float .f64 t.s, .bool t.o, .float .f64 t.lo, .float .f64 t.hi] 43 (0, 0))) := Lib.hid (by rw [hw0]; exact heap_alloc_new' w _)
    have HO0 := Lib.hid ((H.out.keep HB0.out).keep (Below.refl w0.heap.size w0).drew)
    have hB0 : B ≤ w0.heap.size := Nat.le_trans hB HB0.out.size
    have HK0 : Hid (KU B w0 w0.drew) := Lib.hid (KU.of hB0 (Below.refl w0.heap.size w0).drew)
    have HZ := Lib.hid hw0
    have hp0 : w0.cell? ⟨w.heap.size, 0, none⟩ = some (.bool true) := by rw [cell_of_row _ _ _ _ _ _ HR0.out]; rfl
    clear hw0
    go_enter Tryd.func15, Tryd.ntmps15
    go_upto_region 4 with fail
    refine wp_region_held_drew (S := fun w' => KU B w0 w') (by kernel_rfl) (by first | exact HK0.out | (rw [← HZ.out]; exact HK0.out)) (fun hHeld => ?_)
    rw [← HZ.out] at hHeld ⊢
    refine wpAnyH_take (i := 0) (v := .slice A n cap) rfl (by kernel_rfl) (by kernel_rfl) (by kernel_rfl) (fun _ _ _ h => h) (Or.inl ⟨by rfl, fun _ _ => rfl⟩) hHeld ?_
    try dsimp only
    try simp only [Act.put, List.getElem_toArray, List.getElem_cons_zero, List.getElem_cons_succ, List.setIfInBounds_toArray, List.set_cons_zero, List.set_cons_succ]
    refine wpAnyH_take (i := 1) (v := .int .u8 1) rfl (by kernel_rfl) (by kernel_rfl) (by kernel_rfl) (fun _ _ _ h => h) (Or.inl ⟨by rfl, fun _ _ => rfl⟩) hHeld ?_
    try dsimp only
    try simp only [Act.put, List.getElem_toArray, List.getElem_cons_zero, List.getElem_cons_succ, List.setIfInBounds_toArray, List.set_cons_zero, List.set_cons_succ]
    refine wpAnyH_take (i := 4) (v := .pointer (some ⟨w.heap.size, 1, none⟩)) rfl (by kernel_rfl) (by kernel_rfl) (by kernel_rfl) (fun _ _ _ h => h) (Or.inl ⟨by rfl, fun w _ => by go_simp⟩) hHeld ?_
    try dsimp only
    try simp only [Act.put, List.getElem_toArray, List.getElem_cons_zero, List.getElem_cons_succ, List.setIfInBounds_toArray, List.set_cons_zero, List.set_cons_succ]
    refine wpAnyH_take (i := 5) (v := .int .u64 (rev : Int)) rfl (by kernel_rfl) (by kernel_rfl) (by kernel_rfl) (fun _ _ _ h => h) (Or.inl ⟨by rfl, fun w' hw' => by have hc : w'.cell? ⟨w.heap.size, 1, none⟩ = some (.int .u64 (rev : Int)) := (by rw [cell_of_row _ _ _ _ _ _ (hw'.rows _ _ _ _ HR0.out (by decide))]; rfl); go_simp⟩) hHeld ?_
    try dsimp only
    try simp only [Act.put, List.getElem_toArray, List.getElem_cons_zero, List.getElem_cons_succ, List.setIfInBounds_toArray, List.set_cons_zero, List.set_cons_succ]
    refine wpAnyH_ready (rs := [2]) (by kernel_rfl) (by simp) (AllReadyH.cons rfl (fun K hK => ?_) AllReadyH.nil)
    go_simp
    obtain ⟨v1, hv1⟩ : ∃ v1, v1 = (w0.alloc (.cells #[.int .u8 1] 5)).drew := ⟨_, rfl⟩
    have hb1 : Below w0.heap.size w0 v1 := by rw [hv1]; exact ((Below.refl _ _).alloc (Nat.le_refl _) _).drew
    have HK1 : Hid (KU B w0 v1) := Lib.hid (KU.of hB0 hb1)
    have HO1 := Lib.hid ((H.out.keep HB0.out).keep hb1)
    have HY1 : Hid (ByAt v1 (some ⟨w0.heap.size, 0, none⟩) [1]) := Lib.hid (by rw [hv1]; exact (by_one w0 1 (by decide)).keep (Below.refl _ _).drew)
    try rw [← hv1]
    refine hK.out _ _ (by first | exact HK1.out | (rw [← hv1]; exact HK1.out)) (fun hHeld => ?_)
    clear hK K
    try dsimp only
    try simp only [Act.put, List.getElem_toArray, List.getElem_cons_zero, List.getElem_cons_succ, List.setIfInBounds_toArray, List.set_cons_zero, List.set_cons_succ]
    try rw [← hv1]
    clear hb1 hv1
    refine wpAnyH_ready (rs := [3]) (by kernel_rfl) (by simp) (AllReadyH.cons rfl (fun K hK => ?_) AllReadyH.nil)
    rw [if_pos (by rfl)]
    refine wp_append_by (.tmp 8) (.tmp 10) rfl B A n cap l rfl HO1.out (some ⟨w0.heap.size, 0, none⟩) 1 1 [1] rfl rfl HY1.out (by omega) (Nat.le_trans hB0 HK1.out.below.size) ?_
    intro A2 cap2 v2 ho2 hg2 hr2
    have HO2 := Lib.hid ho2
    have HK2 : Hid (KU B w0 v2) := Lib.hid (HK1.out.trans (KU.kept (Nat.le_trans hB0 HK1.out.below.size) HO1.out ⟨hg2.os, hg2.tape, hg2.output, hg2.size, fun k hk hn => hg2.block k hk (fun e => hn e.symm)⟩))
    clear ho2 hg2 hr2
    refine hK.out _ _ HK2.out (fun hHeld => ?_)
    clear hK K
    try dsimp only
    try simp only [Act.put, List.getElem_toArray, List.getElem_cons_zero, List.getElem_cons_succ, List.setIfInBounds_toArray, List.set_cons_zero, List.set_cons_succ]
    refine wpAnyH_ready (rs := [6]) (by kernel_rfl) (by simp) (AllReadyH.cons rfl (fun K hK => ?_) AllReadyH.nil)
    go_simp
    refine (putU_u B A2 (n + 1) cap2 (l ++ [1]) rev (by have : rev ≤ 1099511627776 := HC.out.rev; omega) _ HO2 (by omega) (Nat.le_trans hB0 HK2.out.below.size)).mono ?_
    rintro e v3 ⟨A3, n3, k3, rfl, ho3, hk3⟩
    have HO3 := Lib.hid ho3; have HK3 := Lib.hid (HK2.out.trans hk3)
    clear ho3 hk3
    refine hK.out _ _ HK3.out (fun hHeld => ?_)
    clear hK K
    try dsimp only
    try simp only [Act.put, List.getElem_toArray, List.getElem_cons_zero, List.getElem_cons_succ, List.setIfInBounds_toArray, List.set_cons_zero, List.set_cons_succ]
    refine wpAnyH_take (i := 7) (v := .slice A3 n3 k3) rfl (by kernel_rfl) (by kernel_rfl) (by kernel_rfl) (fun _ _ _ h => h) (Or.inl ⟨by rfl, fun _ _ => rfl⟩) hHeld ?_
    try dsimp only
    try simp only [Act.put, List.getElem_toArray, List.getElem_cons_zero, List.getElem_cons_succ, List.setIfInBounds_toArray, List.set_cons_zero, List.set_cons_succ]
    refine wpAnyH_done (by kernel_rfl) ?_ _
    clear hHeld HK0 HK1 HK2 HO0 HO1 HO2 HY1 hp0
    have hn3 : n3 ≤ 200011 := by have h1 := HO3.out.len; have h2 := ub10 (show rev < 18446744073709551616 by have : rev ≤ 1099511627776 := HC.out.rev; omega); have h3 := HL.out; simp only [List.length_append, List.length_cons, List.length_nil] at h1; omega
    have c2 : v3.cell? ⟨w.heap.size, 2, none⟩ = some (.string key) := by rw [cell_of_row _ _ _ _ _ _ (HK3.out.rows _ _ _ _ HR0.out (by decide))]; rfl
    go_wp2_with fail
    refine (show Calls Tryd.prog 28 #[.slice A3 n3 k3, .string key] _ _ from by have h := putT_u B A3 n3 k3 _ (byL key) (byL_wf key) (by have := HC.out.key; have : (byL key).length ≤ 32 := this; omega) _ HO3 (by omega) (Nat.le_trans hB0 HK3.out.below.size); rw [strB_byL] at h; exact h).mono ?_
    rintro e v4 ⟨A4, n4, k4, rfl, ho4, hk4⟩
    have HO4 := Lib.hid ho4; have HK4 := Lib.hid (HK3.out.trans hk4)
    have hn4 : n4 ≤ 200053 := by have h1 := ho4.len; have h2 := HO3.out.len; have h3 : (byL key).length ≤ 32 := HC.out.key; have h4 := ub10 (show (byL key).length < 18446744073709551616 by omega); rw [List.length_append, ← h2] at h1; unfold txL at h1; rw [List.length_append] at h1; omega
    clear c2 ho4 hk4
    have c3 : v4.cell? ⟨w.heap.size, 3, none⟩ = some (.int .i64 s) := by rw [cell_of_row _ _ _ _ _ _ (HK4.out.rows _ _ _ _ HR0.out (by decide))]; rfl
    go_wp2_with fail
    refine (putI_u B A4 n4 k4 _ s (Lib.hid HC.out.s) _ HO4 (by omega) (Nat.le_trans hB0 HK4.out.below.size)).mono ?_
    rintro e v5 ⟨A5, n5, k5, rfl, ho5, hk5⟩
    have HO5 := Lib.hid ho5; have HK5 := Lib.hid (HK4.out.trans hk5)
    have hn5 : n5 ≤ 200063 := by have h1 := ho5.len; have h2 := HO4.out.len; have h4 := ub10 (zz_lt (show Wf64 s from HC.out.s)); rw [List.length_append, ← h2] at h1; omega
    clear c3 ho5 hk5
    have c4 : v5.cell? ⟨w.heap.size, 4, none⟩ = some (.int .i64 ee) := by rw [cell_of_row _ _ _ _ _ _ (HK5.out.rows _ _ _ _ HR0.out (by decide))]; rfl
    go_wp2_with fail
    refine (putI_u B A5 n5 k5 _ ee (Lib.hid HC.out.e) _ HO5 (by omega) (Nat.le_trans hB0 HK5.out.below.size)).mono ?_
    rintro e v6 ⟨A6, n6, k6, rfl, ho6, hk6⟩
    have HO6 := Lib.hid ho6; have HK6 := Lib.hid (HK5.out.trans hk6)
    have hn6 : n6 ≤ 200073 := by have h1 := ho6.len; have h2 := HO5.out.len; have h4 := ub10 (zz_lt (show Wf64 ee from HC.out.e)); rw [List.length_append, ← h2] at h1; omega
    have HX6 : Hid (v6.rangeAt w.heap.size 5 [.int .u64 (t.c : Int), .float .f64 t.s, .bool t.o, .float .f64 t.lo, .float .f64 t.hi]) := Lib.hid (fun j x hx => by rw [cell_of_row _ _ _ _ _ _ (HK6.out.rows _ _ _ _ HR0.out (by decide))]; match j, hx with | 0, h => exact h | 1, h => exact h | 2, h => exact h | 3, h => exact h | 4, h => exact h | (i + 5), h => simp at h)
    clear c4 ho6 hk6
    go_wp2_with (refine wpList_load_mid rfl 38 (.tmp 34) rfl w.heap.size 5 rfl [.int .u64 (t.c : Int), .float .f64 t.s, .bool t.o, .float .f64 t.lo, .float .f64 t.hi] _ HX6.out uAgL rfl (by kernel_rfl) ?_)
    refine (layV_any B A6 n6 k6 _ t HC.out.t _ HO6 (by omega) (Nat.le_trans hB0 HK6.out.below.size)).mono ?_
    rintro e v7 ⟨A7, n7, k7, rfl, ho7, hk7, -⟩
    have HO7 := Lib.hid ho7; have HK7 := Lib.hid (HK6.out.trans (KU.kept (Nat.le_trans hB0 HK6.out.below.size) HO6.out hk7))
    clear ho7 hk7
    go_wp2_with fail
    go_ret
    have ho := HO7.out
    have he : ((((l ++ [1] ++ ub rev) ++ txL (byL key)) ++ ub (zz s)) ++ ub (zz ee)) ++ telBy t = l ++ chB ⟨true, rev, ⟨key, s, ee⟩, t⟩ := by
      unfold chB txL
      simp [List.append_assoc]
    rw [he] at ho
    exact ⟨A7, n7, k7, rfl, ho, (HB0.out.mono hB).trans HK7.out.below, Nat.le_trans HB0.out.size HK7.out.below.size⟩
end Go.Proofs.YtbimfopbilcdgaaDoor
