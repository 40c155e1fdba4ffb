/-
  Layer segment: page.Lay, of which all blocks but the list's own are kept.
-/
import Derived.Lib.AppendZerosOnto
import Derived.Deep.RegionLaw
import Derived.Lib.SliceRun
import Derived.Laws.CopyOwn
import Derived.Test.YtifabkbdiiolfaaDoorYgK
import Derived.Test.YtifabkbdiiolfaaDoorGyK
set_option linter.unusedSimpArgs false
set_option linter.unusedVariables false
set_option maxRecDepth 8000
namespace Go.Proofs.YtifabkbdiiolfaaDoor
open Go.RowKit
theorem kept_setRow {S : Nat → Prop} {w0 w : World} {g : Nat} (h : Kept S w0 w) (hg : S g ∨ w0.heap.size ≤ g) (cs : Array Value) : Kept S w0 (w.setRow g cs) :=
 h.trans' (S' := fun j => j = g) ⟨rfl, rfl, rfl, by simp [World.setRow], fun k hk hn => setRow_other w g k cs hn⟩ (fun k hk => by subst hk; exact hg)
theorem wpList_copy_spliceJ {P : Program} {w : World} {ops : Array Oper} {rest : List Oper} {o : Oper} {a : Act} {Q : Exit → Act → World → Prop} (hgd : o.guard = none) (d s : Operand) (dT sT : TypeId)
  (ho : o.op = .call { callee := .builtin .copy, args := #[d, s], argTypes := #[dT, sT] }) (elem : TypeId) (hu : P.underlying dT = some (.slice elem)) (hsz : (P.info? elem).map (·.size) = some 1)
  (dp sp : Option Addr) (dLen dCap sLen sCap : Nat) (hd : a.eval d = .slice dp dLen dCap) (hs : a.eval s = .slice sp sLen sCap)
  (g off : Nat) (cur : List Value) (t : TypeId) (hg : w.heap[g]? = some (.cells cur.toArray t (0, 0))) (cs : List Value) (hn : cs.length = Nat.min sLen dLen)
  (hpos : 0 < cs.length → dp = some ⟨g, off, none⟩ ∧ ∃ ad, sp = some ad ∧ ∀ j v, cs[j]? = some v → w.cell? (ad.add j) = some v)
  (hfit : off + cs.length ≤ cur.length) (h1 : ∀ v ∈ cs, v.oneCell' = true) (J : World → Prop) (hJ : J w ∧ ∀ cs', J (w.setRow g cs'))
  (h : ∀ w', Hid (w'.heap[g]? = some (.cells (splice cur off cs).toArray t (0, 0))) → J w' → wpList P ops Q rest (a.put o.dst (goInt cs.length)) w') :
  wpList P ops Q (o :: rest) a w := by
 by_cases h0 : cs.length = 0
 ·obtain rfl : cs = [] := List.eq_nil_of_length_eq_zero h0
  refine wpList_copy_nothing hgd d s dT sT ho elem hu hsz dp sp dLen dCap sLen sCap hd hs (by simpa using hn.symm) ?_
  exact h w (show _ = _ by simpa [splice] using hg) hJ.1
 ·obtain ⟨rfl, ad, rfl, hsrc⟩ := hpos (by omega)
  refine wpList_copy_own hgd d s dT sT ho elem hu hsz g off dLen dCap ad sLen sCap hd hs cur.toArray t hg cs hn hsrc (by simpa using hfit) h1 ?_
  exact h _ (show _ = _ by simpa [splice] using setRow_heap w g _ _ t _ hg) (hJ.2 _)
theorem step_copy_spliceJ {P : Program} {ops : Array Oper} {o : Oper} {a : Act} {w : World} {K : Act → World → Prop} {Q : Exit → Act → World → Prop} {E : Prop} (hgd : o.guard = none) (d s : Operand) (dT sT : TypeId)
  (ho : o.op = .call { callee := .builtin .copy, args := #[d, s], argTypes := #[dT, sT] }) (elem : TypeId) (hu : P.underlying dT = some (.slice elem)) (hsz : (P.info? elem).map (·.size) = some 1)
  (dp sp : Option Addr) (dLen dCap sLen sCap : Nat) (hd : a.eval d = .slice dp dLen dCap) (hs : a.eval s = .slice sp sLen sCap)
  (g off : Nat) (cur : List Value) (t : TypeId) (hg : w.heap[g]? = some (.cells cur.toArray t (0, 0))) (cs : List Value) (hn : cs.length = Nat.min sLen dLen)
  (hpos : 0 < cs.length → dp = some ⟨g, off, none⟩ ∧ ∃ ad, sp = some ad ∧ ∀ j v, cs[j]? = some v → w.cell? (ad.add j) = some v)
  (hfit : off + cs.length ≤ cur.length) (h1 : ∀ v ∈ cs, v.oneCell' = true) (J : World → Prop) (hJ : J w ∧ ∀ cs', J (w.setRow g cs'))
  (h : ∀ w', RowKit.Hid (w'.heap[g]? = some (.cells (splice cur off cs).toArray t (0, 0))) → J w' → K (a.put o.dst (goInt cs.length)) w') :
  if Region.wanted o (yielded ops a.tmps) = true then Oper.wp P o a w K Q else E := by
 have hw : Region.wanted o (yielded ops a.tmps) = true := by simp [Region.wanted, hgd]
 rw [if_pos hw]
 by_cases h0 : cs.length = 0
 ·obtain rfl : cs = [] := List.eq_nil_of_length_eq_zero h0
  have hrun := run_copy_none (P := P) w dT sT o.type elem dp sp dLen dCap sLen sCap hu hsz (by simpa using hn.symm)
  unfold Oper.wp
  simp [execOp, ho, resolve, invoke, builtin, hd, hs, hrun, Result.andThen]
  exact h w (show _ = _ by simpa [splice] using hg) hJ.1
 ·obtain ⟨rfl, ad, rfl, hsrc⟩ := hpos (by omega)
  have hrun := run_copy_row (P := P) w dT sT o.type elem g off dLen dCap ad sLen sCap cur.toArray t cs hu hsz hg hn hsrc (by simpa using hfit) h1
  unfold Oper.wp
  simp [execOp, ho, resolve, invoke, builtin, hd, hs, hrun, Result.andThen]
  exact h _ (show _ = _ by simpa [splice] using setRow_heap w g _ _ t _ hg) (hJ.2 _)
/-- What Grow returns: its row is the list's own, or new. -/
def RetGK (w : World) (B : Nat) (A : Option Addr) (n m : Nat) (l : List Nat) (e : Ending) (w' : World) : Prop := ∃ g cap cs, e = .returned (.slice (some ⟨g, 0, none⟩) n cap) ∧ Roomy w' B g n cap cs l ∧ n + m ≤ cap ∧ Below w.heap.size w w' ∧ (MineK A g ∨ w.heap.size ≤ g)
theorem growK_any (A : Option Addr) (n cap : Nat) (l : List Nat) (m : Nat) (B : Nat) (w : World) (HO : Hid (OwnS w B A n cap l)) (hm : 0 < m) (hbig : n + m ≤ 140737488355328) (hB : B ≤ w.heap.size) :
  Calls Tryd.prog 35 #[.slice A n cap, .int .i64 (m : Int)] w (RetGK w B A n m l) := by
 obtain ⟨hc1, hc2⟩ := HO.out.caps
 have hlen := HO.out.len
 unfold maxLen at hc2
 by_cases hr : n + m ≤ cap
 ·refine (grow_room A n cap m w hc1 (by omega) hr).mono ?_
  rintro e w' ⟨rfl, rfl⟩
  rcases HO.out.1.2 with ⟨h1, h2⟩ | ⟨g, cap', cur, h1, hb, hrow, -, -, hs, ht⟩
  ·cases h1; omega
  ·cases h1
   exact ⟨g, cap, cur.toList, rfl, ⟨hrow, by rw [Array.length_toList, hs, Nat.mul_one], by unfold maxLen; omega, by rw [← ht, Nat.mul_one], hb, HO.out.2⟩, hr, Below.refl _ _, .inl rfl⟩
 ·obtain ⟨W', G, cs', hrz, F, hG, hb⟩ := grow_run A n cap l m B w HO.out (by omega) hbig hB
  have hGm := F.cap
  unfold maxLen at hGm
  refine (grow_more A n cap m w W' w.heap.size G hc1 (by omega) (by omega) hbig hG (by omega) (fun hA => ?_) hrz).mono ?_
  ·subst hA
   rcases HO.out.1.2 with ⟨h1, h2⟩ | ⟨g, cap', cur, h1, _⟩
   ·cases h1; rfl
   ·cases h1
  ·rintro e w' ⟨rfl, rfl⟩
   exact ⟨_, _, _, rfl, F, hG, hb, .inr (Nat.le_refl _)⟩
/-- What Lay returns. -/
def RetLK (w : World) (B : Nat) (A : Option Addr) (n : Nat) (l : List Nat) (e : Ending) (w' : World) : Prop := ∃ A' cap, e = .returned (.slice A' n cap) ∧ OwnS w' B A' n cap l ∧ Kept (MineK A) w w' ∧ (∀ k, MineK A' k → MineK A k ∨ w.heap.size ≤ k)
set_option maxHeartbeats 4000000 in
theorem layK_core (n m c cap0 : Nat) (A : Option Addr) (l : List Nat) (kind : Nat) (b : Option Addr) (body : List Nat) (B : Nat) (w : World) (HGr : Hid (Calls Tryd.prog 35 #[.slice A n cap0, .int .i64 ((5 + m + 4 : Nat) : Int)] w (RetGK w B A n (5 + m + 4) l)))
  (hn : Hid (n = l.length)) (hm : Hid (m = body.length)) (hsmall : n + m ≤ 1000000) (hk : kind < 256) (HB : Hid (ByAt w b body)) (HG : Hid (HalvesAt w)) (hBw : B ≤ w.heap.size) (hGB : 0 < B) :
  Calls Tryd.prog 13 #[.slice A n cap0, .int .u8 (kind : Int), .slice b m c] w (RetLK w B A (n + 5 + m + 4) (l ++ Pg.lay kind body)) := by
 have HN5 : Hid ((5 : Int) + (m : Int) + 4 = ((5 + m + 4 : Nat) : Int)) := Lib.hid (by omega)
 go_enter Tryd.func13, Tryd.ntmps13
 go_wp2_with (first | (go_at_call 35; rw [HN5.out]; refine HGr.out.mono ?_; rintro e w1 ⟨g, cap, cs, rfl, hR, hcap, hb, hg⟩; have HR := Lib.hid hR; have HB1 := Lib.hid hb; have HGA := Lib.hid hg; clear hR hb hg; have r1 : ∀ w, (Instr.slice 24 (.slice (some ⟨g, 0, none⟩) n cap) none (some (.int .i64 ((n : Int) + 5 + (m : Int)))) none).run Tryd.prog w = .ok (.slice (some ⟨g, 0, none⟩) (n + 5 + m) cap) w := row_to g n cap (n + 5 + m) (by omega); have r2 : ∀ w, (Instr.slice 24 (.slice (some ⟨g, 0, none⟩) (n + 5 + m) cap) (some (.int .i64 ((n : Int) + 5))) none none).run Tryd.prog w = .ok (.slice (some ⟨g, n + 5, none⟩) m (cap - (n + 5))) w := row_from' g (n + 5 + m) cap (n + 5) m (by omega) (by omega); have r3 : ∀ w, (Instr.slice 24 (.slice (some ⟨g, 0, none⟩) (n + 5 + m) cap) (some (.int .i64 (n : Int))) none none).run Tryd.prog w = .ok (.slice (some ⟨g, n, none⟩) (5 + m) (cap - n)) w := row_from' g (n + 5 + m) cap n (5 + m) (by omega) (by omega)) | (refine wpList_copy_spliceJ rfl (.tmp 25) (.tmp 26) 24 24 rfl 5 Tryd.underlying24 sizeU8 (some ⟨g, n + 5, none⟩) b m (cap - (n + 5)) m c rfl rfl g (n + 5) cs 5 HR.out.row (bys body) ?q1 ?q2 ?q3 (bys_one body) (Kept (fun j => j = g) w) ?q4 ?_; (case q1 => exact (by rw [bys_length, ← hm.out]; exact (Nat.min_self m).symm)); (case q2 => exact fun _ => copy_src rfl HB HB1.out ‹_›); (case q3 => exact HR.out.splice1 hm.out hcap); (case q4 => exact ⟨Kept.of_below HB1.out, fun cs => kept_setRow (S := fun j => j = g) (g := g) (Kept.of_below HB1.out) (Or.inl rfl) cs⟩); intro w2 HR2 hb2; have HB2 := Lib.hid hb2; clear hb2))
 have hm32 : m < 4294967296 := by omega
 have hl2 : (splice cs (n + 5) (bys body)).length = cap := by rw [splice_len _ _ _ (HR.out.splice1 hm.out hcap), HR.out.size]
 have hfit : n + (bys (Pg.four m)).length ≤ (splice cs (n + 5) (bys body)).length := by rw [hl2, show (bys (Pg.four m)).length = 4 from rfl]; omega
 have HL2 := Lib.hid hl2
 have HF := Lib.hid hfit
 clear hl2 hfit
 refine wp_region_any (by kernel_rfl) ?_
 try (change wpAny _ _ _ _ _ _ _ (World.drew _))
 refine wpAny_take (i := 0) (v := .slice (some ⟨g, 0, none⟩) (n + 5 + m) cap) rfl (by kernel_rfl) (by kernel_rfl) (by kernel_rfl) (fun _ _ _ h => h) (Or.inl ⟨by rfl, fun _ => rfl⟩) ?_
 try dsimp only
 try simp only [Act.put, List.setIfInBounds_toArray, List.set_cons_zero, List.set_cons_succ]
 refine wpAny_take (i := 1) (v := .int .i64 (n : Int)) rfl (by kernel_rfl) (by kernel_rfl) (by kernel_rfl) (fun _ _ _ h => h) (Or.inl ⟨by rfl, fun _ => rfl⟩) ?_
 try dsimp only
 try simp only [Act.put, List.setIfInBounds_toArray, List.set_cons_zero, List.set_cons_succ]
 refine wpAny_take (i := 2) (v := .slice (some ⟨g, n, none⟩) (5 + m) (cap - n)) rfl (by kernel_rfl) (by kernel_rfl) (by kernel_rfl) (fun _ _ _ h => h) (Or.inl ⟨by rfl, fun w => ?_⟩) ?_
 ·go_simp
 try dsimp only
 try simp only [Act.put, List.setIfInBounds_toArray, List.set_cons_zero, List.set_cons_succ]
 refine wpAny_take (i := 3) (v := .slice b m c) rfl (by kernel_rfl) (by kernel_rfl) (by kernel_rfl) (fun _ _ _ h => h) (Or.inl ⟨by rfl, fun _ => rfl⟩) ?_
 try dsimp only
 try simp only [Act.put, List.setIfInBounds_toArray, List.set_cons_zero, List.set_cons_succ]
 refine wpAny_take (i := 4) (v := .int .i64 (m : Int)) rfl (by kernel_rfl) (by kernel_rfl) (by kernel_rfl) (fun _ _ _ h => h) (Or.inl ⟨by rfl, fun w => ?_⟩) ?_
 ·go_simp
 try dsimp only
 try simp only [Act.put, List.setIfInBounds_toArray, List.set_cons_zero, List.set_cons_succ]
 refine wpAny_take (i := 5) (v := .int .u32 (m : Int)) rfl (by kernel_rfl) (by kernel_rfl) (by kernel_rfl) (fun _ _ _ h => h) (Or.inl ⟨by rfl, fun w => ?_⟩) ?_
 ·go_simp
  rw [IntKind.wrap_u32']; omega
 try dsimp only
 try simp only [Act.put, List.setIfInBounds_toArray, List.set_cons_zero, List.set_cons_succ]
 refine wpAny_ready (rs := [6]) (by kernel_rfl) (by simp) (AllReady.cons rfl (fun K hK => ?_) AllReady.nil)
 go_simp
 refine (word_any m hm32 _).mono ?_
 rintro e w3 ⟨rfl, rfl⟩
 refine hK _ _ ?_
 clear hK K
 try dsimp only
 try simp only [Act.put, List.setIfInBounds_toArray, List.set_cons_zero, List.set_cons_succ]
 refine wpAny_ready (rs := [7]) (by kernel_rfl) (by simp) (AllReady.cons rfl (fun K hK => ?_) AllReady.nil)
 refine step_copy_spliceJ ?g0 (.tmp 30) (.tmp 34) 24 24 ?g1 5 Tryd.underlying24 sizeU8 (some ⟨g, n, none⟩) (some ⟨w2.heap.size, 0, none⟩) (5 + m) (cap - n) 4 4 ?g2 ?g3 g n (splice cs (n + 5) (bys body)) 5 ?g4 (bys (Pg.four m)) ?g5 ?g6 HF.out (bys_one _) (Kept (fun j => j = g) w) ?g7 ?g8
 case g0 => rfl
 case g1 => rfl
 case g2 => rfl
 case g3 => rfl
 case g4 => exact row_new HR2
 case g5 => exact four_min m
 case g6 => exact fun _ => ⟨rfl, _, rfl, by_word' m⟩
 case g7 => exact ⟨(HB2.out.alloc _).drew, fun cs => kept_setRow (S := fun j => j = g) (g := g) (HB2.out.alloc _).drew (Or.inl rfl) cs⟩
 case g8 =>
  intro w4 HR4 hb4
  refine hK _ _ ?_
  clear hK K
  refine wpAny_done (by kernel_rfl) ?_ _
  have HB4 := Lib.hid hb4
  clear hb4
  have hl4 : (splice (splice cs (n + 5) (bys body)) n (bys (Pg.four m))).length = cap := by rw [splice_len _ _ _ HF.out, HL2.out]
  have hi4 : n + 4 < (splice (splice cs (n + 5) (bys body)) n (bys (Pg.four m))).length := by rw [hl4]; omega
  have hc4 := row_cell HR4.out (n + 4) hi4
  have hf4 := row_frozen HR4.out (n + 4)
  have HR5 := Lib.hid (row_set HR4.out (n + 4) (bv kind))
  have hfl := Pg.front_lt kind body hk HB.out.lt
  have HO5 : Hid (OwnS (w4.setCell ⟨g, n + 4, none⟩ (.int .u8 (kind : Int))) B (some ⟨g, 0, none⟩) (n + 5 + m) cap (l ++ Pg.front kind body)) := Lib.hid
   (OwnS.of_row (cs := (splice (splice cs (n + 5) (bys body)) n (bys (Pg.four m))).set (n + 4) (bv kind)) HR5.out (by rw [List.length_set, hl4]) HR.out.cap (by rw [List.length_append, Pg.front_len, ← hn.out, ← hm.out]; omega)
    (lay_row cs l n m kind body HR.out.first hn.out hm.out (by rw [HR.out.size]; omega)) HR.out.base (fun x hx => (List.mem_append.1 hx).elim (HR.out.lt x) (hfl x)))
  have HA5 := Lib.hid (HO5.out.byAt.shift hn.out)
  have HK5 : Hid (Kept (fun j => j = g) w (w4.setCell ⟨g, n + 4, none⟩ (.int .u8 (kind : Int)))) := Lib.hid (HB4.out.setCell _ _ (.inl rfl))
  have HB5 : Hid (Below B w (w4.setCell ⟨g, n + 4, none⟩ (.int .u8 (kind : Int)))) := Lib.hid (HK5.out.below hBw fun k hk => by have := HR.out.base; omega)
  have HG5 : Hid (HalvesAt (w4.setCell ⟨g, n + 4, none⟩ (.int .u8 (kind : Int)))) := Lib.hid (HG.out.keepB HB5.out hGB)
  have hs32 : Pg.sum (Pg.front kind body) < 4294967296 := Pg.sum_lt hfl
  have hlf : Hid (5 + m = (Pg.front kind body).length) := Lib.hid (by rw [Pg.front_len, hm.out])
  generalize (splice (splice cs (n + 5) (bys body)) n (bys (Pg.four m))) = cs4 at *
  clear hl4 hfl
  generalize cs4[n + 4] = x4 at *
  have HS5 : Hid (B ≤ (w4.setCell ⟨g, n + 4, none⟩ (.int .u8 (kind : Int))).heap.size) := Lib.hid (Nat.le_trans hBw HB5.out.size)
  go_wp2_with (first | (go_at_call 37; refine (sum_any _ _ _ _ hlf (by unfold maxLen; omega) _ HA5 HG5).mono ?_; rintro e w6 ⟨rfl, rfl⟩) | (go_at_call 36; refine (word_any _ hs32 _).mono ?_; rintro e w6 ⟨rfl, rfl⟩) | (at_builtin; refine wpList_append_by rfl (.tmp 41) (.tmp 46) rfl B (some ⟨g, 0, none⟩) (n + 5 + m) cap (l ++ Pg.front kind body) rfl (HO5.out.keep ((Below.refl _ _).alloc (Nat.le_refl _) _)) (some ⟨w4.heap.size, 0, none⟩) 4 4 (Pg.four (Pg.sum (Pg.front kind body))) rfl rfl (by_four_set _ _ _ _) (by omega) (by_size HS5) ?_; intro A' cap' w7 hO hG hL))
  go_ret
  refine ⟨A', cap', ?_, ?_, ?_, ?_⟩
  ·exact ret_eqP rfl
  ·rw [List.append_assoc] at hO; exact hO
  ·refine ((HK5.out.alloc _).trans' (S' := fun j => j = g) ⟨hG.os, hG.tape, hG.output, hG.size, fun k hk hn => hG.block k hk (fun e => hn (by simpa using e))⟩ (fun k hk => .inl hk)).mono (fun k hk => ?_)
   subst hk
   exact HGA.out
  ·intro k hk
   have hk2 : A'.map (·.block) = some k := hk
   rcases hL with h | h
   ·rw [h] at hk2
    have hk3 : k = g := by simpa using hk2.symm
    subst hk3
    exact HGA.out
   ·rw [h] at hk2
    injection hk2 with hk2
    have := HK5.out.size
    simp at hk2
    simp at this
    exact .inr (by omega)
/-- Lay: behind bytes of the call's own. -/
theorem layK_any (A : Option Addr) (n cap0 : Nat) (l : List Nat) (kind : Nat) (b : Option Addr) (m c : Nat) (body : List Nat) (B : Nat) (w : World) (HO : Hid (OwnS w B A n cap0 l)) (hm : Hid (m = body.length)) (hsmall : n + m ≤ 1000000) (hk : kind < 256)
  (HB : Hid (ByAt w b body)) (HG : Hid (HalvesAt w)) (hBw : B ≤ w.heap.size) (hGB : 0 < B) :
  Calls Tryd.prog 13 #[.slice A n cap0, .int .u8 (kind : Int), .slice b m c] w (RetLK w B A (n + 5 + m + 4) (l ++ Pg.lay kind body)) :=
 layK_core n m c cap0 A l kind b body B w (Lib.hid (growK_any A n cap0 l (5 + m + 4) B w HO (by omega) (by omega) hBw)) (Lib.hid HO.out.len) hm hsmall hk HB HG hBw hGB
end Go.Proofs.YtifabkbdiiolfaaDoor
