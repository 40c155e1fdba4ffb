/-
  Layer event: Sort at any length, of no slice too; SameAll of one list twice.
-/
import Derived.Test.YtbimfopbilcdgaaQZy9
import Derived.Test.YtbimfopbilcdgaaQZy6
import Derived.Laws.AppendOwnNone
import Derived.Laws.OwnMore
import Derived.Maps.AppendAt
import Derived.OwnWalk
import Derived.OwnWalkIn
import Derived.Test.YtbimfopbilcdgaaQZy7
import Derived.Test.YtbimfopbilcdgaaQZy2
import Derived.Laws.StructEq
set_option linter.unusedSimpArgs false
set_option linter.unusedVariables false
namespace Go.Proofs.Ytbimfopbilcdgaa
open Go.RowKit Go.Sort

set_option maxHeartbeats 1000000 in
theorem sortStable_any (blk cap N : Nat) (l : List Ev) (w : World) (hb : blk < w.heap.size) (hH : HoldsK Ev.cells 5 w blk 0 l.toArray) (hN : N = l.length) (hsz : N ≤ 1000000) :
    Calls Try.prog 102 #[.slice (some ⟨blk, 0, none⟩) N cap, .func (.func 103) #[] #[]] w fun e w' => e = .returned (.tuple #[]) ∧ SortW w blk (isort ltE l).toArray w' := by
  have HI := Lib.hid (stable_any blk cap N l w w (Lib.hid ⟨l, hN.symm, ⟨cells_len, cells_one, hH, hb⟩⟩) hN.symm (Lib.hid (SWK.start hH)) hsz)
  clear hH hN hb
  go_enter Try.func102, Try.ntmps102
  go_wp2_with (go_at_call 129; refine HI.out.mono ?_; rintro e w' ⟨rfl, hs⟩; have HS := Lib.hid hs; clear hs)
  go_end0
  exact ⟨rfl, HS.out⟩
set_option maxHeartbeats 1000000 in
theorem sort_any (g off n c : Nat) (l : List Ev) (hn : Hid (n = l.length)) (h60 : n ≤ 1000) (w : World) (HA : Hid (EvAt w (some ⟨g, off, none⟩) l)) :
    Calls Try.prog 75 #[.slice (some ⟨g, off, none⟩) n c] w (RetE w n (isort ltE l)) := by
  have HC := Lib.hid (clone_some g off n c l hn.out h60 w HA)
  go_enter Try.func75, Try.ntmps75
  go_upto_region 2 with (go_at_call 101; refine HC.out.mono ?_; rintro e w1 ⟨v', rfl, ho, hv, hb⟩; obtain ⟨g1, cap, rfl, hg1, hg2, hl, hH⟩ := holds_own ho hv; have HO := Lib.hid ho; have HB := Lib.hid hb; have HL := Lib.hid hl; have HHH := Lib.hid hH; clear ho hv hb hl hH)
  have HS := Lib.hid (sortStable_any g1 cap n l w1 hg2 HHH.out HL.out (by omega))
  go_wp2_with (go_at_call 102; refine HS.out.mono ?_; rintro e w2 ⟨rfl, hs⟩; have HR := Lib.hid hs; clear hs)
  go_ret
  obtain ⟨q, os, rfl⟩ := HR.out
  exact ⟨g1, cap, rfl, own_put (q := q) HO.out (isort_len l) os, below_sortW HB.out (HB.out.size) hg1⟩
set_option maxHeartbeats 1000000 in
theorem ins_none (w : World) : Calls Try.prog 148 #[.slice none 0 0, .int .i64 0, .int .i64 0, .func (.func 103) #[] #[]] w fun e w' => e = .returned (.tuple #[]) ∧ w = w' := by
  go_enter Try.func148, Try.ntmps148
  go_wp2
  refine wp_loop_rounds 1 ?_
  rw [rounds_succ]
  go_wp2
  go_end0
  exact ⟨rfl, rfl⟩
set_option maxHeartbeats 1000000 in
theorem stable_none (w : World) : Calls Try.prog 129 #[.slice none 0 0, .int .i64 0, .func (.func 103) #[] #[]] w fun e w' => e = .returned (.tuple #[]) ∧ w = w' := by
  go_enter Try.func129, Try.ntmps129
  go_wp2
  refine wp_loop_rounds 1 ?_
  rw [rounds_succ]
  go_wp2_with (go_at_call 148; refine (ins_none _).mono ?_; rintro e w' ⟨rfl, rfl⟩)
  refine wp_loop_rounds 1 ?_
  rw [rounds_succ]
  go_wp2
  go_end0
  exact ⟨rfl, rfl⟩
set_option maxHeartbeats 1000000 in
theorem sortStable_none (w : World) : Calls Try.prog 102 #[.slice none 0 0, .func (.func 103) #[] #[]] w fun e w' => e = .returned (.tuple #[]) ∧ w = w' := by
  go_enter Try.func102, Try.ntmps102
  go_wp2_with (go_at_call 129; refine (stable_none _).mono ?_; rintro e w' ⟨rfl, rfl⟩)
  go_end0
  exact ⟨rfl, rfl⟩
set_option maxHeartbeats 1000000 in
theorem clone_none (w : World) : Calls Try.prog 101 #[.slice none 0 0] w fun e w' => e = .returned (.slice none 0 0) ∧ w = w' := by
  have q22 : ∀ (w : World) (a : Option Addr) (n c n' c' : Nat), (binOp .eql 66 (.slice a n c) (.slice none n' c')).run Try.prog w = .ok (.bool a.isNone) w := fun w a n c n' c' => Lib.run_eql_slice_nil w _ _ a n c n' c' Try.underlying66
  go_enter Try.func101, Try.ntmps101
  go_wp2
  go_ret
  exact ⟨rfl, rfl⟩
set_option maxHeartbeats 1000000 in
theorem sort_none (w : World) : Calls Try.prog 75 #[.slice none 0 0] w fun e w' => e = .returned (.slice none 0 0) ∧ w = w' := by
  go_enter Try.func75, Try.ntmps75
  go_wp2_with (first
    | (go_at_call 101; refine (clone_none _).mono ?_; rintro e w1 ⟨rfl, rfl⟩)
    | (go_at_call 102; refine (sortStable_none _).mono ?_; rintro e w2 ⟨rfl, rfl⟩))
  go_ret
  exact ⟨rfl, rfl⟩
/-- What Sort gives, whatever the slice. -/
def SortRet (w : World) (n : Nat) (l : List Ev) (e : Ending) (w' : World) : Prop := ∃ A cap, e = .returned (.slice A n cap) ∧ OwnE w' w.heap.size A n cap l ∧ Below w.heap.size w w'
theorem sortE_any (a : Option Addr) (n c : Nat) (l : List Ev) (hn : Hid (n = l.length)) (hnil : a = none → n = 0 ∧ c = 0) (hsp : ∀ x, a = some x → x.spot = none) (h60 : n ≤ 1000) (w : World) (HA : Hid (EvAt w a l)) :
    Calls Try.prog 75 #[.slice a n c] w (SortRet w n (isort ltE l)) := by
  rcases a with _ | ⟨g, off, s⟩
  · obtain ⟨rfl, rfl⟩ := hnil rfl
    have hl : l = [] := List.eq_nil_of_length_eq_zero hn.out.symm
    subst hl
    refine (sort_none w).mono ?_
    rintro e w' ⟨rfl, rfl⟩
    exact ⟨none, 0, rfl, w.ownsRow_nil _ _ 5, Below.refl _ _⟩
  · obtain rfl : s = none := hsp _ rfl
    refine (sort_any g off n c l hn h60 w HA).mono ?_
    rintro e w' ⟨g1, cap, rfl, ho, hb⟩
    exact ⟨some ⟨g1, 0, none⟩, cap, rfl, ho, hb⟩
/-- What a row of events that a call owns is. -/
theorem OwnE.at {w : World} {B n cap : Nat} {A : Option Addr} {l : List Ev} (h : OwnE w B A n cap l) : EvAt w A l := fun j v hv => by
  have hjl := (List.getElem?_eq_some_iff.1 hv).1
  rcases h.2 with ⟨e0, e1⟩ | ⟨g, cap', cur, e0, hb, hg, hn, hm, hs, ht⟩
  · have := h.1; rw [e1, Nat.zero_mul] at this; omega
  · injection e0 with a1 a2 a3
    subst a1
    refine ⟨g, 0, rfl, (Array.getElem?_eq_some_iff.1 hg).1, ?_⟩
    rw [cell_of_row _ _ _ _ _ _ hg, Nat.zero_add, ← Array.getElem?_toList]
    have := h.1
    rw [← ht, List.getElem?_take] at hv
    rw [if_pos (by omega)] at hv
    exact hv
theorem ev_range {w : World} {A : Option Addr} {l : List Ev} (h : EvAt w A l) (i : Nat) (x : Ev) (hx : l[i]? = some x) : ∃ g off, A = some ⟨g, off, none⟩ ∧ g < w.heap.size ∧ w.rangeAt g (off + i * 5) x.cells := by
  have h0 : (evs l)[i * 5 + 0]? = x.cells[0]? := by rw [evs_get l i 0 (by decide), hx]; rfl
  obtain ⟨g, off, e, hg, -⟩ := h (i * 5 + 0) (.int .u64 (x.off : Int)) (by rw [h0]; rfl)
  refine ⟨g, off, e, hg, fun j v hv => ?_⟩
  have hj : j < 5 := (List.getElem?_eq_some_iff.1 hv).1
  have h1 : (evs l)[i * 5 + j]? = some v := by rw [evs_get l i j hj, hx]; exact hv
  obtain ⟨g', off', e', -, hc⟩ := h _ _ h1
  rw [e] at e'; injection e' with e'; injection e' with b1 b2; subst b1; subst b2
  rw [Nat.add_assoc]; exact hc
theorem below_to2 {W w w' : World} (h : Below W.heap.size W w) (h' : Below w.heap.size w w') : Below W.heap.size W w' := h.trans (h'.mono h.size)
theorem range_keep {w w' : World} {g o : Nat} {x : Ev} (h : w.rangeAt g o x.cells) (hg : g < w.heap.size) (hb : Below w.heap.size w w') : w'.rangeAt g o x.cells := fun j v hv => (hb.cell (p := ⟨g, o + j, none⟩) hg).trans (h j v hv)
theorem sameB_refl (x : Ev) : sameB x x = true := by unfold sameB keqB; simp
end Go.Proofs.Ytbimfopbilcdgaa

set_option linter.unusedSimpArgs false
set_option linter.unusedVariables false
set_option maxRecDepth 8000
namespace Go.Proofs.Ytbimfopbilcdgaa
open Go.RowKit Go.Sort Sm

/-- How many values there are. -/
def tot (gs : List Grp) : Nat := (gs.map fun g => g.vs.length).sum
theorem tot_cons (g : Grp) (r : List Grp) : tot (g :: r) = g.vs.length + tot r := by unfold tot; simp
theorem tot_append (r t : List Grp) : tot (r ++ t) = tot r + tot t := by unfold tot; simp
theorem tot_mem {gs : List Grp} {x : Grp} (h : x ∈ gs) : x.vs.length ≤ tot gs := by
  induction gs with
  | nil => cases h
  | cons a t ih =>
    rw [tot_cons]
    rcases List.mem_cons.1 h with rfl | h
    · omega
    · have := ih h; omega
theorem tot_putF (gs : List Grp) (g : Grp) : tot (putF gs g) = tot gs + g.vs.length := by
  induction gs with
  | nil => simp [putF, tot]
  | cons a t ih =>
    rw [putF]
    split
    · rw [tot_cons, tot_cons, ih]; omega
    · split
      · rw [tot_cons, tot_cons]; show (a.vs ++ g.vs).length + _ = _; rw [List.length_append]; omega
      · rw [tot_cons]; omega
theorem tot_putL (ses : Bool) (gs : List Grp) (g : Grp) : tot (putL ses gs g) = tot gs + g.vs.length := by
  rcases hl : lastB ses gs g.p with _ | _
  · rw [putL_F _ _ _ hl, tot_putF]
  · rcases snoc_cases gs with rfl | ⟨r, h, rfl⟩
    · cases hl
    · rw [putL_last _ _ _ _ hl, tot_append, tot_append, tot_cons, tot_cons]
      show _ + ((h.vs ++ g.vs).length + _) = _
      rw [List.length_append]; omega
theorem tot_putA (ses : Bool) (gs its : List Grp) : tot (putA ses gs its) = tot gs + tot its := by
  induction its generalizing gs with
  | nil => simp [putA, tot]
  | cons g r ih => rw [putA_cons, ih, tot_putL, tot_cons]; omega
/-- Their values are numbers' bits. -/
def GrV (gs : List Grp) : Prop := ∀ x ∈ gs, ∀ v ∈ x.vs, v < 18446744073709551616
theorem grV_putF {gs : List Grp} {g : Grp} (h : GrV gs) (hg : ∀ v ∈ g.vs, v < 18446744073709551616) : GrV (putF gs g) := by
  induction gs with
  | nil => intro x hx; simp [putF] at hx; subst hx; exact hg
  | cons a t ih =>
    have ht : GrV t := fun x hx => h x (by simp [hx])
    rw [putF]
    split
    · intro x hx
      rcases List.mem_cons.1 hx with rfl | hx
      · exact h x (by simp)
      · exact ih ht x hx
    · split
      · intro x hx
        rcases List.mem_cons.1 hx with rfl | hx
        · intro v hv
          rcases List.mem_append.1 hv with hv | hv
          · exact h a (by simp) v hv
          · exact hg v hv
        · exact ht x hx
      · intro x hx
        rcases List.mem_cons.1 hx with rfl | hx
        · exact hg
        · exact h x hx
theorem grV_putL {ses : Bool} {gs : List Grp} {g : Grp} (h : GrV gs) (hg : ∀ v ∈ g.vs, v < 18446744073709551616) : GrV (putL ses gs g) := by
  rcases hl : lastB ses gs g.p with _ | _
  · rw [putL_F _ _ _ hl]; exact grV_putF h hg
  · rcases snoc_cases gs with rfl | ⟨r, y, rfl⟩
    · cases hl
    · rw [putL_last _ _ _ _ hl]
      intro x hx
      rcases List.mem_append.1 hx with hx | hx
      · exact h x (by simp [hx])
      · simp at hx; subst hx
        intro v hv
        rcases List.mem_append.1 hv with hv | hv
        · exact h y (by simp) v hv
        · exact hg v hv
theorem grV_putA {ses : Bool} {its : List Grp} : ∀ {gs : List Grp}, GrV gs → GrV its → GrV (putA ses gs its) := by
  induction its with
  | nil => intro gs h _; exact h
  | cons g r ih =>
    intro gs h hi
    rw [putA_cons]
    exact ih (grV_putL h (hi g (by simp))) (fun x hx => hi x (by simp [hx]))
theorem grOk_of {gs : List Grp} (h : GrV gs) (ht : tot gs ≤ 1000000) : GrOk gs := fun x hx => ⟨h x hx, Nat.le_trans (tot_mem hx) ht⟩
theorem itE_len (c : Cf) (x : Ev) : (itE c x).length = c.n x.time := by unfold itE; rw [List.length_map, wOf_len]
theorem tot_itE (c : Cf) (x : Ev) : tot (itE c x) = c.n x.time := by
  unfold tot itE
  rw [List.map_map, ← wOf_len]
  generalize wOf c x.time = l
  induction l with
  | nil => rfl
  | cons a t ih => simp at ih ⊢; omega
theorem itsL_len {c : Cf} (h : c.Ok) (l : List Ev) : (itsL c l).length ≤ l.length * 16 ∧ tot (itsL c l) = (itsL c l).length := by
  induction l with
  | nil => simp [itsL, tot]
  | cons x r ih =>
    rw [itsL_cons, List.length_append, tot_append, itE_len, tot_itE, List.length_cons]
    have := h.n16 x.time
    omega
theorem grV_its (c : Cf) (l : List Ev) (h : ∀ x ∈ l, x.val < 18446744073709551616) : GrV (itsL c l) := by
  intro g hg v hv
  obtain ⟨x, hx, hg⟩ := List.mem_flatMap.1 hg
  unfold itE at hg
  obtain ⟨w, -, rfl⟩ := List.mem_map.1 hg
  simp at hv
  rw [hv]; exact h x hx
/-- What stands rising is put in its order. -/
structure GsOk (gs : List Grp) : Prop where
  srt : Srt gs
  ok : GrOk gs
  few : gs.length ≤ 1000
theorem gsOk_at {c : Cf} (h : c.Ok) {l : List Ev} (hl : l.Pairwise LeE) (hv : ∀ x ∈ l, x.val < 18446744073709551616) (h60 : l.length ≤ 60) {p t : List Grp} (hp : itsL c l = p ++ t) : GsOk (putA (decide (c.kind = 2)) [] p) := by
  have hf : Fits (decide (c.kind = 2)) [] (itsL c l) := Fits.nil _ _ (fun hk => itsL_srt h (by simpa using hk) l hl)
  rw [hp] at hf
  have hlen := itsL_len h l
  have hV := grV_its c l hv
  rw [hp] at hlen hV
  have h3 := putA_len (decide (c.kind = 2)) p []
  have h4 := tot_putA (decide (c.kind = 2)) [] p
  rw [List.length_append, tot_append] at hlen
  have h0 : tot [] = 0 := rfl
  have h5 : ([] : List Grp).length = 0 := rfl
  refine ⟨(Fits.all hf).srt, grOk_of (grV_putA (fun x hx => by cases hx) (fun x hx => hV x (by simp [hx]))) (by omega), by omega⟩
/-- All rows that are no groups' are kept. -/
def KeepG (w w' : World) : Prop := ∀ (k : Nat) (cs : Array Value) (T : TypeId) (m : Nat × Nat), w.heap[k]? = some (Obj.cells cs T m) → T ≠ 91 → w'.heap[k]? = some (Obj.cells cs T m)
theorem KeepG.refl (w : World) : KeepG w w := fun _ _ _ _ h _ => h
theorem KeepG.trans {a b c : World} (h : KeepG a b) (h' : KeepG b c) : KeepG a c := fun k cs T m hk ht => h' k cs T m (h k cs T m hk ht) ht
theorem KeepG.below {w w' : World} (h : Below w.heap.size w w') : KeepG w w' := fun k cs T m hk _ => row_keep hk h
theorem KeepG.put {w w' : World} {B n cap : Nat} {A : Option Addr} {gs : List Grp} (ho : OwnGr w B A n cap gs) (h : w.grownBy w' (A.map (·.block))) : KeepG w w' := fun k cs T m hk ht => by
  refine (h.block k (Array.getElem?_eq_some_iff.1 hk).1 (fun e => ?_)).trans hk
  rcases ho.2 with ⟨e0, e1⟩ | ⟨g, cap', cur, e0, hb, hg, -⟩
  · injection e0 with e0; rw [e0] at e; cases e
  · injection e0 with e0; rw [e0] at e
    injection e with e
    have e : g = k := e.symm
    subst e
    rw [hg] at hk
    injection hk with hk; injection hk with _ hk _
    exact ht hk.symm
theorem below_put {B : Nat} {W w w' : World} {n cap : Nat} {A : Option Addr} {gs : List Grp} (h : Below B W w) (hB : B ≤ w.heap.size) (ho : OwnGr w B A n cap gs) (hg : w.grownBy w' (A.map (·.block))) : Below B W w' := by
  refine ⟨hg.os.trans h.os, hg.tape.trans h.tape, hg.output.trans h.output, Nat.le_trans h.size hg.size, fun k hk => (hg.block k (Nat.lt_of_lt_of_le hk hB) (fun e => ?_)).trans (h.block k hk)⟩
  rcases gr_roaddr ho with h1 | ⟨g, h1⟩
  · rw [h1] at e; cases e
  · have := (ho.lt g 0 h1).2.1
    rw [h1] at e; injection e with e
    have e : g = k := e.symm
    omega
end Go.Proofs.Ytbimfopbilcdgaa

set_option linter.unusedSimpArgs false
set_option linter.unusedVariables false
set_option maxRecDepth 8000
namespace Go.Proofs.Ytbimfopbilcdgaa
open Go.RowKit Go.Sort Sm

theorem uEv : Try.prog.underlying 76 = some (.struct (Try.prog.fieldsOf 76)) := by kernel_rfl
theorem iEv (x : Ev) : (Try.prog.info? 76).map (·.size) = some x.cells.length := by kernel_rfl
theorem uCf : Try.prog.underlying 64 = some (.struct (Try.prog.fieldsOf 64)) := by kernel_rfl
theorem OwnWn.keepG {w w' : World} {B n cap : Nat} {A : Option Addr} {l : List Wd} (h : OwnWn w B A n cap l) (hk : KeepG w w') : OwnWn w' B A n cap l := by
  refine ⟨h.1, ?_⟩
  rcases h.2 with h1 | ⟨g, cap', cur, h1, hb1, h2, h3⟩
  · exact .inl h1
  · exact .inr ⟨g, cap', cur, h1, hb1, hk g cur _ _ h2 (by decide), h3⟩
theorem addNil (v : Nat) (hv : v < 18446744073709551616) (w : World) : Calls Try.prog 76 #[.agg #[Value.int .u64 0, Value.int .u64 0, Value.int .u64 0, Value.int .u64 0, Value.int .u64 0, Value.int .u64 0, Value.int .u64 0, Value.int .u64 0, Value.int .u64 0, Value.int .u64 0, Value.int .u64 0, Value.int .u64 0, Value.int .u64 0, Value.int .u64 0, Value.int .u64 0, Value.int .u64 0, Value.int .u64 0, Value.int .u64 0, Value.int .u64 0, Value.int .u64 0, Value.int .u64 0, Value.int .u64 0, Value.int .u64 0, Value.int .u64 0, Value.int .u64 0, Value.int .u64 0, Value.int .u64 0, Value.int .u64 0, Value.int .u64 0, Value.int .u64 0, Value.int .u64 0, Value.int .u64 0, Value.int .u64 0, Value.int .u64 0, Value.int .u64 0, Value.int .u64 0, Value.int .u8 0, Value.int .u64 0, Value.int .u64 0], .float .f64 v] w fun e w' => e = .returned (.agg (TL [v])) ∧ Below w.heap.size w w' := by
  rw [zeros39, ← TL_nil]
  exact addTL [] v (fun y hy => by cases hy) hv (by simp) w
/-- Events as Groups sees them: fit, and in their order. -/
structure EvsOk (c : Cf) (l : List Ev) : Prop where
  ord : l.Pairwise LeE
  val : ∀ x ∈ l, x.val < 18446744073709551616
  time : ∀ x ∈ l, -4398046511104 ≤ x.time ∧ x.time ≤ 4398046511104
  few : l.length ≤ 60
/-- What a round of Groups keeps. -/
def RGo (c : Cf) (s : List Ev) (W2 : World) (g i : Value) (wr : World) : Prop := ∃ (k : Nat) (A : Option Addr) (n cap : Nat), k ≤ s.length ∧ i = .int .i64 k ∧ g = .slice A n cap ∧ n = (putA (decide (c.kind = 2)) [] (itsL c (s.take k))).length ∧ n ≤ cap ∧ cap ≤ maxLen ∧ (A = none → cap = 0) ∧ OwnGr wr W2.heap.size A n cap (putA (decide (c.kind = 2)) [] (itsL c (s.take k))) ∧ Below W2.heap.size W2 wr
/-- .. of its inner rounds. -/
def RGi (c : Cf) (gs0 : List Grp) (ie : List Grp) (W2 w6 : World) (g i : Value) (wr : World) : Prop := ∃ (j : Nat) (A : Option Addr) (n cap : Nat), j ≤ ie.length ∧ i = .int .i64 j ∧ g = .slice A n cap ∧ n = (putA (decide (c.kind = 2)) gs0 (ie.take j)).length ∧ n ≤ cap ∧ cap ≤ maxLen ∧ (A = none → cap = 0) ∧ OwnGr wr W2.heap.size A n cap (putA (decide (c.kind = 2)) gs0 (ie.take j)) ∧ Below W2.heap.size W2 wr ∧ KeepG w6 wr ∧ w6.heap.size ≤ wr.heap.size
/-- What Groups ends with. -/
def GrEnds (W : World) (gs : List Grp) (e : Ending) (w' : World) : Prop := ∃ A n cap, e = .returned (.slice A n cap) ∧ n = gs.length ∧ n ≤ cap ∧ cap ≤ maxLen ∧ (A = none → cap = 0) ∧ OwnGr w' W.heap.size A n cap gs ∧ Below W.heap.size W w'
set_option maxHeartbeats 8000000 in
theorem groups_core (c : Cf) (h : c.Ok) (a : Option Addr) (n cp : Nat) (s : List Ev) (hs : EvsOk c s) (hn : n = s.length) (W : World)
    (HSO : Hid (∀ w, Below W.heap.size W w → Calls Try.prog 75 #[.slice a n cp] w (SortRet w n s))) :
    Calls Try.prog 45 #[c.v, .slice a n cp] W (GrEnds W (grpsS c s)) := by
  have HOF := Lib.hid fun t t1 t2 w => of13_any c h t t1 t2 w
  have HC := Lib.hid h
  have HS := Lib.hid hs
  have HN := Lib.hid hn
  have h60 : n ≤ 60 := by have := hs.few; omega
  have HGS : Hid (grpsS c s = putA (decide (c.kind = 2)) [] (itsL c s)) := Lib.hid rfl
  generalize grpsS c s = GG at *
  clear h hs hn
  go_enter Try.func45, Try.ntmps45
  go_wp2_with (go_at_call 75; (with_reducible refine (HSO.out _ ((Below.refl _ _).alloc (Nat.le_refl _) _)).mono ?_); rintro e w2 ⟨A2, cap2, rfl, ho2, hb2⟩; have HO2 := Lib.hid ho2; have HB2 := Lib.hid hb2; clear ho2 hb2)
  have HBW : Hid (Below W.heap.size W w2) := Lib.hid (((Below.refl _ _).alloc (Nat.le_refl _) _).trans (HB2.out.mono (by simp)))
  have HRC : Hid (w2.heap[W.heap.size]? = some (.cells #[.int .u8 (c.kind : Int), .int .i64 c.size, .int .i64 c.step, .int .i64 c.late, .int .i64 c.skew, .int .i64 c.parts, .int .u64 (c.cut : Int)] 64 (0, 0))) := Lib.hid (row_keep (heap_new W _) HB2.out)
  have HEV : Hid (EvAt w2 A2 s) := Lib.hid HO2.out.at
  clear HB2
  go_loopw [5, 14] (fun g i wr => RGo c s w2 g i wr) (fun _ i _ => n - (intOf i).toNat)
  case atStart => exact ⟨0, none, 0, 0, Nat.zero_le _, rfl, rfl, rfl, Nat.le_refl _, Nat.zero_le _, fun _ => rfl, OwnGr.nil _ _, Below.refl _ _⟩
  case round =>
    obtain ⟨k, A, nA, cap, hk, rfl, rfl, hnA, hc1, hc2, hc3, ho, hb⟩ := hrel
    have HK := Lib.hid hk; have HNA := Lib.hid hnA; have HCP := Lib.hid (And.intro hc1 (And.intro hc2 hc3)); have HO := Lib.hid ho; have HB := Lib.hid hb
    clear hk hnA hc1 hc2 hc3 ho hb
    by_cases hin : k < n
    · obtain ⟨x, hx⟩ : ∃ x, s[k]? = some x := ⟨s[k]'(by have := HN.out; omega), List.getElem?_eq_getElem _⟩
      have hxm : x ∈ s := List.mem_of_getElem? hx
      obtain ⟨t1, t2⟩ := HS.out.time x hxm
      have HADD := Lib.hid (addNil x.val (HS.out.val x hxm))
      obtain ⟨ge, oe, hA2, hge, hre⟩ := ev_range (HEV.out.keep HB.out) k x hx
      have hoe : oe = 0 := by
        rcases HO2.out.2 with ⟨e0, e1⟩ | ⟨g', cap', cur, e0, -⟩
        · injection e0 with e0; rw [e0] at hA2; cases hA2
        · injection e0 with e0; rw [e0] at hA2; injection hA2 with hA2; injection hA2 with _ hA2; exact hA2.symm
      subst hoe
      rw [Nat.zero_add] at hre
      subst hA2
      have HRE := Lib.hid hre
      have HTK : Hid (itsL c (s.take (k + 1)) = itsL c (s.take k) ++ itE c x) := Lib.hid (by
        have h2 : s.take (k + 1) = s.take k ++ [x] := by
          have hl := (List.getElem?_eq_some_iff.1 hx)
          rw [List.take_succ_eq_append_getElem hl.1, hl.2]
        rw [h2, itsL_append, itsL_cons]; unfold itsL; simp)
      have HTA : Hid (∃ t, itsL c s = itsL c (s.take (k + 1)) ++ t) := Lib.hid ⟨itsL c (s.drop (k + 1)), by rw [← itsL_append, List.take_append_drop]⟩
      have HIE : Hid (itE c x = (wOf c x.time).map fun w => ⟨⟨x.key, w.s, w.e⟩, [x.val]⟩) := Lib.hid rfl
      have HOF2 := Lib.hid (HOF.out x.time t1 t2)
      have HVX := Lib.hid (HS.out.val x hxm)
      have hkI : (k : Int) < (n : Int) := by omega
      clear hx hxm hge hre
      go_upto_region 5 with (first
        | (refine wpList_load_mid rfl 76 (.tmp 16) rfl ge (k * 5) rfl [.int .u64 (x.off : Int), .int .i64 x.part, .int .i64 x.time, .string x.key, .float .f64 x.val] _ HRE.out uEv rfl (by kernel_rfl) ?_)
        | (refine wpList_store_row rfl 76 (.tmp 7) (.tmp 17) rfl _ #[.int .u64 (x.off : Int), .int .i64 x.part, .int .i64 x.time, .string x.key, .float .f64 x.val] rfl rfl _ _ (heap_alloc_new _ _) (by kernel_rfl) rfl (by simp [Value.oneCell']) ?_; rw [World.setRow_alloc_new]))
      go_upto_region 6 with (first
        | (go_at_call 76; (with_reducible refine (HADD.out _).mono ?_); rintro e w5 ⟨rfl, hb5⟩; have HB5 := Lib.hid hb5; clear hb5)
        | (rw [zeros39]; refine wpList_store_row rfl 89 (.tmp 8) (.tmp 21) rfl _ (TL [x.val]) rfl rfl _ _ (heap_alloc_new _ _) (iT _ _ _ _ _) (by rw [T39_size, T39_size]) (one39 _ _ _ _ _) ?_; rw [World.setRow_alloc_new]))
      have HR5 : Hid (w5.heap[wr.heap.size]? = some (.cells #[.int .u64 (x.off : Int), .int .i64 x.part, .int .i64 x.time, .string x.key, .float .f64 x.val] 76 (0, 0))) := Lib.hid (row_keep (heap_new wr _) HB5.out)
      have HB5W : Hid (Below wr.heap.size wr w5) := Lib.hid (((Below.refl _ _).alloc (Nat.le_refl _) _).trans (HB5.out.mono (by simp)))
      obtain ⟨w6, hw6⟩ : ∃ w6, w6 = w5.alloc (.cells (TL [x.val]) 89) := ⟨_, rfl⟩
      rw [← hw6]
      have HB6 : Hid (Below wr.heap.size wr w6) := Lib.hid (by rw [hw6]; exact HB5W.out.alloc HB5W.out.size _)
      have HRE6 : Hid (w6.heap[wr.heap.size]? = some (.cells #[.int .u64 (x.off : Int), .int .i64 x.part, .int .i64 x.time, .string x.key, .float .f64 x.val] 76 (0, 0))) := Lib.hid (by rw [hw6]; exact row_alloc' HR5.out _)
      have HRV6 : Hid (w6.heap[w5.heap.size]? = some (.cells (TL [x.val]) 89 (0, 0))) := Lib.hid (by rw [hw6]; exact heap_new w5 _)
      have HRC6 : Hid (w6.heap[W.heap.size]? = some (.cells #[.int .u8 (c.kind : Int), .int .i64 c.size, .int .i64 c.step, .int .i64 c.late, .int .i64 c.skew, .int .i64 c.parts, .int .u64 (c.cut : Int)] 64 (0, 0))) := Lib.hid ((HB.out.trans (HB6.out.mono HB.out.size)).block _ (Array.getElem?_eq_some_iff.1 HRC.out).1 |>.trans HRC.out)
      have he2 : w6.cell? ⟨wr.heap.size, 2, none⟩ = some (.int .i64 x.time) := by rw [cell_of_row _ _ _ _ _ _ HRE6.out]; rfl
      obtain ⟨be, hbe⟩ : ∃ be, be = wr.heap.size := ⟨_, rfl⟩
      obtain ⟨bv, hbv⟩ : ∃ bv, bv = w5.heap.size := ⟨_, rfl⟩
      rw [← hbv] at HRV6 ⊢
      rw [← hbe] at HRE6 he2 ⊢
      clear hw6 HB5 HR5 HB5W hbv hbe
      go_wp2_with (first
        | (refine wpList_load_row rfl 64 (.tmp 2) rfl W.heap.size rfl _ #[.int .u8 (c.kind : Int), .int .i64 c.size, .int .i64 c.step, .int .i64 c.late, .int .i64 c.skew, .int .i64 c.parts, .int .u64 (c.cut : Int)] (0, 0) _ HRC6.out uCf rfl (by kernel_rfl) ?_)
        | (go_at_call 44; (with_reducible refine (HOF2.out _).mono ?_); rintro e w7 ⟨Aw, nw, cw, rfl, hnw, how, hb7⟩; have HNW := Lib.hid hnw; have HOW := Lib.hid how; have HB7 := Lib.hid hb7; clear hnw how hb7))
      clear he2
      have HRE7 := Lib.hid (row_keep HRE6.out HB7.out)
      have HRV7 := Lib.hid (row_keep HRV6.out HB7.out)
      have HRC7 := Lib.hid (row_keep HRC6.out HB7.out)
      have HBR7 : Hid (Below wr.heap.size wr w7) := Lib.hid (HB6.out.trans (HB7.out.mono HB6.out.size))
      have HIL : Hid ((itE c x).length = nw) := Lib.hid (by rw [itE_len, HNW.out, wOf_len])
      have nw16 : nw ≤ 16 := by rw [HNW.out, wOf_len]; exact HC.out.n16 _
      clear HRE6 HRV6 HRC6 HB7 HB6
      obtain ⟨wo, rfl⟩ : ∃ wo, wo = wr := ⟨_, rfl⟩
      go_loopw [5, 27] (fun g i wq => RGi c (putA (decide (c.kind = 2)) [] (itsL c (s.take k))) (itE c x) w2 w7 g i wq) (fun _ i _ => nw - (intOf i).toNat)
      case atStart =>
        refine ⟨0, A, nA, cap, Nat.zero_le _, rfl, rfl, HNA.out, HCP.out.1, HCP.out.2.1, HCP.out.2.2, ?_, HB.out.trans (HBR7.out.mono HB.out.size), KeepG.refl _, Nat.le_refl _⟩
        exact HO.out.below HBR7.out (fun g' off e => (HO.out.lt g' off e).1)
      case round =>
        obtain ⟨j, Aq, nq, cq, hj, rfl, rfl, hnq, hq1, hq2, hq3, hoq, hbq, hkq, hzq⟩ := hrel
        have HJ := Lib.hid hj; have HNQ := Lib.hid hnq; have HCQ := Lib.hid (And.intro hq1 (And.intro hq2 hq3)); have HOQ := Lib.hid hoq; have HBQ := Lib.hid hbq; have HKQ := Lib.hid hkq; have HZQ := Lib.hid hzq
        clear hj hnq hq1 hq2 hq3 hoq hbq hkq hzq
        have HPA : Hid (putA (decide (c.kind = 2)) (putA (decide (c.kind = 2)) [] (itsL c (s.take k))) ((itE c x).take j) = putA (decide (c.kind = 2)) [] (itsL c (s.take k) ++ (itE c x).take j)) := Lib.hid (putA_append _ _ _ _).symm
        by_cases hjn : j < nw
        · obtain ⟨wd, hwd⟩ : ∃ wd, (wOf c x.time)[j]? = some wd := ⟨(wOf c x.time)[j]'(by have := HNW.out; omega), List.getElem?_eq_getElem _⟩
          have hit : (itE c x)[j]? = some ⟨⟨x.key, wd.s, wd.e⟩, [x.val]⟩ := by rw [HIE.out, List.getElem?_map, hwd]; rfl
          have HTJ : Hid ((itE c x).take (j + 1) = (itE c x).take j ++ [⟨⟨x.key, wd.s, wd.e⟩, [x.val]⟩]) := Lib.hid (by
            have hl := List.getElem?_eq_some_iff.1 hit
            rw [List.take_succ_eq_append_getElem hl.1, hl.2])
          have HOK : Hid (GsOk (putA (decide (c.kind = 2)) (putA (decide (c.kind = 2)) [] (itsL c (s.take k))) ((itE c x).take j))) := Lib.hid (by
            rw [HPA.out]
            obtain ⟨t, ht⟩ := HTA.out
            refine gsOk_at HC.out HS.out.ord HS.out.val HS.out.few (t := (itE c x).drop j ++ t) ?_
            rw [ht, HTK.out, List.append_assoc, List.append_assoc, ← List.append_assoc (List.take j _), List.take_append_drop])
          have HOWq := Lib.hid (HOW.out.keepG HKQ.out)
          obtain ⟨gw, ow, hAw, hgw, hrw⟩ := wnr HOWq.out.at' j wd hwd
          have how0 : ow = 0 := (HOWq.out.lt gw ow hAw).2.2
          subst how0
          subst hAw
          rw [Nat.zero_add] at hrw
          have HRW := Lib.hid hrw
          have hjI : (j : Int) < (nw : Int) := by omega
          have hjm : Hid (j + 1 ≤ (itE c x).length) := Lib.hid (by have := HIL.out; omega)
          clear hwd hit hgw hrw
          go_upto_region 9 with (refine wpList_load_mid rfl 84 (.tmp 29) rfl gw (j * 2) rfl [.int .i64 wd.s, .int .i64 wd.e] _ HRW.out uWn rfl (by kernel_rfl) ?_)
          obtain ⟨w8, hw8⟩ : ∃ w8, w8 = wr.alloc (.cells #[.int .i64 wd.s, .int .i64 wd.e] 84) := ⟨_, rfl⟩
          rw [← hw8]
          have HB8 : Hid (Below wr.heap.size wr w8) := Lib.hid (by rw [hw8]; exact (Below.refl _ _).alloc (Nat.le_refl _) _)
          have hrc8 : w8.heap[W.heap.size]? = some (.cells #[.int .u8 (c.kind : Int), .int .i64 c.size, .int .i64 c.step, .int .i64 c.late, .int .i64 c.skew, .int .i64 c.parts, .int .u64 (c.cut : Int)] 64 (0, 0)) := row_keep (HKQ.out _ _ _ _ HRC7.out (by decide)) HB8.out
          have hre8 : w8.heap[be]? = some (.cells #[.int .u64 (x.off : Int), .int .i64 x.part, .int .i64 x.time, .string x.key, .float .f64 x.val] 76 (0, 0)) := row_keep (HKQ.out _ _ _ _ HRE7.out (by decide)) HB8.out
          have HRV8 : Hid (w8.heap[bv]? = some (.cells (TL [x.val]) 89 (0, 0))) := Lib.hid (row_keep (HKQ.out _ _ _ _ HRV7.out (by decide)) HB8.out)
          have HRW8 : Hid (w8.heap[wr.heap.size]? = some (.cells #[.int .i64 wd.s, .int .i64 wd.e] 84 (0, 0))) := Lib.hid (by rw [hw8]; exact heap_new wr _)
          have hk0 : w8.cell? ⟨W.heap.size, 0, none⟩ = some (.int .u8 (c.kind : Int)) := by rw [cell_of_row _ _ _ _ _ _ hrc8]; rfl
          have hk3 : w8.cell? ⟨be, 3, none⟩ = some (.string x.key) := by rw [cell_of_row _ _ _ _ _ _ hre8]; rfl
          have HO8 : Hid (OwnGr w8 w2.heap.size Aq nq cq (putA (decide (c.kind = 2)) (putA (decide (c.kind = 2)) [] (itsL c (s.take k))) ((itE c x).take j))) := Lib.hid (HOQ.out.below HB8.out (fun g' off e => (HOQ.out.lt g' off e).1))
          have HB28 : Hid (Below w2.heap.size w2 w8) := Lib.hid (HBQ.out.trans (HB8.out.mono HBQ.out.size))
          have HPUT := Lib.hid (put13_any c.kind w2.heap.size Aq nq cq _ ⟨⟨x.key, wd.s, wd.e⟩, [x.val]⟩ (by rw [HNQ.out]; exact HOK.out.few) HOK.out.srt HOK.out.ok ⟨fun v hv => by simp at hv; rw [hv]; exact HVX.out, by simp⟩ w8 HB28.out.size HO8.out)
          obtain ⟨bw, hbw⟩ : ∃ bw, bw = wr.heap.size := ⟨_, rfl⟩
          rw [← hbw] at HRW8 ⊢
          clear hw8 hrc8 hre8 hbw
          go_wp2_with (first
            | (refine wpList_load_row rfl 84 (.tmp 10) rfl bw rfl _ #[.int .i64 wd.s, .int .i64 wd.e] (0, 0) _ HRW8.out uWn rfl (by kernel_rfl) ?_)
            | (refine wpList_load_row rfl 89 (.tmp 8) rfl bv rfl _ (TL [x.val]) (0, 0) _ HRV8.out uT rfl (iT _ _ _ _ _) ?_)
            | (refine wpList_buildG rfl _ _ _ rfl ⟨⟨x.key, wd.s, wd.e⟩, [x.val]⟩ rfl rfl rfl ?_)
            | (go_at_call 77; (with_reducible refine HPUT.out.mono ?_); rintro e w9 ⟨A9, n9, c9, rfl, hn9, h91, h92, h93, ho9, hg9⟩; have HN9 := Lib.hid hn9; have HC9 := Lib.hid (And.intro h91 (And.intro h92 h93)); have HO9 := Lib.hid ho9; have HG9 := Lib.hid hg9; clear hn9 h91 h92 h93 ho9 hg9))
          have HSN : Hid (putL (decide (c.kind = 2)) (putA (decide (c.kind = 2)) (putA (decide (c.kind = 2)) [] (itsL c (s.take k))) ((itE c x).take j)) ⟨⟨x.key, wd.s, wd.e⟩, [x.val]⟩ = putA (decide (c.kind = 2)) (putA (decide (c.kind = 2)) [] (itsL c (s.take k))) ((itE c x).take (j + 1))) := Lib.hid (by rw [HTJ.out, putA_snoc])
          rw [HSN.out] at HN9 HO9
          go_roundw
          case rel => exact ⟨j + 1, A9, n9, c9, hjm.out, by go_num, rfl, HN9.out, HC9.out.1, HC9.out.2.1, HC9.out.2.2, HO9.out, below_put HB28.out HB28.out.size HO8.out HG9.out, (HKQ.out.trans (KeepG.below HB8.out)).trans (KeepG.put HO8.out HG9.out), Nat.le_trans HZQ.out (Nat.le_trans HB8.out.size HG9.out.size)⟩
          case measure => simp [intOf]; omega
        · have hje : (itE c x).take j = itE c x := List.take_of_length_le (by have := HIL.out; omega)
          have HE : Hid (putA (decide (c.kind = 2)) (putA (decide (c.kind = 2)) [] (itsL c (s.take k))) ((itE c x).take j) = putA (decide (c.kind = 2)) [] (itsL c (s.take (k + 1)))) := Lib.hid (by rw [hje, HTK.out, putA_append])
          rw [HE.out] at HNQ HOQ
          clear hje
          have hkn1 : Hid (k + 1 ≤ s.length) := Lib.hid (by have := HN.out; omega)
          go_wp2
          go_roundw
          case rel => exact ⟨k + 1, Aq, nq, cq, hkn1.out, by go_num, rfl, HNQ.out, HCQ.out.1, HCQ.out.2.1, HCQ.out.2.2, HOQ.out, HBQ.out⟩
          case measure => simp [intOf]; omega
    · have HE : Hid (itsL c (s.take k) = itsL c s) := Lib.hid (by rw [List.take_of_length_le (by have := HN.out; omega)])
      rw [HE.out, ← HGS.out] at HNA HO
      go_wp2
      go_ret
      exact ⟨A, nA, cap, rfl, HNA.out, HCP.out.1, HCP.out.2.1, HCP.out.2.2, HO.out.less HBW.out.size, HBW.out.trans (HB.out.mono HBW.out.size)⟩
end Go.Proofs.Ytbimfopbilcdgaa

set_option linter.unusedSimpArgs false
set_option linter.unusedVariables false
set_option maxRecDepth 8000
namespace Go.Proofs.Ytbimfopbilcdgaa
open Go.RowKit Go.Sort Sm

section
variable {α : Type} {lt : α → α → Bool}
theorem zinsR_perm (y : α) (T : List α) : (insR lt y T).Perm (y :: T) := by
  induction T with
  | nil => exact List.Perm.refl _
  | cons e r ih =>
    rw [insR]; split
    · exact (ih.cons e).trans (List.Perm.swap y e r)
    · exact List.Perm.refl _
theorem zinsB_perm (y : α) (T : List α) : (insB lt y T).Perm (y :: T) := by
  unfold insB
  exact (List.reverse_perm _).trans ((zinsR_perm y _).trans ((List.reverse_perm T).cons y))
theorem zsm_perm (S R : List α) : (smerge lt S R).Perm (S ++ R) := by
  induction R generalizing S with
  | nil => rw [List.append_nil]; exact List.Perm.refl _
  | cons y r ih =>
    rw [sm_cons]
    refine (ih _).trans ?_
    refine ((zinsB_perm y S).append_right r).trans ?_
    exact List.perm_middle.symm
theorem zisort_perm (l : List α) : (isort lt l).Perm l := by
  have := zsm_perm (lt := lt) [] l
  rw [List.nil_append] at this; exact this
end
/-- Events that fit. -/
structure EvFit (l : List Ev) : Prop where
  val : ∀ x ∈ l, x.val < 18446744073709551616
  time : ∀ x ∈ l, -4398046511104 ≤ x.time ∧ x.time ≤ 4398046511104
  few : l.length ≤ 60
theorem EvFit.sorted {l : List Ev} (h : EvFit l) (c : Cf) : EvsOk c (isort ltE l) :=
  ⟨(isort_ordered wkE l).imp fun hxy => leE_of _ _ hxy, fun x hx => h.val x ((zisort_perm l).mem_iff.1 hx), fun x hx => h.time x ((zisort_perm l).mem_iff.1 hx), by rw [isort_len]; exact h.few⟩
/-- The groups of events. -/
def grps (c : Cf) (l : List Ev) : List Grp := grpsS c (isort ltE l)
/-- A slice of events that is handed in. -/
structure EvSl (w : World) (a : Option Addr) (n cp : Nat) (l : List Ev) : Prop where
  len : n = l.length
  nil : a = none → n = 0 ∧ cp = 0
  spot : ∀ x, a = some x → x.spot = none
  at' : EvAt w a l
theorem EvSl.keep {w w' : World} {a : Option Addr} {n cp : Nat} {l : List Ev} (h : EvSl w a n cp l) (hb : Below w.heap.size w w') : EvSl w' a n cp l := ⟨h.len, h.nil, h.spot, h.at'.keep hb⟩
theorem groups13_any (c : Cf) (h : c.Ok) (a : Option Addr) (n cp : Nat) (l : List Ev) (hl : EvFit l) (W : World) (HA : Hid (EvSl W a n cp l)) :
    Calls Try.prog 45 #[c.v, .slice a n cp] W (GrEnds W (grps c l)) := by
  refine groups_core c h a n cp (isort ltE l) (hl.sorted c) (by rw [isort_len]; exact HA.out.len) W (Lib.hid fun w hb => ?_)
  exact sortE_any a n cp l (Lib.hid HA.out.len) HA.out.nil HA.out.spot (by have := HA.out.len; have := hl.few; omega) w (Lib.hid (HA.out.at'.keep hb))
theorem grps_ok {c : Cf} (h : c.Ok) {l : List Ev} (hl : EvFit l) : GsOk (grps c l) := by
  have he := hl.sorted c
  exact gsOk_at h he.ord he.val he.few (p := itsL c (isort ltE l)) (t := []) (by simp)
/-- What is told of groups. -/
def pzOf (x : Grp) : Pz := ⟨x.p, telL x.vs⟩
def panesL (c : Cf) (l : List Ev) : List Pz := (grps c l).map pzOf
/-- What Panes ends with. -/
def PzEnds (W : World) (ps : List Pz) (e : Ending) (w' : World) : Prop := ∃ A n cap, e = .returned (.slice A n cap) ∧ n = ps.length ∧ n ≤ cap ∧ cap ≤ maxLen ∧ (A = none → cap = 0) ∧ OwnPz w' W.heap.size A n cap ps ∧ Below W.heap.size W w'
/-- All rows that are no panes' are kept. -/
def KeepP (w w' : World) : Prop := ∀ (k : Nat) (cs : Array Value) (T : TypeId) (m : Nat × Nat), w.heap[k]? = some (Obj.cells cs T m) → T ≠ 97 → w'.heap[k]? = some (Obj.cells cs T m)
theorem wp_append_pz {w : World} {o : Oper} {a : Act} {K : Act → World → Prop} {Q : Exit → Act → World → Prop} (s x : Operand)
    (ho : o.op = .call { callee := .builtin .append, args := #[s, x], argTypes := #[69, 69] })
    (B : Nat) (A : Option Addr) (n cap : Nat) (l : List Pz) (hs : a.eval s = .slice A n cap) (hown : OwnPz w B A n cap l) (h c : Nat) (y : Pz) (hx : a.eval x = .slice (some ⟨h, 0, none⟩) 1 c) (hrow : w.heap[h]? = some (.cells y.cells.toArray 97 (0, 0)))
    (N : Nat) (hN : N = n + 1) (hn : n + 1 ≤ 100000) (hbase : B ≤ w.heap.size)
    (hk : ∀ A' cap' w', OwnPz w' B A' N cap' (l ++ [y]) → N ≤ cap' → cap' ≤ maxLen → (A' = none → cap' = 0) → Below B w w' → KeepP w w' → K (a.put o.dst (.slice A' N cap')) w') : o.wp Try.prog a w K Q := by
  subst hN
  obtain ⟨i0, hi, hz0, hz1, hz2⟩ := info_parts infoPz
  obtain ⟨v', w', hr, ho2, hg, -, hloc⟩ := run_append_own_at (P := Try.prog) w B 69 o.type 97 i0 _ 8 72 Try.underlying69 hi hz0 hz1 hz2 rfl (by decide) _ n (pzs l) hown ⟨h, 0, none⟩ 1 c y.cells rfl (fun j u hu => by
    rw [addr_add, Nat.zero_add, cell_of_row _ _ _ _ _ _ hrow]; simpa using hu) (pz_one y) (by unfold maxLen; omega) (by omega) hbase
  have e : pzs l ++ y.cells = pzs (l ++ [y]) := by unfold pzs; rw [List.flatMap_append]; simp
  rw [e] at ho2
  obtain ⟨A1, c1, rfl, e2, e3, e4⟩ := pz_roslice ho2
  unfold Oper.wp execOp
  simp only [ho, resolve, invoke, builtin, Sem.run_bind, Sem.run_pure, Result.andThen_ok, List.map_toArray, List.map_cons, List.map_nil, hs, hx, hr]
  refine hk A1 c1 w' ho2 e2 e3 e4 ((Below.refl _ w).grown hg hbase (pz_robase hown)) (fun k cs T m hkk ht => ?_)
  refine (hg.block k (Array.getElem?_eq_some_iff.1 hkk).1 (fun e => ?_)).trans hkk
  rcases hown.2 with ⟨e0, e1⟩ | ⟨g, cap', cur, e0, hb, hg', -⟩
  · rw [e0] at e; cases e
  · rw [e0] at e
    have e : k = g := by injection e
    subst e
    rw [hg'] at hkk
    injection hkk with hkk; injection hkk with _ hkk _
    exact ht hkk.symm
set_option maxHeartbeats 8000000 in
theorem panes13_any (c : Cf) (h : c.Ok) (a : Option Addr) (n cp : Nat) (l : List Ev) (hl : EvFit l) (W : World) (HA : Hid (EvSl W a n cp l)) :
    Calls Try.prog 41 #[c.v, .slice a n cp] W (PzEnds W (panesL c l)) := by
  have HGA := Lib.hid fun w (hb : Below W.heap.size W w) => groups13_any c h a n cp l hl w (Lib.hid (HA.out.keep hb))
  have HGO := Lib.hid (grps_ok h hl)
  have HPL : Hid (panesL c l = (grps c l).map pzOf) := Lib.hid rfl
  generalize grps c l = gs at *
  generalize panesL c l = PL at *
  have HRC : Hid ((W.alloc (.cells #[.int .u8 (c.kind : Int), .int .i64 c.size, .int .i64 c.step, .int .i64 c.late, .int .i64 c.skew, .int .i64 c.parts, .int .u64 (c.cut : Int)] 64)).heap[W.heap.size]? = some (.cells #[.int .u8 (c.kind : Int), .int .i64 c.size, .int .i64 c.step, .int .i64 c.late, .int .i64 c.skew, .int .i64 c.parts, .int .u64 (c.cut : Int)] 64 (0, 0))) := Lib.hid (heap_new W _)
  clear h hl
  go_enter Try.func41, Try.ntmps41
  go_wp2_with (first
    | (refine wpList_load_row rfl 64 (.tmp 2) rfl W.heap.size rfl _ #[.int .u8 (c.kind : Int), .int .i64 c.size, .int .i64 c.step, .int .i64 c.late, .int .i64 c.skew, .int .i64 c.parts, .int .u64 (c.cut : Int)] (0, 0) _ HRC.out uCf rfl (by kernel_rfl) ?_)
    | (go_at_call 45; (with_reducible refine (HGA.out _ ((Below.refl _ _).alloc (Nat.le_refl _) _)).mono ?_); rintro e w2 ⟨A2, n2, cap2, rfl, hn2, h21, h22, h23, ho2, hb2⟩; have HN2 := Lib.hid hn2; have HO2 := Lib.hid ho2; have HB2 := Lib.hid hb2; clear hn2 h21 h22 h23 ho2 hb2))
  have HBW : Hid (Below W.heap.size W w2) := Lib.hid (((Below.refl _ _).alloc (Nat.le_refl _) _).trans (HB2.out.mono (by simp)))
  have n1000 : n2 ≤ 1000 := by have := HN2.out; have := HGO.out.few; omega
  obtain ⟨W2, rfl⟩ : ∃ W2, W2 = w2 := ⟨_, rfl⟩
  clear HB2
  go_loopw [5, 12] (fun p i wr => ∃ (k : Nat) (Ap : Option Addr) (np cq : Nat), k ≤ n2 ∧ i = .int .i64 k ∧ p = .slice Ap np cq ∧ np = k ∧ np ≤ cq ∧ cq ≤ maxLen ∧ (Ap = none → cq = 0) ∧ OwnPz wr W2.heap.size Ap np cq ((gs.take k).map pzOf) ∧ Below W2.heap.size W2 wr) (fun _ i _ => n2 - (intOf i).toNat)
  case atStart => exact ⟨0, none, 0, 0, Nat.zero_le _, rfl, rfl, rfl, Nat.le_refl _, Nat.zero_le _, fun _ => rfl, OwnPz.nil _ _, Below.refl _ _⟩
  case round =>
    obtain ⟨k, Ap, np, cq, hk, rfl, rfl, hnp, hq1, hq2, hq3, hop, hb⟩ := hrel
    have HNP := Lib.hid hnp; have HCQ := Lib.hid (And.intro hq1 (And.intro hq2 hq3)); have HOP := Lib.hid hop; have HB := Lib.hid hb
    clear hnp hq1 hq2 hq3 hop hb
    by_cases hin : k < n2
    · obtain ⟨x, hx⟩ : ∃ x, gs[k]? = some x := ⟨gs[k]'(by have := HN2.out; omega), List.getElem?_eq_getElem _⟩
      have hxm : x ∈ gs := List.mem_of_getElem? hx
      have HVA := Lib.hid (valueTL x.vs (HGO.out.ok x hxm).1)
      have HTK : Hid ((gs.take (k + 1)).map pzOf = (gs.take k).map pzOf ++ [⟨x.p, telL x.vs⟩]) := Lib.hid (by
        have h2 := List.getElem?_eq_some_iff.1 hx
        rw [List.take_succ_eq_append_getElem h2.1, h2.2, List.map_append]; rfl)
      have HO2r : OwnGr wr _ A2 n2 cap2 gs := HO2.out.below HB.out (fun g' off e => (HO2.out.lt g' off e).1)
      obtain ⟨ga, hA2, hga, hr2⟩ := HO2r.gsAt.hx k x hx
      subst hA2
      have HRX := Lib.hid hr2
      have hkI : (k : Int) < (n2 : Int) := by omega
      clear hx hxm hr2 HO2r hga
      obtain ⟨ps, hps⟩ : ∃ ps, ps = (gs.take k).map pzOf := ⟨_, rfl⟩
      rw [← hps] at HOP HTK
      clear hps
      go_upto_region 5 with (first
        | (refine wpList_load_mid rfl 91 (.tmp 14) rfl ga (k * 42) rfl x.cells _ HRX.out uGr rfl (iGrL x) ?_)
        | (refine wpList_store_row rfl 91 (.tmp 7) (.tmp 15) rfl _ x.cells.toArray rfl rfl _ _ (heap_alloc_new _ _) (iGr x) (by rw [show x.cells.toArray.size = 42 by simp [gr_len]]; rfl) (all_oneCell_toArray (gr_one x)) ?_; rw [World.setRow_alloc_new]))
      obtain ⟨wk, hwk⟩ : ∃ wk, wk = wr.alloc (.cells x.cells.toArray 91) := ⟨_, rfl⟩
      rw [← hwk]
      obtain ⟨bg, hbg⟩ : ∃ bg, bg = wr.heap.size := ⟨_, rfl⟩
      have HRG : Hid (wk.drew.heap[bg]? = some (.cells x.cells.toArray 91 (0, 0))) := Lib.hid (by show wk.heap[bg]? = _; rw [hwk, hbg]; exact heap_new wr _)
      have HBN : Hid (Below W2.heap.size W2 wk) := Lib.hid (by rw [hwk]; exact HB.out.alloc HB.out.size _)
      have HOD : Hid (OwnPz wk.drew W2.heap.size Ap np cq ps) := Lib.hid (by
        have h9 : OwnPz wk W2.heap.size Ap np cq ps := by rw [hwk]; exact HOP.out.below ((Below.refl _ _).alloc (Nat.le_refl _) _) (fun g' off e => (HOP.out.lt g' off e).1)
        exact h9.below ((Below.refl _ _).drew) (fun g' off e => (h9.lt g' off e).1))
      rw [← hbg]
      clear hwk hbg
      refine wp_region_held_drew (S := fun w' => w'.heap[bg]? = some (.cells x.cells.toArray 91 (0, 0))) (by kernel_rfl) HRG.out (fun hHeld => ?_)
      have hB := HBN.out.drew
      have hO := HOD.out
      refine wpAnyH_take (i := 0) (v := .slice Ap np cq) rfl (by kernel_rfl) (by kernel_rfl) (by kernel_rfl) (fun _ _ _ h => h) (Or.inl ⟨by rfl, fun _ _ => rfl⟩) hHeld ?_
      try dsimp only
      try simp only [Act.put, List.getElem_toArray, List.getElem_cons_zero, List.getElem_cons_succ, List.setIfInBounds_toArray, List.set_cons_zero, List.set_cons_succ]
      refine wpAnyH_take (i := 1) (v := .pointer (some ⟨bg, 0, none⟩)) rfl (by kernel_rfl) (by kernel_rfl) (by kernel_rfl) (fun _ _ _ h => h) (Or.inl ⟨by rfl, fun w _ => by go_simp⟩) hHeld ?_
      try dsimp only
      try simp only [Act.put, List.getElem_toArray, List.getElem_cons_zero, List.getElem_cons_succ, List.setIfInBounds_toArray, List.set_cons_zero, List.set_cons_succ]
      refine wpAnyH_take (i := 2) (v := .string x.p.key) rfl (by kernel_rfl) (by kernel_rfl) (by kernel_rfl) (fun _ _ _ h => h) (Or.inl ⟨by rfl, fun w hw => by have hr9 : w.rangeAt bg (0) [.string x.p.key, .int .i64 x.p.s, .int .i64 x.p.e] := (z3 (zrow hw)); have hc : w.cell? ⟨bg, 0, none⟩ = some (.string x.p.key) := (by have h9 := hr9 0 _ rfl; rw [Nat.zero_add] at h9; exact h9); go_simp⟩) hHeld ?_
      try dsimp only
      try simp only [Act.put, List.getElem_toArray, List.getElem_cons_zero, List.getElem_cons_succ, List.setIfInBounds_toArray, List.set_cons_zero, List.set_cons_succ]
      refine wpAnyH_take (i := 3) (v := .pointer (some ⟨bg, 1, none⟩)) rfl (by kernel_rfl) (by kernel_rfl) (by kernel_rfl) (fun _ _ _ h => h) (Or.inl ⟨by rfl, fun w _ => by go_simp⟩) hHeld ?_
      try dsimp only
      try simp only [Act.put, List.getElem_toArray, List.getElem_cons_zero, List.getElem_cons_succ, List.setIfInBounds_toArray, List.set_cons_zero, List.set_cons_succ]
      refine wpAnyH_take (i := 4) (v := .agg [.int .i64 x.p.s, .int .i64 x.p.e].toArray) rfl (by kernel_rfl) (by kernel_rfl) (by kernel_rfl) (fun _ _ _ h => h) (yieldsIf_load_mid rfl 84 (.tmp 19) rfl bg (1) rfl [.int .i64 x.p.s, .int .i64 x.p.e] _ (fun w hw => rsub (cs := [.string x.p.key, .int .i64 x.p.s, .int .i64 x.p.e]) (z3 (zrow hw)) 1 2 _ rfl _ (by simp)) uWn rfl (by kernel_rfl)) hHeld ?_
      try dsimp only
      try simp only [Act.put, List.getElem_toArray, List.getElem_cons_zero, List.getElem_cons_succ, List.setIfInBounds_toArray, List.set_cons_zero, List.set_cons_succ]
      refine wpAnyH_take (i := 5) (v := .pointer (some ⟨bg, 3, none⟩)) rfl (by kernel_rfl) (by kernel_rfl) (by kernel_rfl) (fun _ _ _ h => h) (Or.inl ⟨by rfl, fun w _ => by go_simp⟩) hHeld ?_
      try dsimp only
      try simp only [Act.put, List.getElem_toArray, List.getElem_cons_zero, List.getElem_cons_succ, List.setIfInBounds_toArray, List.set_cons_zero, List.set_cons_succ]
      refine wpAnyH_take (i := 6) (v := .agg (TL x.vs)) rfl (by kernel_rfl) (by kernel_rfl) (by kernel_rfl) (fun _ _ _ h => h) (yieldsIf_load_mid rfl 89 (.tmp 21) rfl bg (0 + 3) rfl (TL x.vs).toList _ (fun w hw => zst (zrow hw)) uT rfl (iTL _)) hHeld ?_
      try dsimp only
      try simp only [Act.put, List.getElem_toArray, List.getElem_cons_zero, List.getElem_cons_succ, List.setIfInBounds_toArray, List.set_cons_zero, List.set_cons_succ]
      refine wpAnyH_ready (rs := [7]) (by kernel_rfl) (by simp) (AllReadyH.cons rfl (fun K hK => ?_) AllReadyH.nil)
      go_simp
      refine (HVA.out _).mono ?_
      rintro e w9 ⟨rfl, hb9⟩
      replace hHeld := row_keep hHeld hb9
      replace hO := hO.below hb9 (fun g' off e => (hO.lt g' off e).1)
      replace hB := bto hB hb9
      clear hb9
      refine hK.out _ _ hHeld (fun hHeld => ?_)
      clear hK K
      try dsimp only
      try simp only [Act.put, List.getElem_toArray, List.getElem_cons_zero, List.getElem_cons_succ, List.setIfInBounds_toArray, List.set_cons_zero, List.set_cons_succ]
      refine wpAnyH_take (i := 8) (v := .agg #[.string x.p.key, .int .i64 x.p.s, .int .i64 x.p.e, .int .u64 ((telL x.vs).c : Int), .float .f64 (telL x.vs).s, .bool (telL x.vs).o, .float .f64 (telL x.vs).lo, .float .f64 (telL x.vs).hi]) rfl (by kernel_rfl) (by kernel_rfl) (by kernel_rfl) (fun _ _ _ h => h) (Or.inl ⟨by rfl, fun w _ => by go_simp⟩) hHeld ?_
      try dsimp only
      try simp only [Act.put, List.getElem_toArray, List.getElem_cons_zero, List.getElem_cons_succ, List.setIfInBounds_toArray, List.set_cons_zero, List.set_cons_succ]
      refine wpAnyH_ready (rs := [9]) (by kernel_rfl) (by simp) (AllReadyH.cons rfl (fun K hK => ?_) AllReadyH.nil)
      go_simp
      refine hK.out _ _ (row_alloc' hHeld _) (fun hHeld => ?_)
      clear hK K
      try dsimp only
      try simp only [Act.put, List.getElem_toArray, List.getElem_cons_zero, List.getElem_cons_succ, List.setIfInBounds_toArray, List.set_cons_zero, List.set_cons_succ]
      refine wpAnyH_ready (rs := [10]) (by kernel_rfl) (by simp) (AllReadyH.cons rfl (fun K hK => ?_) AllReadyH.nil)
      rw [if_pos (by rfl)]
      refine wp_append_pz (.tmp 16) (.tmp 25) rfl W2.heap.size Ap np cq ps rfl (hO.below ((Below.refl _ _).alloc (Nat.le_refl _) _) (fun g' off e => (hO.lt g' off e).1)) w9.heap.size 1 ⟨x.p, telL x.vs⟩ rfl (zheap_new' _ _ _ rfl) (np + 1) rfl (by have := HNP.out; omega) (by have h9 := hB.size; simp; omega) ?_
      intro A3 c3 w3 ho3 hc3 hm3 hn3 hb3 hg3
      refine hK.out _ _ (hg3 bg _ _ _ hHeld (by decide)) (fun _ => ?_)
      clear hK K
      try dsimp only
      try simp only [Act.put, List.getElem_toArray, List.getElem_cons_zero, List.getElem_cons_succ, List.setIfInBounds_toArray, List.set_cons_zero, List.set_cons_succ]
      refine wpAnyH_take (i := 11) (v := .slice A3 (np + 1) c3) rfl (by kernel_rfl) (by kernel_rfl) (by kernel_rfl) (fun _ _ _ h => h) (Or.inl ⟨by rfl, fun _ _ => rfl⟩) (hg3 bg _ _ _ hHeld (by decide)) ?_
      try dsimp only
      try simp only [Act.put, List.getElem_toArray, List.getElem_cons_zero, List.getElem_cons_succ, List.setIfInBounds_toArray, List.set_cons_zero, List.set_cons_succ]
      refine wpAnyH_done (by kernel_rfl) ?_ _
      have HO3 := Lib.hid ho3; have HC3 := Lib.hid (And.intro hc3 (And.intro hm3 hn3)); have HB3 := Lib.hid ((hB.alloc hB.size _).trans hb3)
      clear ho3 hc3 hm3 hn3 hb3 hg3 hB hO hHeld
      go_wp2
      go_roundw
      case rel => exact ⟨k + 1, A3, np + 1, c3, hin, by go_num, rfl, by rw [HNP.out], HC3.out.1, HC3.out.2.1, HC3.out.2.2, by rw [HTK.out]; exact HO3.out, HB3.out⟩
      case measure => simp [intOf]; omega
    · have HE : Hid ((gs.take k).map pzOf = PL) := Lib.hid (by rw [List.take_of_length_le (by have := HN2.out; omega)]; exact HPL.out.symm)
      rw [HE.out] at HOP
      go_wp2
      go_ret
      exact ⟨Ap, np, cq, rfl, HOP.out.len, HCQ.out.1, HCQ.out.2.1, HCQ.out.2.2, HOP.out.less HBW.out.size, HBW.out.trans (HB.out.mono HBW.out.size)⟩
end Go.Proofs.Ytbimfopbilcdgaa

set_option linter.unusedSimpArgs false
set_option linter.unusedVariables false
set_option maxRecDepth 8000
namespace Go.Proofs.Ytbimfopbilcdgaa
open Go.RowKit Go.Sort

theorem ro_slice {w : World} {B n : Nat} {v : Value} {xs : List Value} (h : w.ownsRow B 76 5 v n xs) : ∃ A cap, v = .slice A n cap ∧ n ≤ cap ∧ cap ≤ maxLen ∧ (A = none → cap = 0) := by
  rcases h.2 with ⟨e0, e1⟩ | ⟨g, cap', cur, e0, -, -, h1, h2, -⟩
  · exact ⟨none, 0, by rw [e0, e1], by omega, Nat.zero_le _, fun _ => rfl⟩
  · exact ⟨_, _, e0, h1, h2, fun h => by cases h⟩
theorem ro_base {w : World} {B n cap : Nat} {A : Option Addr} {l : List Ev} (h : OwnE w B A n cap l) : ∀ k, (Value.slice A n cap).ownBlock = some k → B ≤ k := by
  intro k hk
  rcases h.2 with ⟨e0, e1⟩ | ⟨g, cap', cur, e0, hb, -⟩
  · rw [e0] at hk; cases hk
  · rw [e0] at hk; cases hk; exact hb
/-- append of events, the source nil, empty or not. -/
theorem wpList_append_ev {w : World} {ops : Array Oper} {rest : List Oper} {o : Oper} {ac : Act} {Q : Exit → Act → World → Prop} (hgd : o.guard = none) (s x : Operand)
    (ho : o.op = .call { callee := .builtin .append, args := #[s, x], argTypes := #[66, 66] })
    (B : Nat) (A : Option Addr) (n cap : Nat) (l : List Ev) (hs : ac.eval s = .slice A n cap) (hown : OwnE w B A n cap l) (a : Option Addr) (m c : Nat) (l2 : List Ev) (hx : ac.eval x = .slice a m c) (hm : m = l2.length) (h2 : EvAt w a l2) (hnil : a = none → c = 0)
    (N : Nat) (hN : N = n + m) (hbytes : n + m ≤ 1000) (hbase : B ≤ w.heap.size)
    (h : ∀ A' cap' w', OwnE w' B A' N cap' (l ++ l2) → N ≤ cap' → cap' ≤ maxLen → (A' = none → cap' = 0) → Below B w w' → wpList Try.prog ops Q rest (ac.put o.dst (.slice A' N cap')) w') : wpList Try.prog ops Q (o :: rest) ac w := by
  subst hN
  obtain ⟨i0, hi, hz0, hz1, hz2⟩ := info_parts infoEv
  rcases a with _ | ad
  · obtain rfl := hnil rfl
    have hl2 : l2 = [] := by
      rcases l2 with _ | ⟨x, r⟩
      · rfl
      · obtain ⟨g, off, e, -⟩ := h2 0 (.int .u64 (x.off : Int)) rfl; cases e
    subst hl2
    have h0 : m = 0 := hm
    subst h0
    obtain ⟨A1, c1, e1, e2, e3, e4⟩ := ro_slice hown
    injection e1 with b1 b2 b3
    subst b1; subst b3
    refine wpList_append_own_none hgd s x 66 ho B 76 i0 5 Try.underlying66 hi (.slice A n cap) n (evs l) hs hown hx ?_
    exact h A cap w (by rw [List.append_nil]; exact hown) e2 e3 e4 (Below.refl _ _)
  · refine wpList_append_own_at w hgd s x 66 ho B 76 i0 _ 5 48 Try.underlying66 hi hz0 hz1 hz2 rfl (by decide) (.slice A n cap) n (evs l) hs hown ad m c (evs l2) hx (by rw [evs_length, hm]) (fun j u hu => by
      obtain ⟨g', off', e, -, hc⟩ := h2 j u hu
      injection e with e; subst e
      rw [Addr.add_lit]; exact hc) (evs_one l2) (by unfold maxLen; omega) (by omega) hbase ?_
    intro v' w2 hown2 hgr _ _
    have e : evs l ++ evs l2 = evs (l ++ l2) := by unfold evs; rw [List.flatMap_append]
    rw [e] at hown2
    obtain ⟨A1, c1, rfl, e2, e3, e4⟩ := ro_slice hown2
    exact h A1 c1 w2 hown2 e2 e3 e4 ((Below.refl _ w).grown hgr hbase (ro_base hown))
theorem evs_take (l : List Ev) (k j : Nat) (v : Value) (h : (evs (l.take k))[j]? = some v) : (evs l)[j]? = some v := by
  have e : evs l = evs (l.take k) ++ evs (l.drop k) := by unfold evs; rw [← List.flatMap_append, List.take_append_drop]
  rw [e, List.getElem?_append_left (List.getElem?_eq_some_iff.1 h).1, h]
theorem evs_drop (l : List Ev) (k : Nat) (hk : k ≤ l.length) (j : Nat) : (evs (l.drop k))[j]? = (evs l)[k * 5 + j]? := by
  have e : evs l = evs (l.take k) ++ evs (l.drop k) := by unfold evs; rw [← List.flatMap_append, List.take_append_drop]
  have hl : (evs (l.take k)).length = k * 5 := by rw [evs_length, List.length_take, Nat.min_eq_left hk]
  rw [e, List.getElem?_append_right (by omega), hl, Nat.add_sub_cancel_left]
theorem ecut_from (a : Option Addr) (len cap k : Nat) (hk : k ≤ len) (hc : len ≤ cap) (hnil : a = none → cap = 0) :
    ∃ A C, (∀ w, (Instr.slice 66 (.slice a len cap) (some (.int .i64 (k : Int))) none none).run Try.prog w = .ok (.slice A (len - k) C) w) ∧ (A = none → C = 0) ∧ ∀ w l, len = l.length → EvAt w a l → EvAt w A (l.drop k) := by
  refine ⟨if cap = k then a else a.map (·.add (k * 5)), cap - k, fun w => ?_, fun h => ?_, fun w l hl h j x hx => ?_⟩
  · rw [run_slice_l w 66 a len cap Try.underlying66 .i64 (k : Int) (by omega) (by omega)]
    rw [show (Go.sizeOf (Try.prog.elem 66)).run Try.prog w = .ok 5 w from by kernel_rfl]
    simp [Result.andThen, sliced]
  · split at h
    · omega
    · rcases a with _ | a
      · have := hnil rfl; omega
      · cases h
  · have hkl : k < l.length := by
      have := (List.getElem?_eq_some_iff.1 hx).1
      rw [evs_length, List.length_drop] at this; omega
    rw [evs_drop l k (by omega)] at hx
    obtain ⟨g, off, rfl, hg, hcell⟩ := h _ _ hx
    rw [if_neg (by omega)]
    exact ⟨g, off + k * 5, by simp [Addr.add_lit], hg, by rw [Nat.add_assoc]; exact hcell⟩
theorem ecut_to (a : Option Addr) (len cap k : Nat) (hk : k ≤ len) (hc : len ≤ cap) (hnil : a = none → cap = 0) :
    ∃ A, (∀ w, (Instr.slice 66 (.slice a len cap) none (some (.int .i64 (k : Int))) none).run Try.prog w = .ok (.slice A k cap) w) ∧ (A = none → cap = 0) ∧ ∀ w l, len = l.length → EvAt w a l → EvAt w A (l.take k) := by
  refine ⟨if cap = 0 then a else a.map (·.add 0), fun w => ?_, fun h => ?_, fun w l hl h j x hx => ?_⟩
  · rw [run_slice_h w 66 a len cap Try.underlying66 .i64 (k : Int) (by omega) (by omega)]
    rw [show (Go.sizeOf (Try.prog.elem 66)).run Try.prog w = .ok 5 w from by kernel_rfl]
    simp [Result.andThen, sliced]
  · split at h
    · omega
    · rcases a with _ | a
      · have := hnil rfl; omega
      · cases h
  · obtain ⟨g, off, rfl, hg, hcell⟩ := h _ _ (evs_take l k j x hx)
    exact ⟨g, off, by simp [Addr.add_lit], hg, hcell⟩

/-- The place of an insertion. -/
def InsAt (x : Ev) (s : List Ev) (k : Nat) : Prop := insB (ltOf evCmp) x s = insB (ltOf evCmp) x (s.take k) ++ s.drop k
theorem InsAt.start (x : Ev) (s : List Ev) (k : Nat) (hk : k = s.length) : InsAt x s k := by subst hk; unfold InsAt; simp
theorem InsAt.step {x y : Ev} {s : List Ev} {k : Nat} (h : InsAt x s (k + 1)) (hy : s[k]? = some y) (hl : lessB x y = true) : InsAt x s k := by
  unfold InsAt at *
  obtain ⟨hk, rfl⟩ := List.getElem?_eq_some_iff.1 hy
  have hl' : ltOf evCmp x s[k] = true := hl
  rw [h, List.take_succ_eq_append_getElem hk, insB_snoc, if_pos hl', List.append_assoc]
  congr 1
  rw [List.drop_eq_getElem_cons hk]; rfl
theorem InsAt.stop {x y : Ev} {s : List Ev} {k : Nat} (h : InsAt x s (k + 1)) (hy : s[k]? = some y) (hl : lessB x y = false) : insB (ltOf evCmp) x s = (s.take (k + 1) ++ [x]) ++ s.drop (k + 1) := by
  unfold InsAt at h
  obtain ⟨hk, rfl⟩ := List.getElem?_eq_some_iff.1 hy
  have hl' : ¬ ltOf evCmp x s[k] = true := by have e : ltOf evCmp x s[k] = false := hl; rw [e]; decide
  have e : s.take k ++ [s[k]] = s.take (k + 1) := (List.take_succ_eq_append_getElem hk).symm
  rw [h, ← e, insB_snoc, if_neg hl', List.append_assoc (s.take k) [s[k]] [x]]; rfl
theorem InsAt.zero {x : Ev} {s : List Ev} (h : InsAt x s 0) : insB (ltOf evCmp) x s = (s.take 0 ++ [x]) ++ s.drop 0 := by
  unfold InsAt at h; rw [h]; simp [insB_nil]
theorem isort_snoc (l : List Ev) (i : Nat) (x : Ev) (hx : l[i]? = some x) : isort (ltOf evCmp) (l.take (i + 1)) = insB (ltOf evCmp) x (isort (ltOf evCmp) (l.take i)) := by
  obtain ⟨hk, rfl⟩ := List.getElem?_eq_some_iff.1 hx
  unfold isort
  rw [List.take_succ_eq_append_getElem hk, sm_append]; rfl
theorem isort_length (l : List Ev) : (isort (ltOf evCmp) l).length = l.length := by unfold isort; rw [sm_len]; simp
theorem OwnE.at' {w : World} {B n cap : Nat} {A : Option Addr} {l : List Ev} (h : OwnE w B A n cap l) : EvAt w A l := fun j v hv => by
  have hjl := (List.getElem?_eq_some_iff.1 hv).1
  rcases h.2 with ⟨e0, e1⟩ | ⟨g, cap', cur, e0, hb, hg, hn, hm, hs, ht⟩
  · have := h.1; rw [e1, Nat.zero_mul] at this; omega
  · injection e0 with a1 a2 a3
    subst a1
    refine ⟨g, 0, rfl, (Array.getElem?_eq_some_iff.1 hg).1, ?_⟩
    rw [cell_of_row _ _ _ _ _ _ hg, Nat.zero_add, ← Array.getElem?_toList]
    have := h.1
    rw [← ht, List.getElem?_take] at hv
    rw [if_pos (by omega)] at hv
    exact hv
theorem evr {w : World} {A : Option Addr} {l : List Ev} (h : EvAt w A l) (i : Nat) (x : Ev) (hx : l[i]? = some x) : ∃ g off, A = some ⟨g, off, none⟩ ∧ g < w.heap.size ∧ w.rangeAt g (off + i * 5) x.cells := by
  have h0 : (evs l)[i * 5 + 0]? = x.cells[0]? := by rw [evs_get l i 0 (by decide), hx]; rfl
  obtain ⟨g, off, e, hg, -⟩ := h (i * 5 + 0) (.int .u64 (x.off : Int)) (by rw [h0]; rfl)
  refine ⟨g, off, e, hg, fun j v hv => ?_⟩
  have hj : j < 5 := (List.getElem?_eq_some_iff.1 hv).1
  have h1 : (evs l)[i * 5 + j]? = some v := by rw [evs_get l i j hj, hx]; exact hv
  obtain ⟨g', off', e', -, hc⟩ := h _ _ h1
  rw [e] at e'; injection e' with e'; injection e' with b1 b2; subst b1; subst b2
  rw [Nat.add_assoc]; exact hc
theorem rkeep {w w' : World} {g o : Nat} {x : Ev} (h : w.rangeAt g o x.cells) (hg : g < w.heap.size) (hb : Below w.heap.size w w') : w'.rangeAt g o x.cells := fun j v hv => (hb.cell (p := ⟨g, o + j, none⟩) hg).trans (h j v hv)
theorem OwnE.less {w : World} {B B' n cap : Nat} {A : Option Addr} {l : List Ev} (h : OwnE w B A n cap l) (hB : B' ≤ B) : OwnE w B' A n cap l := by
  refine ⟨h.1, ?_⟩
  rcases h.2 with h1 | ⟨g, cap', cur, h1, hb, h2⟩
  · exact .inl h1
  · exact .inr ⟨g, cap', cur, h1, Nat.le_trans hB hb, h2⟩
end Go.Proofs.Ytbimfopbilcdgaa

set_option linter.unusedSimpArgs false
set_option linter.unusedVariables false
set_option maxRecDepth 8000
namespace Go.Proofs.Ytbimfopbilcdgaa
open Go.RowKit Go.Sort Sm

def winZ (a b c d : Int) : Bool := decide (a = c) && decide (b = d)
theorem winEqualZ (a b c d : Int) (w : World) : (Op.equalIn 10000 84 (.agg #[.int .i64 a, .int .i64 b]) (.agg #[.int .i64 c, .int .i64 d])).run Try.prog w = .ok (winZ a b c d) w := by
  unfold winZ
  go_simp
  by_cases h1 : a = c <;> by_cases h2 : b = d <;> simp [h1, h2]
theorem winEqlZ_run (a b c d : Int) (w : World) : (binOp .eql 84 (.agg #[.int .i64 a, .int .i64 b]) (.agg #[.int .i64 c, .int .i64 d])).run Try.prog w = .ok (.bool (winZ a b c d)) w := by
  rw [run_eql_struct, winEqualZ]; rfl
theorem winNeqZ_run (a b c d : Int) (w : World) : (binOp .neq 84 (.agg #[.int .i64 a, .int .i64 b]) (.agg #[.int .i64 c, .int .i64 d])).run Try.prog w = .ok (.bool (!winZ a b c d)) w := by
  rw [run_neq_struct, winEqualZ]; rfl
/-- Events that a call owns are a slice to hand in. -/
theorem evSl_own {w : World} {B n cap : Nat} {A : Option Addr} {l : List Ev} (h : OwnE w B A n cap l) : EvSl w A n cap l := by
  have hl : n = l.length := by have := h.1; rw [evs_length] at this; omega
  refine ⟨hl, fun e => ?_, fun x hx => ?_, h.at⟩
  · subst e
    rcases h.2 with ⟨e0, e1⟩ | ⟨g, cap', cur, e0, -⟩
    · injection e0 with _ e2 e3; exact ⟨e1, e3⟩
    · cases e0
  · subst hx
    rcases h.2 with ⟨e0, _⟩ | ⟨g, cap', cur, e0, -⟩
    · cases e0
    · injection e0 with e0; injection e0 with e0; rw [e0]
theorem ownE_below {w w' : World} {B B' n cap : Nat} {A : Option Addr} {l : List Ev} (h : OwnE w B A n cap l) (hb : Below B' w w') (hA : w.heap.size ≤ B') : OwnE w' B A n cap l := by
  refine ⟨h.1, ?_⟩
  rcases h.2 with h1 | ⟨g, cap', cur, h1, hb1, h2, h3⟩
  · exact .inl h1
  · exact .inr ⟨g, cap', cur, h1, hb1, (hb.block g (Nat.lt_of_lt_of_le (Array.getElem?_eq_some_iff.1 h2).1 hA)).trans h2, h3⟩
theorem ev_new (w : World) (g : Nat) (l : List Ev) (cs : Array Value) (hcs : cs.toList = evs l) (t : TypeId) (hg : g = w.heap.size) : EvAt (w.alloc (.cells cs t)) (some ⟨g, 0, none⟩) l := by subst hg; exact evAt_new w l cs hcs t
def awT : List Int := [1, 4, 8, 20]
def awE (t : Int) : Ev := ⟨0, 0, t, ByteArray.empty, 4607182418800017408⟩
def awL : List Ev := awT.map awE
def awC : Cf := ⟨2, 5, 0, 0, 0, 1, 0⟩
theorem awC_ok : awC.Ok := ⟨by decide, by decide, by decide, by decide, by decide, by decide, by decide, by decide, by decide, by decide, by decide, by decide⟩
theorem awFit : EvFit awL := ⟨by decide, by decide, by decide⟩
theorem awG : grps awC awL = [⟨⟨ByteArray.empty, 1, 13⟩, [4607182418800017408, 4607182418800017408, 4607182418800017408]⟩, ⟨⟨ByteArray.empty, 20, 25⟩, [4607182418800017408]⟩] := by kernel_rfl
theorem awP : ∃ t1 t2 : Tel, panesL awC awL = [⟨⟨ByteArray.empty, 1, 13⟩, t1⟩, ⟨⟨ByteArray.empty, 20, 25⟩, t2⟩] := by
  unfold panesL
  rw [awG]
  exact ⟨_, _, rfl⟩
def RAw (w W1 : World) (l i : Value) (wr : World) : Prop := ∃ (k cap : Nat) (A : Option Addr), k ≤ 4 ∧ i = .int .i64 k ∧ l = .slice A k cap ∧ OwnE wr (w.heap.size + 1) A k cap (awL.take k) ∧ Below (w.heap.size + 1) W1 wr
theorem awNext (k : Nat) (h : k < 4) : ∃ t, awT[k]? = some t ∧ awL.take (k + 1) = awL.take k ++ [awE t] := by
  rcases k with _ | _ | _ | _ | k
  · exact ⟨1, rfl, rfl⟩
  · exact ⟨4, rfl, rfl⟩
  · exact ⟨8, rfl, rfl⟩
  · exact ⟨20, rfl, rfl⟩
  · omega
set_option maxHeartbeats 4000000 in
theorem awake13_any (w : World) : Calls Try.prog 37 #[] w fun e w' => e = .returned (.bool true) ∧ Below w.heap.size w w' := by
  obtain ⟨t1, t2, hP⟩ := awP
  have HP := Lib.hid hP
  clear hP
  have hz1 : ∀ w, (binOp .eql 84 (.agg #[.int .i64 1, .int .i64 13]) (.agg #[.int .i64 1, .int .i64 13])).run Try.prog w = .ok (.bool true) w := fun w => winEqlZ_run 1 13 1 13 w
  have hz2 : ∀ w, (binOp .eql 84 (.agg #[.int .i64 20, .int .i64 25]) (.agg #[.int .i64 20, .int .i64 25])).run Try.prog w = .ok (.bool true) w := fun w => winEqlZ_run 20 25 20 25 w
  have HW1 : Hid (Below (w.heap.size + 1) (w.alloc (.cells #[.int .i64 1, .int .i64 4, .int .i64 8, .int .i64 20] 2)) (w.alloc (.cells #[.int .i64 1, .int .i64 4, .int .i64 8, .int .i64 20] 2))) := Lib.hid (Below.refl _ _)
  have HW0 : Hid (Below w.heap.size w (w.alloc (.cells #[.int .i64 1, .int .i64 4, .int .i64 8, .int .i64 20] 2))) := Lib.hid ((Below.refl _ _).alloc (Nat.le_refl _) _)
  go_enter Try.func37, Try.ntmps37
  go_wp2
  go_loopw [1, 3] (fun l i wr => RAw w (w.alloc (.cells #[.int .i64 1, .int .i64 4, .int .i64 8, .int .i64 20] 2)) l i wr) (fun _ i _ => 4 - (intOf i).toNat)
  case atStart => exact ⟨0, 0, none, Nat.zero_le _, rfl, rfl, World.ownsRow_nil _ _ _ 5, HW1.out⟩
  case round =>
    obtain ⟨k, cap, A, hk, rfl, rfl, ho, hb⟩ := hrel
    have HO := Lib.hid ho
    have HB := Lib.hid hb
    clear ho hb
    by_cases hlt : k < 4
    · obtain ⟨t, ht, htk⟩ := awNext k hlt
      have HTK := Lib.hid htk
      have hc : wr.cell? ⟨w.heap.size, k, none⟩ = some (.int .i64 t) := by
        rw [HB.out.cell (p := ⟨w.heap.size, k, none⟩) (by show w.heap.size < w.heap.size + 1; omega), cell_of_row _ _ _ _ _ _ (heap_new w _)]
        have e : (#[Value.int .i64 1, .int .i64 4, .int .i64 8, .int .i64 20] : Array Value)[k]? = (awT[k]?).map (Value.int .i64) := by
          rcases k with _ | _ | _ | _ | k
          · rfl
          · rfl
          · rfl
          · rfl
          · omega
        rw [e, ht]; rfl
      clear ht htk
      go_wp2_with (at_builtin; refine wpList_append_ev rfl _ _ rfl (w.heap.size + 1) A k cap (awL.take k) rfl (ownE_below HO.out ((Below.refl _ _).alloc (Nat.le_refl _) _) (Nat.le_refl _)) (some ⟨wr.heap.size, 0, none⟩) 1 1 [awE t] rfl rfl (ev_new wr _ [awE t] _ rfl _ rfl) (fun h => by cases h) (k + 1) rfl (by omega) (by have h9 := HB.out.size; simp at h9 ⊢; omega) ?_; intro A3 c3 w3 ho3 hc3 hm3 hn3 hb3; have HO3 := Lib.hid ho3; have HB3 := Lib.hid ((HB.out.alloc (by have h9 := HB.out.size; simp at h9; omega) _).trans hb3); clear ho3 hc3 hm3 hn3 hb3)
      go_roundw
      case rel => exact ⟨k + 1, c3, A3, hlt, by go_num, rfl, by rw [HTK.out]; exact HO3.out, HB3.out⟩
      case measure => simp [intOf]; omega
    · obtain rfl : k = 4 := by omega
      have HAW : Hid (EvSl wr A 4 cap awL) := Lib.hid (evSl_own HO.out)
      have HPN : Hid (Calls Try.prog 41 #[.agg #[.int .u8 2, .int .i64 5, .int .i64 0, .int .i64 0, .int .i64 0, .int .i64 1, .int .u64 0], .slice A 4 cap] wr (PzEnds wr (panesL awC awL))) := Lib.hid (panes13_any awC awC_ok A 4 cap awL awFit wr HAW)
      rw [HP.out] at HPN
      go_upto_region 8 with (go_at_call 41; (with_reducible refine HPN.out.mono ?_); rintro e w4 ⟨A4, n4, c4, rfl, hn4, -, -, -, ho4, hb4⟩; have HO4 := Lib.hid ho4; have HB4 := Lib.hid hb4; clear hb4 ho4)
      obtain rfl : n4 = 2 := hn4
      obtain ⟨gp, op, hAp, hgp, hrp⟩ := pzr HO4.out.at' 0 _ rfl
      obtain rfl : op = 0 := (HO4.out.lt gp op hAp).2.2
      obtain ⟨gp', op', hAp', hgp', hrp'⟩ := pzr HO4.out.at' 1 _ rfl
      rw [hAp] at hAp'; injection hAp' with hAp'; injection hAp' with h1 h2
      subst h1; subst h2; subst hAp
      have c1 : w4.cell? ⟨gp, 1, none⟩ = some (.int .i64 1) := hrp 1 _ rfl
      have c2 : w4.cell? ⟨gp, 2, none⟩ = some (.int .i64 13) := hrp 2 _ rfl
      have c3 : w4.cell? ⟨gp, 9, none⟩ = some (.int .i64 20) := hrp' 1 _ rfl
      have c4 : w4.cell? ⟨gp, 10, none⟩ = some (.int .i64 25) := hrp' 2 _ rfl
      clear hrp hrp' hgp hgp'
      go_wp2
      go_ret
      exact ⟨rfl, HW0.out.trans ((HB.out.mono (by omega)).trans (HB4.out.mono (by have h9 := HB.out.size; simp at h9; omega)))⟩
end Go.Proofs.Ytbimfopbilcdgaa
