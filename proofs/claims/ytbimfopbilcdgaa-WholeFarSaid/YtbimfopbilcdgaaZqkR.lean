/-
  Layer whole: the document's session in memory: a window that grows round by round.
-/
import Derived.Test.YtbimfopbilcdgaaZqgR
import Derived.Test.YtbimfopbilcdgaaZyQ
set_option linter.unusedSimpArgs false
set_option linter.unusedVariables false
set_option maxRecDepth 8000
namespace Go.Proofs.Ytbimfopbilcdgaa
open Go.RowKit Go.Sort Sm

/-- What the document's session is of an event. -/
def SesP (sz : Int) (l : List Ev) (x : Ev) (p : ZP) : Prop := Tight sz l p ∧ Shut sz l p ∧ p.key = x.key ∧ p.s ≤ x.time ∧ x.time + sz ≤ p.e
theorem SesP.one {sz : Int} (hs : 1 ≤ sz) {l : List Ev} {x : Ev} {p q : ZP} (h : SesP sz l x p) (g : SesP sz l x q) : p = q :=
  tight_one h.1 h.2.1 g.1 g.2.1 (h.2.2.1.trans g.2.2.1.symm) (by have := h.2.2.2; omega) (by have := g.2.2.2; omega) (by have := h.2.2.2; have := g.2.2.2; omega) (by have := h.2.2.2; have := g.2.2.2; omega)
instance : Nonempty ZP := ⟨⟨ByteArray.empty, 0, 0⟩⟩
/-- .. as a window. -/
noncomputable def wS (sz : Int) (l : List Ev) (x : Ev) : ZP := Classical.epsilon (SesP sz l x)
theorem wS_is {sz : Int} (hs : 1 ≤ sz) {l : List Ev} {x : Ev} {p : ZP} (h : SesP sz l x p) : SesP sz l x (wS sz l x) ∧ wS sz l x = p := by
  have h1 := Classical.epsilon_spec (p := SesP sz l x) ⟨p, h⟩
  exact ⟨h1, SesP.one hs h1 h⟩
theorem b_addI {a b : Int} (h1 : -9223372036854775808 ≤ a + b) (h2 : a + b ≤ 9223372036854775807) (w : World) : (binOp .add 2 (.int .i64 a) (.int .i64 b)).run Try.prog w = .ok (.int .i64 (a + b)) w := by
  have h9 : IntKind.i64.wrap (a + b) = a + b := IntWalk.i64_in _ (by omega)
  go_simp
theorem b_leqI {a b : Int} {r : Bool} (h : decide (a ≤ b) = r) (w : World) : (binOp .leq 2 (.int .i64 a) (.int .i64 b)).run Try.prog w = .ok (.bool r) w := by
  subst h
  go_simp
theorem b_geqI {a b : Int} {r : Bool} (h : decide (b ≤ a) = r) (w : World) : (binOp .geq 2 (.int .i64 a) (.int .i64 b)).run Try.prog w = .ok (.bool r) w := by
  subst h
  go_simp
theorem b_neK {a b : ByteArray} {r : Bool} (h : keyZ a b = !r) (w : World) : (binOp .neq 9 (.string a) (.string b)).run Try.prog w = .ok (.bool r) w := by
  have h2 : (a.toList == b.toList) = !r := h
  go_simp
theorem grow_not {sz : Int} {q : ZP} {y : Ev} (h : keyZ y.key q.key = false ∨ y.time + sz ≤ q.s ∨ q.e ≤ y.time) : grow sz q y = q := by
  unfold grow meetP
  rw [if_neg]
  rw [Bool.and_eq_true, Bool.and_eq_true, decide_eq_true_eq, decide_eq_true_eq]
  rintro ⟨h1, h2, h3⟩
  have h2 : q.s < y.time + sz := h2
  have h3 : y.time < q.e := h3
  rcases h with h | h | h
  · rw [h1] at h; cases h
  · omega
  · omega
theorem grow_yes {sz : Int} {q : ZP} {y : Ev} (h1 : keyZ y.key q.key = true) (h2 : ¬ y.time + sz ≤ q.s) (h3 : ¬ q.e ≤ y.time) : grow sz q y = ⟨q.key, min q.s y.time, max q.e (y.time + sz)⟩ := by
  unfold grow meetP
  rw [if_pos (by rw [Bool.and_eq_true, Bool.and_eq_true, decide_eq_true_eq, decide_eq_true_eq]; exact ⟨h1, by show q.s < y.time + sz; omega, by show y.time < q.e; omega⟩)]
  rfl
theorem growL_take {sz : Int} {p : ZP} {l : List Ev} {k : Nat} {y : Ev} (h : l[k]? = some y) : growL sz p (l.take (k + 1)) = grow sz (growL sz p (l.take k)) y := by
  obtain ⟨h1, h2⟩ := List.getElem?_eq_some_iff.1 h
  rw [List.take_succ_eq_append_getElem h1, h2, growL_snoc]
/-- Near enough for sums of the machine. -/
def NearP (p : ZP) : Prop := -8796093022208 ≤ p.s ∧ p.e ≤ 8796093022208
/-- What a round keeps: p where it began, q where it is. -/
structure SesR (W4 : World) (bx : Nat) (sz : Int) (l : List Ev) (p q : ZP) (k : Nat) (ag : Bool) (w : World) : Prop where
  eq : q = growL sz p (l.take k)
  near : NearP q
  row : w.heap[bx]? = some (.cells #[.int .i64 q.s, .int .i64 q.e] 84 (0, 0))
  bel : Below bx W4 w
  no : ag = false → q.s = p.s ∧ q.e = p.e
  yes : ag = true → p.e - p.s < q.e - q.s
/-- How much wider it may become. -/
def sesM (bx : Nat) (a : Value) (w : World) : Nat := match a, w.cell? ⟨bx, 0, none⟩, w.cell? ⟨bx, 1, none⟩ with | .bool true, some s, some e => 1 + (17592186044416 - (intOf e - intOf s)).toNat | _, _, _ => 0
theorem sesM_true {bx : Nat} {w : World} {s e : Int} (h : w.heap[bx]? = some (.cells #[.int .i64 s, .int .i64 e] 84 (0, 0))) : sesM bx (.bool true) w = 1 + (17592186044416 - (e - s)).toNat := by
  have h0 : w.cell? ⟨bx, 0, none⟩ = some (.int .i64 s) := (zrow h) 0 _ rfl
  have h1 : w.cell? ⟨bx, 1, none⟩ = some (.int .i64 e) := (zrow h) 1 _ rfl
  unfold sesM
  rw [h0, h1]; rfl
theorem sesM_false {bx : Nat} {w : World} : sesM bx (.bool false) w = 0 := by unfold sesM; rfl
theorem evslr {w : World} {B n cap : Nat} {A : Option Addr} {l : List Ev} (h : OwnE w B A n cap l) (k : Nat) (x : Ev) (hx : l[k]? = some x) : ∃ g, A = some ⟨g, 0, none⟩ ∧ g < w.heap.size ∧ w.rangeAt g (k * 5) x.cells := by
  obtain ⟨g, off, e, hg, hr⟩ := ev_range h.at k x hx
  rcases h.2 with ⟨e0, e1⟩ | ⟨g', cap', cur, e0, -⟩
  · injection e0 with e0; rw [e0] at e; cases e
  · injection e0 with e0
    rw [e0] at e
    injection e with e; injection e with e1 e2
    subst e2; subst e1
    rw [Nat.zero_add] at hr
    exact ⟨g', e0, hg, hr⟩
/-- What session ends with. -/
def SesEnds (W : World) (sz : Int) (l : List Ev) (x : Ev) (e : Ending) (w' : World) : Prop := ∃ p : ZP, e = .returned (.agg #[.int .i64 p.s, .int .i64 p.e]) ∧ SesP sz l x p ∧ NearP p ∧ Below W.heap.size W w'
set_option maxHeartbeats 8000000 in
theorem rses_any (c : Cf) (h : c.Ok) (al : Option Addr) (nl cl : Nat) (l : List Ev) (hl : EvFit l) (x : Ev) (hxl : x ∈ l) (W : World) (B : Nat) (HA : Hid (OwnE W B al nl cl l)) :
    Calls Try.prog 92 #[c.v, .slice al nl cl, .agg #[.int .u64 (x.off : Int), .int .i64 x.part, .int .i64 x.time, .string x.key, .float .f64 x.val]] W (SesEnds W c.size l x) := by
  have HN : Hid (nl = l.length) := Lib.hid (by have := HA.out.1; rw [evs_length] at this; omega)
  have s1 := h.size1
  have s2 := h.size2
  have HFIT := Lib.hid hl
  have HXL := Lib.hid hxl
  have hxt := hl.time x hxl
  have hx1 := hxt.1
  have hx2 := hxt.2
  have hxw : IntKind.i64.wrap (x.time + c.size) = x.time + c.size := IntWalk.i64_in _ (by omega)
  clear h hl hxl hxt
  go_enter Try.func92, Try.ntmps92
  go_upto_region 2 with (first
    | (refine wpList_store_row rfl 84 (.tmp 7) (.tmp 18) rfl _ #[.int .i64 x.time, .int .i64 (x.time + c.size)] rfl rfl _ _ (heap_alloc_new _ _) (by kernel_rfl) rfl (by simp [Value.oneCell']) ?_; rw [World.setRow_alloc_new]))
  obtain ⟨W4, hW4⟩ : ∃ q, q = (((W.alloc (.cells #[.int .u8 (c.kind : Int), .int .i64 c.size, .int .i64 c.step, .int .i64 c.late, .int .i64 c.skew, .int .i64 c.parts, .int .u64 (c.cut : Int)] 64)).alloc (.cells #[.int .u64 (x.off : Int), .int .i64 x.part, .int .i64 x.time, .string x.key, .float .f64 x.val] 76)).alloc (.cells #[.int .i64 0, .int .i64 0] 84)).alloc (.cells #[.int .i64 x.time, .int .i64 (x.time + c.size)] 84) := ⟨_, rfl⟩
  rw [← hW4]
  obtain ⟨bc, hbc⟩ : ∃ q, q = W.heap.size := ⟨_, rfl⟩
  obtain ⟨be, hbe⟩ : ∃ q, q = W.heap.size + 1 := ⟨_, rfl⟩
  obtain ⟨br, hbr⟩ : ∃ q, q = W.heap.size + 1 + 1 := ⟨_, rfl⟩
  obtain ⟨bx, hbx⟩ : ∃ q, q = W.heap.size + 1 + 1 + 1 := ⟨_, rfl⟩
  have HRC4 : Hid (W4.rangeAt bc 0 [.int .u8 (c.kind : Int), .int .i64 c.size, .int .i64 c.step, .int .i64 c.late, .int .i64 c.skew, .int .i64 c.parts, .int .u64 (c.cut : Int)]) := Lib.hid (zrow (T := 64) (fr := (0, 0)) (by rw [hW4, hbc]; exact row_alloc' (row_alloc' (row_alloc' (heap_new W _) _) _) _))
  have HRE4 : Hid (W4.rangeAt be 0 [.int .u64 (x.off : Int), .int .i64 x.part, .int .i64 x.time, .string x.key, .float .f64 x.val]) := Lib.hid (zrow (T := 76) (fr := (0, 0)) (by rw [hW4, hbe]; exact row_alloc' (row_alloc' (zheap_new' _ _ _ (by simp)) _) _))
  have HRR4 : Hid (W4.heap[br]? = some (.cells #[.int .i64 0, .int .i64 0] 84 (0, 0))) := Lib.hid (by rw [hW4, hbr]; exact row_alloc' (zheap_new' _ _ _ (by simp)) _)
  have HRX4 : Hid (W4.heap[bx]? = some (.cells #[.int .i64 x.time, .int .i64 (x.time + c.size)] 84 (0, 0))) := Lib.hid (by rw [hW4, hbx]; exact zheap_new' _ _ _ (by simp))
  have HW4 : Hid (Below W.heap.size W W4) := Lib.hid (by rw [hW4]; exact ((((Below.refl _ _).alloc (Nat.le_refl _) _).alloc (by simp) _).alloc (by simp; omega) _).alloc (by simp; omega) _)
  have HBS : Hid (W.heap.size = bc ∧ bc < bx ∧ be < bx ∧ br < bx ∧ bx < W4.heap.size ∧ W.heap.size ≤ br) := Lib.hid (by rw [hW4, hbc, hbe, hbr, hbx]; simp; omega)
  have HST : Hid (SesP c.size l x (own1 c.size x) ∨ True) := Lib.hid (.inr trivial)
  rw [← hbx, ← hbr, ← hbe, ← hbc]
  clear hW4 hbc hbe hbr hbx HST
  have HNE : Hid (bc ≠ bx) := Lib.hid (by have := HBS.out; omega)
  go_wp2
  go_loopw [8] (fun a wr => ∃ (p : ZP) (ag : Bool), a = .bool ag ∧ SesW c.size l x p ∧ NearP p ∧ (ag = false → Shut c.size l p) ∧ wr.heap[bx]? = some (.cells #[.int .i64 p.s, .int .i64 p.e] 84 (0, 0)) ∧ Below bx W4 wr) (fun a w => sesM bx a w)
  case atStart => exact ⟨own1 c.size x, true, rfl, SesW.start x HXL.out, ⟨by show -8796093022208 ≤ x.time; omega, by show x.time + c.size ≤ 8796093022208; omega⟩, (fun h => by cases h), HRX4.out, Below.refl _ _⟩
  case round =>
    obtain ⟨p, ag, rfl, hsw, hnp, hsh, hrow, hb⟩ := hrel
    have HSW := Lib.hid hsw; have HNP := Lib.hid hnp; have HSH := Lib.hid hsh; have HROW := Lib.hid hrow; have HB := Lib.hid hb
    clear hsw hnp hsh hrow hb
    obtain ⟨wo, hwo⟩ : ∃ q, q = wr := ⟨_, rfl⟩
    subst hwo
    rcases ag with _ | _
    · go_wp2_with (first
        | (refine wpList_load_row rfl 84 (.tmp 7) rfl bx rfl _ #[.int .i64 p.s, .int .i64 p.e] (0, 0) _ HROW.out uWn rfl (by kernel_rfl) ?_)
        | (refine wpList_store_row rfl 84 (.tmp 6) (.tmp 72) rfl br #[.int .i64 p.s, .int .i64 p.e] rfl rfl _ _ ((HB.out.block br HBS.out.2.2.2.1).trans HRR4.out) (by kernel_rfl) rfl (by simp [Value.oneCell']) ?_))
      exact post_row 6 84 Try.results92 rfl br 84 _ (0, 0) _ rfl (setRow_heap _ _ _ _ _ _ ((HB.out.block br HBS.out.2.2.2.1).trans HRR4.out)) uWn rfl (by kernel_rfl) ⟨p, rfl, ⟨HSW.out.tight, HSH.out (by first | rfl | trivial), HSW.out.key, HSW.out.s, HSW.out.e⟩, HNP.out, below_setRow (HW4.out.trans (HB.out.mono (by have := HBS.out; omega))) HBS.out.2.2.2.2.2 _⟩
    · go_wp2
      go_loopw [8, 9] (fun a i w2 => ∃ (k : Nat) (q : ZP) (ag : Bool), k ≤ nl ∧ i = .int .i64 k ∧ a = .bool ag ∧ SesR W4 bx c.size l p q k ag w2) (fun _ i _ => nl - (intOf i).toNat)
      case atStart => exact ⟨0, p, false, Nat.zero_le _, rfl, rfl, ⟨rfl, HNP.out, HROW.out, HB.out, (fun _ => ⟨rfl, rfl⟩), (fun h => by cases h)⟩⟩
      case round =>
        obtain ⟨k, q, ag, hk, rfl, rfl, hsr⟩ := hrel
        have HSR := Lib.hid hsr
        clear hsr
        by_cases hin : k < nl
        · obtain ⟨y, hy⟩ : ∃ y, l[k]? = some y := ⟨l[k]'(by have := HN.out; omega), List.getElem?_eq_getElem _⟩
          have hyt := HFIT.out.time y (List.mem_of_getElem? hy)
          have hy1 := hyt.1
          have hy2 := hyt.2
          obtain ⟨te, hte⟩ : ∃ te, te = y.time + c.size := ⟨_, rfl⟩
          have HTE := Lib.hid hte
          have hadd : ∀ w, (binOp .add 2 (.int .i64 y.time) (.int .i64 c.size)).run Try.prog w = .ok (.int .i64 te) w := fun w => by rw [hte]; exact b_addI (by omega) (by omega) w
          have hwr : IntKind.i64.wrap (y.time + c.size) = te := by rw [hte]; exact IntWalk.i64_in _ (by omega)
          have ht1 : te ≤ 8796093022208 := by omega
          have ht2 : y.time < te := by omega
          have HGT := Lib.hid (growL_take (sz := c.size) (p := p) hy)
          rw [← HSR.out.eq] at HGT
          have HQK : Hid (q.key = x.key) := Lib.hid (by rw [HSR.out.eq]; exact (growL_in _ _ _).1.trans HSW.out.key)
          have HBW : Hid (Below W.heap.size W wr) := Lib.hid (HW4.out.trans (HSR.out.bel.mono (by have := HBS.out; omega)))
          obtain ⟨gl, hal, hgl, hry⟩ := evslr HA.out k y hy
          subst hal
          have HRY : Hid (wr.rangeAt gl (k * 5) [.int .u64 (y.off : Int), .int .i64 y.part, .int .i64 y.time, .string y.key, .float .f64 y.val]) := Lib.hid (zkeep hry hgl HBW.out)
          have HGL : Hid (gl < wr.heap.size) := Lib.hid (Nat.lt_of_lt_of_le hgl HBW.out.size)
          have HSZ : Hid (W4.heap.size ≤ wr.heap.size) := Lib.hid HSR.out.bel.size
          have HRC : Hid (wr.rangeAt bc 0 [.int .u8 (c.kind : Int), .int .i64 c.size, .int .i64 c.step, .int .i64 c.late, .int .i64 c.skew, .int .i64 c.parts, .int .u64 (c.cut : Int)]) := Lib.hid (zkeep HRC4.out HBS.out.2.1 HSR.out.bel)
          have HRE : Hid (wr.rangeAt be 0 [.int .u64 (x.off : Int), .int .i64 x.part, .int .i64 x.time, .string x.key, .float .f64 x.val]) := Lib.hid (zkeep HRE4.out HBS.out.2.2.1 HSR.out.bel)
          have HRQ : Hid (wr.rangeAt bx 0 [.int .i64 q.s, .int .i64 q.e]) := Lib.hid (zrow HSR.out.row)
          have HGX : Hid (bx < wr.heap.size) := Lib.hid (by have := HSZ.out; have := HBS.out; omega)
          have HGC : Hid (bc < wr.heap.size) := Lib.hid (by have := HGX.out; have := HBS.out; omega)
          have HGE : Hid (be < wr.heap.size) := Lib.hid (by have := HGX.out; have := HBS.out; omega)
          have HFW : Hid (wr.cell? ⟨bc, 1, none⟩ = some (.int .i64 c.size)) := Lib.hid (HRC.out 1 _ rfl)
          have cy2 : wr.cell? ⟨gl, k * 5 + 2, none⟩ = some (.int .i64 y.time) := HRY.out 2 _ rfl
          have hkI : (k : Int) < (nl : Int) := by omega
          have nl60 : nl ≤ 60 := by have := HN.out; have := HFIT.out.few; omega
          have hqn := HSR.out.near
          clear hy hry hgl hyt hte hqn
          cases hA : keyZ y.key x.key
          · skip
            have hne : ∀ w, (binOp .neq 9 (.string y.key) (.string x.key)).run Try.prog w = .ok (.bool true) w := b_neK (by rw [hA]; rfl)
            have HQ2 : Hid (growL c.size p (l.take (k + 1)) = q) := Lib.hid (by rw [HGT.out, grow_not (.inl (by rw [HQK.out]; exact hA))])
            clear hA
            go_upto_region 9 with fail
            refine wp_region_held_drew (S := fun w' => Below wr.heap.size wr w') (by kernel_rfl) ((Below.refl _ wr).drew) (fun hHeld => ?_)
            refine wpAnyH_take (i := 0) (v := .slice (some ⟨gl, 0, none⟩) nl cl) rfl (by kernel_rfl) (by kernel_rfl) (by kernel_rfl) (fun _ _ _ h => h) (Or.inl ⟨by rfl, fun _ _ => rfl⟩) hHeld ?_
            try dsimp only
            try simp only [Act.put, List.getElem_toArray, List.getElem_cons_zero, List.getElem_cons_succ, List.setIfInBounds_toArray, List.set_cons_zero, List.set_cons_succ]
            refine wpAnyH_take (i := 1) (v := .int .i64 (k : Int)) rfl (by kernel_rfl) (by kernel_rfl) (by kernel_rfl) (fun _ _ _ h => h) (Or.inl ⟨by rfl, fun _ _ => rfl⟩) hHeld ?_
            try dsimp only
            try simp only [Act.put, List.getElem_toArray, List.getElem_cons_zero, List.getElem_cons_succ, List.setIfInBounds_toArray, List.set_cons_zero, List.set_cons_succ]
            refine wpAnyH_take (i := 2) (v := .pointer (some ⟨gl, k * 5, none⟩)) rfl (by kernel_rfl) (by kernel_rfl) (by kernel_rfl) (fun _ _ _ h => h) (Or.inl ⟨by rfl, fun w _ => by go_simp⟩) hHeld ?_
            try dsimp only
            try simp only [Act.put, List.getElem_toArray, List.getElem_cons_zero, List.getElem_cons_succ, List.setIfInBounds_toArray, List.set_cons_zero, List.set_cons_succ]
            refine wpAnyH_take (i := 3) (v := .pointer (some ⟨gl, k * 5 + 3, none⟩)) rfl (by kernel_rfl) (by kernel_rfl) (by kernel_rfl) (fun _ _ _ h => h) (Or.inl ⟨by rfl, fun w _ => by go_simp⟩) hHeld ?_
            try dsimp only
            try simp only [Act.put, List.getElem_toArray, List.getElem_cons_zero, List.getElem_cons_succ, List.setIfInBounds_toArray, List.set_cons_zero, List.set_cons_succ]
            refine wpAnyH_take (i := 4) (v := .string y.key) rfl (by kernel_rfl) (by kernel_rfl) (by kernel_rfl) (fun _ _ _ h => h) (Or.inl ⟨by rfl, fun w hw => by have hr9 : w.rangeAt gl (k * 5) [.int .u64 (y.off : Int), .int .i64 y.part, .int .i64 y.time, .string y.key, .float .f64 y.val] := (zkeep HRY.out HGL.out hw); have hc : w.cell? ⟨gl, k * 5 + 3, none⟩ = some (.string y.key) := hr9 3 _ rfl; go_simp⟩) hHeld ?_
            try dsimp only
            try simp only [Act.put, List.getElem_toArray, List.getElem_cons_zero, List.getElem_cons_succ, List.setIfInBounds_toArray, List.set_cons_zero, List.set_cons_succ]
            refine wpAnyH_take (i := 5) (v := .pointer (some ⟨be, 3, none⟩)) rfl (by kernel_rfl) (by kernel_rfl) (by kernel_rfl) (fun _ _ _ h => h) (Or.inl ⟨by rfl, fun w _ => by go_simp⟩) hHeld ?_
            try dsimp only
            try simp only [Act.put, List.getElem_toArray, List.getElem_cons_zero, List.getElem_cons_succ, List.setIfInBounds_toArray, List.set_cons_zero, List.set_cons_succ]
            refine wpAnyH_take (i := 6) (v := .string x.key) rfl (by kernel_rfl) (by kernel_rfl) (by kernel_rfl) (fun _ _ _ h => h) (Or.inl ⟨by rfl, fun w hw => by have hr9 : w.rangeAt be (0) [.int .u64 (x.off : Int), .int .i64 x.part, .int .i64 x.time, .string x.key, .float .f64 x.val] := (zkeep HRE.out HGE.out hw); have hc : w.cell? ⟨be, 3, none⟩ = some (.string x.key) := (by have h9 := hr9 3 _ rfl; rw [Nat.zero_add] at h9; exact h9); go_simp⟩) hHeld ?_
            try dsimp only
            try simp only [Act.put, List.getElem_toArray, List.getElem_cons_zero, List.getElem_cons_succ, List.setIfInBounds_toArray, List.set_cons_zero, List.set_cons_succ]
            refine wpAnyH_take (i := 7) (v := .bool true) rfl (by kernel_rfl) (by kernel_rfl) (by kernel_rfl) (fun _ _ _ h => h) (yb_bin rfl .neq _ _ _ _ rfl _ _ _ rfl rfl (fun _ => rfl) hne) hHeld ?_
            try dsimp only
            try simp only [Act.put, List.getElem_toArray, List.getElem_cons_zero, List.getElem_cons_succ, List.setIfInBounds_toArray, List.set_cons_zero, List.set_cons_succ]
            refine wpAnyH_take (i := 8) (v := .bool true) rfl (by kernel_rfl) (by kernel_rfl) (by kernel_rfl) (fun _ _ _ h => h) (Or.inl ⟨by rfl, fun _ _ => rfl⟩) hHeld ?_
            try dsimp only
            try simp only [Act.put, List.getElem_toArray, List.getElem_cons_zero, List.getElem_cons_succ, List.setIfInBounds_toArray, List.set_cons_zero, List.set_cons_succ]
            refine wpAnyH_take (i := 9) (v := undef) rfl (by kernel_rfl) (by kernel_rfl) (by kernel_rfl) (fun _ _ _ h => h) (Or.inr ⟨by rfl, rfl⟩) hHeld ?_
            try dsimp only
            try simp only [Act.put, List.getElem_toArray, List.getElem_cons_zero, List.getElem_cons_succ, List.setIfInBounds_toArray, List.set_cons_zero, List.set_cons_succ]
            refine wpAnyH_take (i := 10) (v := undef) rfl (by kernel_rfl) (by kernel_rfl) (by kernel_rfl) (fun _ _ _ h => h) (Or.inr ⟨by rfl, rfl⟩) hHeld ?_
            try dsimp only
            try simp only [Act.put, List.getElem_toArray, List.getElem_cons_zero, List.getElem_cons_succ, List.setIfInBounds_toArray, List.set_cons_zero, List.set_cons_succ]
            refine wpAnyH_take (i := 11) (v := undef) rfl (by kernel_rfl) (by kernel_rfl) (by kernel_rfl) (fun _ _ _ h => h) (Or.inr ⟨by rfl, rfl⟩) hHeld ?_
            try dsimp only
            try simp only [Act.put, List.getElem_toArray, List.getElem_cons_zero, List.getElem_cons_succ, List.setIfInBounds_toArray, List.set_cons_zero, List.set_cons_succ]
            refine wpAnyH_take (i := 12) (v := undef) rfl (by kernel_rfl) (by kernel_rfl) (by kernel_rfl) (fun _ _ _ h => h) (Or.inr ⟨by rfl, rfl⟩) hHeld ?_
            try dsimp only
            try simp only [Act.put, List.getElem_toArray, List.getElem_cons_zero, List.getElem_cons_succ, List.setIfInBounds_toArray, List.set_cons_zero, List.set_cons_succ]
            refine wpAnyH_take (i := 13) (v := undef) rfl (by kernel_rfl) (by kernel_rfl) (by kernel_rfl) (fun _ _ _ h => h) (Or.inr ⟨by rfl, rfl⟩) hHeld ?_
            try dsimp only
            try simp only [Act.put, List.getElem_toArray, List.getElem_cons_zero, List.getElem_cons_succ, List.setIfInBounds_toArray, List.set_cons_zero, List.set_cons_succ]
            refine wpAnyH_take (i := 14) (v := undef) rfl (by kernel_rfl) (by kernel_rfl) (by kernel_rfl) (fun _ _ _ h => h) (Or.inr ⟨by rfl, rfl⟩) hHeld ?_
            try dsimp only
            try simp only [Act.put, List.getElem_toArray, List.getElem_cons_zero, List.getElem_cons_succ, List.setIfInBounds_toArray, List.set_cons_zero, List.set_cons_succ]
            refine wpAnyH_take (i := 15) (v := undef) rfl (by kernel_rfl) (by kernel_rfl) (by kernel_rfl) (fun _ _ _ h => h) (Or.inr ⟨by rfl, rfl⟩) hHeld ?_
            try dsimp only
            try simp only [Act.put, List.getElem_toArray, List.getElem_cons_zero, List.getElem_cons_succ, List.setIfInBounds_toArray, List.set_cons_zero, List.set_cons_succ]
            refine wpAnyH_take (i := 16) (v := .bool true) rfl (by kernel_rfl) (by kernel_rfl) (by kernel_rfl) (fun _ _ _ h => h) (Or.inl ⟨by rfl, fun w _ => by go_simp⟩) hHeld ?_
            try dsimp only
            try simp only [Act.put, List.getElem_toArray, List.getElem_cons_zero, List.getElem_cons_succ, List.setIfInBounds_toArray, List.set_cons_zero, List.set_cons_succ]
            refine wpAnyH_take (i := 17) (v := .bool true) rfl (by kernel_rfl) (by kernel_rfl) (by kernel_rfl) (fun _ _ _ h => h) (Or.inl ⟨by rfl, fun _ _ => rfl⟩) hHeld ?_
            try dsimp only
            try simp only [Act.put, List.getElem_toArray, List.getElem_cons_zero, List.getElem_cons_succ, List.setIfInBounds_toArray, List.set_cons_zero, List.set_cons_succ]
            refine wpAnyH_take (i := 18) (v := undef) rfl (by kernel_rfl) (by kernel_rfl) (by kernel_rfl) (fun _ _ _ h => h) (Or.inr ⟨by rfl, rfl⟩) hHeld ?_
            try dsimp only
            try simp only [Act.put, List.getElem_toArray, List.getElem_cons_zero, List.getElem_cons_succ, List.setIfInBounds_toArray, List.set_cons_zero, List.set_cons_succ]
            refine wpAnyH_take (i := 19) (v := undef) rfl (by kernel_rfl) (by kernel_rfl) (by kernel_rfl) (fun _ _ _ h => h) (Or.inr ⟨by rfl, rfl⟩) hHeld ?_
            try dsimp only
            try simp only [Act.put, List.getElem_toArray, List.getElem_cons_zero, List.getElem_cons_succ, List.setIfInBounds_toArray, List.set_cons_zero, List.set_cons_succ]
            refine wpAnyH_take (i := 20) (v := undef) rfl (by kernel_rfl) (by kernel_rfl) (by kernel_rfl) (fun _ _ _ h => h) (Or.inr ⟨by rfl, rfl⟩) hHeld ?_
            try dsimp only
            try simp only [Act.put, List.getElem_toArray, List.getElem_cons_zero, List.getElem_cons_succ, List.setIfInBounds_toArray, List.set_cons_zero, List.set_cons_succ]
            refine wpAnyH_take (i := 21) (v := undef) rfl (by kernel_rfl) (by kernel_rfl) (by kernel_rfl) (fun _ _ _ h => h) (Or.inr ⟨by rfl, rfl⟩) hHeld ?_
            try dsimp only
            try simp only [Act.put, List.getElem_toArray, List.getElem_cons_zero, List.getElem_cons_succ, List.setIfInBounds_toArray, List.set_cons_zero, List.set_cons_succ]
            refine wpAnyH_take (i := 22) (v := .bool true) rfl (by kernel_rfl) (by kernel_rfl) (by kernel_rfl) (fun _ _ _ h => h) (Or.inl ⟨by rfl, fun w _ => by go_simp⟩) hHeld ?_
            try dsimp only
            try simp only [Act.put, List.getElem_toArray, List.getElem_cons_zero, List.getElem_cons_succ, List.setIfInBounds_toArray, List.set_cons_zero, List.set_cons_succ]
            refine wpAnyH_done (by kernel_rfl) ?_ _
            have HBE := Lib.hid hHeld
            clear hHeld
            go_wp2
            go_roundw
            case rel => exact ⟨k + 1, q, ag, hin, by go_num, rfl, ⟨HQ2.out.symm, HSR.out.near, row_keep HSR.out.row HBE.out, HSR.out.bel.trans (HBE.out.mono (Nat.le_of_lt HGX.out)), HSR.out.no, HSR.out.yes⟩⟩
            case measure => simp [intOf]; omega
          · rcases Int.lt_or_le q.s te with hB' | hB
            rotate_left
            · skip
              have hne : ∀ w, (binOp .neq 9 (.string y.key) (.string x.key)).run Try.prog w = .ok (.bool false) w := b_neK (by rw [hA]; rfl)
              have hle : ∀ w, (binOp .leq 2 (.int .i64 te) (.int .i64 q.s)).run Try.prog w = .ok (.bool true) w := b_leqI (by simpa using hB)
              have HQ2 : Hid (growL c.size p (l.take (k + 1)) = q) := Lib.hid (by rw [HGT.out, grow_not (.inr (.inl (by rw [← HTE.out]; exact hB)))])
              clear hA hB
              go_upto_region 9 with fail
              refine wp_region_held_drew (S := fun w' => Below wr.heap.size wr w') (by kernel_rfl) ((Below.refl _ wr).drew) (fun hHeld => ?_)
              refine wpAnyH_take (i := 0) (v := .slice (some ⟨gl, 0, none⟩) nl cl) rfl (by kernel_rfl) (by kernel_rfl) (by kernel_rfl) (fun _ _ _ h => h) (Or.inl ⟨by rfl, fun _ _ => rfl⟩) hHeld ?_
              try dsimp only
              try simp only [Act.put, List.getElem_toArray, List.getElem_cons_zero, List.getElem_cons_succ, List.setIfInBounds_toArray, List.set_cons_zero, List.set_cons_succ]
              refine wpAnyH_take (i := 1) (v := .int .i64 (k : Int)) rfl (by kernel_rfl) (by kernel_rfl) (by kernel_rfl) (fun _ _ _ h => h) (Or.inl ⟨by rfl, fun _ _ => rfl⟩) hHeld ?_
              try dsimp only
              try simp only [Act.put, List.getElem_toArray, List.getElem_cons_zero, List.getElem_cons_succ, List.setIfInBounds_toArray, List.set_cons_zero, List.set_cons_succ]
              refine wpAnyH_take (i := 2) (v := .pointer (some ⟨gl, k * 5, none⟩)) rfl (by kernel_rfl) (by kernel_rfl) (by kernel_rfl) (fun _ _ _ h => h) (Or.inl ⟨by rfl, fun w _ => by go_simp⟩) hHeld ?_
              try dsimp only
              try simp only [Act.put, List.getElem_toArray, List.getElem_cons_zero, List.getElem_cons_succ, List.setIfInBounds_toArray, List.set_cons_zero, List.set_cons_succ]
              refine wpAnyH_take (i := 3) (v := .pointer (some ⟨gl, k * 5 + 3, none⟩)) rfl (by kernel_rfl) (by kernel_rfl) (by kernel_rfl) (fun _ _ _ h => h) (Or.inl ⟨by rfl, fun w _ => by go_simp⟩) hHeld ?_
              try dsimp only
              try simp only [Act.put, List.getElem_toArray, List.getElem_cons_zero, List.getElem_cons_succ, List.setIfInBounds_toArray, List.set_cons_zero, List.set_cons_succ]
              refine wpAnyH_take (i := 4) (v := .string y.key) rfl (by kernel_rfl) (by kernel_rfl) (by kernel_rfl) (fun _ _ _ h => h) (Or.inl ⟨by rfl, fun w hw => by have hr9 : w.rangeAt gl (k * 5) [.int .u64 (y.off : Int), .int .i64 y.part, .int .i64 y.time, .string y.key, .float .f64 y.val] := (zkeep HRY.out HGL.out hw); have hc : w.cell? ⟨gl, k * 5 + 3, none⟩ = some (.string y.key) := hr9 3 _ rfl; go_simp⟩) hHeld ?_
              try dsimp only
              try simp only [Act.put, List.getElem_toArray, List.getElem_cons_zero, List.getElem_cons_succ, List.setIfInBounds_toArray, List.set_cons_zero, List.set_cons_succ]
              refine wpAnyH_take (i := 5) (v := .pointer (some ⟨be, 3, none⟩)) rfl (by kernel_rfl) (by kernel_rfl) (by kernel_rfl) (fun _ _ _ h => h) (Or.inl ⟨by rfl, fun w _ => by go_simp⟩) hHeld ?_
              try dsimp only
              try simp only [Act.put, List.getElem_toArray, List.getElem_cons_zero, List.getElem_cons_succ, List.setIfInBounds_toArray, List.set_cons_zero, List.set_cons_succ]
              refine wpAnyH_take (i := 6) (v := .string x.key) rfl (by kernel_rfl) (by kernel_rfl) (by kernel_rfl) (fun _ _ _ h => h) (Or.inl ⟨by rfl, fun w hw => by have hr9 : w.rangeAt be (0) [.int .u64 (x.off : Int), .int .i64 x.part, .int .i64 x.time, .string x.key, .float .f64 x.val] := (zkeep HRE.out HGE.out hw); have hc : w.cell? ⟨be, 3, none⟩ = some (.string x.key) := (by have h9 := hr9 3 _ rfl; rw [Nat.zero_add] at h9; exact h9); go_simp⟩) hHeld ?_
              try dsimp only
              try simp only [Act.put, List.getElem_toArray, List.getElem_cons_zero, List.getElem_cons_succ, List.setIfInBounds_toArray, List.set_cons_zero, List.set_cons_succ]
              refine wpAnyH_take (i := 7) (v := .bool false) rfl (by kernel_rfl) (by kernel_rfl) (by kernel_rfl) (fun _ _ _ h => h) (yb_bin rfl .neq _ _ _ _ rfl _ _ _ rfl rfl (fun _ => rfl) hne) hHeld ?_
              try dsimp only
              try simp only [Act.put, List.getElem_toArray, List.getElem_cons_zero, List.getElem_cons_succ, List.setIfInBounds_toArray, List.set_cons_zero, List.set_cons_succ]
              refine wpAnyH_take (i := 8) (v := .bool false) rfl (by kernel_rfl) (by kernel_rfl) (by kernel_rfl) (fun _ _ _ h => h) (Or.inl ⟨by rfl, fun _ _ => rfl⟩) hHeld ?_
              try dsimp only
              try simp only [Act.put, List.getElem_toArray, List.getElem_cons_zero, List.getElem_cons_succ, List.setIfInBounds_toArray, List.set_cons_zero, List.set_cons_succ]
              refine wpAnyH_take (i := 9) (v := .int .i64 y.time) rfl (by kernel_rfl) (by kernel_rfl) (by kernel_rfl) (fun _ _ _ h => h) (Or.inl ⟨by rfl, fun _ _ => rfl⟩) hHeld ?_
              try dsimp only
              try simp only [Act.put, List.getElem_toArray, List.getElem_cons_zero, List.getElem_cons_succ, List.setIfInBounds_toArray, List.set_cons_zero, List.set_cons_succ]
              refine wpAnyH_take (i := 10) (v := .pointer (some ⟨bc, 1, none⟩)) rfl (by kernel_rfl) (by kernel_rfl) (by kernel_rfl) (fun _ _ _ h => h) (Or.inl ⟨by rfl, fun w _ => by go_simp⟩) hHeld ?_
              try dsimp only
              try simp only [Act.put, List.getElem_toArray, List.getElem_cons_zero, List.getElem_cons_succ, List.setIfInBounds_toArray, List.set_cons_zero, List.set_cons_succ]
              refine wpAnyH_take (i := 11) (v := .int .i64 c.size) rfl (by kernel_rfl) (by kernel_rfl) (by kernel_rfl) (fun _ _ _ h => h) (Or.inl ⟨by rfl, fun w hw => by have hr9 : w.rangeAt bc (0) [.int .u8 (c.kind : Int), .int .i64 c.size, .int .i64 c.step, .int .i64 c.late, .int .i64 c.skew, .int .i64 c.parts, .int .u64 (c.cut : Int)] := (zkeep HRC.out HGC.out hw); have hc : w.cell? ⟨bc, 1, none⟩ = some (.int .i64 c.size) := (by have h9 := hr9 1 _ rfl; rw [Nat.zero_add] at h9; exact h9); go_simp⟩) hHeld ?_
              try dsimp only
              try simp only [Act.put, List.getElem_toArray, List.getElem_cons_zero, List.getElem_cons_succ, List.setIfInBounds_toArray, List.set_cons_zero, List.set_cons_succ]
              refine wpAnyH_take (i := 12) (v := .int .i64 te) rfl (by kernel_rfl) (by kernel_rfl) (by kernel_rfl) (fun _ _ _ h => h) (yb_bin rfl .add _ _ _ _ rfl _ _ _ rfl rfl (fun _ => rfl) hadd) hHeld ?_
              try dsimp only
              try simp only [Act.put, List.getElem_toArray, List.getElem_cons_zero, List.getElem_cons_succ, List.setIfInBounds_toArray, List.set_cons_zero, List.set_cons_succ]
              refine wpAnyH_take (i := 13) (v := .pointer (some ⟨bx, 0, none⟩)) rfl (by kernel_rfl) (by kernel_rfl) (by kernel_rfl) (fun _ _ _ h => h) (Or.inl ⟨by rfl, fun w _ => by go_simp⟩) hHeld ?_
              try dsimp only
              try simp only [Act.put, List.getElem_toArray, List.getElem_cons_zero, List.getElem_cons_succ, List.setIfInBounds_toArray, List.set_cons_zero, List.set_cons_succ]
              refine wpAnyH_take (i := 14) (v := .int .i64 q.s) rfl (by kernel_rfl) (by kernel_rfl) (by kernel_rfl) (fun _ _ _ h => h) (Or.inl ⟨by rfl, fun w hw => by have hr9 : w.rangeAt bx (0) [.int .i64 q.s, .int .i64 q.e] := (zkeep HRQ.out HGX.out hw); have hc : w.cell? ⟨bx, 0, none⟩ = some (.int .i64 q.s) := (by have h9 := hr9 0 _ rfl; rw [Nat.zero_add] at h9; exact h9); go_simp⟩) hHeld ?_
              try dsimp only
              try simp only [Act.put, List.getElem_toArray, List.getElem_cons_zero, List.getElem_cons_succ, List.setIfInBounds_toArray, List.set_cons_zero, List.set_cons_succ]
              refine wpAnyH_take (i := 15) (v := .bool true) rfl (by kernel_rfl) (by kernel_rfl) (by kernel_rfl) (fun _ _ _ h => h) (yb_bin rfl .leq _ _ _ _ rfl _ _ _ rfl rfl (fun _ => rfl) hle) hHeld ?_
              try dsimp only
              try simp only [Act.put, List.getElem_toArray, List.getElem_cons_zero, List.getElem_cons_succ, List.setIfInBounds_toArray, List.set_cons_zero, List.set_cons_succ]
              refine wpAnyH_take (i := 16) (v := .bool true) rfl (by kernel_rfl) (by kernel_rfl) (by kernel_rfl) (fun _ _ _ h => h) (Or.inl ⟨by rfl, fun w _ => by go_simp⟩) hHeld ?_
              try dsimp only
              try simp only [Act.put, List.getElem_toArray, List.getElem_cons_zero, List.getElem_cons_succ, List.setIfInBounds_toArray, List.set_cons_zero, List.set_cons_succ]
              refine wpAnyH_take (i := 17) (v := .bool true) rfl (by kernel_rfl) (by kernel_rfl) (by kernel_rfl) (fun _ _ _ h => h) (Or.inl ⟨by rfl, fun _ _ => rfl⟩) hHeld ?_
              try dsimp only
              try simp only [Act.put, List.getElem_toArray, List.getElem_cons_zero, List.getElem_cons_succ, List.setIfInBounds_toArray, List.set_cons_zero, List.set_cons_succ]
              refine wpAnyH_take (i := 18) (v := undef) rfl (by kernel_rfl) (by kernel_rfl) (by kernel_rfl) (fun _ _ _ h => h) (Or.inr ⟨by rfl, rfl⟩) hHeld ?_
              try dsimp only
              try simp only [Act.put, List.getElem_toArray, List.getElem_cons_zero, List.getElem_cons_succ, List.setIfInBounds_toArray, List.set_cons_zero, List.set_cons_succ]
              refine wpAnyH_take (i := 19) (v := undef) rfl (by kernel_rfl) (by kernel_rfl) (by kernel_rfl) (fun _ _ _ h => h) (Or.inr ⟨by rfl, rfl⟩) hHeld ?_
              try dsimp only
              try simp only [Act.put, List.getElem_toArray, List.getElem_cons_zero, List.getElem_cons_succ, List.setIfInBounds_toArray, List.set_cons_zero, List.set_cons_succ]
              refine wpAnyH_take (i := 20) (v := undef) rfl (by kernel_rfl) (by kernel_rfl) (by kernel_rfl) (fun _ _ _ h => h) (Or.inr ⟨by rfl, rfl⟩) hHeld ?_
              try dsimp only
              try simp only [Act.put, List.getElem_toArray, List.getElem_cons_zero, List.getElem_cons_succ, List.setIfInBounds_toArray, List.set_cons_zero, List.set_cons_succ]
              refine wpAnyH_take (i := 21) (v := undef) rfl (by kernel_rfl) (by kernel_rfl) (by kernel_rfl) (fun _ _ _ h => h) (Or.inr ⟨by rfl, rfl⟩) hHeld ?_
              try dsimp only
              try simp only [Act.put, List.getElem_toArray, List.getElem_cons_zero, List.getElem_cons_succ, List.setIfInBounds_toArray, List.set_cons_zero, List.set_cons_succ]
              refine wpAnyH_take (i := 22) (v := .bool true) rfl (by kernel_rfl) (by kernel_rfl) (by kernel_rfl) (fun _ _ _ h => h) (Or.inl ⟨by rfl, fun w _ => by go_simp⟩) hHeld ?_
              try dsimp only
              try simp only [Act.put, List.getElem_toArray, List.getElem_cons_zero, List.getElem_cons_succ, List.setIfInBounds_toArray, List.set_cons_zero, List.set_cons_succ]
              refine wpAnyH_done (by kernel_rfl) ?_ _
              have HBE := Lib.hid hHeld
              clear hHeld
              go_wp2
              go_roundw
              case rel => exact ⟨k + 1, q, ag, hin, by go_num, rfl, ⟨HQ2.out.symm, HSR.out.near, row_keep HSR.out.row HBE.out, HSR.out.bel.trans (HBE.out.mono (Nat.le_of_lt HGX.out)), HSR.out.no, HSR.out.yes⟩⟩
              case measure => simp [intOf]; omega
            rcases Int.lt_or_le y.time q.e with hC' | hC
            rotate_left
            · skip
              have hB : ¬ te ≤ q.s := by omega
              have hne : ∀ w, (binOp .neq 9 (.string y.key) (.string x.key)).run Try.prog w = .ok (.bool false) w := b_neK (by rw [hA]; rfl)
              have hle : ∀ w, (binOp .leq 2 (.int .i64 te) (.int .i64 q.s)).run Try.prog w = .ok (.bool false) w := b_leqI (by simpa using hB)
              have hge : ∀ w, (binOp .geq 2 (.int .i64 y.time) (.int .i64 q.e)).run Try.prog w = .ok (.bool true) w := b_geqI (by simpa using hC)
              have HQ2 : Hid (growL c.size p (l.take (k + 1)) = q) := Lib.hid (by rw [HGT.out, grow_not (.inr (.inr hC))])
              clear hA hC
              go_upto_region 9 with fail
              refine wp_region_held_drew (S := fun w' => Below wr.heap.size wr w') (by kernel_rfl) ((Below.refl _ wr).drew) (fun hHeld => ?_)
              refine wpAnyH_take (i := 0) (v := .slice (some ⟨gl, 0, none⟩) nl cl) rfl (by kernel_rfl) (by kernel_rfl) (by kernel_rfl) (fun _ _ _ h => h) (Or.inl ⟨by rfl, fun _ _ => rfl⟩) hHeld ?_
              try dsimp only
              try simp only [Act.put, List.getElem_toArray, List.getElem_cons_zero, List.getElem_cons_succ, List.setIfInBounds_toArray, List.set_cons_zero, List.set_cons_succ]
              refine wpAnyH_take (i := 1) (v := .int .i64 (k : Int)) rfl (by kernel_rfl) (by kernel_rfl) (by kernel_rfl) (fun _ _ _ h => h) (Or.inl ⟨by rfl, fun _ _ => rfl⟩) hHeld ?_
              try dsimp only
              try simp only [Act.put, List.getElem_toArray, List.getElem_cons_zero, List.getElem_cons_succ, List.setIfInBounds_toArray, List.set_cons_zero, List.set_cons_succ]
              refine wpAnyH_take (i := 2) (v := .pointer (some ⟨gl, k * 5, none⟩)) rfl (by kernel_rfl) (by kernel_rfl) (by kernel_rfl) (fun _ _ _ h => h) (Or.inl ⟨by rfl, fun w _ => by go_simp⟩) hHeld ?_
              try dsimp only
              try simp only [Act.put, List.getElem_toArray, List.getElem_cons_zero, List.getElem_cons_succ, List.setIfInBounds_toArray, List.set_cons_zero, List.set_cons_succ]
              refine wpAnyH_take (i := 3) (v := .pointer (some ⟨gl, k * 5 + 3, none⟩)) rfl (by kernel_rfl) (by kernel_rfl) (by kernel_rfl) (fun _ _ _ h => h) (Or.inl ⟨by rfl, fun w _ => by go_simp⟩) hHeld ?_
              try dsimp only
              try simp only [Act.put, List.getElem_toArray, List.getElem_cons_zero, List.getElem_cons_succ, List.setIfInBounds_toArray, List.set_cons_zero, List.set_cons_succ]
              refine wpAnyH_take (i := 4) (v := .string y.key) rfl (by kernel_rfl) (by kernel_rfl) (by kernel_rfl) (fun _ _ _ h => h) (Or.inl ⟨by rfl, fun w hw => by have hr9 : w.rangeAt gl (k * 5) [.int .u64 (y.off : Int), .int .i64 y.part, .int .i64 y.time, .string y.key, .float .f64 y.val] := (zkeep HRY.out HGL.out hw); have hc : w.cell? ⟨gl, k * 5 + 3, none⟩ = some (.string y.key) := hr9 3 _ rfl; go_simp⟩) hHeld ?_
              try dsimp only
              try simp only [Act.put, List.getElem_toArray, List.getElem_cons_zero, List.getElem_cons_succ, List.setIfInBounds_toArray, List.set_cons_zero, List.set_cons_succ]
              refine wpAnyH_take (i := 5) (v := .pointer (some ⟨be, 3, none⟩)) rfl (by kernel_rfl) (by kernel_rfl) (by kernel_rfl) (fun _ _ _ h => h) (Or.inl ⟨by rfl, fun w _ => by go_simp⟩) hHeld ?_
              try dsimp only
              try simp only [Act.put, List.getElem_toArray, List.getElem_cons_zero, List.getElem_cons_succ, List.setIfInBounds_toArray, List.set_cons_zero, List.set_cons_succ]
              refine wpAnyH_take (i := 6) (v := .string x.key) rfl (by kernel_rfl) (by kernel_rfl) (by kernel_rfl) (fun _ _ _ h => h) (Or.inl ⟨by rfl, fun w hw => by have hr9 : w.rangeAt be (0) [.int .u64 (x.off : Int), .int .i64 x.part, .int .i64 x.time, .string x.key, .float .f64 x.val] := (zkeep HRE.out HGE.out hw); have hc : w.cell? ⟨be, 3, none⟩ = some (.string x.key) := (by have h9 := hr9 3 _ rfl; rw [Nat.zero_add] at h9; exact h9); go_simp⟩) hHeld ?_
              try dsimp only
              try simp only [Act.put, List.getElem_toArray, List.getElem_cons_zero, List.getElem_cons_succ, List.setIfInBounds_toArray, List.set_cons_zero, List.set_cons_succ]
              refine wpAnyH_take (i := 7) (v := .bool false) rfl (by kernel_rfl) (by kernel_rfl) (by kernel_rfl) (fun _ _ _ h => h) (yb_bin rfl .neq _ _ _ _ rfl _ _ _ rfl rfl (fun _ => rfl) hne) hHeld ?_
              try dsimp only
              try simp only [Act.put, List.getElem_toArray, List.getElem_cons_zero, List.getElem_cons_succ, List.setIfInBounds_toArray, List.set_cons_zero, List.set_cons_succ]
              refine wpAnyH_take (i := 8) (v := .bool false) rfl (by kernel_rfl) (by kernel_rfl) (by kernel_rfl) (fun _ _ _ h => h) (Or.inl ⟨by rfl, fun _ _ => rfl⟩) hHeld ?_
              try dsimp only
              try simp only [Act.put, List.getElem_toArray, List.getElem_cons_zero, List.getElem_cons_succ, List.setIfInBounds_toArray, List.set_cons_zero, List.set_cons_succ]
              refine wpAnyH_take (i := 9) (v := .int .i64 y.time) rfl (by kernel_rfl) (by kernel_rfl) (by kernel_rfl) (fun _ _ _ h => h) (Or.inl ⟨by rfl, fun _ _ => rfl⟩) hHeld ?_
              try dsimp only
              try simp only [Act.put, List.getElem_toArray, List.getElem_cons_zero, List.getElem_cons_succ, List.setIfInBounds_toArray, List.set_cons_zero, List.set_cons_succ]
              refine wpAnyH_take (i := 10) (v := .pointer (some ⟨bc, 1, none⟩)) rfl (by kernel_rfl) (by kernel_rfl) (by kernel_rfl) (fun _ _ _ h => h) (Or.inl ⟨by rfl, fun w _ => by go_simp⟩) hHeld ?_
              try dsimp only
              try simp only [Act.put, List.getElem_toArray, List.getElem_cons_zero, List.getElem_cons_succ, List.setIfInBounds_toArray, List.set_cons_zero, List.set_cons_succ]
              refine wpAnyH_take (i := 11) (v := .int .i64 c.size) rfl (by kernel_rfl) (by kernel_rfl) (by kernel_rfl) (fun _ _ _ h => h) (Or.inl ⟨by rfl, fun w hw => by have hr9 : w.rangeAt bc (0) [.int .u8 (c.kind : Int), .int .i64 c.size, .int .i64 c.step, .int .i64 c.late, .int .i64 c.skew, .int .i64 c.parts, .int .u64 (c.cut : Int)] := (zkeep HRC.out HGC.out hw); have hc : w.cell? ⟨bc, 1, none⟩ = some (.int .i64 c.size) := (by have h9 := hr9 1 _ rfl; rw [Nat.zero_add] at h9; exact h9); go_simp⟩) hHeld ?_
              try dsimp only
              try simp only [Act.put, List.getElem_toArray, List.getElem_cons_zero, List.getElem_cons_succ, List.setIfInBounds_toArray, List.set_cons_zero, List.set_cons_succ]
              refine wpAnyH_take (i := 12) (v := .int .i64 te) rfl (by kernel_rfl) (by kernel_rfl) (by kernel_rfl) (fun _ _ _ h => h) (yb_bin rfl .add _ _ _ _ rfl _ _ _ rfl rfl (fun _ => rfl) hadd) hHeld ?_
              try dsimp only
              try simp only [Act.put, List.getElem_toArray, List.getElem_cons_zero, List.getElem_cons_succ, List.setIfInBounds_toArray, List.set_cons_zero, List.set_cons_succ]
              refine wpAnyH_take (i := 13) (v := .pointer (some ⟨bx, 0, none⟩)) rfl (by kernel_rfl) (by kernel_rfl) (by kernel_rfl) (fun _ _ _ h => h) (Or.inl ⟨by rfl, fun w _ => by go_simp⟩) hHeld ?_
              try dsimp only
              try simp only [Act.put, List.getElem_toArray, List.getElem_cons_zero, List.getElem_cons_succ, List.setIfInBounds_toArray, List.set_cons_zero, List.set_cons_succ]
              refine wpAnyH_take (i := 14) (v := .int .i64 q.s) rfl (by kernel_rfl) (by kernel_rfl) (by kernel_rfl) (fun _ _ _ h => h) (Or.inl ⟨by rfl, fun w hw => by have hr9 : w.rangeAt bx (0) [.int .i64 q.s, .int .i64 q.e] := (zkeep HRQ.out HGX.out hw); have hc : w.cell? ⟨bx, 0, none⟩ = some (.int .i64 q.s) := (by have h9 := hr9 0 _ rfl; rw [Nat.zero_add] at h9; exact h9); go_simp⟩) hHeld ?_
              try dsimp only
              try simp only [Act.put, List.getElem_toArray, List.getElem_cons_zero, List.getElem_cons_succ, List.setIfInBounds_toArray, List.set_cons_zero, List.set_cons_succ]
              refine wpAnyH_take (i := 15) (v := .bool false) rfl (by kernel_rfl) (by kernel_rfl) (by kernel_rfl) (fun _ _ _ h => h) (yb_bin rfl .leq _ _ _ _ rfl _ _ _ rfl rfl (fun _ => rfl) hle) hHeld ?_
              try dsimp only
              try simp only [Act.put, List.getElem_toArray, List.getElem_cons_zero, List.getElem_cons_succ, List.setIfInBounds_toArray, List.set_cons_zero, List.set_cons_succ]
              refine wpAnyH_take (i := 16) (v := .bool false) rfl (by kernel_rfl) (by kernel_rfl) (by kernel_rfl) (fun _ _ _ h => h) (Or.inl ⟨by rfl, fun w _ => by go_simp⟩) hHeld ?_
              try dsimp only
              try simp only [Act.put, List.getElem_toArray, List.getElem_cons_zero, List.getElem_cons_succ, List.setIfInBounds_toArray, List.set_cons_zero, List.set_cons_succ]
              refine wpAnyH_take (i := 17) (v := .bool false) rfl (by kernel_rfl) (by kernel_rfl) (by kernel_rfl) (fun _ _ _ h => h) (Or.inl ⟨by rfl, fun _ _ => rfl⟩) hHeld ?_
              try dsimp only
              try simp only [Act.put, List.getElem_toArray, List.getElem_cons_zero, List.getElem_cons_succ, List.setIfInBounds_toArray, List.set_cons_zero, List.set_cons_succ]
              refine wpAnyH_take (i := 18) (v := .int .i64 y.time) rfl (by kernel_rfl) (by kernel_rfl) (by kernel_rfl) (fun _ _ _ h => h) (Or.inl ⟨by rfl, fun _ _ => rfl⟩) hHeld ?_
              try dsimp only
              try simp only [Act.put, List.getElem_toArray, List.getElem_cons_zero, List.getElem_cons_succ, List.setIfInBounds_toArray, List.set_cons_zero, List.set_cons_succ]
              refine wpAnyH_take (i := 19) (v := .pointer (some ⟨bx, 1, none⟩)) rfl (by kernel_rfl) (by kernel_rfl) (by kernel_rfl) (fun _ _ _ h => h) (Or.inl ⟨by rfl, fun w _ => by go_simp⟩) hHeld ?_
              try dsimp only
              try simp only [Act.put, List.getElem_toArray, List.getElem_cons_zero, List.getElem_cons_succ, List.setIfInBounds_toArray, List.set_cons_zero, List.set_cons_succ]
              refine wpAnyH_take (i := 20) (v := .int .i64 q.e) rfl (by kernel_rfl) (by kernel_rfl) (by kernel_rfl) (fun _ _ _ h => h) (Or.inl ⟨by rfl, fun w hw => by have hr9 : w.rangeAt bx (0) [.int .i64 q.s, .int .i64 q.e] := (zkeep HRQ.out HGX.out hw); have hc : w.cell? ⟨bx, 1, none⟩ = some (.int .i64 q.e) := (by have h9 := hr9 1 _ rfl; rw [Nat.zero_add] at h9; exact h9); go_simp⟩) hHeld ?_
              try dsimp only
              try simp only [Act.put, List.getElem_toArray, List.getElem_cons_zero, List.getElem_cons_succ, List.setIfInBounds_toArray, List.set_cons_zero, List.set_cons_succ]
              refine wpAnyH_take (i := 21) (v := .bool true) rfl (by kernel_rfl) (by kernel_rfl) (by kernel_rfl) (fun _ _ _ h => h) (yb_bin rfl .geq _ _ _ _ rfl _ _ _ rfl rfl (fun _ => rfl) hge) hHeld ?_
              try dsimp only
              try simp only [Act.put, List.getElem_toArray, List.getElem_cons_zero, List.getElem_cons_succ, List.setIfInBounds_toArray, List.set_cons_zero, List.set_cons_succ]
              refine wpAnyH_take (i := 22) (v := .bool true) rfl (by kernel_rfl) (by kernel_rfl) (by kernel_rfl) (fun _ _ _ h => h) (Or.inl ⟨by rfl, fun w _ => by go_simp⟩) hHeld ?_
              try dsimp only
              try simp only [Act.put, List.getElem_toArray, List.getElem_cons_zero, List.getElem_cons_succ, List.setIfInBounds_toArray, List.set_cons_zero, List.set_cons_succ]
              refine wpAnyH_done (by kernel_rfl) ?_ _
              have HBE := Lib.hid hHeld
              clear hHeld
              go_wp2
              go_roundw
              case rel => exact ⟨k + 1, q, ag, hin, by go_num, rfl, ⟨HQ2.out.symm, HSR.out.near, row_keep HSR.out.row HBE.out, HSR.out.bel.trans (HBE.out.mono (Nat.le_of_lt HGX.out)), HSR.out.no, HSR.out.yes⟩⟩
              case measure => simp [intOf]; omega
            have hB : ¬ te ≤ q.s := by omega
            have hC : ¬ q.e ≤ y.time := by omega
            clear hB' hC'
            have hne : ∀ w, (binOp .neq 9 (.string y.key) (.string x.key)).run Try.prog w = .ok (.bool false) w := b_neK (by rw [hA]; rfl)
            have hle : ∀ w, (binOp .leq 2 (.int .i64 te) (.int .i64 q.s)).run Try.prog w = .ok (.bool false) w := b_leqI (by simpa using hB)
            have hge : ∀ w, (binOp .geq 2 (.int .i64 y.time) (.int .i64 q.e)).run Try.prog w = .ok (.bool false) w := b_geqI (by simpa using hC)
            have HAA := Lib.hid hA
            have HBB := Lib.hid hB
            have HCC := Lib.hid hC
            have HAGW : Hid (p.e - p.s ≤ q.e - q.s) := Lib.hid (by have h1 := growL_in c.size (l.take k) p; rw [← HSR.out.eq] at h1; omega)
            clear hA hB hC
            go_upto_region 9 with fail
            refine wp_region_held_drew (S := fun w' => Below wr.heap.size wr w') (by kernel_rfl) ((Below.refl _ wr).drew) (fun hHeld => ?_)
            refine wpAnyH_take (i := 0) (v := .slice (some ⟨gl, 0, none⟩) nl cl) rfl (by kernel_rfl) (by kernel_rfl) (by kernel_rfl) (fun _ _ _ h => h) (Or.inl ⟨by rfl, fun _ _ => rfl⟩) hHeld ?_
            try dsimp only
            try simp only [Act.put, List.getElem_toArray, List.getElem_cons_zero, List.getElem_cons_succ, List.setIfInBounds_toArray, List.set_cons_zero, List.set_cons_succ]
            refine wpAnyH_take (i := 1) (v := .int .i64 (k : Int)) rfl (by kernel_rfl) (by kernel_rfl) (by kernel_rfl) (fun _ _ _ h => h) (Or.inl ⟨by rfl, fun _ _ => rfl⟩) hHeld ?_
            try dsimp only
            try simp only [Act.put, List.getElem_toArray, List.getElem_cons_zero, List.getElem_cons_succ, List.setIfInBounds_toArray, List.set_cons_zero, List.set_cons_succ]
            refine wpAnyH_take (i := 2) (v := .pointer (some ⟨gl, k * 5, none⟩)) rfl (by kernel_rfl) (by kernel_rfl) (by kernel_rfl) (fun _ _ _ h => h) (Or.inl ⟨by rfl, fun w _ => by go_simp⟩) hHeld ?_
            try dsimp only
            try simp only [Act.put, List.getElem_toArray, List.getElem_cons_zero, List.getElem_cons_succ, List.setIfInBounds_toArray, List.set_cons_zero, List.set_cons_succ]
            refine wpAnyH_take (i := 3) (v := .pointer (some ⟨gl, k * 5 + 3, none⟩)) rfl (by kernel_rfl) (by kernel_rfl) (by kernel_rfl) (fun _ _ _ h => h) (Or.inl ⟨by rfl, fun w _ => by go_simp⟩) hHeld ?_
            try dsimp only
            try simp only [Act.put, List.getElem_toArray, List.getElem_cons_zero, List.getElem_cons_succ, List.setIfInBounds_toArray, List.set_cons_zero, List.set_cons_succ]
            refine wpAnyH_take (i := 4) (v := .string y.key) rfl (by kernel_rfl) (by kernel_rfl) (by kernel_rfl) (fun _ _ _ h => h) (Or.inl ⟨by rfl, fun w hw => by have hr9 : w.rangeAt gl (k * 5) [.int .u64 (y.off : Int), .int .i64 y.part, .int .i64 y.time, .string y.key, .float .f64 y.val] := (zkeep HRY.out HGL.out hw); have hc : w.cell? ⟨gl, k * 5 + 3, none⟩ = some (.string y.key) := hr9 3 _ rfl; go_simp⟩) hHeld ?_
            try dsimp only
            try simp only [Act.put, List.getElem_toArray, List.getElem_cons_zero, List.getElem_cons_succ, List.setIfInBounds_toArray, List.set_cons_zero, List.set_cons_succ]
            refine wpAnyH_take (i := 5) (v := .pointer (some ⟨be, 3, none⟩)) rfl (by kernel_rfl) (by kernel_rfl) (by kernel_rfl) (fun _ _ _ h => h) (Or.inl ⟨by rfl, fun w _ => by go_simp⟩) hHeld ?_
            try dsimp only
            try simp only [Act.put, List.getElem_toArray, List.getElem_cons_zero, List.getElem_cons_succ, List.setIfInBounds_toArray, List.set_cons_zero, List.set_cons_succ]
            refine wpAnyH_take (i := 6) (v := .string x.key) rfl (by kernel_rfl) (by kernel_rfl) (by kernel_rfl) (fun _ _ _ h => h) (Or.inl ⟨by rfl, fun w hw => by have hr9 : w.rangeAt be (0) [.int .u64 (x.off : Int), .int .i64 x.part, .int .i64 x.time, .string x.key, .float .f64 x.val] := (zkeep HRE.out HGE.out hw); have hc : w.cell? ⟨be, 3, none⟩ = some (.string x.key) := (by have h9 := hr9 3 _ rfl; rw [Nat.zero_add] at h9; exact h9); go_simp⟩) hHeld ?_
            try dsimp only
            try simp only [Act.put, List.getElem_toArray, List.getElem_cons_zero, List.getElem_cons_succ, List.setIfInBounds_toArray, List.set_cons_zero, List.set_cons_succ]
            refine wpAnyH_take (i := 7) (v := .bool false) rfl (by kernel_rfl) (by kernel_rfl) (by kernel_rfl) (fun _ _ _ h => h) (yb_bin rfl .neq _ _ _ _ rfl _ _ _ rfl rfl (fun _ => rfl) hne) hHeld ?_
            try dsimp only
            try simp only [Act.put, List.getElem_toArray, List.getElem_cons_zero, List.getElem_cons_succ, List.setIfInBounds_toArray, List.set_cons_zero, List.set_cons_succ]
            refine wpAnyH_take (i := 8) (v := .bool false) rfl (by kernel_rfl) (by kernel_rfl) (by kernel_rfl) (fun _ _ _ h => h) (Or.inl ⟨by rfl, fun _ _ => rfl⟩) hHeld ?_
            try dsimp only
            try simp only [Act.put, List.getElem_toArray, List.getElem_cons_zero, List.getElem_cons_succ, List.setIfInBounds_toArray, List.set_cons_zero, List.set_cons_succ]
            refine wpAnyH_take (i := 9) (v := .int .i64 y.time) rfl (by kernel_rfl) (by kernel_rfl) (by kernel_rfl) (fun _ _ _ h => h) (Or.inl ⟨by rfl, fun _ _ => rfl⟩) hHeld ?_
            try dsimp only
            try simp only [Act.put, List.getElem_toArray, List.getElem_cons_zero, List.getElem_cons_succ, List.setIfInBounds_toArray, List.set_cons_zero, List.set_cons_succ]
            refine wpAnyH_take (i := 10) (v := .pointer (some ⟨bc, 1, none⟩)) rfl (by kernel_rfl) (by kernel_rfl) (by kernel_rfl) (fun _ _ _ h => h) (Or.inl ⟨by rfl, fun w _ => by go_simp⟩) hHeld ?_
            try dsimp only
            try simp only [Act.put, List.getElem_toArray, List.getElem_cons_zero, List.getElem_cons_succ, List.setIfInBounds_toArray, List.set_cons_zero, List.set_cons_succ]
            refine wpAnyH_take (i := 11) (v := .int .i64 c.size) rfl (by kernel_rfl) (by kernel_rfl) (by kernel_rfl) (fun _ _ _ h => h) (Or.inl ⟨by rfl, fun w hw => by have hr9 : w.rangeAt bc (0) [.int .u8 (c.kind : Int), .int .i64 c.size, .int .i64 c.step, .int .i64 c.late, .int .i64 c.skew, .int .i64 c.parts, .int .u64 (c.cut : Int)] := (zkeep HRC.out HGC.out hw); have hc : w.cell? ⟨bc, 1, none⟩ = some (.int .i64 c.size) := (by have h9 := hr9 1 _ rfl; rw [Nat.zero_add] at h9; exact h9); go_simp⟩) hHeld ?_
            try dsimp only
            try simp only [Act.put, List.getElem_toArray, List.getElem_cons_zero, List.getElem_cons_succ, List.setIfInBounds_toArray, List.set_cons_zero, List.set_cons_succ]
            refine wpAnyH_take (i := 12) (v := .int .i64 te) rfl (by kernel_rfl) (by kernel_rfl) (by kernel_rfl) (fun _ _ _ h => h) (yb_bin rfl .add _ _ _ _ rfl _ _ _ rfl rfl (fun _ => rfl) hadd) hHeld ?_
            try dsimp only
            try simp only [Act.put, List.getElem_toArray, List.getElem_cons_zero, List.getElem_cons_succ, List.setIfInBounds_toArray, List.set_cons_zero, List.set_cons_succ]
            refine wpAnyH_take (i := 13) (v := .pointer (some ⟨bx, 0, none⟩)) rfl (by kernel_rfl) (by kernel_rfl) (by kernel_rfl) (fun _ _ _ h => h) (Or.inl ⟨by rfl, fun w _ => by go_simp⟩) hHeld ?_
            try dsimp only
            try simp only [Act.put, List.getElem_toArray, List.getElem_cons_zero, List.getElem_cons_succ, List.setIfInBounds_toArray, List.set_cons_zero, List.set_cons_succ]
            refine wpAnyH_take (i := 14) (v := .int .i64 q.s) rfl (by kernel_rfl) (by kernel_rfl) (by kernel_rfl) (fun _ _ _ h => h) (Or.inl ⟨by rfl, fun w hw => by have hr9 : w.rangeAt bx (0) [.int .i64 q.s, .int .i64 q.e] := (zkeep HRQ.out HGX.out hw); have hc : w.cell? ⟨bx, 0, none⟩ = some (.int .i64 q.s) := (by have h9 := hr9 0 _ rfl; rw [Nat.zero_add] at h9; exact h9); go_simp⟩) hHeld ?_
            try dsimp only
            try simp only [Act.put, List.getElem_toArray, List.getElem_cons_zero, List.getElem_cons_succ, List.setIfInBounds_toArray, List.set_cons_zero, List.set_cons_succ]
            refine wpAnyH_take (i := 15) (v := .bool false) rfl (by kernel_rfl) (by kernel_rfl) (by kernel_rfl) (fun _ _ _ h => h) (yb_bin rfl .leq _ _ _ _ rfl _ _ _ rfl rfl (fun _ => rfl) hle) hHeld ?_
            try dsimp only
            try simp only [Act.put, List.getElem_toArray, List.getElem_cons_zero, List.getElem_cons_succ, List.setIfInBounds_toArray, List.set_cons_zero, List.set_cons_succ]
            refine wpAnyH_take (i := 16) (v := .bool false) rfl (by kernel_rfl) (by kernel_rfl) (by kernel_rfl) (fun _ _ _ h => h) (Or.inl ⟨by rfl, fun w _ => by go_simp⟩) hHeld ?_
            try dsimp only
            try simp only [Act.put, List.getElem_toArray, List.getElem_cons_zero, List.getElem_cons_succ, List.setIfInBounds_toArray, List.set_cons_zero, List.set_cons_succ]
            refine wpAnyH_take (i := 17) (v := .bool false) rfl (by kernel_rfl) (by kernel_rfl) (by kernel_rfl) (fun _ _ _ h => h) (Or.inl ⟨by rfl, fun _ _ => rfl⟩) hHeld ?_
            try dsimp only
            try simp only [Act.put, List.getElem_toArray, List.getElem_cons_zero, List.getElem_cons_succ, List.setIfInBounds_toArray, List.set_cons_zero, List.set_cons_succ]
            refine wpAnyH_take (i := 18) (v := .int .i64 y.time) rfl (by kernel_rfl) (by kernel_rfl) (by kernel_rfl) (fun _ _ _ h => h) (Or.inl ⟨by rfl, fun _ _ => rfl⟩) hHeld ?_
            try dsimp only
            try simp only [Act.put, List.getElem_toArray, List.getElem_cons_zero, List.getElem_cons_succ, List.setIfInBounds_toArray, List.set_cons_zero, List.set_cons_succ]
            refine wpAnyH_take (i := 19) (v := .pointer (some ⟨bx, 1, none⟩)) rfl (by kernel_rfl) (by kernel_rfl) (by kernel_rfl) (fun _ _ _ h => h) (Or.inl ⟨by rfl, fun w _ => by go_simp⟩) hHeld ?_
            try dsimp only
            try simp only [Act.put, List.getElem_toArray, List.getElem_cons_zero, List.getElem_cons_succ, List.setIfInBounds_toArray, List.set_cons_zero, List.set_cons_succ]
            refine wpAnyH_take (i := 20) (v := .int .i64 q.e) rfl (by kernel_rfl) (by kernel_rfl) (by kernel_rfl) (fun _ _ _ h => h) (Or.inl ⟨by rfl, fun w hw => by have hr9 : w.rangeAt bx (0) [.int .i64 q.s, .int .i64 q.e] := (zkeep HRQ.out HGX.out hw); have hc : w.cell? ⟨bx, 1, none⟩ = some (.int .i64 q.e) := (by have h9 := hr9 1 _ rfl; rw [Nat.zero_add] at h9; exact h9); go_simp⟩) hHeld ?_
            try dsimp only
            try simp only [Act.put, List.getElem_toArray, List.getElem_cons_zero, List.getElem_cons_succ, List.setIfInBounds_toArray, List.set_cons_zero, List.set_cons_succ]
            refine wpAnyH_take (i := 21) (v := .bool false) rfl (by kernel_rfl) (by kernel_rfl) (by kernel_rfl) (fun _ _ _ h => h) (yb_bin rfl .geq _ _ _ _ rfl _ _ _ rfl rfl (fun _ => rfl) hge) hHeld ?_
            try dsimp only
            try simp only [Act.put, List.getElem_toArray, List.getElem_cons_zero, List.getElem_cons_succ, List.setIfInBounds_toArray, List.set_cons_zero, List.set_cons_succ]
            refine wpAnyH_take (i := 22) (v := .bool false) rfl (by kernel_rfl) (by kernel_rfl) (by kernel_rfl) (fun _ _ _ h => h) (Or.inl ⟨by rfl, fun w _ => by go_simp⟩) hHeld ?_
            try dsimp only
            try simp only [Act.put, List.getElem_toArray, List.getElem_cons_zero, List.getElem_cons_succ, List.setIfInBounds_toArray, List.set_cons_zero, List.set_cons_succ]
            refine wpAnyH_done (by kernel_rfl) ?_ _
            obtain ⟨w6, hw6⟩ : ∃ q, q = wr.drew := ⟨_, rfl⟩
            rw [← hw6] at hHeld ⊢
            clear hw6
            have HR6 : Hid (w6.heap[bx]? = some (.cells #[.int .i64 q.s, .int .i64 q.e] 84 (0, 0))) := Lib.hid (row_keep HSR.out.row hHeld)
            have HB6 : Hid (Below bx wr w6) := Lib.hid (hHeld.mono (Nat.le_of_lt HGX.out))
            have f1 : w6.cell? ⟨bc, 1, none⟩ = some (.int .i64 c.size) := by
              have h9 := zkeep HRC.out HGC.out hHeld 1 _ rfl
              exact h9
            clear hHeld hne hle hge
            have e0 : w6.cell? ⟨bx, 0, none⟩ = some (.int .i64 q.s) := (zrow HR6.out) 0 _ rfl
            have e1 : w6.cell? ⟨bx, 1, none⟩ = some (.int .i64 q.e) := (zrow HR6.out) 1 _ rfl
            have g0 : w6.frozen? ⟨bx, 0, none⟩ = false := row_frozen HR6.out 0
            have g1 : w6.frozen? ⟨bx, 1, none⟩ = false := row_frozen HR6.out 1
            rcases Int.lt_or_le y.time q.s with hs | hs <;> rcases Int.lt_or_le q.e te with he | he
            · skip
              have HQ2 : Hid (growL c.size p (l.take (k + 1)) = (⟨q.key, y.time, te⟩ : ZP)) := Lib.hid (by
                rw [HGT.out, grow_yes (by rw [HQK.out]; exact HAA.out) (by rw [← HTE.out]; exact HBB.out) HCC.out, ← HTE.out]
                congr 1 <;> omega)
              have HNQ : Hid (NearP ⟨q.key, y.time, te⟩) := Lib.hid (by have h1 := HSR.out.near; unfold NearP at h1 ⊢; show -8796093022208 ≤ y.time ∧ te ≤ 8796093022208; omega)
              go_upto_region 13 with fail
              obtain ⟨w7, hw7⟩ : ∃ w7, w7 = w6.setCell ⟨bx, 0, none⟩ (.int .i64 y.time) := ⟨_, rfl⟩
              rw [← hw7]
              have HR7 : Hid (w7.heap[bx]? = some (.cells #[.int .i64 y.time, .int .i64 q.e] 84 (0, 0))) := Lib.hid (by rw [hw7]; exact row_set (cs := [.int .i64 q.s, .int .i64 q.e]) HR6.out 0 _)
              have HB7 : Hid (Below bx wr w7) := Lib.hid (by rw [hw7]; exact HB6.out.setCell (p := ⟨bx, 0, none⟩) (Nat.le_refl _) _)
              have f7 : w7.cell? ⟨bc, 1, none⟩ = some (.int .i64 c.size) := (HB7.out.cell (p := ⟨bc, 1, none⟩) HBS.out.2.1).trans HFW.out
              clear hw7 e0 e1 g0 g1 f1
              have e1 : w7.cell? ⟨bx, 1, none⟩ = some (.int .i64 q.e) := (zrow HR7.out) 1 _ rfl
              have g1 : w7.frozen? ⟨bx, 1, none⟩ = false := row_frozen HR7.out 1
              go_wp2
              obtain ⟨w8, hw8⟩ : ∃ w8, w8 = w7.setCell ⟨bx, 1, none⟩ (.int .i64 te) := ⟨_, rfl⟩
              try rw [← hw8]
              have HR8 : Hid (w8.heap[bx]? = some (.cells #[.int .i64 y.time, .int .i64 te] 84 (0, 0))) := Lib.hid (by rw [hw8]; exact row_set (cs := [.int .i64 y.time, .int .i64 q.e]) HR7.out 1 _)
              have HB8 : Hid (Below bx wr w8) := Lib.hid (by rw [hw8]; exact HB7.out.setCell (p := ⟨bx, 1, none⟩) (Nat.le_refl _) _)
              go_roundw
              case rel => exact ⟨k + 1, ⟨q.key, y.time, te⟩, true, hin, by go_num, rfl, ⟨HQ2.out.symm, HNQ.out, by first | exact HR8.out | (rw [← hw8]; exact HR8.out), by first | exact HSR.out.bel.trans HB8.out | (rw [← hw8]; exact HSR.out.bel.trans HB8.out), (fun h => by cases h), (fun _ => by have h1 := HAGW.out; show p.e - p.s < te - y.time; omega)⟩⟩
              case measure => simp [intOf]; omega
            · skip
              have HQ2 : Hid (growL c.size p (l.take (k + 1)) = (⟨q.key, y.time, q.e⟩ : ZP)) := Lib.hid (by
                rw [HGT.out, grow_yes (by rw [HQK.out]; exact HAA.out) (by rw [← HTE.out]; exact HBB.out) HCC.out, ← HTE.out]
                congr 1 <;> omega)
              have HNQ : Hid (NearP ⟨q.key, y.time, q.e⟩) := Lib.hid (by have h1 := HSR.out.near; unfold NearP at h1 ⊢; show -8796093022208 ≤ y.time ∧ q.e ≤ 8796093022208; omega)
              go_upto_region 13 with fail
              obtain ⟨w7, hw7⟩ : ∃ w7, w7 = w6.setCell ⟨bx, 0, none⟩ (.int .i64 y.time) := ⟨_, rfl⟩
              rw [← hw7]
              have HR7 : Hid (w7.heap[bx]? = some (.cells #[.int .i64 y.time, .int .i64 q.e] 84 (0, 0))) := Lib.hid (by rw [hw7]; exact row_set (cs := [.int .i64 q.s, .int .i64 q.e]) HR6.out 0 _)
              have HB7 : Hid (Below bx wr w7) := Lib.hid (by rw [hw7]; exact HB6.out.setCell (p := ⟨bx, 0, none⟩) (Nat.le_refl _) _)
              have f7 : w7.cell? ⟨bc, 1, none⟩ = some (.int .i64 c.size) := (HB7.out.cell (p := ⟨bc, 1, none⟩) HBS.out.2.1).trans HFW.out
              clear hw7 e0 e1 g0 g1 f1
              have e1 : w7.cell? ⟨bx, 1, none⟩ = some (.int .i64 q.e) := (zrow HR7.out) 1 _ rfl
              have g1 : w7.frozen? ⟨bx, 1, none⟩ = false := row_frozen HR7.out 1
              go_wp2
              go_roundw
              case rel => exact ⟨k + 1, ⟨q.key, y.time, q.e⟩, true, hin, by go_num, rfl, ⟨HQ2.out.symm, HNQ.out, by first | exact HR7.out | (exact HR7.out), by first | exact HSR.out.bel.trans HB7.out | (exact HSR.out.bel.trans HB7.out), (fun h => by cases h), (fun _ => by have h1 := HAGW.out; show p.e - p.s < q.e - y.time; omega)⟩⟩
              case measure => simp [intOf]; omega
            · skip
              have HQ2 : Hid (growL c.size p (l.take (k + 1)) = (⟨q.key, q.s, te⟩ : ZP)) := Lib.hid (by
                rw [HGT.out, grow_yes (by rw [HQK.out]; exact HAA.out) (by rw [← HTE.out]; exact HBB.out) HCC.out, ← HTE.out]
                congr 1 <;> omega)
              have HNQ : Hid (NearP ⟨q.key, q.s, te⟩) := Lib.hid (by have h1 := HSR.out.near; unfold NearP at h1 ⊢; show -8796093022208 ≤ q.s ∧ te ≤ 8796093022208; omega)
              go_wp2
              obtain ⟨w8, hw8⟩ : ∃ w8, w8 = w6.setCell ⟨bx, 1, none⟩ (.int .i64 te) := ⟨_, rfl⟩
              try rw [← hw8]
              have HR8 : Hid (w8.heap[bx]? = some (.cells #[.int .i64 q.s, .int .i64 te] 84 (0, 0))) := Lib.hid (by rw [hw8]; exact row_set (cs := [.int .i64 q.s, .int .i64 q.e]) HR6.out 1 _)
              have HB8 : Hid (Below bx wr w8) := Lib.hid (by rw [hw8]; exact HB6.out.setCell (p := ⟨bx, 1, none⟩) (Nat.le_refl _) _)
              go_roundw
              case rel => exact ⟨k + 1, ⟨q.key, q.s, te⟩, true, hin, by go_num, rfl, ⟨HQ2.out.symm, HNQ.out, by first | exact HR8.out | (rw [← hw8]; exact HR8.out), by first | exact HSR.out.bel.trans HB8.out | (rw [← hw8]; exact HSR.out.bel.trans HB8.out), (fun h => by cases h), (fun _ => by have h1 := HAGW.out; show p.e - p.s < te - q.s; omega)⟩⟩
              case measure => simp [intOf]; omega
            · skip
              have HQ2 : Hid (growL c.size p (l.take (k + 1)) = (⟨q.key, q.s, q.e⟩ : ZP)) := Lib.hid (by
                rw [HGT.out, grow_yes (by rw [HQK.out]; exact HAA.out) (by rw [← HTE.out]; exact HBB.out) HCC.out, ← HTE.out]
                congr 1 <;> omega)
              have HNQ : Hid (NearP ⟨q.key, q.s, q.e⟩) := Lib.hid (by have h1 := HSR.out.near; unfold NearP at h1 ⊢; show -8796093022208 ≤ q.s ∧ q.e ≤ 8796093022208; omega)
              go_wp2
              go_roundw
              case rel => exact ⟨k + 1, ⟨q.key, q.s, q.e⟩, ag, hin, by go_num, rfl, ⟨HQ2.out.symm, HNQ.out, by first | exact HR6.out | (exact HR6.out), by first | exact HSR.out.bel.trans HB6.out | (exact HSR.out.bel.trans HB6.out), HSR.out.no, HSR.out.yes⟩⟩
              case measure => simp [intOf]; omega
        · have HKE : Hid (l.take k = l) := Lib.hid (List.take_of_length_le (by have := HN.out; omega))
          have HQE : Hid (q = growL c.size p l) := Lib.hid (by have h1 := HSR.out.eq; rw [HKE.out] at h1; exact h1)
          have HSQ : Hid (SesW c.size l x q) := Lib.hid (by rw [HSR.out.eq]; exact HSW.out.round k)
          go_wp2
          go_roundw
          case rel => exact ⟨q, ag, rfl, HSQ.out, HSR.out.near, (fun h => by
            have h1 := HSR.out.no h
            have h2 : q = p := zp_eq (HSQ.out.key.trans HSW.out.key.symm) h1.1 h1.2
            have h3 := HQE.out
            rw [h2] at h3
            rw [h2]
            exact (HSW.out.done h3.symm).2.1), HSR.out.row, HSR.out.bel⟩
          case measure =>
            rw [sesM_true HROW.out]
            rcases ag with _ | _
            · rw [sesM_false]; omega
            · rw [sesM_true HSR.out.row]
              have h1 := HSR.out.yes rfl
              have h2 := HSR.out.near
              unfold NearP at h2
              omega
end Go.Proofs.Ytbimfopbilcdgaa
